import PyProof.Rows.All
import Wide.All
import OpenK.AllK
import Wide.FinOn
import PyProof.EqAt
import PyProof.EqKinds
import PyProof.TupleCall
import Open.SpecLaws
import KE.OsGo
import PySem.Challenge.RW_viewoverlap_s01_answers
import HandS.ForSpec
import HandS.Comp
import HandS.Dict
import HandS.Iter
import HandS.Walk
import HandS.Wide
import HandS.TupAny
import HandS.ClsMeth
import HandS.ExcInit
import PyProof.WalkInts
import PyProof.Rows.CallKwBuiltin
import KE.KMinKey
import HandS.SetKeys
import HandS.WordsDict
import KE.HD4
import HandS.HeadHook1
import HandS.HeadHook2
import HandS.HeadEnd
import HandS.Head2
section
set_option autoImplicit false
/-! Mathematics of the search over the specification alone: boxes as bisection leaves them. -/
namespace Ov
open VaviwBase Vaviwc

/-- the equation's box when the first free variables have the values fx, the next one the bounds lo and up -/
def narrow : Box → List Int → Int → Int → Box
  | [], _, _, _ => []
  | v :: b, fx, lo, up => if isFree v = true then
      match fx with
      | [] => ⟨v.coefficient, lo, up⟩ :: b
      | x :: r => ⟨v.coefficient, x, x⟩ :: narrow b r lo up
    else v :: narrow b fx lo up

def Low0 (b : Box) : Prop := ∀ v ∈ b, v.lower = 0
theorem Low0.tail {v : Variable} {b : Box} (h : Low0 (v :: b)) : Low0 b := fun w hw => h w (List.mem_cons_of_mem _ hw)
theorem Low0.head {v : Variable} {b : Box} (h : Low0 (v :: b)) : v.lower = 0 := h v List.mem_cons_self

def fixedSum : Box → List Int → Int
  | v :: f, x :: r => v.coefficient * x + fixedSum f r
  | _, _ => 0

theorem free_cons_t {v : Variable} {b : Box} (h : isFree v = true) : freeVariables (v :: b) = v :: freeVariables b := by
  unfold freeVariables; rw [List.filter_cons_of_pos h]
theorem free_cons_f {v : Variable} {b : Box} (h : ¬ isFree v = true) : freeVariables (v :: b) = freeVariables b := by
  unfold freeVariables; rw [List.filter_cons_of_neg h]
theorem isFree_iff {v : Variable} : isFree v = true ↔ v.lower < v.upper ∧ v.coefficient ≠ 0 := by
  unfold isFree; simp [Bool.and_eq_true]
theorem free_mem {v : Variable} {b : Box} (h : v ∈ freeVariables b) : v ∈ b ∧ isFree v = true := by
  unfold freeVariables at h; exact List.mem_filter.mp h

/-- any sum over variables that gives c * x at one value and nothing at variables that are not free -/
def sumBy (g : Variable → Int) (b : Box) : Int := b.foldr (fun v z => g v + z) 0
theorem sumBy_cons (g : Variable → Int) (v : Variable) (b : Box) : sumBy g (v :: b) = g v + sumBy g b := rfl

def headSum (g : Variable → Int) (lo up : Int) : Box → Int
  | [] => 0
  | v :: r => g ⟨v.coefficient, lo, up⟩ + sumBy g r

theorem sumBy_free (g : Variable → Int) : ∀ (b : Box), (∀ v ∈ b, ¬ isFree v = true → g v = 0) → sumBy g b = sumBy g (freeVariables b)
  | [], _ => rfl
  | v :: b, h => by
    have ih := sumBy_free g b (fun w hw => h w (List.mem_cons_of_mem _ hw))
    by_cases f : isFree v = true
    · rw [free_cons_t f, sumBy_cons, sumBy_cons, ih]
    · rw [free_cons_f f, sumBy_cons, h v List.mem_cons_self f, ih]; omega

theorem sumBy_narrow (g : Variable → Int) (hg : ∀ c x, g ⟨c, x, x⟩ = c * x) : ∀ (b : Box) (fx : List Int) (lo up : Int), (∀ v ∈ b, ¬ isFree v = true → g v = 0) → fx.length ≤ (freeVariables b).length →
    sumBy g (narrow b fx lo up) = fixedSum (freeVariables b) fx + headSum g lo up ((freeVariables b).drop fx.length)
  | [], fx, lo, up, _, h => by
    have : fx = [] := List.eq_nil_of_length_eq_zero (Nat.le_zero.mp (by simpa [freeVariables] using h))
    subst this
    rfl
  | v :: b, fx, lo, up, h0, h => by
    have h0' : ∀ w ∈ b, ¬ isFree w = true → g w = 0 := fun w hw => h0 w (List.mem_cons_of_mem _ hw)
    by_cases f : isFree v = true
    · rw [free_cons_t f] at h ⊢
      cases fx with
      | nil =>
        have e : narrow (v :: b) [] lo up = ⟨v.coefficient, lo, up⟩ :: b := by simp [narrow, f]
        rw [e, sumBy_cons, sumBy_free g b h0']
        simp [fixedSum, headSum]
      | cons x r =>
        have e : narrow (v :: b) (x :: r) lo up = ⟨v.coefficient, x, x⟩ :: narrow b r lo up := by simp [narrow, f]
        rw [e, sumBy_cons, hg, sumBy_narrow g hg b r lo up h0' (by simpa using h)]
        simp only [fixedSum, List.length_cons, List.drop_succ_cons]
        omega
    · rw [free_cons_f f] at h ⊢
      have e : narrow (v :: b) fx lo up = v :: narrow b fx lo up := by simp [narrow, f]
      rw [e, sumBy_cons, h0 v List.mem_cons_self f, sumBy_narrow g hg b fx lo up h0' h]
      omega

theorem minSum_is (b : Box) : minSum b = sumBy (fun v => min (v.coefficient * v.lower) (v.coefficient * v.upper)) b := rfl
theorem maxSum_is (b : Box) : maxSum b = sumBy (fun v => max (v.coefficient * v.lower) (v.coefficient * v.upper)) b := rfl
theorem sumAtLower_is (b : Box) : sumAtLower b = sumBy (fun v => v.coefficient * v.lower) b := rfl

def Lacks (b : Box) : Bool := b.any fun v => decide (v.upper < v.lower)
theorem lacks_narrow {lo up : Int} (hl : lo ≤ up) : ∀ (b : Box) (fx : List Int), Lacks (narrow b fx lo up) = Lacks b
  | [], _ => rfl
  | v :: b, fx => by
    by_cases f : isFree v = true
    · have fl := (isFree_iff.mp f).1
      cases fx with
      | nil =>
        have e : narrow (v :: b) [] lo up = ⟨v.coefficient, lo, up⟩ :: b := by simp [narrow, f]
        rw [e]; unfold Lacks; rw [List.any_cons, List.any_cons]
        have e1 : decide (up < lo) = false := decide_eq_false (by omega)
        have e2 : decide (v.upper < v.lower) = false := decide_eq_false (by omega)
        show (decide (up < lo) || _) = _
        rw [e1, e2]
      | cons x r =>
        have e : narrow (v :: b) (x :: r) lo up = ⟨v.coefficient, x, x⟩ :: narrow b r lo up := by simp [narrow, f]
        have ih := lacks_narrow hl b r
        rw [e]; unfold Lacks at ih ⊢; rw [List.any_cons, List.any_cons, ih]
        have e1 : decide (x < x) = false := decide_eq_false (by omega)
        have e2 : decide (v.upper < v.lower) = false := decide_eq_false (by omega)
        show (decide (x < x) || _) = _
        rw [e1, e2]
    · have e : narrow (v :: b) fx lo up = v :: narrow b fx lo up := by simp [narrow, f]
      have ih := lacks_narrow hl b fx
      rw [e]; unfold Lacks at ih ⊢; rw [List.any_cons, List.any_cons, ih]

/-- the free variables behind bisection -/
def restFree (lo up : Int) : Box → Box
  | [] => []
  | v :: r => ⟨v.coefficient, lo, up⟩ :: r
theorem free_narrow : ∀ (b : Box) (fx : List Int) (lo up : Int), fx.length ≤ (freeVariables b).length → (fx.length < (freeVariables b).length → lo < up) →
    freeVariables (narrow b fx lo up) = restFree lo up ((freeVariables b).drop fx.length)
  | [], fx, lo, up, h, _ => by
    simp [narrow, freeVariables, restFree]
  | v :: b, fx, lo, up, h, hl => by
    by_cases f : isFree v = true
    · rw [free_cons_t f] at h hl ⊢
      cases fx with
      | nil =>
        have e : narrow (v :: b) [] lo up = ⟨v.coefficient, lo, up⟩ :: b := by simp [narrow, f]
        have f2 : isFree ⟨v.coefficient, lo, up⟩ = true := isFree_iff.mpr ⟨hl (by simp), (isFree_iff.mp f).2⟩
        rw [e, free_cons_t f2]
        rfl
      | cons x r =>
        have e : narrow (v :: b) (x :: r) lo up = ⟨v.coefficient, x, x⟩ :: narrow b r lo up := by simp [narrow, f]
        have nf : ¬ isFree ⟨v.coefficient, x, x⟩ = true := fun q => by
          have := (isFree_iff.mp q).1
          exact absurd this (Int.lt_irrefl x)
        rw [e, free_cons_f nf, free_narrow b r lo up (by simpa using h) (fun q => hl (by simpa using q))]
        simp
    · rw [free_cons_f f] at h hl ⊢
      have e : narrow (v :: b) fx lo up = v :: narrow b fx lo up := by simp [narrow, f]
      rw [e, free_cons_f f, free_narrow b fx lo up h hl]

theorem bisect_narrow : ∀ (b : Box) (fx : List Int) (lo up : Int), fx.length < (freeVariables b).length → lo < up →
    bisect (narrow b fx lo up) = some (narrow b fx lo ((lo + up) / 2), narrow b fx ((lo + up) / 2 + 1) up)
  | [], fx, lo, up, h, _ => by simp [freeVariables] at h
  | v :: b, fx, lo, up, h, hl => by
    by_cases f : isFree v = true
    · rw [free_cons_t f] at h
      cases fx with
      | nil =>
        have e : ∀ lo up, narrow (v :: b) [] lo up = ⟨v.coefficient, lo, up⟩ :: b := fun lo up => by simp [narrow, f]
        have f2 : isFree ⟨v.coefficient, lo, up⟩ = true := isFree_iff.mpr ⟨hl, (isFree_iff.mp f).2⟩
        rw [e, e, e]
        simp [bisect, f2]
      | cons x r =>
        have e : ∀ lo up, narrow (v :: b) (x :: r) lo up = ⟨v.coefficient, x, x⟩ :: narrow b r lo up := fun lo up => by simp [narrow, f]
        have nf : isFree ⟨v.coefficient, x, x⟩ = false := by
          cases q : isFree ⟨v.coefficient, x, x⟩ with
          | false => rfl
          | true => exact absurd (isFree_iff.mp q).1 (Int.lt_irrefl x)
        rw [e, e, e, bisect, if_neg (by rw [nf]; exact Bool.false_ne_true), bisect_narrow b r lo up (by simpa using h) hl]
        rfl
    · rw [free_cons_f f] at h
      have e : ∀ lo up, narrow (v :: b) fx lo up = v :: narrow b fx lo up := fun lo up => by simp [narrow, f]
      rw [e, e, e, bisect, if_neg f, bisect_narrow b fx lo up h hl]
      rfl
theorem bisect_none : ∀ (b : Box), freeVariables b = [] → bisect b = none
  | [], _ => rfl
  | v :: b, h => by
    by_cases f : isFree v = true
    · rw [free_cons_t f] at h; cases h
    · rw [free_cons_f f] at h
      rw [bisect, if_neg f, bisect_none b h]; rfl

/-- the bounds of the first free variable that no bisection has met -/
def headUp : Box → Int
  | [] => 0
  | v :: _ => v.upper
theorem narrow_whole : ∀ (b : Box), Low0 b → narrow b [] 0 (headUp (freeVariables b)) = b
  | [], _ => rfl
  | v :: b, h => by
    by_cases f : isFree v = true
    · rw [free_cons_t f]
      have e : ∀ lo up, narrow (v :: b) [] lo up = ⟨v.coefficient, lo, up⟩ :: b := fun lo up => by simp [narrow, f]
      rw [e]
      show (⟨v.coefficient, 0, v.upper⟩ : Variable) :: b = v :: b
      have := h.head
      cases v; dsimp only at this ⊢; rw [this]
    · rw [free_cons_f f]
      have e : ∀ lo up, narrow (v :: b) [] lo up = v :: narrow b [] lo up := fun lo up => by simp [narrow, f]
      rw [e, narrow_whole b h.tail]
theorem narrow_fix (x : Int) : ∀ (b : Box) (fx : List Int), Low0 b → fx.length < (freeVariables b).length →
    narrow b fx x x = narrow b (fx ++ [x]) 0 (headUp ((freeVariables b).drop (fx.length + 1)))
  | [], fx, _, h => by simp [freeVariables] at h
  | v :: b, fx, h0, h => by
    by_cases f : isFree v = true
    · rw [free_cons_t f] at h ⊢
      cases fx with
      | nil =>
        have e : ∀ lo up, narrow (v :: b) [] lo up = ⟨v.coefficient, lo, up⟩ :: b := fun lo up => by simp [narrow, f]
        have e2 : ∀ lo up, narrow (v :: b) [x] lo up = ⟨v.coefficient, x, x⟩ :: narrow b [] lo up := fun lo up => by simp [narrow, f]
        rw [e, List.nil_append, e2]
        simp only [List.length_nil, Nat.zero_add, List.drop_succ_cons, List.drop_zero]
        rw [narrow_whole b h0.tail]
      | cons y r =>
        have e : ∀ s lo up, narrow (v :: b) (y :: s) lo up = ⟨v.coefficient, y, y⟩ :: narrow b s lo up := fun s lo up => by simp [narrow, f]
        rw [e, List.cons_append, e, narrow_fix x b r h0.tail (by simpa using h)]
        simp only [List.length_cons, List.drop_succ_cons]
    · rw [free_cons_f f] at h ⊢
      have e : ∀ s lo up, narrow (v :: b) s lo up = v :: narrow b s lo up := fun s lo up => by simp [narrow, f]
      rw [e, e, narrow_fix x b fx h0.tail h]

/-- the values of all variables for those of the free ones -/
def spread : Box → List Int → List Int
  | [], _ => []
  | v :: b, l => if isFree v = true then l.headD 0 :: spread b l.tail else 0 :: spread b l
theorem assign_low : ∀ (b : Box) (l : List Int), Low0 b → assignFree b l = spread b l
  | [], _, _ => rfl
  | v :: b, l, h => by
    unfold assignFree spread
    by_cases f : isFree v = true
    · rw [if_pos f, if_pos f, assign_low b _ h.tail, h.head, Int.zero_add]
    · rw [if_neg f, if_neg f, assign_low b _ h.tail, h.head]
theorem assign_narrow : ∀ (b : Box) (fx : List Int) (lo up : Int) (l : List Int), Low0 b → fx.length < (freeVariables b).length → lo < up →
    assignFree (narrow b fx lo up) l = spread b (fx ++ (lo + l.headD 0) :: l.tail)
  | [], fx, _, _, _, _, h, _ => by simp [freeVariables] at h
  | v :: b, fx, lo, up, l, h0, h, hl => by
    by_cases f : isFree v = true
    · rw [free_cons_t f] at h
      cases fx with
      | nil =>
        have e : ∀ lo up, narrow (v :: b) [] lo up = ⟨v.coefficient, lo, up⟩ :: b := fun lo up => by simp [narrow, f]
        have f2 : isFree ⟨v.coefficient, lo, up⟩ = true := isFree_iff.mpr ⟨hl, (isFree_iff.mp f).2⟩
        rw [e, assignFree, if_pos f2, assign_low b _ h0.tail, spread, if_pos f]
        rfl
      | cons x r =>
        have e : ∀ lo up, narrow (v :: b) (x :: r) lo up = ⟨v.coefficient, x, x⟩ :: narrow b r lo up := fun lo up => by simp [narrow, f]
        have nf : ¬ isFree ⟨v.coefficient, x, x⟩ = true := fun q => absurd (isFree_iff.mp q).1 (Int.lt_irrefl x)
        rw [e, assignFree, if_neg nf, assign_narrow b r lo up l h0.tail (by simpa using h) hl, spread, if_pos f]
        rfl
    · rw [free_cons_f f] at h
      have e : ∀ lo up, narrow (v :: b) fx lo up = v :: narrow b fx lo up := fun lo up => by simp [narrow, f]
      rw [e, assignFree, if_neg f, assign_narrow b fx lo up l h0.tail h hl, spread, if_neg f, h0.head]
theorem assign_narrow_all : ∀ (b : Box) (fx : List Int) (lo up : Int), Low0 b → fx.length = (freeVariables b).length → assignFree (narrow b fx lo up) [] = spread b fx
  | [], fx, _, _, _, h => rfl
  | v :: b, fx, lo, up, h0, h => by
    by_cases f : isFree v = true
    · rw [free_cons_t f] at h
      cases fx with
      | nil => simp at h
      | cons x r =>
        have e : ∀ lo up, narrow (v :: b) (x :: r) lo up = ⟨v.coefficient, x, x⟩ :: narrow b r lo up := fun lo up => by simp [narrow, f]
        have nf : ¬ isFree ⟨v.coefficient, x, x⟩ = true := fun q => absurd (isFree_iff.mp q).1 (Int.lt_irrefl x)
        rw [e, assignFree, if_neg nf, assign_narrow_all b r lo up h0.tail (by simpa using h), spread, if_pos f]
        rfl
    · rw [free_cons_f f] at h
      have e : ∀ lo up, narrow (v :: b) fx lo up = v :: narrow b fx lo up := fun lo up => by simp [narrow, f]
      rw [e, assignFree, if_neg f, assign_narrow_all b fx lo up h0.tail h, spread, if_neg f, h0.head]
end Ov
end

section
set_option autoImplicit false
/-! What is asked of a box, by numbers. -/
namespace Ov
open VaviwBase Vaviwc

/-- where bisection stands: values of the first free variables, bounds of the next one -/
structure At (b : Box) (fx : List Int) (lo up : Int) : Prop where
  len : fx.length ≤ (freeVariables b).length
  more : fx.length < (freeVariables b).length → 0 ≤ lo ∧ lo < up ∧ up ≤ headUp ((freeVariables b).drop fx.length)
  all : fx.length = (freeVariables b).length → lo = 0 ∧ up = 0
theorem At.le {b : Box} {fx : List Int} {lo up : Int} (h : At b fx lo up) : lo ≤ up := by
  rcases Nat.lt_or_eq_of_le h.len with q | q
  · have := h.more q; omega
  · have := h.all q; omega

def headCo : Box → Int
  | [] => 0
  | v :: _ => v.coefficient
theorem not_free {v : Variable} (h : ¬ isFree v = true) : v.upper ≤ v.lower ∨ v.coefficient = 0 := by
  by_cases q : v.lower < v.upper
  · by_cases c : v.coefficient = 0
    · exact .inr c
    · exact absurd (isFree_iff.mpr ⟨q, c⟩) h
  · exact .inl (by omega)
theorem lacks_false {b : Box} (h : Lacks b = false) : ∀ v ∈ b, v.lower ≤ v.upper := fun v hv => by
  have := List.any_eq_false.mp h v hv
  simp at this
  omega

theorem range_is (t : Int) {b : Box} {fx : List Int} {lo up : Int} (h0 : Low0 b) (h : At b fx lo up) :
    isOutOfRange t (narrow b fx lo up) =
      (Lacks b || (decide (t - fixedSum (freeVariables b) fx < min (headCo ((freeVariables b).drop fx.length) * lo) (headCo ((freeVariables b).drop fx.length) * up) + minSum ((freeVariables b).drop (fx.length + 1)))
        || decide (max (headCo ((freeVariables b).drop fx.length) * lo) (headCo ((freeVariables b).drop fx.length) * up) + maxSum ((freeVariables b).drop (fx.length + 1)) < t - fixedSum (freeVariables b) fx))) := by
  show (Lacks (narrow b fx lo up) || _) = _
  rw [lacks_narrow h.le]
  cases q : Lacks b with
  | true => rfl
  | false =>
    have low := lacks_false q
    have z : ∀ v ∈ b, ¬ isFree v = true → v.coefficient * v.lower = 0 ∧ v.coefficient * v.upper = 0 := fun v hv nf => by
      have e0 := h0 v hv
      have e1 := low v hv
      rcases not_free nf with e2 | e2
      · have : v.upper = 0 := by omega
        rw [e0, this]; simp
      · rw [e2]; simp
    have hd : ∀ (g : Variable → Int) (lo up : Int) (x y : Int → Int → Int → Int) , True := fun _ _ _ _ _ => trivial
    have e1 := sumBy_narrow (fun v => min (v.coefficient * v.lower) (v.coefficient * v.upper)) (fun c x => by simp) b fx lo up (fun v hv nf => by
      have := z v hv nf
      show min (v.coefficient * v.lower) (v.coefficient * v.upper) = 0
      rw [this.1, this.2]; rfl) h.len
    have e2 := sumBy_narrow (fun v => max (v.coefficient * v.lower) (v.coefficient * v.upper)) (fun c x => by simp) b fx lo up (fun v hv nf => by
      have := z v hv nf
      show max (v.coefficient * v.lower) (v.coefficient * v.upper) = 0
      rw [this.1, this.2]; rfl) h.len
    rw [minSum_is, maxSum_is, e1, e2]
    have d : (freeVariables b).drop (fx.length + 1) = ((freeVariables b).drop fx.length).tail := by simp
    rw [minSum_is, maxSum_is, d]
    cases (freeVariables b).drop fx.length with
    | nil =>
      simp only [headSum, headCo, List.tail_nil, sumBy, List.foldr_nil, Int.zero_mul]
      rw [Bool.false_or, Bool.false_or]
      congr 1
      · exact decide_eq_decide.mpr (by simp <;> omega)
      · exact decide_eq_decide.mpr (by simp <;> omega)
    | cons v r =>
      simp only [headSum, headCo, List.tail_cons]
      rw [Bool.false_or, Bool.false_or]
      congr 1
      · exact decide_eq_decide.mpr (by omega)
      · exact decide_eq_decide.mpr (by omega)

/-- the greatest common divisor of the coefficients -/
def coGcd (b : Box) : Nat := b.foldl (fun g v => Nat.gcd g v.coefficient.natAbs) 0
theorem gcd_fold_dvd : ∀ (b : Box) (g : Nat), (b.foldl (fun g v => Nat.gcd g v.coefficient.natAbs) g) ∣ g ∧ ∀ v ∈ b, (b.foldl (fun g v => Nat.gcd g v.coefficient.natAbs) g) ∣ v.coefficient.natAbs
  | [], g => ⟨Nat.dvd_refl g, fun v hv => nomatch hv⟩
  | v :: b, g => by
    rw [List.foldl_cons]
    obtain ⟨h1, h2⟩ := gcd_fold_dvd b (Nat.gcd g v.coefficient.natAbs)
    refine ⟨Nat.dvd_trans h1 (Nat.gcd_dvd_left _ _), fun w hw => ?_⟩
    rcases List.mem_cons.mp hw with e | e
    · subst e; exact Nat.dvd_trans h1 (Nat.gcd_dvd_right _ _)
    · exact h2 w e
theorem coGcd_dvd {b : Box} {v : Variable} (h : v ∈ b) : (coGcd b : Int) ∣ v.coefficient := Int.ofNat_dvd_left.2 ((gcd_fold_dvd b 0).2 v h)
theorem freeGcd_is (b : Box) : freeGcd b = coGcd (freeVariables b) := rfl
theorem coGcd_rest (lo up : Int) (f : Box) : coGcd (restFree lo up f) = coGcd f := by
  cases f with
  | nil => rfl
  | cons v r => rfl
theorem low_narrow {b : Box} {fx : List Int} {lo up : Int} (h0 : Low0 b) (h : fx.length ≤ (freeVariables b).length) :
    sumAtLower (narrow b fx lo up) = fixedSum (freeVariables b) fx + headCo ((freeVariables b).drop fx.length) * lo := by
  have e1 := sumBy_narrow (fun v => v.coefficient * v.lower) (fun c x => rfl) b fx lo up (fun v hv nf => by
      show v.coefficient * v.lower = 0
      rw [h0 v hv]; simp) h
  rw [sumAtLower_is, e1]
  have z : ∀ f : Box, (∀ v ∈ f, v.lower = 0) → sumBy (fun v => v.coefficient * v.lower) f = 0 := by
    intro f
    induction f with
    | nil => intro _; rfl
    | cons v r ih =>
      intro hf
      rw [sumBy_cons, ih (fun w hw => hf w (List.mem_cons_of_mem _ hw)), hf v List.mem_cons_self]; simp
  have q : ∀ v ∈ (freeVariables b).drop fx.length, v.lower = 0 := fun v hv => h0 v (free_mem (List.mem_of_mem_drop hv)).1
  cases e : (freeVariables b).drop fx.length with
  | nil => simp [headSum, headCo]
  | cons v r =>
    rw [e] at q
    simp only [headSum, headCo]
    rw [z r (fun w hw => q w (List.mem_cons_of_mem _ hw))]; omega

theorem emod_sub_dvd {a c g : Int} (h : g ∣ c) : (a - c) % g = a % g := by
  obtain ⟨k, rfl⟩ := h
  rw [Int.sub_mul_emod_self_left]
theorem div_is (t : Int) {b : Box} {fx : List Int} {lo up : Int} (h0 : Low0 b) (h : At b fx lo up) :
    violatesDivisibility t (narrow b fx lo up) = decide ((t - fixedSum (freeVariables b) fx) % (coGcd ((freeVariables b).drop fx.length) : Int) ≠ 0) := by
  unfold violatesDivisibility
  rw [freeGcd_is, free_narrow b fx lo up h.len (fun q => (h.more q).2.1), coGcd_rest, low_narrow h0 h.len]
  have e : t - (fixedSum (freeVariables b) fx + headCo ((freeVariables b).drop fx.length) * lo) = (t - fixedSum (freeVariables b) fx) - headCo ((freeVariables b).drop fx.length) * lo := by omega
  rw [e, emod_sub_dvd]
  cases q : (freeVariables b).drop fx.length with
  | nil => simp [headCo]
  | cons v r =>
    exact Int.dvd_trans (coGcd_dvd (b := v :: r) List.mem_cons_self) (Int.dvd_mul_right _ _)

theorem count_is {b : Box} {fx : List Int} {lo up : Int} (h : At b fx lo up) : (freeVariables (narrow b fx lo up)).length = (freeVariables b).length - fx.length := by
  rw [free_narrow b fx lo up h.len (fun q => (h.more q).2.1)]
  cases q : (freeVariables b).drop fx.length with
  | nil =>
    have := congrArg List.length q
    simp at this
    simp [restFree]; omega
  | cons v r =>
    have := congrArg List.length q
    simp at this
    simp [restFree]; omega
end Ov
end

section
set_option autoImplicit false
/-! The two-variable test by numbers. -/
namespace Ov
open VaviwBase Vaviwc

def fibs : Nat → Nat × Nat
  | 0 => (0, 1)
  | n + 1 => ((fibs n).2, (fibs n).1 + (fibs n).2)
def Enough : Nat → Nat → Nat → Prop
  | 0, _, b => b = 0
  | n + 1, a, b => b = 0 ∨ Enough n b (a % b)
theorem enough_fib : ∀ (n a b : Nat), b < a → (a < (fibs (n + 2)).1 ∨ b < (fibs (n + 1)).1) → Enough n a b
  | 0, a, b, h, q => by
    have e1 : (fibs 2).1 = 1 := rfl
    have e2 : (fibs 1).1 = 1 := rfl
    rw [e1, e2] at q
    show b = 0
    omega
  | n + 1, a, b, h, q => by
    by_cases z : b = 0
    · exact .inl z
    · refine .inr (enough_fib n b (a % b) (Nat.mod_lt _ (Nat.pos_of_ne_zero z)) ?_)
      by_cases s : b < (fibs (n + 2)).1
      · exact .inl s
      · refine .inr ?_
        have e : (fibs (n + 1 + 2)).1 = (fibs (n + 1)).1 + (fibs (n + 1)).2 := rfl
        have e3 : (fibs (n + 2)).1 = (fibs (n + 1)).2 := rfl
        have e4 : (fibs (n + 1 + 1)).1 = (fibs (n + 1)).2 := rfl
        rw [e, e4] at q
        rw [e3] at s
        have m : a % b + b ≤ a := by
          have h1 := Nat.div_add_mod a b
          have h2 : 1 ≤ a / b := Nat.div_pos (by omega) (Nat.pos_of_ne_zero z)
          have h3 : b * 1 ≤ b * (a / b) := Nat.mul_le_mul_left b h2
          omega
        omega
theorem enough_100 {a b : Nat} (hb : b ≤ 1000000000000000000) : Enough 100 a b := by
  by_cases z : b = 0
  · exact .inl z
  · refine .inr (enough_fib 99 b (a % b) (Nat.mod_lt _ (Nat.pos_of_ne_zero z)) (.inl ?_))
    have : 1000000000000000000 < (fibs (99 + 2)).1 := by decide +kernel
    omega
theorem bez_ok : ∀ (n a b : Nat), Enough n a b → (bezoutCoefficients n a b).1 * a + (bezoutCoefficients n a b).2 * b = (Nat.gcd a b : Int)
  | 0, a, b, h => by
    have : b = 0 := h
    subst this
    simp [bezoutCoefficients]
  | n + 1, a, b, h => by
    unfold bezoutCoefficients
    by_cases z : b = 0
    · subst z; simp
    · rw [if_neg z]
      have ih := bez_ok n b (a % b) (h.resolve_left z)
      have g : Nat.gcd b (a % b) = Nat.gcd a b := by rw [Nat.gcd_comm b, ← Nat.gcd_rec, Nat.gcd_comm]
      rw [g] at ih
      rw [← ih]
      have e : ((a % b : Nat) : Int) = (a : Int) - (b : Int) * ((a / b : Nat) : Int) := by
        have := Nat.div_add_mod a b
        have h2 : ((b * (a / b) + a % b : Nat) : Int) = a := by rw [this]
        rw [← h2]; push_cast; omega
      rw [e]
      dsimp only
      generalize (bezoutCoefficients n b (a % b)).1 = x
      generalize (bezoutCoefficients n b (a % b)).2 = y
      generalize ((a / b : Nat) : Int) = q
      show y * (a : Int) + (x - q * y) * b = x * b + y * (a - b * q)
      rw [Int.sub_mul, Int.mul_sub]
      have : q * y * (b : Int) = y * (b * q) := by rw [Int.mul_comm (b : Int) q, ← Int.mul_assoc, Int.mul_comm y q]
      omega

theorem mod_of {a b P : Int} (k : Int) (h : a = b + P * k) : a % P = b % P := by rw [h, Int.add_mul_emod_self_left]
theorem dvd_of_mod {a b P : Int} (h : a % P = b % P) : ∃ k, a = b + P * k := by
  have q := Int.emod_eq_emod_iff_emod_sub_eq_zero.mp h
  obtain ⟨k, hk⟩ := Int.dvd_of_emod_eq_zero q
  exact ⟨k, by omega⟩
/-- two inverses of one number are alike -/
theorem inv_uniq {u v c P : Int} (hu : (u * c) % P = 1 % P) (hv : (v * c) % P = 1 % P) : u % P = v % P := by
  obtain ⟨k, hk⟩ := dvd_of_mod hu
  obtain ⟨l, hl⟩ := dvd_of_mod hv
  -- u = u * (v c - P l) = (u c) v - P l u = v + P (k v - l u)
  refine mod_of (k * v - l * u) ?_
  have e1 : u * (v * c) = v * (u * c) := by rw [← Int.mul_assoc, Int.mul_comm u v, Int.mul_assoc]
  rw [hk, hl, Int.mul_add, Int.mul_add, Int.mul_one, Int.mul_one] at e1
  have e2 : u * (P * l) = P * (l * u) := by rw [Int.mul_comm u, Int.mul_assoc]
  have e3 : v * (P * k) = P * (k * v) := by rw [Int.mul_comm v, Int.mul_assoc]
  rw [e2, e3] at e1
  rw [Int.mul_sub]
  omega
/-- what the specification takes for the inverse is one -/
theorem bez_inv {c d : Int} (hd : d ≠ 0) (hb : d.natAbs ≤ 1000000000000000000) :
    (((bezoutCoefficients maxEuclidSteps c.natAbs d.natAbs).1 * c.sign) * (c / (Nat.gcd c.natAbs d.natAbs : Nat))) % ((d.natAbs : Int) / (Nat.gcd c.natAbs d.natAbs : Nat)) = 1 % ((d.natAbs : Int) / (Nat.gcd c.natAbs d.natAbs : Nat)) := by
  have h := bez_ok maxEuclidSteps c.natAbs d.natAbs (enough_100 hb)
  generalize bezoutCoefficients maxEuclidSteps c.natAbs d.natAbs = p at h ⊢
  have gpos : 0 < Nat.gcd c.natAbs d.natAbs := Nat.gcd_pos_of_pos_right _ (Int.natAbs_pos.mpr hd)
  have gc : (Nat.gcd c.natAbs d.natAbs : Int) ∣ c := Int.ofNat_dvd_left.2 (Nat.gcd_dvd_left _ _)
  have gd : (Nat.gcd c.natAbs d.natAbs : Int) ∣ (d.natAbs : Int) := Int.ofNat_dvd.mpr (Nat.gcd_dvd_right _ _)
  generalize Nat.gcd c.natAbs d.natAbs = g at h gpos gc gd ⊢
  obtain ⟨c', hc⟩ := gc
  obtain ⟨d', hd'⟩ := gd
  have g0 : (g : Int) ≠ 0 := by omega
  have ec : c / (g : Int) = c' := by rw [hc]; exact Int.mul_ediv_cancel_left _ g0
  have ed : (d.natAbs : Int) / (g : Int) = d' := by rw [hd']; exact Int.mul_ediv_cancel_left _ g0
  rw [ec, ed]
  have es : c.sign * c = (c.natAbs : Int) := by
    rcases Int.lt_trichotomy c 0 with q | q | q
    · rw [Int.sign_eq_neg_one_of_neg q]; omega
    · subst q; rfl
    · rw [Int.sign_eq_one_of_pos q]; omega
  refine mod_of (-p.2) ?_
  have e1 : (g : Int) * (p.1 * c.sign * c') = p.1 * c.natAbs := by
    rw [← es, hc]
    rw [Int.mul_left_comm, Int.mul_assoc p.1, Int.mul_left_comm]
  have e2 : (g : Int) * (p.1 * c.sign * c') = g * (1 + d' * -p.2) := by
    rw [e1, Int.mul_add, Int.mul_one, ← Int.mul_assoc, ← hd', Int.mul_neg, Int.mul_comm (d.natAbs : Int)]
    omega
  exact Int.eq_of_mul_eq_mul_left g0 e2
end Ov
end

section
set_option autoImplicit false
namespace Ov
open VaviwBase Vaviwc

def pStart (c lo A B : Int) : Int := max lo (if 0 < c then ceilDiv A c else ceilDiv (-B) (-c))
def pEnd (c up A B : Int) : Int := min up (if 0 < c then B / c else -A / -c)
/-- the value that the program takes: A, B what the first variable may add at least and at most; P the modulus, q the remainder -/
def pVal (s q P : Int) : Int := s + (q - s) % P

theorem sub_mul_ediv {a c l : Int} (h : c ≠ 0) : (a - c * l) / c = a / c - l := by
  have : a - c * l = a + c * (-l) := by rw [Int.mul_neg]; omega
  rw [this, Int.add_mul_ediv_left _ _ h]; omega
theorem start_is {c lo A B : Int} (hc : c ≠ 0) : max 0 (if 0 < c then ceilDiv (A - c * lo) c else ceilDiv (-(B - c * lo)) (-c)) = pStart c lo A B - lo := by
  unfold pStart ceilDiv
  by_cases p : 0 < c
  · rw [if_pos p, if_pos p]
    have : -(A - c * lo) = -A - c * (-lo) := by rw [Int.mul_neg]; omega
    rw [this, sub_mul_ediv hc]; omega
  · rw [if_neg p, if_neg p]
    have : - -(B - c * lo) = - -B - (-c) * (-lo) := by rw [Int.neg_mul_neg]; omega
    rw [this, sub_mul_ediv (by omega)]; omega
theorem end_is {c lo up A B : Int} (hc : c ≠ 0) : min (up - lo) (if 0 < c then (B - c * lo) / c else -(A - c * lo) / -c) = pEnd c up A B - lo := by
  unfold pEnd
  by_cases p : 0 < c
  · rw [if_pos p, if_pos p, sub_mul_ediv hc]; omega
  · rw [if_neg p, if_neg p]
    have : -(A - c * lo) = -A - (-c) * lo := by rw [Int.neg_mul]; omega
    rw [this, sub_mul_ediv (by omega)]; omega
theorem low_mod {a b s l P : Int} (h : a % P = (b - l) % P) : (s - l) + (a - (s - l)) % P = pVal s b P - l := by
  unfold pVal
  have : (a - (s - l)) % P = (b - s) % P := by
    obtain ⟨k, hk⟩ := dvd_of_mod h
    exact mod_of k (by omega)
  rw [this]; omega
theorem pair_is {c d lo up u R w : Int} (hc : c ≠ 0) (hd : d ≠ 0) (hb : d.natAbs ≤ 1000000000000000000) (hg : (Nat.gcd c.natAbs d.natAbs : Int) ∣ R)
    (hw : (w * (c / (Nat.gcd c.natAbs d.natAbs : Nat))) % ((d.natAbs : Int) / (Nat.gcd c.natAbs d.natAbs : Nat)) = 1 % ((d.natAbs : Int) / (Nat.gcd c.natAbs d.natAbs : Nat))) :
    leastLatticePoint c (up - lo) d u (R - c * lo) =
      (let s := pStart c lo (R - max 0 (d * u)) (R - min 0 (d * u))
       let v := pVal s (R / (Nat.gcd c.natAbs d.natAbs : Nat) * w % ((d.natAbs : Int) / (Nat.gcd c.natAbs d.natAbs : Nat))) ((d.natAbs : Int) / (Nat.gcd c.natAbs d.natAbs : Nat))
       if v ≤ pEnd c up (R - max 0 (d * u)) (R - min 0 (d * u)) then some (v - lo, (R - c * v) / d) else none) := by
  have hi := inv_uniq (bez_inv (c := c) hd hb) hw
  unfold leastLatticePoint
  dsimp only
  have eA : R - c * lo - max 0 (d * u) = (R - max 0 (d * u)) - c * lo := by omega
  have eB : R - c * lo - min 0 (d * u) = (R - min 0 (d * u)) - c * lo := by omega
  rw [eA, eB, start_is hc, end_is hc]
  generalize pStart c lo (R - max 0 (d * u)) (R - min 0 (d * u)) = s
  generalize pEnd c up (R - max 0 (d * u)) (R - min 0 (d * u)) = e
  have gc : (Nat.gcd c.natAbs d.natAbs : Int) ∣ c := Int.ofNat_dvd_left.2 (Nat.gcd_dvd_left _ _)
  have gpos : 0 < Nat.gcd c.natAbs d.natAbs := Nat.gcd_pos_of_pos_right _ (Int.natAbs_pos.mpr hd)
  generalize (bezoutCoefficients maxEuclidSteps c.natAbs d.natAbs).1 * c.sign = w1 at hi ⊢
  generalize Nat.gcd c.natAbs d.natAbs = g at *
  generalize (d.natAbs : Int) / (g : Int) = P at *
  have g0 : (g : Int) ≠ 0 := by omega
  obtain ⟨c', hc'⟩ := gc
  obtain ⟨R', hR'⟩ := hg
  have ec : c / (g : Int) = c' := by rw [hc']; exact Int.mul_ediv_cancel_left _ g0
  have eR : R / (g : Int) = R' := by rw [hR']; exact Int.mul_ediv_cancel_left _ g0
  have er : (R - c * lo) / (g : Int) = R' - c' * lo := by
    have : R - c * lo = g * (R' - c' * lo) := by rw [Int.mul_sub, ← hR', ← Int.mul_assoc, ← hc']
    rw [this]; exact Int.mul_ediv_cancel_left _ g0
  rw [er, eR]
  rw [ec] at hw
  have key : ((R' - c' * lo) * w1 % P) % P = (R' * w % P - lo) % P := by
    obtain ⟨k1, h1⟩ := dvd_of_mod hi
    obtain ⟨k2, h2⟩ := dvd_of_mod hw
    have e1 : ((R' - c' * lo) * w1 % P) % P = ((R' - c' * lo) * w1) % P := Int.emod_emod _ _
    have e2 : (R' * w % P - lo) % P = (R' * w - lo) % P := by
      have := Int.emod_add_mul_ediv (R' * w) P
      exact mod_of (-(R' * w / P)) (by rw [Int.mul_neg]; omega)
    rw [e1, e2]
    refine mod_of (R' * k1 - c' * lo * k1 - lo * k2) ?_
    rw [h1, Int.sub_mul, Int.mul_add, Int.mul_add]
    have z1 : c' * lo * w = lo * (w * c') := by rw [Int.mul_assoc, Int.mul_left_comm, Int.mul_comm c' w]
    rw [z1, h2, Int.mul_add, Int.mul_one, Int.mul_sub, Int.mul_sub]
    have z2 : R' * (P * k1) = P * (R' * k1) := Int.mul_left_comm _ _ _
    have z3 : c' * lo * (P * k1) = P * (c' * lo * k1) := Int.mul_left_comm _ _ _
    have z4 : lo * (P * k2) = P * (lo * k2) := Int.mul_left_comm _ _ _
    omega
  rw [low_mod key]
  have ev : R - c * lo - c * (pVal s (R' * w % P) P - lo) = R - c * pVal s (R' * w % P) P := by rw [Int.mul_sub]; omega
  rw [ev]
  by_cases q : pVal s (R' * w % P) P ≤ e
  · rw [if_pos q, if_pos (by omega)]
  · rw [if_neg q, if_neg (by omega)]
/-- the second value is whole -/
theorem pair_dvd {c d R w s : Int} (hd : d ≠ 0) (hg : (Nat.gcd c.natAbs d.natAbs : Int) ∣ R)
    (hw : (w * (c / (Nat.gcd c.natAbs d.natAbs : Nat))) % ((d.natAbs : Int) / (Nat.gcd c.natAbs d.natAbs : Nat)) = 1 % ((d.natAbs : Int) / (Nat.gcd c.natAbs d.natAbs : Nat))) :
    d ∣ R - c * pVal s (R / (Nat.gcd c.natAbs d.natAbs : Nat) * w % ((d.natAbs : Int) / (Nat.gcd c.natAbs d.natAbs : Nat))) ((d.natAbs : Int) / (Nat.gcd c.natAbs d.natAbs : Nat)) := by
  have gc : (Nat.gcd c.natAbs d.natAbs : Int) ∣ c := Int.ofNat_dvd_left.2 (Nat.gcd_dvd_left _ _)
  have gd : (Nat.gcd c.natAbs d.natAbs : Int) ∣ (d.natAbs : Int) := Int.ofNat_dvd.mpr (Nat.gcd_dvd_right _ _)
  have gpos : 0 < Nat.gcd c.natAbs d.natAbs := Nat.gcd_pos_of_pos_right _ (Int.natAbs_pos.mpr hd)
  refine Int.natAbs_dvd.mp ?_
  generalize Nat.gcd c.natAbs d.natAbs = g at *
  have g0 : (g : Int) ≠ 0 := by omega
  obtain ⟨c', hc'⟩ := gc
  obtain ⟨R', hR'⟩ := hg
  obtain ⟨d', hd'⟩ := gd
  have ec : c / (g : Int) = c' := by rw [hc']; exact Int.mul_ediv_cancel_left _ g0
  have eR : R / (g : Int) = R' := by rw [hR']; exact Int.mul_ediv_cancel_left _ g0
  have ed : (d.natAbs : Int) / (g : Int) = d' := by rw [hd']; exact Int.mul_ediv_cancel_left _ g0
  rw [ec, ed] at hw
  rw [eR, ed]
  obtain ⟨k2, h2⟩ := dvd_of_mod hw
  unfold pVal
  generalize hm : s + (R' * w % d' - s) % d' = v
  have e1 : v % d' = (R' * w) % d' := by
    rw [← hm]
    have a1 := Int.emod_add_mul_ediv (R' * w) d'
    have a2 := Int.emod_add_mul_ediv (R' * w % d' - s) d'
    exact mod_of (-(R' * w / d') - ((R' * w % d' - s) / d')) (by rw [Int.mul_sub, Int.mul_neg]; omega)
  obtain ⟨k1, h1⟩ := dvd_of_mod e1
  refine ⟨-(R' * k2) - c' * k1, ?_⟩
  have e2 : c' * v = R' + d' * (R' * k2 + c' * k1) := by
    rw [h1, Int.mul_add]
    have z1 : c' * (R' * w) = R' * (w * c') := by rw [Int.mul_left_comm, Int.mul_comm c' w]
    rw [z1, h2, Int.mul_add, Int.mul_one, Int.mul_add]
    have z2 : R' * (d' * k2) = d' * (R' * k2) := Int.mul_left_comm _ _ _
    have z3 : c' * (d' * k1) = d' * (c' * k1) := Int.mul_left_comm _ _ _
    omega
  rw [hR', hc', Int.mul_assoc, e2, hd', Int.mul_assoc, ← Int.mul_sub]
  congr 1
  rw [Int.mul_sub, Int.mul_neg, Int.mul_add]
  omega
end Ov
end

section
set_option autoImplicit false
/-! The search on a stack of boxes; certificates as lists. -/
namespace Ov
open VaviwBase Vaviwc

/-! ### the search -/
/-- how a search on a stack of boxes ends: with a solution, with the claims of all boxes, over the limit -/
inductive Ends where
  | found (v : List Int)
  | none_ (cl : List Int)
  | limit
def Ends.pre (l : List Int) : Ends → Ends
  | .none_ cl => .none_ (l ++ cl)
  | x => x
theorem Ends.pre_pre (l k : List Int) (x : Ends) : Ends.pre l (Ends.pre k x) = Ends.pre (l ++ k) x := by
  cases x <;> simp [Ends.pre]
theorem Ends.pre_nil (x : Ends) : Ends.pre [] x = x := by cases x <;> rfl
/-- what is left to do with a stack and so many boxes left -/
def onStack (t : Int) : List Box → Nat → Ends
  | [], _ => .none_ []
  | b :: st, n => match search t (n + 1) n b with
    | (.infeasible c, m) => Ends.pre c.encode (onStack t st m)
    | (.solution v, _) => .found v
    | (.limitExceeded, _) => .limit
theorem search_less (t : Int) : ∀ (d n : Nat) (b : Box), (search t d n b).2 ≤ n
  | 0, n, _ => Nat.le_refl n
  | d + 1, 0, _ => Nat.le_refl 0
  | d + 1, n + 1, b => by
    rw [search]
    cases solveDirectly t b with
    | some x => exact Nat.le_succ n
    | none =>
      dsimp only
      cases bisect b with
      | none => exact Nat.le_succ n
      | some p =>
        obtain ⟨x, y⟩ := p
        dsimp only
        have h1 := search_less t d n x
        rcases hx : search t d n x with ⟨r, m⟩
        rw [hx] at h1
        have h1 : m ≤ n := h1
        cases r with
        | solution v => exact Nat.le_trans h1 (Nat.le_succ n)
        | limitExceeded => exact Nat.le_trans h1 (Nat.le_succ n)
        | infeasible c =>
          dsimp only
          have h2 := search_less t d m y
          rcases hy : search t d m y with ⟨r2, m2⟩
          rw [hy] at h2
          have h2 : m2 ≤ m := h2
          cases r2 with
          | solution v => exact Nat.le_trans h2 (Nat.le_trans h1 (Nat.le_succ n))
          | limitExceeded => exact Nat.le_trans h2 (Nat.le_trans h1 (Nat.le_succ n))
          | infeasible c2 => exact Nat.le_trans h2 (Nat.le_trans h1 (Nat.le_succ n))
/-- more depth than boxes is depth enough -/
theorem search_depth (t : Int) : ∀ (d n : Nat) (b : Box), n < d → search t d n b = search t (n + 1) n b
  | 0, n, b, h => absurd h (Nat.not_lt_zero n)
  | d + 1, 0, b, _ => rfl
  | d + 1, n + 1, b, h => by
    rw [search, search]
    cases solveDirectly t b with
    | some x => rfl
    | none =>
      dsimp only
      cases bisect b with
      | none => rfl
      | some p =>
        obtain ⟨x, y⟩ := p
        dsimp only
        rw [search_depth t d n x (by omega)]
        have h1 := search_less t (n + 1) n x
        rcases hx : search t (n + 1) n x with ⟨r, m⟩
        rw [hx] at h1
        have h1 : m ≤ n := h1
        cases r with
        | solution v => rfl
        | limitExceeded => rfl
        | infeasible c =>
          dsimp only
          rw [search_depth t d m y (by omega), search_depth t (n + 1) m y (by omega)]
theorem on_zero (t : Int) (b : Box) (st : List Box) : onStack t (b :: st) 0 = .limit := rfl
theorem on_leaf (t : Int) (b : Box) (st : List Box) (n : Nat) (c : Certificate) (h : solveDirectly t b = some (.infeasible c)) : onStack t (b :: st) (n + 1) = Ends.pre c.encode (onStack t st n) := by
  rw [onStack, search, h]
theorem on_found (t : Int) (b : Box) (st : List Box) (n : Nat) (v : List Int) (h : solveDirectly t b = some (.solution v)) : onStack t (b :: st) (n + 1) = .found v := by
  rw [onStack, search, h]
theorem on_cut (t : Int) (b x y : Box) (st : List Box) (n : Nat) (h : solveDirectly t b = none) (hb : bisect b = some (x, y)) : onStack t (b :: st) (n + 1) = Ends.pre [0] (onStack t (x :: y :: st) n) := by
  rw [onStack, search, h, hb]
  dsimp only
  rw [onStack]
  have h1 := search_less t (n + 1) n x
  rcases hx : search t (n + 1) n x with ⟨r, m⟩
  rw [hx] at h1
  have h1 : m ≤ n := h1
  cases r with
  | solution v => rfl
  | limitExceeded => rfl
  | infeasible c =>
    dsimp only
    rw [onStack, search_depth t (n + 1) m y (by omega)]
    rcases hy : search t (m + 1) m y with ⟨r2, m2⟩
    cases r2 with
    | solution v => rfl
    | limitExceeded => rfl
    | infeasible c2 =>
      dsimp only
      rw [Ends.pre_pre, Ends.pre_pre]
      congr 1
/-- the whole search of one box -/
theorem on_one (t : Int) (b : Box) (d n : Nat) (h : n < d) : onStack t [b] n = (match (search t d n b).1 with
    | .infeasible c => .none_ c.encode
    | .solution v => .found v
    | .limitExceeded => .limit) := by
  rw [onStack, search_depth t d n b h]
  rcases search t (n + 1) n b with ⟨r, m⟩
  cases r with
  | solution v => rfl
  | limitExceeded => rfl
  | infeasible c => simp [onStack, Ends.pre]
/-- .. and how many boxes are left -/
theorem left_is (t : Int) : ∀ (d n : Nat) (b : Box) (c : Certificate), (search t d n b).1 = .infeasible c → (search t d n b).2 + c.encode.length = n
  | 0, n, b, c, h => by simp [search] at h
  | d + 1, 0, b, c, h => by simp [search] at h
  | d + 1, n + 1, b, c, h => by
    rw [search] at h ⊢
    have leaf : ∀ x, solveDirectly t b = some x → x = .infeasible c → c.encode.length = 1 := by
      intro x hx e
      subst e
      unfold solveDirectly at hx
      split at hx
      · cases hx; rfl
      · split at hx
        · cases hx; rfl
        · split at hx
          · cases hx
          · cases hx
          · split at hx
            · cases hx
            · cases hx; rfl
          · cases hx
    cases hs : solveDirectly t b with
    | some x =>
      rw [hs] at h
      have := leaf x hs h
      show n + c.encode.length = n + 1
      omega
    | none =>
      rw [hs] at h
      dsimp only at h ⊢
      cases hb : bisect b with
      | none => rw [hb] at h; cases h
      | some p =>
        obtain ⟨x, y⟩ := p
        rw [hb] at h
        dsimp only at h ⊢
        have i1 := left_is t d n x
        rcases hx : search t d n x with ⟨r, m⟩
        rw [hx] at h i1
        cases r with
        | solution v => cases h
        | limitExceeded => cases h
        | infeasible c1 =>
          dsimp only at h ⊢
          have j1 : m + c1.encode.length = n := i1 c1 rfl
          have i2 := left_is t d m y
          rcases hy : search t d m y with ⟨r2, m2⟩
          rw [hy] at h i2
          cases r2 with
          | solution v => cases h
          | limitExceeded => cases h
          | infeasible c2 =>
            dsimp only at h ⊢
            have j2 : m2 + c2.encode.length = m := i2 c2 rfl
            cases h
            simp [Certificate.encode]
            omega

/-! ### certificates as lists -/
/-- are these exactly so many certificates -/
def oneOf : Nat → List Int → Bool
  | m, [] => m == 0
  | 0, _ :: _ => false
  | m + 1, k :: l => if k = 0 then oneOf (m + 2) l else if k = 1 ∨ k = 2 ∨ k = 3 then oneOf m l else false
theorem one_enc : ∀ (c : Certificate) (m : Nat) (l : List Int), oneOf (m + 1) (c.encode ++ l) = oneOf m l
  | .range, m, l => rfl
  | .divisibility, m, l => rfl
  | .twoVariables, m, l => rfl
  | .bisection x y, m, l => by
    show oneOf (m + 2) ((x.encode ++ y.encode) ++ l) = _
    rw [List.append_assoc, one_enc x, one_enc y]
theorem one_some : ∀ (l : List Int) (m : Nat), oneOf m l = true → ∃ cs : List Certificate, cs.length = m ∧ l = cs.flatMap Certificate.encode
  | [], m, h => by
    have : m = 0 := by simpa [oneOf] using h
    subst this
    exact ⟨[], rfl, rfl⟩
  | k :: l, 0, h => by cases h
  | k :: l, m + 1, h => by
    rw [oneOf] at h
    by_cases k0 : k = 0
    · rw [if_pos k0] at h
      obtain ⟨cs, h1, h2⟩ := one_some l _ h
      match cs, h1, h2 with
      | a :: b :: r, h1, h2 =>
        refine ⟨.bisection a b :: r, by simpa using h1, ?_⟩
        rw [k0, h2]
        simp [Certificate.encode]
    · rw [if_neg k0] at h
      by_cases k1 : k = 1 ∨ k = 2 ∨ k = 3
      · rw [if_pos k1] at h
        obtain ⟨cs, h1, h2⟩ := one_some l _ h
        rcases k1 with e | e | e
        · exact ⟨.range :: cs, by simpa using h1, by rw [e, h2]; rfl⟩
        · exact ⟨.divisibility :: cs, by simpa using h1, by rw [e, h2]; rfl⟩
        · exact ⟨.twoVariables :: cs, by simpa using h1, by rw [e, h2]; rfl⟩
      · rw [if_neg k1] at h; cases h
theorem dec_sound : ∀ (f : Nat) (l : List Int) (c : Certificate) (r : List Int), decodeCertificate f l = some (c, r) → l = c.encode ++ r
  | 0, l, c, r, h => by cases h
  | f + 1, [], c, r, h => by cases h
  | f + 1, k :: l, c, r, h => by
    rw [decodeCertificate] at h
    by_cases k0 : k = 0
    · rw [if_pos k0] at h
      cases hx : decodeCertificate f l with
      | none => rw [hx] at h; cases h
      | some p =>
        obtain ⟨x, l2⟩ := p
        rw [hx] at h
        have h : (decodeCertificate f l2).map (fun y => (Certificate.bisection x y.1, y.2)) = some (c, r) := h
        cases hy : decodeCertificate f l2 with
        | none => rw [hy] at h; cases h
        | some q =>
          obtain ⟨y, l3⟩ := q
          rw [hy] at h
          have e := Option.some.inj h
          cases e
          rw [k0, dec_sound f l x l2 hx, dec_sound f l2 y l3 hy]
          simp [Certificate.encode]
    · rw [if_neg k0] at h
      by_cases k1 : k = 1
      · rw [if_pos k1] at h; cases h; rw [k1]; rfl
      · rw [if_neg k1] at h
        by_cases k2 : k = 2
        · rw [if_pos k2] at h; cases h; rw [k2]; rfl
        · rw [if_neg k2] at h
          by_cases k3 : k = 3
          · rw [if_pos k3] at h; cases h; rw [k3]; rfl
          · rw [if_neg k3] at h; cases h
theorem enc_pos : ∀ c : Certificate, 1 ≤ c.encode.length
  | .range => Nat.le_refl 1
  | .divisibility => Nat.le_refl 1
  | .twoVariables => Nat.le_refl 1
  | .bisection _ _ => by simp [Certificate.encode]
theorem dec_enc : ∀ (c : Certificate) (f : Nat) (r : List Int), c.encode.length ≤ f → decodeCertificate f (c.encode ++ r) = some (c, r)
  | c, 0, r, h => absurd h (by have := enc_pos c; omega)
  | .range, f + 1, r, _ => rfl
  | .divisibility, f + 1, r, _ => rfl
  | .twoVariables, f + 1, r, _ => rfl
  | .bisection x y, f + 1, r, h => by
    have hl : x.encode.length + y.encode.length ≤ f := by
      simp [Certificate.encode] at h; omega
    show decodeCertificate (f + 1) (0 :: ((x.encode ++ y.encode) ++ r)) = _
    rw [decodeCertificate, if_pos rfl, List.append_assoc, dec_enc x f _ (by omega)]
    show (decodeCertificate f (y.encode ++ r)).map _ = _
    rw [dec_enc y f r (by omega)]
    rfl
/-- a list is exactly one certificate: what the specification makes of it -/
theorem cert_yes {l : List Int} (h : oneOf 1 l = true) : ∃ c : Certificate, l = c.encode ∧ certificateArgument l = .ok c := by
  obtain ⟨cs, h1, h2⟩ := one_some l 1 h
  match cs, h1, h2 with
  | [c], _, h2 =>
    have e : l = c.encode := by rw [h2]; simp
    refine ⟨c, e, ?_⟩
    unfold certificateArgument
    have d := dec_enc c (l.length + 1) [] (by rw [e]; omega)
    rw [List.append_nil, ← e] at d
    rw [d]
theorem cert_no {l : List Int} (h : oneOf 1 l = false) : certificateArgument l = .error (-33) := by
  unfold certificateArgument
  cases hd : decodeCertificate (l.length + 1) l with
  | none => rfl
  | some p =>
    obtain ⟨c, r⟩ := p
    cases r with
    | cons k r => rfl
    | nil =>
      have e := dec_sound _ _ _ _ hd
      have : oneOf 1 l = true := by
        rw [e]
        exact (one_enc c 0 []).trans rfl
      rw [this] at h; cases h
/-- claims looked at on a stack of boxes -/
def leafOk (t : Int) (b : Box) (k : Int) : Bool :=
  if k = 1 then isOutOfRange t b else if k = 2 then violatesDivisibility t b else (!violatesDivisibility t b && decide (twoVariableSolution t b = some none))
def onClaims (t : Int) : List Box → List Int → Bool
  | _, [] => true
  | [], _ :: _ => false
  | b :: st, k :: l => if k = 0 then (match bisect b with
      | some (x, y) => onClaims t (x :: y :: st) l
      | none => false)
    else leafOk t b k && onClaims t st l
theorem claims_enc (t : Int) : ∀ (c : Certificate) (b : Box) (st : List Box) (l : List Int), onClaims t (b :: st) (c.encode ++ l) = (isValid t b c && onClaims t st l)
  | .range, b, st, l => rfl
  | .divisibility, b, st, l => rfl
  | .twoVariables, b, st, l => rfl
  | .bisection x y, b, st, l => by
    show onClaims t (b :: st) (0 :: ((x.encode ++ y.encode) ++ l)) = _
    rw [onClaims, if_pos rfl, isValid]
    cases bisect b with
    | none => rfl
    | some p =>
      obtain ⟨u, v⟩ := p
      dsimp only
      rw [List.append_assoc, claims_enc t x, claims_enc t y, Bool.and_assoc]
theorem claims_one (t : Int) (b : Box) (c : Certificate) : onClaims t [b] c.encode = isValid t b c := by
  have := claims_enc t c b [] []
  rw [List.append_nil] at this
  rw [this]
  simp [onClaims]
end Ov
end

section
set_option autoImplicit false
/-! Euclid's loop with factors. -/
namespace Ov
open VaviwBase Vaviwc

/-- the state of the loop that makes an inverse of c for m -/
structure InvSt (c m : Int) (o n : Nat) (x y : Int) : Prop where
  pos : 0 < o
  ex : (x * c) % m = (o : Int) % m
  ey : (y * c) % m = (n : Int) % m
  g : Nat.gcd o n = 1
  bd : ∃ X Y : Nat, ((x = X ∧ y = -(Y : Int)) ∨ (x = -(X : Int) ∧ y = Y)) ∧ ((o * Y + n * X : Nat) : Int) = m
theorem InvSt.y_le {c m : Int} {o n : Nat} {x y : Int} (h : InvSt c m o n x y) : y.natAbs ≤ m.natAbs := by
  obtain ⟨X, Y, e, b⟩ := h.bd
  have hy : y.natAbs = Y := by omega
  rw [hy, ← b]
  have := h.pos
  have h1 : 1 * Y ≤ o * Y := Nat.mul_le_mul_right Y this
  have h2 : Y ≤ o * Y + n * X := by omega
  exact h2
theorem InvSt.step {c m : Int} {o n : Nat} {x y : Int} (h : InvSt c m o n x y) (hn : n ≠ 0) : InvSt c m n (o % n) y (x - (o / n : Nat) * y) := by
  obtain ⟨X, Y, e, b⟩ := h.bd
  have hd := Nat.div_add_mod o n
  refine ⟨Nat.pos_of_ne_zero hn, h.ey, ?_, ?_, Y, X + (o / n) * Y, ?_, ?_⟩
  · obtain ⟨k, hk⟩ := dvd_of_mod h.ex
    obtain ⟨l, hl⟩ := dvd_of_mod h.ey
    refine mod_of (k - (o / n : Nat) * l) ?_
    rw [Int.sub_mul, hk, Int.mul_assoc, hl]
    have e1 : ((o % n : Nat) : Int) = o - (o / n : Nat) * n := by
      have : ((n * (o / n) + o % n : Nat) : Int) = o := by rw [hd]
      push_cast at this ⊢
      rw [Int.mul_comm ((o : Int) / n)]
      omega
    rw [e1, Int.mul_add, Int.mul_sub, Int.mul_left_comm m]
    omega
  · rw [Nat.gcd_comm n, ← Nat.gcd_rec, Nat.gcd_comm]
    exact h.g
  · push_cast
    generalize ((o : Int) / n) = q
    rcases e with ⟨e1, e2⟩ | ⟨e1, e2⟩
    · right
      refine ⟨by omega, ?_⟩
      rw [e1, e2, Int.mul_neg]; omega
    · left
      refine ⟨by omega, ?_⟩
      rw [e1, e2]; omega
  · rw [← b]
    congr 1
    have : o * Y = n * ((o / n) * Y) + (o % n) * Y := by
      rw [← Nat.mul_assoc, ← Nat.add_mul, hd]
    rw [Nat.mul_add, this]
    omega
theorem InvSt.start {c m : Int} (hm : 0 < m) (hg : Nat.gcd c.natAbs m.natAbs = 1) : InvSt c m m.toNat (c % m).toNat 0 1 := by
  have h0 : 0 ≤ c % m := Int.emod_nonneg _ (by omega)
  have e0 : ((c % m).toNat : Int) = c % m := Int.toNat_of_nonneg h0
  have em : (m.toNat : Int) = m := Int.toNat_of_nonneg (by omega)
  refine ⟨by omega, ?_, ?_, ?_, 0, 1, .inr ⟨rfl, rfl⟩, by simp; omega⟩
  · rw [em]; simp
  · rw [e0]; simp
  · have hgd : ∀ k : Nat, k ∣ m.toNat → k ∣ (c % m).toNat → k ∣ c.natAbs := by
      intro k h1 h2
      have i1 : (k : Int) ∣ m := by rw [← em]; exact Int.ofNat_dvd.mpr h1
      have i2 : (k : Int) ∣ c % m := by rw [← e0]; exact Int.ofNat_dvd.mpr h2
      have i3 : (k : Int) ∣ c := by
        rw [← Int.emod_add_mul_ediv c m]
        exact Int.dvd_add i2 (Int.dvd_trans i1 (Int.dvd_mul_right _ _))
      exact Int.ofNat_dvd_left.1 i3
    have d1 := Nat.gcd_dvd_left m.toNat (c % m).toNat
    have d2 := Nat.gcd_dvd_right m.toNat (c % m).toNat
    have d3 := hgd _ d1 d2
    have d4 : m.natAbs = m.toNat := by omega
    rw [d4] at hg
    have d5 := Nat.dvd_gcd d3 d1
    rw [hg] at d5
    exact Nat.dvd_one.mp d5
theorem InvSt.done {c m : Int} {o : Nat} {x y : Int} (h : InvSt c m o 0 x y) : ((x % m) * c) % m = 1 % m := by
  have : o = 1 := by have := h.g; simpa using this
  subst this
  have e := h.ex
  rw [Int.mul_emod, Int.emod_emod, ← Int.mul_emod]
  exact e
end Ov
end

section
set_option autoImplicit false
/-! What an equation keeps ready, as lists. -/
namespace Ov
open VaviwBase Vaviwc

def noVar : Variable := ⟨0, 0, 0⟩
def freeIdx (b : Box) : List Nat := (List.range b.length).filter fun i => isFree (b.getD i noVar)
def coI (b : Box) : List Int := b.map fun v => v.coefficient
def upI (b : Box) : List Int := b.map fun v => v.upper
theorem pick_free {β : Type} (F : Variable → β) : ∀ b : Box, (freeIdx b).map (fun i => F (b.getD i noVar)) = (freeVariables b).map F
  | [] => rfl
  | x :: xs => by
    have ih := pick_free F xs
    unfold freeIdx at ih ⊢
    rw [List.length_cons, List.range_succ_eq_map, List.filter_cons, List.filter_map]
    have e : ((fun i => isFree ((x :: xs).getD i noVar)) ∘ Nat.succ) = fun i => isFree (xs.getD i noVar) := rfl
    have e2 : isFree ((x :: xs).getD 0 noVar) = isFree x := rfl
    rw [e, e2]
    by_cases f : isFree x = true
    · rw [if_pos f, free_cons_t f, List.map_cons, List.map_map, List.map_cons, ← ih]; rfl
    · rw [if_neg f, free_cons_f f, List.map_map, ← ih]; rfl
theorem freeIdx_len (b : Box) : (freeIdx b).length = (freeVariables b).length := by
  have := congrArg List.length (pick_free (fun v => v.coefficient) b)
  simpa using this
theorem freeIdx_lt {b : Box} {i : Nat} (h : i ∈ freeIdx b) : i < b.length := by
  unfold freeIdx at h
  exact List.mem_range.mp (List.mem_filter.mp h).1
theorem getD_co (b : Box) (i : Nat) : (coI b).getD i 0 = (b.getD i noVar).coefficient := by
  unfold coI
  rw [List.getD_eq_getElem?_getD, List.getD_eq_getElem?_getD, List.getElem?_map]
  cases b[i]? <;> rfl
theorem getD_up (b : Box) (i : Nat) : (upI b).getD i 0 = (b.getD i noVar).upper := by
  unfold upI
  rw [List.getD_eq_getElem?_getD, List.getD_eq_getElem?_getD, List.getElem?_map]
  cases b[i]? <;> rfl
theorem isFree_low {v : Variable} (h : v.lower = 0) : isFree v = (decide (v.coefficient ≠ 0) && decide (v.upper > 0)) := by
  unfold isFree
  rw [h, Bool.and_comm]
theorem low_getD {b : Box} (h : Low0 b) (i : Nat) : (b.getD i noVar).lower = 0 := by
  rw [List.getD_eq_getElem?_getD]
  cases e : b[i]? with
  | none => rfl
  | some v => exact h v (List.mem_of_getElem? e)

/-- the sums from a place on -/
theorem sum_drop_min : ∀ (f : Box), (∀ v ∈ f, v.lower = 0) → ∀ k, (((f.map fun (v : Variable) => min 0 (v.coefficient * v.upper)) ++ [0]).drop k).sum = minSum (f.drop k)
  | [], _, k => by cases k <;> simp [minSum]
  | v :: f, h, 0 => by
    have ih := sum_drop_min f (fun w hw => h w (List.mem_cons_of_mem _ hw)) 0
    have e := h v List.mem_cons_self
    simp only [List.drop_zero, List.map_cons, List.cons_append, List.sum_cons] at ih ⊢
    rw [ih]
    show _ = min (v.coefficient * v.lower) (v.coefficient * v.upper) + minSum f
    rw [e, Int.mul_zero]
  | v :: f, h, k + 1 => sum_drop_min f (fun w hw => h w (List.mem_cons_of_mem _ hw)) k
theorem sum_drop_max : ∀ (f : Box), (∀ v ∈ f, v.lower = 0) → ∀ k, (((f.map fun (v : Variable) => max 0 (v.coefficient * v.upper)) ++ [0]).drop k).sum = maxSum (f.drop k)
  | [], _, k => by cases k <;> simp [maxSum]
  | v :: f, h, 0 => by
    have ih := sum_drop_max f (fun w hw => h w (List.mem_cons_of_mem _ hw)) 0
    have e := h v List.mem_cons_self
    simp only [List.drop_zero, List.map_cons, List.cons_append, List.sum_cons] at ih ⊢
    rw [ih]
    show _ = max (v.coefficient * v.lower) (v.coefficient * v.upper) + maxSum f
    rw [e, Int.mul_zero]
  | v :: f, h, k + 1 => sum_drop_max f (fun w hw => h w (List.mem_cons_of_mem _ hw)) k
theorem free_low {b : Box} (h : Low0 b) : ∀ v ∈ freeVariables b, v.lower = 0 := fun v hv => h v (free_mem hv).1
theorem gcd_drop : ∀ (f : Box) (k : Nat), ((coI f ++ [0]).drop k).foldl (fun (g : Nat) (c : Int) => Nat.gcd g c.natAbs) 0 = coGcd (f.drop k) := by
  have h : ∀ (f : Box) (g : Nat), (coI f ++ [0]).foldl (fun (g : Nat) (c : Int) => Nat.gcd g c.natAbs) g = f.foldl (fun g v => Nat.gcd g v.coefficient.natAbs) g := by
    intro f
    induction f with
    | nil => intro g; simp [coI]
    | cons v f ih => intro g; exact ih _
  intro f
  induction f with
  | nil => intro k; cases k <;> simp [coI, coGcd]
  | cons v f ih =>
    intro k
    cases k with
    | zero => exact h (v :: f) 0
    | succ k => exact ih k
/-- the two last of at least two -/
theorem two_last {f : Box} (h : 2 ≤ f.length) : ∃ u v, f.drop (f.length - 2) = [u, v] := by
  have hl : (f.drop (f.length - 2)).length = 2 := by rw [List.length_drop]; omega
  match f.drop (f.length - 2), hl with
  | [u, v], _ => exact ⟨u, v, rfl⟩
theorem coGcd_two (u v : Variable) : coGcd [u, v] = Nat.gcd u.coefficient.natAbs v.coefficient.natAbs := by
  show Nat.gcd (Nat.gcd 0 u.coefficient.natAbs) v.coefficient.natAbs = _
  rw [Nat.gcd_zero_left]
/-- gcds reduced -/
theorem gcd_red {a b : Int} (hb : b ≠ 0) : Nat.gcd (a / (Nat.gcd a.natAbs b.natAbs : Nat)).natAbs ((b.natAbs : Int) / (Nat.gcd a.natAbs b.natAbs : Nat)).natAbs = 1 := by
  have gpos : 0 < Nat.gcd a.natAbs b.natAbs := Nat.gcd_pos_of_pos_right _ (Int.natAbs_pos.mpr hb)
  have h1 : (a / (Nat.gcd a.natAbs b.natAbs : Nat)).natAbs = a.natAbs / Nat.gcd a.natAbs b.natAbs := by
    have d : (Nat.gcd a.natAbs b.natAbs : Int) ∣ a := Int.ofNat_dvd_left.2 (Nat.gcd_dvd_left _ _)
    rw [Int.natAbs_ediv_of_dvd d]
    simp
  have h2 : ((b.natAbs : Int) / (Nat.gcd a.natAbs b.natAbs : Nat)).natAbs = b.natAbs / Nat.gcd a.natAbs b.natAbs := by
    have : ((b.natAbs : Int) / (Nat.gcd a.natAbs b.natAbs : Nat)) = ((b.natAbs / Nat.gcd a.natAbs b.natAbs : Nat) : Int) := rfl
    rw [this, Int.natAbs_natCast]
  rw [h1, h2]
  exact Nat.coprime_div_gcd_div_gcd gpos
/-- what is kept for the two-variable test -/
structure PairOk (f : Box) (pm pi : Int) : Prop where
  ok : ∀ u v, f.drop (f.length - 2) = [u, v] → 2 ≤ f.length → pm = (v.coefficient.natAbs : Int) / (coGcd [u, v] : Int) ∧ 0 ≤ pi ∧ pi < pm ∧
    (pi * (u.coefficient / (coGcd [u, v] : Int))) % pm = 1 % pm

/-- spread by placing the values one by one -/
theorem spread_len : ∀ (b : Box) (xs : List Int), (spread b xs).length = b.length
  | [], _ => rfl
  | v :: b, xs => by
    unfold spread
    split
    · rw [List.length_cons, spread_len b, List.length_cons]
    · rw [List.length_cons, spread_len b, List.length_cons]
end Ov
end

section
set_option autoImplicit false
namespace Ov
open VaviwBase Vaviwc
def putAll : List (Nat × Int) → List Int → List Int
  | [], l => l
  | (i, z) :: r, l => putAll r (l.set i z)
theorem putAll_succ : ∀ (r : List (Nat × Int)) (y : Int) (l : List Int), putAll (r.map fun p => (p.1 + 1, p.2)) (y :: l) = y :: putAll r l
  | [], _, _ => rfl
  | (i, z) :: r, y, l => by
    show putAll (r.map _) ((y :: l).set (i + 1) z) = y :: putAll r (l.set i z)
    rw [List.set_cons_succ, putAll_succ r]
theorem putAll_snoc (r : List (Nat × Int)) (i : Nat) (z : Int) : ∀ l, putAll (r ++ [(i, z)]) l = (putAll r l).set i z := by
  induction r with
  | nil => intro l; rfl
  | cons p r ih => intro l; exact ih _
theorem putAll_len : ∀ (r : List (Nat × Int)) (l : List Int), (putAll r l).length = l.length
  | [], _ => rfl
  | (i, z) :: r, l => by rw [putAll, putAll_len r, List.length_set]
theorem freeIdx_cons (v : Variable) (b : Box) : freeIdx (v :: b) = if isFree v = true then 0 :: (freeIdx b).map (· + 1) else (freeIdx b).map (· + 1) := by
  unfold freeIdx
  rw [List.length_cons, List.range_succ_eq_map, List.filter_cons, List.filter_map]
  rfl
theorem spread_put : ∀ (b : Box) (xs : List Int), xs.length = (freeIdx b).length → putAll ((freeIdx b).zip xs) (List.replicate b.length 0) = spread b xs
  | [], xs, _ => rfl
  | v :: b, xs, h => by
    rw [freeIdx_cons] at h ⊢
    unfold spread
    by_cases f : isFree v = true
    · rw [if_pos f] at h ⊢
      rw [if_pos f]
      match xs, h with
      | x :: xs, h =>
        have ih := spread_put b xs (by simpa using h)
        show putAll (((freeIdx b).map (· + 1)).zip xs) ((0 :: List.replicate b.length 0).set 0 x) = x :: spread b xs
        rw [List.set_cons_zero, List.zip_map_left, ← ih]
        exact putAll_succ _ _ _
    · rw [if_neg f] at h ⊢
      rw [if_neg f]
      have ih := spread_put b xs (by simpa using h)
      show putAll (((freeIdx b).map (· + 1)).zip xs) (0 :: List.replicate b.length 0) = 0 :: spread b xs
      rw [List.zip_map_left, ← ih]
      exact putAll_succ _ _ _
end Ov
end

section
set_option autoImplicit false
/-! What is done with a box that needs no bisection. -/
namespace Ov
open VaviwBase Vaviwc

theorem co_head {f : Box} {k : Nat} (h : k ≤ f.length) : (coI f ++ [0]).getD k 0 = headCo (f.drop k) := by
  unfold coI
  rw [List.getD_eq_getElem?_getD]
  by_cases q : k < f.length
  · rw [List.getElem?_append_left (by rw [List.length_map]; exact q), List.getElem?_map]
    have e : f.drop k = f[k] :: f.drop (k + 1) := List.drop_eq_getElem_cons q
    rw [e, List.getElem?_eq_getElem q]; rfl
  · have e : k = f.length := by omega
    subst e
    rw [List.getElem?_append_right (by rw [List.length_map]; exact Nat.le_refl _)]
    simp [headCo]
theorem up_head {f : Box} {k : Nat} (h : k ≤ f.length) : (upI f ++ [0]).getD k 0 = headUp (f.drop k) := by
  unfold upI
  rw [List.getD_eq_getElem?_getD]
  by_cases q : k < f.length
  · rw [List.getElem?_append_left (by rw [List.length_map]; exact q), List.getElem?_map]
    have e : f.drop k = f[k] :: f.drop (k + 1) := List.drop_eq_getElem_cons q
    rw [e, List.getElem?_eq_getElem q]; rfl
  · have e : k = f.length := by omega
    subst e
    rw [List.getElem?_append_right (by rw [List.length_map]; exact Nat.le_refl _)]
    simp [headUp]
/-- what is left of the right-hand side -/
def restOf (t : Int) (b : Box) (fx : List Int) : Int := t - fixedSum (freeVariables b) fx
theorem low_rest (t : Int) {b : Box} {fx : List Int} {lo up : Int} (h0 : Low0 b) (h : fx.length ≤ (freeVariables b).length) :
    t - sumAtLower (narrow b fx lo up) = restOf t b fx - headCo ((freeVariables b).drop fx.length) * lo := by
  rw [low_narrow h0 h]; unfold restOf; omega
theorem fixed_small : ∀ (f : Box) (fx : List Int), (∀ v ∈ f, v.coefficient.natAbs < 2 ^ 64) → (∀ x ∈ fx, x.natAbs < 2 ^ 64) → (fixedSum f fx).natAbs ≤ fx.length * 2 ^ 128
  | [], fx, _, _ => by simp [fixedSum]
  | v :: f, [], _, _ => by simp [fixedSum]
  | v :: f, x :: r, h1, h2 => by
    have ih := fixed_small f r (fun w hw => h1 w (List.mem_cons_of_mem _ hw)) (fun y hy => h2 y (List.mem_cons_of_mem _ hy))
    have hm : (v.coefficient * x).natAbs ≤ 2 ^ 64 * 2 ^ 64 := by
      rw [Int.natAbs_mul]
      exact Nat.mul_le_mul (Nat.le_of_lt (h1 v List.mem_cons_self)) (Nat.le_of_lt (h2 x List.mem_cons_self))
    show (v.coefficient * x + fixedSum f r).natAbs ≤ (r.length + 1) * 2 ^ 128
    rw [Nat.add_mul]
    omega
theorem narrow_free {b : Box} {fx : List Int} {lo up : Int} (h : At b fx lo up) : freeVariables (narrow b fx lo up) = restFree lo up ((freeVariables b).drop fx.length) :=
  free_narrow b fx lo up h.len (fun q => (h.more q).2.1)
theorem div_dvd {t : Int} {b : Box} {fx : List Int} {lo up : Int} (h0 : Low0 b) (h : At b fx lo up) (hd : violatesDivisibility t (narrow b fx lo up) = false) :
    (coGcd ((freeVariables b).drop fx.length) : Int) ∣ restOf t b fx := by
  rw [div_is t h0 h] at hd
  have := of_decide_eq_false hd
  exact Int.dvd_of_emod_eq_zero (by unfold restOf; omega)
theorem direct0 {t : Int} {b : Box} {fx : List Int} {lo up : Int} (h0 : Low0 b) (h : At b fx lo up) (hr : isOutOfRange t (narrow b fx lo up) = false) (hd : violatesDivisibility t (narrow b fx lo up) = false)
    (e : (freeVariables b).drop fx.length = []) : solveDirectly t (narrow b fx lo up) = some (.solution (spread b fx)) := by
  have hl : fx.length = (freeVariables b).length := by
    have := congrArg List.length e
    simp at this
    have := h.len
    omega
  have ef : freeVariables (narrow b fx lo up) = [] := by rw [narrow_free h, e]; rfl
  unfold solveDirectly
  rw [hr, hd, ef]
  show some (SearchResult.solution (assignFree (narrow b fx lo up) [])) = _
  rw [assign_narrow_all b fx lo up h0 hl]
theorem direct1 {t : Int} {b : Box} {fx : List Int} {lo up : Int} {v : Variable} (h0 : Low0 b) (h : At b fx lo up) (hr : isOutOfRange t (narrow b fx lo up) = false) (hd : violatesDivisibility t (narrow b fx lo up) = false)
    (e : (freeVariables b).drop fx.length = [v]) : solveDirectly t (narrow b fx lo up) = some (.solution (spread b (fx ++ [restOf t b fx / v.coefficient]))) := by
  have hl : fx.length < (freeVariables b).length := by
    have := congrArg List.length e
    simp at this
    omega
  have ef : freeVariables (narrow b fx lo up) = [⟨v.coefficient, lo, up⟩] := by rw [narrow_free h, e]; rfl
  have c0 : v.coefficient ≠ 0 := (isFree_iff.mp (free_mem (List.mem_of_mem_drop (i := fx.length) (by rw [e]; exact List.mem_cons_self))).2).2
  unfold solveDirectly
  rw [hr, hd, ef]
  show some (SearchResult.solution (assignFree (narrow b fx lo up) [(t - sumAtLower (narrow b fx lo up)) / v.coefficient])) = _
  rw [assign_narrow b fx lo up _ h0 hl (h.more hl).2.1, low_rest t h0 h.len, e]
  show some (SearchResult.solution (spread b (fx ++ (lo + (restOf t b fx - v.coefficient * lo) / v.coefficient) :: []))) = _
  rw [sub_mul_ediv c0]
  have : lo + (restOf t b fx / v.coefficient - lo) = restOf t b fx / v.coefficient := by omega
  rw [this]
/-- the value of the pair's first variable -/
def pairVal (u v : Variable) (lo R w : Int) : Int :=
  pVal (pStart u.coefficient lo (R - max 0 (v.coefficient * v.upper)) (R - min 0 (v.coefficient * v.upper))) (R / (coGcd [u, v] : Int) * w % ((v.coefficient.natAbs : Int) / (coGcd [u, v] : Int))) ((v.coefficient.natAbs : Int) / (coGcd [u, v] : Int))
def pairEnd (u v : Variable) (up R : Int) : Int := pEnd u.coefficient up (R - max 0 (v.coefficient * v.upper)) (R - min 0 (v.coefficient * v.upper))
theorem two_is {t : Int} {b : Box} {fx : List Int} {lo up w : Int} {u v : Variable} (h0 : Low0 b) (hc : ∀ v ∈ b, v.coefficient.natAbs ≤ 1000000000000000000) (h : At b fx lo up)
    (hd : violatesDivisibility t (narrow b fx lo up) = false) (e : (freeVariables b).drop fx.length = [u, v])
    (hw : (w * (u.coefficient / (coGcd [u, v] : Int))) % ((v.coefficient.natAbs : Int) / (coGcd [u, v] : Int)) = 1 % ((v.coefficient.natAbs : Int) / (coGcd [u, v] : Int))) :
    twoVariableSolution t (narrow b fx lo up) = some (if pairVal u v lo (restOf t b fx) w ≤ pairEnd u v up (restOf t b fx) then
      some (pairVal u v lo (restOf t b fx) w - lo, (restOf t b fx - u.coefficient * pairVal u v lo (restOf t b fx) w) / v.coefficient) else none) ∧
    v.coefficient ∣ restOf t b fx - u.coefficient * pairVal u v lo (restOf t b fx) w := by
  have ef : freeVariables (narrow b fx lo up) = [⟨u.coefficient, lo, up⟩, v] := by rw [narrow_free h, e]; rfl
  have mu : u ∈ freeVariables b := List.mem_of_mem_drop (i := fx.length) (by rw [e]; exact List.mem_cons_self)
  have mv : v ∈ freeVariables b := List.mem_of_mem_drop (i := fx.length) (by rw [e]; exact List.mem_cons_of_mem _ List.mem_cons_self)
  have c0 := (isFree_iff.mp (free_mem mu).2).2
  have d0 := (isFree_iff.mp (free_mem mv).2).2
  have lv := h0 v (free_mem mv).1
  have hg := div_dvd h0 h hd
  rw [e, coGcd_two] at hg
  have gw : (coGcd [u, v] : Int) = (Nat.gcd u.coefficient.natAbs v.coefficient.natAbs : Nat) := by rw [coGcd_two]
  rw [gw] at hw
  unfold twoVariableSolution
  rw [ef]
  dsimp only
  rw [low_rest t h0 h.len, e, lv, Int.sub_zero]
  show some (leastLatticePoint u.coefficient (up - lo) v.coefficient v.upper (restOf t b fx - u.coefficient * lo)) = _ ∧ _
  rw [pair_is c0 d0 (hc v (free_mem mv).1) hg hw]
  unfold pairVal pairEnd
  rw [gw]
  exact ⟨rfl, pair_dvd d0 hg hw⟩
theorem direct2 {t : Int} {b : Box} {fx : List Int} {lo up : Int} {u v : Variable} (h0 : Low0 b) (h : At b fx lo up) (hr : isOutOfRange t (narrow b fx lo up) = false) (hd : violatesDivisibility t (narrow b fx lo up) = false)
    (e : (freeVariables b).drop fx.length = [u, v]) : solveDirectly t (narrow b fx lo up) = (match twoVariableSolution t (narrow b fx lo up) with
      | some (some (x, y)) => some (.solution (spread b (fx ++ [lo + x, y])))
      | _ => some (.infeasible .twoVariables)) := by
  have hl : fx.length < (freeVariables b).length := by
    have := congrArg List.length e
    simp at this
    omega
  have ef : freeVariables (narrow b fx lo up) = [⟨u.coefficient, lo, up⟩, v] := by rw [narrow_free h, e]; rfl
  unfold solveDirectly
  rw [hr, hd, ef]
  dsimp only
  cases twoVariableSolution t (narrow b fx lo up) with
  | none => rfl
  | some q =>
    cases q with
    | none => rfl
    | some p =>
      obtain ⟨x, y⟩ := p
      show some (SearchResult.solution (assignFree (narrow b fx lo up) [x, y])) = _
      rw [assign_narrow b fx lo up _ h0 hl (h.more hl).2.1]; rfl
/-- more than two free variables: bisection -/
theorem direct3 {t : Int} {B : Box} (hr : isOutOfRange t B = false) (hd : violatesDivisibility t B = false) (h : 2 < (freeVariables B).length) : solveDirectly t B = none := by
  unfold solveDirectly
  rw [hr, hd]
  match freeVariables B, h with
  | _ :: _ :: _ :: _, _ => rfl
theorem directR {t : Int} {B : Box} (hr : isOutOfRange t B = true) : solveDirectly t B = some (.infeasible .range) := by
  unfold solveDirectly
  rw [hr]; rfl
theorem directD {t : Int} {B : Box} (hr : isOutOfRange t B = false) (hd : violatesDivisibility t B = true) : solveDirectly t B = some (.infeasible .divisibility) := by
  unfold solveDirectly
  rw [hr, hd]; rfl
/-- the bounds that bisection leaves, once more in form -/
theorem at_half {b : Box} {fx : List Int} {lo up l2 u2 : Int} (h0 : Low0 b) (h : At b fx lo up) (hl : fx.length < (freeVariables b).length) (h1 : lo ≤ l2) (h2 : l2 < u2) (h3 : u2 ≤ up) : At b fx l2 u2 := by
  have m := h.more hl
  exact ⟨h.len, fun _ => ⟨by omega, h2, by omega⟩, fun e => absurd e (by omega)⟩
theorem drop_up {b : Box} {k : Nat} (h0 : Low0 b) (h : k < (freeVariables b).length) : 0 < headUp ((freeVariables b).drop k) := by
  have e : (freeVariables b).drop k = (freeVariables b)[k] :: (freeVariables b).drop (k + 1) := List.drop_eq_getElem_cons h
  rw [e]
  have m := free_mem (List.getElem_mem h)
  have f := (isFree_iff.mp m.2).1
  rw [h0 _ m.1] at f
  exact f
theorem at_fix {b : Box} {fx : List Int} {x : Int} (h0 : Low0 b) (hl : fx.length < (freeVariables b).length) : At b (fx ++ [x]) 0 (headUp ((freeVariables b).drop (fx.length + 1))) := by
  have e : (fx ++ [x]).length = fx.length + 1 := by simp
  refine ⟨by omega, fun q => ?_, fun q => ?_⟩
  · rw [e] at q
    rw [e]
    exact ⟨Int.le_refl 0, drop_up h0 q, Int.le_refl _⟩
  · rw [e] at q
    rw [q, List.drop_length]
    exact ⟨rfl, rfl⟩
theorem at_whole {b : Box} (h0 : Low0 b) : At b [] 0 (headUp (freeVariables b)) := by
  refine ⟨Nat.zero_le _, fun q => ?_, fun q => ?_⟩
  · have := drop_up h0 q
    exact ⟨Int.le_refl 0, this, Int.le_refl _⟩
  · have : freeVariables b = [] := List.eq_nil_of_length_eq_zero q.symm
    rw [this]; exact ⟨rfl, rfl⟩
theorem fixed_snoc : ∀ (f : Box) (fx : List Int) (x : Int), fx.length < f.length → fixedSum f (fx ++ [x]) = fixedSum f fx + headCo (f.drop fx.length) * x
  | [], fx, x, h => by simp at h
  | v :: f, [], x, _ => by simp [fixedSum, headCo]
  | v :: f, y :: r, x, h => by
    have ih := fixed_snoc f r x (by simpa using h)
    show v.coefficient * y + fixedSum f (r ++ [x]) = v.coefficient * y + fixedSum f r + _
    rw [ih]
    simp only [List.length_cons, List.drop_succ_cons]
    omega
end Ov
end

section
set_option autoImplicit false
/-! Arguments: pairs, axes, variables. -/
namespace Ov
open VaviwBase Vaviwc

/-- every second item (the same as the program's slices by two) -/
def evensI : List Int → List Int
  | [] => []
  | [x] => [x]
  | x :: _ :: r => x :: evensI r
theorem pairs_even : ∀ l : List Int, l.length % 2 = 0 → pairsOf l = some ((evensI l).zip (evensI (l.drop 1)))
  | [], _ => by simp [pairsOf, evensI]
  | [_], h => by simp at h
  | x :: y :: r, h => by
    have ih := pairs_even r (by simp at h; omega)
    have e : evensI (y :: r) = y :: evensI (r.drop 1) := by
      cases r with
      | nil => simp [evensI]
      | cons z r => simp [evensI]
    show (pairsOf r).map _ = _
    rw [ih]
    show some _ = some (List.zip (x :: evensI r) (evensI (y :: r)))
    rw [e, List.zip_cons_cons]
theorem pairs_odd : ∀ l : List Int, l.length % 2 ≠ 0 → pairsOf l = none
  | [], h => by simp at h
  | [_], _ => rfl
  | x :: y :: r, h => by
    show (pairsOf r).map _ = none
    rw [pairs_odd r (by simp at h ⊢; omega)]; rfl
theorem evens_len2 : ∀ l : List Int, l.length % 2 = 0 → (evensI l).length = l.length / 2 ∧ (evensI (l.drop 1)).length = l.length / 2
  | [], _ => by simp [evensI]
  | [_], h => by simp at h
  | x :: y :: r, h => by
    have ih := evens_len2 r (by simp at h; omega)
    have e : evensI (y :: r) = y :: evensI (r.drop 1) := by
      cases r with
      | nil => simp [evensI]
      | cons z r => simp [evensI]
    show (x :: evensI r).length = _ ∧ (evensI (y :: r)).length = _
    rw [e]
    simp only [List.length_cons]
    rw [ih.1, ih.2]
    omega
theorem zip_fst {α β γ : Type} (F : α → γ) : ∀ (xs : List α) (ys : List β), xs.length = ys.length → (xs.zip ys).map (fun p => F p.1) = xs.map F
  | [], [], _ => rfl
  | x :: xs, y :: ys, h => by
    rw [List.zip_cons_cons, List.map_cons, zip_fst F xs ys (by simpa using h), List.map_cons]
theorem zip_snd {α β γ : Type} (F : β → γ) : ∀ (xs : List α) (ys : List β), xs.length = ys.length → (xs.zip ys).map (fun p => F p.2) = ys.map F
  | [], [], _ => rfl
  | x :: xs, y :: ys, h => by
    rw [List.zip_cons_cons, List.map_cons, zip_snd F xs ys (by simpa using h), List.map_cons]
theorem zip_all {α β : Type} (p : α → Bool) (q : β → Bool) : ∀ (xs : List α) (ys : List β), xs.length = ys.length → (xs.zip ys).all (fun r => p r.1 && q r.2) = (xs.all p && ys.all q)
  | [], [], _ => rfl
  | x :: xs, y :: ys, h => by
    rw [List.zip_cons_cons, List.all_cons, zip_all p q xs ys (by simpa using h), List.all_cons, List.all_cons]
    cases p x <;> cases q y <;> simp
theorem zip_all1 {α β : Type} (p : α → Bool) : ∀ (xs : List α) (ys : List β), xs.length = ys.length → (xs.zip ys).all (fun r => p r.1) = xs.all p
  | [], [], _ => rfl
  | x :: xs, y :: ys, h => by
    rw [List.zip_cons_cons, List.all_cons, zip_all1 p xs ys (by simpa using h), List.all_cons]
/-- what variablesArgument does with a list, by its two halves -/
theorem vars_is (l : List Int) : variablesArgument l = (if l.length % 2 = 0 ∧ l.length ≤ 16 then
    (if (evensI l).all (fun z => decide (z.natAbs ≤ maxInteger)) && (evensI (l.drop 1)).all isNaturalUpToMax then
      .ok (((evensI l).zip (evensI (l.drop 1))).map fun x => ⟨x.1, 0, x.2⟩) else .error (-26)) else .error (-25)) := by
  unfold variablesArgument
  by_cases h : l.length % 2 = 0
  · have hl := evens_len2 l h
    rw [pairs_even l h]
    dsimp only
    have e : ((evensI l).zip (evensI (l.drop 1))).length = l.length / 2 := by rw [List.length_zip, hl.1, hl.2]; omega
    rw [e]
    by_cases h2 : l.length ≤ 16
    · have z := zip_all (fun z : Int => decide (z.natAbs ≤ maxInteger)) isNaturalUpToMax (evensI l) (evensI (l.drop 1)) (by omega)
      rw [if_pos (show l.length % 2 = 0 ∧ l.length ≤ 16 from ⟨h, h2⟩), ← z, if_neg (show ¬ maxVariables < l.length / 2 by show ¬ 8 < _; omega)]
    · rw [if_pos (by show 8 < _; omega), if_neg (fun z => h2 z.2)]
  · rw [pairs_odd l h, if_neg (fun z => h z.1)]
theorem axes_is (l : List Int) : axesArgument l = (if l.length % 2 = 0 ∧ l.length ≤ 12 then
    (if (evensI l).all isNaturalUpToMax then
      .ok (((evensI l).zip (evensI (l.drop 1))).map fun x => ⟨x.1.toNat, x.2⟩) else .error (-22)) else .error (-21)) := by
  unfold axesArgument
  by_cases h : l.length % 2 = 0
  · have hl := evens_len2 l h
    rw [pairs_even l h]
    dsimp only
    have e : ((evensI l).zip (evensI (l.drop 1))).length = l.length / 2 := by rw [List.length_zip, hl.1, hl.2]; omega
    rw [e]
    by_cases h2 : l.length ≤ 12
    · have z := zip_all1 isNaturalUpToMax (evensI l) (evensI (l.drop 1)) (by omega)
      rw [if_pos (show l.length % 2 = 0 ∧ l.length ≤ 12 from ⟨h, h2⟩), ← z, if_neg (show ¬ maxAxes < l.length / 2 by show ¬ 6 < _; omega)]
    · rw [if_pos (by show 6 < _; omega), if_neg (fun z => h2 z.2)]
  · rw [pairs_odd l h, if_neg (fun z => h z.1)]
theorem evens_mem : ∀ (l : List Int) (z : Int), z ∈ evensI l → z ∈ l
  | [], _, h => by simp [evensI] at h
  | [x], z, h => by simpa [evensI] using h
  | x :: y :: r, z, h => by
    have h : z ∈ x :: evensI r := h
    rcases List.mem_cons.mp h with e | e
    · exact e ▸ List.mem_cons_self
    · exact List.mem_cons_of_mem _ (List.mem_cons_of_mem _ (evens_mem r z e))
theorem nat_max {z : Int} : isNaturalUpToMax z = (decide (0 ≤ z) && decide (z ≤ 1000000000000000000)) := rfl
/-- a view in canonical form stays so -/
theorem canon_twice (off : Int) (ax : List Axis) : View.canonical (View.canonical off ax).offset (View.canonical off ax).axes = View.canonical off ax := by
  unfold View.canonical
  by_cases h : product (ax.map fun a => a.length) = 0
  · rw [if_pos h]
    have e : (ax.map fun a => (⟨a.length, 0⟩ : Axis)).map (fun a => a.length) = ax.map fun a => a.length := by rw [List.map_map]; rfl
    rw [e, if_pos h, List.map_map]; rfl
  · rw [if_neg h]
    have e : (ax.map fun a => if a.length = 1 then (⟨1, 0⟩ : Axis) else a).map (fun a => a.length) = ax.map fun a => a.length := by
      rw [List.map_map]
      refine List.map_congr_left fun a _ => ?_
      show (if a.length = 1 then (⟨1, 0⟩ : Axis) else a).length = a.length
      split
      · rename_i q; exact q.symm
      · rfl
    rw [e, if_neg h, List.map_map]
    congr 1
    refine List.map_congr_left fun a _ => ?_
    show (if (if a.length = 1 then (⟨1, 0⟩ : Axis) else a).length = 1 then (⟨1, 0⟩ : Axis) else if a.length = 1 then (⟨1, 0⟩ : Axis) else a) = if a.length = 1 then (⟨1, 0⟩ : Axis) else a
    by_cases q : a.length = 1
    · rw [if_pos q, if_pos rfl]
    · rw [if_neg q, if_neg q]
theorem fits_is (n : Nat) (off : Int) (ax : List Axis) : (View.canonical off ax).fitsArray n =
    (decide ((View.canonical off ax).size = 0) || (decide (0 ≤ (View.canonical off ax).offset + minStrideSum (View.canonical off ax).axes) && decide ((View.canonical off ax).offset + maxStrideSum (View.canonical off ax).axes < n))) := by
  unfold View.fitsArray
  rw [canon_twice]
  simp
/-- what is known of a stored view -/
structure ViewOk (v : View) : Prop where
  len : v.axes.length ≤ 6
  big : ∀ a ∈ v.axes, a.length ≤ 1000000000000000000
  str : ∀ a ∈ v.axes, a.stride.natAbs ≤ 1000000000000000000
  off : v.offset.natAbs ≤ 1000000000000000000
theorem canon_ok {off : Int} {ax : List Axis} (h : ViewOk ⟨off, ax⟩) : ViewOk (View.canonical off ax) := by
  unfold View.canonical
  by_cases q : product (ax.map fun a => a.length) = 0
  · rw [if_pos q]
    refine ⟨by rw [List.length_map]; exact h.len, fun a ha => ?_, fun a ha => ?_, Nat.zero_le _⟩
    · obtain ⟨b, hb, rfl⟩ := List.mem_map.mp ha
      exact h.big b hb
    · obtain ⟨b, hb, rfl⟩ := List.mem_map.mp ha
      show (0 : Int).natAbs ≤ _
      decide
  · rw [if_neg q]
    refine ⟨by rw [List.length_map]; exact h.len, fun a ha => ?_, fun a ha => ?_, h.off⟩
    · obtain ⟨b, hb, rfl⟩ := List.mem_map.mp ha
      by_cases e : b.length = 1
      · rw [if_pos e]; decide
      · rw [if_neg e]; exact h.big b hb
    · obtain ⟨b, hb, rfl⟩ := List.mem_map.mp ha
      by_cases e : b.length = 1
      · rw [if_pos e]; decide
      · rw [if_neg e]; exact h.str b hb
theorem whole_ok {n : Nat} (h : n ≤ 1000000000000000000) : ViewOk (View.whole n) :=
  canon_ok ⟨by simp, fun a ha => by have e : a = ⟨n, 1⟩ := by simpa using ha
                                    rw [e]; exact h, fun a ha => by have e : a = ⟨n, 1⟩ := by simpa using ha
                                                                    rw [e]; exact (by decide : (1 : Int).natAbs ≤ 1000000000000000000), Nat.zero_le _⟩
end Ov
end

section
set_option autoImplicit false
/-! What a search gives back: sizes. -/
namespace Ov
open VaviwBase Vaviwc

theorem assign_len : ∀ (b : Box) (l : List Int), (assignFree b l).length = b.length
  | [], _ => rfl
  | v :: b, l => by
    unfold assignFree
    split
    · rw [List.length_cons, assign_len b, List.length_cons]
    · rw [List.length_cons, assign_len b, List.length_cons]
theorem direct_len {t : Int} {b : Box} {v : List Int} (h : solveDirectly t b = some (.solution v)) : v.length = b.length := by
  unfold solveDirectly at h
  split at h
  · cases h
  · split at h
    · cases h
    · split at h
      · cases h; exact assign_len _ _
      · cases h; exact assign_len _ _
      · split at h
        · cases h; exact assign_len _ _
        · cases h
      · cases h
theorem bisect_len : ∀ (b x y : Box), bisect b = some (x, y) → x.length = b.length ∧ y.length = b.length
  | [], x, y, h => by cases h
  | v :: b, x, y, h => by
    unfold bisect at h
    split at h
    · injection h with h
      injection h with h1 h2
      subst h1 h2
      exact ⟨rfl, rfl⟩
    · cases hb : bisect b with
      | none => rw [hb] at h; cases h
      | some p =>
        obtain ⟨x', y'⟩ := p
        rw [hb] at h
        injection h with h
        injection h with h1 h2
        subst h1 h2
        have := bisect_len b x' y' hb
        exact ⟨by rw [List.length_cons, this.1, List.length_cons], by rw [List.length_cons, this.2, List.length_cons]⟩
theorem search_len (t : Int) : ∀ (d n : Nat) (b : Box) (v : List Int), (search t d n b).1 = .solution v → v.length = b.length
  | 0, _, _, _, h => by cases h
  | d + 1, 0, _, _, h => by cases h
  | d + 1, n + 1, b, v, h => by
    rw [search] at h
    cases hs : solveDirectly t b with
    | some x =>
      rw [hs] at h
      have h : x = .solution v := h
      rw [h] at hs
      exact direct_len hs
    | none =>
      rw [hs] at h
      dsimp only at h
      cases hb : bisect b with
      | none => rw [hb] at h; cases h
      | some p =>
        obtain ⟨x, y⟩ := p
        rw [hb] at h
        dsimp only at h
        have hl := bisect_len b x y hb
        have i1 := search_len t d n x
        rcases hx : search t d n x with ⟨r, m⟩
        rw [hx] at h i1
        cases r with
        | solution u =>
          have h : SearchResult.solution u = .solution v := h
          rw [← hl.1]; exact i1 v h
        | limitExceeded => cases h
        | infeasible c =>
          dsimp only at h
          have i2 := search_len t d m y
          rcases hy : search t d m y with ⟨r2, m2⟩
          rw [hy] at h i2
          cases r2 with
          | solution u =>
            have h : SearchResult.solution u = .solution v := h
            rw [← hl.2]; exact i2 v h
          | limitExceeded => cases h
          | infeasible c2 => cases h
/-- the specification's search, by the stack -/
theorem solve_is (t : Int) (b : Box) : onStack t [b] 2000 = (match Vaviwc.solve t b with
    | .infeasible c => .none_ c.encode
    | .solution v => .found v
    | .limitExceeded => .limit) := on_one t b 2001 2000 (by decide)
theorem solve_found {t : Int} {b : Box} {v : List Int} (h : onStack t [b] 2000 = .found v) : Vaviwc.solve t b = .solution v ∧ v.length = b.length := by
  rw [solve_is] at h
  cases hs : Vaviwc.solve t b with
  | solution u =>
    rw [hs] at h
    have h : Ends.found u = .found v := h
    injection h with h
    subst h
    exact ⟨rfl, search_len t 2001 2000 b u hs⟩
  | infeasible c => rw [hs] at h; cases h
  | limitExceeded => rw [hs] at h; cases h
theorem solve_none {t : Int} {b : Box} {l : List Int} (h : onStack t [b] 2000 = .none_ l) : ∃ c, Vaviwc.solve t b = .infeasible c ∧ l = c.encode ∧ l.length ≤ 2000 := by
  rw [solve_is] at h
  cases hs : Vaviwc.solve t b with
  | solution u => rw [hs] at h; cases h
  | infeasible c =>
    rw [hs] at h
    have h : Ends.none_ c.encode = .none_ l := h
    injection h with h
    subst h
    have := left_is t 2001 2000 b c hs
    exact ⟨c, rfl, rfl, by omega⟩
  | limitExceeded => rw [hs] at h; cases h
theorem solve_limit {t : Int} {b : Box} (h : onStack t [b] 2000 = .limit) : Vaviwc.solve t b = .limitExceeded := by
  rw [solve_is] at h
  cases hs : Vaviwc.solve t b with
  | solution u => rw [hs] at h; cases h
  | infeasible c => rw [hs] at h; cases h
  | limitExceeded => rfl
end Ov
end

section
set_option Elab.async false
set_option linter.all false
/-! Calls, taken apart. -/
namespace Ov
open Vaviwc (Call)
open VaviwcNeutral (callOf)

theorem whole_id (c : List (List Int)) : PyVaviwc.whole c = c := by
  unfold PyVaviwc.whole
  split <;> rfl
theorem wholes_id (cs : List (List (List Int))) : cs.map PyVaviwc.whole = cs := by
  conv => rhs; rw [← List.map_id cs]
  exact List.map_congr_left fun c _ => whole_id c
theorem drop_cons {l : List Int} {p : Nat} {n : Int} {r : List Int} (h : l.drop p = n :: r) : l[p]? = some n ∧ r = l.drop (p + 1) ∧ p < l.length := by
  have hp : p < l.length := by
    by_cases q : p < l.length
    · exact q
    · rw [List.drop_eq_nil_of_le (by omega)] at h; cases h
  rw [List.drop_eq_getElem_cons hp] at h
  injection h with h1 h2
  exact ⟨by rw [List.getElem?_eq_getElem hp, h1], h2.symm, hp⟩
theorem rows_succ {m : Nat} {r t : List Int} {rest : List (List Int)} (h : PyFlat.rows (m + 1) r = some (rest, t)) :
    ∃ n r' xs, r = n :: r' ∧ 0 ≤ n ∧ n.toNat ≤ r'.length ∧ rest = r'.take n.toNat :: xs ∧ PyFlat.rows m (r'.drop n.toNat) = some (xs, t) := by
  cases r with
  | nil => cases h
  | cons n r' =>
    unfold PyFlat.rows at h
    unfold PyFlat.row at h
    by_cases c : 0 ≤ n ∧ n.toNat ≤ r'.length
    · simp only [if_pos c] at h
      cases e : PyFlat.rows m (r'.drop n.toNat) with
      | none => rw [e] at h; cases h
      | some x =>
        rw [e] at h
        injection h with h
        injection h with h1 h2
        exact ⟨n, r', x.1, rfl, c.1, c.2, h1.symm, by rw [e, ← h2]⟩
    · simp only [if_neg c] at h
      cases h
theorem rows_zero {r t : List Int} {rest : List (List Int)} (h : PyFlat.rows 0 r = some (rest, t)) : rest = [] ∧ t = r := by
  injection h with h
  injection h with h1 h2
  exact ⟨h1.symm, h2.symm⟩
theorem call_some {sh : Int → Option (Nat × Nat)} {p : Int} {r t : List Int} {c : List (List Int)} (h : PyFlat.call sh (p :: r) = some (c, t)) :
    ∃ n k xs, sh p = some (n, k) ∧ n ≤ r.length ∧ PyFlat.rows k (r.drop n) = some (xs, t) ∧ c = (p :: r.take n) :: xs := by
  unfold PyFlat.call at h
  cases e : sh p with
  | none => simp only [e] at h; cases h
  | some x =>
    obtain ⟨n, k⟩ := x
    simp only [e] at h
    by_cases q : r.length < n
    · rw [if_pos q] at h; cases h
    · rw [if_neg q] at h
      cases e2 : PyFlat.rows k (r.drop n) with
      | none => rw [e2] at h; cases h
      | some y =>
        rw [e2] at h
        injection h with h
        injection h with h1 h2
        exact ⟨n, k, y.1, rfl, by omega, by rw [e2, ← h2], h1.symm⟩
theorem calls_cons {sh : Int → Option (Nat × Nat)} {f : Nat} {p : Int} {r : List Int} {cs : List (List (List Int))} (h : PyFlat.calls sh f (p :: r) = some cs) :
    ∃ f' c t cs', PyFlat.call sh (p :: r) = some (c, t) ∧ PyFlat.calls sh f' t = some cs' ∧ cs = c :: cs' := by
  cases f with
  | zero => cases h
  | succ f =>
    unfold PyFlat.calls at h
    cases e : PyFlat.call sh (p :: r) with
    | none => rw [e] at h; cases h
    | some x =>
      obtain ⟨c, t⟩ := x
      rw [e] at h
      simp only at h
      cases e2 : PyFlat.calls sh f t with
      | none => rw [e2] at h; cases h
      | some cs' =>
        rw [e2] at h
        injection h with h
        exact ⟨f, c, t, cs', rfl, e2, h.symm⟩
theorem calls_nil {sh : Int → Option (Nat × Nat)} {f : Nat} {cs : List (List (List Int))} (h : PyFlat.calls sh f [] = some cs) : cs = [] := by
  cases f with
  | zero => injection h with h; exact h.symm
  | succ f => injection h with h; exact h.symm
theorem shape_is {p : Int} {n k : Nat} (h : PyVaviwc.shape p = some (n, k)) : 0 ≤ p ∧ p < 16 ∧
    [((1 : Int), (0 : Int)), (2, 1), (1, 0), (1, 1), (1, 1), (1, 2), (2, 0), (2, 1), (1, 0), (1, 1), (2, 0), (1, 0), (2, 0), (2, 0), (1, 0), (2, 0)][p.toNat]? = some ((n : Int), (k : Int)) := by
  have main : ∀ q : Int, p = q → 0 ≤ q → q < 16 → (PyVaviwc.shape q).map (fun x => ((x.1 : Int), (x.2 : Int))) = [((1 : Int), (0 : Int)), (2, 1), (1, 0), (1, 1), (1, 1), (1, 2), (2, 0), (2, 1), (1, 0), (1, 1), (2, 0), (1, 0), (2, 0), (2, 0), (1, 0), (2, 0)][q.toNat]? → 0 ≤ p ∧ p < 16 ∧
      [((1 : Int), (0 : Int)), (2, 1), (1, 0), (1, 1), (1, 1), (1, 2), (2, 0), (2, 1), (1, 0), (1, 1), (2, 0), (1, 0), (2, 0), (2, 0), (1, 0), (2, 0)][p.toNat]? = some ((n : Int), (k : Int)) := by
    rintro q rfl h1 h2 h3
    exact ⟨h1, h2, by rw [← h3, h]; rfl⟩
  by_cases e : p = 0; · exact main 0 e (by decide) (by decide) rfl
  by_cases e : p = 1; · exact main 1 e (by decide) (by decide) rfl
  by_cases e : p = 2; · exact main 2 e (by decide) (by decide) rfl
  by_cases e : p = 3; · exact main 3 e (by decide) (by decide) rfl
  by_cases e : p = 4; · exact main 4 e (by decide) (by decide) rfl
  by_cases e : p = 5; · exact main 5 e (by decide) (by decide) rfl
  by_cases e : p = 6; · exact main 6 e (by decide) (by decide) rfl
  by_cases e : p = 7; · exact main 7 e (by decide) (by decide) rfl
  by_cases e : p = 8; · exact main 8 e (by decide) (by decide) rfl
  by_cases e : p = 9; · exact main 9 e (by decide) (by decide) rfl
  by_cases e : p = 10; · exact main 10 e (by decide) (by decide) rfl
  by_cases e : p = 11; · exact main 11 e (by decide) (by decide) rfl
  by_cases e : p = 12; · exact main 12 e (by decide) (by decide) rfl
  by_cases e : p = 13; · exact main 13 e (by decide) (by decide) rfl
  by_cases e : p = 14; · exact main 14 e (by decide) (by decide) rfl
  by_cases e : p = 15; · exact main 15 e (by decide) (by decide) rfl
  unfold PyVaviwc.shape at h
  simp only [*, if_false] at h
  cases h

/-! ### which call -/
/-- the numbers that a request may hold -/
def Sm (z : Int) : Prop := z.natAbs ≤ 1000000000000000000
theorem sm_of {z : Int} (h : VaviwcNeutral.whole60 z = true) : Sm z := by
  unfold VaviwcNeutral.whole60 at h
  rw [Bool.and_eq_true] at h
  have h1 := of_decide_eq_true h.1
  have h2 := of_decide_eq_true h.2
  unfold Sm
  omega
/-- a call, its numbers and rows within their bounds -/
inductive IsCall : Nat → List Int → List (List Int) → Call → Prop
  | c0 (n : Int) : Sm n → IsCall 0 [n] [] (.setLength n)
  | c1 (r s : Int) (l : List Int) : Sm r → Sm s → (∀ z ∈ l, Sm z) → l.length ≤ 20 → IsCall 1 [r, s] [l] (.setView r s l)
  | c2 (p : Int) : Sm p → IsCall 2 [p] [] (.getView p)
  | c3 (p : Int) (l : List Int) : Sm p → (∀ z ∈ l, Sm z) → l.length ≤ 20 → IsCall 3 [p] [l] (.cellAt p l)
  | c4 (t : Int) (l : List Int) : Sm t → (∀ z ∈ l, Sm z) → l.length ≤ 20 → IsCall 4 [t] [l] (.solve t l)
  | c5 (t : Int) (l c : List Int) : Sm t → (∀ z ∈ l, Sm z) → l.length ≤ 20 → (∀ z ∈ c, Sm z) → c.length ≤ 2500 → IsCall 5 [t] [l, c] (.checkCertificate t l c)
  | c6 (p q : Int) : Sm p → Sm q → IsCall 6 [p, q] [] (.findShared p q)
  | c7 (p q : Int) (c : List Int) : Sm p → Sm q → (∀ z ∈ c, Sm z) → c.length ≤ 2500 → IsCall 7 [p, q] [c] (.proveDisjoint p q c)
  | c8 (p : Int) : Sm p → IsCall 8 [p] [] (.findRepetition p)
  | c9 (p : Int) (c : List Int) : Sm p → (∀ z ∈ c, Sm z) → c.length ≤ 2500 → IsCall 9 [p] [c] (.proveDistinct p c)
  | c10 (p x : Int) : Sm p → Sm x → IsCall 10 [p, x] [] (.elementsWithCell p x)
  | c11 (p : Int) : Sm p → IsCall 11 [p] [] (.cellStatistics p)
  | c12 (p q : Int) : Sm p → Sm q → IsCall 12 [p, q] [] (.sharedStatistics p q)
  | c13 (p q : Int) : Sm p → Sm q → IsCall 13 [p, q] [] (.firstSharedPair p q)
  | c14 (p : Int) : Sm p → IsCall 14 [p] [] (.firstRepeated p)
  | c15 (p q : Int) : Sm p → Sm q → IsCall 15 [p, q] [] (.isCovered p q)
theorem all_sm {l : List Int} (h : l.all (fun (z : Int) => VaviwcNeutral.whole60 z) = true) : ∀ z ∈ l, Sm z := fun z hz => sm_of (List.all_eq_true.mp h z hz)
theorem is_call {c : List (List Int)} (h : VaviwcNeutral.asked1 c = true) : ∃ (i : Nat) (ns : List Int) (rs : List (List Int)) (k : Call), c = ((i : Int) :: ns) :: rs ∧ callOf c = some k ∧ IsCall i ns rs k := by
  unfold VaviwcNeutral.asked1 at h
  split at h
  · exact ⟨0, _, _, _, rfl, rfl, .c0 _ (sm_of h)⟩
  · simp only [Bool.and_eq_true, decide_eq_true_eq] at h
    exact ⟨1, _, _, _, rfl, rfl, .c1 _ _ _ (sm_of h.1) (sm_of h.2.1) (all_sm h.2.2.1) h.2.2.2⟩
  · exact ⟨2, _, _, _, rfl, rfl, .c2 _ (sm_of h)⟩
  · simp only [Bool.and_eq_true, decide_eq_true_eq] at h
    exact ⟨3, _, _, _, rfl, rfl, .c3 _ _ (sm_of h.1) (all_sm h.2.1) h.2.2⟩
  · simp only [Bool.and_eq_true, decide_eq_true_eq] at h
    exact ⟨4, _, _, _, rfl, rfl, .c4 _ _ (sm_of h.1) (all_sm h.2.1) h.2.2⟩
  · simp only [Bool.and_eq_true, decide_eq_true_eq] at h
    exact ⟨5, _, _, _, rfl, rfl, .c5 _ _ _ (sm_of h.1) (all_sm h.2.1.1) h.2.1.2 (all_sm h.2.2.1) h.2.2.2⟩
  · simp only [Bool.and_eq_true, decide_eq_true_eq] at h
    exact ⟨6, _, _, _, rfl, rfl, .c6 _ _ (sm_of h.1) (sm_of h.2)⟩
  · simp only [Bool.and_eq_true, decide_eq_true_eq] at h
    exact ⟨7, _, _, _, rfl, rfl, .c7 _ _ _ (sm_of h.1) (sm_of h.2.1) (all_sm h.2.2.1) h.2.2.2⟩
  · exact ⟨8, _, _, _, rfl, rfl, .c8 _ (sm_of h)⟩
  · simp only [Bool.and_eq_true, decide_eq_true_eq] at h
    exact ⟨9, _, _, _, rfl, rfl, .c9 _ _ (sm_of h.1) (all_sm h.2.1) h.2.2⟩
  · simp only [Bool.and_eq_true] at h
    exact ⟨10, _, _, _, rfl, rfl, .c10 _ _ (sm_of h.1) (sm_of h.2)⟩
  · exact ⟨11, _, _, _, rfl, rfl, .c11 _ (sm_of h)⟩
  · simp only [Bool.and_eq_true] at h
    exact ⟨12, _, _, _, rfl, rfl, .c12 _ _ (sm_of h.1) (sm_of h.2)⟩
  · simp only [Bool.and_eq_true] at h
    exact ⟨13, _, _, _, rfl, rfl, .c13 _ _ (sm_of h.1) (sm_of h.2)⟩
  · exact ⟨14, _, _, _, rfl, rfl, .c14 _ (sm_of h)⟩
  · simp only [Bool.and_eq_true] at h
    exact ⟨15, _, _, _, rfl, rfl, .c15 _ _ (sm_of h.1) (sm_of h.2)⟩
  · cases h

/-! ### the whole list -/
theorem told_cons (a : List Int) (l : List (List Int)) : PyFlat.told (a :: l) = ((a.length : Int) :: a) ++ PyFlat.told l := rfl
structure Ask (l : List Int) (cs : List (List (List Int))) : Prop where
  parse : PyFlat.calls PyVaviwc.shape l.length l = some cs
  all : ∀ c ∈ cs, VaviwcNeutral.asked1 c = true
  out : PyVaviwc.answers l = PyFlat.told (PyFlat.played VaviwcNeutral.step VaviwcNeutral.start cs)
  short : (PyFlat.told (PyFlat.played VaviwcNeutral.step VaviwcNeutral.start cs)).length ≤ 10000000
theorem asked_is {l : List Int} (h : PyVaviwc.answers_asked l = true) : ∃ cs, Ask l cs := by
  unfold PyVaviwc.answers_asked at h
  cases e : PyFlat.calls PyVaviwc.shape l.length l with
  | none => rw [e] at h; cases h
  | some cs =>
    rw [e] at h
    simp only [Bool.and_eq_true] at h
    obtain ⟨⟨_, h2⟩, h3⟩ := h
    rw [wholes_id] at h2
    unfold VaviwcNeutral.asked at h2
    rw [Bool.and_eq_true] at h2
    have eo : PyVaviwc.answers l = PyFlat.told (PyFlat.played VaviwcNeutral.step VaviwcNeutral.start cs) := by
      unfold PyVaviwc.answers PyVaviwc.calls
      rw [e]
      show PyFlat.told (PyFlat.played _ _ (cs.map PyVaviwc.whole)) = _
      rw [wholes_id]
    refine ⟨cs, e, fun c hc => List.all_eq_true.mp h2.1 c hc, eo, ?_⟩
    rw [← eo]
    exact of_decide_eq_true h3
theorem rows_len : ∀ (k : Nat) (r t : List Int) (xs : List (List Int)), PyFlat.rows k r = some (xs, t) → t.length ≤ r.length
  | 0, r, t, xs, h => by rw [(rows_zero h).2]; exact Nat.le_refl _
  | k + 1, r, t, xs, h => by
    obtain ⟨n, r', xs', rfl, _, _, _, h2⟩ := rows_succ h
    have := rows_len k _ _ _ h2
    rw [List.length_drop] at this
    show t.length ≤ r'.length + 1
    omega
def codeOf (r : Vaviwc.Outcome (Vaviwc.State × List Int)) : List Int := match r with
  | .ok x => x.2
  | .error z => [z]
def stateOf (s : Vaviwc.State) (r : Vaviwc.Outcome (Vaviwc.State × List Int)) : Vaviwc.State := match r with
  | .ok x => x.1
  | .error _ => s
theorem step_is {s : Vaviwc.State} {c : List (List Int)} {k : Call} (h : callOf c = some k) : VaviwcNeutral.step s c = (stateOf s (Vaviwc.outcome s k), codeOf (Vaviwc.outcome s k)) := by
  unfold VaviwcNeutral.step
  rw [h]
  show ((Vaviwc.step s k).1, VaviwcNeutral.encode (Vaviwc.step s k).2) = _
  unfold Vaviwc.step
  cases Vaviwc.outcome s k <;> rfl
theorem played_cons (s : Vaviwc.State) (c : List (List Int)) (cs : List (List (List Int))) : PyFlat.played VaviwcNeutral.step s (c :: cs) = (VaviwcNeutral.step s c).2 :: PyFlat.played VaviwcNeutral.step (VaviwcNeutral.step s c).1 cs := rfl
end Ov
end

section
set_option Elab.async false
set_option linter.all false
/-! Views in the array; repeated cells. -/
namespace Ov
open VaviwBase Vaviwc

/-! ### spans -/
theorem lens_pos {v : View} (h : v.size ≠ 0) : ∀ a ∈ v.axes, 1 ≤ a.length := by
  obtain ⟨off, ax⟩ := v
  have main : ∀ ax : List Axis, product (ax.map fun a => a.length) ≠ 0 → ∀ a ∈ ax, 1 ≤ a.length := by
    intro ax
    induction ax with
    | nil => intro _ a ha; cases ha
    | cons b ax ih =>
      intro h a ha
      have h : b.length * product (ax.map fun a => a.length) ≠ 0 := h
      rcases List.mem_cons.mp ha with e | ha
      · rw [e]
        rcases Nat.eq_zero_or_pos b.length with q | q
        · rw [q, Nat.zero_mul] at h; exact absurd rfl h
        · exact q
      · refine ih (fun q => ?_) a ha
        rw [q, Nat.mul_zero] at h; exact h rfl
  exact main ax h
theorem sums_sign : ∀ ax : List Axis, (∀ a ∈ ax, 1 ≤ a.length) → minStrideSum ax ≤ 0 ∧ 0 ≤ maxStrideSum ax ∧ ∀ a ∈ ax, minStrideSum ax ≤ a.stride * ((a.length : Int) - 1) ∧ a.stride * ((a.length : Int) - 1) ≤ maxStrideSum ax
  | [], _ => ⟨Int.le_refl 0, Int.le_refl 0, fun a ha => nomatch ha⟩
  | b :: ax, h => by
    obtain ⟨i1, i2, i3⟩ := sums_sign ax (fun a ha => h a (List.mem_cons_of_mem _ ha))
    have hb := h b List.mem_cons_self
    have e1 : minStrideSum (b :: ax) = (if b.stride < 0 then ((b.length : Int) - 1) * b.stride else 0) + minStrideSum ax := rfl
    have e2 : maxStrideSum (b :: ax) = (if 0 < b.stride then ((b.length : Int) - 1) * b.stride else 0) + maxStrideSum ax := rfl
    have hl : (0 : Int) ≤ (b.length : Int) - 1 := by omega
    have cm : ((b.length : Int) - 1) * b.stride = b.stride * ((b.length : Int) - 1) := Int.mul_comm _ _
    rw [e1, e2, cm]
    rcases Int.lt_trichotomy b.stride 0 with q | q | q
    · have : b.stride * ((b.length : Int) - 1) ≤ 0 := Int.mul_nonpos_of_nonpos_of_nonneg (by omega) hl
      rw [if_pos q, if_neg (by omega)]
      refine ⟨by omega, by omega, fun a ha => ?_⟩
      rcases List.mem_cons.mp ha with e | ha
      · rw [e]; omega
      · have := i3 a ha; omega
    · rw [if_neg (by omega), if_neg (by omega)]
      refine ⟨by omega, by omega, fun a ha => ?_⟩
      rcases List.mem_cons.mp ha with e | ha
      · rw [e, q, Int.zero_mul]; omega
      · have := i3 a ha; omega
    · have : 0 ≤ b.stride * ((b.length : Int) - 1) := Int.mul_nonneg (by omega) hl
      rw [if_neg (by omega), if_pos q]
      refine ⟨by omega, by omega, fun a ha => ?_⟩
      rcases List.mem_cons.mp ha with e | ha
      · rw [e]; omega
      · have := i3 a ha; omega
theorem fits_out {n : Nat} {v : View} (h : v.fitsArray n = true) (hs : v.size ≠ 0) : 0 ≤ v.offset + minStrideSum v.axes ∧ v.offset + maxStrideSum v.axes < n := by
  unfold View.fitsArray at h
  rw [decide_eq_false hs] at h
  simp only [Bool.and_eq_true, Bool.false_or, decide_eq_true_eq] at h
  exact h.2
theorem span_le {n : Nat} {v : View} (h : v.fitsArray n = true) (hs : v.size ≠ 0) : ∀ a ∈ v.axes, (a.stride * ((a.length : Int) - 1)).natAbs ≤ n := fun a ha => by
  obtain ⟨h1, h2⟩ := fits_out h hs
  obtain ⟨i1, i2, i3⟩ := sums_sign v.axes (lens_pos hs)
  have := i3 a ha
  omega
theorem whole_fits (n : Nat) : (View.whole n).fitsArray n = true := by
  unfold View.whole
  rw [fits_is]
  unfold View.canonical
  by_cases q : product (List.map (fun a => a.length) [(⟨n, 1⟩ : Axis)]) = 0
  · rw [if_pos q]
    have : View.size ⟨0, List.map (fun a => (⟨a.length, 0⟩ : Axis)) [(⟨n, 1⟩ : Axis)]⟩ = 0 := q
    rw [decide_eq_true this]; rfl
  · rw [if_neg q]
    have q : n * 1 ≠ 0 := q
    by_cases e : n = 1
    · subst e; decide
    · have e2 : List.map (fun a => if a.length = 1 then (⟨1, 0⟩ : Axis) else a) [(⟨n, 1⟩ : Axis)] = [⟨n, 1⟩] := by simp [e]
      rw [e2]
      have m1 : minStrideSum [(⟨n, 1⟩ : Axis)] = 0 := by simp [minStrideSum]
      have m2 : maxStrideSum [(⟨n, 1⟩ : Axis)] = (n : Int) - 1 := by simp [maxStrideSum]
      rw [m1, m2]
      have d1 : decide ((0 : Int) ≤ 0 + 0) = true := by decide
      have d2 : decide ((0 : Int) + ((n : Int) - 1) < n) = true := decide_eq_true (by omega)
      show (_ || (decide ((0 : Int) ≤ 0 + 0) && decide ((0 : Int) + ((n : Int) - 1) < n))) = true
      rw [d1, d2]
      simp

/-! ### the equation of repeated cells -/
def repTarget (a : Axis) (l : List Axis) : Int := l.foldr (fun x z => x.stride * ((x.length : Int) - 1) + z) (-a.stride)
def repBox (a : Axis) (l : List Axis) : Box := ⟨a.stride, 0, (a.length : Int) - 2⟩ :: l.map fun x => ⟨x.stride, 0, 2 * ((x.length : Int) - 1)⟩
theorem rep_is (a : Axis) (l : List Axis) : repeatedCellEquation (a :: l) = if a.length ≤ 1 then none else some (repTarget a l, repBox a l) := rfl
theorem repTarget_sum (a : Axis) (l : List Axis) : repTarget a l = (l.map fun x => x.stride * ((x.length : Int) - 1)).sum - a.stride := by
  unfold repTarget
  induction l with
  | nil => simp
  | cons b l ih => rw [List.foldr_cons, ih, List.map_cons, List.sum_cons]; omega
theorem repTarget_small {a : Axis} {l : List Axis} (h1 : a.stride.natAbs ≤ 1000000000000000000) (hl : l.length ≤ 6) (h2 : ∀ x ∈ l, (x.stride * ((x.length : Int) - 1)).natAbs ≤ 1000000000000000000) : (repTarget a l).natAbs ≤ 7000000000000000000 := by
  have main : ∀ l : List Axis, (∀ x ∈ l, (x.stride * ((x.length : Int) - 1)).natAbs ≤ 1000000000000000000) → (repTarget a l).natAbs ≤ l.length * 1000000000000000000 + 1000000000000000000 := by
    intro l
    induction l with
    | nil => intro _; show (-a.stride).natAbs ≤ _; omega
    | cons b l ih =>
      intro h
      have i := ih fun x hx => h x (List.mem_cons_of_mem _ hx)
      have hb := h b List.mem_cons_self
      show (b.stride * ((b.length : Int) - 1) + repTarget a l).natAbs ≤ (l.length + 1) * _ + _
      omega
  have := main l h2
  omega
theorem repBox_low (a : Axis) (l : List Axis) : Low0 (repBox a l) := fun v hv => by
  rcases List.mem_cons.mp hv with e | hv
  · rw [e]
  · obtain ⟨x, _, rfl⟩ := List.mem_map.mp hv; rfl
theorem repBox_co {a : Axis} {l : List Axis} (h : ∀ x ∈ a :: l, x.stride.natAbs ≤ 1000000000000000000) : ∀ v ∈ repBox a l, v.coefficient.natAbs ≤ 1000000000000000000 := fun v hv => by
  rcases List.mem_cons.mp hv with e | hv
  · rw [e]; exact h a List.mem_cons_self
  · obtain ⟨x, hx, rfl⟩ := List.mem_map.mp hv; exact h x (List.mem_cons_of_mem _ hx)
theorem repBox_up {a : Axis} {l : List Axis} (h : ∀ x ∈ a :: l, x.length ≤ 1000000000000000000) : ∀ v ∈ repBox a l, v.upper.natAbs < 2 ^ 64 := fun v hv => by
  rcases List.mem_cons.mp hv with e | hv
  · rw [e]
    have := h a List.mem_cons_self
    show ((a.length : Int) - 2).natAbs < _
    omega
  · obtain ⟨x, hx, rfl⟩ := List.mem_map.mp hv
    have := h x (List.mem_cons_of_mem _ hx)
    show (2 * ((x.length : Int) - 1)).natAbs < _
    omega
theorem repBox_len (a : Axis) (l : List Axis) : (repBox a l).length = l.length + 1 := by
  unfold repBox
  rw [List.length_cons, List.length_map]

/-! ### all searches of one call -/
theorem rep_skip {n k : Nat} {l : List Axis} {rest : List (Nat × List Axis)} (h : repeatedCellEquation l = none) : findRepetitionFrom n ((k, l) :: rest) = findRepetitionFrom n rest := by
  rw [findRepetitionFrom, h]
theorem rep_found {n k : Nat} {t : Int} {b : Box} {l : List Axis} {v : List Int} {rest : List (Nat × List Axis)} (h : repeatedCellEquation l = some (t, b)) (hn : n ≤ 2000) (hs : onStack t [b] n = .found v) :
    findRepetitionFrom n ((k, l) :: rest) = .indices ((List.replicate k 0 ++ indexDifferences l v).map fun z => max 0 (-z)) ((List.replicate k 0 ++ indexDifferences l v).map fun z => max 0 z) ∧ v.length = b.length := by
  have o := on_one t b (maxBoxes + 1) n (by show n < 2001; omega)
  rw [hs] at o
  have hl := search_len t (maxBoxes + 1) n b
  rw [findRepetitionFrom, h]
  dsimp only
  rcases hr : search t (maxBoxes + 1) n b with ⟨r, m⟩
  rw [hr] at o hl
  cases r with
  | solution v' => injection o with o; subst o; exact ⟨rfl, hl _ rfl⟩
  | limitExceeded => cases o
  | infeasible c => cases o
theorem rep_limit {n k : Nat} {t : Int} {b : Box} {l : List Axis} {rest : List (Nat × List Axis)} (h : repeatedCellEquation l = some (t, b)) (hn : n ≤ 2000) (hs : onStack t [b] n = .limit) :
    findRepetitionFrom n ((k, l) :: rest) = .limitExceeded := by
  have o := on_one t b (maxBoxes + 1) n (by show n < 2001; omega)
  rw [hs] at o
  rw [findRepetitionFrom, h]
  dsimp only
  rcases hr : search t (maxBoxes + 1) n b with ⟨r, m⟩
  rw [hr] at o
  cases r with
  | solution v' => cases o
  | limitExceeded => rfl
  | infeasible c => cases o
/-- a certificate takes as many boxes as it has numbers -/
theorem rep_none {n k : Nat} {t : Int} {b : Box} {l : List Axis} {w : List Int} {rest : List (Nat × List Axis)} (h : repeatedCellEquation l = some (t, b)) (hn : n ≤ 2000) (hs : onStack t [b] n = .none_ w) :
    ∃ c : Certificate, w = c.encode ∧ w.length ≤ n ∧ findRepetitionFrom n ((k, l) :: rest) = (match findRepetitionFrom (n - w.length) rest with
      | .distinct cs => .distinct (c :: cs)
      | z => z) := by
  have o := on_one t b (maxBoxes + 1) n (by show n < 2001; omega)
  rw [hs] at o
  have lf := left_is t (maxBoxes + 1) n b
  rw [findRepetitionFrom, h]
  dsimp only
  rcases hr : search t (maxBoxes + 1) n b with ⟨r, m⟩
  rw [hr] at o lf
  cases r with
  | solution v' => cases o
  | limitExceeded => cases o
  | infeasible c =>
    injection o with o
    have lf : m + c.encode.length = n := lf c rfl
    refine ⟨c, o, by rw [o]; omega, ?_⟩
    have e : n - w.length = m := by rw [o]; omega
    rw [e]
    dsimp only
    cases findRepetitionFrom m rest <;> rfl

/-! ### certificates one behind the other -/
theorem dec_at {c : Certificate} {l r : List Int} (h : l = c.encode ++ r) : decodeCertificate (l.length + 1) l = some (c, r) := by
  rw [h]
  exact dec_enc c _ r (by rw [List.length_append]; omega)
theorem proves_skip {k : Nat} {ax : List Axis} {rest : List (Nat × List Axis)} {l : List Int} (h : repeatedCellEquation ax = none) : provesDistinct ((k, ax) :: rest) l = provesDistinct rest l := by
  rw [provesDistinct, h]
theorem proves_one {k : Nat} {t : Int} {b : Box} {ax : List Axis} {rest : List (Nat × List Axis)} {l r : List Int} {c : Certificate} (h : repeatedCellEquation ax = some (t, b)) (hl : l = c.encode ++ r) :
    provesDistinct ((k, ax) :: rest) l = (isValid t b c && provesDistinct rest r) := by
  rw [provesDistinct, h]
  dsimp only
  rw [dec_at hl]
theorem proves_not {k : Nat} {t : Int} {b : Box} {ax : List Axis} {rest : List (Nat × List Axis)} {l : List Int} (h : repeatedCellEquation ax = some (t, b)) (hl : ∀ (c : Certificate) (r : List Int), l ≠ c.encode ++ r) :
    provesDistinct ((k, ax) :: rest) l = false := by
  rw [provesDistinct, h]
  dsimp only
  cases hd : decodeCertificate (l.length + 1) l with
  | none => rfl
  | some x => exact absurd (dec_sound _ _ _ _ hd) (hl x.1 x.2)
/-- read on from m missing claims: what is left behind the last of them -/
def restOne : Nat → List Int → Option (List Int)
  | 0, l => some l
  | _ + 1, [] => none
  | m + 1, k :: l => if k = 0 then restOne (m + 2) l else if k = 1 ∨ k = 2 ∨ k = 3 then restOne m l else none
theorem rest_enc : ∀ (c : Certificate) (m : Nat) (l : List Int), restOne (m + 1) (c.encode ++ l) = restOne m l
  | .range, m, l => by simp [Certificate.encode, restOne]
  | .divisibility, m, l => by simp [Certificate.encode, restOne]
  | .twoVariables, m, l => by simp [Certificate.encode, restOne]
  | .bisection x y, m, l => by
    show restOne (m + 1) (0 :: ((x.encode ++ y.encode) ++ l)) = _
    rw [restOne, if_pos rfl, List.append_assoc, rest_enc x (m + 1), rest_enc y m]
theorem rest_some : ∀ (l : List Int) (m : Nat) (r : List Int), restOne m l = some r → ∃ cs : List Certificate, cs.length = m ∧ l = cs.flatMap Certificate.encode ++ r
  | l, 0, r, h => by
    cases l <;> (injection h with h; exact ⟨[], rfl, by simpa using h⟩)
  | [], m + 1, r, h => by cases h
  | k :: l, m + 1, r, h => by
    rw [restOne] at h
    by_cases k0 : k = 0
    · rw [if_pos k0] at h
      obtain ⟨cs, h1, h2⟩ := rest_some l (m + 2) r h
      match cs, h1, h2 with
      | x :: y :: cs, h1, h2 =>
        refine ⟨.bisection x y :: cs, by simpa using h1, ?_⟩
        rw [h2, k0]
        simp [Certificate.encode, List.flatMap_cons, List.append_assoc]
    · rw [if_neg k0] at h
      by_cases k1 : k = 1 ∨ k = 2 ∨ k = 3
      · rw [if_pos k1] at h
        obtain ⟨cs, h1, h2⟩ := rest_some l m r h
        rcases k1 with e | e | e
        · exact ⟨.range :: cs, by simpa using h1, by rw [h2, e]; simp [Certificate.encode, List.flatMap_cons]⟩
        · exact ⟨.divisibility :: cs, by simpa using h1, by rw [h2, e]; simp [Certificate.encode, List.flatMap_cons]⟩
        · exact ⟨.twoVariables :: cs, by simpa using h1, by rw [h2, e]; simp [Certificate.encode, List.flatMap_cons]⟩
      · rw [if_neg k1] at h; cases h
theorem rest_yes {l r : List Int} (h : restOne 1 l = some r) : ∃ c : Certificate, l = c.encode ++ r := by
  obtain ⟨cs, h1, h2⟩ := rest_some l 1 r h
  match cs, h1, h2 with
  | [c], _, h2 => exact ⟨c, by rw [h2]; simp⟩
theorem rest_no {l : List Int} (h : restOne 1 l = none) (c : Certificate) (r : List Int) : l ≠ c.encode ++ r := fun e => by
  rw [e, rest_enc c 0 r] at h
  cases r <;> cases h
end Ov
end

section
set_option Elab.async false
set_option linter.all false
/-! All cells of a view, in row-major order. -/
namespace Ov
open VaviwBase Vaviwc

/-- axis by axis, the outermost first -/
def cellsR : Int → List Axis → List Int
  | off, [] => [off]
  | off, a :: ax => (List.range a.length).flatMap fun (i : Nat) => cellsR (off + (i : Int) * a.stride) ax
theorem range_mul {α : Type} (m : Nat) (f : Nat → α) : ∀ n, (List.range (n * m)).map f = (List.range n).flatMap fun i => (List.range m).map fun j => f (i * m + j)
  | 0 => by simp
  | n + 1 => by
    rw [Nat.succ_mul, List.range_add, List.map_append, range_mul m f n, List.range_succ, List.flatMap_append, List.map_map]
    simp only [List.flatMap_cons, List.flatMap_nil, List.append_nil]
    rfl
def elemE (ax : List Axis) (k : Nat) : Int := strideSum ax (multiIndex (ax.map fun a => a.length) k)
theorem elemE_at (a : Axis) (ax : List Axis) (i j : Nat) (hj : j < product (ax.map fun a => a.length)) : elemE (a :: ax) (i * product (ax.map fun a => a.length) + j) = (i : Int) * a.stride + elemE ax j := by
  have hp : 0 < product (ax.map fun a => a.length) := by omega
  have e1 : (i * product (ax.map fun a => a.length) + j) / product (ax.map fun a => a.length) = i := by
    rw [Nat.mul_comm, Nat.mul_add_div hp, Nat.div_eq_of_lt hj, Nat.add_zero]
  have e2 : (i * product (ax.map fun a => a.length) + j) % product (ax.map fun a => a.length) = j := by
    rw [Nat.mul_comm, Nat.mul_add_mod, Nat.mod_eq_of_lt hj]
  show (((i * product (ax.map fun a => a.length) + j) / product (ax.map fun a => a.length) : Nat) : Int) * a.stride + strideSum ax (multiIndex _ ((i * product (ax.map fun a => a.length) + j) % product (ax.map fun a => a.length))) = _
  rw [e1, e2]; rfl
theorem cellsR_is : ∀ (ax : List Axis) (off : Int), (List.range (product (ax.map fun a => a.length))).map (fun k => off + elemE ax k) = cellsR off ax
  | [], off => by
    show (List.range 1).map (fun k => off + elemE [] k) = [off]
    have : elemE [] 0 = 0 := rfl
    simp [List.range_succ, this]
  | a :: ax, off => by
    show (List.range (a.length * product (ax.map fun a => a.length))).map _ = _
    rw [range_mul]
    unfold cellsR
    rw [List.flatMap_def, List.flatMap_def]
    congr 1
    refine List.map_congr_left fun i _ => ?_
    rw [← cellsR_is ax]
    refine List.map_congr_left fun j hj => ?_
    rw [elemE_at a ax i j (List.mem_range.mp hj)]
    omega
theorem cells_is (v : View) : v.cells = cellsR v.offset v.axes := cellsR_is v.axes v.offset
theorem cells_len (v : View) : v.cells.length = v.size := by
  unfold View.cells
  rw [List.length_map, List.length_range]
/-- .. by growing a list from the first axis on -/
def growA : List Int → List Axis → List Int
  | cs, [] => cs
  | cs, a :: ax => growA (cs.flatMap fun c => (List.range a.length).map fun (i : Nat) => c + (i : Int) * a.stride) ax
theorem growA_is : ∀ (ax : List Axis) (cs : List Int), growA cs ax = cs.flatMap fun c => cellsR c ax
  | [], cs => by
    show cs = cs.flatMap fun c => [c]
    simp
  | a :: ax, cs => by
    rw [growA, growA_is ax, List.flatMap_assoc]
    congr 1
    funext c
    rw [List.flatMap_map]; rfl
theorem growA_cells (v : View) : growA [v.offset] v.axes = v.cells := by
  rw [growA_is, cells_is]
  simp
theorem growA_take {ax : List Axis} {cs : List Int} {i : Nat} {a : Axis} (h : ax[i]? = some a) : growA cs (ax.take (i + 1)) = (growA cs (ax.take i)).flatMap fun c => (List.range a.length).map fun (i : Nat) => c + (i : Int) * a.stride := by
  have e : ax.take (i + 1) = ax.take i ++ [a] := by rw [List.take_succ, h]; rfl
  have main : ∀ (l : List Axis) (cs : List Int), growA cs (l ++ [a]) = (growA cs l).flatMap fun c => (List.range a.length).map fun (i : Nat) => c + (i : Int) * a.stride := by
    intro l
    induction l with
    | nil => intro cs; rfl
    | cons b l ih => intro cs; exact ih _
  rw [e, main]
/-- .. or from the last axis on, by distances -/
theorem cellsR_shift : ∀ (ax : List Axis) (off d : Int), cellsR (off + d) ax = (cellsR off ax).map (· + d)
  | [], off, d => rfl
  | a :: ax, off, d => by
    unfold cellsR
    rw [List.map_flatMap]
    congr 1
    funext i
    rw [show off + d + (i : Int) * a.stride = (off + (i : Int) * a.stride) + d by omega, cellsR_shift ax]
theorem cellsR_cons (off : Int) (a : Axis) (ax : List Axis) : cellsR off (a :: ax) = (List.range a.length).flatMap fun (i : Nat) => (cellsR off ax).map fun c => c + (i : Int) * a.stride := by
  rw [cellsR]
  congr 1
  funext i
  rw [cellsR_shift]
/-- cells of a stored view are cells of the array -/
theorem cell_in : ∀ (ax : List Axis) (off : Int), (∀ a ∈ ax, 1 ≤ a.length) → ∀ c ∈ cellsR off ax, off + minStrideSum ax ≤ c ∧ c ≤ off + maxStrideSum ax
  | [], off, _, c, h => by
    have e : c = off := by simpa [cellsR] using h
    show off + 0 ≤ c ∧ c ≤ off + 0
    omega
  | a :: ax, off, hl, c, h => by
    obtain ⟨i, hi, hc⟩ := List.mem_flatMap.mp (show c ∈ (List.range a.length).flatMap fun (i : Nat) => cellsR (off + (i : Int) * a.stride) ax from h)
    have hi := List.mem_range.mp hi
    have ih := cell_in ax _ (fun a ha => hl a (List.mem_cons_of_mem _ ha)) c hc
    have e1 : minStrideSum (a :: ax) = (if a.stride < 0 then ((a.length : Int) - 1) * a.stride else 0) + minStrideSum ax := rfl
    have e2 : maxStrideSum (a :: ax) = (if 0 < a.stride then ((a.length : Int) - 1) * a.stride else 0) + maxStrideSum ax := rfl
    rw [e1, e2]
    rcases Int.lt_trichotomy a.stride 0 with q | q | q
    · rw [if_pos q, if_neg (by omega)]
      have h1 : ((a.length : Int) - 1) * a.stride ≤ (i : Int) * a.stride := Int.mul_le_mul_of_nonpos_right (by omega) (by omega)
      have h2 : (i : Int) * a.stride ≤ 0 := Int.mul_nonpos_of_nonneg_of_nonpos (by omega) (by omega)
      omega
    · rw [if_neg (by omega), if_neg (by omega)]
      rw [q, Int.mul_zero] at ih
      omega
    · rw [if_neg (by omega), if_pos q]
      have h1 : (i : Int) * a.stride ≤ ((a.length : Int) - 1) * a.stride := Int.mul_le_mul_of_nonneg_right (by omega) (by omega)
      have h2 : 0 ≤ (i : Int) * a.stride := Int.mul_nonneg (by omega) (by omega)
      omega
theorem cells_in {n : Nat} {v : View} (h : v.fitsArray n = true) : ∀ c ∈ v.cells, 0 ≤ c ∧ c < n := fun c hc => by
  by_cases hs : v.size = 0
  · have := cells_len v
    rw [hs] at this
    rw [List.eq_nil_of_length_eq_zero this] at hc
    cases hc
  · obtain ⟨f1, f2⟩ := fits_out h hs
    rw [cells_is] at hc
    have := cell_in v.axes v.offset (lens_pos hs) c hc
    omega
end Ov
end

section
set_option Elab.async false
set_option linter.all false
/-! Counts over lists of cells. -/
namespace Ov
open VaviwBase Vaviwc

/-! ### positions -/
theorem pos_len (x : Int) : ∀ (l : List Int) (k : Nat), (positionsOf x k l).length = l.count x
  | [], k => rfl
  | c :: l, k => by
    rw [positionsOf, List.count_cons]
    by_cases e : c = x
    · rw [if_pos e, List.length_cons, pos_len x l]
      simp [e]
    · rw [if_neg e, pos_len x l]
      simp [e]
theorem occ_count (l : List Int) (x : Int) : occurrences l x = l.count x := pos_len x l 0
theorem pos_append (x : Int) : ∀ (l r : List Int) (k : Nat), positionsOf x k (l ++ r) = positionsOf x k l ++ positionsOf x (k + l.length) r
  | [], r, k => rfl
  | c :: l, r, k => by
    show (if c = x then k :: positionsOf x (k + 1) (l ++ r) else positionsOf x (k + 1) (l ++ r)) = (if c = x then k :: positionsOf x (k + 1) l else positionsOf x (k + 1) l) ++ _
    rw [pos_append x l r, List.length_cons, show k + 1 + l.length = k + (l.length + 1) by omega]
    split <;> rfl
theorem pos_snoc (x c : Int) (l : List Int) (k : Nat) : positionsOf x k (l ++ [c]) = if c = x then positionsOf x k l ++ [k + l.length] else positionsOf x k l := by
  rw [pos_append]
  show _ ++ (if c = x then [k + l.length] else []) = _
  split
  · rfl
  · exact List.append_nil _
theorem pos_range (x : Int) (l : List Int) : positionsOf x 0 l = (List.range l.length).filter fun i => decide (l.getD i 0 = x) := by
  have main : ∀ (l : List Int) (k : Nat), positionsOf x k l = ((List.range l.length).filter fun i => decide (l.getD i 0 = x)).map (k + ·) := by
    intro l
    induction l with
    | nil => intro k; rfl
    | cons c l ih =>
      intro k
      rw [positionsOf, ih, List.length_cons, List.range_succ_eq_map, List.filter_cons, List.filter_map]
      have e : ((fun i => decide ((c :: l).getD i 0 = x)) ∘ Nat.succ) = fun i => decide (l.getD i 0 = x) := rfl
      have e0 : decide ((c :: l).getD 0 0 = x) = decide (c = x) := rfl
      rw [e, e0]
      have e2 : ∀ m : List Nat, (m.map Nat.succ).map (k + ·) = m.map (k + 1 + ·) := fun m => by
        rw [List.map_map]
        exact List.map_congr_left fun i _ => by show k + (i + 1) = k + 1 + i; omega
      by_cases q : c = x
      · rw [if_pos q, if_pos (decide_eq_true q), List.map_cons, e2]; rfl
      · rw [if_neg q, if_neg (by rw [decide_eq_false q]; exact Bool.false_ne_true), e2]
  have h := main l 0
  rw [h]
  simp
/-- the first position -/
def firstAt (x : Int) : List Int → Option Nat
  | [] => none
  | c :: l => if c = x then some 0 else (firstAt x l).map (· + 1)
theorem pos_first (x : Int) : ∀ (l : List Int) (k : Nat), (positionsOf x k l).head? = (firstAt x l).map (k + ·)
  | [], k => rfl
  | c :: l, k => by
    rw [positionsOf, firstAt]
    by_cases e : c = x
    · rw [if_pos e, if_pos e]; rfl
    · rw [if_neg e, if_neg e, pos_first x l]
      cases firstAt x l with
      | none => rfl
      | some j => show some (k + 1 + j) = some (k + (j + 1)); congr 1; omega
theorem first_none {x : Int} : ∀ {l : List Int}, firstAt x l = none ↔ x ∉ l
  | [] => by simp [firstAt]
  | c :: l => by
    rw [firstAt]
    by_cases e : c = x
    · rw [if_pos e]; simp [e]
    · rw [if_neg e, Option.map_eq_none_iff, first_none (l := l)]
      simp [Ne.symm e]
theorem first_some {x : Int} : ∀ {l : List Int} {j : Nat}, firstAt x l = some j → l[j]? = some x ∧ ∀ i, i < j → l[i]? ≠ some x
  | [], j, h => by cases h
  | c :: l, j, h => by
    rw [firstAt] at h
    by_cases e : c = x
    · rw [if_pos e] at h
      obtain rfl := Option.some.inj h
      exact ⟨by rw [e]; rfl, fun i hi => by omega⟩
    · rw [if_neg e] at h
      cases q : firstAt x l with
      | none => rw [q] at h; cases h
      | some i =>
        rw [q] at h
        obtain rfl := Option.some.inj h
        obtain ⟨h1, h2⟩ := first_some q
        refine ⟨h1, fun m hm => ?_⟩
        match m, hm with
        | 0, _ => exact fun z => e (Option.some.inj z)
        | m + 1, hm => exact h2 m (Nat.lt_of_succ_lt_succ hm)

/-! ### different elements -/
def addNew (f : List Int) (x : Int) : List Int := if f.contains x then f else f ++ [x]
theorem dist_snoc (l : List Int) (x : Int) : distinctElements (l ++ [x]) = if (distinctElements l).contains x then distinctElements l else distinctElements l ++ [x] := by
  unfold distinctElements
  rw [List.foldl_append]; rfl
theorem snoc_rec {α : Type} {P : List α → Prop} (h0 : P []) (h1 : ∀ l x, P l → P (l ++ [x])) (l : List α) : P l := by
  have : ∀ m : List α, P m.reverse := by
    intro m
    induction m with
    | nil => exact h0
    | cons x m ih => rw [List.reverse_cons]; exact h1 _ _ ih
  have h := this l.reverse
  rwa [List.reverse_reverse] at h
theorem mem_dist (x : Int) (l : List Int) : x ∈ distinctElements l ↔ x ∈ l := by
  refine snoc_rec (P := fun l => x ∈ distinctElements l ↔ x ∈ l) (Iff.rfl) (fun l y ih => ?_) l
  rw [dist_snoc]
  by_cases c : (distinctElements l).contains y = true
  · rw [if_pos c, ih]
    have hy : y ∈ distinctElements l := by simpa using c
    constructor
    · exact fun h => List.mem_append_left _ h
    · intro h
      rcases List.mem_append.mp h with h | h
      · exact h
      · have e : x = y := by simpa using h
        rw [e]
        rw [e] at ih
        exact ih.mp hy
  · rw [if_neg c, List.mem_append, ih, List.mem_append]
theorem dist_nodup (l : List Int) : (distinctElements l).Nodup := by
  refine snoc_rec (P := fun l => (distinctElements l).Nodup) List.nodup_nil (fun l y ih => ?_) l
  rw [dist_snoc]
  by_cases c : (distinctElements l).contains y = true
  · rw [if_pos c]; exact ih
  · rw [if_neg c]
    refine List.nodup_append.mpr ⟨ih, List.nodup_cons.mpr ⟨by simp, List.nodup_nil⟩, fun a ha b hb e => ?_⟩
    have hb : b = y := by simpa using hb
    rw [e, hb] at ha
    exact c (by simpa using ha)
/-- a sum over the different elements, each as often as it occurs -/
theorem sum_upd (f g : Int → Nat) (y : Int) (c : Nat) : ∀ d : List Int, d.Nodup → y ∈ d → (∀ x, g x = if x = y then f x + c else f x) → (d.map g).sum = (d.map f).sum + c
  | [], _, h, _ => by cases h
  | x :: d, hd, hy, hg => by
    rw [List.map_cons, List.map_cons, List.sum_cons, List.sum_cons]
    have hd := List.nodup_cons.mp hd
    by_cases e : x = y
    · have : d.map g = d.map f := List.map_congr_left fun z hz => by rw [hg, if_neg (fun q => hd.1 (by rw [e, ← q]; exact hz))]
      rw [this, hg, if_pos e]
      omega
    · have hy2 : y ∈ d := by
        rcases List.mem_cons.mp hy with q | q
        · exact absurd q.symm e
        · exact q
      rw [sum_upd f g y c d hd.2 hy2 hg, hg, if_neg e]
      omega
theorem sum_dist (w : Int → Nat) (l : List Int) : ((distinctElements l).map fun x => occurrences l x * w x).sum = (l.map w).sum := by
  refine snoc_rec (P := fun l => ((distinctElements l).map fun x => occurrences l x * w x).sum = (l.map w).sum) rfl (fun l y ih => ?_) l
  have step : ∀ x, occurrences (l ++ [y]) x * w x = if x = y then occurrences l x * w x + w y else occurrences l x * w x := fun x => by
    rw [occ_count, occ_count, List.count_append]
    by_cases e : x = y
    · rw [if_pos e, e]
      simp [Nat.succ_mul]
    · rw [if_neg e]
      have : [y].count x = 0 := List.count_eq_zero.mpr (by simpa using e)
      rw [this, Nat.add_zero]
  rw [List.map_append, List.sum_append, List.map_cons, List.map_nil, List.sum_cons, List.sum_nil, Nat.add_zero, dist_snoc]
  by_cases c : (distinctElements l).contains y = true
  · rw [if_pos c, sum_upd (fun x => occurrences l x * w x) (fun x => occurrences (l ++ [y]) x * w x) y (w y) _ (dist_nodup l) (by simpa using c) step, ih]
  · rw [if_neg c, List.map_append, List.sum_append]
    have hy : y ∉ distinctElements l := fun h => c (by simpa using h)
    have e1 : (distinctElements l).map (fun x => occurrences (l ++ [y]) x * w x) = (distinctElements l).map (fun x => occurrences l x * w x) := List.map_congr_left fun x hx => by
      rw [step, if_neg (fun q => hy (by rw [← q]; exact hx))]
    rw [e1, ih]
    have e2 : occurrences (l ++ [y]) y = 1 := by
      rw [occ_count, List.count_append]
      have : l.count y = 0 := List.count_eq_zero.mpr (fun h => hy ((mem_dist y l).mpr h))
      rw [this]
      simp
    rw [List.map_cons, List.map_nil, List.sum_cons, List.sum_nil, e2, Nat.one_mul, Nat.add_zero]
/-- shared cells and pairs -/
theorem shared_pairs (l r : List Int) : ((((distinctElements l).filter fun x => r.contains x).map fun x => occurrences l x * occurrences r x).sum) = (l.map fun x => occurrences r x).sum := by
  rw [← sum_dist (fun x => occurrences r x) l]
  have main : ∀ d : List Int, ((d.filter fun x => r.contains x).map fun x => occurrences l x * occurrences r x).sum = (d.map fun x => occurrences l x * occurrences r x).sum := by
    intro d
    induction d with
    | nil => rfl
    | cons x d ih =>
      rw [List.filter_cons, List.map_cons, List.sum_cons]
      by_cases c : r.contains x = true
      · rw [if_pos c, List.map_cons, List.sum_cons, ih]
      · rw [if_neg c, ih]
        have : occurrences r x = 0 := by
          rw [occ_count]
          exact List.count_eq_zero.mpr (fun h => c (by simpa using h))
        rw [this, Nat.mul_zero, Nat.zero_add]
  exact main _

/-! ### the least of the most frequent -/
theorem min_spec : ∀ (l : List Int), l ≠ [] → minimum l ∈ l ∧ ∀ x ∈ l, minimum l ≤ x
  | [], h => absurd rfl h
  | [x], _ => ⟨List.mem_singleton.mpr rfl, fun y hy => by have e : y = x := by simpa using hy
                                                          rw [e]; exact Int.le_refl _⟩
  | x :: y :: l, _ => by
    obtain ⟨h1, h2⟩ := min_spec (y :: l) (by simp)
    have e : minimum (x :: y :: l) = min x (minimum (y :: l)) := rfl
    rw [e]
    refine ⟨?_, fun z hz => ?_⟩
    · rcases Int.le_total x (minimum (y :: l)) with q | q
      · rw [Int.min_eq_left q]; exact List.mem_cons_self
      · rw [Int.min_eq_right q]; exact List.mem_cons_of_mem _ h1
    · rcases List.mem_cons.mp hz with q | q
      · rw [q]; exact Int.min_le_left _ _
      · exact Int.le_trans (Int.min_le_right _ _) (h2 z q)
theorem min_uniq {l : List Int} {m : Int} (h1 : m ∈ l) (h2 : ∀ x ∈ l, m ≤ x) : minimum l = m := by
  obtain ⟨a, b⟩ := min_spec l (fun e => by rw [e] at h1; cases h1)
  have := b m h1
  have := h2 _ a
  omega
theorem max_fold (f : Int → Nat) : ∀ (l : List Int) (m : Nat), m ≤ l.foldl (fun n x => Nat.max n (f x)) m ∧ (∀ x ∈ l, f x ≤ l.foldl (fun n x => Nat.max n (f x)) m) ∧ (l.foldl (fun n x => Nat.max n (f x)) m = m ∨ ∃ x ∈ l, f x = l.foldl (fun n x => Nat.max n (f x)) m)
  | [], m => ⟨Nat.le_refl _, (fun x hx => nomatch hx), .inl rfl⟩
  | y :: l, m => by
    obtain ⟨h1, h2, h3⟩ := max_fold f l (Nat.max m (f y))
    rw [List.foldl_cons]
    have a1 : m ≤ Nat.max m (f y) := Nat.le_max_left _ _
    have a2 : f y ≤ Nat.max m (f y) := Nat.le_max_right _ _
    refine ⟨Nat.le_trans a1 h1, fun x hx => ?_, ?_⟩
    · rcases List.mem_cons.mp hx with q | q
      · rw [q]; exact Nat.le_trans a2 h1
      · exact h2 x q
    · rcases h3 with h3 | ⟨x, hx, e⟩
      · rcases Nat.le_total m (f y) with q | q
        · right
          refine ⟨y, List.mem_cons_self, ?_⟩
          rw [h3]; exact (Nat.max_eq_right q).symm
        · left
          rw [h3]; exact Nat.max_eq_left q
      · exact .inr ⟨x, List.mem_cons_of_mem _ hx, e⟩
/-- the answer to cell_statistics, by what it says -/
theorem stats_is {l : List Int} {m : Nat} {c : Int} (hc : c ∈ l) (hm : l.count c = m) (h1 : ∀ x ∈ l, l.count x ≤ m) (h2 : ∀ x ∈ l, l.count x = m → c ≤ x) :
    cellStatisticsOf l = ((distinctElements l).length, m, c) := by
  unfold cellStatisticsOf
  have em : (distinctElements l).foldl (fun n x => Nat.max n (occurrences l x)) 0 = m := by
    obtain ⟨a1, a2, a3⟩ := max_fold (fun x => occurrences l x) (distinctElements l) 0
    have b1 := a2 c ((mem_dist c l).mpr hc)
    rw [occ_count] at b1
    rcases a3 with a3 | ⟨x, hx, e⟩
    · rw [a3] at b1
      have : 0 < l.count c := List.count_pos_iff.mpr hc
      omega
    · have hx := (mem_dist x l).mp hx
      have := h1 x hx
      rw [← occ_count] at this
      have e : occurrences l x = _ := e
      rw [e] at this
      omega
  dsimp only
  rw [em]
  congr 2
  refine min_uniq ?_ fun x hx => ?_
  · rw [List.mem_filter]
    exact ⟨(mem_dist c l).mpr hc, decide_eq_true (by rw [occ_count]; exact hm)⟩
  · rw [List.mem_filter] at hx
    exact h2 x ((mem_dist x l).mp hx.1) (by rw [← occ_count]; exact of_decide_eq_true hx.2)
theorem stats_nil : cellStatisticsOf [] = (0, 0, 0) := rfl

/-! ### the first shared pair, the first repeated element, the first missing one -/
theorem shared_step_some {r l : List Int} {x : Int} {k j : Nat} (h : firstAt x r = some j) : firstSharedPairOf r k (x :: l) = some (k, j) := by
  have p := pos_first x r 0
  rw [h] at p
  rw [firstSharedPairOf]
  cases q : positionsOf x 0 r with
  | nil => rw [q] at p; cases p
  | cons a b =>
    rw [q] at p
    have p : some a = some (0 + j) := p
    rw [Option.some.inj p, Nat.zero_add]
theorem shared_step_none {r l : List Int} {x : Int} {k : Nat} (h : x ∉ r) : firstSharedPairOf r k (x :: l) = firstSharedPairOf r (k + 1) l := by
  have p := pos_first x r 0
  rw [first_none.mpr h] at p
  rw [firstSharedPairOf]
  cases q : positionsOf x 0 r with
  | nil => rfl
  | cons a b => rw [q] at p; cases p
theorem repeated_step_some {l : List Int} {x : Int} {k j : Nat} (h : firstAt x l = some j) : firstRepeatedOf k (x :: l) = some (k, k + 1 + j) := by
  have p := pos_first x l (k + 1)
  rw [h] at p
  rw [firstRepeatedOf]
  cases q : positionsOf x (k + 1) l with
  | nil => rw [q] at p; cases p
  | cons a b =>
    rw [q] at p
    have p : some a = some (k + 1 + j) := p
    rw [Option.some.inj p]
theorem repeated_step_none {l : List Int} {x : Int} {k : Nat} (h : x ∉ l) : firstRepeatedOf k (x :: l) = firstRepeatedOf (k + 1) l := by
  have p := pos_first x l (k + 1)
  rw [first_none.mpr h] at p
  rw [firstRepeatedOf]
  cases q : positionsOf x (k + 1) l with
  | nil => rfl
  | cons a b => rw [q] at p; cases p
theorem missing_step_in {r l : List Int} {x : Int} {k : Nat} (h : x ∈ r) : firstMissingOf r k (x :: l) = firstMissingOf r (k + 1) l := by
  rw [firstMissingOf, if_pos (by simpa using h)]
theorem missing_step_out {r l : List Int} {x : Int} {k : Nat} (h : x ∉ r) : firstMissingOf r k (x :: l) = some k := by
  rw [firstMissingOf, if_neg (by simpa using h)]
end Ov
end

section
set_option Elab.async false
set_option linter.all false
/-! Axes from the last one on. -/
namespace Ov
open VaviwBase Vaviwc
theorem suffixes_is : ∀ (ax : List Axis) (k : Nat), axisSuffixes k ax = (List.range ax.length).reverse.map fun i => (k + i, ax.drop i)
  | [], k => rfl
  | a :: l, k => by
    rw [axisSuffixes, suffixes_is l (k + 1), List.length_cons, List.range_succ_eq_map, List.reverse_cons, List.map_append, ← List.map_reverse, List.map_map]
    congr 1
    exact List.map_congr_left fun i _ => by
      show (k + 1 + i, l.drop i) = (k + (i + 1), (a :: l).drop (i + 1))
      rw [show k + 1 + i = k + (i + 1) by omega]; rfl
/-- the axes before the i-th are still to come -/
def suffixTo (ax : List Axis) (i : Nat) : List (Nat × List Axis) := (List.range i).reverse.map fun j => (j, ax.drop j)
theorem suffixTo_all (ax : List Axis) : axisSuffixes 0 ax = suffixTo ax ax.length := by
  rw [suffixes_is]
  unfold suffixTo
  exact List.map_congr_left fun i _ => by rw [Nat.zero_add]
theorem suffixTo_succ (ax : List Axis) (i : Nat) : suffixTo ax (i + 1) = (i, ax.drop i) :: suffixTo ax i := by
  unfold suffixTo
  rw [List.range_succ, List.reverse_append]; rfl
theorem suffixTo_zero (ax : List Axis) : suffixTo ax 0 = [] := rfl
theorem drop_axis {ax : List Axis} {i : Nat} {a : Axis} (h : ax[i]? = some a) : ax.drop i = a :: ax.drop (i + 1) := by
  obtain ⟨hi, e⟩ := List.getElem?_eq_some_iff.mp h
  rw [List.drop_eq_getElem_cons hi, e]
end Ov
end

section
set_option Elab.async false
set_option linter.all false
/-! A list cut into certificates; the axes that equations of repeated cells start from. -/
namespace Ov
open VaviwBase Vaviwc

/-- m claims behind the next one are missing, cur is read of the certificate at hand -/
def sepGo : Nat → List Int → List Int → Option (List (List Int))
  | _, cur, [] => if cur = [] then some [] else none
  | m, cur, k :: l => if k = 0 then sepGo (m + 1) (cur ++ [k]) l else if k = 1 ∨ k = 2 ∨ k = 3 then
      (match m with
        | 0 => (sepGo 0 [] l).map ((cur ++ [k]) :: ·)
        | m + 1 => sepGo m (cur ++ [k]) l) else none
theorem sep_step (m : Nat) (cur : List Int) (k : Int) (l : List Int) : sepGo m cur (k :: l) = if k = 0 then sepGo (m + 1) (cur ++ [k]) l else if k = 1 ∨ k = 2 ∨ k = 3 then
      (match m with
        | 0 => (sepGo 0 [] l).map ((cur ++ [k]) :: ·)
        | m + 1 => sepGo m (cur ++ [k]) l) else none := by
  cases m <;> rfl
def sepOf (l : List Int) : Option (List (List Int)) := sepGo 0 [] l
theorem sep_enc : ∀ (c : Certificate) (m : Nat) (cur l : List Int), sepGo m cur (c.encode ++ l) = (match m with
    | 0 => (sepGo 0 [] l).map ((cur ++ c.encode) :: ·)
    | m + 1 => sepGo m (cur ++ c.encode) l)
  | .range, 0, cur, l => rfl
  | .range, m + 1, cur, l => rfl
  | .divisibility, 0, cur, l => rfl
  | .divisibility, m + 1, cur, l => rfl
  | .twoVariables, 0, cur, l => rfl
  | .twoVariables, m + 1, cur, l => rfl
  | .bisection x y, m, cur, l => by
    show sepGo m cur (0 :: ((x.encode ++ y.encode) ++ l)) = _
    have e : sepGo m cur (0 :: ((x.encode ++ y.encode) ++ l)) = sepGo (m + 1) (cur ++ [0]) ((x.encode ++ y.encode) ++ l) := if_pos rfl
    rw [e, List.append_assoc, sep_enc x (m + 1)]
    show sepGo m _ _ = _
    rw [sep_enc y m]
    have e2 : cur ++ [0] ++ x.encode ++ y.encode = cur ++ (Certificate.bisection x y).encode := by simp [Certificate.encode]
    rw [e2]
theorem sep_cons (c : Certificate) (r : List Int) : sepOf (c.encode ++ r) = (sepOf r).map (c.encode :: ·) := by
  unfold sepOf
  rw [sep_enc c 0]
  rfl
theorem sep_none : ∀ (l cur : List Int) (m : Nat), cur ≠ [] ∨ l ≠ [] → restOne (m + 1) l = none → sepGo m cur l = none
  | [], cur, m, h, _ => by
    rcases h with h | h
    · exact if_neg h
    · exact absurd rfl h
  | k :: l, cur, m, _, h => by
    rw [restOne] at h
    rw [sep_step]
    by_cases k0 : k = 0
    · rw [if_pos k0] at h ⊢
      exact sep_none l _ _ (.inl (by simp)) h
    · rw [if_neg k0] at h ⊢
      by_cases k1 : k = 1 ∨ k = 2 ∨ k = 3
      · rw [if_pos k1] at h ⊢
        match m, h with
        | 0, h => cases l <;> cases h
        | m + 1, h => exact sep_none l _ _ (.inl (by simp)) h
      · rw [if_neg k1]
theorem sep_nil : sepOf [] = some [] := rfl
/-- what is cut off the front -/
theorem sep_cases (l : List Int) : (l = [] ∧ sepOf l = some []) ∨ (l ≠ [] ∧ restOne 1 l = none ∧ sepOf l = none) ∨ ∃ (c : Certificate) (r : List Int), l = c.encode ++ r ∧ sepOf l = (sepOf r).map (c.encode :: ·) := by
  cases h : restOne 1 l with
  | none =>
    by_cases e : l = []
    · exact .inl ⟨e, by rw [e]; rfl⟩
    · exact .inr (.inl ⟨e, rfl, sep_none l [] 0 (.inr e) h⟩)
  | some r =>
    obtain ⟨c, rfl⟩ := rest_yes h
    exact .inr (.inr ⟨c, r, rfl, sep_cons c r⟩)
theorem sep_each : ∀ (n : Nat) (l : List Int) (xs : List (List Int)), l.length ≤ n → sepOf l = some xs → (∀ x ∈ xs, oneOf 1 x = true ∧ x.length ≤ l.length) ∧ xs.length ≤ l.length
  | 0, l, xs, hl, h => by
    have e : l = [] := List.eq_nil_of_length_eq_zero (by omega)
    subst e
    cases h
    exact ⟨(fun x hx => nomatch hx), Nat.le_refl _⟩
  | n + 1, l, xs, hl, h => by
    rcases sep_cases l with ⟨e, e2⟩ | ⟨_, _, e2⟩ | ⟨c, r, e, e2⟩
    · rw [e2] at h
      cases h
      exact ⟨(fun x hx => nomatch hx), Nat.zero_le _⟩
    · rw [e2] at h; cases h
    · rw [e2] at h
      cases h3 : sepOf r with
      | none => rw [h3] at h; cases h
      | some ys =>
        rw [h3] at h
        cases h
        have cp := enc_pos c
        have ll : l.length = c.encode.length + r.length := by rw [e, List.length_append]
        obtain ⟨i1, i2⟩ := sep_each n r ys (by omega) h3
        refine ⟨fun x hx => ?_, by rw [List.length_cons]; omega⟩
        rcases List.mem_cons.mp hx with q | q
        · rw [q]
          refine ⟨?_, by omega⟩
          have o := one_enc c 0 []
          rw [List.append_nil] at o
          exact o
        · have := i1 x q
          exact ⟨this.1, by omega⟩
def lenIs1 : Option (List (List Int)) → Bool
  | none => false
  | some xs => decide (xs.length = 1)
theorem sep_one (l : List Int) : lenIs1 (sepOf l) = oneOf 1 l := by
  rcases sep_cases l with ⟨e, e2⟩ | ⟨_, h, e2⟩ | ⟨c, r, e, e2⟩
  · rw [e2, e]; rfl
  · rw [e2]
    cases h1 : oneOf 1 l with
    | false => rfl
    | true =>
      obtain ⟨c, e, _⟩ := cert_yes h1
      rw [e, ← List.append_nil c.encode, rest_enc c 0 []] at h
      cases h
  · rw [e2]
    have o : oneOf 1 l = oneOf 0 r := by rw [e]; exact one_enc c 0 r
    rw [o]
    rcases sep_cases r with ⟨e3, e4⟩ | ⟨n0, _, e4⟩ | ⟨c2, r2, e3, e4⟩
    · rw [e4, e3]; rfl
    · rw [e4]
      cases r with
      | nil => exact absurd rfl n0
      | cons _ _ => rfl
    · rw [e4]
      have cp := enc_pos c2
      have : r ≠ [] := fun q => by
        have := congrArg List.length (q.symm.trans e3)
        rw [List.length_append] at this
        have : 0 = c2.encode.length + r2.length := this
        omega
      cases r with
      | nil => exact absurd rfl this
      | cons _ _ =>
        cases sepOf r2 <;> rfl

/-! ### the axes with an equation -/
def eqsOf (sf : List (Nat × List Axis)) : List (Int × Box) := sf.filterMap fun p => repeatedCellEquation p.2
def allValid : List (Int × Box) → List (List Int) → Bool
  | e :: es, x :: xs => onClaims e.1 [e.2] x && allValid es xs
  | _, _ => true
theorem proves_is : ∀ (sf : List (Nat × List Axis)) (l : List Int), provesDistinct sf l = (match sepOf l with
    | none => false
    | some xs => decide (xs.length = (eqsOf sf).length) && allValid (eqsOf sf) xs)
  | [], l => by
    rw [provesDistinct]
    rcases sep_cases l with ⟨e, e2⟩ | ⟨n0, _, e2⟩ | ⟨c, r, e, e2⟩
    · rw [e2, e]; rfl
    · rw [e2]
      cases l with
      | nil => exact absurd rfl n0
      | cons _ _ => rfl
    · rw [e2]
      have cp := enc_pos c
      have : l.isEmpty = false := by
        cases l with
        | nil =>
          have := congrArg List.length e
          rw [List.length_append] at this
          have : 0 = c.encode.length + r.length := this
          omega
        | cons _ _ => rfl
      rw [this]
      cases sepOf r <;> rfl
  | (k, ax) :: rest, l => by
    cases h : repeatedCellEquation ax with
    | none =>
      have e : eqsOf ((k, ax) :: rest) = eqsOf rest := by
        unfold eqsOf
        exact List.filterMap_cons_none (f := fun p : Nat × List Axis => repeatedCellEquation p.2) h
      rw [proves_skip h, proves_is rest, e]
    | some tb =>
      obtain ⟨t, b⟩ := tb
      have e : eqsOf ((k, ax) :: rest) = (t, b) :: eqsOf rest := by
        unfold eqsOf
        exact List.filterMap_cons_some (f := fun p : Nat × List Axis => repeatedCellEquation p.2) h
      rw [e]
      rcases sep_cases l with ⟨e1, e2⟩ | ⟨_, h1, e2⟩ | ⟨c, r, e1, e2⟩
      · rw [e2, proves_not h fun c r q => ?_]
        · rfl
        · have cp := enc_pos c
          have := congrArg List.length (e1.symm.trans q)
          rw [List.length_append] at this
          have : 0 = c.encode.length + r.length := this
          omega
      · rw [e2, proves_not h fun c r => rest_no h1 c r]
      · rw [proves_one h e1, proves_is rest r, e2, ← claims_one]
        cases sepOf r with
        | none => exact Bool.and_false _
        | some xs =>
          show (onClaims t [b] c.encode && (decide (xs.length = (eqsOf rest).length) && allValid (eqsOf rest) xs)) = (decide (xs.length + 1 = (eqsOf rest).length + 1) && (onClaims t [b] c.encode && allValid (eqsOf rest) xs))
          have d : decide (xs.length + 1 = (eqsOf rest).length + 1) = decide (xs.length = (eqsOf rest).length) := decide_eq_decide.mpr (by omega)
          rw [d, ← Bool.and_assoc, ← Bool.and_assoc, Bool.and_comm (onClaims t [b] c.encode)]
/-- the axes by their numbers, the last one first -/
def axesI (v : View) : List Nat := if v.size = 0 then [] else ((List.range v.axes.length).reverse.filter fun i => decide (2 ≤ (v.axes.getD i ⟨0, 0⟩).length))
theorem rep_drop {ax : List Axis} {i : Nat} {a : Axis} (h : ax[i]? = some a) : repeatedCellEquation (ax.drop i) = if a.length ≤ 1 then none else some (repTarget a (ax.drop (i + 1)), repBox a (ax.drop (i + 1))) := by
  rw [drop_axis h, rep_is]
/-- the equation of repeated cells from an axis on -/
def eqAt (v : View) (i : Nat) : Int × Box := (repTarget (v.axes.getD i ⟨0, 0⟩) (v.axes.drop (i + 1)), repBox (v.axes.getD i ⟨0, 0⟩) (v.axes.drop (i + 1)))
theorem suffix_fm (ax : List Axis) : ∀ n, n ≤ ax.length → (suffixTo ax n).filterMap (fun p => repeatedCellEquation p.2) = (((List.range n).reverse.filter fun i => decide (2 ≤ (ax.getD i ⟨0, 0⟩).length))).map fun i => (repTarget (ax.getD i ⟨0, 0⟩) (ax.drop (i + 1)), repBox (ax.getD i ⟨0, 0⟩) (ax.drop (i + 1)))
  | 0, _ => rfl
  | n + 1, hn => by
    have ga : ax[n]? = some ax[n] := List.getElem?_eq_getElem (by omega)
    have gd : ax.getD n ⟨0, 0⟩ = ax[n] := by rw [List.getD_eq_getElem?_getD, ga]; rfl
    rw [suffixTo_succ, List.range_succ, List.reverse_append]
    show List.filterMap _ ((n, ax.drop n) :: suffixTo ax n) = List.map _ (List.filter _ (n :: (List.range n).reverse))
    have r := rep_drop ga
    by_cases q : ax[n].length ≤ 1
    · rw [if_pos q] at r
      rw [List.filterMap_cons_none (f := fun p : Nat × List Axis => repeatedCellEquation p.2) r, List.filter_cons_of_neg (by rw [gd]; simp; omega), suffix_fm ax n (by omega)]
    · rw [if_neg q] at r
      rw [List.filterMap_cons_some (f := fun p : Nat × List Axis => repeatedCellEquation p.2) r, List.filter_cons_of_pos (by rw [gd]; simp; omega), List.map_cons, suffix_fm ax n (by omega), gd]
theorem eqs_is (v : View) : eqsOf (suffixesOf v) = (axesI v).map (eqAt v) := by
  unfold suffixesOf axesI eqsOf
  by_cases h : v.size = 0
  · rw [if_pos h, if_pos h]; rfl
  · rw [if_neg h, if_neg h, suffixTo_all, suffix_fm v.axes _ (Nat.le_refl _)]; rfl
theorem axesI_mem {v : View} {i : Nat} (h : i ∈ axesI v) : v.size ≠ 0 ∧ i < v.axes.length ∧ 2 ≤ (v.axes.getD i ⟨0, 0⟩).length := by
  unfold axesI at h
  by_cases q : v.size = 0
  · rw [if_pos q] at h; cases h
  · rw [if_neg q, List.mem_filter, List.mem_reverse, List.mem_range] at h
    exact ⟨q, h.1, of_decide_eq_true h.2⟩
theorem axesI_len (v : View) : (axesI v).length ≤ v.axes.length := by
  unfold axesI
  split
  · exact Nat.zero_le _
  · have := List.length_filter_le (fun i => decide (2 ≤ (v.axes.getD i ⟨0, 0⟩).length)) (List.range v.axes.length).reverse
    rw [List.length_reverse, List.length_range] at this
    exact this

/-! ### all searches, by the axes' numbers -/
inductive RepEnd where
  | found (k : Nat) (v : List Int)
  | none_ (l : List Int)
  | limit
/-- certificates so far, axes to come -/
def repGo (v : View) : List Int → List Nat → RepEnd
  | cs, [] => .none_ cs
  | cs, i :: is => match onStack (eqAt v i).1 [(eqAt v i).2] (2000 - cs.length) with
    | .found x => .found i x
    | .none_ l => repGo v (cs ++ l) is
    | .limit => .limit
/-- what the specification makes of it -/
def RepIs (v : View) (pre : List Certificate) : RepEnd → RepetitionResult → Prop
  | .found k x, r => r = .indices ((List.replicate k 0 ++ indexDifferences (v.axes.drop k) x).map fun z => max 0 (-z)) ((List.replicate k 0 ++ indexDifferences (v.axes.drop k) x).map fun z => max 0 z) ∧ x.length + k = v.axes.length
  | .none_ l, r => ∃ cs : List Certificate, r = .distinct cs ∧ l = (pre ++ cs).flatMap Certificate.encode ∧ l.length ≤ 2000
  | .limit, r => r = .limitExceeded
theorem rep_go (v : View) : ∀ (n : Nat) (pre : List Certificate) (cs : List Int), n ≤ v.axes.length → cs = pre.flatMap Certificate.encode → cs.length ≤ 2000 →
    RepIs v pre (repGo v cs ((List.range n).reverse.filter fun i => decide (2 ≤ (v.axes.getD i ⟨0, 0⟩).length))) (findRepetitionFrom (2000 - cs.length) (suffixTo v.axes n))
  | 0, pre, cs, _, hc, hl => ⟨[], rfl, by rw [List.append_nil]; exact hc, hl⟩
  | n + 1, pre, cs, hn, hc, hl => by
    have ga : v.axes[n]? = some v.axes[n] := List.getElem?_eq_getElem (by omega)
    have gd : v.axes.getD n ⟨0, 0⟩ = v.axes[n] := by rw [List.getD_eq_getElem?_getD, ga]; rfl
    have r := rep_drop ga
    rw [suffixTo_succ, List.range_succ, List.reverse_append]
    show RepIs v pre (repGo v cs (List.filter _ (n :: (List.range n).reverse))) _
    by_cases q : v.axes[n].length ≤ 1
    · rw [if_pos q] at r
      rw [List.filter_cons_of_neg (by rw [gd]; simp; omega), rep_skip r]
      exact rep_go v n pre cs (by omega) hc hl
    · rw [if_neg q] at r
      rw [List.filter_cons_of_pos (by rw [gd]; simp; omega), repGo]
      have r2 : repeatedCellEquation (v.axes.drop n) = some (eqAt v n) := by
        rw [r]
        unfold eqAt
        rw [gd]
      cases ho : onStack (eqAt v n).1 [(eqAt v n).2] (2000 - cs.length) with
      | found x =>
        obtain ⟨h1, h2⟩ := rep_found (k := n) (rest := suffixTo v.axes n) r2 (by omega) ho
        refine ⟨h1, ?_⟩
        have : (eqAt v n).2.length = (v.axes.drop (n + 1)).length + 1 := repBox_len _ _
        have h2 : x.length = (eqAt v n).2.length := h2
        rw [List.length_drop, ← h2] at this
        omega
      | none_ l =>
        obtain ⟨c, e1, e2, e3⟩ := rep_none (k := n) (rest := suffixTo v.axes n) r2 (by omega) ho
        have ih := rep_go v n (pre ++ [c]) (cs ++ l) (by omega) (by rw [hc, e1]; simp) (by rw [List.length_append]; omega)
        have en : 2000 - (cs ++ l).length = 2000 - cs.length - l.length := by rw [List.length_append]; omega
        rw [en] at ih
        rw [e3]
        dsimp only
        cases hg : repGo v (cs ++ l) (List.filter (fun i => decide (2 ≤ (v.axes.getD i ⟨0, 0⟩).length)) (List.range n).reverse) with
        | found k x =>
          rw [hg] at ih
          obtain ⟨i1, i2⟩ := ih
          rw [i1]
          exact ⟨rfl, i2⟩
        | none_ w =>
          rw [hg] at ih
          obtain ⟨cs2, i1, i2, i3⟩ := ih
          rw [i1]
          exact ⟨c :: cs2, rfl, by rw [i2]; simp, i3⟩
        | limit =>
          rw [hg] at ih
          have ih : findRepetitionFrom (2000 - cs.length - l.length) (suffixTo v.axes n) = .limitExceeded := ih
          rw [ih]
          exact rfl
      | limit => exact rep_limit (k := n) (rest := suffixTo v.axes n) r2 (by omega) ho
theorem rep_all (v : View) : RepIs v [] (repGo v [] (axesI v)) (findRepetition v) := by
  unfold findRepetition axesI suffixesOf
  by_cases h : v.size = 0
  · rw [if_pos h, if_pos h]
    exact ⟨[], rfl, rfl, Nat.zero_le _⟩
  · rw [if_neg h, if_neg h, suffixTo_all]
    exact rep_go v v.axes.length [] [] (Nat.le_refl _) rfl (Nat.zero_le _)
end Ov
end

section
set_option Elab.async false
set_option linter.all false
/-! Small views: sizes of lists of cells, orders of first elements. -/
namespace Ov
open VaviwBase Vaviwc

/-! ### sizes -/
theorem flat_len (n : Nat) (s : Int) : ∀ cs : List Int, (cs.flatMap fun c => (List.range n).map fun (i : Nat) => c + (i : Int) * s).length = cs.length * n
  | [] => by simp
  | c :: cs => by
    rw [List.flatMap_cons, List.length_append, flat_len n s cs, List.length_map, List.length_range, List.length_cons, Nat.succ_mul]
    omega
theorem growA_len : ∀ (ax : List Axis) (cs : List Int), (growA cs ax).length = cs.length * product (ax.map fun a => a.length)
  | [], cs => by
    show cs.length = cs.length * 1
    omega
  | a :: ax, cs => by
    rw [growA, growA_len ax, flat_len]
    show _ = cs.length * (a.length * product (ax.map fun a => a.length))
    rw [Nat.mul_assoc]
theorem prod_take : ∀ (ax : List Axis) (i : Nat), (∀ a ∈ ax, 1 ≤ a.length) → product ((ax.take i).map fun a => a.length) ≤ product (ax.map fun a => a.length)
  | [], i, _ => by rw [List.take_nil]; exact Nat.le_refl _
  | a :: ax, 0, h => by
    show 1 ≤ a.length * product (ax.map fun a => a.length)
    have h1 := h a List.mem_cons_self
    have h2 := prod_take ax 0 fun b hb => h b (List.mem_cons_of_mem _ hb)
    have h2 : 1 ≤ product (ax.map fun a => a.length) := h2
    exact Nat.mul_le_mul h1 h2
  | a :: ax, i + 1, h => by
    show a.length * product ((ax.take i).map fun a => a.length) ≤ a.length * product (ax.map fun a => a.length)
    exact Nat.mul_le_mul_left _ (prod_take ax i fun b hb => h b (List.mem_cons_of_mem _ hb))
theorem axis_le : ∀ (ax : List Axis), (∀ a ∈ ax, 1 ≤ a.length) → ∀ a ∈ ax, a.length ≤ product (ax.map fun a => a.length)
  | [], _, a, h => nomatch h
  | b :: ax, h, a, ha => by
    show a.length ≤ b.length * product (ax.map fun a => a.length)
    have h2 : 1 ≤ product (ax.map fun a => a.length) := prod_take ax 0 fun b hb => h b (List.mem_cons_of_mem _ hb)
    have h1 := h b List.mem_cons_self
    rcases List.mem_cons.mp ha with q | q
    · rw [q]; exact Nat.le_mul_of_pos_right _ h2
    · exact Nat.le_trans (axis_le ax (fun b hb => h b (List.mem_cons_of_mem _ hb)) a q) (Nat.le_mul_of_pos_left _ h1)

/-! ### first elements -/
theorem dist_pre (a : List Int) : ∀ b : List Int, ∃ t, distinctElements (a ++ b) = distinctElements a ++ t := by
  refine snoc_rec ⟨[], by rw [List.append_nil, List.append_nil]⟩ (fun b x h => ?_)
  obtain ⟨t, e⟩ := h
  rw [← List.append_assoc, dist_snoc, e]
  split
  · exact ⟨t, rfl⟩
  · exact ⟨t ++ [x], by rw [List.append_assoc]⟩
theorem rep_skip_pre : ∀ (pre rest : List Int) (k : Nat), (∀ y ∈ pre, (pre ++ rest).count y ≤ 1) → firstRepeatedOf k (pre ++ rest) = firstRepeatedOf (k + pre.length) rest
  | [], rest, k, _ => rfl
  | y :: pre, rest, k, h => by
    have hy : y ∉ pre ++ rest := fun m => by
      have h1 := h y List.mem_cons_self
      have h2 : 0 < (pre ++ rest).count y := List.count_pos_iff.mpr m
      have h3 : ((y :: pre) ++ rest).count y = (pre ++ rest).count y + 1 := by
        show (y :: (pre ++ rest)).count y = _
        rw [List.count_cons_self]
      omega
    show firstRepeatedOf k (y :: (pre ++ rest)) = _
    rw [repeated_step_none hy, rep_skip_pre pre rest (k + 1) (fun z hz => ?_), List.length_cons]
    · congr 1
      omega
    · have h1 := h z (List.mem_cons_of_mem _ hz)
      have h3 : (pre ++ rest).count z ≤ ((y :: pre) ++ rest).count z := by
        show _ ≤ (y :: (pre ++ rest)).count z
        exact List.count_le_count_cons
      omega
theorem rep_no {l : List Int} (h : ∀ y ∈ distinctElements l, (positionsOf y 0 l).length < 2) : firstRepeatedOf 0 l = none := by
  have e := rep_skip_pre l [] 0 (fun y hy => by
    have := h y ((mem_dist y l).mpr hy)
    rw [pos_len] at this
    rw [List.append_nil]; omega)
  rw [List.append_nil] at e
  rw [e]; rfl
theorem split_first {x : Int} : ∀ {l : List Int}, x ∈ l → ∃ pre rest, l = pre ++ x :: rest ∧ x ∉ pre
  | [], h => nomatch h
  | y :: l, h => by
    by_cases e : y = x
    · exact ⟨[], l, by rw [e]; rfl, by simp⟩
    · rcases List.mem_cons.mp h with q | q
      · exact absurd q.symm e
      · obtain ⟨pre, rest, h1, h2⟩ := split_first q
        refine ⟨y :: pre, rest, by rw [h1]; rfl, fun m => ?_⟩
        rcases List.mem_cons.mp m with q | q
        · exact e q.symm
        · exact h2 q
theorem pos_none {x : Int} : ∀ {l : List Int} {k : Nat}, x ∉ l → positionsOf x k l = []
  | [], k, _ => rfl
  | y :: l, k, h => by
    rw [positionsOf, if_neg (fun e => h (by rw [e]; exact List.mem_cons_self))]
    exact pos_none fun m => h (List.mem_cons_of_mem _ m)
theorem rep_yes {l : List Int} {x : Int} {t i j : Nat} {r : List Nat} (hx : (distinctElements l)[t]? = some x) (hp : positionsOf x 0 l = i :: j :: r)
    (h : ∀ (s : Nat) (y : Int), s < t → (distinctElements l)[s]? = some y → (positionsOf y 0 l).length < 2) : firstRepeatedOf 0 l = some (i, j) := by
  have mx : x ∈ l := (mem_dist x l).mp (List.mem_of_getElem? hx)
  obtain ⟨pre, rest, e, nx⟩ := split_first mx
  have e1 : l = (pre ++ [x]) ++ rest := by rw [e, List.append_assoc]; rfl
  obtain ⟨u, hu⟩ := dist_pre (pre ++ [x]) rest
  have d1 : distinctElements (pre ++ [x]) = distinctElements pre ++ [x] := by
    rw [dist_snoc, if_neg ?_]
    intro c
    have : x ∈ distinctElements pre := by simpa using c
    exact nx ((mem_dist x pre).mp this)
  have d2 : distinctElements l = distinctElements pre ++ (x :: u) := by
    rw [e1, hu, d1, List.append_assoc]; rfl
  have nd := dist_nodup l
  have ht : t = (distinctElements pre).length := by
    have g : (distinctElements l)[(distinctElements pre).length]? = some x := by
      rw [d2, List.getElem?_append_right (Nat.le_refl _), Nat.sub_self]; rfl
    obtain ⟨l1, g1⟩ := List.getElem?_eq_some_iff.mp hx
    obtain ⟨l2, g2⟩ := List.getElem?_eq_some_iff.mp g
    exact (List.getElem_inj nd).mp (g1.trans g2.symm)
  have sk : firstRepeatedOf 0 l = firstRepeatedOf (0 + pre.length) (x :: rest) := by
    rw [e]
    refine rep_skip_pre pre (x :: rest) 0 fun y hy => ?_
    obtain ⟨s, hs⟩ := List.mem_iff_getElem?.mp ((mem_dist y pre).mpr hy)
    have sl := (List.getElem?_eq_some_iff.mp hs).1
    have := h s y (by omega) (by rw [d2, List.getElem?_append_left sl]; exact hs)
    rw [pos_len, e] at this
    omega
  have pe : positionsOf x 0 l = (0 + pre.length) :: positionsOf x (0 + pre.length + 1) rest := by
    rw [e, pos_append, pos_none nx]
    show (if x = x then _ else _) = _
    rw [if_pos rfl]
  rw [pe] at hp
  injection hp with p1 p2
  rw [sk, firstRepeatedOf, p2, p1]
theorem drop_at {α : Type} {l : List α} {i : Nat} {x : α} (h : l[i]? = some x) : l.drop i = x :: l.drop (i + 1) := by
  obtain ⟨h1, h2⟩ := List.getElem?_eq_some_iff.mp h
  rw [List.drop_eq_getElem_cons h1, h2]
theorem take_at {α : Type} {l : List α} {i : Nat} {x : α} (h : l[i]? = some x) : l.take (i + 1) = l.take i ++ [x] := by
  rw [List.take_succ, h]; rfl

/-! ### what is asked of two views -/
def oneOut (s : State) (r : Int) : Outcome (List Int) := andThen (register s r) fun v => enumeratedCells v
def twoOut (s : State) (r q : Int) : Outcome (List Int × List Int) := andThen (register s r) fun v => andThen (register s q) fun u => andThen (enumeratedCells v) fun l => andThen (enumeratedCells u) fun m => .ok (l, m)
theorem one_out {A : Type} (s : State) (r : Int) (F : List Int → Outcome A) : (andThen (register s r) fun v => andThen (enumeratedCells v) fun l => F l) = andThen (oneOut s r) F := by
  unfold oneOut
  cases register s r <;> rfl
theorem two_out {A : Type} (s : State) (r q : Int) (F : List Int → List Int → Outcome A) :
    (andThen (register s r) fun v => andThen (register s q) fun u => andThen (enumeratedCells v) fun l => andThen (enumeratedCells u) fun m => F l m) = andThen (twoOut s r q) fun x => F x.1 x.2 := by
  unfold twoOut
  cases register s r with
  | error z => rfl
  | ok v =>
    cases register s q with
    | error z => rfl
    | ok u =>
      show (andThen (enumeratedCells v) fun l => andThen (enumeratedCells u) fun m => F l m) = andThen (andThen (enumeratedCells v) fun l => andThen (enumeratedCells u) fun m => .ok (l, m)) fun x => F x.1 x.2
      cases enumeratedCells v with
      | error z => rfl
      | ok l => cases enumeratedCells u <;> rfl
end Ov
end

section
set_option Elab.async false
set_option linter.all false
set_option maxRecDepth 100000
set_option maxHeartbeats 4000000
/-! Rules that the hand layer lacks. -/
namespace Ov
open PySem PySem.Spec PyProof.Rows L2

/-- // by any number but 0 -/
def CDivA (_ j : Int) : Prop := j ≠ 0 ∧ j.natAbs.log2 < 9000
section
variable {X : Cx}
theorem op_fdivA : OpR X (binaryOp .FloorDiv) (rI CDivA fun i j => .int (i.fdiv j)) := opI fun i j _ _ _ _ _ hc q =>
  floordiv_int hc.1 q (.inl (PyProof.noPylong_of_log2 hc.2))
end
theorem cdivA {i j : Int} (h : j ≠ 0) (b : j.natAbs < 2 ^ 100) : CDivA i j := ⟨h, by
  have := PySem.Flt.log2_lt_of (n := j.natAbs) (k := 100) (by decide) b
  omega⟩

/-! ### xs[0::2], xs[1::2] -/
/-- every second item -/
def evens {α : Type} : List α → List α
  | [] => []
  | [x] => [x]
  | x :: _ :: r => x :: evens r
theorem evens_len {α : Type} : ∀ l : List α, (evens l).length = (l.length + 1) / 2
  | [] => by simp [evens]
  | [_] => by simp [evens]
  | _ :: _ :: r => by
    have := evens_len r
    show (evens r).length + 1 = (r.length + 1 + 1 + 1) / 2
    omega
theorem evens_pick {α : Type} : ∀ l : List α, evens l = (List.range ((l.length + 1) / 2)).filterMap (fun k => l[2 * k]?)
  | [] => by simp [evens]
  | [x] => by
    have e : ([x].length + 1) / 2 = 1 := by simp
    rw [e]
    simp [evens, List.range_succ]
  | x :: y :: r => by
    have ih := evens_pick r
    have e : ((x :: y :: r).length + 1) / 2 = (r.length + 1) / 2 + 1 := by
      show (r.length + 1 + 1 + 1) / 2 = _
      omega
    rw [e, List.range_succ_eq_map, List.filterMap_cons, List.filterMap_map]
    show x :: evens r = x :: _
    rw [ih]
    congr 1
theorem evens_map {α β : Type} (f : α → β) : ∀ l : List α, evens (l.map f) = (evens l).map f
  | [] => by simp [evens]
  | [_] => by simp [evens]
  | x :: y :: r => by
    show f x :: evens (r.map f) = f x :: (evens r).map f
    rw [evens_map f r]
/-- what a slice by twos picks -/
theorem pick2 (items : Array Value) (o : Nat) (ho : o ≤ 1) : slicePick items (some (o : Int)) none (some 2) = (evens (items.toList.drop o)).toArray := by
  have hb : sliceBounds (some (o : Int)) none (some 2) items.size = (min (o : Int) items.size, (items.size : Int), 2) := by
    unfold sliceBounds
    simp
    omega
  unfold slicePick
  rw [hb]
  dsimp only
  have hr : sliceRange (min (o : Int) items.size) (items.size : Int) 2 = (List.range ((items.size - o + 1) / 2)).map fun k => o + 2 * k := by
    unfold sliceRange
    rw [if_pos (by decide)]
    by_cases h : (o : Int) < items.size
    · have e : min (o : Int) items.size = o := by omega
      rw [e]
      simp only [h, if_true]
      have c : (((items.size : Int) - o + 2 - 1) / 2).toNat = (items.size - o + 1) / 2 := by omega
      rw [c]
      apply List.map_congr_left
      intro k _
      omega
    · have e : min (o : Int) items.size = items.size := by omega
      rw [e]
      have z : items.size - o = 0 := by omega
      rw [z]
      simp
  rw [hr, List.filterMap_map]
  congr 1
  rw [evens_pick, List.length_drop, Array.length_toList]
  refine congrArg (fun f => List.filterMap f _) (funext fun k => ?_)
  show items[o + 2 * k]? = _
  rw [List.getElem?_drop, Array.getElem?_toList]
theorem vals_evens : ∀ {xs : List V} {us : List Value}, Vals xs us → Vals (evens xs) (evens us)
  | [], _, h => by
    cases h
    exact .nil
  | [x], _, h => by
    cases h with
    | cons r t =>
      cases t
      exact .cons r .nil
  | x :: y :: r, _, h => by
    cases h with
    | cons r1 t =>
      cases t with
      | cons r2 t2 => exact .cons r1 (vals_evens t2)
/-- e[o::2] of a list, o 0 or 1: a new list -/
def tSl2 (K : PySem.W.Frag) (o : Nat) (te : TE) : TE := fun σ H Q => te σ H fun x H1 => ∃ a xs, x = .ref a ∧ SqL K H1 a xs ∧ ∀ p, H1 p = none → Q (.ref p) (upd H1 p (.lst (evens (xs.drop o))))
theorem pe_sl2 {X : Cx} {e : Expr} {te : TE} {o : Nat} {k k2 : Nat} {p1 p2 p3 pos : Pos} (he : PE X e te) (ho : o ≤ 1 := by decide) :
    PE X (.Subscript e (.Slice (some (.Constant (.int (o : Int)) k p1)) none (some (.Constant (.int 2) k2 p2)) p3) pos) (tSl2 X.K o te) := by
  refine ⟨fun pins s σ H Q I h => ?_⟩
  refine Subscript_ (thn (he.run pins s σ H _ I h) fun v s1 hh => ?_)
  obtain ⟨x, H1, I1, r1, a, xs, ex, hx, q⟩ := hh
  subst ex
  cases r1
  have hlo : PO X (some (.Constant (.int (o : Int)) k p1)) (tPart (tC (.int o))) := po_some pe_int
  have hst : PO X (some (.Constant (.int 2) k2 p2)) (tPart (tC (.int 2))) := po_some pe_int
  refine wpAny_Slice (thn (hlo.run pins s1 σ H1 (fun z H2 => z = some (o : Int) ∧ H2 = H1) I1 ⟨_, rfl, rfl, rfl⟩) fun vl s2 hl => ?_)
  obtain ⟨l, H2, I2, pl, el, e2⟩ := hl
  subst el e2
  refine thn (po_none.run pins s2 σ H2 (fun z H3 => z = none ∧ H3 = H2) I2 ⟨rfl, rfl⟩) fun vu s3 hu => ?_
  obtain ⟨u, H3, I3, pu, eu, e3⟩ := hu
  subst eu e3
  refine thn (hst.run pins s3 σ H3 (fun z H4 => z = some 2 ∧ H4 = H3) I3 ⟨_, rfl, rfl, rfl⟩) fun vs s4 hs => ?_
  obtain ⟨z, H4, I4, ps, ez, e4⟩ := hs
  subst ez e4
  have I5 : Inv X pins σ H4 { s4 with heap := s4.heap.push { cls := .type "slice", data := .fields #[vl, vu, vs] } } := I4.kept (t' := s4.toks) fun b ob q => Heap.get?_push_of_some _ q
  obtain ⟨its, r, ht, hz⟩ := I5.list hx
  have hlen := r.length
  refine tail_any (ops := [.ref a, .ref s4.heap.objs.size]) ht.isList.typeIs PySem.slot_list_getitem.lookup ?_ (by with_unfolding_all rfl)
  refine wpAny_getItem_list_slice ht.isList (Heap.IsSliceOf.new _ vl vu vs) pl pu ps (by decide) ?_ (by rw [List.size_toArray]; omega)
  rw [pick2 _ o ho]
  have hv : Vals (evens (xs.drop o)) (evens (its.drop o)) := vals_evens (r.drop o)
  refine ⟨.ref _, _, I5.laid (t' := s4.toks) (o := .lst (evens (xs.drop o))) (fun b ob q => Heap.get?_push_of_some _ q) (Nat.le_refl _) ?_, rfl, q _ (I5.hok.fresh (Nat.le_refl _))⟩
  refine ⟨?_, _, 0, hv, Heap.get?_push_size _ rfl⟩
  rw [evens_len, List.length_drop]
  omega
/-! ### rules within a comprehension: the written part by its own name -/
section
variable {X : Cx} {K : PySem.W.Frag}
theorem ix_listK (h : X.K = K := by rfl) : IxR X (rIxL K) := h ▸ ix_list
theorem ix_tupK (h : X.K = K := by rfl) : IxR X (rIxT K) := h ▸ ix_tup
theorem sl_listK (h : X.K = K := by rfl) : SlR X (rSlL K) := h ▸ sl_list
theorem cr_sumK (hc : X.calm = true) (h : X.K = K := by rfl) : CallR X (.builtin "sum") (rSum K) := h ▸ cr_sum hc
theorem pe_fldK {e : Expr} {ta : TE} {f : Str} {pos : Pos} (he : PE X e ta) (hb : attributeBase e f X.env (eval e X.env) = eval e X.env) (h : X.K = K := by rfl) : PE X (.Attribute e f pos) (tFld K ta f) := h ▸ pe_fld he hb
end
end Ov
end

section
set_option Elab.async false
set_option linter.all false
set_option maxRecDepth 100000
set_option maxHeartbeats 4000000
/-! Own errors: a class over Exception whose __init__ stores a code; classes over it whose __init__ calls that one by the class's name. -/
namespace Ov
open PySem PySem.Spec PyProof.Rows L2

abbrev exEnd : List Value := [.type "Exception", .type "BaseException", .type "object"]
/-- what the written part says of an error class at C over the one at R -/
structure RefC (K : PySem.W.Frag) (R C : Addr) : Prop where
  cls : ∃ nm q N bs sn sub ab col dd k0 k1 k2 k3 k5,
    K.lookup C = some (excClassObj nm q C N bs (.ref R :: exEnd) true sn sub ab col dd k0 k1 k2 k3 k5 "Exception.__new__")
  sa : PySem.W.findIn K (.ref C) "__setattr__" = some (some (.builtin "object.__setattr__"))
  noC : PySem.W.findIn K (.ref C) "code" = some none
  ga : PySem.W.findIn K (.ref C) "__getattribute__" = some (some (.builtin "BaseException.__getattribute__"))
  gg : PySem.W.findIn K (.ref C) "__getattr__" = some none
  hdC : PySem.W.hasDictIn K C = true
  exC : PySem.W.subIn K (.ref C) (.type "BaseException") = some true
  tyC : PySem.W.typeIn K (.ref C) = some (.type "type")
  kC : PySem.W.keepIn K (.ref C) = true
/-- an error class that «except» of the one at R takes -/
structure ErrC (K : PySem.W.Frag) (R C : Addr) : Prop where
  te : PySem.W.exmOne K (.ref C) (.ref R) = some true
  rc : RefC K R C
theorem ref_contains (R : Addr) (X : String) : (Value.ref R :: exEnd).contains (.type X) = exEnd.contains (.type X) := by
  rw [List.contains_cons]
  rfl
section
open PySem.HandSPX PySem.Builtin PySem.Builtin.ObjectAttr
variable {prog : Program} {w : World} {A : Around} {E : Value → Shared → Prop} {T : Result → Shared → Prop} {hp : Heap} {g : Array GenState} {d : Drawn} {t : Nat} {os : OsState}
/-- the first field of an error that has no dict yet -/
theorem ref_osa {K : W.Frag} {R x C : Addr} {name : Str} {tk : Tok} {v : Value} {fv : Array Value}
    (X : K.In hp) (hx : hp.get? x = some { cls := .ref C, data := .fields fv }) (F0 : RefC K R C) (ha : W.findIn K (.ref C) name = some none)
    (hq : ∀ h' tk' dx, (∀ b o, b ≠ x → hp.get? b = some o → h'.get? b = some o) → hp.objs.size ≤ dx → dx ≠ x →
      h'.get? x = some { cls := .ref C, dict := some dx, data := .fields fv } →
      h'.Ns1 dx (fun y => if y = name then some v else none) → T (.ok (.ret .none)) ⟨h', g, d, tk', os⟩) :
    codeAny (model prog w) A (.call (.builtin "object.__setattr__") ⟨[.ref x, .str name tk, v], []⟩) T ⟨hp, g, d, t, os⟩ := by
  obtain ⟨nm, q, N, bs, sn, sub, ab, col, dd, k0, k1, k2, k3, k5, hC⟩ := F0.cls
  have hcd : W.clsIn K C = some {
      name := nm
      bases := bs
      mro := .ref C :: .ref R :: exEnd
      ns := N
      qualname := q
      hasDict := true
      slotNames := sn
      subclasses := sub
      abstract := ab
      collection := col
      hasDel := false } := by
    unfold W.clsIn
    rw [hC] <;> rfl
  have I : W.InstAt hp x { cls := .ref C, data := .fields fv } C none := ⟨hx, rfl, rfl, trivial⟩
  have SF := PySem.F.store_object
  have hxs : x ≠ hp.objs.size := Nat.ne_of_lt (Heap.lt_size hx)
  have hob : (Value.ref C :: .ref R :: exEnd).contains (.type "object") = true := by
    rw [List.contains_cons, ref_contains]
    rfl
  have sub : W.Looks (model prog w) hp (isInstance (.ref x) (.type "object")) true :=
    I.type.andThen (W.looks_mroIn X (by
      unfold W.mroIn
      rw [hcd, Option.bind_some]
      show (if false = true then none else some ((Value.ref C :: .ref R :: exEnd).contains (.type "object"))) = some true
      rw [if_neg Bool.false_ne_true, hob]))
  refine codeAny_call_builtin SF.slot.plain SF.entry
    (@W.check_slot (model prog w) _ _ ⟨hp, g, d, t, os⟩ "object.__setattr__" "object" "__setattr__" (.ref x) [.str name tk, v] [] _ SF.kind SF.split sub
      (SF.args (.ref x) (.str name tk) v) ?_)
  have hmr : W.Looks (model prog w) hp (mroOf (.ref C)) (.ref C :: .ref R :: exEnd) := (W.looks_clsIn X hcd).andThen .now
  have L3 : W.Looks (model prog w) hp (storeTaker? none) none := .now
  have hcls := W.looks_clsIn (M := model prog w) X hcd
  have pass : refuseLoop (.ref x) "__setattr__" (.ref C :: .ref R :: exEnd) = pure () := by
    rw [refuseLoop_ref, refuseLoop_ref]
    exact PySem.F.store_Exception.passes _
  rw [W.osa_eq, refuse_eq]
  refine wpAny_bind (wpAny_bind (I.type.at (wpAny_bind (hmr.at ?_))))
  rw [pass]
  refine wpAny_pure (wpAny_bind (I.type.at (wpAny_bind ((W.looks_findIn X ha).at (wpAny_bind (L3.at ?_))))))
  show wpAny _ _ (storeInOwnDict (.ref x) (.ref C) (.str name tk) name v false) _ _ _
  unfold storeInOwnDict ownDictForStores
  repeat (first
    | with_reducible refine store_in_new ?_ ?_
    | with_reducible refine wpAny_loadPart_at hx ?_
    | with_reducible refine hcls.at ?_
    | wp_step)
  · refine ⟨_, #[], _, (Heap.get?_update_ne _ _ _ _ hxs.symm).trans (Heap.get?_push_at rfl rfl), rfl, fun e he => ?_, fun _ => rfl⟩
    exact absurd he (by simp)
  · intro h' tk' hn' hs
    have hx1 : (hp.push { cls := .type "dict", data := .dict #[] }).get? x = some { cls := .ref C, data := .fields fv } := Heap.get?_push_of_some _ hx
    refine hq h' tk' hp.objs.size (fun b o hb ho => ?_) (Nat.le_refl _) hxs.symm ?_ hn'
    · refine (hs.2 b (Nat.ne_of_lt (Heap.lt_size ho))).trans ?_
      exact (Heap.get?_update_ne _ _ _ _ hb).trans (Heap.get?_push_of_some _ ho)
    · exact (hs.2 x hxs).trans (Heap.get?_update_self _ hx1 rfl)
end
section
variable {X : Cx} {pins : List (Addr × Obj)} {σ : L2.St} {H : Hp} {s : Shared} {R a C dx : Addr} {f : Str} {y : V} {u : Value} {Q : Unit → Shared → Prop} {E : Value → Shared → Prop} {A : Around}
/-- self.f = y on an error that is being made -/
theorem ref_store (T : RefC X.K R C) (I : Inv X pins σ H s) (e : H a = some (exo a C none)) (hno : PySem.W.findIn X.K (.ref C) f = some none) (ry : RelV y u)
    (h : ∀ dx s', H dx = none → dx ≠ a → Inv X pins σ (upd (upd H dx (exd dx [(f, y)])) a (exo a C (some dx))) s' → Q () s') :
    wpAny (model X.prog X.w) A (setAttr (.ref a) f u) Q E s := by
  obtain ⟨t1, ho⟩ := exo_at I.hok e
  obtain ⟨hp, g, d, t, os⟩ := s
  refine PySem.W.set_plain I.kIn (od := none)
    (ox := { cls := .ref C, dict := none, data := .fields #[.ref t1, .none, .none, .none, .bool false, .none] }) ⟨ho, rfl, rfl, trivial⟩ T.sa ?_
  refine ref_osa I.kIn ho T hno (fun h' tk' dx k dn dne hx hn => ?_)
  have hnd : H dx = none := I.hok.fresh dn
  have nd : ∀ {b : Addr} {o : Obj}, hp.get? b = some o → b ≠ dx := fun {b o} q => Nat.ne_of_lt (Nat.lt_of_lt_of_le (Heap.lt_size q) dn)
  have na : ∀ {b : Addr}, H b = none → b ≠ a := fun {b} n z => by
    rw [z, e] at n
    cases n
  have Un1 : Un X.fs [] H (upd (upd H dx (exd dx [(f, y)])) a (exo a C (some dx))) hp h' := by
    constructor
    case keep => exact fun b o q n _ _ => k b o (na n) q
    case slot => exact fun b o q n _ _ => ⟨o.slots, k b o (na n) q⟩
    case free =>
      intro b o q n _
      rw [upd_ne (na n), upd_ne (nd q)]
      exact n
    case there =>
      intro b o q _
      by_cases hb : b = a
      · rw [hb]
        exact ⟨_, hx⟩
      · exact ⟨o, k b o hb q⟩
    case tups =>
      intro b xs q
      rw [upd_ne (at_ne e q exo_tup), upd_ne (ne_of_none q hnd)]
      exact q
    case frzs =>
      intro b o v q
      rw [upd_ne (at_ne e q exo_frz), upd_ne (ne_of_none q hnd)]
      exact q
    case tbls =>
      intro b ps q
      refine ⟨#[], ?_⟩
      rw [upd_ne (at_ne e q exo_tbl), upd_ne (ne_of_none q hnd), q]
      simp
  refine h dx _ hnd dne (I.un (t' := tk') Un1 fun b o q => ?_)
  by_cases hb : b = a
  · subst hb
    rw [upd_same] at q
    cases q
    exact exo_ok hx
  · rw [upd_ne hb] at q
    by_cases hd : b = dx
    · subst hd
      rw [upd_same] at q
      cases q
      exact exd_ok hn (relO_put (fs := []) ry fun g => True.intro)
    · rw [upd_ne hd] at q
      have far : ∀ c v, c = b ∨ H c = some (.own b) → hp.get? c = some v → h'.get? c = some v := by
        intro c v hc z
        refine k c v ?_ z
        rcases hc with hc | hc
        · rw [hc]
          exact hb
        · exact at_ne e hc exo_own
      refine (I.hok b o q).stay (fun c v hc z => far c v hc z) (fun c hc => ?_) (fun c xs hc => ?_)
      · rw [upd_ne (at_ne e hc exo_own), upd_ne (ne_of_none hc hnd)]
        exact hc
      · rw [upd_ne (at_ne e hc exo_tup), upd_ne (ne_of_none hc hnd)]
        exact hc
end
/-- self.f = e, self an error being made -/
def tRst (K : PySem.W.Frag) (R : Addr) (f : Str) (to te : TE) : TS := fun D σ H => te σ H fun y H1 => to σ H1 fun x H2 => ∃ a C : Addr, x = .ref a ∧ RefC K R C ∧
  PySem.W.findIn K (.ref C) f = some none ∧ H2 a = some (exo a C none) ∧ ∀ dx, H2 dx = none → dx ≠ a → D.nx σ (upd (upd H2 dx (exd dx [(f, y)])) a (exo a C (some dx)))
theorem ps_rst {X : Cx} {R : Addr} {o e : Expr} {to te : TE} {f : Str} {p' pos : Pos} (ho : PE X o to) (he : PE X e te)
    (hs : swapsWith e (some (.Attribute o f p')) pos.line X.env = pure false := by rfl) : PS X (.Assign [.Attribute o f p'] e pos) (tRst X.K R f to te) := by
  refine ⟨fun pins s σ H D I h => ?_⟩
  refine plainObj_wpAny_Assign_Attribute (thn (he.run pins s σ H _ I h) fun v s1 h1 => ?_) hs
  obtain ⟨y, H1, I1, r1, q1⟩ := h1
  refine thn (ho.run pins s1 σ H1 _ I1 q1) fun u s2 h2 => ?_
  obtain ⟨x, H2, I2, r2, a, C, ex, T, hno, ea, q⟩ := h2
  subst ex
  obtain rfl : u = Value.ref a := r2
  exact ref_store T I2 ea hno r1 fun dx s' n ne J => ⟨σ, _, J, q dx n ne⟩
/-- the class's name, then a def of it, called with all its arguments: R.__init__(self, ..) -/
def tBase (sp : Sp) (t : TA) : TE := fun σ H Q => t σ H fun vs H1 => sp vs H1 Q E0
structure BaseC (K : PySem.W.Frag) (mg : Str → Option Value) (R fR : Addr) (mc : Value) : Prop where
  gR : mg "Refusal" = some (.ref R)
  rd : ClX.CRead K R mc
  at_ : ClX.CVal K R mc "__init__" (.ref fR) (.ref fR)
  kp : PySem.W.keepIn K (.ref fR) = true
theorem pe_base {X : Cx} {R fR : Addr} {mc : Value} {k : Nat} {fd : FuncData} {ps : List Str} {sp : Sp} {e : Expr} {es : List Expr} {t : TA} {p1 p2 pos : Pos} {pl : Sem Bool}
    (B : BaseC X.K X.mg R fR mc) (F : FnOk X.prog X.w X.K X.mg X.base CX0 k fR fd ps sp) (hr : Room k X.A) (hb : Binds X.K fd ps []) (ha : PA X (e :: es) t)
    (hg : Gl X "Refusal" := by rfl)
    (hst : starEach (e :: es) X.env = (false, eval e X.env) :: starEach es X.env := by rfl)
    (hpl : (backTo pos (starEach es X.env)).any (·.1) = false := by rfl)
    (ht : eval (.Call (.Attribute (.Name "Refusal" p1) "__init__" p2) (e :: es) [] pos) X.env = (do
      let ov ← eval (.Name "Refusal" p1) X.env
      standAt p2.atName
      let (f, first) ← holding [ov] (getMethod ov "__init__" pl)
      callWith pos f first (backTo pos (starEach (e :: es) X.env))
        (backToKw pos (keywordEach [] X.env))) := by rfl) :
    PE X (.Call (.Attribute (.Name "Refusal" p1) "__init__" p2) (e :: es) [] pos) (tBase sp t) := by
  refine ⟨fun pins s σ H Q I h => ?_⟩
  refine PySem.W.methodCall_KW (pl := pl) (ld_glob I hg B.gR ?_ (by decide)) ht
  refine PySem.W.method_cls I.kIn B.rd.ga (ClX.getcval_ok I B.rd B.at_ fun s1 I1 => ?_)
  refine PySem.W.callWith_K (first := []) (h₀ := X.base) I.ok.mod.kin B.kp
    (thn (ha.run pos pins s1 σ H _ I1 h) fun us s2 h2 => ?_) hst hpl
  obtain ⟨vs, H2, I2, r, q2⟩ := h2
  refine ⟨I2.kIn, run_fn F hr hb .nil pass0 I2 r ?_⟩
  rw [List.append_nil]
  exact q2
/-- C(), C's own __init__ keeping sp: the error's class and its dict, new -/
def tMkR (C : Addr) (z : V) : L2.St → Hp → XK → Prop := fun σ H Q => ∀ d, H d = none → Q (.ref C) (some d) (upd H d (.xd [(("code" : Str), z)]))
/-- what stands of an error class by its name -/
structure SubC (K : PySem.W.Frag) (mg : Str → Option Value) (R C fC : Addr) (x : Str) : Prop where
  rc : RefC K R C
  g : mg x = some (.ref C)
  iC : PySem.W.findIn K (.ref C) "__init__" = some (some (.ref fC))
  tI : PySem.W.typeIn K (.ref fC) = some (.type "function")
  te1 : PySem.W.exmOne K (.ref C) (.ref R) = some true
theorem SubC.te {K : PySem.W.Frag} {mg : Str → Option Value} {R C fC : Addr} {x : Str} (h : SubC K mg R C fC x) : ErrC K R C := ⟨h.te1, h.rc⟩
/-- the promise of Refusal.__init__ -/
def spR (K : PySem.W.Frag) (R : Addr) : Sp := fun vs H Q _ => ∃ (a C : Addr) (z : V), vs = [.ref a, z] ∧ RefC K R C ∧ H a = some (exo a C none) ∧
  ∀ dx, H dx = none → dx ≠ a → Q .non (upd (upd H dx (exd dx [(("code" : Str), z)])) a (exo a C (some dx)))
/-- the promise of the __init__ of a class over it -/
def spS (K : PySem.W.Frag) (R : Addr) (z : V) : Sp := fun vs H Q _ => ∃ (a C : Addr), vs = [.ref a] ∧ RefC K R C ∧ H a = some (exo a C none) ∧
  ∀ dx, H dx = none → dx ≠ a → Q .non (upd (upd H dx (exd dx [(("code" : Str), z)])) a (exo a C (some dx)))
theorem pmk_ref {X : Cx} {R C fC : Addr} {x : Str} {z : V} {k : Nat} {fd : FuncData} {p pos : Pos} (T : SubC X.K X.mg R C fC x)
    (F1 : FnOk X.prog X.w X.K X.mg X.base CX0 k fC fd ["self"] (spS X.K R z)) (hr : Room (k + 1) X.A) (hb : Binds X.K fd ["self"] [])
    (hg : Gl X x := by rfl) (hdb : (x == ("__debug__" : Str)) = false := by decide) :
    PMk X (.Call (.Name x p) [] [] pos) (tMkR C z) := by
  intro pins s σ H Q I h
  have T0 := T.rc
  obtain ⟨nm, q, N, bs, sn, sub, ab, col, dd, k0, k1, k2, k3, k5, hC⟩ := T0.cls
  refine wpAny_Call_Name_kw (ld_glob I hg T.g ?_ hdb)
  refine PySem.W.callWith_K0 I.kIn T0.kC ?_
  show wpAny _ _ (call (.ref C) []) _ _ _
  obtain ⟨hp, g, dr, tk, os⟩ := s
  have hsz : hp.objs.size ≤ hp.objs.size + 1 := Nat.le_succ _
  have hn : H (hp.objs.size + 1) = none := I.hok.fresh hsz
  have kk : ∀ b o, hp.get? b = some o →
      ((hp.push (PySem.W.kdv_tup [])).push (PySem.HandSPX.excO C hp.objs.size)).get? b = some o := fun b o e =>
    Heap.get?_push_of_some _ (Heap.get?_push_of_some _ e)
  have hget : ((hp.push (PySem.W.kdv_tup [])).push (PySem.HandSPX.excO C hp.objs.size)).get? (hp.objs.size + 1) =
      some (PySem.HandSPX.excO C hp.objs.size) := by heap_get
  have I2 : Inv X pins σ (upd H (hp.objs.size + 1) (exo (hp.objs.size + 1) C none))
      ⟨(hp.push (PySem.W.kdv_tup [])).push (PySem.HandSPX.excO C hp.objs.size), g, dr, tk, os⟩ :=
    I.laid (t' := tk) kk hsz (exo_ok hget)
  have r2 : Vals [V.ref (hp.objs.size + 1)] [Value.ref (hp.objs.size + 1)] := .cons rfl .nil
  refine wpAny_call (PySem.HandSPX.call_own PySem.F.excBase_Exception (fun Y => ref_contains R Y) (I.kIn _ _ hC) (PySem.W.looks_findIn I.kIn T.iC)
    (fun self => PySem.W.bind_fn I.kIn self T.tI) (Nat.zero_le _) ?_)
  have go := F1.run _ X.stack _ _ ⟨[Value.ref (hp.objs.size + 1)], []⟩ [Value.ref (hp.objs.size + 1)] [V.ref (hp.objs.size + 1)]
    (fun v H2 => v = .non ∧ ∃ d : Addr, H2 (hp.objs.size + 1) = some (exo (hp.objs.size + 1) C (some d)) ∧ H2 d = some (exd d [(("code" : Str), z)]) ∧
      H d = none ∧ Q (.ref C) (some d) (upd (del H2 (hp.objs.size + 1)) d (.xd [(("code" : Str), z)])))
    (fun _ _ _ => False) (hr.make C [] []) (I2.env0.make C [] []) (hb _ [Value.ref (hp.objs.size + 1)] I2.kIn rfl) r2
    ⟨_, C, rfl, T0, upd_same, fun dx hd hda => by
      have hd0 : H dx = none := by rw [upd_ne hda] at hd; exact hd
      refine ⟨rfl, dx, upd_same, (upd_ne hda).trans upd_same, hd0, ?_⟩
      have e : upd (del (upd (upd (upd H (hp.objs.size + 1) (exo (hp.objs.size + 1) C none)) dx (exd dx [(("code" : Str), z)])) (hp.objs.size + 1)
          (exo (hp.objs.size + 1) C (some dx))) (hp.objs.size + 1)) dx (.xd [(("code" : Str), z)]) = upd H dx (.xd [(("code" : Str), z)]) := by
        funext b
        by_cases hb : b = dx
        · rw [hb, upd_same, upd_same]
        · rw [upd_ne hb, upd_ne hb]
          by_cases ha : b = hp.objs.size + 1
          · rw [ha, del_same, hn]
          · rw [del_ne ha, upd_ne ha, upd_ne hb, upd_ne ha]
      rw [e]
      exact h dx hd0⟩
  refine codeAny_mono go fun r s' hq => ?_
  cases r with
  | error er => exact pass0 pins σ _ _ er s' I2 hq
  | ok fl =>
    cases fl with
    | ret u =>
      obtain ⟨v, H2, os2, bare2, un2, hok2, rv, ev, d, ea, ed, hd1, q2⟩ := hq
      subst ev
      obtain ⟨h2, g2, d2, t2, os'⟩ := s'
      exact ⟨rv, mk_end (raises_own T0.exC T0.tyC) I hsz kk un2 hok2 os2 bare2 ea ed hd1 q2⟩
    | next => exact False.elim hq
    | brk => exact False.elim hq
    | cont => exact False.elim hq
/-- e.code, e the error that the suite holds at a (its class cls, its dict d) -/
def tCode (K : PySem.W.Frag) (R a : Addr) (cls : Value) (d : Option Addr) (te : TE) : TE := fun σ H Q => te σ H fun x H1 => x = .ref a ∧ ∃ C : Addr, cls = .ref C ∧ RefC K R C ∧
  ∃ (dd : Addr) (v : V), d = some dd ∧ H1 dd = some (.xd [(("code" : Str), v)]) ∧ Q v H1
theorem pe_code {X : Cx} {R a : Addr} {oe : Obj} {cls : Value} {d : Option Addr} {pn : List (Addr × Obj)} {e : Expr} {te : TE} {pos : Pos} (hz : Zc cls d oe) (hf : ∃ vs, oe.data = .fields vs) (he : PE (X.suite a ((a, oe) :: pn)) e te)
    (hb : attributeBase e "code" X.env (eval e X.env) = eval e X.env := by rfl) :
    PE (X.suite a ((a, oe) :: pn)) (.Attribute e "code" pos) (tCode X.K R a cls d te) := by
  refine ⟨fun pins s σ H Q I h => ?_⟩
  refine attr_of hb (thn (he.run pins s σ H _ I h) fun u s1 hh => ?_)
  obtain ⟨x, H1, I1, rx, ex, C, ec, T, dd, v, ed, ea, q⟩ := hh
  subst ex
  obtain rfl : u = Value.ref a := rx
  subst ec
  subst ed
  obtain ⟨ha, _⟩ := I1.pin (a, oe) (List.mem_append_left _ List.mem_cons_self)
  obtain ⟨vs, hd⟩ := hf
  obtain ⟨mA, hns, hr⟩ := (show ObjOk X.prog X.w H1 s1.heap dd (.xd [(("code" : Str), v)]) from I1.hok dd _ ea)
  obtain ⟨od, ho, hl⟩ := lookIn_ns hns
  have l : List.lookup ("code" : Str) [(("code" : Str), v)] = some v := by simp [List.lookup]
  obtain ⟨u, hu, ru⟩ := RelO.some_of (v := v) (o := mA "code") (by rw [← l]; exact hr "code")
  have J : PySem.W.InstAt s1.heap a oe C (some od) := ⟨ha, hz.1, by unfold PySem.W.notCls; rw [hd] <;> rfl, by rw [hz.2]; exact ho⟩
  exact PySem.HandSPX.exc_get I1.kIn J T.ga T.gg T.exC (PySem.W.findObj_own T.hdC T.noC rfl (by rw [hl, hu])) (handed_of ru) ⟨v, H1, I1.tok _, ru, q⟩
end Ov
end

section
set_option Elab.async false
set_option linter.all false
set_option maxRecDepth 100000
set_option maxHeartbeats 4000000
/-! The program's defs by their places, their names by slots, what the top has left. Printed by gen.py. -/
namespace Ov
open PySem PySem.Spec PyProof.Rows L2
/-- a def of the text, its object and how its arguments bind -/
structure Df (K : PySem.W.Frag) (x q : Str) (st : Stmt) (ps : List Str) where
  a : Addr
  d : FuncData
  F : Fun K x q st a d
  b : Binds K d ps []
/-- a class that makes instances -/
structure Cs (K : PySem.W.Frag) (mg : Str → Option Value) (x : Str) (C : Addr) : Prop where
  c : Cls K C
  g : mg x = some (.ref C)
/-- a whole number of the text's top -/
structure Ic (mg : Str → Option Value) (x : Str) (n : Int) where
  v : Value
  g : mg x = some v
  r : RelV (.int n) v

def topS (i : Nat) : Stmt := PySem.Challenge.pw_viewoverlap_s01_answers.main.body.getD i (.Pass ⟨0, 0, 0, 0⟩)
abbrev s_common_divisor : Stmt := topS 1
abbrev N_common_divisor : List Str := ["numbers", "divisor", "number", "other"]
theorem sc_common_divisor : FnScope N_common_divisor ["numbers"] (defScope s_common_divisor) := ⟨rfl, rfl, rfl, by decide +kernel, rfl, by decide +kernel, by decide +kernel⟩
abbrev s_inverse_for : Stmt := topS 2
abbrev N_inverse_for : List Str := ["number", "modulus", "older", "newer", "older_factor", "newer_factor", "quotient"]
theorem sc_inverse_for : FnScope N_inverse_for ["number", "modulus"] (defScope s_inverse_for) := ⟨rfl, rfl, rfl, by decide +kernel, rfl, by decide +kernel, by decide +kernel⟩
abbrev s_ceiling_quotient : Stmt := topS 3
abbrev N_ceiling_quotient : List Str := ["number", "divisor"]
theorem sc_ceiling_quotient : FnScope N_ceiling_quotient ["number", "divisor"] (defScope s_ceiling_quotient) := ⟨rfl, rfl, rfl, by decide +kernel, rfl, by decide +kernel, by decide +kernel⟩
abbrev s_Box_init : Stmt := inClass (topS 5) 0
abbrev N_Box_init : List Str := ["self", "equation", "fixed", "lower", "upper", "rest"]
theorem sc_Box_init : FnScope N_Box_init ["self", "equation", "fixed", "lower", "upper", "rest"] (defScope s_Box_init) := ⟨rfl, rfl, rfl, by decide +kernel, rfl, by decide +kernel, by decide +kernel⟩
abbrev s_Box_free_count : Stmt := inClass (topS 5) 1
abbrev N_Box_free_count : List Str := ["self"]
theorem sc_Box_free_count : FnScope N_Box_free_count ["self"] (defScope s_Box_free_count) := ⟨rfl, rfl, rfl, by decide +kernel, rfl, by decide +kernel, by decide +kernel⟩
abbrev s_Box_fails_range : Stmt := inClass (topS 5) 2
abbrev N_Box_fails_range : List Str := ["self", "equation", "first", "coefficient", "low", "high", "least", "greatest"]
theorem sc_Box_fails_range : FnScope N_Box_fails_range ["self"] (defScope s_Box_fails_range) := ⟨rfl, rfl, rfl, by decide +kernel, rfl, by decide +kernel, by decide +kernel⟩
abbrev s_Box_fails_divisibility : Stmt := inClass (topS 5) 3
abbrev N_Box_fails_divisibility : List Str := ["self", "divisor"]
theorem sc_Box_fails_divisibility : FnScope N_Box_fails_divisibility ["self"] (defScope s_Box_fails_divisibility) := ⟨rfl, rfl, rfl, by decide +kernel, rfl, by decide +kernel, by decide +kernel⟩
abbrev s_Box_fails_pair : Stmt := inClass (topS 5) 4
abbrev N_Box_fails_pair : List Str := ["self"]
theorem sc_Box_fails_pair : FnScope N_Box_fails_pair ["self"] (defScope s_Box_fails_pair) := ⟨rfl, rfl, rfl, by decide +kernel, rfl, by decide +kernel, by decide +kernel⟩
abbrev s_Box_halves : Stmt := inClass (topS 5) 5
abbrev N_Box_halves : List Str := ["self", "middle"]
theorem sc_Box_halves : FnScope N_Box_halves ["self"] (defScope s_Box_halves) := ⟨rfl, rfl, rfl, by decide +kernel, rfl, by decide +kernel, by decide +kernel⟩
abbrev s_whole_box : Stmt := topS 6
abbrev N_whole_box : List Str := ["equation"]
theorem sc_whole_box : FnScope N_whole_box ["equation"] (defScope s_whole_box) := ⟨rfl, rfl, rfl, by decide +kernel, rfl, by decide +kernel, by decide +kernel⟩
abbrev s_box_after : Stmt := topS 7
abbrev N_box_after : List Str := ["equation", "fixed", "rest"]
theorem sc_box_after : FnScope N_box_after ["equation", "fixed", "rest"] (defScope s_box_after) := ⟨rfl, rfl, rfl, by decide +kernel, rfl, by decide +kernel, by decide +kernel⟩
abbrev s_narrowed : Stmt := topS 8
abbrev N_narrowed : List Str := ["box", "lower", "upper", "coefficient"]
theorem sc_narrowed : FnScope N_narrowed ["box", "lower", "upper"] (defScope s_narrowed) := ⟨rfl, rfl, rfl, by decide +kernel, rfl, by decide +kernel, by decide +kernel⟩
abbrev s_least_values : Stmt := topS 9
abbrev N_least_values : List Str := ["box", "count", "pair"]
theorem sc_least_values : FnScope N_least_values ["box"] (defScope s_least_values) := ⟨rfl, rfl, rfl, by decide +kernel, rfl, by decide +kernel, by decide +kernel⟩
abbrev s_least_pair : Stmt := topS 10
abbrev N_least_pair : List Str := ["box", "equation", "place", "first", "second", "least", "greatest", "start", "end", "modulus", "remainder", "value"]
theorem sc_least_pair : FnScope N_least_pair ["box"] (defScope s_least_pair) := ⟨rfl, rfl, rfl, by decide +kernel, rfl, by decide +kernel, by decide +kernel⟩
abbrev s_Refusal_init : Stmt := inClass (topS 12) 0
abbrev N_Refusal_init : List Str := ["self", "code"]
theorem sc_Refusal_init : FnScope N_Refusal_init ["self", "code"] (defScope s_Refusal_init) := ⟨rfl, rfl, rfl, by decide +kernel, rfl, by decide +kernel, by decide +kernel⟩
abbrev s_NoSuchRegister_init : Stmt := inClass (topS 13) 0
abbrev N_NoSuchRegister_init : List Str := ["self"]
theorem sc_NoSuchRegister_init : FnScope N_NoSuchRegister_init ["self"] (defScope s_NoSuchRegister_init) := ⟨rfl, rfl, rfl, by decide +kernel, rfl, by decide +kernel, by decide +kernel⟩
abbrev s_ArrayLengthOutOfRange_init : Stmt := inClass (topS 14) 0
abbrev N_ArrayLengthOutOfRange_init : List Str := ["self"]
theorem sc_ArrayLengthOutOfRange_init : FnScope N_ArrayLengthOutOfRange_init ["self"] (defScope s_ArrayLengthOutOfRange_init) := ⟨rfl, rfl, rfl, by decide +kernel, rfl, by decide +kernel, by decide +kernel⟩
abbrev s_NotAnIndex_init : Stmt := inClass (topS 15) 0
abbrev N_NotAnIndex_init : List Str := ["self"]
theorem sc_NotAnIndex_init : FnScope N_NotAnIndex_init ["self"] (defScope s_NotAnIndex_init) := ⟨rfl, rfl, rfl, by decide +kernel, rfl, by decide +kernel, by decide +kernel⟩
abbrev s_NotAxes_init : Stmt := inClass (topS 16) 0
abbrev N_NotAxes_init : List Str := ["self"]
theorem sc_NotAxes_init : FnScope N_NotAxes_init ["self"] (defScope s_NotAxes_init) := ⟨rfl, rfl, rfl, by decide +kernel, rfl, by decide +kernel, by decide +kernel⟩
abbrev s_AxisLengthOutOfRange_init : Stmt := inClass (topS 17) 0
abbrev N_AxisLengthOutOfRange_init : List Str := ["self"]
theorem sc_AxisLengthOutOfRange_init : FnScope N_AxisLengthOutOfRange_init ["self"] (defScope s_AxisLengthOutOfRange_init) := ⟨rfl, rfl, rfl, by decide +kernel, rfl, by decide +kernel, by decide +kernel⟩
abbrev s_ViewTooLarge_init : Stmt := inClass (topS 18) 0
abbrev N_ViewTooLarge_init : List Str := ["self"]
theorem sc_ViewTooLarge_init : FnScope N_ViewTooLarge_init ["self"] (defScope s_ViewTooLarge_init) := ⟨rfl, rfl, rfl, by decide +kernel, rfl, by decide +kernel, by decide +kernel⟩
abbrev s_CellOutsideArray_init : Stmt := inClass (topS 19) 0
abbrev N_CellOutsideArray_init : List Str := ["self"]
theorem sc_CellOutsideArray_init : FnScope N_CellOutsideArray_init ["self"] (defScope s_CellOutsideArray_init) := ⟨rfl, rfl, rfl, by decide +kernel, rfl, by decide +kernel, by decide +kernel⟩
abbrev s_NotVariables_init : Stmt := inClass (topS 20) 0
abbrev N_NotVariables_init : List Str := ["self"]
theorem sc_NotVariables_init : FnScope N_NotVariables_init ["self"] (defScope s_NotVariables_init) := ⟨rfl, rfl, rfl, by decide +kernel, rfl, by decide +kernel, by decide +kernel⟩
abbrev s_VariableOutOfRange_init : Stmt := inClass (topS 21) 0
abbrev N_VariableOutOfRange_init : List Str := ["self"]
theorem sc_VariableOutOfRange_init : FnScope N_VariableOutOfRange_init ["self"] (defScope s_VariableOutOfRange_init) := ⟨rfl, rfl, rfl, by decide +kernel, rfl, by decide +kernel, by decide +kernel⟩
abbrev s_SearchLimitExceeded_init : Stmt := inClass (topS 22) 0
abbrev N_SearchLimitExceeded_init : List Str := ["self"]
theorem sc_SearchLimitExceeded_init : FnScope N_SearchLimitExceeded_init ["self"] (defScope s_SearchLimitExceeded_init) := ⟨rfl, rfl, rfl, by decide +kernel, rfl, by decide +kernel, by decide +kernel⟩
abbrev s_TooManyElements_init : Stmt := inClass (topS 23) 0
abbrev N_TooManyElements_init : List Str := ["self"]
theorem sc_TooManyElements_init : FnScope N_TooManyElements_init ["self"] (defScope s_TooManyElements_init) := ⟨rfl, rfl, rfl, by decide +kernel, rfl, by decide +kernel, by decide +kernel⟩
abbrev s_NotOneCertificate_init : Stmt := inClass (topS 24) 0
abbrev N_NotOneCertificate_init : List Str := ["self"]
theorem sc_NotOneCertificate_init : FnScope N_NotOneCertificate_init ["self"] (defScope s_NotOneCertificate_init) := ⟨rfl, rfl, rfl, by decide +kernel, rfl, by decide +kernel, by decide +kernel⟩
abbrev s_search : Stmt := topS 30
abbrev N_search : List Str := ["equation", "box_limit", "claims", "boxes", "box", "claim", "free_values"]
theorem sc_search : FnScope N_search ["equation", "box_limit"] (defScope s_search) := ⟨rfl, rfl, rfl, by decide +kernel, rfl, by decide +kernel, by decide +kernel⟩
abbrev s_push_halves : Stmt := topS 31
abbrev N_push_halves : List Str := ["boxes", "box", "left", "right"]
theorem sc_push_halves : FnScope N_push_halves ["boxes", "box"] (defScope s_push_halves) := ⟨rfl, rfl, rfl, by decide +kernel, rfl, by decide +kernel, by decide +kernel⟩
abbrev s_separated : Stmt := topS 32
abbrev N_separated : List Str := ["claims", "certificates", "start", "missing", "place", "claim"]
theorem sc_separated : FnScope N_separated ["claims"] (defScope s_separated) := ⟨rfl, rfl, rfl, by decide +kernel, rfl, by decide +kernel, by decide +kernel⟩
abbrev s_is_one_certificate : Stmt := topS 33
abbrev N_is_one_certificate : List Str := ["claims", "certificates"]
theorem sc_is_one_certificate : FnScope N_is_one_certificate ["claims"] (defScope s_is_one_certificate) := ⟨rfl, rfl, rfl, by decide +kernel, rfl, by decide +kernel, by decide +kernel⟩
abbrev s_is_valid : Stmt := topS 34
abbrev N_is_valid : List Str := ["equation", "certificate", "boxes", "claim", "box"]
theorem sc_is_valid : FnScope N_is_valid ["equation", "certificate"] (defScope s_is_valid) := ⟨rfl, rfl, rfl, by decide +kernel, rfl, by decide +kernel, by decide +kernel⟩
abbrev s_is_true_claim : Stmt := topS 35
abbrev N_is_true_claim : List Str := ["claim", "box"]
theorem sc_is_true_claim : FnScope N_is_true_claim ["claim", "box"] (defScope s_is_true_claim) := ⟨rfl, rfl, rfl, by decide +kernel, rfl, by decide +kernel, by decide +kernel⟩
abbrev s_Equation_init : Stmt := inClass (topS 37) 0
abbrev N_Equation_init : List Str := ["self", "target", "coefficients", "uppers", "spans", "upper", "place", "coefficient", "span", "first"]
theorem sc_Equation_init : FnScope N_Equation_init ["self", "target", "coefficients", "uppers"] (defScope s_Equation_init) := ⟨rfl, rfl, rfl, by decide +kernel, rfl, by decide +kernel, by decide +kernel⟩
abbrev s_Equation_prepare_pair : Stmt := inClass (topS 37) 1
abbrev N_Equation_prepare_pair : List Str := ["self", "first", "divisor"]
theorem sc_Equation_prepare_pair : FnScope N_Equation_prepare_pair ["self"] (defScope s_Equation_prepare_pair) := ⟨rfl, rfl, rfl, by decide +kernel, rfl, by decide +kernel, by decide +kernel⟩
abbrev s_Equation_full_solution : Stmt := inClass (topS 37) 2
abbrev N_Equation_full_solution : List Str := ["self", "free_values", "solution", "place", "number"]
theorem sc_Equation_full_solution : FnScope N_Equation_full_solution ["self", "free_values"] (defScope s_Equation_full_solution) := ⟨rfl, rfl, rfl, by decide +kernel, rfl, by decide +kernel, by decide +kernel⟩
abbrev s_free_places : Stmt := topS 38
abbrev N_free_places : List Str := ["coefficients", "uppers", "place"]
theorem sc_free_places : FnScope N_free_places ["coefficients", "uppers"] (defScope s_free_places) := ⟨rfl, rfl, rfl, by decide +kernel, rfl, by decide +kernel, by decide +kernel⟩
abbrev s_tail_sums : Stmt := topS 39
abbrev N_tail_sums : List Str := ["terms", "place"]
theorem sc_tail_sums : FnScope N_tail_sums ["terms"] (defScope s_tail_sums) := ⟨rfl, rfl, rfl, by decide +kernel, rfl, by decide +kernel, by decide +kernel⟩
abbrev s_shared_equation : Stmt := topS 40
abbrev N_shared_equation : List Str := ["left", "right", "coefficients", "uppers", "stride", "length"]
theorem sc_shared_equation : FnScope N_shared_equation ["left", "right"] (defScope s_shared_equation) := ⟨rfl, rfl, rfl, by decide +kernel, rfl, by decide +kernel, by decide +kernel⟩
abbrev s_repetition_axes : Stmt := topS 41
abbrev N_repetition_axes : List Str := ["view", "axis"]
theorem sc_repetition_axes : FnScope N_repetition_axes ["view"] (defScope s_repetition_axes) := ⟨rfl, rfl, rfl, by decide +kernel, rfl, by decide +kernel, by decide +kernel⟩
abbrev s_repetition_equation : Stmt := topS 42
abbrev N_repetition_equation : List Str := ["view", "axis", "reaches", "uppers", "shift", "length", "reach", "stride"]
theorem sc_repetition_equation : FnScope N_repetition_equation ["view", "axis"] (defScope s_repetition_equation) := ⟨rfl, rfl, rfl, by decide +kernel, rfl, by decide +kernel, by decide +kernel⟩
abbrev s_represented_differences : Stmt := topS 43
abbrev N_represented_differences : List Str := ["view", "axis", "solution", "later", "number", "length"]
theorem sc_represented_differences : FnScope N_represented_differences ["view", "axis", "solution"] (defScope s_represented_differences) := ⟨rfl, rfl, rfl, by decide +kernel, rfl, by decide +kernel, by decide +kernel⟩
abbrev s_View_init : Stmt := inClass (topS 51) 0
abbrev N_View_init : List Str := ["self", "offset", "lengths", "strides", "length", "stride"]
theorem sc_View_init : FnScope N_View_init ["self", "offset", "lengths", "strides"] (defScope s_View_init) := ⟨rfl, rfl, rfl, by decide +kernel, rfl, by decide +kernel, by decide +kernel⟩
abbrev s_product : Stmt := topS 52
abbrev N_product : List Str := ["numbers", "result", "number"]
theorem sc_product : FnScope N_product ["numbers"] (defScope s_product) := ⟨rfl, rfl, rfl, by decide +kernel, rfl, by decide +kernel, by decide +kernel⟩
abbrev s_whole_view : Stmt := topS 53
abbrev N_whole_view : List Str := ["array_length"]
theorem sc_whole_view : FnScope N_whole_view ["array_length"] (defScope s_whole_view) := ⟨rfl, rfl, rfl, by decide +kernel, rfl, by decide +kernel, by decide +kernel⟩
abbrev s_lies_within : Stmt := topS 54
abbrev N_lies_within : List Str := ["view", "array_length", "spans", "first", "last", "length", "stride", "span"]
theorem sc_lies_within : FnScope N_lies_within ["view", "array_length"] (defScope s_lies_within) := ⟨rfl, rfl, rfl, by decide +kernel, rfl, by decide +kernel, by decide +kernel⟩
abbrev s_is_index : Stmt := topS 55
abbrev N_is_index : List Str := ["view", "index", "position", "length"]
theorem sc_is_index : FnScope N_is_index ["view", "index"] (defScope s_is_index) := ⟨rfl, rfl, rfl, by decide +kernel, rfl, by decide +kernel, by decide +kernel⟩
abbrev s_cell_of : Stmt := topS 56
abbrev N_cell_of : List Str := ["view", "index", "position", "stride"]
theorem sc_cell_of : FnScope N_cell_of ["view", "index"] (defScope s_cell_of) := ⟨rfl, rfl, rfl, by decide +kernel, rfl, by decide +kernel, by decide +kernel⟩
abbrev s_set_length : Stmt := topS 58
abbrev N_set_length : List Str := ["store", "n"]
theorem sc_set_length : FnScope N_set_length ["store", "n"] (defScope s_set_length) := ⟨rfl, rfl, rfl, by decide +kernel, rfl, by decide +kernel, by decide +kernel⟩
abbrev s_set_view : Stmt := topS 59
abbrev N_set_view : List Str := ["store", "r", "offset", "axes", "view"]
theorem sc_set_view : FnScope N_set_view ["store", "r", "offset", "axes"] (defScope s_set_view) := ⟨rfl, rfl, rfl, by decide +kernel, rfl, by decide +kernel, by decide +kernel⟩
abbrev s_get_view : Stmt := topS 60
abbrev N_get_view : List Str := ["store", "p", "view", "axes", "length", "stride"]
theorem sc_get_view : FnScope N_get_view ["store", "p"] (defScope s_get_view) := ⟨rfl, rfl, rfl, by decide +kernel, rfl, by decide +kernel, by decide +kernel⟩
abbrev s_cell_at : Stmt := topS 61
abbrev N_cell_at : List Str := ["store", "p", "index", "view"]
theorem sc_cell_at : FnScope N_cell_at ["store", "p", "index"] (defScope s_cell_at) := ⟨rfl, rfl, rfl, by decide +kernel, rfl, by decide +kernel, by decide +kernel⟩
abbrev s_solve : Stmt := topS 62
abbrev N_solve : List Str := ["target", "variables", "solution", "certificate"]
theorem sc_solve : FnScope N_solve ["target", "variables"] (defScope s_solve) := ⟨rfl, rfl, rfl, by decide +kernel, rfl, by decide +kernel, by decide +kernel⟩
abbrev s_check_certificate : Stmt := topS 63
abbrev N_check_certificate : List Str := ["target", "variables", "certificate"]
theorem sc_check_certificate : FnScope N_check_certificate ["target", "variables", "certificate"] (defScope s_check_certificate) := ⟨rfl, rfl, rfl, by decide +kernel, rfl, by decide +kernel, by decide +kernel⟩
abbrev s_find_shared : Stmt := topS 64
abbrev N_find_shared : List Str := ["store", "p", "q", "left", "right", "solution", "certificate", "axis_count"]
theorem sc_find_shared : FnScope N_find_shared ["store", "p", "q"] (defScope s_find_shared) := ⟨rfl, rfl, rfl, by decide +kernel, rfl, by decide +kernel, by decide +kernel⟩
abbrev s_prove_disjoint : Stmt := topS 65
abbrev N_prove_disjoint : List Str := ["store", "p", "q", "certificate", "left", "right"]
theorem sc_prove_disjoint : FnScope N_prove_disjoint ["store", "p", "q", "certificate"] (defScope s_prove_disjoint) := ⟨rfl, rfl, rfl, by decide +kernel, rfl, by decide +kernel, by decide +kernel⟩
abbrev s_find_repetition : Stmt := topS 66
abbrev N_find_repetition : List Str := ["store", "p", "view", "certificates", "axis", "boxes_left", "solution", "claims", "differences", "first", "second", "difference"]
theorem sc_find_repetition : FnScope N_find_repetition ["store", "p"] (defScope s_find_repetition) := ⟨rfl, rfl, rfl, by decide +kernel, rfl, by decide +kernel, by decide +kernel⟩
abbrev s_prove_distinct : Stmt := topS 67
abbrev N_prove_distinct : List Str := ["store", "p", "certificates", "view", "axes", "parts", "valid", "axis", "part"]
theorem sc_prove_distinct : FnScope N_prove_distinct ["store", "p", "certificates"] (defScope s_prove_distinct) := ⟨rfl, rfl, rfl, by decide +kernel, rfl, by decide +kernel, by decide +kernel⟩
abbrev s_view_from : Stmt := topS 68
abbrev N_view_from : List Str := ["offset", "axes", "lengths", "view", "length"]
theorem sc_view_from : FnScope N_view_from ["offset", "axes"] (defScope s_view_from) := ⟨rfl, rfl, rfl, by decide +kernel, rfl, by decide +kernel, by decide +kernel⟩
abbrev s_equation_from : Stmt := topS 69
abbrev N_equation_from : List Str := ["target", "variables", "coefficients", "uppers", "coefficient", "upper"]
theorem sc_equation_from : FnScope N_equation_from ["target", "variables"] (defScope s_equation_from) := ⟨rfl, rfl, rfl, by decide +kernel, rfl, by decide +kernel, by decide +kernel⟩
abbrev s_is_pairs : Stmt := topS 70
abbrev N_is_pairs : List Str := ["row", "limit"]
theorem sc_is_pairs : FnScope N_is_pairs ["row", "limit"] (defScope s_is_pairs) := ⟨rfl, rfl, rfl, by decide +kernel, rfl, by decide +kernel, by decide +kernel⟩
abbrev s_validity : Stmt := topS 71
abbrev N_validity : List Str := ["equation", "certificate"]
theorem sc_validity : FnScope N_validity ["equation", "certificate"] (defScope s_validity) := ⟨rfl, rfl, rfl, by decide +kernel, rfl, by decide +kernel, by decide +kernel⟩
abbrev s_counted : Stmt := topS 72
abbrev N_counted : List Str := ["row"]
theorem sc_counted : FnScope N_counted ["row"] (defScope s_counted) := ⟨rfl, rfl, rfl, by decide +kernel, rfl, by decide +kernel, by decide +kernel⟩
abbrev s_elements_with_cell : Stmt := topS 74
abbrev N_elements_with_cell : List Str := ["store", "p", "x", "numbers"]
theorem sc_elements_with_cell : FnScope N_elements_with_cell ["store", "p", "x"] (defScope s_elements_with_cell) := ⟨rfl, rfl, rfl, by decide +kernel, rfl, by decide +kernel, by decide +kernel⟩
abbrev s_cell_statistics : Stmt := topS 75
abbrev N_cell_statistics : List Str := ["store", "p", "found", "most", "smallest", "numbers", "cell"]
theorem sc_cell_statistics : FnScope N_cell_statistics ["store", "p"] (defScope s_cell_statistics) := ⟨rfl, rfl, rfl, by decide +kernel, rfl, by decide +kernel, by decide +kernel⟩
abbrev s_shared_statistics : Stmt := topS 76
abbrev N_shared_statistics : List Str := ["store", "p", "q", "left", "right", "found", "others", "pairs", "cell", "numbers"]
theorem sc_shared_statistics : FnScope N_shared_statistics ["store", "p", "q"] (defScope s_shared_statistics) := ⟨rfl, rfl, rfl, by decide +kernel, rfl, by decide +kernel, by decide +kernel⟩
abbrev s_first_shared_pair : Stmt := topS 77
abbrev N_first_shared_pair : List Str := ["store", "p", "q", "left", "right", "others", "number", "cell"]
theorem sc_first_shared_pair : FnScope N_first_shared_pair ["store", "p", "q"] (defScope s_first_shared_pair) := ⟨rfl, rfl, rfl, by decide +kernel, rfl, by decide +kernel, by decide +kernel⟩
abbrev s_first_repeated : Stmt := topS 78
abbrev N_first_repeated : List Str := ["store", "p", "found", "numbers"]
theorem sc_first_repeated : FnScope N_first_repeated ["store", "p"] (defScope s_first_repeated) := ⟨rfl, rfl, rfl, by decide +kernel, rfl, by decide +kernel, by decide +kernel⟩
abbrev s_is_covered : Stmt := topS 79
abbrev N_is_covered : List Str := ["store", "p", "q", "left", "right", "others", "number", "cell"]
theorem sc_is_covered : FnScope N_is_covered ["store", "p", "q"] (defScope s_is_covered) := ⟨rfl, rfl, rfl, by decide +kernel, rfl, by decide +kernel, by decide +kernel⟩
abbrev s_two_lists : Stmt := topS 80
abbrev N_two_lists : List Str := ["store", "p", "q", "left", "right"]
theorem sc_two_lists : FnScope N_two_lists ["store", "p", "q"] (defScope s_two_lists) := ⟨rfl, rfl, rfl, by decide +kernel, rfl, by decide +kernel, by decide +kernel⟩
abbrev s_listed_cells : Stmt := topS 81
abbrev N_listed_cells : List Str := ["view", "cells", "length", "stride", "longer", "cell", "position"]
theorem sc_listed_cells : FnScope N_listed_cells ["view"] (defScope s_listed_cells) := ⟨rfl, rfl, rfl, by decide +kernel, rfl, by decide +kernel, by decide +kernel⟩
abbrev s_numbers_by_cell : Stmt := topS 82
abbrev N_numbers_by_cell : List Str := ["cells", "found", "number", "cell"]
theorem sc_numbers_by_cell : FnScope N_numbers_by_cell ["cells"] (defScope s_numbers_by_cell) := ⟨rfl, rfl, rfl, by decide +kernel, rfl, by decide +kernel, by decide +kernel⟩
abbrev s_Store_init : Stmt := inClass (topS 84) 0
abbrev N_Store_init : List Str := ["self"]
theorem sc_Store_init : FnScope N_Store_init ["self"] (defScope s_Store_init) := ⟨rfl, rfl, rfl, by decide +kernel, rfl, by decide +kernel, by decide +kernel⟩
abbrev s_Store_resize : Stmt := inClass (topS 84) 1
abbrev N_Store_resize : List Str := ["self", "array_length"]
theorem sc_Store_resize : FnScope N_Store_resize ["self", "array_length"] (defScope s_Store_resize) := ⟨rfl, rfl, rfl, by decide +kernel, rfl, by decide +kernel, by decide +kernel⟩
abbrev s_Store_require : Stmt := inClass (topS 84) 2
abbrev N_Store_require : List Str := ["self", "number"]
theorem sc_Store_require : FnScope N_Store_require ["self", "number"] (defScope s_Store_require) := ⟨rfl, rfl, rfl, by decide +kernel, rfl, by decide +kernel, by decide +kernel⟩
abbrev s_Store_view_in : Stmt := inClass (topS 84) 3
abbrev N_Store_view_in : List Str := ["self", "number"]
theorem sc_Store_view_in : FnScope N_Store_view_in ["self", "number"] (defScope s_Store_view_in) := ⟨rfl, rfl, rfl, by decide +kernel, rfl, by decide +kernel, by decide +kernel⟩
abbrev s_Store_put_view : Stmt := inClass (topS 84) 4
abbrev N_Store_put_view : List Str := ["self", "number", "view"]
theorem sc_Store_put_view : FnScope N_Store_put_view ["self", "number", "view"] (defScope s_Store_put_view) := ⟨rfl, rfl, rfl, by decide +kernel, rfl, by decide +kernel, by decide +kernel⟩
abbrev s_answers : Stmt := topS 87
abbrev N_answers : List Str := ["calls", "store", "result", "place", "operation", "number_count", "row_count", "rows_start", "numbers", "rows", "answer"]
theorem sc_answers : FnScope N_answers ["calls"] (defScope s_answers) := ⟨rfl, rfl, rfl, by decide +kernel, rfl, by decide +kernel, by decide +kernel⟩
abbrev s_read_rows : Stmt := topS 88
abbrev N_read_rows : List Str := ["calls", "start", "count", "rows", "place", "turn", "end"]
theorem sc_read_rows : FnScope N_read_rows ["calls", "start", "count"] (defScope s_read_rows) := ⟨rfl, rfl, rfl, by decide +kernel, rfl, by decide +kernel, by decide +kernel⟩
abbrev s_answer_or_code : Stmt := topS 89
abbrev N_answer_or_code : List Str := ["store", "operation", "numbers", "rows", "refusal"]
theorem sc_answer_or_code : FnScope N_answer_or_code ["store", "operation", "numbers", "rows"] (defScope s_answer_or_code) := ⟨rfl, rfl, rfl, by decide +kernel, rfl, by decide +kernel, by decide +kernel⟩
abbrev s_answer_to : Stmt := topS 90
abbrev N_answer_to : List Str := ["store", "operation", "numbers", "rows"]
theorem sc_answer_to : FnScope N_answer_to ["store", "operation", "numbers", "rows"] (defScope s_answer_to) := ⟨rfl, rfl, rfl, by decide +kernel, rfl, by decide +kernel, by decide +kernel⟩
abbrev s_small_views_answer : Stmt := topS 91
abbrev N_small_views_answer : List Str := ["store", "operation", "numbers"]
theorem sc_small_views_answer : FnScope N_small_views_answer ["store", "operation", "numbers"] (defScope s_small_views_answer) := ⟨rfl, rfl, rfl, by decide +kernel, rfl, by decide +kernel, by decide +kernel⟩
/-- the table FORMS -/
structure Tab_FORMS (K : PySem.W.Frag) (mg : Str → Option Value) where
  a : Addr
  g : mg "FORMS" = some (.ref a)
  q_0 : Addr
  q_1 : Addr
  q_2 : Addr
  q_3 : Addr
  q_4 : Addr
  q_5 : Addr
  q_6 : Addr
  q_7 : Addr
  q_8 : Addr
  q_9 : Addr
  q_10 : Addr
  q_11 : Addr
  q_12 : Addr
  q_13 : Addr
  q_14 : Addr
  q_15 : Addr
  Q : ∀ H : Hp, SqT K H a [.ref q_0, .ref q_1, .ref q_2, .ref q_3, .ref q_4, .ref q_5, .ref q_6, .ref q_7, .ref q_8, .ref q_9, .ref q_10, .ref q_11, .ref q_12, .ref q_13, .ref q_14, .ref q_15]
  Q_0 : ∀ H : Hp, SqT K H q_0 [.int 1, .int 0]
  Q_1 : ∀ H : Hp, SqT K H q_1 [.int 2, .int 1]
  Q_2 : ∀ H : Hp, SqT K H q_2 [.int 1, .int 0]
  Q_3 : ∀ H : Hp, SqT K H q_3 [.int 1, .int 1]
  Q_4 : ∀ H : Hp, SqT K H q_4 [.int 1, .int 1]
  Q_5 : ∀ H : Hp, SqT K H q_5 [.int 1, .int 2]
  Q_6 : ∀ H : Hp, SqT K H q_6 [.int 2, .int 0]
  Q_7 : ∀ H : Hp, SqT K H q_7 [.int 2, .int 1]
  Q_8 : ∀ H : Hp, SqT K H q_8 [.int 1, .int 0]
  Q_9 : ∀ H : Hp, SqT K H q_9 [.int 1, .int 1]
  Q_10 : ∀ H : Hp, SqT K H q_10 [.int 2, .int 0]
  Q_11 : ∀ H : Hp, SqT K H q_11 [.int 1, .int 0]
  Q_12 : ∀ H : Hp, SqT K H q_12 [.int 2, .int 0]
  Q_13 : ∀ H : Hp, SqT K H q_13 [.int 2, .int 0]
  Q_14 : ∀ H : Hp, SqT K H q_14 [.int 1, .int 0]
  Q_15 : ∀ H : Hp, SqT K H q_15 [.int 2, .int 0]
/-- no class of an instance has the name of one of its values -/
structure Na_Box (K : PySem.W.Frag) (C : Addr) : Prop where
  equation : NoAttr K C "equation"
  fixed : NoAttr K C "fixed"
  lower : NoAttr K C "lower"
  upper : NoAttr K C "upper"
  rest : NoAttr K C "rest"
/-- no class of an instance has the name of one of its values -/
structure Na_Equation (K : PySem.W.Frag) (C : Addr) : Prop where
  target : NoAttr K C "target"
  width : NoAttr K C "width"
  lacks_values : NoAttr K C "lacks_values"
  places : NoAttr K C "places"
  coefficients : NoAttr K C "coefficients"
  uppers : NoAttr K C "uppers"
  least_tails : NoAttr K C "least_tails"
  greatest_tails : NoAttr K C "greatest_tails"
  divisors : NoAttr K C "divisors"
  pair_modulus : NoAttr K C "pair_modulus"
  pair_inverse : NoAttr K C "pair_inverse"
/-- no class of an instance has the name of one of its values -/
structure Na_View (K : PySem.W.Frag) (C : Addr) : Prop where
  size : NoAttr K C "size"
  lengths : NoAttr K C "lengths"
  offset : NoAttr K C "offset"
  strides : NoAttr K C "strides"
/-- no class of an instance has the name of one of its values -/
structure Na_Store (K : PySem.W.Frag) (C : Addr) : Prop where
  array_length : NoAttr K C "array_length"
  views : NoAttr K C "views"
/-- what the program's top has left -/
structure Top (K : PySem.W.Frag) (mg : Str → Option Value) where
  b_len : mg "len" = none
  b_max : mg "max" = none
  b_min : mg "min" = none
  b_enumerate : mg "enumerate" = none
  b_sum : mg "sum" = none
  b_all : mg "all" = none
  b_zip : mg "zip" = none
  b_range : mg "range" = none
  b_abs : mg "abs" = none
  b_list : mg "list" = none
  b_any : mg "any" = none
  k_BISECTION : Ic mg "BISECTION" (0)
  k_BY_RANGE : Ic mg "BY_RANGE" (1)
  k_BY_DIVISIBILITY : Ic mg "BY_DIVISIBILITY" (2)
  k_BY_PAIR : Ic mg "BY_PAIR" (3)
  k_GREATEST : Ic mg "GREATEST" (1000000000000000000)
  k_REGISTER_COUNT : Ic mg "REGISTER_COUNT" (6)
  k_AXIS_LIMIT : Ic mg "AXIS_LIMIT" (6)
  k_VARIABLE_LIMIT : Ic mg "VARIABLE_LIMIT" (8)
  k_ELEMENT_LIMIT : Ic mg "ELEMENT_LIMIT" (400)
  k_BOX_LIMIT : Ic mg "BOX_LIMIT" (2000)
  k_FORMS : Tab_FORMS K mg
  c_Box : Addr
  l_Box : Cs K mg "Box" c_Box
  n_Box : Na_Box K c_Box
  c_Refusal : Addr
  c_NoSuchRegister : Addr
  c_ArrayLengthOutOfRange : Addr
  c_NotAnIndex : Addr
  c_NotAxes : Addr
  c_AxisLengthOutOfRange : Addr
  c_ViewTooLarge : Addr
  c_CellOutsideArray : Addr
  c_NotVariables : Addr
  c_VariableOutOfRange : Addr
  c_SearchLimitExceeded : Addr
  c_TooManyElements : Addr
  c_NotOneCertificate : Addr
  c_Equation : Addr
  l_Equation : Cs K mg "Equation" c_Equation
  n_Equation : Na_Equation K c_Equation
  c_View : Addr
  l_View : Cs K mg "View" c_View
  n_View : Na_View K c_View
  c_Store : Addr
  l_Store : Cs K mg "Store" c_Store
  n_Store : Na_Store K c_Store
  f_common_divisor : Df K "common_divisor" "common_divisor" s_common_divisor ["numbers"]
  g_common_divisor : mg "common_divisor" = some (.ref f_common_divisor.a)
  f_inverse_for : Df K "inverse_for" "inverse_for" s_inverse_for ["number", "modulus"]
  g_inverse_for : mg "inverse_for" = some (.ref f_inverse_for.a)
  f_ceiling_quotient : Df K "ceiling_quotient" "ceiling_quotient" s_ceiling_quotient ["number", "divisor"]
  g_ceiling_quotient : mg "ceiling_quotient" = some (.ref f_ceiling_quotient.a)
  f_Box_init : Df K "__init__" "Box.__init__" s_Box_init ["self", "equation", "fixed", "lower", "upper", "rest"]
  mk_Box : Mk K c_Box f_Box_init.a
  f_Box_free_count : Df K "free_count" "Box.free_count" s_Box_free_count ["self"]
  m_Box_free_count : Meth K c_Box "free_count" f_Box_free_count.a
  f_Box_fails_range : Df K "fails_range" "Box.fails_range" s_Box_fails_range ["self"]
  m_Box_fails_range : Meth K c_Box "fails_range" f_Box_fails_range.a
  f_Box_fails_divisibility : Df K "fails_divisibility" "Box.fails_divisibility" s_Box_fails_divisibility ["self"]
  m_Box_fails_divisibility : Meth K c_Box "fails_divisibility" f_Box_fails_divisibility.a
  f_Box_fails_pair : Df K "fails_pair" "Box.fails_pair" s_Box_fails_pair ["self"]
  m_Box_fails_pair : Meth K c_Box "fails_pair" f_Box_fails_pair.a
  f_Box_halves : Df K "halves" "Box.halves" s_Box_halves ["self"]
  m_Box_halves : Meth K c_Box "halves" f_Box_halves.a
  f_whole_box : Df K "whole_box" "whole_box" s_whole_box ["equation"]
  g_whole_box : mg "whole_box" = some (.ref f_whole_box.a)
  f_box_after : Df K "box_after" "box_after" s_box_after ["equation", "fixed", "rest"]
  g_box_after : mg "box_after" = some (.ref f_box_after.a)
  f_narrowed : Df K "narrowed" "narrowed" s_narrowed ["box", "lower", "upper"]
  g_narrowed : mg "narrowed" = some (.ref f_narrowed.a)
  f_least_values : Df K "least_values" "least_values" s_least_values ["box"]
  g_least_values : mg "least_values" = some (.ref f_least_values.a)
  f_least_pair : Df K "least_pair" "least_pair" s_least_pair ["box"]
  g_least_pair : mg "least_pair" = some (.ref f_least_pair.a)
  f_Refusal_init : Df K "__init__" "Refusal.__init__" s_Refusal_init ["self", "code"]
  mc_Refusal : Value
  base_Refusal : BaseC K mg c_Refusal f_Refusal_init.a mc_Refusal
  f_NoSuchRegister_init : Df K "__init__" "NoSuchRegister.__init__" s_NoSuchRegister_init ["self"]
  x_NoSuchRegister : SubC K mg c_Refusal c_NoSuchRegister f_NoSuchRegister_init.a "NoSuchRegister"
  f_ArrayLengthOutOfRange_init : Df K "__init__" "ArrayLengthOutOfRange.__init__" s_ArrayLengthOutOfRange_init ["self"]
  x_ArrayLengthOutOfRange : SubC K mg c_Refusal c_ArrayLengthOutOfRange f_ArrayLengthOutOfRange_init.a "ArrayLengthOutOfRange"
  f_NotAnIndex_init : Df K "__init__" "NotAnIndex.__init__" s_NotAnIndex_init ["self"]
  x_NotAnIndex : SubC K mg c_Refusal c_NotAnIndex f_NotAnIndex_init.a "NotAnIndex"
  f_NotAxes_init : Df K "__init__" "NotAxes.__init__" s_NotAxes_init ["self"]
  x_NotAxes : SubC K mg c_Refusal c_NotAxes f_NotAxes_init.a "NotAxes"
  f_AxisLengthOutOfRange_init : Df K "__init__" "AxisLengthOutOfRange.__init__" s_AxisLengthOutOfRange_init ["self"]
  x_AxisLengthOutOfRange : SubC K mg c_Refusal c_AxisLengthOutOfRange f_AxisLengthOutOfRange_init.a "AxisLengthOutOfRange"
  f_ViewTooLarge_init : Df K "__init__" "ViewTooLarge.__init__" s_ViewTooLarge_init ["self"]
  x_ViewTooLarge : SubC K mg c_Refusal c_ViewTooLarge f_ViewTooLarge_init.a "ViewTooLarge"
  f_CellOutsideArray_init : Df K "__init__" "CellOutsideArray.__init__" s_CellOutsideArray_init ["self"]
  x_CellOutsideArray : SubC K mg c_Refusal c_CellOutsideArray f_CellOutsideArray_init.a "CellOutsideArray"
  f_NotVariables_init : Df K "__init__" "NotVariables.__init__" s_NotVariables_init ["self"]
  x_NotVariables : SubC K mg c_Refusal c_NotVariables f_NotVariables_init.a "NotVariables"
  f_VariableOutOfRange_init : Df K "__init__" "VariableOutOfRange.__init__" s_VariableOutOfRange_init ["self"]
  x_VariableOutOfRange : SubC K mg c_Refusal c_VariableOutOfRange f_VariableOutOfRange_init.a "VariableOutOfRange"
  f_SearchLimitExceeded_init : Df K "__init__" "SearchLimitExceeded.__init__" s_SearchLimitExceeded_init ["self"]
  x_SearchLimitExceeded : SubC K mg c_Refusal c_SearchLimitExceeded f_SearchLimitExceeded_init.a "SearchLimitExceeded"
  f_TooManyElements_init : Df K "__init__" "TooManyElements.__init__" s_TooManyElements_init ["self"]
  x_TooManyElements : SubC K mg c_Refusal c_TooManyElements f_TooManyElements_init.a "TooManyElements"
  f_NotOneCertificate_init : Df K "__init__" "NotOneCertificate.__init__" s_NotOneCertificate_init ["self"]
  x_NotOneCertificate : SubC K mg c_Refusal c_NotOneCertificate f_NotOneCertificate_init.a "NotOneCertificate"
  f_search : Df K "search" "search" s_search ["equation", "box_limit"]
  g_search : mg "search" = some (.ref f_search.a)
  f_push_halves : Df K "push_halves" "push_halves" s_push_halves ["boxes", "box"]
  g_push_halves : mg "push_halves" = some (.ref f_push_halves.a)
  f_separated : Df K "separated" "separated" s_separated ["claims"]
  g_separated : mg "separated" = some (.ref f_separated.a)
  f_is_one_certificate : Df K "is_one_certificate" "is_one_certificate" s_is_one_certificate ["claims"]
  g_is_one_certificate : mg "is_one_certificate" = some (.ref f_is_one_certificate.a)
  f_is_valid : Df K "is_valid" "is_valid" s_is_valid ["equation", "certificate"]
  g_is_valid : mg "is_valid" = some (.ref f_is_valid.a)
  f_is_true_claim : Df K "is_true_claim" "is_true_claim" s_is_true_claim ["claim", "box"]
  g_is_true_claim : mg "is_true_claim" = some (.ref f_is_true_claim.a)
  f_Equation_init : Df K "__init__" "Equation.__init__" s_Equation_init ["self", "target", "coefficients", "uppers"]
  mk_Equation : Mk K c_Equation f_Equation_init.a
  f_Equation_prepare_pair : Df K "prepare_pair" "Equation.prepare_pair" s_Equation_prepare_pair ["self"]
  m_Equation_prepare_pair : Meth K c_Equation "prepare_pair" f_Equation_prepare_pair.a
  f_Equation_full_solution : Df K "full_solution" "Equation.full_solution" s_Equation_full_solution ["self", "free_values"]
  m_Equation_full_solution : Meth K c_Equation "full_solution" f_Equation_full_solution.a
  f_free_places : Df K "free_places" "free_places" s_free_places ["coefficients", "uppers"]
  g_free_places : mg "free_places" = some (.ref f_free_places.a)
  f_tail_sums : Df K "tail_sums" "tail_sums" s_tail_sums ["terms"]
  g_tail_sums : mg "tail_sums" = some (.ref f_tail_sums.a)
  f_shared_equation : Df K "shared_equation" "shared_equation" s_shared_equation ["left", "right"]
  g_shared_equation : mg "shared_equation" = some (.ref f_shared_equation.a)
  f_repetition_axes : Df K "repetition_axes" "repetition_axes" s_repetition_axes ["view"]
  g_repetition_axes : mg "repetition_axes" = some (.ref f_repetition_axes.a)
  f_repetition_equation : Df K "repetition_equation" "repetition_equation" s_repetition_equation ["view", "axis"]
  g_repetition_equation : mg "repetition_equation" = some (.ref f_repetition_equation.a)
  f_represented_differences : Df K "represented_differences" "represented_differences" s_represented_differences ["view", "axis", "solution"]
  g_represented_differences : mg "represented_differences" = some (.ref f_represented_differences.a)
  f_View_init : Df K "__init__" "View.__init__" s_View_init ["self", "offset", "lengths", "strides"]
  mk_View : Mk K c_View f_View_init.a
  f_product : Df K "product" "product" s_product ["numbers"]
  g_product : mg "product" = some (.ref f_product.a)
  f_whole_view : Df K "whole_view" "whole_view" s_whole_view ["array_length"]
  g_whole_view : mg "whole_view" = some (.ref f_whole_view.a)
  f_lies_within : Df K "lies_within" "lies_within" s_lies_within ["view", "array_length"]
  g_lies_within : mg "lies_within" = some (.ref f_lies_within.a)
  f_is_index : Df K "is_index" "is_index" s_is_index ["view", "index"]
  g_is_index : mg "is_index" = some (.ref f_is_index.a)
  f_cell_of : Df K "cell_of" "cell_of" s_cell_of ["view", "index"]
  g_cell_of : mg "cell_of" = some (.ref f_cell_of.a)
  f_set_length : Df K "set_length" "set_length" s_set_length ["store", "n"]
  g_set_length : mg "set_length" = some (.ref f_set_length.a)
  f_set_view : Df K "set_view" "set_view" s_set_view ["store", "r", "offset", "axes"]
  g_set_view : mg "set_view" = some (.ref f_set_view.a)
  f_get_view : Df K "get_view" "get_view" s_get_view ["store", "p"]
  g_get_view : mg "get_view" = some (.ref f_get_view.a)
  f_cell_at : Df K "cell_at" "cell_at" s_cell_at ["store", "p", "index"]
  g_cell_at : mg "cell_at" = some (.ref f_cell_at.a)
  f_solve : Df K "solve" "solve" s_solve ["target", "variables"]
  g_solve : mg "solve" = some (.ref f_solve.a)
  f_check_certificate : Df K "check_certificate" "check_certificate" s_check_certificate ["target", "variables", "certificate"]
  g_check_certificate : mg "check_certificate" = some (.ref f_check_certificate.a)
  f_find_shared : Df K "find_shared" "find_shared" s_find_shared ["store", "p", "q"]
  g_find_shared : mg "find_shared" = some (.ref f_find_shared.a)
  f_prove_disjoint : Df K "prove_disjoint" "prove_disjoint" s_prove_disjoint ["store", "p", "q", "certificate"]
  g_prove_disjoint : mg "prove_disjoint" = some (.ref f_prove_disjoint.a)
  f_find_repetition : Df K "find_repetition" "find_repetition" s_find_repetition ["store", "p"]
  g_find_repetition : mg "find_repetition" = some (.ref f_find_repetition.a)
  f_prove_distinct : Df K "prove_distinct" "prove_distinct" s_prove_distinct ["store", "p", "certificates"]
  g_prove_distinct : mg "prove_distinct" = some (.ref f_prove_distinct.a)
  f_view_from : Df K "view_from" "view_from" s_view_from ["offset", "axes"]
  g_view_from : mg "view_from" = some (.ref f_view_from.a)
  f_equation_from : Df K "equation_from" "equation_from" s_equation_from ["target", "variables"]
  g_equation_from : mg "equation_from" = some (.ref f_equation_from.a)
  f_is_pairs : Df K "is_pairs" "is_pairs" s_is_pairs ["row", "limit"]
  g_is_pairs : mg "is_pairs" = some (.ref f_is_pairs.a)
  f_validity : Df K "validity" "validity" s_validity ["equation", "certificate"]
  g_validity : mg "validity" = some (.ref f_validity.a)
  f_counted : Df K "counted" "counted" s_counted ["row"]
  g_counted : mg "counted" = some (.ref f_counted.a)
  f_elements_with_cell : Df K "elements_with_cell" "elements_with_cell" s_elements_with_cell ["store", "p", "x"]
  g_elements_with_cell : mg "elements_with_cell" = some (.ref f_elements_with_cell.a)
  f_cell_statistics : Df K "cell_statistics" "cell_statistics" s_cell_statistics ["store", "p"]
  g_cell_statistics : mg "cell_statistics" = some (.ref f_cell_statistics.a)
  f_shared_statistics : Df K "shared_statistics" "shared_statistics" s_shared_statistics ["store", "p", "q"]
  g_shared_statistics : mg "shared_statistics" = some (.ref f_shared_statistics.a)
  f_first_shared_pair : Df K "first_shared_pair" "first_shared_pair" s_first_shared_pair ["store", "p", "q"]
  g_first_shared_pair : mg "first_shared_pair" = some (.ref f_first_shared_pair.a)
  f_first_repeated : Df K "first_repeated" "first_repeated" s_first_repeated ["store", "p"]
  g_first_repeated : mg "first_repeated" = some (.ref f_first_repeated.a)
  f_is_covered : Df K "is_covered" "is_covered" s_is_covered ["store", "p", "q"]
  g_is_covered : mg "is_covered" = some (.ref f_is_covered.a)
  f_two_lists : Df K "two_lists" "two_lists" s_two_lists ["store", "p", "q"]
  g_two_lists : mg "two_lists" = some (.ref f_two_lists.a)
  f_listed_cells : Df K "listed_cells" "listed_cells" s_listed_cells ["view"]
  g_listed_cells : mg "listed_cells" = some (.ref f_listed_cells.a)
  f_numbers_by_cell : Df K "numbers_by_cell" "numbers_by_cell" s_numbers_by_cell ["cells"]
  g_numbers_by_cell : mg "numbers_by_cell" = some (.ref f_numbers_by_cell.a)
  f_Store_init : Df K "__init__" "Store.__init__" s_Store_init ["self"]
  mk_Store : Mk K c_Store f_Store_init.a
  f_Store_resize : Df K "resize" "Store.resize" s_Store_resize ["self", "array_length"]
  m_Store_resize : Meth K c_Store "resize" f_Store_resize.a
  f_Store_require : Df K "require" "Store.require" s_Store_require ["self", "number"]
  m_Store_require : Meth K c_Store "require" f_Store_require.a
  f_Store_view_in : Df K "view_in" "Store.view_in" s_Store_view_in ["self", "number"]
  m_Store_view_in : Meth K c_Store "view_in" f_Store_view_in.a
  f_Store_put_view : Df K "put_view" "Store.put_view" s_Store_put_view ["self", "number", "view"]
  m_Store_put_view : Meth K c_Store "put_view" f_Store_put_view.a
  f_answers : Df K "answers" "answers" s_answers ["calls"]
  g_answers : mg "answers" = some (.ref f_answers.a)
  f_read_rows : Df K "read_rows" "read_rows" s_read_rows ["calls", "start", "count"]
  g_read_rows : mg "read_rows" = some (.ref f_read_rows.a)
  f_answer_or_code : Df K "answer_or_code" "answer_or_code" s_answer_or_code ["store", "operation", "numbers", "rows"]
  g_answer_or_code : mg "answer_or_code" = some (.ref f_answer_or_code.a)
  f_answer_to : Df K "answer_to" "answer_to" s_answer_to ["store", "operation", "numbers", "rows"]
  g_answer_to : mg "answer_to" = some (.ref f_answer_to.a)
  f_small_views_answer : Df K "small_views_answer" "small_views_answer" s_small_views_answer ["store", "operation", "numbers"]
  g_small_views_answer : mg "small_views_answer" = some (.ref f_small_views_answer.a)
end Ov
end

section
set_option Elab.async false
set_option linter.all false
set_option maxRecDepth 100000
set_option maxHeartbeats 4000000
/-! max(xs, default=d), min(xs, default=d) of a list of whole numbers, empty or not. -/
namespace Ov
open PySem PySem.Spec PyProof.Rows L2
/-- a built-in function, called with keywords too -/
def CallKw (X : Cx) (f : Value) (ks : List Str) (r : List V → List V → Hp → VK → Prop) : Prop :=
  ∀ (pins : List (Addr × Obj)) (s : Shared) (σ : L2.St) (H : Hp) (xs zs : List V) (us ws : List Value) (Q : VK), Inv X pins σ H s → Vals xs us → Vals zs ws → r xs zs H Q →
    wpAny (model X.prog X.w) X.A (call f us (ks.zip ws)) (EP X pins σ Q) X.xe s
def tKwC (r : List V → List V → Hp → VK → Prop) (t tk : TA) : TE := fun σ H Q => t σ H fun vs H1 => tk σ H1 fun zs H2 => r vs zs H2 Q
section
variable {X : Cx} {f : Str} {p pos : Pos} {e : Expr} {es : List Expr} {kws : List Keyword} {ta tk : TA} {id : String} {ks : List Str} {r : List V → List V → Hp → VK → Prop}
theorem pe_callKw (hc : CallKw X (.builtin id) ks r) (g : Gl X f) (m : X.mg f = none) (b : bootBuiltins f = some (.builtin id)) (ha : PA X (e :: es) ta) (hk : PK X kws tk)
    (n1 : f ≠ "__name__" := by decide) (n2 : (f == ("__debug__" : Str)) = false := by decide)
    (s1 : backTo pos (starEach (e :: es) X.env) = (false, eval e X.env) :: backTo pos (starEach es X.env) := by rfl)
    (s2 : (backTo pos (starEach (e :: es) X.env)).any (·.1) = false := by rfl)
    (s3 : (backToKw pos (keywordEach kws X.env)).all (·.1.isSome) = true := by rfl)
    (s4 : (backToKw pos (keywordEach kws X.env)).any (·.1.isNone) = false := by rfl)
    (s5 : (backToKw pos (keywordEach kws X.env)).filterMap (·.1) = ks := by rfl) : PE X (.Call (.Name f p) (e :: es) kws pos) (tKwC r ta tk) := by
  refine ⟨fun pins s σ H Q I h => wpAny_Call_Name_kw (ld_blt I g m b ?_ n1 n2)⟩
  refine callWith_kw (thn (ha.run pos pins s σ H _ I h) fun us z1 ⟨vs, H1, I1, r1, q1⟩ => thn (hk.run pos pins z1 σ H1 _ I1 q1) fun ws z2 ⟨zs, H2, I2, r2, q2⟩ => ?_) s1 s2 s3 s4
  rw [s5]
  exact hc pins z2 σ H2 vs zs us ws Q I2 r1 r2 q2
end

theorem max_args (a v : Value) : argsOk "max" ⟨[a], [(Str.ofString "default", v)]⟩ := by
  unfold argsOk
  kernel_rfl
section
variable {pg : Program} {wd : World} {A : Around} {R : Result → Shared → Prop} {J : Addr} {fp wr : List Addr} {n : Nat} {P : Nat → Value → Prop} {St : Nat → Heap → Prop}
/-- max's loop, whatever the default is -/
theorem max_on (W : Walks pg wd A.in1 J fp wr n P St) (bt : Nat → Nat → Bool) (hc : CmpOf pg wd A.in1 .Gt P bt) (B : Addr) (nf : B ∉ fp) (kw : List (Str × Value)) :
    ∀ (k j : Nat) (z : Shared) (x : Value) (c : Nat), n - (j + 1) = k → j + 1 ≤ n → St (j + 1) z.heap → P (argBest bt j) x → z.heap.get? B = some { cls := .type "list", dict := none, data := .seq #[x, x] c, slots := #[] } →
    (∀ v h' tk, P (argBest bt (n - 1)) v → (∀ b o, b ∉ wr → b ≠ B → z.heap.get? b = some o → h'.get? b = some o) → R (.ok (.ret v)) { z with heap := h', toks := tk }) →
    codeAny (model pg wd) A (.builtin "max.loop" ⟨[.ref J, .none, .ref B], kw⟩) R z := by
  have nw : B ∉ wr := fun q => nf (W.sub _ q)
  have nm : (toString "max" ++ toString ".loop" : String) = "max.loop" := by rfl
  intro k
  induction k with
  | zero =>
    intro j z x c e0 le st px lb fin
    have en : j + 1 = n := by omega
    refine codeAny_builtin F.entry_max_loop ((Around.under_plainId F.plain_max_loop _).symm ▸ ?_)
    show wpAny _ A.in1 (seqItems? (.ref B) >>= _) _ _ z
    refine wpAny_bind (wpAny_seqItems lb rfl ?_)
    show wpAny _ A.in1 (tryCatch (pyNext (.ref J)) _ >>= _) _ _ z
    refine wpAny_bind (wpAny_tryCatch (W.done z _ _ (en ▸ st) fun h' tk kp => ?_))
    have lb2 := kp B _ nw lb
    show wpAny _ A.in1 (updateSeq B (fun _ => #[]) >>= _) _ _ _
    refine wpAny_bind (wpAny_updateSeq lb2 rfl (wpAny_bind (wpAny_letGo (wpAny_pure ?_))))
    exact fin x _ tk (by rw [← en]; exact px) fun b o q1 q2 e => (Heap.get?_update_other _ _ (Ne.symm q2)).trans (kp b o q1 e)
  | succ k ih =>
    intro j z x c e0 le st px lb fin
    have lt : j + 1 < n := by omega
    refine codeAny_builtin F.entry_max_loop ((Around.under_plainId F.plain_max_loop _).symm ▸ ?_)
    show wpAny _ A.in1 (seqItems? (.ref B) >>= _) _ _ z
    refine wpAny_bind (wpAny_seqItems lb rfl ?_)
    show wpAny _ A.in1 (tryCatch (pyNext (.ref J)) _ >>= _) _ _ z
    refine wpAny_bind (wpAny_tryCatch (W.item (j + 1) z _ _ lt st fun v h' tk pv st2 kp => ?_))
    have lb2 := kp B _ nw lb
    show wpAny _ A.in1 (tryCatch (holding [v, v] (richCompare .Gt v x >>= _)) _ >>= _) _ _ _
    refine wpAny_bind (wpAny_tryCatch (wpAny_holding (wpAny_bind (hc (j + 1) (argBest bt j) v x _ _ _ pv px ?_))))
    refine wpAny_bind (wpAny_holding (wpAny_truthy_bool (wpAny_bind (wpAny_letGo (wpAny_pure ?_)))))
    cases eb : bt (j + 1) (argBest bt j) with
    | true =>
      simp only [if_true]
      refine wpAny_bind (wpAny_updateSeq lb2 rfl (wpAny_bind (wpAny_letGo (nm ▸ ?_))))
      refine wpAny_pure ⟨plainId_quiet F.plain_max_loop _, ih (j + 1) _ v _ (by omega) lt (W.frame _ _ _ st2 fun b mb o e => ?_) (by simp only [argBest, eb, if_true]; exact pv) (Heap.get?_update_self _ lb2 rfl) fun v2 h2 t2 p2 k2 => ?_⟩
      · exact (Heap.get?_update_other _ _ (fun q : B = b => nf (by rw [q]; exact mb))).trans e
      · exact fin v2 h2 t2 p2 fun b o q1 q2 e => k2 b o q1 q2 ((Heap.get?_update_other _ _ (Ne.symm q2)).trans (kp b o q1 e))
    | false =>
      simp only [Bool.false_eq_true, if_false]
      refine wpAny_bind (wpAny_letGo (nm ▸ ?_))
      refine wpAny_pure ⟨plainId_quiet F.plain_max_loop _, ih (j + 1) _ x c (by omega) lt st2 (by simp only [argBest, eb, Bool.false_eq_true, if_false]; exact px) lb2 fun v2 h2 t2 p2 k2 => ?_⟩
      exact fin v2 h2 t2 p2 fun b o q1 q2 e => k2 b o q1 q2 (kp b o q1 e)
theorem max_go (W : Walks pg wd A.in1 J fp wr n P St) (bt : Nat → Nat → Bool) (hc : CmpOf pg wd A.in1 .Gt P bt) (B : Addr) (nf : B ∉ fp) (d : Value) {z : Shared} {c : Nat} (st : St 0 z.heap)
    (lb : z.heap.get? B = some { cls := .type "list", dict := none, data := .seq #[] c, slots := #[] })
    (fin : ∀ v h' tk, (0 < n ∧ P (argBest bt (n - 1)) v) ∨ (n = 0 ∧ v = d) → (∀ b o, b ∉ wr → b ≠ B → z.heap.get? b = some o → h'.get? b = some o) → R (.ok (.ret v)) { z with heap := h', toks := tk }) :
    codeAny (model pg wd) A (.builtin "max.loop" ⟨[.ref J, .none, .ref B], [("default", d)]⟩) R z := by
  have nw : B ∉ wr := fun q => nf (W.sub _ q)
  have nm : (toString "max" ++ toString ".loop" : String) = "max.loop" := by rfl
  refine codeAny_builtin F.entry_max_loop ((Around.under_plainId F.plain_max_loop _).symm ▸ ?_)
  show wpAny _ A.in1 (seqItems? (.ref B) >>= _) _ _ z
  refine wpAny_bind (wpAny_seqItems lb rfl ?_)
  show wpAny _ A.in1 (tryCatch (pyNext (.ref J)) _ >>= _) _ _ z
  by_cases n0 : n = 0
  · refine wpAny_bind (wpAny_tryCatch (W.done z _ _ (n0 ▸ st) fun h' tk kp => ?_))
    show wpAny _ A.in1 (rule _ >>= _) _ _ _
    refine wpAny_bind (wpAny_rule (wpAny_pure ?_))
    exact fin d h' tk (.inr ⟨n0, rfl⟩) fun b o q1 _ e => kp b o q1 e
  · have np : 0 < n := Nat.pos_of_ne_zero n0
    refine wpAny_bind (wpAny_tryCatch (W.item 0 z _ _ np st fun v h' tk pv st2 kp => ?_))
    have lb2 := kp B _ nw lb
    show wpAny _ A.in1 (updateSeq B (fun _ => #[v, v]) >>= _) _ _ _
    refine wpAny_bind (wpAny_updateSeq lb2 rfl (nm ▸ ?_))
    refine wpAny_pure ⟨plainId_quiet F.plain_max_loop _, max_on W bt hc B nf _ _ 0 _ v _ rfl np (W.frame _ _ _ st2 fun b mb o e => ?_) pv (Heap.get?_update_self _ lb2 rfl) fun v2 h2 t2 p2 k2 => ?_⟩
    · exact (Heap.get?_update_other _ _ (fun q : B = b => nf (by rw [q]; exact mb))).trans e
    · exact fin v2 h2 t2 (.inl ⟨np, p2⟩) fun b o q1 q2 e => k2 b o q1 q2 ((Heap.get?_update_other _ _ (Ne.symm q2)).trans (kp b o q1 e))
end
section
variable {pg : Program} {wd : World} {A : Around} {E : Value → Shared → Prop} {s : Shared} {l : Addr} {its : List Value} {ns : List Int} {Q : Value → Shared → Prop}
theorem max_dflt (hh : A.handled = none) (hl : s.heap.IsList l its.toArray) (hi : IntsAre its ns) (d : Value)
    (fin : ∀ v h' tk, (∀ b o, s.heap.get? b = some o → h'.get? b = some o) → (ns = [] ∧ v = d) ∨ (∃ M t, v = .int M t ∧ M ∈ ns ∧ ∀ a, a ∈ ns → a ≤ M) → Q v { s with heap := h', toks := tk }) :
    wpAny (model pg wd) A (call (.builtin "max") [.ref l] [(Str.ofString "default", d)]) Q E s := by
  have nm : (toString "max" ++ toString ".loop" : String) = "max.loop" := by rfl
  obtain ⟨xs, e⟩ := hi.allInts.items
  have hn : numsOf (intItems xs).toList = ns := by rw [← e]; exact hi.numsOf
  rw [nums_intItems] at hn
  subst hn
  rw [e] at hl
  refine kmk_tree F.kind_max F.plain_max F.entry_max (max_args _ _) ?_
  show wpAny _ A.in1 (Builtin.Builtins.bindParams "max" ["key", "default"] 0 ⟨[], [(Str.ofString "default", d)]⟩ >>= _) _ _ s
  refine wpAny_bind (wpAny_of_eq (show Builtin.Builtins.bindParams "max" ["key", "default"] 0 ⟨[], [(Str.ofString "default", d)]⟩ = pure [none, some d] from rfl) ?_)
  refine wpAny_bind (wpAny_pure (wpAny_bind (iter_intList hl fun s2 e2 st fpb nl => ?_)))
  subst e2
  refine wpAny_bind (wpAny_newObj_type ?_)
  have nf : (s.heap.push { cls := .type "list_iterator", data := .fields #[.ref l, .int 0 0] }).objs.size ∉ [s.heap.objs.size, l] := fun q => Nat.lt_irrefl _ (fpb _ q)
  refine nm ▸ ?_
  have W := Walks.list (prog := pg) (w := wd) (A := A.in1) hh s.heap.objs.size l nl (intItems xs)
  refine wpAny_pure ⟨plainId_quiet F.plain_max_loop _, max_go W _ (CmpOf.ints_gt (numAt xs) (fun _ _ => intItems_at)) _ nf d (W.frame _ _ _ st fun b _ o e => Heap.get?_push_of_some _ e) (Heap.get?_push_size _ rfl) fun v h' tk hv kp => ?_⟩
  refine fin v h' tk (old_kept fun b o q e => kp b o q (Nat.ne_of_lt (Heap.lt_size e)) (Heap.get?_push_of_some _ e)) ?_
  have hsz : (intItems xs).size = xs.size := by simp [intItems]
  rw [hsz] at hv
  rcases hv with ⟨np, hv⟩ | ⟨n0, rfl⟩
  · right
    have hv : (intItems xs)[argBest (fun i j => decide (numAt xs i > numAt xs j)) (xs.size - 1)]? = some v := hv
    obtain ⟨t, rfl⟩ := intItems_at hv
    obtain ⟨h1, h2⟩ := argBest_gt (numAt xs) (xs.size - 1)
    refine ⟨_, t, rfl, ?_, fun a ha => ?_⟩
    · rw [numAt_eq]
      exact PySem.getD_mem (by rw [List.length_map, Array.length_toList]; omega)
    · obtain ⟨j, hj, rfl⟩ := mem_getD ha
      rw [List.length_map, Array.length_toList] at hj
      rw [← numAt_eq]
      exact h2 j (by omega)
  · left
    refine ⟨?_, rfl⟩
    have : xs.toList.length = 0 := by rw [Array.length_toList]; exact n0
    rw [List.eq_nil_of_length_eq_zero this]; rfl
end
section
variable {X : Cx}
def rmaxD (K : PySem.W.Frag) : List V → List V → Hp → VK → Prop := fun vs zs H Q => ∃ (a : Addr) (ns : List Int) (d : Int), vs = [V.ref a] ∧ zs = [.int d] ∧ SqL K H a (ns.map V.int) ∧ ∀ M, (ns = [] ∧ M = d) ∨ (M ∈ ns ∧ ∀ a, a ∈ ns → a ≤ M) → Q (.int M) H
theorem cr_maxD (hc : X.calm = true) : CallKw X (.builtin "max") [Str.ofString "default"] (rmaxD X.K) := by
  intro pins s σ H vs zs us ws Q I r rz h
  obtain ⟨a, ns, d, rfl, rfl, hs, q1⟩ := h
  obtain ⟨its, rv, hl, _⟩ := I.list hs
  rw [Vals.ref1 r]
  obtain ⟨w1, rfl, rd⟩ := rz.one
  refine max_dflt (I.ok.hd hc) hl.isList rv.ints w1 fun v h' tk kp hv => ?_
  rcases hv with ⟨n0, rfl⟩ | ⟨M, t, rfl, h1, h2⟩
  · exact ⟨.int d, H, I.kept kp, rd, q1 d (.inl ⟨n0, rfl⟩)⟩
  · exact ⟨.int _, H, I.kept kp, ⟨_, rfl⟩, q1 M (.inr ⟨h1, h2⟩)⟩
end

theorem min_args (a v : Value) : argsOk "min" ⟨[a], [(Str.ofString "default", v)]⟩ := by
  unfold argsOk
  kernel_rfl
section
variable {pg : Program} {wd : World} {A : Around} {R : Result → Shared → Prop} {J : Addr} {fp wr : List Addr} {n : Nat} {P : Nat → Value → Prop} {St : Nat → Heap → Prop}
/-- min's loop, whatever the default is -/
theorem min_on (W : Walks pg wd A.in1 J fp wr n P St) (bt : Nat → Nat → Bool) (hc : CmpOf pg wd A.in1 .Lt P bt) (B : Addr) (nf : B ∉ fp) (kw : List (Str × Value)) :
    ∀ (k j : Nat) (z : Shared) (x : Value) (c : Nat), n - (j + 1) = k → j + 1 ≤ n → St (j + 1) z.heap → P (argBest bt j) x → z.heap.get? B = some { cls := .type "list", dict := none, data := .seq #[x, x] c, slots := #[] } →
    (∀ v h' tk, P (argBest bt (n - 1)) v → (∀ b o, b ∉ wr → b ≠ B → z.heap.get? b = some o → h'.get? b = some o) → R (.ok (.ret v)) { z with heap := h', toks := tk }) →
    codeAny (model pg wd) A (.builtin "min.loop" ⟨[.ref J, .none, .ref B], kw⟩) R z := by
  have nw : B ∉ wr := fun q => nf (W.sub _ q)
  have nm : (toString "min" ++ toString ".loop" : String) = "min.loop" := by rfl
  intro k
  induction k with
  | zero =>
    intro j z x c e0 le st px lb fin
    have en : j + 1 = n := by omega
    refine codeAny_builtin F.entry_min_loop ((Around.under_plainId F.plain_min_loop _).symm ▸ ?_)
    show wpAny _ A.in1 (seqItems? (.ref B) >>= _) _ _ z
    refine wpAny_bind (wpAny_seqItems lb rfl ?_)
    show wpAny _ A.in1 (tryCatch (pyNext (.ref J)) _ >>= _) _ _ z
    refine wpAny_bind (wpAny_tryCatch (W.done z _ _ (en ▸ st) fun h' tk kp => ?_))
    have lb2 := kp B _ nw lb
    show wpAny _ A.in1 (updateSeq B (fun _ => #[]) >>= _) _ _ _
    refine wpAny_bind (wpAny_updateSeq lb2 rfl (wpAny_bind (wpAny_letGo (wpAny_pure ?_))))
    exact fin x _ tk (by rw [← en]; exact px) fun b o q1 q2 e => (Heap.get?_update_other _ _ (Ne.symm q2)).trans (kp b o q1 e)
  | succ k ih =>
    intro j z x c e0 le st px lb fin
    have lt : j + 1 < n := by omega
    refine codeAny_builtin F.entry_min_loop ((Around.under_plainId F.plain_min_loop _).symm ▸ ?_)
    show wpAny _ A.in1 (seqItems? (.ref B) >>= _) _ _ z
    refine wpAny_bind (wpAny_seqItems lb rfl ?_)
    show wpAny _ A.in1 (tryCatch (pyNext (.ref J)) _ >>= _) _ _ z
    refine wpAny_bind (wpAny_tryCatch (W.item (j + 1) z _ _ lt st fun v h' tk pv st2 kp => ?_))
    have lb2 := kp B _ nw lb
    show wpAny _ A.in1 (tryCatch (holding [v, v] (richCompare .Lt v x >>= _)) _ >>= _) _ _ _
    refine wpAny_bind (wpAny_tryCatch (wpAny_holding (wpAny_bind (hc (j + 1) (argBest bt j) v x _ _ _ pv px ?_))))
    refine wpAny_bind (wpAny_holding (wpAny_truthy_bool (wpAny_bind (wpAny_letGo (wpAny_pure ?_)))))
    cases eb : bt (j + 1) (argBest bt j) with
    | true =>
      simp only [if_true]
      refine wpAny_bind (wpAny_updateSeq lb2 rfl (wpAny_bind (wpAny_letGo (nm ▸ ?_))))
      refine wpAny_pure ⟨plainId_quiet F.plain_min_loop _, ih (j + 1) _ v _ (by omega) lt (W.frame _ _ _ st2 fun b mb o e => ?_) (by simp only [argBest, eb, if_true]; exact pv) (Heap.get?_update_self _ lb2 rfl) fun v2 h2 t2 p2 k2 => ?_⟩
      · exact (Heap.get?_update_other _ _ (fun q : B = b => nf (by rw [q]; exact mb))).trans e
      · exact fin v2 h2 t2 p2 fun b o q1 q2 e => k2 b o q1 q2 ((Heap.get?_update_other _ _ (Ne.symm q2)).trans (kp b o q1 e))
    | false =>
      simp only [Bool.false_eq_true, if_false]
      refine wpAny_bind (wpAny_letGo (nm ▸ ?_))
      refine wpAny_pure ⟨plainId_quiet F.plain_min_loop _, ih (j + 1) _ x c (by omega) lt st2 (by simp only [argBest, eb, Bool.false_eq_true, if_false]; exact px) lb2 fun v2 h2 t2 p2 k2 => ?_⟩
      exact fin v2 h2 t2 p2 fun b o q1 q2 e => k2 b o q1 q2 (kp b o q1 e)
theorem min_go (W : Walks pg wd A.in1 J fp wr n P St) (bt : Nat → Nat → Bool) (hc : CmpOf pg wd A.in1 .Lt P bt) (B : Addr) (nf : B ∉ fp) (d : Value) {z : Shared} {c : Nat} (st : St 0 z.heap)
    (lb : z.heap.get? B = some { cls := .type "list", dict := none, data := .seq #[] c, slots := #[] })
    (fin : ∀ v h' tk, (0 < n ∧ P (argBest bt (n - 1)) v) ∨ (n = 0 ∧ v = d) → (∀ b o, b ∉ wr → b ≠ B → z.heap.get? b = some o → h'.get? b = some o) → R (.ok (.ret v)) { z with heap := h', toks := tk }) :
    codeAny (model pg wd) A (.builtin "min.loop" ⟨[.ref J, .none, .ref B], [("default", d)]⟩) R z := by
  have nw : B ∉ wr := fun q => nf (W.sub _ q)
  have nm : (toString "min" ++ toString ".loop" : String) = "min.loop" := by rfl
  refine codeAny_builtin F.entry_min_loop ((Around.under_plainId F.plain_min_loop _).symm ▸ ?_)
  show wpAny _ A.in1 (seqItems? (.ref B) >>= _) _ _ z
  refine wpAny_bind (wpAny_seqItems lb rfl ?_)
  show wpAny _ A.in1 (tryCatch (pyNext (.ref J)) _ >>= _) _ _ z
  by_cases n0 : n = 0
  · refine wpAny_bind (wpAny_tryCatch (W.done z _ _ (n0 ▸ st) fun h' tk kp => ?_))
    show wpAny _ A.in1 (rule _ >>= _) _ _ _
    refine wpAny_bind (wpAny_rule (wpAny_pure ?_))
    exact fin d h' tk (.inr ⟨n0, rfl⟩) fun b o q1 _ e => kp b o q1 e
  · have np : 0 < n := Nat.pos_of_ne_zero n0
    refine wpAny_bind (wpAny_tryCatch (W.item 0 z _ _ np st fun v h' tk pv st2 kp => ?_))
    have lb2 := kp B _ nw lb
    show wpAny _ A.in1 (updateSeq B (fun _ => #[v, v]) >>= _) _ _ _
    refine wpAny_bind (wpAny_updateSeq lb2 rfl (nm ▸ ?_))
    refine wpAny_pure ⟨plainId_quiet F.plain_min_loop _, min_on W bt hc B nf _ _ 0 _ v _ rfl np (W.frame _ _ _ st2 fun b mb o e => ?_) pv (Heap.get?_update_self _ lb2 rfl) fun v2 h2 t2 p2 k2 => ?_⟩
    · exact (Heap.get?_update_other _ _ (fun q : B = b => nf (by rw [q]; exact mb))).trans e
    · exact fin v2 h2 t2 (.inl ⟨np, p2⟩) fun b o q1 q2 e => k2 b o q1 q2 ((Heap.get?_update_other _ _ (Ne.symm q2)).trans (kp b o q1 e))
end
section
variable {pg : Program} {wd : World} {A : Around} {E : Value → Shared → Prop} {s : Shared} {l : Addr} {its : List Value} {ns : List Int} {Q : Value → Shared → Prop}
theorem min_dflt (hh : A.handled = none) (hl : s.heap.IsList l its.toArray) (hi : IntsAre its ns) (d : Value)
    (fin : ∀ v h' tk, (∀ b o, s.heap.get? b = some o → h'.get? b = some o) → (ns = [] ∧ v = d) ∨ (∃ M t, v = .int M t ∧ M ∈ ns ∧ ∀ a, a ∈ ns → M ≤ a) → Q v { s with heap := h', toks := tk }) :
    wpAny (model pg wd) A (call (.builtin "min") [.ref l] [(Str.ofString "default", d)]) Q E s := by
  have nm : (toString "min" ++ toString ".loop" : String) = "min.loop" := by rfl
  obtain ⟨xs, e⟩ := hi.allInts.items
  have hn : numsOf (intItems xs).toList = ns := by rw [← e]; exact hi.numsOf
  rw [nums_intItems] at hn
  subst hn
  rw [e] at hl
  refine kmk_tree F.kind_min F.plain_min F.entry_min (min_args _ _) ?_
  show wpAny _ A.in1 (Builtin.Builtins.bindParams "min" ["key", "default"] 0 ⟨[], [(Str.ofString "default", d)]⟩ >>= _) _ _ s
  refine wpAny_bind (wpAny_of_eq (show Builtin.Builtins.bindParams "min" ["key", "default"] 0 ⟨[], [(Str.ofString "default", d)]⟩ = pure [none, some d] from rfl) ?_)
  refine wpAny_bind (wpAny_pure (wpAny_bind (iter_intList hl fun s2 e2 st fpb nl => ?_)))
  subst e2
  refine wpAny_bind (wpAny_newObj_type ?_)
  have nf : (s.heap.push { cls := .type "list_iterator", data := .fields #[.ref l, .int 0 0] }).objs.size ∉ [s.heap.objs.size, l] := fun q => Nat.lt_irrefl _ (fpb _ q)
  refine nm ▸ ?_
  have W := Walks.list (prog := pg) (w := wd) (A := A.in1) hh s.heap.objs.size l nl (intItems xs)
  refine wpAny_pure ⟨plainId_quiet F.plain_min_loop _, min_go W _ (CmpOf.ints_lt (numAt xs) (fun _ _ => intItems_at)) _ nf d (W.frame _ _ _ st fun b _ o e => Heap.get?_push_of_some _ e) (Heap.get?_push_size _ rfl) fun v h' tk hv kp => ?_⟩
  refine fin v h' tk (old_kept fun b o q e => kp b o q (Nat.ne_of_lt (Heap.lt_size e)) (Heap.get?_push_of_some _ e)) ?_
  have hsz : (intItems xs).size = xs.size := by simp [intItems]
  rw [hsz] at hv
  rcases hv with ⟨np, hv⟩ | ⟨n0, rfl⟩
  · right
    have hv : (intItems xs)[argBest (fun i j => decide (numAt xs i < numAt xs j)) (xs.size - 1)]? = some v := hv
    obtain ⟨t, rfl⟩ := intItems_at hv
    obtain ⟨h1, h2⟩ := argBest_lt (numAt xs) (xs.size - 1)
    refine ⟨_, t, rfl, ?_, fun a ha => ?_⟩
    · rw [numAt_eq]
      exact PySem.getD_mem (by rw [List.length_map, Array.length_toList]; omega)
    · obtain ⟨j, hj, rfl⟩ := mem_getD ha
      rw [List.length_map, Array.length_toList] at hj
      rw [← numAt_eq]
      exact h2 j (by omega)
  · left
    refine ⟨?_, rfl⟩
    have : xs.toList.length = 0 := by rw [Array.length_toList]; exact n0
    rw [List.eq_nil_of_length_eq_zero this]; rfl
end
section
variable {X : Cx}
def rminD (K : PySem.W.Frag) : List V → List V → Hp → VK → Prop := fun vs zs H Q => ∃ (a : Addr) (ns : List Int) (d : Int), vs = [V.ref a] ∧ zs = [.int d] ∧ SqL K H a (ns.map V.int) ∧ ∀ M, (ns = [] ∧ M = d) ∨ (M ∈ ns ∧ ∀ a, a ∈ ns → M ≤ a) → Q (.int M) H
theorem cr_minD (hc : X.calm = true) : CallKw X (.builtin "min") [Str.ofString "default"] (rminD X.K) := by
  intro pins s σ H vs zs us ws Q I r rz h
  obtain ⟨a, ns, d, rfl, rfl, hs, q1⟩ := h
  obtain ⟨its, rv, hl, _⟩ := I.list hs
  rw [Vals.ref1 r]
  obtain ⟨w1, rfl, rd⟩ := rz.one
  refine min_dflt (I.ok.hd hc) hl.isList rv.ints w1 fun v h' tk kp hv => ?_
  rcases hv with ⟨n0, rfl⟩ | ⟨M, t, rfl, h1, h2⟩
  · exact ⟨.int d, H, I.kept kp, rd, q1 d (.inl ⟨n0, rfl⟩)⟩
  · exact ⟨.int _, H, I.kept kp, ⟨_, rfl⟩, q1 M (.inr ⟨h1, h2⟩)⟩
end
end Ov
end

section
set_option Elab.async false
set_option linter.all false
set_option maxRecDepth 100000
set_option maxHeartbeats 4000000
/-! arithmetic -/
namespace Ov
open PySem PySem.Spec PyProof.Rows L2
variable {P : Program} {w : World} {K : PySem.W.Frag} {mg : Str → Option Value} {base : Heap}

/-! ### words for readings -/
theorem getI {ns : List Int} {i : Nat} {y : V} (h : (ns.map V.int)[i]? = some y) : ∃ z, ns[i]? = some z ∧ y = V.int z := by
  rw [List.getElem?_map] at h
  cases e : ns[i]? with
  | none => rw [e] at h; cases h
  | some z => rw [e] at h; exact ⟨z, rfl, (Option.some.inj h).symm⟩
theorem take_more {α : Type} {l : List α} {i : Nat} {x : α} (h : l[i]? = some x) : l.take (i + 1) = l.take i ++ [x] := by
  rw [List.take_succ, h]; rfl
theorem iteNe {x y : Int} {A B : Prop} (h1 : x ≠ y → A) (h2 : x = y → B) : if (!decide (V.int x = V.int y)) = true then A else B := by
  by_cases e : x = y
  · rw [if_neg (by simp [e])]; exact h2 e
  · rw [if_pos (by simp [e])]; exact h1 e
theorem iteEq {x y : Int} {A B : Prop} (h1 : x = y → A) (h2 : x ≠ y → B) : if decide (V.int x = V.int y) = true then A else B := by
  by_cases e : x = y
  · rw [if_pos (by simp [e])]; exact h1 e
  · rw [if_neg (by simp [e])]; exact h2 e
theorem iteD {c A B : Prop} [Decidable c] (h1 : c → A) (h2 : ¬ c → B) : if decide c = true then A else B := by
  by_cases e : c
  · rw [if_pos (decide_eq_true e)]; exact h1 e
  · rw [if_neg (by rw [decide_eq_false e]; exact Bool.false_ne_true)]; exact h2 e
theorem iteB {b : Bool} {A B : Prop} (h1 : b = true → A) (h2 : b = false → B) : if b = true then A else B := by
  cases b with
  | true => exact iteT (h1 rfl)
  | false => exact iteF (h2 rfl)

theorem two_ok : 2 ≤ sizeLine := by decide
theorem one_ok : 1 ≤ sizeLine := by decide
theorem same_new {H : Hp} {p : Addr} {o : HO} (h : H p = none) : Same H (upd H p o) := fun b u e => by
  rw [upd_ne (ne_of_none e h)]; exact e

/-- the slots, said anew -/
theorem slots {i : Nat} {v : V} {N : L2.St → Hp → Prop} {σ σ' : L2.St} {H : Hp} (e : σ.set i (some v) = σ') (h : N σ' H) : gName i v σ H N := by
  show N (σ.set i (some v)) H
  rw [e]; exact h

def gcdL (ns : List Int) : Nat := ns.foldl (fun g c => Nat.gcd g c.natAbs) 0
theorem gcdL_more {ns : List Int} {i : Nat} {z : Int} (h : ns[i]? = some z) : gcdL (ns.take (i + 1)) = Nat.gcd (gcdL (ns.take i)) z.natAbs := by
  unfold gcdL
  rw [take_more h, List.foldl_append]; rfl
theorem fmodN (a b : Nat) : (a : Int).fmod b = ((a % b : Nat) : Int) := by
  rw [Int.fmod_eq_emod_of_nonneg _ (by omega)]; rfl
theorem fdivN (a b : Nat) : (a : Int).fdiv b = ((a / b : Nat) : Int) := by
  rw [Int.fdiv_eq_ediv_of_nonneg _ (by omega)]; rfl

def spCommon (K : PySem.W.Frag) : Sp := fun vs H Q _ => ∃ (a : Addr) (ns : List Int), vs = [.ref a] ∧ SqL K H a (ns.map V.int) ∧ Q (.int (gcdL ns)) H
theorem ok_common_divisor (T : Top K mg) : FnOk P w K mg base CX0 1 T.f_common_divisor.a T.f_common_divisor.d ["numbers"] (spCommon K) := by
  refine T.f_common_divisor.F.ok sc_common_divisor (fun vs H Q E h => ?_) (fun cdv A outer s H vs Q E hr h => ⟨_, (pss_cons (ps_set (i := 1) sc_common_divisor.nd rfl (Or.inl rfl) pe_int)
    (pss_cons (ps_for PassesOwn.never rfl (pi_list (pv 0)) (pg_name (i := 2) sc_common_divisor.nd rfl (Or.inl rfl)) (pss_cons (ps_set (i := 3) sc_common_divisor.nd rfl (Or.inl rfl) (pe_callB call_abs (by rfl) T.b_abs (by decide +kernel) (pa_cons (pv 2) pa_nil)))
    (pss_one (ps_while PassesOwn.never (pt_cmpR op_ne (pv 3) pe_int (nomark _)) (pss_one (ps_par (i := 1) (j := 3) (by rfl) sc_common_divisor.nd rfl rfl (by decide) rfl rfl (pa_cons (pv 3) (pa_cons (pe_op op_modN (pv 1) (pv 3)) pa_nil)) (by rfl)))))))
    (pss_one (ps_ret (pv 1))))), ?_⟩)
  · obtain ⟨a, ns, rfl, _⟩ := h; rfl
  obtain ⟨a, ns, rfl, hS, k⟩ := h
  refine ⟨_, rfl, a, rfl, ⟨_, hS⟩, for_list (K := K) (a := a) (xs := ns.map V.int) (fun i σ H' => ∃ u v : Option V, σ = [some (.ref a), some (.int (gcdL (ns.take i))), u, v] ∧ H' = H)
    ⟨none, none, rfl, rfl⟩ (fun i σ H' _ ⟨_, _, _, e⟩ => e ▸ hS) ?_ ?_⟩
  · rintro i y σ H' hi ⟨u, v, rfl, rfl⟩
    obtain ⟨z, hz, rfl⟩ := getI hi
    refine ⟨_, rfl, _, rfl, ?_⟩
    refine ⟨fun m σ H2 => ∃ g : Nat, σ = [some (.ref a), some (.int g), some (.int z), some (.int m)] ∧ H2 = H' ∧ Nat.gcd g m = gcdL (ns.take (i + 1)),
      ⟨z.natAbs, gcdL (ns.take i), ?_, rfl, (gcdL_more hz).symm⟩, ?_⟩
    · have e : (if z < 0 then -z else z) = (z.natAbs : Int) := by split <;> omega
      rw [e]; rfl
    · rintro m σ H2 ⟨g, rfl, rfl, hg⟩
      refine ⟨_, rfl, rfl, _, rfl, iteNe (fun hm => ?_) (fun hm => ?_)⟩
      · have hm0 : m ≠ 0 := by omega
        refine ⟨fun σ' H3 => ∃ m', m' < m ∧ ∃ g : Nat, σ' = [some (.ref a), some (.int g), some (.int z), some (.int m')] ∧ H3 = H2 ∧ Nat.gcd g m' = gcdL (ns.take (i + 1)), fun _ _ q => q, ?_⟩
        refine ⟨_, rfl, _, rfl, _, rfl, _, _, rfl, rfl, hm, _, _, rfl, ?_⟩
        refine ⟨g % m, Nat.mod_lt _ (Nat.pos_of_ne_zero hm0), m, ?_, rfl, ?_⟩
        · show [_, some (V.int m), _, some (V.int ((g : Int).fmod m))] = _
          rw [fmodN]
        · rw [← hg, Nat.gcd_comm m, ← Nat.gcd_rec, Nat.gcd_comm]
      · have hm0 : m = 0 := by omega
        subst hm0
        rw [Nat.gcd_zero_right] at hg
        rw [← hg]
        exact ⟨_, _, rfl, rfl⟩
  · rintro σ H' ⟨u, v, rfl, rfl⟩
    rw [List.length_map, List.take_length]
    exact ⟨_, rfl, k⟩

def spInverse : Sp := fun vs H Q _ => ∃ (c m : Int), vs = [.int c, .int m] ∧ 0 < m ∧ m < 2 ^ 64 ∧ Nat.gcd c.natAbs m.natAbs = 1 ∧
  ∀ (v : Int) (H' : Hp), Same H H' → 0 ≤ v → v < m → (v * c) % m = 1 % m → Q (.int v) H'
theorem ok_inverse_for (T : Top K mg) : FnOk P w K mg base CX0 1 T.f_inverse_for.a T.f_inverse_for.d ["number", "modulus"] spInverse := by
  refine T.f_inverse_for.F.ok sc_inverse_for (fun vs H Q E h => ?_) (fun cdv A outer s H vs Q E hr h => ⟨_, (pss_cons (ps_par (i := 2) (j := 3) (by rfl) sc_inverse_for.nd rfl rfl (by decide) rfl rfl (pa_cons (pv 1) (pa_cons (pe_op op_modN (pv 0) (pv 1)) pa_nil)) (by rfl))
    (pss_cons (ps_asg (pe_tup (pa_cons pe_int (pa_cons pe_int pa_nil))) (pg_tup (by rfl) (pgs_cons (pg_name (i := 4) sc_inverse_for.nd rfl (Or.inl rfl)) (pgs_cons (pg_name (i := 5) sc_inverse_for.nd rfl (Or.inl rfl)) pgs_nil))))
    (pss_cons (ps_while PassesOwn.never (pt_cmpR op_ne (pv 3) pe_int (nomark _)) (pss_cons (ps_set (i := 6) sc_inverse_for.nd rfl (Or.inl rfl) (pe_op op_fdivA (pv 2) (pv 3)))
    (pss_cons (ps_par (i := 2) (j := 3) (by rfl) sc_inverse_for.nd rfl rfl (by decide) rfl rfl (pa_cons (pv 3) (pa_cons (pe_op op_sub (pv 2) (pe_op op_mulW (pv 6) (pv 3))) pa_nil)) (by rfl))
    (pss_one (ps_par (i := 4) (j := 5) (by rfl) sc_inverse_for.nd rfl rfl (by decide) rfl rfl (pa_cons (pv 5) (pa_cons (pe_op op_sub (pv 4) (pe_op op_mulW (pv 6) (pv 5))) pa_nil)) (by rfl))))))
    (pss_one (ps_ret (pe_op op_modN (pv 4) (pv 1))))))), ?_⟩)
  · obtain ⟨c, m, rfl, _⟩ := h; rfl
  obtain ⟨c, m, rfl, hm, hb, hg, k⟩ := h
  refine ⟨_, rfl, _, rfl, _, rfl, _, _, rfl, rfl, (by omega), _, _, rfl, ?_⟩
  refine ⟨two_ok, fun p hp => ⟨p, _, rfl, .inl (.inl upd_same), rfl, _, _, rfl, _, _, rfl, rfl, ?_⟩⟩
  have sm : Same H (upd H p (.tup [.int 0, .int 1])) := same_new hp
  refine ⟨fun n σ H2 => ∃ (o : Nat) (x y : Int) (q : Option V), σ = [some (.int c), some (.int m), some (.int o), some (.int n), some (.int x), some (.int y), q] ∧ Same H H2 ∧ o ≤ m.toNat ∧ n ≤ m.toNat ∧ InvSt c m o n x y,
    ⟨(c % m).toNat, m.toNat, 0, 1, none, ?_, sm, Nat.le_refl _, ?_, .start hm hg⟩, ?_⟩
  · have e1 : (m.toNat : Int) = m := Int.toNat_of_nonneg (by omega)
    have e2 : ((c % m).toNat : Int) = c % m := Int.toNat_of_nonneg (Int.emod_nonneg _ (by omega))
    rw [e1, e2, ← Int.fmod_eq_emod_of_nonneg _ (by omega)]; rfl
  · have := Int.emod_lt_of_pos c hm
    omega
  · rintro n σ H2 ⟨o, x, y, q, rfl, sH, ho, hn, I⟩
    refine ⟨_, rfl, rfl, _, rfl, iteNe (fun hz => ?_) (fun hz => ?_)⟩
    · have hn0 : n ≠ 0 := by omega
      have by_ := I.y_le
      have hq : o / n ≤ o := Nat.div_le_self _ _
      refine ⟨fun σ' H3 => ∃ n', n' < n ∧ ∃ (o : Nat) (x y : Int) (q : Option V), σ' = [some (.int c), some (.int m), some (.int o), some (.int n'), some (.int x), some (.int y), q] ∧ Same H H3 ∧ o ≤ m.toNat ∧ n' ≤ m.toNat ∧ InvSt c m o n' x y, fun _ _ q => q, ?_⟩
      have eq := fdivN o n
      refine ⟨_, rfl, _, rfl, _, _, rfl, rfl, cdivA (by omega) (by omega), ?_⟩
      refine ⟨_, rfl, _, rfl, _, rfl, _, rfl, _, _, rfl, rfl, wide_mul (a := 64) (b := 64) (by rw [eq, Int.natAbs_natCast]; omega) (by omega) (by decide) (by decide) (by decide), _, _, rfl, rfl, _, _, rfl, ?_⟩
      refine ⟨_, rfl, _, rfl, _, rfl, _, rfl, _, _, rfl, rfl, wide_mul (a := 64) (b := 64) (by rw [eq, Int.natAbs_natCast]; omega) (by omega) (by decide) (by decide) (by decide), _, _, rfl, rfl, _, _, rfl, ?_⟩
      refine ⟨o % n, Nat.mod_lt _ (Nat.pos_of_ne_zero hn0), n, y, x - ((o : Int).fdiv n) * y, some (.int ((o : Int).fdiv n)), ?_, sH, hn, ?_, eq ▸ I.step hn0⟩
      · have e : (o : Int) - ((o / n : Nat) : Int) * n = ((o % n : Nat) : Int) := by
          have h1 := Nat.div_add_mod o n
          have h2 : ((n * (o / n) + o % n : Nat) : Int) = o := by rw [h1]
          push_cast at h2 ⊢
          rw [Int.mul_comm ((o : Int) / n)]
          omega
        have e2 : (o : Int) - (o : Int).fdiv n * n = ((o % n : Nat) : Int) := by rw [eq, e]
        rw [← e2]; rfl
      · have := Nat.mod_lt o (Nat.pos_of_ne_zero hn0)
        omega
    · have hn0 : n = 0 := by omega
      subst hn0
      refine ⟨_, rfl, _, rfl, _, _, rfl, rfl, (by omega), ?_⟩
      show Q (.int (x.fmod m)) H2
      rw [Int.fmod_eq_emod_of_nonneg _ (by omega)]
      exact k _ _ sH (Int.emod_nonneg _ (by omega)) (Int.emod_lt_of_pos _ hm) I.done

def spCeil : Sp := fun vs H Q _ => ∃ (n d : Int), vs = [.int n, .int d] ∧ d ≠ 0 ∧ d.natAbs < 2 ^ 100 ∧ Q (.int (-((-n).fdiv d))) H
theorem ok_ceiling_quotient (T : Top K mg) : FnOk P w K mg base CX0 1 T.f_ceiling_quotient.a T.f_ceiling_quotient.d ["number", "divisor"] spCeil := by
  refine T.f_ceiling_quotient.F.ok sc_ceiling_quotient (fun vs H Q E h => ?_) (fun cdv A outer s H vs Q E hr h => ⟨_, (pss_one (ps_ret (pe_un un_neg (pe_op op_fdivA (pe_un un_neg (pv 0)) (pv 1))))), ?_⟩)
  · obtain ⟨n, d, rfl, _⟩ := h; rfl
  obtain ⟨n, d, rfl, hd, hb, k⟩ := h
  exact ⟨_, rfl, _, rfl, _, rfl, _, _, rfl, rfl, cdivA hd hb, _, rfl, k⟩
end Ov
end

section
set_option Elab.async false
set_option linter.all false
set_option maxRecDepth 100000
set_option maxHeartbeats 4000000
/-! Comprehensions over whole numbers, told at once. -/
namespace Ov
open PySem PySem.Spec PyProof.Rows L2

theorem Same.upd {H H1 : Hp} {D : Addr} {o : HO} (hD : H D = none) (s : Same H H1) : Same H (upd H1 D o) := fun b u e => by
  rw [upd_ne (ne_of_none e hD)]; exact s b u e
theorem comp_it {J : It} {n : Nat} {G : Hp → Prop} {Y : Nat → Hp → V → Hp → Prop} (w : Walk J n G Y) {g : TG} {tt : TT} {te : TE} {vs : List Nat} {σ : L2.St} {H : Hp} {D : Addr} {Qd : Hp → Prop}
    (p : Nat → Bool) (f : Nat → V) (hn : n ≤ sizeLine) (hD : H D = none) (hG : ∀ H', Same H H' → G H')
    (hs : ∀ i x H1 H2 (R : V → Hp → Prop) (E : Hp → Prop), i < n → Same H H1 → Y i H1 x H2 → (p i = true → ∀ H5, Same H1 H5 → R (f i) H5) → (p i = false → ∀ H5, Same H1 H5 → E H5) →
      g x (wipe σ vs) H2 fun σ2 H3 => wipe σ2 vs = wipe σ vs ∧ tt σ2 H3 fun b H4 => if b = true then te σ2 H4 R else E H4)
    (hd : ∀ H', Same H H' → H' D = some (.lst (((List.range n).filter p).map f)) → Qd H') :
    ∃ W : Nat → Nat → Hp → Prop, (∃ m, W 0 m (L2.upd H D (.lst []))) ∧ ∀ i m H, W i m H →
      (J.stop i H ∧ Qd H) ∨ (J.go i H ∧ ∃ Nx : Hp → Prop, (∀ H', Nx H' → ∃ m', m' < m ∧ W (i + 1) m' H') ∧ ∀ x H', J.yld i H x H' → g x (wipe σ vs) H' fun σ2 H2 => wipe σ2 vs = wipe σ vs ∧ tt σ2 H2 fun b H3 =>
        if b = true then te σ2 H3 fun y H4 => ∃ acc, H4 D = some (.lst acc) ∧ acc.length < sizeLine ∧ Nx (L2.upd H4 D (.lst (acc ++ [y]))) else Nx H3) := by
  refine lc_it w (fun i H' => Same H H' ∧ H' D = some (.lst (((List.range i).filter p).map f))) ⟨Same.upd hD (Same.refl H), upd_same⟩ (fun i H' _ q => hG H' q.1) ?_ (fun H' q => hd H' q.1 q.2)
  rintro i x H1 H2 hi ⟨s1, d1⟩ y
  refine hs i x H1 H2 _ _ hi s1 y (fun hp H5 s5 => ?_) (fun hp H5 s5 => ?_)
  · refine ⟨_, s5 _ _ d1, ?_, Same.upd hD (s1.trans s5), ?_⟩
    · have h1 : ((List.range i).filter p).length ≤ i := by
        have := List.length_filter_le p (List.range i)
        simpa using this
      rw [List.length_map]; omega
    · rw [upd_same, List.range_succ, List.filter_append, List.map_append]
      simp [hp]
  · refine ⟨s1.trans s5, ?_⟩
    rw [s5 _ _ d1, List.range_succ, List.filter_append, List.map_append]
    simp [hp]
theorem yes {te : TE} {σ : L2.St} {H : Hp} {R : V → Hp → Prop} {E : Hp → Prop} (h : te σ H R) : tYes σ H fun b H4 => if b = true then te σ H4 R else E H4 := by
  show if true = true then te σ H R else E H
  exact iteT h
theorem range_pick {α β : Type} (p : α → Bool) (F : α → β) (d : α) : ∀ xs : List α, ((List.range xs.length).filter fun i => p (xs.getD i d)).map (fun i => F (xs.getD i d)) = (xs.filter p).map F
  | [] => rfl
  | x :: xs => by
    have ih := range_pick p F d xs
    rw [List.length_cons, List.range_succ_eq_map, List.filter_cons, List.filter_map]
    have e : ((fun i => p ((x :: xs).getD i d)) ∘ Nat.succ) = fun i => p (xs.getD i d) := rfl
    rw [e]
    have e2 : p ((x :: xs).getD 0 d) = p x := rfl
    rw [e2, List.filter_cons]
    split
    · rw [List.map_cons, List.map_map, List.map_cons, ← ih]; rfl
    · rw [List.map_map, ← ih]; rfl
/-- [F z for z in ns if p z] -/
theorem comp1 {K : PySem.W.Frag} {a : Addr} {ns : List Int} {g : TG} {tt : TT} {te : TE} {vs : List Nat} {σ : L2.St} {H : Hp} {D : Addr} {Qd : Hp → Prop}
    (p : Int → Bool) (F : Int → V) (hS : SqL K H a (ns.map V.int)) (hn : ns.length ≤ sizeLine) (hD : H D = none)
    (hs : ∀ (z : Int) (H1 : Hp) (R : V → Hp → Prop) (E : Hp → Prop), z ∈ ns → Same H H1 → (p z = true → ∀ H5, Same H1 H5 → R (F z) H5) → (p z = false → ∀ H5, Same H1 H5 → E H5) →
      g (.int z) (wipe σ vs) H1 fun σ2 H3 => wipe σ2 vs = wipe σ vs ∧ tt σ2 H3 fun b H4 => if b = true then te σ2 H4 R else E H4)
    (hd : ∀ H', Same H H' → H' D = some (.lst ((ns.filter p).map F)) → Qd H') :
    ∃ W : Nat → Nat → Hp → Prop, (∃ m, W 0 m (L2.upd H D (.lst []))) ∧ ∀ i m H, W i m H →
      ((Itl K a).stop i H ∧ Qd H) ∨ ((Itl K a).go i H ∧ ∃ Nx : Hp → Prop, (∀ H', Nx H' → ∃ m', m' < m ∧ W (i + 1) m' H') ∧ ∀ x H', (Itl K a).yld i H x H' → g x (wipe σ vs) H' fun σ2 H2 => wipe σ2 vs = wipe σ vs ∧ tt σ2 H2 fun b H3 =>
        if b = true then te σ2 H3 fun y H4 => ∃ acc, H4 D = some (.lst acc) ∧ acc.length < sizeLine ∧ Nx (L2.upd H4 D (.lst (acc ++ [y]))) else Nx H3) := by
  refine comp_it (walk_list (K := K) (a := a) (xs := ns.map V.int)) (fun i => p (ns.getD i 0)) (fun i => F (ns.getD i 0)) (by rw [List.length_map]; exact hn) hD (fun H' s => s.seq hS) ?_ (fun H' s e => hd H' s ?_)
  · rintro i x H1 H2 R E hi s1 ⟨rfl, hx⟩ hR hE
    obtain ⟨z, hz, rfl⟩ := getI hx
    have ez : ns.getD i 0 = z := by rw [List.getD_eq_getElem?_getD, hz]; rfl
    rw [ez] at hR hE
    exact hs z _ R E (List.mem_of_getElem? hz) s1 hR hE
  · rw [e, List.length_map, range_pick]
theorem range_zip {α β γ : Type} (F : α → β → γ) (d : α) (e : β) : ∀ (xs : List α) (ys : List β), (List.range (min xs.length ys.length)).map (fun i => F (xs.getD i d) (ys.getD i e)) = List.zipWith F xs ys
  | [], _ => by simp
  | _ :: _, [] => by simp
  | x :: xs, y :: ys => by
    have ih := range_zip F d e xs ys
    have h : min (x :: xs).length (y :: ys).length = min xs.length ys.length + 1 := by simp <;> omega
    rw [h, List.range_succ_eq_map, List.map_cons, List.map_map, List.zipWith_cons_cons, ← ih]; rfl
/-- [F x y for x, y in zip(ns, ms)] -/
theorem comp2 {K : PySem.W.Frag} {a b : Addr} {ns ms : List Int} {g : TG} {tt : TT} {te : TE} {vs : List Nat} {σ : L2.St} {H : Hp} {D : Addr} {Qd : Hp → Prop}
    (F : Int → Int → V) (hS : SqL K H a (ns.map V.int)) (hS2 : SqL K H b (ms.map V.int)) (hn : ns.length ≤ sizeLine) (hD : H D = none)
    (hs : ∀ (x y : Int) (T : Addr) (H1 : Hp) (R : V → Hp → Prop) (E : Hp → Prop), (∃ i : Nat, ns[i]? = some x ∧ ms[i]? = some y) → Same H H1 → H1 T = none → (∀ H5, Same H1 H5 → R (F x y) H5) →
      g (.ref T) (wipe σ vs) (L2.upd H1 T (.tup [.int x, .int y])) fun σ2 H3 => wipe σ2 vs = wipe σ vs ∧ tt σ2 H3 fun b H4 => if b = true then te σ2 H4 R else E H4)
    (hd : ∀ H', Same H H' → H' D = some (.lst (List.zipWith F ns ms)) → Qd H') :
    ∃ W : Nat → Nat → Hp → Prop, (∃ m, W 0 m (L2.upd H D (.lst []))) ∧ ∀ i m H, W i m H →
      ((Itz K a b).stop i H ∧ Qd H) ∨ ((Itz K a b).go i H ∧ ∃ Nx : Hp → Prop, (∀ H', Nx H' → ∃ m', m' < m ∧ W (i + 1) m' H') ∧ ∀ x H', (Itz K a b).yld i H x H' → g x (wipe σ vs) H' fun σ2 H2 => wipe σ2 vs = wipe σ vs ∧ tt σ2 H2 fun b H3 =>
        if b = true then te σ2 H3 fun y H4 => ∃ acc, H4 D = some (.lst acc) ∧ acc.length < sizeLine ∧ Nx (L2.upd H4 D (.lst (acc ++ [y]))) else Nx H3) := by
  refine comp_it (walk_zip (K := K) (a := a) (b := b) (xs := ns.map V.int) (ys := ms.map V.int) (n := min ns.length ms.length) (by simp)) (fun _ => true) (fun i => F (ns.getD i 0) (ms.getD i 0)) (by omega) hD (fun H' s => ⟨s.seq hS, s.seq hS2⟩) ?_ (fun H' s e => hd H' s ?_)
  · rintro i x H1 H2 R E hi s1 ⟨T, x0, y0, rfl, hT, rfl, hx, hy⟩ hR hE
    obtain ⟨z, hz, rfl⟩ := getI hx
    obtain ⟨y, hy2, rfl⟩ := getI hy
    have ez : ns.getD i 0 = z := by rw [List.getD_eq_getElem?_getD, hz]; rfl
    have ey : ms.getD i 0 = y := by rw [List.getD_eq_getElem?_getD, hy2]; rfl
    rw [ez, ey] at hR
    exact hs z y T _ R E ⟨i, hz, hy2⟩ s1 hT (hR rfl)
  · rw [e, List.filter_eq_self.mpr (fun _ _ => rfl), range_zip]
/-- [F i for i in range(n) if p i] -/
theorem compR {n : Nat} {g : TG} {tt : TT} {te : TE} {vs : List Nat} {σ : L2.St} {H : Hp} {D : Addr} {Qd : Hp → Prop}
    (p : Nat → Bool) (F : Nat → V) (hn : n ≤ sizeLine) (hD : H D = none)
    (hs : ∀ (i : Nat) (H1 : Hp) (R : V → Hp → Prop) (E : Hp → Prop), i < n → Same H H1 → (p i = true → ∀ H5, Same H1 H5 → R (F i) H5) → (p i = false → ∀ H5, Same H1 H5 → E H5) →
      g (.int i) (wipe σ vs) H1 fun σ2 H3 => wipe σ2 vs = wipe σ vs ∧ tt σ2 H3 fun b H4 => if b = true then te σ2 H4 R else E H4)
    (hd : ∀ H', Same H H' → H' D = some (.lst (((List.range n).filter p).map F)) → Qd H') :
    ∃ W : Nat → Nat → Hp → Prop, (∃ m, W 0 m (L2.upd H D (.lst []))) ∧ ∀ i m H, W i m H →
      ((Itr 0 n).stop i H ∧ Qd H) ∨ ((Itr 0 n).go i H ∧ ∃ Nx : Hp → Prop, (∀ H', Nx H' → ∃ m', m' < m ∧ W (i + 1) m' H') ∧ ∀ x H', (Itr 0 n).yld i H x H' → g x (wipe σ vs) H' fun σ2 H2 => wipe σ2 vs = wipe σ vs ∧ tt σ2 H2 fun b H3 =>
        if b = true then te σ2 H3 fun y H4 => ∃ acc, H4 D = some (.lst acc) ∧ acc.length < sizeLine ∧ Nx (L2.upd H4 D (.lst (acc ++ [y]))) else Nx H3) := by
  refine comp_it (walk_range (lo := 0) (n := n)) p F hn hD (fun _ _ => trivial) ?_ hd
  rintro i x H1 H2 R E hi s1 ⟨rfl, rfl⟩ hR hE
  have e : (0 : Int) + (i : Int) = i := Int.zero_add _
  have h := hs i _ R E hi s1 hR hE
  rw [← e] at h
  exact h
end Ov
end

section
set_option Elab.async false
set_option linter.all false
set_option maxRecDepth 100000
set_option maxHeartbeats 4000000
/-! views -/
namespace Ov
open PySem PySem.Spec PyProof.Rows L2
open VaviwBase (View Axis)
variable {P : Program} {w : World} {K : PySem.W.Frag} {mg : Str → Option Value} {base : Heap}

/-! ### fields by name -/
theorem lk_here {k : Str} {v : V} {r : List (Str × V)} : List.lookup k ((k, v) :: r) = some v := by
  have e : (k == k) = true := beq_self_eq_true k
  simp only [List.lookup, e]
theorem lk_past {k g : Str} {v : V} {r : List (Str × V)} (h : (k == g) = false) : List.lookup k ((g, v) :: r) = List.lookup k r := by
  simp only [List.lookup, h]
theorem put_here {f : Str} {v x : V} {r : List (Str × V)} : putF f v ((f, x) :: r) = (f, v) :: r := if_pos rfl
theorem put_past {f g : Str} {v x : V} {r : List (Str × V)} (h : ¬ g = f) : putF f v ((g, x) :: r) = (g, x) :: putF f v r := if_neg h

/-! ### how a view lies in the heap -/
def lenI (ax : List Axis) : List Int := ax.map fun a => (a.length : Int)
def strI (ax : List Axis) : List Int := ax.map fun a => a.stride
def vF (sz : Int) (l : Addr) (off : Int) (s : Addr) : List (Str × V) := [("size", .int sz), ("lengths", .ref l), ("offset", .int off), ("strides", .ref s)]
theorem lenI_of {f : Axis → Axis} {ax : List Axis} (h : ∀ a, (f a).length = a.length) : lenI (ax.map f) = lenI ax := by
  unfold lenI
  rw [List.map_map]
  exact List.map_congr_left fun a _ => congrArg (fun (n : Nat) => (n : Int)) (h a)
structure ViewAt (C : Addr) (H : Hp) (a : Addr) (v : View) : Prop where
  ex : ∃ dx l s, H a = some (.ins C dx (vF v.size l v.offset s)) ∧ H l = some (.lst ((lenI v.axes).map V.int)) ∧ H s = some (.lst ((strI v.axes).map V.int))
theorem ViewAt.same {C : Addr} {H H' : Hp} {a : Addr} {v : View} (h : ViewAt C H a v) (s : Same H H') : ViewAt C H' a v := by
  obtain ⟨dx, l, t, h1, h2, h3⟩ := h.ex
  exact ⟨dx, l, t, s _ _ h1, s _ _ h2, s _ _ h3⟩
theorem vF_size {z l o s} : (vF z l o s).lookup ("size" : Str) = some (.int z) := lk_here
theorem vF_lengths {z l o s} : (vF z l o s).lookup ("lengths" : Str) = some (.ref l) := (lk_past (by decide +kernel)).trans lk_here
theorem vF_offset {z l o s} : (vF z l o s).lookup ("offset" : Str) = some (.int o) := (lk_past (by decide +kernel)).trans ((lk_past (by decide +kernel)).trans lk_here)
theorem vF_strides {z l o s} : (vF z l o s).lookup ("strides" : Str) = some (.ref s) := (lk_past (by decide +kernel)).trans ((lk_past (by decide +kernel)).trans ((lk_past (by decide +kernel)).trans lk_here))
/-- the lists of the view at p -/
def PartOf (H : Hp) (p x : Addr) : Prop := ∃ C dx fs, H p = some (.ins C dx fs) ∧ (List.lookup ("lengths" : Str) fs = some (V.ref x) ∨ List.lookup ("strides" : Str) fs = some (V.ref x))
theorem part_vF {H : Hp} {p C dx l s x : Addr} {z o : Int} (h : H p = some (.ins C dx (vF z l o s))) (q : PartOf H p x) : x = l ∨ x = s := by
  obtain ⟨C', dx', fs, h2, h3⟩ := q
  rw [h] at h2
  injection h2 with h2
  injection h2 with _ _ h2
  subst h2
  rcases h3 with h3 | h3
  · rw [vF_lengths] at h3
    injection h3 with h3
    injection h3 with h3
    exact .inl h3.symm
  · rw [vF_strides] at h3
    injection h3 with h3
    injection h3 with h3
    exact .inr h3.symm
theorem PartOf.eq {H H' : Hp} {p x : Addr} {o : HO} (q : PartOf H' p x) (h : H p = some o) (h' : H' p = some o) : PartOf H p x := by
  obtain ⟨C', dx', fs, h2, h3⟩ := q
  exact ⟨C', dx', fs, by rw [h, ← h', h2], h3⟩
theorem vF_new {z l o s} : putF "strides" (.ref s) (putF "offset" (.int o) (putF "lengths" (.ref l) (putF "size" (.int z) []))) = vF z l o s := by
  refine (congrArg (fun q => putF "strides" _ (putF "offset" _ q)) ((put_past (by decide +kernel)).trans rfl)).trans ?_
  refine (congrArg (putF "strides" _) ((put_past (by decide +kernel)).trans (congrArg _ ((put_past (by decide +kernel)).trans rfl)))).trans ?_
  exact (put_past (by decide +kernel)).trans (congrArg _ ((put_past (by decide +kernel)).trans (congrArg _ ((put_past (by decide +kernel)).trans rfl))))

theorem few {fs : List (Str × V)} {n : Nat} (e : fs.length = n) (h : n < 1000) : fs.length < 1000 := e ▸ h
/-! ### all but the object at p stands -/
def Keep (p : Addr) (H H' : Hp) : Prop := ∀ b o, H b = some o → b ≠ p → H' b = some o
theorem Keep.upd {p : Addr} {H : Hp} {o : HO} : Keep p H (L2.upd H p o) := fun b u e n => by rw [upd_ne n]; exact e
theorem Keep.trans {p : Addr} {H H1 H2 : Hp} (a : Keep p H H1) (b : Keep p H1 H2) : Keep p H H2 := fun c o e n => b c o (a c o e n) n
theorem Keep.gone {p x : Addr} {H H1 : Hp} {o : HO} (a : Keep p H H1) (h : H1 x = none) (hp : H1 p = some o) : H x = none := by
  cases e : H x with
  | none => rfl
  | some u =>
    by_cases q : x = p
    · rw [q, hp] at h; cases h
    · rw [a _ _ e q] at h; cases h
theorem Keep.new {p l : Addr} {H H1 : Hp} {o : HO} (a : Keep p H H1) (h : H l = none) : Keep p H (L2.upd H1 l o) := fun c u e n => by
  rw [upd_ne (ne_of_none e h)]; exact a c u e n
theorem Keep.then {p : Addr} {H H1 H2 : Hp} {o : HO} (a : Keep p H H1) (b : Same H1 H2) (_ : H p = some o) : Keep p H H2 := fun c u e n => b c u (a c u e n)
theorem Keep.seq {K : PySem.W.Frag} {p l C dx : Addr} {fs : List (Str × V)} {H H1 : Hp} {xs : List V} (a : Keep p H H1) (h : H p = some (.ins C dx fs)) (s : SqL K H l xs) : SqL K H1 l xs := by
  rcases s with (s | ⟨o, s⟩) | s
  · exact .inl (.inl (a _ _ s (ne_of s h (by intro z; cases z))))
  · exact .inl (.inr ⟨o, a _ _ s (ne_of s h (by intro z; cases z))⟩)
  · exact .inr s

/-! ### product -/
def prodI (ns : List Int) : Int := ns.foldl (· * ·) 1
def spProduct (K : PySem.W.Frag) : Sp := fun vs H Q _ => ∃ (a : Addr) (ns : List Int), vs = [.ref a] ∧ SqL K H a (ns.map V.int) ∧ ns.length ≤ 1000 ∧ (∀ n ∈ ns, n.natAbs < 2 ^ 64) ∧ Q (.int (prodI ns)) H
theorem prodI_more {ns : List Int} {i : Nat} {z : Int} (h : ns[i]? = some z) : prodI (ns.take (i + 1)) = prodI (ns.take i) * z := by
  unfold prodI
  rw [take_more h, List.foldl_append]; rfl
theorem prodI_small {ns : List Int} (hb : ∀ n ∈ ns, n.natAbs < 2 ^ 64) : ∀ i, (prodI (ns.take i)).natAbs < 2 ^ (64 * i + 1)
  | 0 => by simp [prodI]
  | i + 1 => by
    have ih := prodI_small hb i
    cases h : ns[i]? with
    | none =>
      have : ns.take (i + 1) = ns.take i := by
        have := List.getElem?_eq_none_iff.mp h
        rw [List.take_of_length_le (by omega), List.take_of_length_le (by omega)]
      rw [this]
      exact Nat.lt_of_lt_of_le ih (Nat.pow_le_pow_right (by decide) (by omega))
    | some z =>
      rw [prodI_more h]
      have hz := hb z (List.mem_of_getElem? h)
      have e : 64 * (i + 1) + 1 = (64 * i + 1) + 64 := by omega
      rw [e]
      exact wide_lt ih hz
theorem ip_mulW {X : Cx} : PIp X .Mult (fun x y H Q => ∃ i j, x = .int i ∧ y = .int j ∧ CMulW i j ∧ Q (.int (i * j)) H) := by
  intro pins s σ H x y v u Q I r1 r2 h
  obtain ⟨i, j, e1, e2, hc, q⟩ := h
  subst e1
  subst e2
  obtain ⟨t, rfl⟩ := r1
  obtain ⟨t', rfl⟩ := r2
  exact imul_int ⟨.int _, H, I.tok _, ⟨_, rfl⟩, q⟩ hc.ok
theorem ok_product (T : Top K mg) : FnOk P w K mg base CX0 1 T.f_product.a T.f_product.d ["numbers"] (spProduct K) := by
  refine T.f_product.F.ok sc_product (fun vs H Q E h => ?_) (fun cdv A outer s H vs Q E hr h => ⟨_, (pss_cons (ps_set (i := 1) sc_product.nd rfl (Or.inl rfl) pe_int)
    (pss_cons (ps_for PassesOwn.never rfl (pi_list (pv 0)) (pg_name (i := 2) sc_product.nd rfl (Or.inl rfl)) (pss_one (ps_aug (i := 1) sc_product.nd rfl (Or.inl rfl) (pv 2) ip_mulW)))
    (pss_one (ps_ret (pv 1))))), ?_⟩)
  · obtain ⟨a, ns, rfl, _⟩ := h; rfl
  obtain ⟨a, ns, rfl, hS, hl, hb, k⟩ := h
  refine ⟨_, rfl, a, rfl, ⟨_, hS⟩, for_list (K := K) (a := a) (xs := ns.map V.int) (fun i σ H' => i ≤ ns.length ∧ ∃ u : Option V, σ = [some (.ref a), some (.int (prodI (ns.take i))), u] ∧ H' = H)
    ⟨Nat.zero_le _, none, rfl, rfl⟩ (fun i σ H' _ ⟨_, _, _, e⟩ => e ▸ hS) ?_ ?_⟩
  · rintro i y σ H' hi ⟨hil, u, rfl, rfl⟩
    obtain ⟨z, hz, rfl⟩ := getI hi
    have hi2 : i < ns.length := (List.getElem?_eq_some_iff.mp hz).1
    refine ⟨_, rfl, _, rfl, _, _, rfl, rfl, wide_mul (a := 64 * i + 1) (b := 64) (prodI_small hb i) (hb z (List.mem_of_getElem? hz)) (by omega) (by decide) (by omega), hi2, some (.int z), ?_, rfl⟩
    rw [prodI_more hz]; rfl
  · rintro σ H' ⟨_, u, rfl, rfl⟩
    rw [List.length_map, List.take_length]
    exact ⟨_, rfl, k⟩
theorem prod_is : ∀ (ax : List Axis), prodI (lenI ax) = ((VaviwBase.product (ax.map fun a => a.length) : Nat) : Int) := by
  have h : ∀ (l : List Nat) (z : Int), (l.map fun (n : Nat) => (n : Int)).foldl (· * ·) z = z * ((VaviwBase.product l : Nat) : Int) := by
    intro l
    induction l with
    | nil => intro z; simp [VaviwBase.product]
    | cons n l ih =>
      intro z
      rw [List.map_cons, List.foldl_cons, ih]
      show z * n * (VaviwBase.product l : Nat) = z * ((n * VaviwBase.product l : Nat) : Int)
      rw [Int.natCast_mul, Int.mul_assoc]
  intro ax
  have := h (ax.map fun a => a.length) 1
  rw [List.map_map, Int.one_mul] at this
  exact this

/-! ### View -/
/-- a view's lists are short and their numbers have bounds -/
structure Fine (ax : List Axis) : Prop where
  len : ax.length ≤ 100
  big : ∀ a ∈ ax, a.length < 2 ^ 64
theorem Fine.ints {ax : List Axis} (h : Fine ax) : (lenI ax).length ≤ 1000 ∧ ∀ n ∈ lenI ax, n.natAbs < 2 ^ 64 := by
  refine ⟨by unfold lenI; rw [List.length_map]; have := h.len; omega, fun n hn => ?_⟩
  obtain ⟨a, ha, rfl⟩ := List.mem_map.mp hn
  have := h.big a ha
  show ((a.length : Int)).natAbs < _
  rw [Int.natAbs_natCast]; exact this
def spViewInit (K : PySem.W.Frag) (C : Addr) : Sp := fun vs H Q _ => ∃ (p dx la sa : Addr) (off : Int) (ax : List Axis), vs = [.ref p, .int off, .ref la, .ref sa] ∧ H p = some (.ins C dx []) ∧
  SqL K H la ((lenI ax).map V.int) ∧ SqL K H sa ((strI ax).map V.int) ∧ Fine ax ∧
  ∀ H' : Hp, ViewAt C H' p (View.canonical off ax) → (∀ x, PartOf H' p x → H x = none) → (∀ b o, H b = some o → b ≠ p → H' b = some o) → Q .non H'
theorem ok_View_init (T : Top K mg) : FnOk P w K mg base CX0 2 T.f_View_init.a T.f_View_init.d ["self", "offset", "lengths", "strides"] (spViewInit K T.c_View) := by
  refine T.f_View_init.F.ok sc_View_init (fun vs H Q E h => ?_) (fun cdv A outer s H vs Q E hr h => ⟨_, (pss_cons (ps_fld (pv 0) (pe_call (ok_product T) (hr.mono (by decide)) rfl T.g_product T.f_product.F.kp T.f_product.b .nil pass0 (pa_cons (pv 2) pa_nil)) rfl)
    (pss_cons (ps_fld (pv 0) (pe_callTy call_list_of (by rfl) T.b_list (by decide +kernel) (pa_cons (pv 2) pa_nil)) rfl)
    (pss_one (ps_if (pt_cmpR op_eq (pe_fld (pv 0) rfl) pe_int (nomark _)) (pss_cons (ps_fld (pv 0) pe_int rfl)
    (pss_one (ps_fld (pv 0) (pe_lc (own := [("length", 4)]) (g := gName 4) (by rfl) sc_View_init.nd (pi_list (pv 2)) (blkOk_by (own := [("length", 4)]) (N := N_View_init) (sc := defScope s_View_init) (by decide +kernel)) (fun _ _ _ _ _ => by exact (pg_name (i := 4) sc_View_init.nd rfl (Or.inl rfl))) (fun _ _ _ _ _ => by exact pts_nil) (fun _ _ _ _ _ => by exact pe_int)) rfl))) (pss_cons (ps_fld (pv 0) (pv 1) rfl)
    (pss_one (ps_fld (pv 0) (pe_lc (own := [("length", 4), ("stride", 5)]) (g := gTup K 2 (gCons (gName 4) (gCons (gName 5) gNil))) (by rfl) sc_View_init.nd (pi_zip (by rfl) T.b_zip (pa_cons (pv 2) (pa_cons (pv 3) pa_nil))) (blkOk_by (own := [("length", 4), ("stride", 5)]) (N := N_View_init) (sc := defScope s_View_init) (by decide +kernel)) (fun _ _ _ _ _ => by exact (pg_tup (by rfl) (pgs_cons (pg_name (i := 4) sc_View_init.nd rfl (Or.inl rfl)) (pgs_cons (pg_name (i := 5) sc_View_init.nd rfl (Or.inl rfl)) pgs_nil)))) (fun _ _ _ _ _ => by exact pts_nil) (fun _ _ _ _ _ => by exact (pe_ifExp (pt_cmpR op_eq (pv 4) pe_int (nomark _)) pe_int (pv 5)))) rfl))))))), ?_⟩)
  · obtain ⟨p, dx, la, sa, off, ax, rfl, _⟩ := h; rfl
  obtain ⟨p, dx, la, sa, off, ax, rfl, hp, hl, hs, hf, k⟩ := h
  have kp0 : Keep p H (upd H p (.ins T.c_View dx (putF "size" (.int (prodI (lenI ax))) []))) := Keep.upd
  refine ⟨_, rfl, la, _, rfl, hl, hf.ints.1, hf.ints.2, ?_⟩
  refine ⟨_, rfl, p, T.c_View, dx, [], rfl, hp, T.l_View.c, T.n_View.size, few (n := 0) rfl (by decide), ?_⟩
  refine ⟨_, rfl, la, _, rfl, .inl (kp0.seq hp hl), fun l hl0 => ?_⟩
  have lp : l ≠ p := fun e => by rw [e, upd_same] at hl0; cases hl0
  have hl1 : H l = none := by rw [upd_ne lp] at hl0; exact hl0
  have kp1 : Keep p H (upd (upd H p (.ins T.c_View dx (putF "size" (.int (prodI (lenI ax))) []))) l (.lst ((lenI ax).map V.int))) := kp0.new hl1
  refine ⟨_, rfl, p, T.c_View, dx, _, rfl, (upd_ne lp.symm).trans upd_same, T.l_View.c, T.n_View.lengths, few (n := 1) rfl (by decide), ?_⟩
  -- the heap with both fields
  generalize hH2 : upd (upd (upd H p (.ins T.c_View dx (putF "size" (.int (prodI (lenI ax))) []))) l (.lst ((lenI ax).map V.int))) p
    (.ins T.c_View dx (putF "lengths" (.ref l) (putF "size" (.int (prodI (lenI ax))) []))) = H2
  have kp2 : Keep p H H2 := hH2 ▸ kp1.trans Keep.upd
  have p2 : H2 p = some (.ins T.c_View dx (putF "lengths" (.ref l) (putF "size" (.int (prodI (lenI ax))) []))) := hH2 ▸ upd_same
  have l2 : H2 l = some (.lst ((lenI ax).map V.int)) := by rw [← hH2, upd_ne lp, upd_same]
  have fs2 : (putF "lengths" (.ref l) (putF "size" (.int (prodI (lenI ax))) [])) = [(("size" : Str), V.int (prodI (lenI ax))), (("lengths" : Str), V.ref l)] := (put_past (by decide +kernel)).trans rfl
  rw [fs2] at p2
  have canon0 : VaviwBase.product (ax.map fun a => a.length) = 0 → View.canonical off ax = ⟨0, ax.map fun a => ⟨a.length, 0⟩⟩ := fun e => if_pos e
  have canon1 : VaviwBase.product (ax.map fun a => a.length) ≠ 0 → View.canonical off ax = ⟨off, ax.map fun a => if a.length = 1 then ⟨1, 0⟩ else a⟩ := fun e => if_neg e
  have mapA : (ax.map fun a => (⟨a.length, 0⟩ : Axis)).map (fun a => a.length) = ax.map fun a => a.length := by rw [List.map_map]; rfl
  have mapB : (ax.map fun a => if a.length = 1 then (⟨1, 0⟩ : Axis) else a).map (fun a => a.length) = ax.map fun a => a.length := by
    rw [List.map_map]
    refine List.map_congr_left fun a _ => ?_
    show (if a.length = 1 then (⟨1, 0⟩ : Axis) else a).length = a.length
    split
    · rename_i e; exact e.symm
    · rfl
  have hlen : (lenI ax).length ≤ sizeLine := by
    have := hf.ints.1
    rw [sizeLine_eq]; omega
  refine ⟨_, rfl, p, T.c_View, dx, _, _, rfl, p2, T.l_View.c, T.n_View.size, lk_here, rfl, _, rfl, iteEq (fun z0 => ?_) (fun z1 => ?_)⟩
  · have e0 : VaviwBase.product (ax.map fun a => a.length) = 0 := by rw [prod_is] at z0; omega
    refine ⟨_, rfl, p, T.c_View, dx, _, rfl, p2, T.l_View.c, T.n_View.offset, few (n := 2) rfl (by decide), ?_⟩
    have e3 : putF "offset" (V.int 0) [(("size" : Str), V.int (prodI (lenI ax))), (("lengths" : Str), V.ref l)] = [(("size" : Str), V.int (prodI (lenI ax))), (("lengths" : Str), V.ref l), (("offset" : Str), V.int 0)] :=
      (put_past (by decide +kernel)).trans (congrArg _ ((put_past (by decide +kernel)).trans rfl))
    rw [e3]
    generalize hH3 : upd H2 p (.ins T.c_View dx [(("size" : Str), V.int (prodI (lenI ax))), (("lengths" : Str), V.ref l), (("offset" : Str), V.int 0)]) = H3
    have kp3 : Keep p H H3 := hH3 ▸ kp2.trans Keep.upd
    have p3 : H3 p = some (.ins T.c_View dx [(("size" : Str), V.int (prodI (lenI ax))), (("lengths" : Str), V.ref l), (("offset" : Str), V.int 0)]) := hH3 ▸ upd_same
    have l3 : H3 l = some (.lst ((lenI ax).map V.int)) := by rw [← hH3, upd_ne lp]; exact l2
    refine ⟨_, rfl, la, rfl, ⟨_, kp3.seq hp hl⟩, fun D hD => comp1 (ns := lenI ax) (fun _ => true) (fun _ => V.int 0) (kp3.seq hp hl) hlen hD (fun z H1 R E _ _ hR _ => ⟨rfl, yes (hR rfl _ (Same.refl _))⟩) (fun H4 s4 d4 => ?_)⟩
    refine ⟨_, rfl, p, T.c_View, dx, _, rfl, s4 _ _ p3, T.l_View.c, T.n_View.strides, few (n := 3) rfl (by decide), ?_⟩
    have e4 : putF "strides" (V.ref D) [(("size" : Str), V.int (prodI (lenI ax))), (("lengths" : Str), V.ref l), (("offset" : Str), V.int 0)] = vF (prodI (lenI ax)) l 0 D :=
      (put_past (by decide +kernel)).trans (congrArg _ ((put_past (by decide +kernel)).trans (congrArg _ ((put_past (by decide +kernel)).trans rfl))))
    rw [e4]
    refine k _ ⟨dx, l, D, ?_, ?_, ?_⟩ (fun x hx => (part_vF upd_same hx).elim (fun e => e ▸ hl1) (fun e => e ▸ kp3.gone hD p3)) ((kp3.then s4 hp).trans Keep.upd)
    · rw [upd_same, canon0 e0]
      show some (HO.ins _ _ (vF (prodI (lenI ax)) l 0 D)) = some (HO.ins _ _ (vF ((VaviwBase.product (List.map (fun a => a.length) (ax.map fun a => (⟨a.length, 0⟩ : Axis))) : Nat) : Int) l 0 D))
      rw [mapA, prod_is]
    · rw [upd_ne lp, s4 _ _ l3, canon0 e0]
      show _ = some (HO.lst ((lenI (ax.map fun a => (⟨a.length, 0⟩ : Axis))).map V.int))
      rw [lenI_of (f := fun a => (⟨a.length, 0⟩ : Axis)) (fun _ => rfl)]
    · have dp : D ≠ p := fun e => by rw [e, p3] at hD; cases hD
      rw [upd_ne dp, d4, canon0 e0]
      show _ = some (HO.lst ((strI (ax.map fun a => (⟨a.length, 0⟩ : Axis))).map V.int))
      rw [List.filter_eq_self.mpr (fun _ _ => rfl)]
      unfold strI lenI
      simp only [List.map_map]
      rfl
  · have e1 : VaviwBase.product (ax.map fun a => a.length) ≠ 0 := by rw [prod_is] at z1; omega
    refine ⟨_, rfl, _, rfl, p, T.c_View, dx, _, rfl, p2, T.l_View.c, T.n_View.offset, few (n := 2) rfl (by decide), ?_⟩
    have e3 : putF "offset" (V.int off) [(("size" : Str), V.int (prodI (lenI ax))), (("lengths" : Str), V.ref l)] = [(("size" : Str), V.int (prodI (lenI ax))), (("lengths" : Str), V.ref l), (("offset" : Str), V.int off)] :=
      (put_past (by decide +kernel)).trans (congrArg _ ((put_past (by decide +kernel)).trans rfl))
    rw [e3]
    generalize hH3 : upd H2 p (.ins T.c_View dx [(("size" : Str), V.int (prodI (lenI ax))), (("lengths" : Str), V.ref l), (("offset" : Str), V.int off)]) = H3
    have kp3 : Keep p H H3 := hH3 ▸ kp2.trans Keep.upd
    have p3 : H3 p = some (.ins T.c_View dx [(("size" : Str), V.int (prodI (lenI ax))), (("lengths" : Str), V.ref l), (("offset" : Str), V.int off)]) := hH3 ▸ upd_same
    have l3 : H3 l = some (.lst ((lenI ax).map V.int)) := by rw [← hH3, upd_ne lp]; exact l2
    refine ⟨_, rfl, _, rfl, la, sa, _, _, rfl, kp3.seq hp hl, kp3.seq hp hs, fun D hD => comp2 (ns := lenI ax) (ms := strI ax) (fun x y => if x = 1 then V.int 0 else V.int y) (kp3.seq hp hl) (kp3.seq hp hs) hlen hD
      (fun x y T1 H1 R E _ _ hT hR => ⟨T1, _, rfl, .inl (.inl upd_same), rfl, _, _, rfl, _, _, rfl, rfl, rfl, ?_⟩) (fun H4 s4 d4 => ?_)⟩
    · refine yes ⟨_, rfl, rfl, _, rfl, iteEq (fun q => ?_) (fun q => ⟨_, rfl, ?_⟩)⟩
      · have := hR (L2.upd H1 T1 (.tup [.int x, .int y])) (same_new hT)
        rw [if_pos q] at this; exact this
      · have := hR (L2.upd H1 T1 (.tup [.int x, .int y])) (same_new hT)
        rw [if_neg q] at this; exact this
    refine ⟨_, rfl, p, T.c_View, dx, _, rfl, s4 _ _ p3, T.l_View.c, T.n_View.strides, few (n := 3) rfl (by decide), ?_⟩
    have e4 : putF "strides" (V.ref D) [(("size" : Str), V.int (prodI (lenI ax))), (("lengths" : Str), V.ref l), (("offset" : Str), V.int off)] = vF (prodI (lenI ax)) l off D :=
      (put_past (by decide +kernel)).trans (congrArg _ ((put_past (by decide +kernel)).trans (congrArg _ ((put_past (by decide +kernel)).trans rfl))))
    rw [e4]
    refine k _ ⟨dx, l, D, ?_, ?_, ?_⟩ (fun x hx => (part_vF upd_same hx).elim (fun e => e ▸ hl1) (fun e => e ▸ kp3.gone hD p3)) ((kp3.then s4 hp).trans Keep.upd)
    · rw [upd_same, canon1 e1]
      show some (HO.ins _ _ (vF (prodI (lenI ax)) l off D)) = some (HO.ins _ _ (vF ((VaviwBase.product (List.map (fun a => a.length) (ax.map fun a => if a.length = 1 then (⟨1, 0⟩ : Axis) else a)) : Nat) : Int) l off D))
      rw [mapB, prod_is]
    · rw [upd_ne lp, s4 _ _ l3, canon1 e1]
      show _ = some (HO.lst ((lenI (ax.map fun a => if a.length = 1 then (⟨1, 0⟩ : Axis) else a)).map V.int))
      rw [lenI_of (f := fun a => if a.length = 1 then (⟨1, 0⟩ : Axis) else a) (fun a => ?_)]
      split
      · rename_i e; exact e.symm
      · rfl
    · have dp : D ≠ p := fun e => by rw [e, p3] at hD; cases hD
      rw [upd_ne dp, d4, canon1 e1]
      show _ = some (HO.lst ((strI (ax.map fun a => if a.length = 1 then (⟨1, 0⟩ : Axis) else a)).map V.int))
      unfold strI lenI
      rw [List.zipWith_map_left, List.zipWith_map_right, List.zipWith_self, List.map_map, List.map_map]
      refine congrArg (fun q => some (HO.lst q)) (List.map_congr_left fun a _ => ?_)
      show (if (a.length : Int) = 1 then V.int 0 else V.int a.stride) = V.int (if a.length = 1 then (⟨1, 0⟩ : Axis) else a).stride
      by_cases q : a.length = 1
      · rw [if_pos q, if_pos (by omega)]
      · rw [if_neg q, if_neg (by omega)]
end Ov
end

section
set_option Elab.async false
set_option linter.all false
set_option maxRecDepth 100000
set_option maxHeartbeats 4000000
/-! what is asked of a view -/
namespace Ov
open PySem PySem.Spec PyProof.Rows L2
open VaviwBase (View Axis)
variable {P : Program} {w : World} {K : PySem.W.Frag} {mg : Str → Option Value} {base : Heap}

theorem zipI (f : Int → Int → Int) (a b : List Int) : List.zipWith (fun x y => V.int (f x y)) a b = (List.zipWith f a b).map V.int := by
  rw [List.map_zipWith]
theorem zipB (f : Int → Int → Bool) (a b : List Int) : List.zipWith (fun x y => V.bl (f x y)) a b = (List.zipWith f a b).map V.bl := by
  rw [List.map_zipWith]
theorem mapI {α : Type} (f : α → Int) (l : List α) : (l.map fun z => V.int (f z)) = (l.map f).map V.int := by
  rw [List.map_map]; rfl
theorem mapBl {α : Type} (f : α → Bool) (l : List α) : (l.map fun z => V.bl (f z)) = (l.map f).map V.bl := by
  rw [List.map_map]; rfl
theorem few_line {n : Nat} (h : n ≤ 1000) : n ≤ sizeLine := by rw [sizeLine_eq]; omega
theorem all_line {α : Type} (l : List α) (h : l.length ≤ 1000) : (l.filter fun _ => true) = l := List.filter_eq_self.mpr (fun _ _ => rfl)

def spWhole (C : Addr) : Sp := fun vs H Q _ => ∃ n : Nat, vs = [.int n] ∧ n < 2 ^ 64 ∧ ∀ (H' : Hp) (p : Addr), Same H H' → ViewAt C H' p (View.whole n) → (∀ x, PartOf H' p x → H x = none) → Q (.ref p) H'
theorem ok_whole_view (T : Top K mg) : FnOk P w K mg base CX0 4 T.f_whole_view.a T.f_whole_view.d ["array_length"] (spWhole T.c_View) := by
  refine T.f_whole_view.F.ok sc_whole_view (fun vs H Q E h => ?_) (fun cdv A outer s H vs Q E hr h => ⟨_, (pss_one (ps_ret (pe_make T.mk_View (ok_View_init T) (hr.mono (by decide)) rfl T.l_View.g T.f_View_init.b .nil pass0 (pa_cons pe_int (pa_cons (pe_lst (pa_cons (pv 0) pa_nil)) (pa_cons (pe_lst (pa_cons pe_int pa_nil)) pa_nil)))))), ?_⟩)
  · obtain ⟨n, rfl, _⟩ := h; rfl
  obtain ⟨n, rfl, hn, k⟩ := h
  refine ⟨_, rfl, one_ok, fun l hl => ⟨one_ok, fun l2 hl2 => ?_⟩⟩
  intro x dx nx nd ne
  have n1 := (same_new (o := .lst [.int n]) hl).trans (same_new (o := .lst [.int 1]) hl2)
  have a1 : upd (upd H l (.lst [.int n])) l2 (.lst [.int 1]) l = some (.lst [.int n]) := same_new hl2 _ _ upd_same
  have a2 : upd (upd H l (.lst [.int n])) l2 (.lst [.int 1]) l2 = some (.lst [.int 1]) := upd_same
  generalize upd (upd H l (.lst [.int n])) l2 (.lst [.int 1]) = H2 at *
  have s2 : Same H2 (upd (upd H2 dx (.own x)) x (.ins T.c_View dx [])) := fun b o e => by
    rw [upd_ne (ne_of_none e nx), upd_ne (ne_of_none e nd)]; exact e
  refine ⟨x, dx, l, l2, 0, [⟨n, 1⟩], rfl, upd_same, .inl (.inl (s2 _ _ a1)), .inl (.inl (s2 _ _ a2)), ⟨by simp, fun a ha => ?_⟩, fun H' hv hx hk => ⟨rfl, ?_⟩⟩
  · have e : a = ⟨n, 1⟩ := by simpa using ha
    rw [e]; exact hn
  · exact k H' x (fun b o e => hk b o (s2 _ _ (n1 b o e)) (ne_of_none (n1 b o e) nx)) hv (fun y hy => (n1.trans s2).free (hx y hy))

/-- a view's numbers have bounds -/
structure FineV (v : View) : Prop where
  fine : Fine v.axes
  str : ∀ a ∈ v.axes, a.stride.natAbs < 2 ^ 64
theorem lt_pow {x : Int} (h : x.natAbs < 2 ^ 64) : x.natAbs < 2 ^ 65 := Nat.lt_trans h (by decide)
def spanI (ax : List Axis) : List Int := List.zipWith (fun n t => t * (n - 1)) (lenI ax) (strI ax)
theorem min_spans : ∀ (ax : List Axis), (∀ a ∈ ax, a.length ≠ 0) → ((spanI ax).map fun z => if z < 0 then z else 0).sum = VaviwBase.minStrideSum ax
  | [], _ => rfl
  | a :: ax, h => by
    have ih := min_spans ax (fun b hb => h b (List.mem_cons_of_mem _ hb))
    have h0 : (0 : Int) ≤ (a.length : Int) - 1 := by have := h a List.mem_cons_self; omega
    show (if a.stride * ((a.length : Int) - 1) < 0 then _ else 0) + ((spanI ax).map _).sum = (if a.stride < 0 then ((a.length : Int) - 1) * a.stride else 0) + VaviwBase.minStrideSum ax
    rw [ih]
    congr 1
    by_cases q : a.stride < 0
    · rw [if_pos q, Int.mul_comm]
      by_cases z : (a.length : Int) - 1 = 0
      · rw [z]; simp
      · rw [if_pos (Int.mul_neg_of_pos_of_neg (by omega) q)]
        exact Int.mul_comm _ _
    · rw [if_neg q, if_neg (by have := Int.mul_nonneg (show 0 ≤ a.stride by omega) h0; omega)]
theorem max_spans : ∀ (ax : List Axis), (∀ a ∈ ax, a.length ≠ 0) → ((spanI ax).map fun z => if z > 0 then z else 0).sum = VaviwBase.maxStrideSum ax
  | [], _ => rfl
  | a :: ax, h => by
    have ih := max_spans ax (fun b hb => h b (List.mem_cons_of_mem _ hb))
    have h0 : (0 : Int) ≤ (a.length : Int) - 1 := by have := h a List.mem_cons_self; omega
    show (if a.stride * ((a.length : Int) - 1) > 0 then _ else 0) + ((spanI ax).map _).sum = (if 0 < a.stride then ((a.length : Int) - 1) * a.stride else 0) + VaviwBase.maxStrideSum ax
    rw [ih]
    congr 1
    by_cases q : 0 < a.stride
    · rw [if_pos q, Int.mul_comm]
      by_cases z : (a.length : Int) - 1 = 0
      · rw [z]; simp
      · rw [if_pos (Int.mul_pos (by omega) q)]
        exact Int.mul_comm _ _
    · rw [if_neg q, if_neg (by have := Int.mul_nonneg (show 0 ≤ -a.stride by omega) h0; rw [Int.neg_mul] at this; omega)]
theorem size_pos : ∀ (ax : List Axis), VaviwBase.product (ax.map fun a => a.length) ≠ 0 → ∀ a ∈ ax, a.length ≠ 0
  | [], _, a, h => nomatch h
  | b :: ax, hp, a, h => by
    have e : VaviwBase.product ((b :: ax).map fun a => a.length) = b.length * VaviwBase.product (ax.map fun a => a.length) := rfl
    rw [e] at hp
    rcases List.mem_cons.mp h with q | q
    · subst q; intro z; rw [z] at hp; simp at hp
    · exact size_pos ax (fun z => by rw [z] at hp; simp at hp) a q
def liesIn (v : View) (n : Int) : Bool := decide (v.size = 0) || (decide (0 ≤ v.offset + VaviwBase.minStrideSum v.axes) && decide (v.offset + VaviwBase.maxStrideSum v.axes < n))
def spLies (C : Addr) : Sp := fun vs H Q _ => ∃ (a : Addr) (v : View) (n : Int), vs = [.ref a, .int n] ∧ ViewAt C H a v ∧ FineV v ∧ ∀ H', Same H H' → Q (.bl (liesIn v n)) H'
theorem getZ {n : Int} {ns : List Int} {i : Nat} (h : ns[i]? = some n) : n ∈ ns := List.mem_of_getElem? h
theorem FineV.len {v : View} (h : FineV v) : ∀ n ∈ lenI v.axes, n.natAbs < 2 ^ 64 := h.fine.ints.2
theorem FineV.strs {v : View} (h : FineV v) : ∀ n ∈ strI v.axes, n.natAbs < 2 ^ 64 := fun n hn => by
  obtain ⟨a, ha, rfl⟩ := List.mem_map.mp hn
  exact h.str a ha
theorem ok_lies_within (T : Top K mg) : FnOk P w K mg base CX0 1 T.f_lies_within.a T.f_lies_within.d ["view", "array_length"] (spLies T.c_View) := by
  refine T.f_lies_within.F.ok sc_lies_within (fun vs H Q E h => ?_) (fun cdv A outer s H vs Q E hr h => ⟨_, (pss_cons (ps_if (pt_cmpR op_eq (pe_fld (pv 0) rfl) pe_int (nomark _)) (pss_one (ps_ret pe_bl)) pss_nil)
    (pss_cons (ps_setLc (i := 2) (own := [("length", 5), ("stride", 6)]) (g := gTup K 2 (gCons (gName 5) (gCons (gName 6) gNil))) (by rfl) sc_lies_within.nd rfl rfl (sw_true rfl rfl rfl (by decide +kernel)) (pi_zip (by rfl) T.b_zip (pa_cons (pe_fld (pv 0) rfl) (pa_cons (pe_fld (pv 0) rfl) pa_nil))) (blkOk_by (own := [("length", 5), ("stride", 6)]) (N := N_lies_within) (sc := defScope s_lies_within) (by decide +kernel)) (fun _ _ _ _ _ => by exact (pg_tup (by rfl) (pgs_cons (pg_name (i := 5) sc_lies_within.nd rfl (Or.inl rfl)) (pgs_cons (pg_name (i := 6) sc_lies_within.nd rfl (Or.inl rfl)) pgs_nil)))) (fun _ _ _ _ _ => by exact pts_nil) (fun _ _ _ _ _ => by exact (pe_op op_mulW (pv 6) (pe_op op_sub (pv 5) pe_int))))
    (pss_cons (ps_set (i := 3) sc_lies_within.nd rfl (Or.inl rfl) (pe_op op_add (pe_fld (pv 0) rfl) (pe_callB (cr_sum rfl) (by rfl) T.b_sum (by decide +kernel) (pa_cons (pe_lc (own := [("span", 7)]) (g := gName 7) (by rfl) sc_lies_within.nd (pi_list (pv 2)) (blkOk_by (own := [("span", 7)]) (N := N_lies_within) (sc := defScope s_lies_within) (by decide +kernel)) (fun _ _ _ _ _ => by exact (pg_name (i := 7) sc_lies_within.nd rfl (Or.inl rfl))) (fun _ _ _ _ _ => by exact pts_nil) (fun _ _ _ _ _ => by exact (pe_callB (call_min2 rfl) (by rfl) T.b_min (by decide +kernel) (pa_cons pe_int (pa_cons (pv 7) pa_nil))))) pa_nil))))
    (pss_cons (ps_set (i := 4) sc_lies_within.nd rfl (Or.inl rfl) (pe_op op_add (pe_fld (pv 0) rfl) (pe_callB (cr_sum rfl) (by rfl) T.b_sum (by decide +kernel) (pa_cons (pe_lc (own := [("span", 7)]) (g := gName 7) (by rfl) sc_lies_within.nd (pi_list (pv 2)) (blkOk_by (own := [("span", 7)]) (N := N_lies_within) (sc := defScope s_lies_within) (by decide +kernel)) (fun _ _ _ _ _ => by exact (pg_name (i := 7) sc_lies_within.nd rfl (Or.inl rfl))) (fun _ _ _ _ _ => by exact pts_nil) (fun _ _ _ _ _ => by exact (pe_callB (call_max2 rfl) (by rfl) T.b_max (by decide +kernel) (pa_cons pe_int (pa_cons (pv 7) pa_nil))))) pa_nil))))
    (pss_one (ps_ret (pe_and (pe_cmpR op_le pe_int (pv 3) (nomark _)) (pe_one (pe_cmpR op_lt (pv 4) (pv 1) (nomark _)))))))))), ?_⟩)
  · obtain ⟨a, v, n, rfl, _⟩ := h; rfl
  obtain ⟨a, v, n, rfl, hv, hf, k⟩ := h
  obtain ⟨dx, l, t, h1, h2, h3⟩ := hv.ex
  have hlen := hf.fine.ints.1
  have hlen2 : (lenI v.axes).length = (strI v.axes).length := by unfold lenI strI; rw [List.length_map, List.length_map]
  refine ⟨_, rfl, a, T.c_View, dx, _, _, rfl, h1, T.l_View.c, T.n_View.size, vF_size, rfl, _, rfl, iteEq (fun z0 => ?_) (fun z1 => ?_)⟩
  · have e : liesIn v n = true := by
      unfold liesIn
      rw [decide_eq_true (by omega : v.size = 0)]; rfl
    rw [e] at k
    exact k H (Same.refl H)
  · have e1 : v.size ≠ 0 := by omega
    have pos := size_pos v.axes e1
    refine ⟨_, rfl, a, T.c_View, dx, _, _, rfl, h1, T.l_View.c, T.n_View.lengths, vF_lengths, _, rfl, a, T.c_View, dx, _, _, rfl, h1, T.l_View.c, T.n_View.strides, vF_strides, l, t, _, _, rfl, .inl (.inl h2), .inl (.inl h3), fun D hD =>
      comp2 (ns := lenI v.axes) (ms := strI v.axes) (fun x y => V.int (y * (x - 1))) (.inl (.inl h2)) (.inl (.inl h3)) (few_line hlen) hD (fun x y T1 H1 R E hxy _ hT hR => ⟨T1, _, rfl, .inl (.inl upd_same), rfl, _, _, rfl, _, _, rfl, rfl, rfl, ?_⟩) (fun H4 s4 d4 => ?_)⟩
    · obtain ⟨i, hx, hy⟩ := hxy
      have bx := hf.len x (getZ hx)
      have by_ := hf.strs y (getZ hy)
      refine yes ⟨_, rfl, _, rfl, _, _, rfl, rfl, _, _, rfl, rfl, wide_mul (a := 64) (b := 65) by_ (by omega) (by decide) (by decide) (by decide), ?_⟩
      exact hR (L2.upd H1 T1 (.tup [.int x, .int y])) (same_new hT)
    · rw [zipI] at d4
      have d4' : H4 D = some (.lst ((spanI v.axes).map V.int)) := d4
      have hsp : (spanI v.axes).length ≤ 1000 := by unfold spanI; rw [List.length_zipWith]; omega
      have h14 := s4 _ _ h1
      refine ⟨_, rfl, a, T.c_View, dx, _, _, rfl, h14, T.l_View.c, T.n_View.offset, vF_offset, _, rfl, D, rfl, ⟨_, .inl (.inl d4')⟩, fun D2 hD2 =>
        comp1 (ns := spanI v.axes) (fun _ => true) (fun z => V.int (if z < 0 then z else 0)) (.inl (.inl d4')) (few_line hsp) hD2 (fun z H1 R E _ _ hR _ => ⟨rfl, yes ⟨_, rfl, 0, z, rfl, hR rfl _ (Same.refl _)⟩⟩) (fun H5 s5 d5 => ?_)⟩
      rw [all_line _ hsp, mapI (fun z => if z < 0 then z else 0)] at d5
      refine ⟨_, _, rfl, .inl (.inl d5), _, _, rfl, rfl, ?_⟩
      have h15 := s5 _ _ h14
      refine ⟨_, rfl, a, T.c_View, dx, _, _, rfl, h15, T.l_View.c, T.n_View.offset, vF_offset, _, rfl, D, rfl, ⟨_, .inl (.inl (s5 _ _ d4'))⟩, fun D3 hD3 =>
        comp1 (ns := spanI v.axes) (fun _ => true) (fun z => V.int (if z > 0 then z else 0)) (.inl (.inl (s5 _ _ d4'))) (few_line hsp) hD3 (fun z H1 R E _ _ hR _ => ⟨rfl, yes ⟨_, rfl, 0, z, rfl, hR rfl _ (Same.refl _)⟩⟩) (fun H6 s6 d6 => ?_)⟩
      rw [all_line _ hsp, mapI (fun z => if z > 0 then z else 0)] at d6
      refine ⟨_, _, rfl, .inl (.inl d6), _, _, rfl, rfl, ?_⟩
      have kk := k H6 (s4.trans (s5.trans s6))
      unfold liesIn at kk
      rw [decide_eq_false e1, ← min_spans v.axes pos, ← max_spans v.axes pos, Bool.false_or] at kk
      refine ⟨_, rfl, _, _, rfl, rfl, _, rfl, iteB (fun c => ?_) (fun c => ?_)⟩
      · rw [c, Bool.true_and] at kk
        exact ⟨_, rfl, _, rfl, _, _, rfl, rfl, kk⟩
      · rw [c, Bool.false_and] at kk
        exact kk

def spIsIndex (K : PySem.W.Frag) (C : Addr) : Sp := fun vs H Q _ => ∃ (a ix : Addr) (v : View) (ns : List Int), vs = [.ref a, .ref ix] ∧ ViewAt C H a v ∧ FineV v ∧ SqL K H ix (ns.map V.int) ∧ ns.length ≤ 1000 ∧
  ∀ H', Same H H' → Q (.bl ((ns.all fun z => decide (0 ≤ z)) && VaviwBase.isMultiIndex v.shape (ns.map Int.toNat))) H'
theorem index_is : ∀ (ax : List Axis) (ns : List Int), ns.length = ax.length → (List.zipWith (fun z n => decide (0 ≤ z) && decide (z < n)) ns (lenI ax)).all id = ((ns.all fun z => decide (0 ≤ z)) && VaviwBase.isMultiIndex (ax.map fun a => a.length) (ns.map Int.toNat))
  | [], [], _ => rfl
  | a :: ax, z :: ns, h => by
    have ih := index_is ax ns (by simpa using h)
    show ((decide (0 ≤ z) && decide (z < (a.length : Int))) && (List.zipWith _ ns (lenI ax)).all id) = ((decide (0 ≤ z) && _) && (decide (z.toNat < a.length) && _))
    rw [ih]
    by_cases h0 : 0 ≤ z
    · have : decide (z < (a.length : Int)) = decide (z.toNat < a.length) := decide_eq_decide.mpr (by omega)
      rw [this, decide_eq_true h0]
      simp only [Bool.true_and]
      cases (ns.all fun z => decide (0 ≤ z)) <;> cases decide (z.toNat < a.length) <;> rfl
    · rw [decide_eq_false h0]; rfl
theorem index_no : ∀ (sh : List Nat) (ns : List Nat), ns.length ≠ sh.length → VaviwBase.isMultiIndex sh ns = false
  | [], [], h => absurd rfl h
  | [], _ :: _, _ => rfl
  | _ :: _, [], _ => rfl
  | n :: sh, i :: ns, h => by
    show (decide (i < n) && VaviwBase.isMultiIndex sh ns) = false
    rw [index_no sh ns (by simpa using h), Bool.and_false]
theorem ok_is_index (T : Top K mg) : FnOk P w K mg base CX0 1 T.f_is_index.a T.f_is_index.d ["view", "index"] (spIsIndex K T.c_View) := by
  refine T.f_is_index.F.ok sc_is_index (fun vs H Q E h => ?_) (fun cdv A outer s H vs Q E hr h => ⟨_, (pss_cons (ps_if (pt_cmpR op_ne (pe_callB call_len_seq (by rfl) T.b_len PySem.boot_len (pa_cons (pv 1) pa_nil)) (pe_callB call_len_seq (by rfl) T.b_len PySem.boot_len (pa_cons (pe_fld (pv 0) rfl) pa_nil)) (nomark _)) (pss_one (ps_ret pe_bl)) pss_nil)
    (pss_one (ps_ret (pe_callB (cr_all rfl) (by rfl) T.b_all (by decide +kernel) (pa_cons (pe_lc (own := [("position", 2), ("length", 3)]) (g := gTup K 2 (gCons (gName 2) (gCons (gName 3) gNil))) (by rfl) sc_is_index.nd (pi_zip (by rfl) T.b_zip (pa_cons (pv 1) (pa_cons (pe_fld (pv 0) rfl) pa_nil))) (blkOk_by (own := [("position", 2), ("length", 3)]) (N := N_is_index) (sc := defScope s_is_index) (by decide +kernel)) (fun _ _ _ _ _ => by exact (pg_tup (by rfl) (pgs_cons (pg_name (i := 2) sc_is_index.nd rfl (Or.inl rfl)) (pgs_cons (pg_name (i := 3) sc_is_index.nd rfl (Or.inl rfl)) pgs_nil)))) (fun _ _ _ _ _ => by exact pts_nil) (fun _ _ _ _ _ => by exact (pe_chain op_le op_lt pe_int (pv 2) (pv 3)))) pa_nil))))), ?_⟩)
  · obtain ⟨a, ix, v, ns, rfl, _⟩ := h; rfl
  obtain ⟨a, ix, v, ns, rfl, hv, hf, hS, hl, k⟩ := h
  obtain ⟨dx, l, t, h1, h2, h3⟩ := hv.ex
  have hlen := hf.fine.ints.1
  have ll : (lenI v.axes).length = v.axes.length := by unfold lenI; rw [List.length_map]
  refine ⟨_, rfl, ix, _, rfl, .inl hS, _, rfl, a, T.c_View, dx, _, _, rfl, h1, T.l_View.c, T.n_View.lengths, vF_lengths, l, _, rfl, .inl (.inl (.inl h2)), rfl, _, rfl, iteNe (fun ne => ?_) (fun eq => ?_)⟩
  · rw [List.length_map, List.length_map, ll] at ne
    have e : VaviwBase.isMultiIndex v.shape (ns.map Int.toNat) = false := index_no _ _ (by unfold View.shape; rw [List.length_map, List.length_map]; omega)
    have kk := k H (Same.refl H)
    rw [e, Bool.and_false] at kk
    exact kk
  · rw [List.length_map, List.length_map, ll] at eq
    refine ⟨_, rfl, _, rfl, a, T.c_View, dx, _, _, rfl, h1, T.l_View.c, T.n_View.lengths, vF_lengths, ix, l, _, _, rfl, hS, .inl (.inl h2), fun D hD =>
      comp2 (ns := ns) (ms := lenI v.axes) (fun z n => V.bl (decide (0 ≤ z) && decide (z < n))) hS (.inl (.inl h2)) (few_line hl) hD (fun x y T1 H1 R E hxy _ hT hR => ⟨T1, _, rfl, .inl (.inl upd_same), rfl, _, _, rfl, _, _, rfl, rfl, rfl, ?_⟩) (fun H4 s4 d4 => ?_)⟩
    · have hR := hR (L2.upd H1 T1 (.tup [.int x, .int y])) (same_new hT)
      refine yes ⟨_, rfl, _, _, rfl, rfl, _, rfl, iteB (fun c => ?_) (fun c => ?_)⟩
      · rw [c, Bool.true_and] at hR
        exact ⟨_, rfl, _, _, rfl, rfl, hR⟩
      · rw [c, Bool.false_and] at hR
        exact hR
    · rw [zipB] at d4
      refine ⟨_, _, rfl, .inl (.inl d4), ?_⟩
      rw [index_is v.axes ns (by omega)]
      exact k H4 s4

def spCellOf (K : PySem.W.Frag) (C : Addr) : Sp := fun vs H Q _ => ∃ (a ix : Addr) (v : View) (ns : List Int), vs = [.ref a, .ref ix] ∧ ViewAt C H a v ∧ FineV v ∧ SqL K H ix (ns.map V.int) ∧ ns.length = v.axes.length ∧ (∀ z ∈ ns, 0 ≤ z ∧ z < 2 ^ 64) ∧
  ∀ H', Same H H' → Q (.int (v.cell (ns.map Int.toNat))) H'
theorem cell_is : ∀ (ax : List Axis) (ns : List Int), (∀ z ∈ ns, 0 ≤ z) → (List.zipWith (fun z t => z * t) ns (strI ax)).sum = VaviwBase.strideSum ax (ns.map Int.toNat)
  | [], [], _ => rfl
  | [], _ :: _, _ => rfl
  | _ :: _, [], _ => rfl
  | a :: ax, z :: ns, h => by
    have ih := cell_is ax ns (fun x hx => h x (List.mem_cons_of_mem _ hx))
    have h0 := h z List.mem_cons_self
    show z * a.stride + (List.zipWith _ ns (strI ax)).sum = ((z.toNat : Int)) * a.stride + VaviwBase.strideSum ax (ns.map Int.toNat)
    rw [ih, Int.toNat_of_nonneg h0]
theorem ok_cell_of (T : Top K mg) : FnOk P w K mg base CX0 1 T.f_cell_of.a T.f_cell_of.d ["view", "index"] (spCellOf K T.c_View) := by
  refine T.f_cell_of.F.ok sc_cell_of (fun vs H Q E h => ?_) (fun cdv A outer s H vs Q E hr h => ⟨_, (pss_one (ps_ret (pe_op op_add (pe_fld (pv 0) rfl) (pe_callB (cr_sum rfl) (by rfl) T.b_sum (by decide +kernel) (pa_cons (pe_lc (own := [("position", 2), ("stride", 3)]) (g := gTup K 2 (gCons (gName 2) (gCons (gName 3) gNil))) (by rfl) sc_cell_of.nd (pi_zip (by rfl) T.b_zip (pa_cons (pv 1) (pa_cons (pe_fld (pv 0) rfl) pa_nil))) (blkOk_by (own := [("position", 2), ("stride", 3)]) (N := N_cell_of) (sc := defScope s_cell_of) (by decide +kernel)) (fun _ _ _ _ _ => by exact (pg_tup (by rfl) (pgs_cons (pg_name (i := 2) sc_cell_of.nd rfl (Or.inl rfl)) (pgs_cons (pg_name (i := 3) sc_cell_of.nd rfl (Or.inl rfl)) pgs_nil)))) (fun _ _ _ _ _ => by exact pts_nil) (fun _ _ _ _ _ => by exact (pe_op op_mulW (pv 2) (pv 3)))) pa_nil))))), ?_⟩)
  · obtain ⟨a, ix, v, ns, rfl, _⟩ := h; rfl
  obtain ⟨a, ix, v, ns, rfl, hv, hf, hS, hl, hb, k⟩ := h
  obtain ⟨dx, l, t, h1, h2, h3⟩ := hv.ex
  have hln : ns.length ≤ 1000 := by have := hf.fine.len; omega
  refine ⟨_, rfl, a, T.c_View, dx, _, _, rfl, h1, T.l_View.c, T.n_View.offset, vF_offset, _, rfl, _, rfl, a, T.c_View, dx, _, _, rfl, h1, T.l_View.c, T.n_View.strides, vF_strides, ix, t, _, _, rfl, hS, .inl (.inl h3), fun D hD =>
      comp2 (ns := ns) (ms := strI v.axes) (fun z n => V.int (z * n)) hS (.inl (.inl h3)) (few_line hln) hD (fun x y T1 H1 R E hxy _ hT hR => ⟨T1, _, rfl, .inl (.inl upd_same), rfl, _, _, rfl, _, _, rfl, rfl, rfl, ?_⟩) (fun H4 s4 d4 => ?_)⟩
  · obtain ⟨i, hx, hy⟩ := hxy
    have bx := hb x (getZ hx)
    refine yes ⟨_, rfl, _, rfl, _, _, rfl, rfl, wide_mul (a := 64) (b := 64) (by omega) (hf.strs y (getZ hy)) (by decide) (by decide) (by decide), ?_⟩
    exact hR (L2.upd H1 T1 (.tup [.int x, .int y])) (same_new hT)
  · rw [zipI] at d4
    refine ⟨_, _, rfl, .inl (.inl d4), _, _, rfl, rfl, ?_⟩
    rw [cell_is v.axes ns (fun z hz => (hb z hz).1)]
    exact k H4 s4
end Ov
end

section
set_option Elab.async false
set_option linter.all false
set_option maxRecDepth 100000
set_option maxHeartbeats 4000000
/-! equations -/
namespace Ov
open PySem PySem.Spec PyProof.Rows L2 HT
open VaviwBase (View Axis)
open Vaviwc (Box Variable freeVariables isFree minSum maxSum)
variable {P : Program} {w : World} {K : PySem.W.Frag} {mg : Str → Option Value} {base : Heap}

/-- a whole-number item of a list -/
theorem atN {ns : List Int} {i : Nat} (h : i < ns.length) : atI (ns.map V.int) ((i : Nat) : Int) = some (V.int (ns.getD i 0)) := by
  refine atI_nat ?_
  rw [List.getElem?_map, List.getElem?_eq_getElem h, List.getD_eq_getElem?_getD, List.getElem?_eq_getElem h]; rfl
theorem atF {n i : Nat} {f : Nat → Int} (h : i < n) : atI (((List.range n).map f).map V.int) ((i : Nat) : Int) = some (V.int (f i)) := by
  refine atI_nat ?_
  rw [List.getElem?_map, List.getElem?_map, List.getElem?_range h]; rfl

/-- bounds of an equation's numbers -/
structure FineB (b : Box) : Prop where
  low : Low0 b
  len : b.length ≤ 100
  co : ∀ v ∈ b, v.coefficient.natAbs ≤ 1000000000000000000
  up : ∀ v ∈ b, v.upper.natAbs < 2 ^ 64
theorem FineB.coI {b : Box} (h : FineB b) : ∀ z ∈ coI b, z.natAbs < 2 ^ 64 := fun z hz => by
  obtain ⟨v, hv, rfl⟩ := List.mem_map.mp hz
  have := h.co v hv
  omega
theorem FineB.upI {b : Box} (h : FineB b) : ∀ z ∈ upI b, z.natAbs < 2 ^ 64 := fun z hz => by
  obtain ⟨v, hv, rfl⟩ := List.mem_map.mp hz
  exact h.up v hv
theorem FineB.free {b : Box} (h : FineB b) : FineB (freeVariables b) := by
  refine ⟨fun v hv => h.low v (free_mem hv).1, ?_, fun v hv => h.co v (free_mem hv).1, fun v hv => h.up v (free_mem hv).1⟩
  have := h.len
  have q : (freeVariables b).length ≤ b.length := List.length_filter_le _ _
  omega
theorem len_co (b : Box) : (coI b).length = b.length := by unfold Ov.coI; rw [List.length_map]
theorem len_up (b : Box) : (upI b).length = b.length := by unfold Ov.upI; rw [List.length_map]

/-! ### tail_sums -/
def tailsI (ns : List Int) : List Int := (List.range (ns.length + 1)).map fun k => (ns.drop k).sum
def spTails (K : PySem.W.Frag) : Sp := fun vs H Q _ => ∃ (a : Addr) (ns : List Int), vs = [.ref a] ∧ SqL K H a (ns.map V.int) ∧ ns.length ≤ 500 ∧
  ∀ (H' : Hp) (p : Addr), Same H H' → H' p = some (.lst ((tailsI ns).map V.int)) → Q (.ref p) H'
theorem cut_drop (ns : List Int) (k : Nat) (h : k ≤ ns.length) : cutV (ns.map V.int) (some (k : Int)) none = (ns.drop k).map V.int := by
  unfold cutV
  rw [HT.sIx_none, HT.sIx_nat, List.length_map, Nat.min_eq_left h, List.map_drop]
  refine List.take_of_length_le ?_
  rw [List.length_drop, List.length_map]; omega
theorem ok_tail_sums (T : Top K mg) : FnOk P w K mg base CX0 1 T.f_tail_sums.a T.f_tail_sums.d ["terms"] (spTails K) := by
  refine T.f_tail_sums.F.ok sc_tail_sums (fun vs H Q E h => ?_) (fun cdv A outer s H vs Q E hr h => ⟨_, (pss_one (ps_ret (pe_lc (own := [("place", 1)]) (g := gName 1) (by rfl) sc_tail_sums.nd (pi_range1 (by rfl) T.b_range (pa_cons (pe_op op_add (pe_callB call_len_seq (by rfl) T.b_len PySem.boot_len (pa_cons (pv 0) pa_nil)) pe_int) pa_nil)) (blkOk_by (own := [("place", 1)]) (N := N_tail_sums) (sc := defScope s_tail_sums) (by decide +kernel)) (fun _ _ _ _ _ => by exact (pg_name (i := 1) sc_tail_sums.nd rfl (Or.inl rfl))) (fun _ _ _ _ _ => by exact pts_nil) (fun _ _ _ _ _ => by exact (pe_callB (cr_sumK (K := K) rfl) (by rfl) T.b_sum (by decide +kernel) (pa_cons (pe_slice (sl_listK (K := K)) (pv 0) (po_some (pv 1)) po_none) pa_nil)))))), ?_⟩)
  · obtain ⟨a, ns, rfl, _⟩ := h; rfl
  obtain ⟨a, ns, rfl, hS, hl, k⟩ := h
  refine ⟨_, rfl, a, _, rfl, .inl hS, _, _, rfl, rfl, _, rfl, (by rw [List.length_map]; omega), (by rw [List.length_map]; omega), fun D hD => ?_⟩
  have en : (((ns.map V.int).length : Int) + 1).toNat = ns.length + 1 := by rw [List.length_map]; omega
  show ∃ W : Nat → Nat → Hp → Prop, (∃ m, W 0 m (upd H D (.lst []))) ∧ _
  rw [en]
  refine compR (n := ns.length + 1) (fun _ => true) (fun i => V.int ((ns.drop i).sum)) (few_line (by omega)) hD (fun i H1 R E hi s1 hR _ => ⟨rfl, yes ?_⟩) (fun H4 s4 d4 => k H4 D s4 ?_)
  · refine ⟨_, rfl, _, rfl, _, rfl, a, _, rfl, s1.seq hS, fun p hp => ?_⟩
    rw [cut_drop ns i (by omega)]
    exact ⟨p, _, rfl, .inl (.inl upd_same), hR rfl _ (same_new hp)⟩
  · rw [List.filter_eq_self.mpr (fun _ _ => rfl), mapI] at d4
    exact d4

/-! ### free_places -/
def spFree (K : PySem.W.Frag) : Sp := fun vs H Q _ => ∃ (a c : Addr) (b : Box), vs = [.ref a, .ref c] ∧ SqL K H a ((coI b).map V.int) ∧ SqL K H c ((upI b).map V.int) ∧ FineB b ∧
  ∀ (H' : Hp) (p : Addr), Same H H' → H' p = some (.lst ((freeIdx b).map fun (i : Nat) => V.int (i : Int))) → Q (.ref p) H'
theorem ok_free_places (T : Top K mg) : FnOk P w K mg base CX0 1 T.f_free_places.a T.f_free_places.d ["coefficients", "uppers"] (spFree K) := by
  refine T.f_free_places.F.ok sc_free_places (fun vs H Q E h => ?_) (fun cdv A outer s H vs Q E hr h => ⟨_, (pss_one (ps_ret (pe_lc (own := [("place", 2)]) (g := gName 2) (by rfl) sc_free_places.nd (pi_range1 (by rfl) T.b_range (pa_cons (pe_callB call_len_seq (by rfl) T.b_len PySem.boot_len (pa_cons (pv 1) pa_nil)) pa_nil)) (blkOk_by (own := [("place", 2)]) (N := N_free_places) (sc := defScope s_free_places) (by decide +kernel)) (fun _ _ _ _ _ => by exact (pg_name (i := 2) sc_free_places.nd rfl (Or.inl rfl))) (fun _ _ _ _ _ => by exact pts_one (PW.pt (pw_and (pt_cmpR op_ne (pe_ix (ix_listK (K := K)) (pv 0) (pv 2) (fun _ _ => rfl)) pe_int (nomark _)) (pw_and1 (pt_cmpR op_gt (pe_ix (ix_listK (K := K)) (pv 1) (pv 2) (fun _ _ => rfl)) pe_int (nomark _)))))) (fun _ _ _ _ _ => by exact (pv 2))))), ?_⟩)
  · obtain ⟨a, c, b, rfl, _⟩ := h; rfl
  obtain ⟨a, c, b, rfl, hA, hC, hf, k⟩ := h
  have hl := hf.len
  have e1 := len_co b
  have e2 := len_up b
  refine ⟨_, rfl, c, _, rfl, .inl hC, _, rfl, (by rw [List.length_map]; omega), (by rw [List.length_map]; omega), fun D hD => ?_⟩
  have en : (((upI b).map V.int).length : Int).toNat = b.length := by rw [List.length_map]; omega
  show ∃ W : Nat → Nat → Hp → Prop, (∃ m, W 0 m (upd H D (.lst []))) ∧ _
  rw [en]
  refine compR (n := b.length) (fun i => isFree (b.getD i noVar)) (fun i => V.int i) (few_line (by omega)) hD (fun i H1 R E hi s1 hR hE => ⟨rfl, ?_⟩) (fun H4 s4 d4 => k H4 D s4 d4)
  have fi := isFree_low (low_getD hf.low i)
  rw [← getD_co, ← getD_up] at fi
  refine ⟨_, rfl, _, rfl, a, _, _, _, rfl, rfl, s1.seq hA, atN (by omega), rfl, _, rfl, iteNe (fun hne => ?_) (fun heq => ?_)⟩
  · refine ⟨_, rfl, _, rfl, c, _, _, _, rfl, rfl, s1.seq hC, atN (by omega), _, _, rfl, rfl, _, rfl, ?_⟩
    rw [decide_eq_true hne, Bool.true_and] at fi
    refine iteB (fun q => ?_) (fun q => ?_)
    · exact ⟨_, rfl, hR (fi.trans q) _ (Same.refl _)⟩
    · exact hE (fi.trans q) _ (Same.refl _)
  · refine iteF (hE ?_ _ (Same.refl _))
    rw [fi, heq]; rfl
end Ov
end

section
set_option Elab.async false
set_option linter.all false
set_option maxRecDepth 100000
set_option maxHeartbeats 4000000
/-! equations: the object -/
namespace Ov
open PySem PySem.Spec PyProof.Rows L2
open VaviwBase (View Axis)
open Vaviwc (Box Variable freeVariables isFree minSum maxSum)
variable {P : Program} {w : World} {K : PySem.W.Frag} {mg : Str → Option Value} {base : Heap}

/-- self.f = e, behind the reading of e; self stands in slot i -/
theorem into_fld {σ : L2.St} {H : Hp} {p C dx : Addr} {fs : List (Str × V)} {f : Str} {y : V} {N : L2.St → Hp → Prop} (i : Nat) (h0 : σ[i]? = some (some (.ref p))) (hp : H p = some (.ins C dx fs)) (cl : Cls K C) (na : NoAttr K C f) (lt : fs.length < 1000)
    (k : ∀ H2, H2 p = some (.ins C dx (putF f y fs)) → Keep p H H2 → N σ H2) :
    (tVar i) σ H fun x H2 => ∃ a C dx fs, x = .ref a ∧ H2 a = some (.ins C dx fs) ∧ Cls K C ∧ NoAttr K C f ∧ fs.length < 1000 ∧ N σ (upd H2 a (.ins C dx (putF f y fs))) :=
  ⟨_, h0, p, C, dx, fs, rfl, hp, cl, na, lt, k _ upd_same Keep.upd⟩
theorem Keep.lst {p C dx l : Addr} {fs : List (Str × V)} {xs : List V} {H H1 : Hp} (k : Keep p H H1) (hp : H p = some (.ins C dx fs)) (h : H l = some (.lst xs)) : H1 l = some (.lst xs) :=
  k _ _ h (ne_of h hp (by intro z; cases z))

def eF (t w : Int) (lk : Bool) (pl c u lt gt dv : Addr) (pm pi : Int) : List (Str × V) :=
  [("target", .int t), ("width", .int w), ("lacks_values", .bl lk), ("places", .ref pl), ("coefficients", .ref c), ("uppers", .ref u), ("least_tails", .ref lt), ("greatest_tails", .ref gt), ("divisors", .ref dv), ("pair_modulus", .int pm), ("pair_inverse", .int pi)]
/-- the lists that an equation keeps -/
structure EqLists (H : Hp) (b : Box) (pl c u lt gt dv : Addr) : Prop where
  pl : H pl = some (.lst ((freeIdx b).map fun (i : Nat) => V.int (i : Int)))
  c : H c = some (.lst ((coI (freeVariables b) ++ [0]).map V.int))
  u : H u = some (.lst ((upI (freeVariables b) ++ [0]).map V.int))
  lt : H lt = some (.lst (((List.range ((freeVariables b).length + 2)).map fun k => minSum ((freeVariables b).drop k)).map V.int))
  gt : H gt = some (.lst (((List.range ((freeVariables b).length + 2)).map fun k => maxSum ((freeVariables b).drop k)).map V.int))
  dv : H dv = some (.lst (((List.range ((freeVariables b).length + 1)).map fun k => (coGcd ((freeVariables b).drop k) : Int)).map V.int))
theorem EqLists.same {H H' : Hp} {b : Box} {pl c u lt gt dv : Addr} (h : EqLists H b pl c u lt gt dv) (s : Same H H') : EqLists H' b pl c u lt gt dv :=
  ⟨s _ _ h.pl, s _ _ h.c, s _ _ h.u, s _ _ h.lt, s _ _ h.gt, s _ _ h.dv⟩
theorem EqLists.keep {H H' : Hp} {b : Box} {pl c u lt gt dv p C dx : Addr} {fs : List (Str × V)} (h : EqLists H b pl c u lt gt dv) (k : Keep p H H') (hp : H p = some (.ins C dx fs)) : EqLists H' b pl c u lt gt dv :=
  ⟨k.lst hp h.pl, k.lst hp h.c, k.lst hp h.u, k.lst hp h.lt, k.lst hp h.gt, k.lst hp h.dv⟩
structure EqAt (C : Addr) (H : Hp) (a : Addr) (t : Int) (b : Box) : Prop where
  ex : ∃ dx pl c u lt gt dv pm pi, H a = some (.ins C dx (eF t b.length (Lacks b) pl c u lt gt dv pm pi)) ∧ EqLists H b pl c u lt gt dv ∧ PairOk (freeVariables b) pm pi
theorem EqAt.same {C : Addr} {H H' : Hp} {a : Addr} {t : Int} {b : Box} (h : EqAt C H a t b) (s : Same H H') : EqAt C H' a t b := by
  obtain ⟨dx, pl, c, u, lt, gt, dv, pm, pi, h1, h2, h3⟩ := h.ex
  exact ⟨dx, pl, c, u, lt, gt, dv, pm, pi, s _ _ h1, h2.same s, h3⟩

def spPrep (C : Addr) : Sp := fun vs H Q _ => ∃ (p dx : Addr) (t : Int) (b : Box) (pl c u lt gt dv : Addr), vs = [.ref p] ∧ H p = some (.ins C dx (eF t b.length (Lacks b) pl c u lt gt dv 0 0)) ∧ EqLists H b pl c u lt gt dv ∧ FineB b ∧
  2 ≤ (freeVariables b).length ∧ ∀ (H' : Hp) (pm pi : Int), H' p = some (.ins C dx (eF t b.length (Lacks b) pl c u lt gt dv pm pi)) → Keep p H H' → PairOk (freeVariables b) pm pi → Q .non H'
theorem co_at {f : Box} {i : Nat} (h : i < f.length) : (coI f ++ [0]).getD i 0 = (f.getD i noVar).coefficient := by
  rw [← getD_co, List.getD_eq_getElem?_getD, List.getD_eq_getElem?_getD, List.getElem?_append_left (by rw [len_co]; exact h)]
theorem up_at {f : Box} {i : Nat} (h : i < f.length) : (upI f ++ [0]).getD i 0 = (f.getD i noVar).upper := by
  rw [← getD_up, List.getD_eq_getElem?_getD, List.getD_eq_getElem?_getD, List.getElem?_append_left (by rw [len_up]; exact h)]
theorem drop_two {f : Box} {i : Nat} {u v : Variable} (h : f.drop i = [u, v]) : i + 2 = f.length ∧ f.getD i noVar = u ∧ f.getD (i + 1) noVar = v := by
  have hl := congrArg List.length h
  rw [List.length_drop] at hl
  have hl : f.length - i = 2 := hl
  have e0 : (f.drop i)[0]? = some u := by rw [h]; rfl
  have e1 : (f.drop i)[1]? = some v := by rw [h]; rfl
  rw [List.getElem?_drop] at e0 e1
  refine ⟨by omega, ?_, ?_⟩
  · rw [List.getD_eq_getElem?_getD]
    have : f[i]? = some u := e0
    rw [this]; rfl
  · rw [List.getD_eq_getElem?_getD, e1]; rfl
theorem ok_Equation_prepare_pair (T : Top K mg) : FnOk P w K mg base CX0 2 T.f_Equation_prepare_pair.a T.f_Equation_prepare_pair.d ["self"] (spPrep T.c_Equation) := by
  refine T.f_Equation_prepare_pair.F.ok sc_Equation_prepare_pair (fun vs H Q E h => ?_) (fun cdv A outer s H vs Q E hr h => ⟨_, (pss_cons (ps_set (i := 1) sc_Equation_prepare_pair.nd rfl (Or.inl rfl) (pe_op op_sub (pe_callB call_len_seq (by rfl) T.b_len PySem.boot_len (pa_cons (pe_fld (pv 0) rfl) pa_nil)) pe_int))
    (pss_cons (ps_set (i := 2) sc_Equation_prepare_pair.nd rfl (Or.inl rfl) (pe_ix ix_list (pe_fld (pv 0) rfl) (pv 1) (fun _ _ => rfl)))
    (pss_cons (ps_fld (pv 0) (pe_op op_fdivA (pe_callB call_abs (by rfl) T.b_abs (by decide +kernel) (pa_cons (pe_ix ix_list (pe_fld (pv 0) rfl) (pe_op op_add (pv 1) pe_int) (fun _ _ => rfl)) pa_nil)) (pv 2)) rfl)
    (pss_one (ps_fld (pv 0) (pe_call (ok_inverse_for T) (hr.mono (by decide)) rfl T.g_inverse_for T.f_inverse_for.F.kp T.f_inverse_for.b .nil pass0 (pa_cons (pe_op op_fdivA (pe_ix ix_list (pe_fld (pv 0) rfl) (pv 1) (fun _ _ => rfl)) (pv 2)) (pa_cons (pe_fld (pv 0) rfl) pa_nil))) rfl))))), ?_⟩)
  · obtain ⟨p, dx, t, b, pl, c, u, lt, gt, dv, rfl, _⟩ := h; rfl
  obtain ⟨p, dx, t, b, pl, c, u, lt, gt, dv, rfl, hp, hL, hf, h2, k⟩ := h
  obtain ⟨x, y, hxy⟩ := two_last h2
  obtain ⟨hlen, hx, hy⟩ := drop_two hxy
  have memx : x ∈ freeVariables b := List.mem_of_mem_drop (i := (freeVariables b).length - 2) (by rw [hxy]; exact List.mem_cons_self)
  have memy : y ∈ freeVariables b := List.mem_of_mem_drop (i := (freeVariables b).length - 2) (by rw [hxy]; exact List.mem_cons_of_mem _ List.mem_cons_self)
  have y0 : y.coefficient ≠ 0 := (isFree_iff.mp (free_mem memy).2).2
  have bx := hf.co x (free_mem memx).1
  have by_ := hf.co y (free_mem memy).1
  generalize hn : (freeVariables b).length - 2 = n at hxy hlen hx hy
  have g0 : 0 < coGcd [x, y] := by rw [coGcd_two]; exact Nat.gcd_pos_of_pos_right _ (Int.natAbs_pos.mpr y0)
  have gy : coGcd [x, y] ≤ y.coefficient.natAbs := by rw [coGcd_two]; exact Nat.gcd_le_right _ (Int.natAbs_pos.mpr y0)
  have len1 : ((freeIdx b).map fun (i : Nat) => V.int (i : Int)).length = (freeVariables b).length := by rw [List.length_map, freeIdx_len]
  refine ⟨_, rfl, p, T.c_Equation, dx, _, _, rfl, hp, T.l_Equation.c, T.n_Equation.places, rfl, pl, _, rfl, .inl (.inl (.inl hL.pl)), _, _, rfl, rfl, ?_⟩
  have en : (((((freeIdx b).map fun (i : Nat) => V.int (i : Int)).length : Nat) : Int) - 2) = (n : Int) := by rw [len1]; omega
  refine ⟨_, rfl, p, T.c_Equation, dx, _, _, rfl, hp, T.l_Equation.c, T.n_Equation.divisors, rfl, _, rfl, dv, _, n, _, rfl, (congrArg V.int en), .inl (.inl hL.dv), atF (by omega), ?_⟩
  rw [hxy]
  refine ⟨_, rfl, p, T.c_Equation, dx, _, _, rfl, hp, T.l_Equation.c, T.n_Equation.coefficients, rfl, _, rfl, _, _, rfl, rfl, c, _, ((n + 1 : Nat) : Int), _, rfl, congrArg V.int (show (((((freeIdx b).map fun (i : Nat) => V.int (i : Int)).length : Nat) : Int) - 2) + 1 = ((n + 1 : Nat) : Int) by omega), .inl (.inl hL.c), atN (by rw [List.length_append, len_co]; show n + 1 < _ + 1; omega), _, rfl, ?_⟩
  rw [co_at (by omega), hy]
  have ea : (if y.coefficient < 0 then -y.coefficient else y.coefficient) = (y.coefficient.natAbs : Int) := by split <;> omega
  rw [ea]
  refine ⟨_, rfl, _, _, rfl, rfl, cdivA (by omega) (by omega), ?_⟩
  refine into_fld 0 rfl hp T.l_Equation.c T.n_Equation.pair_modulus (few (n := 11) rfl (by decide)) (fun H1 hp1 k1 => ?_)
  have epm : ((y.coefficient.natAbs : Int)).fdiv (coGcd [x, y] : Int) = ((y.coefficient.natAbs / coGcd [x, y] : Nat) : Int) := fdivN _ _
  have hp1 : H1 p = some (.ins T.c_Equation dx (eF t b.length (Lacks b) pl c u lt gt dv (((y.coefficient.natAbs : Int)).fdiv (coGcd [x, y] : Int)) 0)) := hp1
  rw [epm] at hp1
  have L1 := hL.keep k1 hp
  have pmpos : 0 < y.coefficient.natAbs / coGcd [x, y] := Nat.div_pos gy g0
  have pmle : y.coefficient.natAbs / coGcd [x, y] ≤ y.coefficient.natAbs := Nat.div_le_self _ _
  refine ⟨_, rfl, p, T.c_Equation, dx, _, _, rfl, hp1, T.l_Equation.c, T.n_Equation.coefficients, rfl, _, rfl, c, _, n, _, rfl, (congrArg V.int en), .inl (.inl L1.c), atN (by rw [List.length_append, len_co]; show n < _ + 1; omega), _, rfl, _, _, rfl, rfl, cdivA (by omega) (by omega), ?_⟩
  rw [co_at (by omega), hx]
  refine ⟨_, rfl, p, T.c_Equation, dx, _, _, rfl, hp1, T.l_Equation.c, T.n_Equation.pair_modulus, rfl, ?_⟩
  have ex : (x.coefficient).fdiv (coGcd [x, y] : Int) = x.coefficient / (coGcd [x, y] : Int) := Int.fdiv_eq_ediv_of_nonneg _ (by omega)
  have epm2 : ((y.coefficient.natAbs / coGcd [x, y] : Nat) : Int) = (y.coefficient.natAbs : Int) / (coGcd [x, y] : Int) := rfl
  refine ⟨_, _, rfl, by omega, by omega, ?_, fun v H2 s2 v0 v1 hv => ?_⟩
  · rw [ex, epm2, coGcd_two]
    exact gcd_red y0
  · refine into_fld 0 rfl (s2 _ _ hp1) T.l_Equation.c T.n_Equation.pair_inverse (few (n := 11) rfl (by decide)) (fun H3 hp3 k3 => ?_)
    refine k H3 ((y.coefficient.natAbs / coGcd [x, y] : Nat) : Int) v hp3 ((k1.then s2 hp).trans k3) ⟨fun u' v' he _ => ?_⟩
    rw [hn, hxy] at he
    injection he with e1 e2
    injection e2 with e2 _
    subst e1 e2
    rw [ex] at hv
    exact ⟨epm2, v0, v1, hv⟩
end Ov
end

section
set_option Elab.async false
set_option linter.all false
set_option maxRecDepth 100000
set_option maxHeartbeats 8000000
/-! equations: __init__ -/
namespace Ov
open PySem PySem.Spec PyProof.Rows L2
open VaviwBase (View Axis)
open Vaviwc (Box Variable freeVariables isFree minSum maxSum)
variable {P : Program} {w : World} {K : PySem.W.Frag} {mg : Str → Option Value} {base : Heap}

def spEqInit (K : PySem.W.Frag) (C : Addr) : Sp := fun vs H Q _ => ∃ (p dx a c : Addr) (t : Int) (b : Box), vs = [.ref p, .int t, .ref a, .ref c] ∧ H p = some (.ins C dx []) ∧
  SqL K H a ((coI b).map V.int) ∧ SqL K H c ((upI b).map V.int) ∧ FineB b ∧ ∀ H' : Hp, EqAt C H' p t b → Keep p H H' → Q .non H'
def spansB (f : Box) : List Int := List.zipWith (fun x y => x * y) (coI f ++ [0]) (upI f ++ [0])
theorem spansB_is : ∀ f : Box, spansB f = (f.map fun v => v.coefficient * v.upper) ++ [0]
  | [] => rfl
  | v :: f => by
    have ih := spansB_is f
    show v.coefficient * v.upper :: spansB f = _
    rw [ih]; rfl
theorem spans_len (f : Box) : (spansB f).length = f.length + 1 := by rw [spansB_is]; simp
theorem tails_min {f : Box} (h : ∀ v ∈ f, v.lower = 0) : tailsI ((spansB f).map fun z => if z < 0 then z else 0) = (List.range (f.length + 2)).map fun k => minSum (f.drop k) := by
  unfold tailsI
  rw [List.length_map, spans_len]
  refine List.map_congr_left fun k _ => ?_
  rw [← sum_drop_min f h k, spansB_is, List.map_append, List.map_map]
  have : ((fun z : Int => if z < 0 then z else 0) ∘ fun v : Variable => v.coefficient * v.upper) = fun v => min 0 (v.coefficient * v.upper) := by
    funext v
    show (if v.coefficient * v.upper < 0 then v.coefficient * v.upper else 0) = min 0 (v.coefficient * v.upper)
    split <;> omega
  rw [this]; rfl
theorem tails_max {f : Box} (h : ∀ v ∈ f, v.lower = 0) : tailsI ((spansB f).map fun z => if z > 0 then z else 0) = (List.range (f.length + 2)).map fun k => maxSum (f.drop k) := by
  unfold tailsI
  rw [List.length_map, spans_len]
  refine List.map_congr_left fun k _ => ?_
  rw [← sum_drop_max f h k, spansB_is, List.map_append, List.map_map]
  have : ((fun z : Int => if z > 0 then z else 0) ∘ fun v : Variable => v.coefficient * v.upper) = fun v => max 0 (v.coefficient * v.upper) := by
    funext v
    show (if v.coefficient * v.upper > 0 then v.coefficient * v.upper else 0) = max 0 (v.coefficient * v.upper)
    split <;> omega
  rw [this]; rfl
theorem places_int (b : Box) : ((freeIdx b).map fun (i : Nat) => V.int (i : Int)) = ((freeIdx b).map fun (i : Nat) => (i : Int)).map V.int := by
  rw [List.map_map]; rfl
theorem pick_co (b : Box) : (((freeIdx b).map fun (i : Nat) => (i : Int)).filter fun _ => true).map (fun z => V.int ((coI b).getD z.toNat 0)) = (coI (freeVariables b)).map V.int := by
  rw [List.filter_eq_self.mpr (fun _ _ => rfl), List.map_map]
  have := congrArg (List.map V.int) (pick_free (fun v => v.coefficient) b)
  unfold coI
  rw [← this, List.map_map]
  refine List.map_congr_left fun i _ => ?_
  show V.int ((coI b).getD i 0) = V.int _
  rw [getD_co]
theorem pick_up (b : Box) : (((freeIdx b).map fun (i : Nat) => (i : Int)).filter fun _ => true).map (fun z => V.int ((upI b).getD z.toNat 0)) = (upI (freeVariables b)).map V.int := by
  rw [List.filter_eq_self.mpr (fun _ _ => rfl), List.map_map]
  have := congrArg (List.map V.int) (pick_free (fun v => v.upper) b)
  unfold upI
  rw [← this, List.map_map]
  refine List.map_congr_left fun i _ => ?_
  show V.int ((upI b).getD i 0) = V.int _
  rw [getD_up]
theorem ints_small {f : Box} (h : FineB f) : (∀ z ∈ coI f ++ [0], z.natAbs < 2 ^ 64) ∧ (∀ z ∈ upI f ++ [0], z.natAbs < 2 ^ 64) := by
  refine ⟨fun z hz => ?_, fun z hz => ?_⟩
  · rcases List.mem_append.mp hz with q | q
    · exact h.coI z q
    · rw [List.mem_singleton.mp q]; decide
  · rcases List.mem_append.mp hz with q | q
    · exact h.upI z q
    · rw [List.mem_singleton.mp q]; decide
theorem lacks_is {b : Box} (h : Low0 b) : (((upI b).filter fun _ => true).map (fun z => decide (z < 0))).any id = Lacks b := by
  rw [List.filter_eq_self.mpr (fun _ _ => rfl)]
  unfold upI Lacks
  rw [List.map_map, List.any_map]
  induction b with
  | nil => rfl
  | cons v b ih =>
    rw [List.any_cons, List.any_cons, ih h.tail]
    show (decide (v.upper < 0) || _) = (decide (v.upper < v.lower) || _)
    rw [h.head]
theorem ok_Equation_init (T : Top K mg) : FnOk P w K mg base CX0 3 T.f_Equation_init.a T.f_Equation_init.d ["self", "target", "coefficients", "uppers"] (spEqInit K T.c_Equation) := by
  refine T.f_Equation_init.F.ok sc_Equation_init (fun vs H Q E h => ?_) (fun cdv A outer s H vs Q E hr h => ⟨_, (pss_cons (ps_fld (pv 0) (pv 1) rfl)
    (pss_cons (ps_fld (pv 0) (pe_callB call_len_seq (by rfl) T.b_len PySem.boot_len (pa_cons (pv 2) pa_nil)) rfl)
    (pss_cons (ps_fld (pv 0) (pe_callB (cr_any rfl) (by rfl) T.b_any (by decide +kernel) (pa_cons (pe_lc (own := [("upper", 5)]) (g := gName 5) (by rfl) sc_Equation_init.nd (pi_list (pv 3)) (blkOk_by (own := [("upper", 5)]) (N := N_Equation_init) (sc := defScope s_Equation_init) (by decide +kernel)) (fun _ _ _ _ _ => by exact (pg_name (i := 5) sc_Equation_init.nd rfl (Or.inl rfl))) (fun _ _ _ _ _ => by exact pts_nil) (fun _ _ _ _ _ => by exact (pe_cmpR op_lt (pv 5) pe_int (nomark _)))) pa_nil)) rfl)
    (pss_cons (ps_fld (pv 0) (pe_call (ok_free_places T) (hr.mono (by decide)) rfl T.g_free_places T.f_free_places.F.kp T.f_free_places.b .nil pass0 (pa_cons (pv 2) (pa_cons (pv 3) pa_nil))) rfl)
    (pss_cons (ps_fld (pv 0) (pe_op op_cat (pe_lc (own := [("place", 6)]) (g := gName 6) (by rfl) sc_Equation_init.nd (pi_list (pe_fld (pv 0) rfl)) (blkOk_by (own := [("place", 6)]) (N := N_Equation_init) (sc := defScope s_Equation_init) (by decide +kernel)) (fun _ _ _ _ _ => by exact (pg_name (i := 6) sc_Equation_init.nd rfl (Or.inl rfl))) (fun _ _ _ _ _ => by exact pts_nil) (fun _ _ _ _ _ => by exact (pe_ix (ix_listK (K := K)) (pv 2) (pv 6) (fun _ _ => rfl)))) (pe_lst (pa_cons pe_int pa_nil))) rfl)
    (pss_cons (ps_fld (pv 0) (pe_op op_cat (pe_lc (own := [("place", 6)]) (g := gName 6) (by rfl) sc_Equation_init.nd (pi_list (pe_fld (pv 0) rfl)) (blkOk_by (own := [("place", 6)]) (N := N_Equation_init) (sc := defScope s_Equation_init) (by decide +kernel)) (fun _ _ _ _ _ => by exact (pg_name (i := 6) sc_Equation_init.nd rfl (Or.inl rfl))) (fun _ _ _ _ _ => by exact pts_nil) (fun _ _ _ _ _ => by exact (pe_ix (ix_listK (K := K)) (pv 3) (pv 6) (fun _ _ => rfl)))) (pe_lst (pa_cons pe_int pa_nil))) rfl)
    (pss_cons (ps_setLc (i := 4) (own := [("coefficient", 7), ("upper", 5)]) (g := gTup K 2 (gCons (gName 7) (gCons (gName 5) gNil))) (by rfl) sc_Equation_init.nd rfl rfl (sw_true rfl rfl rfl (by decide +kernel)) (pi_zip (by rfl) T.b_zip (pa_cons (pe_fld (pv 0) rfl) (pa_cons (pe_fld (pv 0) rfl) pa_nil))) (blkOk_by (own := [("coefficient", 7), ("upper", 5)]) (N := N_Equation_init) (sc := defScope s_Equation_init) (by decide +kernel)) (fun _ _ _ _ _ => by exact (pg_tup (by rfl) (pgs_cons (pg_name (i := 7) sc_Equation_init.nd rfl (Or.inl rfl)) (pgs_cons (pg_name (i := 5) sc_Equation_init.nd rfl (Or.inl rfl)) pgs_nil)))) (fun _ _ _ _ _ => by exact pts_nil) (fun _ _ _ _ _ => by exact (pe_op op_mulW (pv 7) (pv 5))))
    (pss_cons (ps_fld (pv 0) (pe_call (ok_tail_sums T) (hr.mono (by decide)) rfl T.g_tail_sums T.f_tail_sums.F.kp T.f_tail_sums.b .nil pass0 (pa_cons (pe_lc (own := [("span", 8)]) (g := gName 8) (by rfl) sc_Equation_init.nd (pi_list (pv 4)) (blkOk_by (own := [("span", 8)]) (N := N_Equation_init) (sc := defScope s_Equation_init) (by decide +kernel)) (fun _ _ _ _ _ => by exact (pg_name (i := 8) sc_Equation_init.nd rfl (Or.inl rfl))) (fun _ _ _ _ _ => by exact pts_nil) (fun _ _ _ _ _ => by exact (pe_callB (call_min2 rfl) (by rfl) T.b_min (by decide +kernel) (pa_cons pe_int (pa_cons (pv 8) pa_nil))))) pa_nil)) rfl)
    (pss_cons (ps_fld (pv 0) (pe_call (ok_tail_sums T) (hr.mono (by decide)) rfl T.g_tail_sums T.f_tail_sums.F.kp T.f_tail_sums.b .nil pass0 (pa_cons (pe_lc (own := [("span", 8)]) (g := gName 8) (by rfl) sc_Equation_init.nd (pi_list (pv 4)) (blkOk_by (own := [("span", 8)]) (N := N_Equation_init) (sc := defScope s_Equation_init) (by decide +kernel)) (fun _ _ _ _ _ => by exact (pg_name (i := 8) sc_Equation_init.nd rfl (Or.inl rfl))) (fun _ _ _ _ _ => by exact pts_nil) (fun _ _ _ _ _ => by exact (pe_callB (call_max2 rfl) (by rfl) T.b_max (by decide +kernel) (pa_cons pe_int (pa_cons (pv 8) pa_nil))))) pa_nil)) rfl)
    (pss_cons (ps_fld (pv 0) (pe_lc (own := [("first", 9)]) (g := gName 9) (by rfl) sc_Equation_init.nd (pi_range1 (by rfl) T.b_range (pa_cons (pe_callB call_len_seq (by rfl) T.b_len PySem.boot_len (pa_cons (pv 4) pa_nil)) pa_nil)) (blkOk_by (own := [("first", 9)]) (N := N_Equation_init) (sc := defScope s_Equation_init) (by decide +kernel)) (fun _ _ _ _ _ => by exact (pg_name (i := 9) sc_Equation_init.nd rfl (Or.inl rfl))) (fun _ _ _ _ _ => by exact pts_nil) (fun _ _ _ _ _ => by exact (pe_call (ok_common_divisor T) (hr.mono (by decide)) rfl T.g_common_divisor T.f_common_divisor.F.kp T.f_common_divisor.b .nil pass0 (pa_cons (pe_slice (sl_listK (K := K)) (pe_fldK (K := K) (pv 0) rfl) (po_some (pv 9)) po_none) pa_nil)))) rfl)
    (pss_cons (ps_fld (pv 0) pe_int rfl)
    (pss_cons (ps_fld (pv 0) pe_int rfl)
    (pss_one (ps_if (pt_cmpR op_ge (pe_callB call_len_seq (by rfl) T.b_len PySem.boot_len (pa_cons (pe_fld (pv 0) rfl) pa_nil)) pe_int (nomark _)) (pss_one (ps_expr (pe_meth0 (pv 0) T.l_Equation.c T.m_Equation_prepare_pair (ok_Equation_prepare_pair T) (hr.mono (by decide)) T.f_Equation_prepare_pair.b .nil pass0))) pss_nil)))))))))))))), ?_⟩)
  · obtain ⟨p, dx, a, c, t, b, rfl, _⟩ := h; rfl
  obtain ⟨p, dx, a, c, t, b, rfl, hp, hA, hC, hf, k⟩ := h
  have hl := hf.len
  have l1 := len_co b
  have l2 := len_up b
  have hF := hf.free
  have hFl := hF.len
  have sm := ints_small hF
  -- target
  refine ⟨_, rfl, into_fld 0 rfl hp T.l_Equation.c T.n_Equation.target (few (n := 0) rfl (by decide)) (fun H1 p1 k1 => ?_)⟩
  -- width
  refine ⟨_, rfl, a, _, rfl, .inl (k1.seq hp hA), into_fld 0 rfl p1 T.l_Equation.c T.n_Equation.width (few (n := 1) rfl (by decide)) (fun H2 p2 k2' => ?_)⟩
  have k2 := k1.trans k2'
  -- lacks_values
  refine ⟨_, rfl, c, rfl, ⟨_, k2.seq hp hC⟩, fun D hD => comp1 (ns := upI b) (fun _ => true) (fun z => V.bl (decide (z < 0))) (k2.seq hp hC) (few_line (by omega)) hD
    (fun z H1 R E _ _ hR _ => ⟨rfl, yes ⟨_, rfl, _, _, rfl, rfl, hR rfl _ (Same.refl _)⟩⟩) (fun H3 s3 d3 => ?_)⟩
  rw [mapBl] at d3
  refine ⟨_, _, rfl, .inl (.inl d3), into_fld 0 rfl (s3 _ _ p2) T.l_Equation.c T.n_Equation.lacks_values (few (n := 2) rfl (by decide)) (fun H4 p4 k4' => ?_)⟩
  have k4 := (k2.then s3 hp).trans k4'
  rw [lacks_is hf.low] at p4
  have p4 : H4 p = some (.ins T.c_Equation dx [("target", .int t), ("width", .int ((coI b).map V.int).length), ("lacks_values", .bl (Lacks b))]) := p4
  rw [List.length_map, l1] at p4
  -- places
  refine ⟨_, rfl, _, rfl, a, c, b, rfl, k4.seq hp hA, k4.seq hp hC, hf, fun H5 pl s5 dpl => into_fld 0 rfl (s5 _ _ p4) T.l_Equation.c T.n_Equation.places (few (n := 3) rfl (by decide)) (fun H6 p6 k6' => ?_)⟩
  have k6 := (k4.then s5 hp).trans k6'
  have pl6 := k6'.lst (s5 _ _ p4) dpl
  rw [places_int] at pl6
  have hix : ∀ z ∈ (freeIdx b).map (fun (i : Nat) => (i : Int)), ∃ i : Nat, z = i ∧ i < b.length := fun z hz => by
    obtain ⟨i, hi, rfl⟩ := List.mem_map.mp hz
    exact ⟨i, rfl, freeIdx_lt hi⟩
  have hixl : ((freeIdx b).map (fun (i : Nat) => (i : Int))).length ≤ 1000 := by rw [List.length_map, freeIdx_len]; omega
  -- coefficients
  refine ⟨_, rfl, p, T.c_Equation, dx, _, _, rfl, p6, T.l_Equation.c, T.n_Equation.places, rfl, pl, rfl, ⟨_, .inl (.inl pl6)⟩, fun D hD =>
    comp1 (ns := (freeIdx b).map (fun (i : Nat) => (i : Int))) (fun _ => true) (fun z => V.int ((coI b).getD z.toNat 0)) (.inl (.inl pl6)) (few_line hixl) hD (fun z Hz R E hz sz hR _ => ?_) (fun H7 s7 d7 => ?_)⟩
  · obtain ⟨i, rfl, hi⟩ := hix z hz
    exact ⟨rfl, yes ⟨_, rfl, _, rfl, a, _, _, _, rfl, rfl, sz.seq (k6.seq hp hA), atN (by omega), hR rfl _ (Same.refl _)⟩⟩
  rw [pick_co] at d7
  refine ⟨one_ok, fun l hl' => ⟨D, l, _, _, rfl, rfl, same_new hl' _ _ d7, upd_same, ?_, fun q hq => ?_⟩⟩
  · rw [List.length_map, len_co, sizeLine_eq]; show _ + 1 ≤ _; omega
  have s8 := s7.trans ((same_new (o := .lst [.int 0]) hl').trans (same_new (o := .lst (List.map V.int (coI (freeVariables b)) ++ [.int 0])) hq))
  refine into_fld 0 rfl (s8 _ _ p6) T.l_Equation.c T.n_Equation.coefficients (few (n := 4) rfl (by decide)) (fun H9 p9 k9' => ?_)
  have k9 := (k6.then s8 hp).trans k9'
  have pl9 := k9'.lst (s8 _ _ p6) (s8 _ _ pl6)
  have c9 : H9 q = some (.lst ((coI (freeVariables b) ++ [0]).map V.int)) := by
    rw [List.map_append]
    exact k9'.lst (s8 _ _ p6) upd_same
  clear d7 hl' hq s8 k9'
  -- uppers
  refine ⟨_, rfl, p, T.c_Equation, dx, _, _, rfl, p9, T.l_Equation.c, T.n_Equation.places, rfl, pl, rfl, ⟨_, .inl (.inl pl9)⟩, fun D hD =>
    comp1 (ns := (freeIdx b).map (fun (i : Nat) => (i : Int))) (fun _ => true) (fun z => V.int ((upI b).getD z.toNat 0)) (.inl (.inl pl9)) (few_line hixl) hD (fun z Hz R E hz sz hR _ => ?_) (fun H10 s10 d10 => ?_)⟩
  · obtain ⟨i, rfl, hi⟩ := hix z hz
    exact ⟨rfl, yes ⟨_, rfl, _, rfl, c, _, _, _, rfl, rfl, sz.seq (k9.seq hp hC), atN (by omega), hR rfl _ (Same.refl _)⟩⟩
  rw [pick_up] at d10
  refine ⟨one_ok, fun l hl' => ⟨D, l, _, _, rfl, rfl, same_new hl' _ _ d10, upd_same, ?_, fun u hu => ?_⟩⟩
  · rw [List.length_map, len_up, sizeLine_eq]; show _ + 1 ≤ _; omega
  have s11 := s10.trans ((same_new (o := .lst [.int 0]) hl').trans (same_new (o := .lst (List.map V.int (upI (freeVariables b)) ++ [.int 0])) hu))
  refine into_fld 0 rfl (s11 _ _ p9) T.l_Equation.c T.n_Equation.uppers (few (n := 5) rfl (by decide)) (fun H12 p12 k12' => ?_)
  have k12 := (k9.then s11 hp).trans k12'
  have pl12 := k12'.lst (s11 _ _ p9) (s11 _ _ pl9)
  have c12 := k12'.lst (s11 _ _ p9) (s11 _ _ c9)
  have u12 : H12 u = some (.lst ((upI (freeVariables b) ++ [0]).map V.int)) := by
    rw [List.map_append]
    exact k12'.lst (s11 _ _ p9) upd_same
  clear d10 hl' hu s11 k12'
  -- spans
  refine ⟨_, rfl, p, T.c_Equation, dx, _, _, rfl, p12, T.l_Equation.c, T.n_Equation.coefficients, rfl, _, rfl, p, T.c_Equation, dx, _, _, rfl, p12, T.l_Equation.c, T.n_Equation.uppers, rfl, q, u, _, _, rfl, .inl (.inl c12), .inl (.inl u12), fun sp hsp =>
    comp2 (ns := coI (freeVariables b) ++ [0]) (ms := upI (freeVariables b) ++ [0]) (fun x y => V.int (x * y)) (.inl (.inl c12)) (.inl (.inl u12)) (few_line (by rw [List.length_append, len_co]; show _ + 1 ≤ _; omega)) hsp (fun x y T1 H1 R E hxy _ hT hR => ⟨T1, _, rfl, .inl (.inl upd_same), rfl, _, _, rfl, _, _, rfl, rfl, rfl, ?_⟩) (fun H13 s13 d13 => ?_)⟩
  · obtain ⟨i, hx, hy⟩ := hxy
    refine yes ⟨_, rfl, _, rfl, _, _, rfl, rfl, wide_mul (a := 64) (b := 64) (sm.1 x (getZ hx)) (sm.2 y (getZ hy)) (by decide) (by decide) (by decide), ?_⟩
    exact hR (L2.upd H1 T1 (.tup [.int x, .int y])) (same_new hT)
  rw [zipI] at d13
  have d13 : H13 sp = some (.lst ((spansB (freeVariables b)).map V.int)) := d13
  have spl := spans_len (freeVariables b)
  have p13 := s13 _ _ p12
  have pl13 := s13 _ _ pl12
  have c13 := s13 _ _ c12
  have u13 := s13 _ _ u12
  have k13 := k12.then s13 hp
  -- least_tails
  refine ⟨_, rfl, sp, rfl, ⟨_, .inl (.inl d13)⟩, fun D hD => comp1 (ns := spansB (freeVariables b)) (fun _ => true) (fun z => V.int (if z < 0 then z else 0)) (.inl (.inl d13)) (few_line (by omega)) hD
    (fun z H1 R E _ _ hR _ => ⟨rfl, yes ⟨_, rfl, 0, z, rfl, hR rfl _ (Same.refl _)⟩⟩) (fun H14 s14 d14 => ?_)⟩
  rw [List.filter_eq_self.mpr (fun _ _ => rfl), mapI (fun z => if z < 0 then z else 0)] at d14
  refine ⟨D, _, rfl, .inl (.inl d14), (by rw [List.length_map]; omega), fun H15 lt s15 d15 => into_fld 0 rfl (s15 _ _ (s14 _ _ p13)) T.l_Equation.c T.n_Equation.least_tails (few (n := 6) rfl (by decide)) (fun H16 p16 k16' => ?_)⟩
  rw [tails_min (free_low hf.low)] at d15
  have s1415 := s14.trans s15
  have k16 := (k13.then s1415 hp).trans k16'
  have lt16 := k16'.lst (s1415 _ _ p13) d15
  have pl16 := k16'.lst (s1415 _ _ p13) (s1415 _ _ pl13)
  have c16 := k16'.lst (s1415 _ _ p13) (s1415 _ _ c13)
  have u16 := k16'.lst (s1415 _ _ p13) (s1415 _ _ u13)
  have sp16 := k16'.lst (s1415 _ _ p13) (s1415 _ _ d13)
  clear d14 d15
  -- greatest_tails
  refine ⟨_, rfl, sp, rfl, ⟨_, .inl (.inl sp16)⟩, fun D hD => comp1 (ns := spansB (freeVariables b)) (fun _ => true) (fun z => V.int (if z > 0 then z else 0)) (.inl (.inl sp16)) (few_line (by omega)) hD
    (fun z H1 R E _ _ hR _ => ⟨rfl, yes ⟨_, rfl, 0, z, rfl, hR rfl _ (Same.refl _)⟩⟩) (fun H17 s17 d17 => ?_)⟩
  rw [List.filter_eq_self.mpr (fun _ _ => rfl), mapI (fun z => if z > 0 then z else 0)] at d17
  refine ⟨D, _, rfl, .inl (.inl d17), (by rw [List.length_map]; omega), fun H18 gt s18 d18 => into_fld 0 rfl (s18 _ _ (s17 _ _ p16)) T.l_Equation.c T.n_Equation.greatest_tails (few (n := 7) rfl (by decide)) (fun H19 p19 k19' => ?_)⟩
  rw [tails_max (free_low hf.low)] at d18
  have s1718 := s17.trans s18
  have k19 := (k16.then s1718 hp).trans k19'
  have gt19 := k19'.lst (s1718 _ _ p16) d18
  have lt19 := k19'.lst (s1718 _ _ p16) (s1718 _ _ lt16)
  have pl19 := k19'.lst (s1718 _ _ p16) (s1718 _ _ pl16)
  have c19 := k19'.lst (s1718 _ _ p16) (s1718 _ _ c16)
  have u19 := k19'.lst (s1718 _ _ p16) (s1718 _ _ u16)
  have sp19 := k19'.lst (s1718 _ _ p16) (s1718 _ _ sp16)
  clear d17 d18
  -- divisors
  have en : (((spansB (freeVariables b)).map V.int).length : Int).toNat = (freeVariables b).length + 1 := by rw [List.length_map, spl]; omega
  refine ⟨_, rfl, sp, _, rfl, .inl (.inl (.inl sp19)), _, rfl, (by rw [List.length_map, spl]; omega), (by rw [List.length_map, spl]; omega), fun D hD => ?_⟩
  show ∃ W : Nat → Nat → Hp → Prop, (∃ m, W 0 m (upd H19 D (.lst []))) ∧ _
  rw [en]
  refine compR (n := (freeVariables b).length + 1) (fun _ => true) (fun i => V.int (coGcd ((freeVariables b).drop i))) (few_line (by omega)) hD (fun i Hi R E hi si hR _ => ⟨rfl, yes ?_⟩) (fun H20 s20 d20 => ?_)
  · refine ⟨_, rfl, p, T.c_Equation, dx, _, _, rfl, si _ _ p19, T.l_Equation.c, T.n_Equation.coefficients, rfl, _, rfl, _, rfl, q, _, rfl, .inl (.inl (si _ _ c19)), fun z hz => ?_⟩
    rw [cut_drop _ i (by rw [List.length_append, len_co]; show i ≤ _ + 1; omega)]
    refine ⟨z, _, rfl, .inl (.inl upd_same), ?_⟩
    have e : gcdL ((coI (freeVariables b) ++ [0]).drop i) = coGcd ((freeVariables b).drop i) := gcd_drop _ _
    rw [e]
    exact hR rfl _ (same_new hz)
  rw [List.filter_eq_self.mpr (fun _ _ => rfl), mapI (fun (i : Nat) => (coGcd ((freeVariables b).drop i) : Int))] at d20
  refine into_fld 0 rfl (s20 _ _ p19) T.l_Equation.c T.n_Equation.divisors (few (n := 8) rfl (by decide)) (fun H21 p21 k21' => ?_)
  have k21 := (k19.then s20 hp).trans k21'
  have L21 : EqLists H21 b pl q u lt gt D := by
    refine ⟨?_, k21'.lst (s20 _ _ p19) (s20 _ _ c19), k21'.lst (s20 _ _ p19) (s20 _ _ u19), k21'.lst (s20 _ _ p19) (s20 _ _ lt19), k21'.lst (s20 _ _ p19) (s20 _ _ gt19), k21'.lst (s20 _ _ p19) d20⟩
    rw [places_int]
    exact k21'.lst (s20 _ _ p19) (s20 _ _ pl19)
  -- the pair's numbers
  refine into_fld 0 rfl p21 T.l_Equation.c T.n_Equation.pair_modulus (few (n := 9) rfl (by decide)) (fun H22 p22 k22 => ?_)
  refine into_fld 0 rfl p22 T.l_Equation.c T.n_Equation.pair_inverse (few (n := 10) rfl (by decide)) (fun H23 p23 k23 => ?_)
  have L23 := (L21.keep k22 p21).keep k23 p22
  have k23a := (k21.trans k22).trans k23
  have p23 : H23 p = some (.ins T.c_Equation dx (eF t b.length (Lacks b) pl q u lt gt D 0 0)) := p23
  refine ⟨_, rfl, p, T.c_Equation, dx, _, _, rfl, p23, T.l_Equation.c, T.n_Equation.places, rfl, pl, _, rfl, .inl (.inl (.inl L23.pl)), _, _, rfl, rfl, _, rfl, iteD (fun h2 => ?_) (fun h2 => ?_)⟩
  · rw [List.length_map, freeIdx_len] at h2
    refine ⟨_, rfl, p, dx, _, rfl, p23, rfl, p, dx, t, b, pl, q, u, lt, gt, D, rfl, p23, L23, hf, by omega, fun H24 pm pi p24 k24 ok => ?_⟩
    exact k H24 ⟨dx, pl, q, u, lt, gt, D, pm, pi, p24, L23.keep k24 p23, ok⟩ (k23a.trans k24)
  · rw [List.length_map, freeIdx_len] at h2
    exact k H23 ⟨dx, pl, q, u, lt, gt, D, 0, 0, p23, L23, ⟨fun _ _ _ z => absurd z (by omega)⟩⟩ k23a
end Ov
end

section
set_option Elab.async false
set_option linter.all false
set_option maxRecDepth 100000
set_option maxHeartbeats 8000000
/-! equations: solutions, the equation of shared cells -/
namespace Ov
open PySem PySem.Spec PyProof.Rows L2
open VaviwBase (View Axis)
open Vaviwc (Box Variable freeVariables isFree minSum maxSum)
variable {P : Program} {w : World} {K : PySem.W.Frag} {mg : Str → Option Value} {base : Heap}

def spFull (K : PySem.W.Frag) (C : Addr) : Sp := fun vs H Q _ => ∃ (p fv : Addr) (t : Int) (b : Box) (xs : List Int), vs = [.ref p, .ref fv] ∧ EqAt C H p t b ∧ b.length ≤ 100 ∧ SqL K H fv (xs.map V.int) ∧ xs.length = (freeVariables b).length ∧
  ∀ (H' : Hp) (q : Addr), Same H H' → H' q = some (.lst ((spread b xs).map V.int)) → Q (.ref q) H'
theorem flat_rep {α : Type} (x : α) : ∀ n : Nat, (List.replicate n [x]).flatten = List.replicate n x
  | 0 => rfl
  | n + 1 => by rw [List.replicate_succ, List.replicate_succ, List.flatten_cons, flat_rep x n]; rfl
theorem ixN_nat {n i : Nat} (h : i < n) : ixN n ((i : Nat) : Int) = some i := by
  unfold ixN
  rw [if_pos (by omega), if_pos (by omega)]; rfl
theorem zip_take {α β : Type} {xs : List α} {ys : List β} {i : Nat} {x : α} {y : β} (hx : xs[i]? = some x) (hy : ys[i]? = some y) : (xs.zip ys).take (i + 1) = (xs.zip ys).take i ++ [(x, y)] :=
  take_more (by rw [List.getElem?_zip_eq_some]; exact ⟨hx, hy⟩)
theorem ok_Equation_full_solution (T : Top K mg) : FnOk P w K mg base CX0 1 T.f_Equation_full_solution.a T.f_Equation_full_solution.d ["self", "free_values"] (spFull K T.c_Equation) := by
  refine T.f_Equation_full_solution.F.ok sc_Equation_full_solution (fun vs H Q E h => ?_) (fun cdv A outer s H vs Q E hr h => ⟨_, (pss_cons (ps_set (i := 2) sc_Equation_full_solution.nd rfl (Or.inl rfl) (pe_op op_rep (pe_lst (pa_cons pe_int pa_nil)) (pe_fld (pv 0) rfl)))
    (pss_cons (ps_for PassesOwn.never rfl (pi_zip (by rfl) T.b_zip (pa_cons (pe_fld (pv 0) rfl) (pa_cons (pv 1) pa_nil))) (pg_tup (by rfl) (pgs_cons (pg_name (i := 3) sc_Equation_full_solution.nd rfl (Or.inl rfl)) (pgs_cons (pg_name (i := 4) sc_Equation_full_solution.nd rfl (Or.inl rfl)) pgs_nil))) (pss_one (ps_asg (pv 4) (pg_sub (pv 2) (pv 3) set_list))))
    (pss_one (ps_ret (pv 2))))), ?_⟩)
  · obtain ⟨p, fv, t, b, xs, rfl, _⟩ := h; rfl
  obtain ⟨p, fv, t, b, xs, rfl, hE, hb, hS, hl, k⟩ := h
  obtain ⟨dx, pl, c, u, lt, gt, dv, pm, pi, hp, hL, _⟩ := hE.ex
  have hil := freeIdx_len b
  have hfl : (freeVariables b).length ≤ b.length := List.length_filter_le _ _
  refine ⟨one_ok, fun l0 hl0 => ⟨_, rfl, p, T.c_Equation, dx, _, _, rfl, same_new hl0 _ _ hp, T.l_Equation.c, T.n_Equation.width, rfl, l0, b.length, _, rfl, rfl, upd_same, by omega, by omega, ?_, fun q hq => ?_⟩⟩
  · rw [sizeLine_eq]; show 1 * (b.length : Int).toNat ≤ _; omega
  have s1 : Same H (upd (upd H l0 (.lst [.int 0])) q (.lst (List.replicate ((b.length : Int)).toNat [V.int 0]).flatten)) := (same_new hl0).trans (same_new hq)
  have hq0 : H q = none := by
    have : upd H l0 (.lst [.int 0]) q = none := hq
    by_cases e : q = l0
    · rw [e, upd_same] at this; cases this
    · rw [upd_ne e] at this; exact this
  have d1 : (upd (upd H l0 (.lst [.int 0])) q (.lst (List.replicate ((b.length : Int)).toNat [V.int 0]).flatten)) q = some (.lst ((List.replicate b.length (0 : Int)).map V.int)) := by
    rw [upd_same, flat_rep, Int.toNat_natCast, List.map_replicate]
  generalize upd (upd H l0 (.lst [.int 0])) q (.lst (List.replicate ((b.length : Int)).toNat [V.int 0]).flatten) = H1 at s1 d1 ⊢
  refine ⟨_, rfl, p, T.c_Equation, dx, _, _, rfl, s1 _ _ hp, T.l_Equation.c, T.n_Equation.places, rfl, _, rfl, pl, fv, _, _, rfl, .inl (.inl (s1 _ _ hL.pl)), s1.seq hS, ?_⟩
  have wz : Walk (Itz K pl fv) (freeIdx b).length (fun H => SqL K H pl ((freeIdx b).map fun (i : Nat) => V.int (i : Int)) ∧ SqL K H fv (xs.map V.int)) _ := walk_zip (by rw [List.length_map, List.length_map]; omega)
  refine for_it wz (fun i σ H' => (∃ u v : Option V, σ = [some (.ref p), some (.ref fv), some (.ref q), u, v]) ∧ Same H H' ∧ H' q = some (.lst ((putAll (((freeIdx b).zip xs).take i) (List.replicate b.length 0)).map V.int)))
    ⟨⟨none, none, rfl⟩, s1, d1⟩ (fun i σ H' _ h => ⟨.inl (.inl (h.2.1 _ _ hL.pl)), h.2.1.seq hS⟩) ?_ ?_
  · rintro i x σ H2 H3 hi ⟨⟨u', v', rfl⟩, s2, d2⟩ ⟨T1, x0, y0, rfl, hT, rfl, hx, hy⟩
    obtain ⟨z, hz, rfl⟩ := getI hy
    have hx' : (freeIdx b)[i]? = some (freeIdx b)[i] := List.getElem?_eq_getElem hi
    have hx : ((freeIdx b).map fun (i : Nat) => V.int (i : Int))[i]? = some x0 := hx
    rw [List.getElem?_map, hx'] at hx
    obtain rfl := Option.some.inj hx
    have hlt : (freeIdx b)[i] < b.length := freeIdx_lt (List.getElem_mem hi)
    have qT : q ≠ T1 := ne_of_none d2 hT
    refine ⟨T1, _, rfl, .inl (.inl upd_same), rfl, _, _, rfl, _, _, rfl, rfl, _, rfl, _, rfl, _, rfl, q, _, _, (freeIdx b)[i], rfl, rfl, (upd_ne qT).trans d2, ?_, ?_⟩
    · rw [List.length_map, putAll_len, List.length_replicate]
      exact ixN_nat hlt
    · refine ⟨⟨_, _, rfl⟩, Same.upd hq0 (s2.trans (same_new hT)), ?_⟩
      rw [upd_same, zip_take hx' hz, putAll_snoc, List.map_set]
  · rintro σ H2 ⟨⟨u', v', rfl⟩, s2, d2⟩
    have e : ((freeIdx b).zip xs).take (freeIdx b).length = (freeIdx b).zip xs := List.take_of_length_le (by rw [List.length_zip]; omega)
    rw [e, spread_put b xs (by omega)] at d2
    exact ⟨_, rfl, k H2 q s2 d2⟩

/-! ### the equation of shared cells -/
def spShared (C E : Addr) : Sp := fun vs H Q _ => ∃ (a c : Addr) (v u : View), vs = [.ref a, .ref c] ∧ ViewAt C H a v ∧ ViewAt C H c u ∧ FineB (Vaviwc.sharedCellEquation v u).2 ∧
  ∀ (H' : Hp) (p : Addr), Same H H' → EqAt E H' p (Vaviwc.sharedCellEquation v u).1 (Vaviwc.sharedCellEquation v u).2 → Q (.ref p) H'
theorem shared_co (v u : View) : coI (Vaviwc.sharedCellEquation v u).2 = strI v.axes ++ (strI u.axes).map fun z => -z := by
  show ((v.axes.map _) ++ (u.axes.map _)).map _ = _
  unfold strI
  rw [List.map_append, List.map_map, List.map_map, List.map_map]
  congr 1
  · exact List.map_congr_left fun a _ => Int.one_mul _
  · refine List.map_congr_left fun a _ => ?_
    show -1 * a.stride = -a.stride
    omega
theorem shared_up (v u : View) : upI (Vaviwc.sharedCellEquation v u).2 = (lenI v.axes ++ lenI u.axes).map fun z => z - 1 := by
  show ((v.axes.map _) ++ (u.axes.map _)).map _ = _
  unfold lenI
  rw [List.map_append, List.map_append, List.map_map, List.map_map, List.map_map, List.map_map]; rfl
theorem ok_shared_equation (T : Top K mg) : FnOk P w K mg base CX0 5 T.f_shared_equation.a T.f_shared_equation.d ["left", "right"] (spShared T.c_View T.c_Equation) := by
  refine T.f_shared_equation.F.ok sc_shared_equation (fun vs H Q E h => ?_) (fun cdv A outer s H vs Q E hr h => ⟨_, (pss_cons (ps_set (i := 2) sc_shared_equation.nd rfl (Or.inl rfl) (pe_op op_cat (pe_fld (pv 0) rfl) (pe_lc (own := [("stride", 4)]) (g := gName 4) (by rfl) sc_shared_equation.nd (pi_list (pe_fld (pv 1) rfl)) (blkOk_by (own := [("stride", 4)]) (N := N_shared_equation) (sc := defScope s_shared_equation) (by decide +kernel)) (fun _ _ _ _ _ => by exact (pg_name (i := 4) sc_shared_equation.nd rfl (Or.inl rfl))) (fun _ _ _ _ _ => by exact pts_nil) (fun _ _ _ _ _ => by exact (pe_un un_neg (pv 4))))))
    (pss_cons (ps_setLc (i := 3) (own := [("length", 5)]) (g := gName 5) (by rfl) sc_shared_equation.nd rfl rfl (sw_true rfl rfl rfl (by decide +kernel)) (pi_list (pe_op op_cat (pe_fld (pv 0) rfl) (pe_fld (pv 1) rfl))) (blkOk_by (own := [("length", 5)]) (N := N_shared_equation) (sc := defScope s_shared_equation) (by decide +kernel)) (fun _ _ _ _ _ => by exact (pg_name (i := 5) sc_shared_equation.nd rfl (Or.inl rfl))) (fun _ _ _ _ _ => by exact pts_nil) (fun _ _ _ _ _ => by exact (pe_op op_sub (pv 5) pe_int)))
    (pss_one (ps_ret (pe_make T.mk_Equation (ok_Equation_init T) (hr.mono (by decide)) rfl T.l_Equation.g T.f_Equation_init.b .nil pass0 (pa_cons (pe_op op_sub (pe_fld (pv 1) rfl) (pe_fld (pv 0) rfl)) (pa_cons (pv 2) (pa_cons (pv 3) pa_nil)))))))), ?_⟩)
  · obtain ⟨a, c, v, u, rfl, _⟩ := h; rfl
  obtain ⟨a, c, v, u, rfl, hv, hu, hf, k⟩ := h
  obtain ⟨dx, l, t, h1, h2, h3⟩ := hv.ex
  obtain ⟨dx', l', t', g1, g2, g3⟩ := hu.ex
  have hb := hf.len
  have e1 := len_co (Vaviwc.sharedCellEquation v u).2
  have e2 := len_up (Vaviwc.sharedCellEquation v u).2
  rw [shared_co, List.length_append, List.length_map] at e1
  rw [shared_up, List.length_map, List.length_append] at e2
  refine ⟨_, rfl, a, T.c_View, dx, _, _, rfl, h1, T.l_View.c, T.n_View.strides, vF_strides, _, rfl, c, T.c_View, dx', _, _, rfl, g1, T.l_View.c, T.n_View.strides, vF_strides, t', rfl, ⟨_, .inl (.inl g3)⟩, fun D hD =>
    comp1 (ns := strI u.axes) (fun _ => true) (fun z => V.int (-z)) (.inl (.inl g3)) (few_line (by omega)) hD (fun z H1 R E _ _ hR _ => ⟨rfl, yes ⟨_, rfl, _, rfl, hR rfl _ (Same.refl _)⟩⟩) (fun H1 s1 d1 => ?_)⟩
  rw [List.filter_eq_self.mpr (fun _ _ => rfl), mapI (fun z => -z)] at d1
  refine ⟨t, D, _, _, rfl, rfl, s1 _ _ h3, d1, ?_, fun q hq => ?_⟩
  · rw [List.length_map, List.length_map, List.length_map, sizeLine_eq]; omega
  have s2 := s1.trans (same_new (o := .lst ((strI v.axes).map V.int ++ ((strI u.axes).map fun z => -z).map V.int)) hq)
  have dq : (upd H1 q (.lst ((strI v.axes).map V.int ++ ((strI u.axes).map fun z => -z).map V.int))) q = some (.lst ((coI (Vaviwc.sharedCellEquation v u).2).map V.int)) := by
    rw [upd_same, shared_co, List.map_append]
  generalize upd H1 q (.lst ((strI v.axes).map V.int ++ ((strI u.axes).map fun z => -z).map V.int)) = H2 at s2 dq ⊢
  -- uppers
  refine ⟨_, rfl, a, T.c_View, dx, _, _, rfl, s2 _ _ h1, T.l_View.c, T.n_View.lengths, vF_lengths, _, rfl, c, T.c_View, dx', _, _, rfl, s2 _ _ g1, T.l_View.c, T.n_View.lengths, vF_lengths, l, l', _, _, rfl, rfl, s2 _ _ h2, s2 _ _ g2, ?_, fun m hm => ?_⟩
  · rw [List.length_map, List.length_map, sizeLine_eq]; omega
  have s3 := s2.trans (same_new (o := .lst ((lenI v.axes).map V.int ++ (lenI u.axes).map V.int)) hm)
  have dm : (upd H2 m (.lst ((lenI v.axes).map V.int ++ (lenI u.axes).map V.int))) m = some (.lst ((lenI v.axes ++ lenI u.axes).map V.int)) := by rw [upd_same, List.map_append]
  have dq3 := same_new (o := .lst ((lenI v.axes).map V.int ++ (lenI u.axes).map V.int)) hm _ _ dq
  generalize upd H2 m (.lst ((lenI v.axes).map V.int ++ (lenI u.axes).map V.int)) = H3 at s3 dm dq3 ⊢
  refine ⟨m, rfl, ⟨_, .inl (.inl dm)⟩, fun D hD => comp1 (ns := lenI v.axes ++ lenI u.axes) (fun _ => true) (fun z => V.int (z - 1)) (.inl (.inl dm)) (few_line (by rw [List.length_append]; omega)) hD
    (fun z H1 R E _ _ hR _ => ⟨rfl, yes ⟨_, rfl, _, _, rfl, rfl, hR rfl _ (Same.refl _)⟩⟩) (fun H4 s4 d4 => ?_)⟩
  rw [List.filter_eq_self.mpr (fun _ _ => rfl), mapI (fun z => z - 1), ← shared_up] at d4
  have s4' := s3.trans s4
  refine ⟨_, rfl, c, T.c_View, dx', _, _, rfl, s4' _ _ g1, T.l_View.c, T.n_View.offset, vF_offset, _, rfl, a, T.c_View, dx, _, _, rfl, s4' _ _ h1, T.l_View.c, T.n_View.offset, vF_offset, _, _, rfl, rfl, _, rfl, _, rfl, ?_⟩
  intro x dy nx nd ne
  have sN : Same H4 (upd (upd H4 dy (.own x)) x (.ins T.c_Equation dy [])) := fun b o e => by
    rw [upd_ne (ne_of_none e nx), upd_ne (ne_of_none e nd)]; exact e
  refine ⟨x, dy, q, D, _, (Vaviwc.sharedCellEquation v u).2, rfl, upd_same, .inl (.inl (sN _ _ (s4 _ _ dq3))), .inl (.inl (sN _ _ d4)), hf, fun H5 hE k5 => ⟨rfl, ?_⟩⟩
  exact k H5 x (fun b o e => k5 b o (sN _ _ (s4' _ _ e)) (ne_of_none (s4' _ _ e) nx)) hE
end Ov
end

section
set_option Elab.async false
set_option linter.all false
set_option maxRecDepth 100000
set_option maxHeartbeats 8000000
/-! equations of repeated cells -/
namespace Ov
open PySem PySem.Spec PyProof.Rows L2
open VaviwBase (View Axis)
open Vaviwc (Box Variable freeVariables isFree minSum maxSum)
variable {P : Program} {w : World} {K : PySem.W.Frag} {mg : Str → Option Value} {base : Heap}

def natI (l : List Nat) : List Int := l.map fun (n : Nat) => (n : Int)
theorem down_range (n : Nat) : (List.range n).map (fun i => n - 1 - i) = (List.range n).reverse := by
  apply List.ext_getElem
  · simp
  · intro i h1 h2
    simp
theorem down_pick (n : Nat) (q : Nat → Bool) : ((List.range n).filter fun i => q (n - 1 - i)).map (fun i => V.int (((n - 1 - i : Nat) : Nat) : Int)) = ((natI ((List.range n).reverse.filter q)).map V.int) := by
  rw [← down_range, List.filter_map]
  unfold natI
  rw [List.map_map, List.map_map]
  rfl
def spRepAxes (C : Addr) : Sp := fun vs H Q _ => ∃ (a : Addr) (v : View), vs = [.ref a] ∧ ViewAt C H a v ∧ v.axes.length ≤ 500 ∧ ∀ (H' : Hp) (p : Addr), Same H H' → H p = none → H' p = some (.lst ((natI (axesI v)).map V.int)) → Q (.ref p) H'
theorem ok_repetition_axes (T : Top K mg) : FnOk P w K mg base CX0 1 T.f_repetition_axes.a T.f_repetition_axes.d ["view"] (spRepAxes T.c_View) := by
  refine T.f_repetition_axes.F.ok sc_repetition_axes (fun vs H Q E h => ?_) (fun cdv A outer s H vs Q E hr h => ⟨_, (pss_cons (ps_if (pt_cmpR op_eq (pe_fld (pv 0) rfl) pe_int (nomark _)) (pss_one (ps_ret (pe_lst pa_nil))) pss_nil)
    (pss_one (ps_ret (pe_lc (own := [("axis", 1)]) (g := gName 1) (by rfl) sc_repetition_axes.nd (pi_range3 (by rfl) T.b_range (pa_cons (pe_op op_sub (pe_callB call_len_seq (by rfl) T.b_len PySem.boot_len (pa_cons (pe_fld (pv 0) rfl) pa_nil)) pe_int) (pa_cons (pe_un un_neg pe_int) (pa_cons (pe_un un_neg pe_int) pa_nil)))) (blkOk_by (own := [("axis", 1)]) (N := N_repetition_axes) (sc := defScope s_repetition_axes) (by decide +kernel)) (fun _ _ _ _ _ => by exact (pg_name (i := 1) sc_repetition_axes.nd rfl (Or.inl rfl))) (fun _ _ _ _ _ => by exact pts_one (pt_cmpR op_ge (pe_ix (ix_listK (K := K)) (pe_fldK (K := K) (pv 0) rfl) (pv 1) (fun _ _ => rfl)) pe_int (nomark _))) (fun _ _ _ _ _ => by exact (pv 1)))))), ?_⟩)
  · obtain ⟨a, v, rfl, _⟩ := h; rfl
  obtain ⟨a, v, rfl, hv, hl, k⟩ := h
  obtain ⟨dx, l, t, h1, h2, h3⟩ := hv.ex
  refine ⟨_, rfl, a, T.c_View, dx, _, _, rfl, h1, T.l_View.c, T.n_View.size, vF_size, rfl, _, rfl, iteEq (fun z0 => ?_) (fun z1 => ?_)⟩
  · have e : axesI v = [] := if_pos (by omega)
    rw [e] at k
    exact ⟨Nat.zero_le _, fun p hp => k _ p (same_new hp) hp upd_same⟩
  · have z1 : v.size ≠ 0 := by omega
    have el : (lenI v.axes).length = v.axes.length := by unfold lenI; rw [List.length_map]
    have e : axesI v = (List.range v.axes.length).reverse.filter fun i => decide (2 ≤ (v.axes.getD i ⟨0, 0⟩).length) := if_neg z1
    rw [e, ← down_pick] at k
    refine ⟨_, rfl, a, T.c_View, dx, _, _, rfl, h1, T.l_View.c, T.n_View.lengths, vF_lengths, l, _, rfl, .inl (.inl (.inl h2)), _, _, rfl, rfl, _, rfl, _, rfl, _, _, _, v.axes.length, rfl, ?_, fun D hD => ?_⟩
    · rw [List.length_map, el]
      have r := RgC.neg (i := (v.axes.length : Int) - 1) (j := -1) (by omega) (by omega) (by omega) (by omega)
      have en : ((v.axes.length : Int) - 1 - -1).toNat = v.axes.length := by omega
      rw [en] at r
      exact r
    · rw [List.length_map, el]
      refine comp_it walk_rangeC (fun i => decide (2 ≤ (v.axes.getD (v.axes.length - 1 - i) ⟨0, 0⟩).length)) (fun i => V.int ((v.axes.length - 1 - i : Nat) : Int)) (few_line (by omega)) hD (fun _ _ => trivial) ?_ (fun H' s' d' => k H' D s' hD d')
      rintro i x H1 H2 R E' hi s1 ⟨rfl, ex⟩ hR hE
      have ei : ((v.axes.length : Int) - 1) + (i : Nat) * (-1) = ((v.axes.length - 1 - i : Nat) : Int) := by omega
      obtain rfl : x = V.int ((v.axes.length - 1 - i : Nat) : Int) := ex.trans (congrArg V.int ei)
      have gl : (lenI v.axes).getD (v.axes.length - 1 - i) 0 = ((v.axes.getD (v.axes.length - 1 - i) ⟨0, 0⟩).length : Int) := by
        unfold lenI
        rw [List.getD_eq_getElem?_getD, List.getD_eq_getElem?_getD, List.getElem?_map]
        have hlt : v.axes.length - 1 - i < v.axes.length := by omega
        rw [List.getElem?_eq_getElem hlt]; rfl
      refine ⟨rfl, ?_⟩
      refine ⟨_, rfl, a, T.c_View, dx, _, _, rfl, s1 _ _ h1, T.l_View.c, T.n_View.lengths, vF_lengths, _, rfl, l, _, ((v.axes.length - 1 - i : Nat) : Int), _, rfl, rfl, .inl (.inl (s1 _ _ h2)), atN (by rw [el]; omega), _, _, rfl, rfl, _, rfl, ?_⟩
      rw [gl]
      refine iteB (fun q => ?_) (fun q => ?_)
      · exact ⟨_, rfl, hR (decide_eq_true (by have := of_decide_eq_true q; omega)) _ (Same.refl _)⟩
      · exact hE (decide_eq_false (by have := of_decide_eq_false q; omega)) _ (Same.refl _)

/-! ### the equation from an axis on -/
def eqCo (v : View) (i : Nat) : List Int := (strI v.axes).drop i
theorem lenI_len (ax : List Axis) : (lenI ax).length = ax.length := by unfold lenI; rw [List.length_map]
theorem strI_len (ax : List Axis) : (strI ax).length = ax.length := by unfold strI; rw [List.length_map]
theorem getD_drop {v : View} {i : Nat} (h : i < v.axes.length) : v.axes.drop i = v.axes.getD i ⟨0, 0⟩ :: v.axes.drop (i + 1) := by
  have g : v.axes[i]? = some v.axes[i] := List.getElem?_eq_getElem h
  rw [drop_axis g, List.getD_eq_getElem?_getD, g]; rfl
theorem eqAt_co {v : View} {i : Nat} (h : i < v.axes.length) : coI (eqAt v i).2 = (strI v.axes).drop i := by
  unfold strI
  rw [← List.map_drop, getD_drop h]
  show List.map _ (_ :: List.map _ _) = _
  rw [List.map_cons, List.map_map, List.map_cons]; rfl
theorem eqAt_up {v : View} {i : Nat} : upI (eqAt v i).2 = [((v.axes.getD i ⟨0, 0⟩).length : Int) - 2] ++ (((lenI v.axes).drop (i + 1)).map fun z => z - 1).map fun z => 2 * z := by
  unfold lenI
  rw [← List.map_drop, List.map_map, List.map_map]
  show List.map _ (_ :: List.map _ _) = _
  rw [List.map_cons, List.map_map]; rfl
theorem eqAt_t {v : View} {i : Nat} : (eqAt v i).1 = (List.zipWith (fun x y => x * y) ((strI v.axes).drop (i + 1)) (((lenI v.axes).drop (i + 1)).map fun z => z - 1)).sum - (v.axes.getD i ⟨0, 0⟩).stride := by
  show repTarget _ _ = _
  rw [repTarget_sum]
  congr 2
  unfold strI lenI
  rw [← List.map_drop, ← List.map_drop]
  generalize v.axes.drop (i + 1) = l
  induction l with
  | nil => rfl
  | cons a l ih => exact congrArg (_ :: ·) ih
theorem lenI_at {v : View} {i : Nat} (h : i < v.axes.length) : (lenI v.axes).getD i 0 = ((v.axes.getD i ⟨0, 0⟩).length : Int) := by
  unfold lenI
  rw [List.getD_eq_getElem?_getD, List.getD_eq_getElem?_getD, List.getElem?_map, List.getElem?_eq_getElem h]; rfl
theorem strI_at {v : View} {i : Nat} (h : i < v.axes.length) : (strI v.axes).getD i 0 = (v.axes.getD i ⟨0, 0⟩).stride := by
  unfold strI
  rw [List.getD_eq_getElem?_getD, List.getD_eq_getElem?_getD, List.getElem?_map, List.getElem?_eq_getElem h]; rfl
def spRepEq (C E : Addr) : Sp := fun vs H Q _ => ∃ (a : Addr) (v : View) (i : Nat), vs = [.ref a, .int i] ∧ ViewAt C H a v ∧ FineV v ∧ i < v.axes.length ∧ FineB (eqAt v i).2 ∧
  ∀ (H' : Hp) (p : Addr), Same H H' → EqAt E H' p (eqAt v i).1 (eqAt v i).2 → Q (.ref p) H'
theorem ok_repetition_equation (T : Top K mg) : FnOk P w K mg base CX0 5 T.f_repetition_equation.a T.f_repetition_equation.d ["view", "axis"] (spRepEq T.c_View T.c_Equation) := by
  refine T.f_repetition_equation.F.ok sc_repetition_equation (fun vs H Q E h => ?_) (fun cdv A outer s H vs Q E hr h => ⟨_, (pss_cons (ps_setLc (i := 2) (own := [("length", 5)]) (g := gName 5) (by rfl) sc_repetition_equation.nd rfl rfl (sw_true rfl rfl rfl (by decide +kernel)) (pi_list (pe_slice sl_list (pe_fld (pv 0) rfl) (po_some (pe_op op_add (pv 1) pe_int)) po_none)) (blkOk_by (own := [("length", 5)]) (N := N_repetition_equation) (sc := defScope s_repetition_equation) (by decide +kernel)) (fun _ _ _ _ _ => by exact (pg_name (i := 5) sc_repetition_equation.nd rfl (Or.inl rfl))) (fun _ _ _ _ _ => by exact pts_nil) (fun _ _ _ _ _ => by exact (pe_op op_sub (pv 5) pe_int)))
    (pss_cons (ps_set (i := 3) sc_repetition_equation.nd rfl (Or.inl rfl) (pe_op op_cat (pe_lst (pa_cons (pe_op op_sub (pe_ix ix_list (pe_fld (pv 0) rfl) (pv 1) (fun _ _ => rfl)) pe_int) pa_nil)) (pe_lc (own := [("reach", 6)]) (g := gName 6) (by rfl) sc_repetition_equation.nd (pi_list (pv 2)) (blkOk_by (own := [("reach", 6)]) (N := N_repetition_equation) (sc := defScope s_repetition_equation) (by decide +kernel)) (fun _ _ _ _ _ => by exact (pg_name (i := 6) sc_repetition_equation.nd rfl (Or.inl rfl))) (fun _ _ _ _ _ => by exact pts_nil) (fun _ _ _ _ _ => by exact (pe_op op_mulW pe_int (pv 6))))))
    (pss_cons (ps_set (i := 4) sc_repetition_equation.nd rfl (Or.inl rfl) (pe_callB (cr_sum rfl) (by rfl) T.b_sum (by decide +kernel) (pa_cons (pe_lc (own := [("stride", 7), ("reach", 6)]) (g := gTup K 2 (gCons (gName 7) (gCons (gName 6) gNil))) (by rfl) sc_repetition_equation.nd (pi_zip (by rfl) T.b_zip (pa_cons (pe_slice sl_list (pe_fld (pv 0) rfl) (po_some (pe_op op_add (pv 1) pe_int)) po_none) (pa_cons (pv 2) pa_nil))) (blkOk_by (own := [("stride", 7), ("reach", 6)]) (N := N_repetition_equation) (sc := defScope s_repetition_equation) (by decide +kernel)) (fun _ _ _ _ _ => by exact (pg_tup (by rfl) (pgs_cons (pg_name (i := 7) sc_repetition_equation.nd rfl (Or.inl rfl)) (pgs_cons (pg_name (i := 6) sc_repetition_equation.nd rfl (Or.inl rfl)) pgs_nil)))) (fun _ _ _ _ _ => by exact pts_nil) (fun _ _ _ _ _ => by exact (pe_op op_mulW (pv 7) (pv 6)))) pa_nil)))
    (pss_one (ps_ret (pe_make T.mk_Equation (ok_Equation_init T) (hr.mono (by decide)) rfl T.l_Equation.g T.f_Equation_init.b .nil pass0 (pa_cons (pe_op op_sub (pv 4) (pe_ix ix_list (pe_fld (pv 0) rfl) (pv 1) (fun _ _ => rfl))) (pa_cons (pe_slice sl_list (pe_fld (pv 0) rfl) (po_some (pv 1)) po_none) (pa_cons (pv 3) pa_nil))))))))), ?_⟩)
  · obtain ⟨a, v, i, rfl, _⟩ := h; rfl
  obtain ⟨a, v, i, rfl, hv, fv, hi, hf, k⟩ := h
  obtain ⟨dx, l, t, h1, h2, h3⟩ := hv.ex
  have hl := fv.fine.ints.1
  have ll := lenI_len v.axes
  have sl := strI_len v.axes
  have e1 : (i : Int) + 1 = ((i + 1 : Nat) : Int) := by omega
  -- reaches
  refine ⟨_, rfl, a, T.c_View, dx, _, _, rfl, h1, T.l_View.c, T.n_View.lengths, vF_lengths, _, rfl, _, _, rfl, rfl, _, rfl, l, _, rfl, .inl (.inl h2), fun q hq => ?_⟩
  rw [e1, cut_drop _ _ (by omega)]
  have s1 : Same H (upd H q (.lst (((lenI v.axes).drop (i + 1)).map V.int))) := same_new hq
  have q1 : (upd H q (.lst (((lenI v.axes).drop (i + 1)).map V.int))) q = some (.lst (((lenI v.axes).drop (i + 1)).map V.int)) := upd_same
  generalize upd H q (.lst (((lenI v.axes).drop (i + 1)).map V.int)) = H1 at s1 q1 ⊢
  have dl : ((lenI v.axes).drop (i + 1)).length ≤ 1000 := by rw [List.length_drop]; omega
  refine ⟨q, rfl, ⟨_, .inl (.inl q1)⟩, fun D hD => comp1 (ns := (lenI v.axes).drop (i + 1)) (fun _ => true) (fun z => V.int (z - 1)) (.inl (.inl q1)) (few_line dl) hD (fun z H2 R E' _ _ hR _ => ⟨rfl, yes ⟨_, rfl, _, _, rfl, rfl, hR rfl _ (Same.refl _)⟩⟩) (fun H2 s2 d2 => ?_)⟩
  rw [List.filter_eq_self.mpr (fun _ _ => rfl), mapI (fun z => z - 1)] at d2
  have s12 := s1.trans s2
  have bnd : ∀ z ∈ ((lenI v.axes).drop (i + 1)).map (fun z => z - 1), z.natAbs < 2 ^ 65 := fun z hz => by
    obtain ⟨x, hx, rfl⟩ := List.mem_map.mp hz
    have := fv.len x (List.mem_of_mem_drop hx)
    omega
  have rl : (((lenI v.axes).drop (i + 1)).map fun z => z - 1).length ≤ 1000 := by rw [List.length_map]; exact dl
  clear s1 q1 s2
  -- uppers
  refine ⟨_, rfl, a, T.c_View, dx, _, _, rfl, s12 _ _ h1, T.l_View.c, T.n_View.lengths, vF_lengths, _, rfl, l, _, (i : Int), _, rfl, rfl, .inl (.inl (s12 _ _ h2)), atN (by omega), _, _, rfl, rfl, one_ok, fun l1 hl1 => ?_⟩
  rw [lenI_at hi]
  have s3 := s12.trans (same_new (o := .lst [.int (((v.axes.getD i ⟨0, 0⟩).length : Int) - 2)]) hl1)
  have l3 : (upd H2 l1 (.lst [.int (((v.axes.getD i ⟨0, 0⟩).length : Int) - 2)])) l1 = some (.lst [.int (((v.axes.getD i ⟨0, 0⟩).length : Int) - 2)]) := upd_same
  have d3 := same_new (o := .lst [.int (((v.axes.getD i ⟨0, 0⟩).length : Int) - 2)]) hl1 _ _ d2
  generalize upd H2 l1 (.lst [.int (((v.axes.getD i ⟨0, 0⟩).length : Int) - 2)]) = H3 at s3 l3 d3 ⊢
  refine ⟨_, rfl, D, rfl, ⟨_, .inl (.inl d3)⟩, fun D2 hD2 => comp1 (ns := ((lenI v.axes).drop (i + 1)).map fun z => z - 1) (fun _ => true) (fun z => V.int (2 * z)) (.inl (.inl d3)) (few_line rl) hD2
    (fun z H4 R E' hz _ hR _ => ⟨rfl, yes ⟨_, rfl, _, _, rfl, rfl, wide_mul (a := 64) (b := 65) (by decide) (bnd z hz) (by decide) (by decide) (by decide), hR rfl _ (Same.refl _)⟩⟩) (fun H4 s4 d4 => ?_)⟩
  rw [List.filter_eq_self.mpr (fun _ _ => rfl), mapI (fun z => 2 * z)] at d4
  have s34 := s3.trans s4
  have l4 := s4 _ _ l3
  have r4 := s4 _ _ d3
  refine ⟨l1, D2, _, _, rfl, rfl, l4, d4, ?_, fun u hu => ?_⟩
  · rw [List.length_map, List.length_map, sizeLine_eq]
    show 1 + _ ≤ _
    omega
  have ue : [V.int (((v.axes.getD i ⟨0, 0⟩).length : Int) - 2)] ++ ((((lenI v.axes).drop (i + 1)).map fun z => z - 1).map fun z => 2 * z).map V.int = (upI (eqAt v i).2).map V.int := by
    rw [eqAt_up, List.map_append]; rfl
  rw [ue]
  have s5 := s34.trans (same_new (o := .lst ((upI (eqAt v i).2).map V.int)) hu)
  have u5 : (upd H4 u (.lst ((upI (eqAt v i).2).map V.int))) u = some (.lst ((upI (eqAt v i).2).map V.int)) := upd_same
  have r5 := same_new (o := .lst ((upI (eqAt v i).2).map V.int)) hu _ _ r4
  generalize upd H4 u (.lst ((upI (eqAt v i).2).map V.int)) = H5 at s5 u5 r5 ⊢
  clear s12 s3 l3 d3 s4 d4 s34 l4 r4
  -- shift
  refine ⟨_, rfl, a, T.c_View, dx, _, _, rfl, s5 _ _ h1, T.l_View.c, T.n_View.strides, vF_strides, _, rfl, _, _, rfl, rfl, _, rfl, t, _, rfl, .inl (.inl (s5 _ _ h3)), fun q2 hq2 => ?_⟩
  rw [e1, cut_drop _ _ (by omega)]
  have s6 := s5.trans (same_new (o := .lst (((strI v.axes).drop (i + 1)).map V.int)) hq2)
  have q6 : (upd H5 q2 (.lst (((strI v.axes).drop (i + 1)).map V.int))) q2 = some (.lst (((strI v.axes).drop (i + 1)).map V.int)) := upd_same
  have u6 := same_new (o := .lst (((strI v.axes).drop (i + 1)).map V.int)) hq2 _ _ u5
  have r6 := same_new (o := .lst (((strI v.axes).drop (i + 1)).map V.int)) hq2 _ _ r5
  generalize upd H5 q2 (.lst (((strI v.axes).drop (i + 1)).map V.int)) = H6 at s6 q6 u6 r6 ⊢
  have tl : ((strI v.axes).drop (i + 1)).length ≤ 1000 := by rw [List.length_drop]; omega
  refine ⟨_, rfl, q2, D, _, _, rfl, .inl (.inl q6), .inl (.inl r6), fun D3 hD3 =>
    comp2 (ns := (strI v.axes).drop (i + 1)) (ms := ((lenI v.axes).drop (i + 1)).map fun z => z - 1) (fun x y => V.int (x * y)) (.inl (.inl q6)) (.inl (.inl r6)) (few_line tl) hD3
      (fun x y T1 H7 R E' hxy _ hT hR => ⟨T1, _, rfl, .inl (.inl upd_same), rfl, _, _, rfl, _, _, rfl, rfl, rfl, ?_⟩) (fun H7 s7 d7 => ?_)⟩
  · obtain ⟨j, hx, hy⟩ := hxy
    have bx := fv.strs x (List.mem_of_mem_drop (getZ hx))
    have by_ := bnd y (getZ hy)
    refine yes ⟨_, rfl, _, rfl, _, _, rfl, rfl, wide_mul (a := 64) (b := 65) bx by_ (by decide) (by decide) (by decide), ?_⟩
    exact hR (L2.upd H7 T1 (.tup [.int x, .int y])) (same_new hT)
  rw [zipI] at d7
  have s67 := s6.trans s7
  have u7 := s7 _ _ u6
  have hsh : (List.zipWith (fun x y => x * y) ((strI v.axes).drop (i + 1)) (((lenI v.axes).drop (i + 1)).map fun z => z - 1)).sum - (v.axes.getD i ⟨0, 0⟩).stride = (eqAt v i).1 := eqAt_t.symm
  refine ⟨D3, _, rfl, .inl (.inl d7), ?_⟩
  generalize (List.zipWith (fun x y => x * y) ((strI v.axes).drop (i + 1)) (((lenI v.axes).drop (i + 1)).map fun z => z - 1)).sum = sh at hsh ⊢
  -- Equation(..)
  refine ⟨_, rfl, _, rfl, a, T.c_View, dx, _, _, rfl, s67 _ _ h1, T.l_View.c, T.n_View.strides, vF_strides, _, rfl, t, _, (i : Int), _, rfl, rfl, .inl (.inl (s67 _ _ h3)), atN (by omega), _, _, rfl, rfl, ?_⟩
  rw [strI_at hi]
  refine ⟨_, rfl, a, T.c_View, dx, _, _, rfl, s67 _ _ h1, T.l_View.c, T.n_View.strides, vF_strides, _, rfl, _, rfl, t, _, rfl, .inl (.inl (s67 _ _ h3)), fun q8 hq8 => ?_⟩
  rw [cut_drop _ _ (by omega), ← eqAt_co hi]
  have s8 := s67.trans (same_new (o := .lst ((coI (eqAt v i).2).map V.int)) hq8)
  have q8h : (upd H7 q8 (.lst ((coI (eqAt v i).2).map V.int))) q8 = some (.lst ((coI (eqAt v i).2).map V.int)) := upd_same
  have u8 := same_new (o := .lst ((coI (eqAt v i).2).map V.int)) hq8 _ _ u7
  generalize upd H7 q8 (.lst ((coI (eqAt v i).2).map V.int)) = H8 at s8 q8h u8 ⊢
  refine ⟨_, rfl, ?_⟩
  intro x dy nx nd ne
  have sN : Same H8 (upd (upd H8 dy (.own x)) x (.ins T.c_Equation dy [])) := fun b o e => by
    rw [upd_ne (ne_of_none e nx), upd_ne (ne_of_none e nd)]; exact e
  refine ⟨x, dy, q8, u, _, (eqAt v i).2, rfl, upd_same, .inl (.inl (sN _ _ q8h)), .inl (.inl (sN _ _ u8)), hf, fun H9 hE k9 => ⟨rfl, ?_⟩⟩
  rw [hsh] at hE
  exact k H9 x (fun b o e => k9 b o (sN _ _ (s8 _ _ e)) (ne_of_none (s8 _ _ e) nx)) hE

/-! ### differences -/
def spDiffs (K : PySem.W.Frag) (C : Addr) : Sp := fun vs H Q _ => ∃ (a p : Addr) (v : View) (i : Nat) (x : List Int), vs = [.ref a, .int i, .ref p] ∧ ViewAt C H a v ∧ v.axes.length ≤ 500 ∧ i < v.axes.length ∧ SqL K H p (x.map V.int) ∧ x.length + i = v.axes.length ∧
  ∀ (H' : Hp) (q : Addr), Same H H' → H' q = some (.lst ((List.replicate i 0 ++ Vaviwc.indexDifferences (v.axes.drop i) x).map V.int)) → Q (.ref q) H'
theorem diffs_is (l : List Axis) (r : List Int) : List.zipWith (fun x y => x - y + 1) r (lenI l) = (l.zip r).map fun y => y.2 - ((y.1.length : Int) - 1) := by
  unfold lenI
  induction l generalizing r with
  | nil => cases r <;> rfl
  | cons a l ih =>
    cases r with
    | nil => rfl
    | cons z r =>
      show (z - (a.length : Int) + 1) :: List.zipWith _ r (List.map _ l) = _ :: List.map _ (l.zip r)
      rw [ih]
      congr 1
      show z - (a.length : Int) + 1 = z - ((a.length : Int) - 1)
      omega
theorem ok_represented_differences (T : Top K mg) : FnOk P w K mg base CX0 1 T.f_represented_differences.a T.f_represented_differences.d ["view", "axis", "solution"] (spDiffs K T.c_View) := by
  refine T.f_represented_differences.F.ok sc_represented_differences (fun vs H Q E h => ?_) (fun cdv A outer s H vs Q E hr h => ⟨_, (pss_cons (ps_setLc (i := 3) (own := [("number", 4), ("length", 5)]) (g := gTup K 2 (gCons (gName 4) (gCons (gName 5) gNil))) (by rfl) sc_represented_differences.nd rfl rfl (sw_true rfl rfl rfl (by decide +kernel)) (pi_zip (by rfl) T.b_zip (pa_cons (pe_slice sl_list (pv 2) (po_some pe_int) po_none) (pa_cons (pe_slice sl_list (pe_fld (pv 0) rfl) (po_some (pe_op op_add (pv 1) pe_int)) po_none) pa_nil))) (blkOk_by (own := [("number", 4), ("length", 5)]) (N := N_represented_differences) (sc := defScope s_represented_differences) (by decide +kernel)) (fun _ _ _ _ _ => by exact (pg_tup (by rfl) (pgs_cons (pg_name (i := 4) sc_represented_differences.nd rfl (Or.inl rfl)) (pgs_cons (pg_name (i := 5) sc_represented_differences.nd rfl (Or.inl rfl)) pgs_nil)))) (fun _ _ _ _ _ => by exact pts_nil) (fun _ _ _ _ _ => by exact (pe_op op_add (pe_op op_sub (pv 4) (pv 5)) pe_int)))
    (pss_one (ps_ret (pe_op op_cat (pe_op op_cat (pe_op op_rep (pe_lst (pa_cons pe_int pa_nil)) (pv 1)) (pe_lst (pa_cons (pe_op op_add (pe_ix ix_list (pv 2) pe_int (fun _ _ => rfl)) pe_int) pa_nil))) (pv 3))))), ?_⟩)
  · obtain ⟨a, p, v, i, x, rfl, _⟩ := h; rfl
  obtain ⟨a, p, v, i, x, rfl, hv, hl, hi, hP, hx, k⟩ := h
  obtain ⟨dx, l, t, h1, h2, h3⟩ := hv.ex
  have ll := lenI_len v.axes
  have e1 : (i : Int) + 1 = ((i + 1 : Nat) : Int) := by omega
  have x1 : (1 : Int) = ((1 : Nat) : Int) := rfl
  obtain ⟨z, r, rfl⟩ : ∃ z r, x = z :: r := by
    cases x with
    | nil =>
      have hx : 0 + i = v.axes.length := hx
      omega
    | cons z r => exact ⟨z, r, rfl⟩
  have hr2 : r.length + 1 + i = v.axes.length := hx
  rw [getD_drop hi] at k
  have k : ∀ (H' : Hp) (q : Addr), Same H H' → H' q = some (.lst ((List.replicate i (0 : Int) ++ ((z + 1) :: ((v.axes.drop (i + 1)).zip r).map fun (y : Axis × Int) => y.2 - ((y.1.length : Int) - 1))).map V.int)) → Q (.ref q) H' := k
  rw [← diffs_is] at k
  refine ⟨_, rfl, _, rfl, p, _, rfl, hP, fun q hq => ?_⟩
  have ec : cutV ((z :: r).map V.int) (some 1) none = r.map V.int := cut_drop (z :: r) 1 (by show 1 ≤ r.length + 1; omega)
  rw [ec]
  have s1 : Same H (upd H q (.lst (r.map V.int))) := same_new hq
  have q1 : (upd H q (.lst (r.map V.int))) q = some (.lst (r.map V.int)) := upd_same
  generalize upd H q (.lst (r.map V.int)) = H1 at s1 q1 ⊢
  refine ⟨_, rfl, a, T.c_View, dx, _, _, rfl, s1 _ _ h1, T.l_View.c, T.n_View.lengths, vF_lengths, _, rfl, _, _, rfl, rfl, _, rfl, l, _, rfl, .inl (.inl (s1 _ _ h2)), fun q2 hq2 => ?_⟩
  rw [e1, cut_drop _ _ (by omega)]
  have s2 := s1.trans (same_new (o := .lst (((lenI v.axes).drop (i + 1)).map V.int)) hq2)
  have q2h : (upd H1 q2 (.lst (((lenI v.axes).drop (i + 1)).map V.int))) q2 = some (.lst (((lenI v.axes).drop (i + 1)).map V.int)) := upd_same
  have q12 := same_new (o := .lst (((lenI v.axes).drop (i + 1)).map V.int)) hq2 _ _ q1
  generalize upd H1 q2 (.lst (((lenI v.axes).drop (i + 1)).map V.int)) = H2 at s2 q2h q12 ⊢
  refine ⟨q, q2, _, _, rfl, .inl (.inl q12), .inl (.inl q2h), fun D hD =>
    comp2 (ns := r) (ms := (lenI v.axes).drop (i + 1)) (fun x y => V.int (x - y + 1)) (.inl (.inl q12)) (.inl (.inl q2h)) (few_line (by omega)) hD
      (fun x y T1 H7 R E' hxy _ hT hR => ⟨T1, _, rfl, .inl (.inl upd_same), rfl, _, _, rfl, _, _, rfl, rfl, rfl, yes ⟨_, rfl, _, rfl, _, _, rfl, rfl, _, _, rfl, rfl, hR (L2.upd H7 T1 (.tup [.int x, .int y])) (same_new hT)⟩⟩) (fun H3 s3 d3 => ?_)⟩
  rw [zipI (fun x y => x - y + 1)] at d3
  have ed : (lenI v.axes).drop (i + 1) = lenI (v.axes.drop (i + 1)) := by unfold lenI; rw [List.map_drop]
  rw [ed] at d3
  have s23 := s2.trans s3
  have dl : (List.zipWith (fun x y => x - y + 1) r (lenI (v.axes.drop (i + 1)))).length ≤ 500 := by rw [List.length_zipWith]; omega
  generalize List.zipWith (fun x y => x - y + 1) r (lenI (v.axes.drop (i + 1))) = later at d3 dl k
  refine ⟨one_ok, fun l0 hl0 => ⟨_, rfl, l0, i, _, rfl, rfl, upd_same, by omega, by omega, ?_, fun p2 hp2 => ?_⟩⟩
  · rw [sizeLine_eq]; show 1 * (i : Int).toNat ≤ _; omega
  have s4 := s23.trans ((same_new (o := .lst [.int 0]) hl0).trans (same_new (o := .lst (List.replicate ((i : Int)).toNat [V.int 0]).flatten) hp2))
  have d4 := ((same_new (o := .lst [.int 0]) hl0).trans (same_new (o := .lst (List.replicate ((i : Int)).toNat [V.int 0]).flatten) hp2)) _ _ d3
  have p4 : (upd (upd H3 l0 (.lst [.int 0])) p2 (.lst (List.replicate ((i : Int)).toNat [V.int 0]).flatten)) p2 = some (.lst ((List.replicate i (0 : Int)).map V.int)) := by
    rw [upd_same, flat_rep, Int.toNat_natCast, List.map_replicate]
  generalize upd (upd H3 l0 (.lst [.int 0])) p2 (.lst (List.replicate ((i : Int)).toNat [V.int 0]).flatten) = H4 at s4 d4 p4 ⊢
  refine ⟨_, rfl, p, _, (0 : Int), V.int z, rfl, rfl, s4.seq hP, at_of rfl rfl, _, _, rfl, rfl, one_ok, fun l5 hl5 => ?_⟩
  have s5 := s4.trans (same_new (o := .lst [.int (z + 1)]) hl5)
  have d5 := same_new (o := .lst [.int (z + 1)]) hl5 _ _ d4
  have p5 := same_new (o := .lst [.int (z + 1)]) hl5 _ _ p4
  have l5h : (upd H4 l5 (.lst [.int (z + 1)])) l5 = some (.lst [.int (z + 1)]) := upd_same
  generalize upd H4 l5 (.lst [.int (z + 1)]) = H5 at s5 d5 p5 l5h ⊢
  refine ⟨p2, l5, _, _, rfl, rfl, p5, l5h, ?_, fun q6 hq6 => ?_⟩
  · rw [List.length_map, List.length_replicate, sizeLine_eq]; show i + 1 ≤ _; omega
  refine ⟨_, rfl, q6, D, _, _, rfl, rfl, upd_same, same_new hq6 _ _ d5, ?_, fun q7 hq7 => ?_⟩
  · rw [List.length_append, List.length_map, List.length_replicate, List.length_map, sizeLine_eq]
    show i + 1 + _ ≤ _
    omega
  refine k _ q7 ((s5.trans (same_new hq6)).trans (same_new hq7)) ?_
  rw [upd_same, List.map_append, List.map_cons, List.append_assoc]; rfl
end Ov
end

section
set_option Elab.async false
set_option linter.all false
set_option maxRecDepth 100000
set_option maxHeartbeats 8000000
/-! boxes -/
namespace Ov
open PySem PySem.Spec PyProof.Rows L2
open Vaviwc (Box Variable freeVariables isFree minSum maxSum isOutOfRange violatesDivisibility twoVariableSolution)
variable {P : Program} {w : World} {K : PySem.W.Frag} {mg : Str → Option Value} {base : Heap}

def bF (e f : Addr) (lo up rest : Int) : List (Str × V) := [("equation", .ref e), ("fixed", .ref f), ("lower", .int lo), ("upper", .int up), ("rest", .int rest)]
theorem Same.seqT {K : PySem.W.Frag} {H H' : Hp} {a : Addr} {xs : List V} (e : Same H H') (h : SqT K H a xs) : SqT K H' a xs := by
  rcases h with h | h
  · rcases h with h | ⟨o, h⟩
    · exact .inl (.inl (e _ _ h))
    · exact .inl (.inr ⟨o, e _ _ h⟩)
  · exact .inr h
/-- bounds of the right-hand side -/
def SmallT (t : Int) : Prop := t.natAbs < 2 ^ 70
structure BoxAt (K : PySem.W.Frag) (C E e : Addr) (H : Hp) (a : Addr) (t : Int) (b : Box) (fx : List Int) (lo up : Int) : Prop where
  ex : ∃ dx f, H a = some (.ins C dx (bF e f lo up (restOf t b fx))) ∧ EqAt E H e t b ∧ SqT K H f (fx.map V.int)
  small : ∀ x ∈ fx, x.natAbs < 2 ^ 64
  fine : FineB b
  st : SmallT t
  at_ : At b fx lo up
theorem BoxAt.same {C E e : Addr} {H H' : Hp} {a : Addr} {t : Int} {b : Box} {fx : List Int} {lo up : Int} (h : BoxAt K C E e H a t b fx lo up) (s : Same H H') : BoxAt K C E e H' a t b fx lo up := by
  obtain ⟨dx, f, h1, h2, h3⟩ := h.ex
  exact ⟨⟨dx, f, s _ _ h1, h2.same s, Same.seqT s h3⟩, h.small, h.fine, h.st, h.at_⟩
/-- the box B of the equation t, b at a -/
def BoxIs (K : PySem.W.Frag) (C E e : Addr) (H : Hp) (a : Addr) (t : Int) (b B : Box) : Prop := ∃ fx lo up, BoxAt K C E e H a t b fx lo up ∧ B = narrow b fx lo up
theorem BoxIs.same {C E e : Addr} {H H' : Hp} {a : Addr} {t : Int} {b B : Box} (h : BoxIs K C E e H a t b B) (s : Same H H') : BoxIs K C E e H' a t b B := by
  obtain ⟨fx, lo, up, h1, h2⟩ := h
  exact ⟨fx, lo, up, h1.same s, h2⟩
theorem BoxAt.bounds {C E e : Addr} {H : Hp} {a : Addr} {t : Int} {b : Box} {fx : List Int} {lo up : Int} (h : BoxAt K C E e H a t b fx lo up) : 0 ≤ lo ∧ lo < 2 ^ 64 ∧ 0 ≤ up ∧ up < 2 ^ 64 := by
  rcases Nat.lt_or_eq_of_le h.at_.len with q | q
  · have m := h.at_.more q
    have e : (freeVariables b).drop fx.length = (freeVariables b)[fx.length] :: (freeVariables b).drop (fx.length + 1) := List.drop_eq_getElem_cons q
    rw [e] at m
    have := h.fine.up _ (free_mem (List.getElem_mem q)).1
    have m3 : up ≤ (freeVariables b)[fx.length].upper := m.2.2
    omega
  · have m := h.at_.all q
    omega
theorem BoxAt.rest_small {C E e : Addr} {H : Hp} {a : Addr} {t : Int} {b : Box} {fx : List Int} {lo up : Int} (h : BoxAt K C E e H a t b fx lo up) : (restOf t b fx).natAbs < 2 ^ 200 := by
  have h1 := fixed_small (freeVariables b) fx (fun v hv => by have := h.fine.co v (free_mem hv).1; omega) h.small
  have h2 : fx.length ≤ 100 := by have := h.at_.len; have := h.fine.free.len; omega
  have h3 : t.natAbs < 2 ^ 70 := h.st
  unfold restOf
  omega

/-! ### __init__ -/
def spBoxInit (C : Addr) : Sp := fun vs H Q _ => ∃ (p dx e f : Addr) (lo up r : Int), vs = [.ref p, .ref e, .ref f, .int lo, .int up, .int r] ∧ H p = some (.ins C dx []) ∧
  ∀ H' : Hp, H' p = some (.ins C dx (bF e f lo up r)) → Keep p H H' → Q .non H'
theorem ok_Box_init (T : Top K mg) : FnOk P w K mg base CX0 1 T.f_Box_init.a T.f_Box_init.d ["self", "equation", "fixed", "lower", "upper", "rest"] (spBoxInit T.c_Box) := by
  refine T.f_Box_init.F.ok sc_Box_init (fun vs H Q E h => ?_) (fun cdv A outer s H vs Q E hr h => ⟨_, (pss_cons (ps_fld (pv 0) (pv 1) rfl)
    (pss_cons (ps_fld (pv 0) (pv 2) rfl)
    (pss_cons (ps_fld (pv 0) (pv 3) rfl)
    (pss_cons (ps_fld (pv 0) (pv 4) rfl)
    (pss_one (ps_fld (pv 0) (pv 5) rfl)))))), ?_⟩)
  · obtain ⟨p, dx, e, f, lo, up, r, rfl, _⟩ := h; rfl
  obtain ⟨p, dx, e, f, lo, up, r, rfl, hp, k⟩ := h
  refine ⟨_, rfl, into_fld 0 rfl hp T.l_Box.c T.n_Box.equation (few (n := 0) rfl (by decide)) (fun H1 p1 k1 => ?_)⟩
  refine ⟨_, rfl, into_fld 0 rfl p1 T.l_Box.c T.n_Box.fixed (few (n := 1) rfl (by decide)) (fun H2 p2 k2 => ?_)⟩
  refine ⟨_, rfl, into_fld 0 rfl p2 T.l_Box.c T.n_Box.lower (few (n := 2) rfl (by decide)) (fun H3 p3 k3 => ?_)⟩
  refine ⟨_, rfl, into_fld 0 rfl p3 T.l_Box.c T.n_Box.upper (few (n := 3) rfl (by decide)) (fun H4 p4 k4 => ?_)⟩
  refine ⟨_, rfl, into_fld 0 rfl p4 T.l_Box.c T.n_Box.rest (few (n := 4) rfl (by decide)) (fun H5 p5 k5 => ?_)⟩
  exact k H5 p5 ((((k1.trans k2).trans k3).trans k4).trans k5)

/-! ### free_count -/
def spBox (K : PySem.W.Frag) (C E : Addr) (r : Int → Box → Box → V) : Sp := fun vs H Q _ => ∃ (a e : Addr) (t : Int) (b B : Box), vs = [.ref a] ∧ BoxIs K C E e H a t b B ∧ Q (r t b B) H
theorem ok_Box_free_count (T : Top K mg) : FnOk P w K mg base CX0 1 T.f_Box_free_count.a T.f_Box_free_count.d ["self"] (spBox K T.c_Box T.c_Equation fun _ _ B => .int (freeVariables B).length) := by
  refine T.f_Box_free_count.F.ok sc_Box_free_count (fun vs H Q E h => ?_) (fun cdv A outer s H vs Q E hr h => ⟨_, (pss_one (ps_ret (pe_op op_sub (pe_callB call_len_seq (by rfl) T.b_len PySem.boot_len (pa_cons (pe_fld (pe_fld (pv 0) rfl) rfl) pa_nil)) (pe_callB call_len_seq (by rfl) T.b_len PySem.boot_len (pa_cons (pe_fld (pv 0) rfl) pa_nil))))), ?_⟩)
  · obtain ⟨a, e, t, b, B, rfl, _⟩ := h; rfl
  obtain ⟨a, e, t, b, B, rfl, ⟨fx, lo, up, hB, rfl⟩, k⟩ := h
  obtain ⟨dx, f, h1, hE, hT⟩ := hB.ex
  obtain ⟨dy, pl, c, u, lt, gt, dv, pm, pi, g1, hL, hP⟩ := hE.ex
  refine ⟨_, rfl, a, T.c_Box, dx, _, _, rfl, h1, T.l_Box.c, T.n_Box.equation, rfl, e, T.c_Equation, dy, _, _, rfl, g1, T.l_Equation.c, T.n_Equation.places, rfl, pl, _, rfl, .inl (.inl (.inl hL.pl)), ?_⟩
  refine ⟨_, rfl, a, T.c_Box, dx, _, _, rfl, h1, T.l_Box.c, T.n_Box.fixed, rfl, f, _, rfl, .inr hT, _, _, rfl, rfl, ?_⟩
  have := count_is hB.at_
  have hl := hB.at_.len
  have e2 : (((freeIdx b).map fun (i : Nat) => V.int (i : Int)).length : Int) - ((fx.map V.int).length : Int) = ((freeVariables (narrow b fx lo up)).length : Int) := by
    rw [List.length_map, List.length_map, freeIdx_len, this]; omega
  show Q (.int _) H
  rw [e2]; exact k

/-! ### fails_range -/
theorem ok_Box_fails_range (T : Top K mg) : FnOk P w K mg base CX0 1 T.f_Box_fails_range.a T.f_Box_fails_range.d ["self"] (spBox K T.c_Box T.c_Equation fun t _ B => .bl (isOutOfRange t B)) := by
  refine T.f_Box_fails_range.F.ok sc_Box_fails_range (fun vs H Q E h => ?_) (fun cdv A outer s H vs Q E hr h => ⟨_, (pss_cons (ps_set (i := 1) sc_Box_fails_range.nd rfl (Or.inl rfl) (pe_fld (pv 0) rfl))
    (pss_cons (ps_set (i := 2) sc_Box_fails_range.nd rfl (Or.inl rfl) (pe_callB call_len_seq (by rfl) T.b_len PySem.boot_len (pa_cons (pe_fld (pv 0) rfl) pa_nil)))
    (pss_cons (ps_set (i := 3) sc_Box_fails_range.nd rfl (Or.inl rfl) (pe_ix ix_list (pe_fld (pv 1) rfl) (pv 2) (fun _ _ => rfl)))
    (pss_cons (ps_set (i := 4) sc_Box_fails_range.nd rfl (Or.inl rfl) (pe_op op_mulW (pv 3) (pe_fld (pv 0) rfl)))
    (pss_cons (ps_set (i := 5) sc_Box_fails_range.nd rfl (Or.inl rfl) (pe_op op_mulW (pv 3) (pe_fld (pv 0) rfl)))
    (pss_cons (ps_set (i := 6) sc_Box_fails_range.nd rfl (Or.inl rfl) (pe_op op_add (pe_callB (call_min2 rfl) (by rfl) T.b_min (by decide +kernel) (pa_cons (pv 4) (pa_cons (pv 5) pa_nil))) (pe_ix ix_list (pe_fld (pv 1) rfl) (pe_op op_add (pv 2) pe_int) (fun _ _ => rfl))))
    (pss_cons (ps_set (i := 7) sc_Box_fails_range.nd rfl (Or.inl rfl) (pe_op op_add (pe_callB (call_max2 rfl) (by rfl) T.b_max (by decide +kernel) (pa_cons (pv 4) (pa_cons (pv 5) pa_nil))) (pe_ix ix_list (pe_fld (pv 1) rfl) (pe_op op_add (pv 2) pe_int) (fun _ _ => rfl))))
    (pss_one (ps_ret (pe_or (pe_fld (pv 1) rfl) (pe_or (pe_cmpR op_lt (pe_fld (pv 0) rfl) (pv 6) (nomark _)) (pe_one (pe_cmpR op_gt (pe_fld (pv 0) rfl) (pv 7) (nomark _)))))))))))))), ?_⟩)
  · obtain ⟨a, e, t, b, B, rfl, _⟩ := h; rfl
  obtain ⟨a, e, t, b, B, rfl, ⟨fx, lo, up, hB, rfl⟩, k⟩ := h
  obtain ⟨dx, f, h1, hE, hT⟩ := hB.ex
  obtain ⟨dy, pl, c, u, lt, gt, dv, pm, pi, g1, hL, hP⟩ := hE.ex
  have hl := hB.at_.len
  have hbd := hB.bounds
  have ch := co_head hl
  have csm : ((coI (freeVariables b) ++ [0]).getD fx.length 0).natAbs < 2 ^ 64 := by
    have := (ints_small hB.fine.free).1
    by_cases q : fx.length < (coI (freeVariables b) ++ [0]).length
    · rw [List.getD_eq_getElem?_getD, List.getElem?_eq_getElem q]
      exact this _ (List.getElem_mem q)
    · rw [List.getD_eq_getElem?_getD, List.getElem?_eq_none (by omega)]; decide
  refine ⟨_, rfl, a, T.c_Box, dx, _, _, rfl, h1, T.l_Box.c, T.n_Box.equation, rfl, ?_⟩
  refine ⟨_, rfl, a, T.c_Box, dx, _, _, rfl, h1, T.l_Box.c, T.n_Box.fixed, rfl, f, _, rfl, .inr hT, ?_⟩
  rw [List.length_map]
  refine ⟨_, rfl, e, T.c_Equation, dy, _, _, rfl, g1, T.l_Equation.c, T.n_Equation.coefficients, rfl, _, rfl, c, _, _, _, rfl, rfl, .inl (.inl hL.c), atN (by rw [List.length_append, len_co]; show fx.length < _ + 1; omega), ?_⟩
  refine ⟨_, rfl, _, rfl, a, T.c_Box, dx, _, _, rfl, h1, T.l_Box.c, T.n_Box.lower, rfl, _, _, rfl, rfl, wide_mul (a := 64) (b := 64) csm (by omega) (by decide) (by decide) (by decide), ?_⟩
  refine ⟨_, rfl, _, rfl, a, T.c_Box, dx, _, _, rfl, h1, T.l_Box.c, T.n_Box.upper, rfl, _, _, rfl, rfl, wide_mul (a := 64) (b := 64) csm (by omega) (by decide) (by decide) (by decide), ?_⟩
  refine ⟨_, rfl, _, rfl, _, _, rfl, _, rfl, e, T.c_Equation, dy, _, _, rfl, g1, T.l_Equation.c, T.n_Equation.least_tails, rfl, _, rfl, _, _, rfl, rfl, lt, _, ((fx.length + 1 : Nat) : Int), _, rfl, rfl, .inl (.inl hL.lt), atF (by omega), _, _, rfl, rfl, ?_⟩
  refine ⟨_, rfl, _, rfl, _, _, rfl, _, rfl, e, T.c_Equation, dy, _, _, rfl, g1, T.l_Equation.c, T.n_Equation.greatest_tails, rfl, _, rfl, _, _, rfl, rfl, gt, _, ((fx.length + 1 : Nat) : Int), _, rfl, rfl, .inl (.inl hL.gt), atF (by omega), _, _, rfl, rfl, ?_⟩
  have k : Q (.bl (isOutOfRange t (narrow b fx lo up))) H := k
  have R := range_is t hB.fine.low hB.at_
  rw [← ch] at R
  generalize (coI (freeVariables b) ++ [0]).getD fx.length 0 = co at R ⊢
  have emin : (if co * up < co * lo then co * up else co * lo) = min (co * lo) (co * up) := by split <;> omega
  have emax : (if co * up > co * lo then co * up else co * lo) = max (co * lo) (co * up) := by split <;> omega
  have er : t - fixedSum (freeVariables b) fx = restOf t b fx := rfl
  rw [er, ← emin, ← emax] at R
  refine ⟨_, rfl, e, T.c_Equation, dy, _, _, rfl, g1, T.l_Equation.c, T.n_Equation.lacks_values, rfl, _, rfl, iteB (fun q => ?_) (fun q => ?_)⟩
  · rw [q, Bool.true_or] at R
    rw [R] at k; exact k
  · rw [q, Bool.false_or] at R
    refine ⟨_, rfl, a, T.c_Box, dx, _, _, rfl, h1, T.l_Box.c, T.n_Box.rest, rfl, _, rfl, _, _, rfl, rfl, _, rfl, iteB (fun q2 => ?_) (fun q2 => ?_)⟩
    · rw [q2, Bool.true_or] at R
      rw [R] at k; exact k
    · rw [q2, Bool.false_or] at R
      rw [R] at k
      exact ⟨_, rfl, a, T.c_Box, dx, _, _, rfl, h1, T.l_Box.c, T.n_Box.rest, rfl, _, rfl, _, _, rfl, rfl, k⟩

/-! ### fails_divisibility -/
theorem ok_Box_fails_divisibility (T : Top K mg) : FnOk P w K mg base CX0 1 T.f_Box_fails_divisibility.a T.f_Box_fails_divisibility.d ["self"] (spBox K T.c_Box T.c_Equation fun t _ B => .bl (violatesDivisibility t B)) := by
  refine T.f_Box_fails_divisibility.F.ok sc_Box_fails_divisibility (fun vs H Q E h => ?_) (fun cdv A outer s H vs Q E hr h => ⟨_, (pss_cons (ps_set (i := 1) sc_Box_fails_divisibility.nd rfl (Or.inl rfl) (pe_ix ix_list (pe_fld (pe_fld (pv 0) rfl) rfl) (pe_callB call_len_seq (by rfl) T.b_len PySem.boot_len (pa_cons (pe_fld (pv 0) rfl) pa_nil)) (fun _ _ => rfl)))
    (pss_cons (ps_if (pt_cmpR op_eq (pv 1) pe_int (nomark _)) (pss_one (ps_ret (pe_cmpR op_ne (pe_fld (pv 0) rfl) pe_int (nomark _)))) pss_nil)
    (pss_one (ps_ret (pe_cmpR op_ne (pe_op op_modN (pe_fld (pv 0) rfl) (pv 1)) pe_int (nomark _)))))), ?_⟩)
  · obtain ⟨a, e, t, b, B, rfl, _⟩ := h; rfl
  obtain ⟨a, e, t, b, B, rfl, ⟨fx, lo, up, hB, rfl⟩, k⟩ := h
  obtain ⟨dx, f, h1, hE, hT⟩ := hB.ex
  obtain ⟨dy, pl, c, u, lt, gt, dv, pm, pi, g1, hL, hP⟩ := hE.ex
  have hl := hB.at_.len
  have D := div_is t hB.fine.low hB.at_
  have er : t - fixedSum (freeVariables b) fx = restOf t b fx := rfl
  rw [er] at D
  refine ⟨_, rfl, a, T.c_Box, dx, _, _, rfl, h1, T.l_Box.c, T.n_Box.equation, rfl, e, T.c_Equation, dy, _, _, rfl, g1, T.l_Equation.c, T.n_Equation.divisors, rfl, _, rfl, a, T.c_Box, dx, _, _, rfl, h1, T.l_Box.c, T.n_Box.fixed, rfl, f, _, rfl, .inr hT, ?_⟩
  rw [List.length_map]
  refine ⟨dv, _, _, _, rfl, rfl, .inl (.inl hL.dv), atF (by omega), ?_⟩
  refine ⟨_, rfl, rfl, _, rfl, iteEq (fun q => ?_) (fun q => ?_)⟩
  · refine ⟨_, rfl, a, T.c_Box, dx, _, _, rfl, h1, T.l_Box.c, T.n_Box.rest, rfl, rfl, ?_⟩
    have e1 : (!decide (V.int (restOf t b fx) = V.int 0)) = decide (restOf t b fx % (coGcd ((freeVariables b).drop fx.length) : Int) ≠ 0) := by
      rw [q, Int.emod_zero]; simp
    rw [e1, ← D]; exact k
  · refine ⟨_, rfl, a, T.c_Box, dx, _, _, rfl, h1, T.l_Box.c, T.n_Box.rest, rfl, _, rfl, _, _, rfl, rfl, q, rfl, ?_⟩
    have e1 : (!decide (V.int ((restOf t b fx).fmod (coGcd ((freeVariables b).drop fx.length) : Int)) = V.int 0)) = decide (restOf t b fx % (coGcd ((freeVariables b).drop fx.length) : Int) ≠ 0) := by
      rw [Int.fmod_eq_emod_of_nonneg _ (by omega)]; simp
    show Q (.bl (!decide (V.int ((restOf t b fx).fmod (coGcd ((freeVariables b).drop fx.length) : Int)) = V.int 0))) H
    rw [e1, ← D]; exact k
end Ov
end

section
set_option Elab.async false
set_option linter.all false
set_option maxRecDepth 100000
set_option maxHeartbeats 8000000
/-! boxes: made and cut -/
namespace Ov
open PySem PySem.Spec PyProof.Rows L2
open Vaviwc (Box Variable freeVariables isFree minSum maxSum isOutOfRange violatesDivisibility twoVariableSolution bisect)
variable {P : Program} {w : World} {K : PySem.W.Frag} {mg : Str → Option Value} {base : Heap}

theorem at_any {b : Box} {fx : List Int} (h0 : Low0 b) (hl : fx.length ≤ (freeVariables b).length) : At b fx 0 (headUp ((freeVariables b).drop fx.length)) := by
  refine ⟨hl, fun q => ⟨Int.le_refl 0, drop_up h0 q, Int.le_refl _⟩, fun q => ?_⟩
  rw [q, List.drop_length]; exact ⟨rfl, rfl⟩
theorem headUp_nat {b : Box} {k : Nat} (h0 : Low0 b) : 0 ≤ headUp ((freeVariables b).drop k) := by
  by_cases q : k < (freeVariables b).length
  · have := drop_up h0 q; omega
  · rw [List.drop_eq_nil_of_le (by omega)]; exact Int.le_refl 0
theorem new_box {C : Addr} {H : Hp} {x dx : Addr} (nx : H x = none) (nd : H dx = none) : Same H (upd (upd H dx (.own x)) x (.ins C dx [])) := fun b o e => by
  rw [upd_ne (ne_of_none e nx), upd_ne (ne_of_none e nd)]; exact e
theorem keep_same {H H1 H2 : Hp} {x : Addr} (s : Same H H1) (nx : H x = none) (k : Keep x H1 H2) : Same H H2 := fun b o e => k b o (s b o e) (ne_of_none e nx)

def spAfter (K : PySem.W.Frag) (C E : Addr) : Sp := fun vs H Q _ => ∃ (e f : Addr) (r t : Int) (b : Box) (fx : List Int), vs = [.ref e, .ref f, .int r] ∧ EqAt E H e t b ∧ SqT K H f (fx.map V.int) ∧
  fx.length ≤ (freeVariables b).length ∧ r = restOf t b fx ∧ FineB b ∧ SmallT t ∧ (∀ x ∈ fx, x.natAbs < 2 ^ 64) ∧
  ∀ (H' : Hp) (p : Addr), Same H H' → BoxAt K C E e H' p t b fx 0 (headUp ((freeVariables b).drop fx.length)) → Q (.ref p) H'
theorem ok_box_after (T : Top K mg) : FnOk P w K mg base CX0 3 T.f_box_after.a T.f_box_after.d ["equation", "fixed", "rest"] (spAfter K T.c_Box T.c_Equation) := by
  refine T.f_box_after.F.ok sc_box_after (fun vs H Q E h => ?_) (fun cdv A outer s H vs Q E hr h => ⟨_, (pss_one (ps_ret (pe_make T.mk_Box (ok_Box_init T) (hr.mono (by decide)) rfl T.l_Box.g T.f_Box_init.b .nil pass0 (pa_cons (pv 0) (pa_cons (pv 1) (pa_cons pe_int (pa_cons (pe_ix ix_list (pe_fld (pv 0) rfl) (pe_callB call_len_seq (by rfl) T.b_len PySem.boot_len (pa_cons (pv 1) pa_nil)) (fun _ _ => rfl)) (pa_cons (pv 2) pa_nil)))))))), ?_⟩)
  · obtain ⟨e, f, r, t, b, fx, rfl, _⟩ := h; rfl
  obtain ⟨e, f, r, t, b, fx, rfl, hE, hT, hl, rfl, hf, hst, hs, k⟩ := h
  obtain ⟨dy, pl, c, u, lt, gt, dv, pm, pi, g1, hL, hP⟩ := hE.ex
  refine ⟨_, rfl, _, rfl, _, rfl, e, T.c_Equation, dy, _, _, rfl, g1, T.l_Equation.c, T.n_Equation.uppers, rfl, _, rfl, f, _, rfl, .inr hT, ?_⟩
  rw [List.length_map]
  refine ⟨u, _, _, _, rfl, rfl, .inl (.inl hL.u), atN (by rw [List.length_append, len_up]; show fx.length < _ + 1; omega), _, rfl, ?_⟩
  rw [up_head hl]
  intro x dx nx nd ne
  refine ⟨x, dx, e, f, _, _, _, rfl, upd_same, fun H' h' k' => ⟨rfl, ?_⟩⟩
  have s1 := keep_same (new_box nx nd) nx k'
  exact k H' x s1 ⟨⟨dx, f, h', hE.same s1, Same.seqT s1 hT⟩, hs, hf, hst, at_any hf.low hl⟩

def spWholeBox (K : PySem.W.Frag) (C E : Addr) : Sp := fun vs H Q _ => ∃ (e : Addr) (t : Int) (b : Box), vs = [.ref e] ∧ EqAt E H e t b ∧ FineB b ∧ SmallT t ∧ ∀ (H' : Hp) (p : Addr), Same H H' → BoxIs K C E e H' p t b b → Q (.ref p) H'
theorem rest_nil (t : Int) (b : Box) : restOf t b [] = t := by
  unfold restOf
  have : fixedSum (freeVariables b) [] = 0 := by cases freeVariables b <;> rfl
  omega
theorem ok_whole_box (T : Top K mg) : FnOk P w K mg base CX0 4 T.f_whole_box.a T.f_whole_box.d ["equation"] (spWholeBox K T.c_Box T.c_Equation) := by
  refine T.f_whole_box.F.ok sc_whole_box (fun vs H Q E h => ?_) (fun cdv A outer s H vs Q E hr h => ⟨_, (pss_one (ps_ret (pe_call (ok_box_after T) (hr.mono (by decide)) rfl T.g_box_after T.f_box_after.F.kp T.f_box_after.b .nil pass0 (pa_cons (pv 0) (pa_cons (pe_tup pa_nil) (pa_cons (pe_fld (pv 0) rfl) pa_nil)))))), ?_⟩)
  · obtain ⟨e, t, b, rfl, _⟩ := h; rfl
  obtain ⟨e, t, b, rfl, hE, hf, hst, k⟩ := h
  obtain ⟨dy, pl, c, u, lt, gt, dv, pm, pi, g1, hL, hP⟩ := hE.ex
  refine ⟨_, rfl, Nat.zero_le _, fun q hq => ?_⟩
  have s1 : Same H (upd H q (.tup [])) := same_new hq
  refine ⟨_, rfl, e, T.c_Equation, dy, _, _, rfl, s1 _ _ g1, T.l_Equation.c, T.n_Equation.target, rfl, e, q, _, t, b, [], rfl, hE.same s1, .inl (.inl upd_same), Nat.zero_le _, (rest_nil t b).symm, hf, hst, (fun x hx => nomatch hx), fun H' p s2 hB => ?_⟩
  refine k H' p (s1.trans s2) ⟨[], 0, _, hB, ?_⟩
  exact (narrow_whole b hf.low).symm

def spNarrowed (K : PySem.W.Frag) (C E : Addr) : Sp := fun vs H Q _ => ∃ (a e : Addr) (l2 u2 t : Int) (b : Box) (fx : List Int) (lo up : Int), vs = [.ref a, .int l2, .int u2] ∧ BoxAt K C E e H a t b fx lo up ∧ fx.length < (freeVariables b).length ∧ lo ≤ l2 ∧ l2 ≤ u2 ∧ u2 ≤ up ∧
  ∀ (H' : Hp) (p : Addr), Same H H' → BoxIs K C E e H' p t b (narrow b fx l2 u2) → Q (.ref p) H'
theorem ok_narrowed (T : Top K mg) : FnOk P w K mg base CX0 4 T.f_narrowed.a T.f_narrowed.d ["box", "lower", "upper"] (spNarrowed K T.c_Box T.c_Equation) := by
  refine T.f_narrowed.F.ok sc_narrowed (fun vs H Q E h => ?_) (fun cdv A outer s H vs Q E hr h => ⟨_, (pss_cons (ps_if (pt_cmpR op_lt (pv 1) (pv 2) (nomark _)) (pss_one (ps_ret (pe_make T.mk_Box (ok_Box_init T) (hr.mono (by decide)) rfl T.l_Box.g T.f_Box_init.b .nil pass0 (pa_cons (pe_fld (pv 0) rfl) (pa_cons (pe_fld (pv 0) rfl) (pa_cons (pv 1) (pa_cons (pv 2) (pa_cons (pe_fld (pv 0) rfl) pa_nil)))))))) pss_nil)
    (pss_cons (ps_set (i := 3) sc_narrowed.nd rfl (Or.inl rfl) (pe_ix ix_list (pe_fld (pe_fld (pv 0) rfl) rfl) (pe_callB call_len_seq (by rfl) T.b_len PySem.boot_len (pa_cons (pe_fld (pv 0) rfl) pa_nil)) (fun _ _ => rfl)))
    (pss_one (ps_ret (pe_call (ok_box_after T) (hr.mono (by decide)) rfl T.g_box_after T.f_box_after.F.kp T.f_box_after.b .nil pass0 (pa_cons (pe_fld (pv 0) rfl) (pa_cons (pe_op op_catA (pe_fld (pv 0) rfl) (pe_tup (pa_cons (pv 1) pa_nil))) (pa_cons (pe_op op_sub (pe_fld (pv 0) rfl) (pe_op op_mulW (pv 3) (pv 1))) pa_nil)))))))), ?_⟩)
  · obtain ⟨a, e, l2, u2, t, b, fx, lo, up, rfl, _⟩ := h; rfl
  obtain ⟨a, e, l2, u2, t, b, fx, lo, up, rfl, hB, hl, g1, g2, g3, k⟩ := h
  obtain ⟨dx, f, h1, hE, hT⟩ := hB.ex
  have hbd := hB.bounds
  refine ⟨_, rfl, _, rfl, _, _, rfl, rfl, _, rfl, iteD (fun q => ?_) (fun q => ?_)⟩
  · refine ⟨_, rfl, a, T.c_Box, dx, _, _, rfl, h1, T.l_Box.c, T.n_Box.equation, rfl, _, rfl, a, T.c_Box, dx, _, _, rfl, h1, T.l_Box.c, T.n_Box.fixed, rfl, _, rfl, _, rfl, _, rfl, a, T.c_Box, dx, _, _, rfl, h1, T.l_Box.c, T.n_Box.rest, rfl, ?_⟩
    intro x dx nx nd ne
    refine ⟨x, dx, e, f, _, _, _, rfl, upd_same, fun H' h' k' => ⟨rfl, ?_⟩⟩
    have s1 := keep_same (new_box nx nd) nx k'
    exact k H' x s1 ⟨fx, l2, u2, ⟨⟨dx, f, h', hE.same s1, Same.seqT s1 hT⟩, hB.small, hB.fine, hB.st, at_half hB.fine.low hB.at_ hl g1 q g3⟩, rfl⟩
  · have e2 : l2 = u2 := by omega
    subst e2
    obtain ⟨dy, pl, c, u, lt, gt, dv, pm, pi, y1, hL, hP⟩ := hE.ex
    refine ⟨_, rfl, a, T.c_Box, dx, _, _, rfl, h1, T.l_Box.c, T.n_Box.equation, rfl, e, T.c_Equation, dy, _, _, rfl, y1, T.l_Equation.c, T.n_Equation.coefficients, rfl, _, rfl, a, T.c_Box, dx, _, _, rfl, h1, T.l_Box.c, T.n_Box.fixed, rfl, f, _, rfl, .inr hT, ?_⟩
    rw [List.length_map]
    refine ⟨c, _, _, _, rfl, rfl, .inl (.inl hL.c), atN (by rw [List.length_append, len_co]; show fx.length < _ + 1; omega), ?_⟩
    have csm : ((coI (freeVariables b) ++ [0]).getD fx.length 0).natAbs < 2 ^ 64 := by
      have := (ints_small hB.fine.free).1
      have q : fx.length < (coI (freeVariables b) ++ [0]).length := by rw [List.length_append, len_co]; show fx.length < _ + 1; omega
      rw [List.getD_eq_getElem?_getD, List.getElem?_eq_getElem q]
      exact this _ (List.getElem_mem q)
    have hlen : fx.length ≤ 100 := by have := hB.fine.free.len; omega
    refine ⟨_, rfl, a, T.c_Box, dx, _, _, rfl, h1, T.l_Box.c, T.n_Box.equation, rfl, _, rfl, a, T.c_Box, dx, _, _, rfl, h1, T.l_Box.c, T.n_Box.fixed, rfl, _, rfl, one_ok, fun T1 hT1 => ?_⟩
    have s1 : Same H (upd H T1 (.tup [.int l2])) := same_new hT1
    -- behind the sum of the tuples
    have go : ∀ (q : Addr) (H2 : Hp), Same H H2 → SqT K H2 q ((fx ++ [l2]).map V.int) → spAfter K T.c_Box T.c_Equation [V.ref e, V.ref q, V.int (restOf t b fx - (coI (freeVariables b) ++ [0]).getD fx.length 0 * l2)] H2 Q E0 := by
      intro q H2 s2 hq
      refine ⟨e, q, _, t, b, fx ++ [l2], rfl, hE.same s2, hq, by rw [List.length_append]; exact hl, ?_, hB.fine, hB.st, fun z hz => ?_, fun H' p s3 hB' => ?_⟩
      · unfold restOf
        rw [fixed_snoc _ _ _ hl, co_head (by omega)]; omega
      · rcases List.mem_append.mp hz with z1 | z1
        · exact hB.small z z1
        · rw [List.mem_singleton.mp z1]; omega
      · refine k H' p (s2.trans s3) ⟨fx ++ [l2], 0, _, hB', ?_⟩
        have e3 : (fx ++ [l2]).length = fx.length + 1 := by simp
        rw [e3]
        exact narrow_fix l2 b fx hB.fine.low hl
    refine ⟨f, T1, _, _, rfl, rfl, Same.seqT s1 hT, .inl (.inl upd_same), by rw [List.length_map, sizeLine_eq]; show fx.length + 1 ≤ _; omega, fun en => ?_, (fun _ z => nomatch z), fun _ _ p hp => ?_⟩
    · have fe : fx = [] := List.map_eq_nil_iff.mp en
      refine ⟨_, rfl, a, T.c_Box, dx, _, _, rfl, s1 _ _ h1, T.l_Box.c, T.n_Box.rest, rfl, _, rfl, _, rfl, _, _, rfl, rfl, wide_mul (a := 64) (b := 64) csm (by omega) (by decide) (by decide) (by decide), _, _, rfl, rfl, ?_⟩
      refine go T1 _ s1 ?_
      rw [fe]
      exact .inl (.inl upd_same)
    · have s2 := s1.trans (same_new (o := .tup (fx.map V.int ++ [.int l2])) hp)
      refine ⟨_, rfl, a, T.c_Box, dx, _, _, rfl, s2 _ _ h1, T.l_Box.c, T.n_Box.rest, rfl, _, rfl, _, rfl, _, _, rfl, rfl, wide_mul (a := 64) (b := 64) csm (by omega) (by decide) (by decide) (by decide), _, _, rfl, rfl, ?_⟩
      refine go p _ s2 ?_
      rw [List.map_append]
      exact .inl (.inl upd_same)

def spHalves (K : PySem.W.Frag) (C E : Addr) : Sp := fun vs H Q _ => ∃ (a e : Addr) (t : Int) (b B x y : Box), vs = [.ref a] ∧ BoxIs K C E e H a t b B ∧ bisect B = some (x, y) ∧
  ∀ (H' : Hp) (q l r : Addr), Same H H' → H' q = some (.tup [.ref l, .ref r]) → BoxIs K C E e H' l t b x → BoxIs K C E e H' r t b y → Q (.ref q) H'
theorem ok_Box_halves (T : Top K mg) : FnOk P w K mg base CX0 5 T.f_Box_halves.a T.f_Box_halves.d ["self"] (spHalves K T.c_Box T.c_Equation) := by
  refine T.f_Box_halves.F.ok sc_Box_halves (fun vs H Q E h => ?_) (fun cdv A outer s H vs Q E hr h => ⟨_, (pss_cons (ps_set (i := 1) sc_Box_halves.nd rfl (Or.inl rfl) (pe_op op_fdivA (pe_op op_add (pe_fld (pv 0) rfl) (pe_fld (pv 0) rfl)) pe_int))
    (pss_one (ps_ret (pe_tup (pa_cons (pe_call (ok_narrowed T) (hr.mono (by decide)) rfl T.g_narrowed T.f_narrowed.F.kp T.f_narrowed.b .nil pass0 (pa_cons (pv 0) (pa_cons (pe_fld (pv 0) rfl) (pa_cons (pv 1) pa_nil)))) (pa_cons (pe_call (ok_narrowed T) (hr.mono (by decide)) rfl T.g_narrowed T.f_narrowed.F.kp T.f_narrowed.b .nil pass0 (pa_cons (pv 0) (pa_cons (pe_op op_add (pv 1) pe_int) (pa_cons (pe_fld (pv 0) rfl) pa_nil)))) pa_nil)))))), ?_⟩)
  · obtain ⟨a, e, t, b, B, x, y, rfl, _⟩ := h; rfl
  obtain ⟨a, e, t, b, B, x, y, rfl, ⟨fx, lo, up, hB, rfl⟩, hb, k⟩ := h
  have hl : fx.length < (freeVariables b).length := by
    rcases Nat.lt_or_eq_of_le hB.at_.len with q | q
    · exact q
    · have e : freeVariables (narrow b fx lo up) = [] := by rw [narrow_free hB.at_, q, List.drop_length]; rfl
      rw [bisect_none _ e] at hb; cases hb
  have m := hB.at_.more hl
  rw [bisect_narrow b fx lo up hl m.2.1] at hb
  injection hb with hb
  injection hb with hx hy
  subst hx hy
  obtain ⟨dx, f, h1, hE, hT⟩ := hB.ex
  have e2 : (lo + up).fdiv 2 = (lo + up) / 2 := Int.fdiv_eq_ediv_of_nonneg _ (by decide)
  refine ⟨_, rfl, a, T.c_Box, dx, _, _, rfl, h1, T.l_Box.c, T.n_Box.lower, rfl, _, rfl, a, T.c_Box, dx, _, _, rfl, h1, T.l_Box.c, T.n_Box.upper, rfl, _, _, rfl, rfl, _, _, rfl, rfl, cdivA (by decide) (by decide), ?_⟩
  refine ⟨_, rfl, _, rfl, a, T.c_Box, dx, _, _, rfl, h1, T.l_Box.c, T.n_Box.lower, rfl, _, rfl, a, e, lo, _, t, b, fx, lo, up, rfl, hB, hl, Int.le_refl _, by omega, by omega, fun H1 l s1 hl1 => ?_⟩
  refine ⟨_, rfl, _, rfl, _, _, rfl, rfl, _, rfl, a, T.c_Box, dx, _, _, rfl, s1 _ _ h1, T.l_Box.c, T.n_Box.upper, rfl, a, e, _, up, t, b, fx, lo, up, rfl, hB.same s1, hl, by omega, by omega, Int.le_refl _, fun H2 r s2 hr2 => ?_⟩
  rw [e2] at hl1 hr2
  refine ⟨two_ok, fun q hq => ?_⟩
  have s3 : Same H2 (upd H2 q (.tup [.ref l, .ref r])) := same_new hq
  exact k _ q l r ((s1.trans s2).trans s3) upd_same ((hl1.same s2).same s3) (hr2.same s3)
end Ov
end

section
set_option Elab.async false
set_option linter.all false
set_option maxRecDepth 100000
set_option maxHeartbeats 8000000
/-! boxes: the two-variable test -/
namespace Ov
open PySem PySem.Spec PyProof.Rows L2
open Vaviwc (Box Variable freeVariables isFree minSum maxSum isOutOfRange violatesDivisibility twoVariableSolution bisect)
variable {P : Program} {w : World} {K : PySem.W.Frag} {mg : Str → Option Value} {base : Heap}

def spLeastPair (K : PySem.W.Frag) (C E : Addr) : Sp := fun vs H Q _ => ∃ (a e : Addr) (t : Int) (b : Box) (fx : List Int) (lo up : Int), vs = [.ref a] ∧ BoxAt K C E e H a t b fx lo up ∧ (freeVariables b).length = fx.length + 2 ∧
  violatesDivisibility t (narrow b fx lo up) = false ∧ (twoVariableSolution t (narrow b fx lo up) = some none → Q .non H) ∧
  ∀ x y, twoVariableSolution t (narrow b fx lo up) = some (some (x, y)) → ∀ (H' : Hp) (q : Addr), Same H H' → H' q = some (.lst [.int (lo + x), .int y]) → Q (.ref q) H'
theorem fdiv_flip (x : Int) {c : Int} (h : c < 0) : x.fdiv c = (-x) / (-c) := by
  have := Int.neg_fdiv_neg (-x) (-c)
  rw [Int.neg_neg, Int.neg_neg] at this
  rw [this, Int.fdiv_eq_ediv_of_nonneg _ (by omega)]
theorem pair_bound {u v : Variable} {lo up R w : Int} (h0 : 0 ≤ lo) (hu : up < 2 ^ 64) (hp : 0 < (v.coefficient.natAbs : Int) / (coGcd [u, v] : Int)) (h : pairVal u v lo R w ≤ pairEnd u v up R) : (pairVal u v lo R w).natAbs < 2 ^ 64 := by
  have h1 : lo ≤ pairVal u v lo R w := by
    unfold pairVal pVal
    have m := Int.emod_nonneg (R / (coGcd [u, v] : Int) * w % ((v.coefficient.natAbs : Int) / (coGcd [u, v] : Int)) - pStart u.coefficient lo (R - max 0 (v.coefficient * v.upper)) (R - min 0 (v.coefficient * v.upper))) (b := (v.coefficient.natAbs : Int) / (coGcd [u, v] : Int)) (by omega)
    have s : lo ≤ pStart u.coefficient lo (R - max 0 (v.coefficient * v.upper)) (R - min 0 (v.coefficient * v.upper)) := by unfold pStart; omega
    omega
  have h2 : pairEnd u v up R ≤ up := by unfold pairEnd pEnd; omega
  omega
theorem ok_least_pair (T : Top K mg) : FnOk P w K mg base CX0 2 T.f_least_pair.a T.f_least_pair.d ["box"] (spLeastPair K T.c_Box T.c_Equation) := by
  refine T.f_least_pair.F.ok sc_least_pair (fun vs H Q E h => ?_) (fun cdv A outer s H vs Q E hr h => ⟨_, (pss_cons (ps_set (i := 1) sc_least_pair.nd rfl (Or.inl rfl) (pe_fld (pv 0) rfl))
    (pss_cons (ps_set (i := 2) sc_least_pair.nd rfl (Or.inl rfl) (pe_callB call_len_seq (by rfl) T.b_len PySem.boot_len (pa_cons (pe_fld (pv 0) rfl) pa_nil)))
    (pss_cons (ps_set (i := 3) sc_least_pair.nd rfl (Or.inl rfl) (pe_ix ix_list (pe_fld (pv 1) rfl) (pv 2) (fun _ _ => rfl)))
    (pss_cons (ps_set (i := 4) sc_least_pair.nd rfl (Or.inl rfl) (pe_ix ix_list (pe_fld (pv 1) rfl) (pe_op op_add (pv 2) pe_int) (fun _ _ => rfl)))
    (pss_cons (ps_set (i := 5) sc_least_pair.nd rfl (Or.inl rfl) (pe_op op_sub (pe_fld (pv 0) rfl) (pe_ix ix_list (pe_fld (pv 1) rfl) (pe_op op_add (pv 2) pe_int) (fun _ _ => rfl))))
    (pss_cons (ps_set (i := 6) sc_least_pair.nd rfl (Or.inl rfl) (pe_op op_sub (pe_fld (pv 0) rfl) (pe_ix ix_list (pe_fld (pv 1) rfl) (pe_op op_add (pv 2) pe_int) (fun _ _ => rfl))))
    (pss_cons (ps_if (pt_cmpR op_lt (pv 3) pe_int (nomark _)) (pss_one (ps_par (i := 5) (j := 6) (by rfl) sc_least_pair.nd rfl rfl (by decide) rfl rfl (pa_cons (pv 6) (pa_cons (pv 5) pa_nil)) (by rfl))) pss_nil)
    (pss_cons (ps_set (i := 7) sc_least_pair.nd rfl (Or.inl rfl) (pe_callB (call_max2 rfl) (by rfl) T.b_max (by decide +kernel) (pa_cons (pe_fld (pv 0) rfl) (pa_cons (pe_call (ok_ceiling_quotient T) (hr.mono (by decide)) rfl T.g_ceiling_quotient T.f_ceiling_quotient.F.kp T.f_ceiling_quotient.b .nil pass0 (pa_cons (pv 5) (pa_cons (pv 3) pa_nil))) pa_nil))))
    (pss_cons (ps_set (i := 8) sc_least_pair.nd rfl (Or.inl rfl) (pe_callB (call_min2 rfl) (by rfl) T.b_min (by decide +kernel) (pa_cons (pe_fld (pv 0) rfl) (pa_cons (pe_op op_fdivA (pv 6) (pv 3)) pa_nil))))
    (pss_cons (ps_set (i := 9) sc_least_pair.nd rfl (Or.inl rfl) (pe_fld (pv 1) rfl))
    (pss_cons (ps_set (i := 10) sc_least_pair.nd rfl (Or.inl rfl) (pe_op op_modN (pe_op op_mulW (pe_op op_fdivA (pe_fld (pv 0) rfl) (pe_ix ix_list (pe_fld (pv 1) rfl) (pv 2) (fun _ _ => rfl))) (pe_fld (pv 1) rfl)) (pv 9)))
    (pss_cons (ps_set (i := 11) sc_least_pair.nd rfl (Or.inl rfl) (pe_op op_add (pv 7) (pe_op op_modN (pe_op op_sub (pv 10) (pv 7)) (pv 9))))
    (pss_cons (ps_if (pt_cmpR op_gt (pv 11) (pv 8) (nomark _)) (pss_one (ps_ret pe_non)) pss_nil)
    (pss_one (ps_ret (pe_lst (pa_cons (pv 11) (pa_cons (pe_op op_fdivA (pe_op op_sub (pe_fld (pv 0) rfl) (pe_op op_mulW (pv 3) (pv 11))) (pv 4)) pa_nil)))))))))))))))))), ?_⟩)
  · obtain ⟨a, e, t, b, fx, lo, up, rfl, _⟩ := h; rfl
  obtain ⟨a, e, t, b, fx, lo, up, rfl, hB, hl, hd, k0, k1⟩ := h
  obtain ⟨dx, f, h1, hE, hT⟩ := hB.ex
  obtain ⟨dy, pl, c, u, lt, gt, dv, pm, pi, g1, hL, hP⟩ := hE.ex
  have hn : (freeVariables b).length - 2 = fx.length := by omega
  obtain ⟨x, y, hxy⟩ := two_last (f := freeVariables b) (by omega)
  rw [hn] at hxy
  obtain ⟨pm1, pi0, pi1, hw⟩ := hP.ok x y (by rw [hn]; exact hxy) (by omega)
  obtain ⟨_, hx, hy⟩ := drop_two hxy
  have memx : x ∈ freeVariables b := List.mem_of_mem_drop (i := fx.length) (by rw [hxy]; exact List.mem_cons_self)
  have memy : y ∈ freeVariables b := List.mem_of_mem_drop (i := fx.length) (by rw [hxy]; exact List.mem_cons_of_mem _ List.mem_cons_self)
  have c0 : x.coefficient ≠ 0 := (isFree_iff.mp (free_mem memx).2).2
  have y0 : y.coefficient ≠ 0 := (isFree_iff.mp (free_mem memy).2).2
  have bx := hB.fine.co x (free_mem memx).1
  have by_ := hB.fine.co y (free_mem memy).1
  have ly := hB.fine.low y (free_mem memy).1
  have hbd := hB.bounds
  have rsm := hB.rest_small
  have g0 : 0 < coGcd [x, y] := by rw [coGcd_two]; exact Nat.gcd_pos_of_pos_right _ (Int.natAbs_pos.mpr y0)
  have gy : coGcd [x, y] ≤ y.coefficient.natAbs := by rw [coGcd_two]; exact Nat.gcd_le_right _ (Int.natAbs_pos.mpr y0)
  have pmN : pm = ((y.coefficient.natAbs / coGcd [x, y] : Nat) : Int) := pm1
  have pmle : y.coefficient.natAbs / coGcd [x, y] ≤ y.coefficient.natAbs := Nat.div_le_self _ _
  have pm0 : pm ≠ 0 := by omega
  have pm0' : (y.coefficient.natAbs : Int) / (coGcd [x, y] : Int) ≠ 0 := pm1 ▸ pm0
  have pmpos : 0 < (y.coefficient.natAbs : Int) / (coGcd [x, y] : Int) := pm1 ▸ (by omega : 0 < pm)
  have hw2 := hw
  rw [pm1] at hw2
  obtain ⟨TW, DV⟩ := two_is hB.fine.low hB.fine.co hB.at_ hd hxy hw2
  have d1 : (freeVariables b).drop (fx.length + 1) = [y] := by rw [← List.drop_drop, hxy]; rfl
  have qeq : (restOf t b fx).fdiv (coGcd [x, y] : Int) = restOf t b fx / (coGcd [x, y] : Int) := Int.fdiv_eq_ediv_of_nonneg _ (by omega)
  have qsm : ((restOf t b fx).fdiv (coGcd [x, y] : Int)).natAbs < 2 ^ 200 := by
    rw [qeq]
    have := Int.natAbs_ediv_le_natAbs (restOf t b fx) (coGcd [x, y] : Int)
    omega
  have vsm : pairVal x y lo (restOf t b fx) pi ≤ pairEnd x y up (restOf t b fx) → (pairVal x y lo (restOf t b fx) pi).natAbs < 2 ^ 64 := pair_bound hbd.1 hbd.2.2.2 pmpos
  have hval : pStart x.coefficient lo (restOf t b fx - max 0 (y.coefficient * y.upper)) (restOf t b fx - min 0 (y.coefficient * y.upper)) +
      (((restOf t b fx).fdiv (coGcd [x, y] : Int) * pi).fmod pm - pStart x.coefficient lo (restOf t b fx - max 0 (y.coefficient * y.upper)) (restOf t b fx - min 0 (y.coefficient * y.upper))).fmod pm = pairVal x y lo (restOf t b fx) pi := by
    rw [Int.fmod_eq_emod_of_nonneg _ (by omega), Int.fmod_eq_emod_of_nonneg _ (by omega), qeq, pm1]; rfl
  have cgt : ∀ i j : Int, (if j > i then j else i) = max i j := fun i j => by split <;> omega
  have clt : ∀ i j : Int, (if j < i then j else i) = min i j := fun i j => by split <;> omega
  refine ⟨_, rfl, a, T.c_Box, dx, _, _, rfl, h1, T.l_Box.c, T.n_Box.equation, rfl, ?_⟩
  refine ⟨_, rfl, a, T.c_Box, dx, _, _, rfl, h1, T.l_Box.c, T.n_Box.fixed, rfl, f, _, rfl, .inr hT, ?_⟩
  rw [List.length_map]
  refine ⟨_, rfl, e, T.c_Equation, dy, _, _, rfl, g1, T.l_Equation.c, T.n_Equation.coefficients, rfl, _, rfl, c, _, _, _, rfl, rfl, .inl (.inl hL.c), atN (by rw [List.length_append, len_co]; show fx.length < _ + 1; omega), ?_⟩
  rw [co_at (by omega), hx]
  refine ⟨_, rfl, e, T.c_Equation, dy, _, _, rfl, g1, T.l_Equation.c, T.n_Equation.coefficients, rfl, _, rfl, _, _, rfl, rfl, c, _, ((fx.length + 1 : Nat) : Int), _, rfl, rfl, .inl (.inl hL.c), atN (by rw [List.length_append, len_co]; show fx.length + 1 < _ + 1; omega), ?_⟩
  rw [co_at (by omega), hy]
  refine ⟨_, rfl, a, T.c_Box, dx, _, _, rfl, h1, T.l_Box.c, T.n_Box.rest, rfl, _, rfl, e, T.c_Equation, dy, _, _, rfl, g1, T.l_Equation.c, T.n_Equation.greatest_tails, rfl, _, rfl, _, _, rfl, rfl, gt, _, ((fx.length + 1 : Nat) : Int), _, rfl, rfl, .inl (.inl hL.gt), atF (by omega), _, _, rfl, rfl, ?_⟩
  refine ⟨_, rfl, a, T.c_Box, dx, _, _, rfl, h1, T.l_Box.c, T.n_Box.rest, rfl, _, rfl, e, T.c_Equation, dy, _, _, rfl, g1, T.l_Equation.c, T.n_Equation.least_tails, rfl, _, rfl, _, _, rfl, rfl, lt, _, ((fx.length + 1 : Nat) : Int), _, rfl, rfl, .inl (.inl hL.lt), atF (by omega), _, _, rfl, rfl, ?_⟩
  have mx : maxSum ((freeVariables b).drop (fx.length + 1)) = max 0 (y.coefficient * y.upper) := by
    rw [d1]
    show max (y.coefficient * y.lower) (y.coefficient * y.upper) + 0 = _
    rw [ly, Int.mul_zero]; omega
  have mn : minSum ((freeVariables b).drop (fx.length + 1)) = min 0 (y.coefficient * y.upper) := by
    rw [d1]
    show min (y.coefficient * y.lower) (y.coefficient * y.upper) + 0 = _
    rw [ly, Int.mul_zero]; omega
  rw [mx, mn]
  refine slots (σ' := [some (.ref a), some (.ref e), some (.int fx.length), some (.int x.coefficient), some (.int y.coefficient), some (.int (restOf t b fx - max 0 (y.coefficient * y.upper))), some (.int (restOf t b fx - min 0 (y.coefficient * y.upper))), none, none, none, none, none]) rfl ?_
  refine ⟨_, rfl, _, _, rfl, rfl, _, rfl, iteD (fun q => ?_) (fun q => ?_)⟩
  · have st : max lo (-((-(restOf t b fx - min 0 (y.coefficient * y.upper))).fdiv x.coefficient)) = pStart x.coefficient lo (restOf t b fx - max 0 (y.coefficient * y.upper)) (restOf t b fx - min 0 (y.coefficient * y.upper)) := by
      unfold pStart
      rw [if_neg (by omega), fdiv_flip _ q]; rfl
    have en : min up ((restOf t b fx - max 0 (y.coefficient * y.upper)).fdiv x.coefficient) = pairEnd x y up (restOf t b fx) := by
      unfold pairEnd pEnd
      rw [if_neg (by omega), fdiv_flip _ q]
    refine ⟨_, rfl, _, rfl, _, _, rfl, ?_⟩
    refine ⟨_, rfl, a, T.c_Box, dx, _, _, rfl, h1, T.l_Box.c, T.n_Box.lower, rfl, _, rfl, _, rfl, _, x.coefficient, rfl, c0, by omega, lo, _, rfl, ?_⟩
    rw [cgt, st]
    refine ⟨_, rfl, a, T.c_Box, dx, _, _, rfl, h1, T.l_Box.c, T.n_Box.upper, rfl, _, rfl, _, rfl, _, _, rfl, rfl, cdivA c0 (by omega), up, _, rfl, ?_⟩
    rw [clt, en]
    refine slots (σ' := [some (.ref a), some (.ref e), some (.int fx.length), some (.int x.coefficient), some (.int y.coefficient), some (.int (restOf t b fx - min 0 (y.coefficient * y.upper))), some (.int (restOf t b fx - max 0 (y.coefficient * y.upper))), some (.int (pStart x.coefficient lo (restOf t b fx - max 0 (y.coefficient * y.upper)) (restOf t b fx - min 0 (y.coefficient * y.upper)))), some (.int (pairEnd x y up (restOf t b fx))), none, none, none]) rfl ?_
    refine ⟨_, rfl, e, T.c_Equation, dy, _, _, rfl, g1, T.l_Equation.c, T.n_Equation.pair_modulus, rfl, ?_⟩
    refine ⟨_, rfl, a, T.c_Box, dx, _, _, rfl, h1, T.l_Box.c, T.n_Box.rest, rfl, _, rfl, e, T.c_Equation, dy, _, _, rfl, g1, T.l_Equation.c, T.n_Equation.divisors, rfl, _, rfl, dv, _, _, _, rfl, rfl, .inl (.inl hL.dv), atF (by omega), ?_⟩
    rw [hxy]
    refine ⟨_, _, rfl, rfl, cdivA (by omega) (by omega), _, rfl, e, T.c_Equation, dy, _, _, rfl, g1, T.l_Equation.c, T.n_Equation.pair_inverse, rfl, _, _, rfl, rfl, wide_mul (a := 200) (b := 64) qsm (by omega) (by decide) (by decide) (by decide), _, rfl, _, _, rfl, rfl, pm0, ?_⟩
    refine slots (σ' := [some (.ref a), some (.ref e), some (.int fx.length), some (.int x.coefficient), some (.int y.coefficient), some (.int (restOf t b fx - min 0 (y.coefficient * y.upper))), some (.int (restOf t b fx - max 0 (y.coefficient * y.upper))), some (.int (pStart x.coefficient lo (restOf t b fx - max 0 (y.coefficient * y.upper)) (restOf t b fx - min 0 (y.coefficient * y.upper)))), some (.int (pairEnd x y up (restOf t b fx))), some (.int pm), some (.int (((restOf t b fx).fdiv (coGcd [x, y] : Int) * pi).fmod pm)), none]) rfl ?_
    refine ⟨_, rfl, _, rfl, _, rfl, _, _, rfl, rfl, _, rfl, _, _, rfl, rfl, pm0, _, _, rfl, rfl, ?_⟩
    refine ⟨_, rfl, _, rfl, _, _, rfl, rfl, _, rfl, iteD (fun q => ?_) (fun q => ?_)⟩
    · rw [hval] at q
      refine k0 ?_
      rw [TW, if_neg (by omega)]
    · rw [hval] at q
      have q2 : pairVal x y lo (restOf t b fx) pi ≤ pairEnd x y up (restOf t b fx) := by omega
      rw [if_pos q2] at TW
      refine ⟨_, rfl, _, rfl, a, T.c_Box, dx, _, _, rfl, h1, T.l_Box.c, T.n_Box.rest, rfl, _, rfl, _, rfl, _, _, rfl, rfl, wide_mul (a := 64) (b := 64) (by omega) (by rw [hval]; exact vsm q2) (by decide) (by decide) (by decide), _, _, rfl, rfl, _, rfl, _, _, rfl, rfl, cdivA y0 (by omega), two_ok, fun q3 hq3 => ?_⟩
      refine k1 _ _ TW _ q3 (same_new hq3) ?_
      have e1 : lo + (pairVal x y lo (restOf t b fx) pi - lo) = pairVal x y lo (restOf t b fx) pi := by omega
      rw [upd_same, e1, ← Int.fdiv_eq_ediv_of_dvd DV, ← hval]
  · have st : max lo (-((-(restOf t b fx - max 0 (y.coefficient * y.upper))).fdiv x.coefficient)) = pStart x.coefficient lo (restOf t b fx - max 0 (y.coefficient * y.upper)) (restOf t b fx - min 0 (y.coefficient * y.upper)) := by
      unfold pStart
      rw [if_pos (by omega), Int.fdiv_eq_ediv_of_nonneg _ (by omega)]; rfl
    have en : min up ((restOf t b fx - min 0 (y.coefficient * y.upper)).fdiv x.coefficient) = pairEnd x y up (restOf t b fx) := by
      unfold pairEnd pEnd
      rw [if_pos (by omega), Int.fdiv_eq_ediv_of_nonneg _ (by omega)]
    refine ⟨_, rfl, a, T.c_Box, dx, _, _, rfl, h1, T.l_Box.c, T.n_Box.lower, rfl, _, rfl, _, rfl, _, x.coefficient, rfl, c0, by omega, lo, _, rfl, ?_⟩
    rw [cgt, st]
    refine ⟨_, rfl, a, T.c_Box, dx, _, _, rfl, h1, T.l_Box.c, T.n_Box.upper, rfl, _, rfl, _, rfl, _, _, rfl, rfl, cdivA c0 (by omega), up, _, rfl, ?_⟩
    rw [clt, en]
    refine slots (σ' := [some (.ref a), some (.ref e), some (.int fx.length), some (.int x.coefficient), some (.int y.coefficient), some (.int (restOf t b fx - max 0 (y.coefficient * y.upper))), some (.int (restOf t b fx - min 0 (y.coefficient * y.upper))), some (.int (pStart x.coefficient lo (restOf t b fx - max 0 (y.coefficient * y.upper)) (restOf t b fx - min 0 (y.coefficient * y.upper)))), some (.int (pairEnd x y up (restOf t b fx))), none, none, none]) rfl ?_
    refine ⟨_, rfl, e, T.c_Equation, dy, _, _, rfl, g1, T.l_Equation.c, T.n_Equation.pair_modulus, rfl, ?_⟩
    refine ⟨_, rfl, a, T.c_Box, dx, _, _, rfl, h1, T.l_Box.c, T.n_Box.rest, rfl, _, rfl, e, T.c_Equation, dy, _, _, rfl, g1, T.l_Equation.c, T.n_Equation.divisors, rfl, _, rfl, dv, _, _, _, rfl, rfl, .inl (.inl hL.dv), atF (by omega), ?_⟩
    rw [hxy]
    refine ⟨_, _, rfl, rfl, cdivA (by omega) (by omega), _, rfl, e, T.c_Equation, dy, _, _, rfl, g1, T.l_Equation.c, T.n_Equation.pair_inverse, rfl, _, _, rfl, rfl, wide_mul (a := 200) (b := 64) qsm (by omega) (by decide) (by decide) (by decide), _, rfl, _, _, rfl, rfl, pm0, ?_⟩
    refine slots (σ' := [some (.ref a), some (.ref e), some (.int fx.length), some (.int x.coefficient), some (.int y.coefficient), some (.int (restOf t b fx - max 0 (y.coefficient * y.upper))), some (.int (restOf t b fx - min 0 (y.coefficient * y.upper))), some (.int (pStart x.coefficient lo (restOf t b fx - max 0 (y.coefficient * y.upper)) (restOf t b fx - min 0 (y.coefficient * y.upper)))), some (.int (pairEnd x y up (restOf t b fx))), some (.int pm), some (.int (((restOf t b fx).fdiv (coGcd [x, y] : Int) * pi).fmod pm)), none]) rfl ?_
    refine ⟨_, rfl, _, rfl, _, rfl, _, _, rfl, rfl, _, rfl, _, _, rfl, rfl, pm0, _, _, rfl, rfl, ?_⟩
    refine ⟨_, rfl, _, rfl, _, _, rfl, rfl, _, rfl, iteD (fun q => ?_) (fun q => ?_)⟩
    · rw [hval] at q
      refine k0 ?_
      rw [TW, if_neg (by omega)]
    · rw [hval] at q
      have q2 : pairVal x y lo (restOf t b fx) pi ≤ pairEnd x y up (restOf t b fx) := by omega
      rw [if_pos q2] at TW
      refine ⟨_, rfl, _, rfl, a, T.c_Box, dx, _, _, rfl, h1, T.l_Box.c, T.n_Box.rest, rfl, _, rfl, _, rfl, _, _, rfl, rfl, wide_mul (a := 64) (b := 64) (by omega) (by rw [hval]; exact vsm q2) (by decide) (by decide) (by decide), _, _, rfl, rfl, _, rfl, _, _, rfl, rfl, cdivA y0 (by omega), two_ok, fun q3 hq3 => ?_⟩
      refine k1 _ _ TW _ q3 (same_new hq3) ?_
      have e1 : lo + (pairVal x y lo (restOf t b fx) pi - lo) = pairVal x y lo (restOf t b fx) pi := by omega
      rw [upd_same, e1, ← Int.fdiv_eq_ediv_of_dvd DV, ← hval]
end Ov
end

section
set_option Elab.async false
set_option linter.all false
set_option maxRecDepth 100000
set_option maxHeartbeats 8000000
/-! boxes: solved or refuted -/
namespace Ov
open PySem PySem.Spec PyProof.Rows L2
open Vaviwc (Box Variable freeVariables isFree minSum maxSum isOutOfRange violatesDivisibility twoVariableSolution bisect solveDirectly)
variable {P : Program} {w : World} {K : PySem.W.Frag} {mg : Str → Option Value} {base : Heap}

def spFailsPair (K : PySem.W.Frag) (C E : Addr) : Sp := fun vs H Q _ => ∃ (a e : Addr) (t : Int) (b B : Box), vs = [.ref a] ∧ BoxIs K C E e H a t b B ∧ ∀ H', Same H H' → Q (.bl (!violatesDivisibility t B && decide (twoVariableSolution t B = some none))) H'
theorem two_none {t : Int} {B : Box} (h : (freeVariables B).length ≠ 2) : twoVariableSolution t B = none := by
  unfold twoVariableSolution
  match freeVariables B, h with
  | [], _ => rfl
  | [_], _ => rfl
  | _ :: _ :: _ :: _, _ => rfl
  | [_, _], h => exact absurd rfl h
theorem two_some {t : Int} {B : Box} (h : (freeVariables B).length = 2) : ∃ r, twoVariableSolution t B = some r := by
  unfold twoVariableSolution
  match freeVariables B, h with
  | [u, v], _ => exact ⟨_, rfl⟩
theorem ok_Box_fails_pair (T : Top K mg) : FnOk P w K mg base CX0 3 T.f_Box_fails_pair.a T.f_Box_fails_pair.d ["self"] (spFailsPair K T.c_Box T.c_Equation) := by
  refine T.f_Box_fails_pair.F.ok sc_Box_fails_pair (fun vs H Q E h => ?_) (fun cdv A outer s H vs Q E hr h => ⟨_, (pss_one (ps_ret (pe_and (pe_cmpR op_eq (pe_meth0 (pv 0) T.l_Box.c T.m_Box_free_count (ok_Box_free_count T) (hr.mono (by decide)) T.f_Box_free_count.b .nil pass0) pe_int (nomark _)) (pe_and (pe_not (pe_meth0 (pv 0) T.l_Box.c T.m_Box_fails_divisibility (ok_Box_fails_divisibility T) (hr.mono (by decide)) T.f_Box_fails_divisibility.b .nil pass0)) (pe_one (pe_cmp (pc_isN (pe_call (ok_least_pair T) (hr.mono (by decide)) rfl T.g_least_pair T.f_least_pair.F.kp T.f_least_pair.b .nil pass0 (pa_cons (pv 0) pa_nil))) rfl)))))), ?_⟩)
  · obtain ⟨a, e, t, b, B, rfl, _⟩ := h; rfl
  obtain ⟨a, e, t, b, B, rfl, hB, k⟩ := h
  obtain ⟨fx, lo, up, hA, hBe⟩ := hB
  obtain ⟨dx, f, h1, hE, hT⟩ := hA.ex
  have hB : BoxIs K T.c_Box T.c_Equation e H a t b B := ⟨fx, lo, up, hA, hBe⟩
  refine ⟨_, rfl, a, dx, _, rfl, h1, rfl, a, e, t, b, B, rfl, hB, rfl, _, rfl, iteEq (fun q => ?_) (fun q => ?_)⟩
  · have q2 : (freeVariables B).length = 2 := by omega
    refine ⟨_, rfl, a, dx, _, rfl, h1, rfl, a, e, t, b, B, rfl, hB, _, rfl, _, rfl, ?_⟩
    cases hd : violatesDivisibility t B with
    | true =>
      have k := k H (Same.refl H)
      rw [hd] at k
      exact iteF k
    | false =>
      rw [hd] at k
      refine iteT ⟨_, rfl, a, e, t, b, fx, lo, up, rfl, hA, ?_, hBe ▸ hd, fun z => ?_, fun x y z H' q3 s3 _ => ?_⟩
      · have := count_is hA.at_
        rw [← hBe] at this
        have := hA.at_.len
        omega
      · rw [← hBe] at z
        have k := k H (Same.refl H)
        rw [z] at k
        exact k
      · rw [← hBe] at z
        have k := k H' s3
        rw [z] at k
        exact k
  · have q2 : (freeVariables B).length ≠ 2 := by omega
    have k := k H (Same.refl H)
    rw [two_none q2] at k
    have e1 : (!violatesDivisibility t B && decide ((none : Option (Option (Int × Int))) = some none)) = false := by simp
    rw [e1] at k
    exact k

def spLeastValues (K : PySem.W.Frag) (C E : Addr) : Sp := fun vs H Q _ => ∃ (a e : Addr) (t : Int) (b B : Box), vs = [.ref a] ∧ BoxIs K C E e H a t b B ∧ (freeVariables B).length ≤ 2 ∧ isOutOfRange t B = false ∧ violatesDivisibility t B = false ∧
  (solveDirectly t B = some (.infeasible .twoVariables) → Q .non H) ∧
  ∀ xs, solveDirectly t B = some (.solution (spread b xs)) → xs.length = (freeVariables b).length → ∀ (H' : Hp) (q : Addr), Same H H' → H' q = some (.lst (xs.map V.int)) → Q (.ref q) H'
theorem drop_nil {b : Box} {fx : List Int} {lo up : Int} (h : At b fx lo up) (q : (freeVariables (narrow b fx lo up)).length = 0) : (freeVariables b).drop fx.length = [] := by
  rw [count_is h] at q
  exact List.drop_eq_nil_of_le (by omega)
theorem drop_one {b : Box} {fx : List Int} {lo up : Int} (h : At b fx lo up) (q : (freeVariables (narrow b fx lo up)).length = 1) : ∃ v, (freeVariables b).drop fx.length = [v] := by
  rw [count_is h] at q
  have hl : ((freeVariables b).drop fx.length).length = 1 := by rw [List.length_drop]; exact q
  match (freeVariables b).drop fx.length, hl with
  | [v], _ => exact ⟨v, rfl⟩
theorem drop_2 {b : Box} {fx : List Int} {lo up : Int} (h : At b fx lo up) (q : (freeVariables (narrow b fx lo up)).length = 2) : ∃ u v, (freeVariables b).drop fx.length = [u, v] := by
  rw [count_is h] at q
  have hl : ((freeVariables b).drop fx.length).length = 2 := by rw [List.length_drop]; exact q
  match (freeVariables b).drop fx.length, hl with
  | [u, v], _ => exact ⟨u, v, rfl⟩
theorem ok_least_values (T : Top K mg) : FnOk P w K mg base CX0 3 T.f_least_values.a T.f_least_values.d ["box"] (spLeastValues K T.c_Box T.c_Equation) := by
  refine T.f_least_values.F.ok sc_least_values (fun vs H Q E h => ?_) (fun cdv A outer s H vs Q E hr h => ⟨_, (pss_cons (ps_set (i := 1) sc_least_values.nd rfl (Or.inl rfl) (pe_meth0 (pv 0) T.l_Box.c T.m_Box_free_count (ok_Box_free_count T) (hr.mono (by decide)) T.f_Box_free_count.b .nil pass0))
    (pss_cons (ps_if (pt_cmpR op_eq (pv 1) pe_int (nomark _)) (pss_one (ps_ret (pe_callTy call_list_of (by rfl) T.b_list (by decide +kernel) (pa_cons (pe_fld (pv 0) rfl) pa_nil)))) pss_nil)
    (pss_cons (ps_if (pt_cmpR op_eq (pv 1) pe_int (nomark _)) (pss_one (ps_ret (pe_op op_cat (pe_callTy call_list_of (by rfl) T.b_list (by decide +kernel) (pa_cons (pe_fld (pv 0) rfl) pa_nil)) (pe_lst (pa_cons (pe_op op_fdivA (pe_fld (pv 0) rfl) (pe_ix ix_list (pe_fld (pe_fld (pv 0) rfl) rfl) (pe_callB call_len_seq (by rfl) T.b_len PySem.boot_len (pa_cons (pe_fld (pv 0) rfl) pa_nil)) (fun _ _ => rfl))) pa_nil))))) pss_nil)
    (pss_cons (ps_set (i := 2) sc_least_values.nd rfl (Or.inl rfl) (pe_call (ok_least_pair T) (hr.mono (by decide)) rfl T.g_least_pair T.f_least_pair.F.kp T.f_least_pair.b .nil pass0 (pa_cons (pv 0) pa_nil)))
    (pss_cons (ps_if (pt_cmpR op_isN (pv 2) pe_non (nomark _)) (pss_one (ps_ret pe_non)) pss_nil)
    (pss_one (ps_ret (pe_op op_cat (pe_callTy call_list_of (by rfl) T.b_list (by decide +kernel) (pa_cons (pe_fld (pv 0) rfl) pa_nil)) (pv 2))))))))), ?_⟩)
  · obtain ⟨a, e, t, b, B, rfl, _⟩ := h; rfl
  obtain ⟨a, e, t, b, B, rfl, ⟨fx, lo, up, hA, rfl⟩, h2, hr0, hd0, k0, k1⟩ := h
  obtain ⟨dx, f, h1, hE, hT⟩ := hA.ex
  have hc := count_is hA.at_
  have hln := hA.at_.len
  have h100 := hA.fine.free.len
  have hB : BoxIs K T.c_Box T.c_Equation e H a t b (narrow b fx lo up) := ⟨fx, lo, up, hA, rfl⟩
  refine ⟨_, rfl, a, dx, _, rfl, h1, rfl, a, e, t, b, _, rfl, hB, ?_⟩
  refine ⟨_, rfl, rfl, _, rfl, iteEq (fun q => ?_) (fun q => ?_)⟩
  · have q0 : (freeVariables (narrow b fx lo up)).length = 0 := by omega
    refine ⟨_, rfl, a, T.c_Box, dx, _, _, rfl, h1, T.l_Box.c, T.n_Box.fixed, rfl, f, _, rfl, .inr hT, fun l hl => ?_⟩
    exact k1 fx (direct0 hA.fine.low hA.at_ hr0 hd0 (drop_nil hA.at_ q0)) (by omega) _ l (same_new hl) upd_same
  · refine ⟨_, rfl, rfl, _, rfl, iteEq (fun q1 => ?_) (fun q1 => ?_)⟩
    · have q2 : (freeVariables (narrow b fx lo up)).length = 1 := by omega
      obtain ⟨v, hv⟩ := drop_one hA.at_ q2
      obtain ⟨dy, pl, c, u, lt, gt, dv, pm, pi, g1, hL, hP⟩ := hE.ex
      have mv : v ∈ freeVariables b := List.mem_of_mem_drop (i := fx.length) (by rw [hv]; exact List.mem_cons_self)
      have v0 : v.coefficient ≠ 0 := (isFree_iff.mp (free_mem mv).2).2
      have bv := hA.fine.co v (free_mem mv).1
      refine ⟨_, rfl, a, T.c_Box, dx, _, _, rfl, h1, T.l_Box.c, T.n_Box.fixed, rfl, f, _, rfl, .inr hT, fun l hl => ?_⟩
      have s1 : Same H (upd H l (.lst (fx.map V.int))) := same_new hl
      refine ⟨_, rfl, a, T.c_Box, dx, _, _, rfl, s1 _ _ h1, T.l_Box.c, T.n_Box.rest, rfl, _, rfl, a, T.c_Box, dx, _, _, rfl, s1 _ _ h1, T.l_Box.c, T.n_Box.equation, rfl, e, T.c_Equation, dy, _, _, rfl, s1 _ _ g1, T.l_Equation.c, T.n_Equation.coefficients, rfl, _, rfl, a, T.c_Box, dx, _, _, rfl, s1 _ _ h1, T.l_Box.c, T.n_Box.fixed, rfl, f, _, rfl, .inr (Same.seqT s1 hT), ?_⟩
      rw [List.length_map]
      refine ⟨c, _, _, _, rfl, rfl, .inl (.inl (s1 _ _ hL.c)), atN (by rw [List.length_append, len_co]; show fx.length < _ + 1; omega), ?_⟩
      rw [co_head hln, hv]
      refine ⟨_, _, rfl, rfl, cdivA v0 (by show v.coefficient.natAbs < _; omega), one_ok, fun l2 hl2 => ?_⟩
      have dvd : v.coefficient ∣ restOf t b fx := by
        have := div_dvd hA.fine.low hA.at_ hd0
        rw [hv] at this
        have e2 : coGcd [v] = v.coefficient.natAbs := by
          show Nat.gcd 0 v.coefficient.natAbs = _
          rw [Nat.gcd_zero_left]
        rw [e2] at this
        exact Int.natAbs_dvd.mp this
      have D1 := direct1 hA.fine.low hA.at_ hr0 hd0 hv
      rw [← Int.fdiv_eq_ediv_of_dvd dvd] at D1
      refine ⟨l, l2, _, _, rfl, rfl, same_new hl2 _ _ upd_same, upd_same, by rw [List.length_map, sizeLine_eq]; show fx.length + 1 ≤ _; omega, fun q3 hq3 => ?_⟩
      refine k1 _ D1 (by rw [List.length_append]; show fx.length + 1 = _; omega) _ q3 ((s1.trans (same_new hl2)).trans (same_new hq3)) ?_
      rw [upd_same, List.map_append]; rfl
    · have q2 : (freeVariables (narrow b fx lo up)).length = 2 := by omega
      obtain ⟨u, v, huv⟩ := drop_2 hA.at_ q2
      have D2 := direct2 hA.fine.low hA.at_ hr0 hd0 huv
      refine ⟨_, rfl, a, e, t, b, fx, lo, up, rfl, hA, by omega, hd0, fun z => ?_, fun x y z H' q3 s3 h3 => ?_⟩
      · rw [z] at D2
        exact ⟨_, rfl, rfl, _, rfl, iteT (k0 D2)⟩
      · rw [z] at D2
        refine ⟨_, rfl, rfl, _, rfl, iteF ?_⟩
        refine ⟨_, rfl, a, T.c_Box, dx, _, _, rfl, s3 _ _ h1, T.l_Box.c, T.n_Box.fixed, rfl, f, _, rfl, .inr (Same.seqT s3 hT), fun l hl => ?_⟩
        refine ⟨_, rfl, l, q3, _, _, rfl, rfl, upd_same, same_new hl _ _ h3, by rw [List.length_map, sizeLine_eq]; show fx.length + 2 ≤ _; omega, fun q4 hq4 => ?_⟩
        refine k1 _ D2 (by rw [List.length_append]; show fx.length + 2 = _; omega) _ q4 ((s3.trans (same_new hl)).trans (same_new hq4)) ?_
        rw [upd_same, List.map_append]; rfl
end Ov
end

section
set_option Elab.async false
set_option linter.all false
set_option maxRecDepth 100000
set_option maxHeartbeats 8000000
/-! certificates: claims, pushed halves -/
namespace Ov
open PySem PySem.Spec PyProof.Rows L2
open Vaviwc (Box Variable freeVariables isFree minSum maxSum isOutOfRange violatesDivisibility twoVariableSolution bisect solveDirectly)
variable {P : Program} {w : World} {K : PySem.W.Frag} {mg : Str → Option Value} {base : Heap}

/-- all that is no list stands -/
def Solid (H H' : Hp) : Prop := ∀ c o, H c = some o → (∀ xs, o ≠ .lst xs) → H' c = some o
theorem Keep.solid {s : Addr} {H H' : Hp} {xs : List V} (k : Keep s H H') (h : H s = some (.lst xs)) : Solid H H' := fun c o e n => k c o e fun z => by
  rw [z, h] at e
  exact n xs (Option.some.inj e).symm
theorem Same.solid {H H' : Hp} (s : Same H H') : Solid H H' := fun c o e _ => s c o e
theorem Solid.trans {H H1 H2 : Hp} (a : Solid H H1) (b : Solid H1 H2) : Solid H H2 := fun c o e n => b c o (a c o e n) n
theorem BoxIs.move {C E e : Addr} {H H' : Hp} {a : Addr} {t : Int} {b B : Box} (h : BoxIs K C E e H a t b B) (s : Solid H H') (hE : EqAt E H' e t b) (hf : ∀ c o u, H c = some (.frz o u) → H' c = some (.frz o u)) : BoxIs K C E e H' a t b B := by
  obtain ⟨fx, lo, up, ⟨⟨dx, f, h1, h2, h3⟩, h4, h5, h6, h7⟩, h8⟩ := h
  refine ⟨fx, lo, up, ⟨⟨dx, f, s _ _ h1 (by intro xs z; cases z), hE, ?_⟩, h4, h5, h6, h7⟩, h8⟩
  rcases h3 with h | h
  · rcases h with h | ⟨o, h⟩
    · exact .inl (.inl (s _ _ h (by intro xs z; cases z)))
    · exact .inl (.inr ⟨o, hf _ _ _ h⟩)
  · exact .inr h
theorem BoxIs.hop {C E e s : Addr} {H H' : Hp} {a : Addr} {t : Int} {b B : Box} {xs : List V} (h : BoxIs K C E e H a t b B) (k : Keep s H H') (hs : H s = some (.lst xs)) (hE : EqAt E H' e t b) : BoxIs K C E e H' a t b B :=
  h.move (k.solid hs) hE fun c o u q => k c _ q fun z => by rw [z, hs] at q; cases q

def spTrue (K : PySem.W.Frag) (C E : Addr) : Sp := fun vs H Q _ => ∃ (a e : Addr) (k t : Int) (b B : Box), vs = [.int k, .ref a] ∧ BoxIs K C E e H a t b B ∧
  ∀ H', Same H H' → Q (.bl (if k = 0 then decide (0 < (freeVariables B).length) else leafOk t B k)) H'
theorem ok_is_true_claim (T : Top K mg) : FnOk P w K mg base CX0 4 T.f_is_true_claim.a T.f_is_true_claim.d ["claim", "box"] (spTrue K T.c_Box T.c_Equation) := by
  refine T.f_is_true_claim.F.ok sc_is_true_claim (fun vs H Q E h => ?_) (fun cdv A outer s H vs Q E hr h => ⟨_, (pss_cons (ps_if (pt_cmpR op_eq (pv 0) (pe_glob rfl T.k_BISECTION.g T.k_BISECTION.r) (nomark _)) (pss_one (ps_ret (pe_cmpR op_gt (pe_meth0 (pv 1) T.l_Box.c T.m_Box_free_count (ok_Box_free_count T) (hr.mono (by decide)) T.f_Box_free_count.b .nil pass0) pe_int (nomark _)))) pss_nil)
    (pss_cons (ps_if (pt_cmpR op_eq (pv 0) (pe_glob rfl T.k_BY_RANGE.g T.k_BY_RANGE.r) (nomark _)) (pss_one (ps_ret (pe_meth0 (pv 1) T.l_Box.c T.m_Box_fails_range (ok_Box_fails_range T) (hr.mono (by decide)) T.f_Box_fails_range.b .nil pass0))) pss_nil)
    (pss_cons (ps_if (pt_cmpR op_eq (pv 0) (pe_glob rfl T.k_BY_DIVISIBILITY.g T.k_BY_DIVISIBILITY.r) (nomark _)) (pss_one (ps_ret (pe_meth0 (pv 1) T.l_Box.c T.m_Box_fails_divisibility (ok_Box_fails_divisibility T) (hr.mono (by decide)) T.f_Box_fails_divisibility.b .nil pass0))) pss_nil)
    (pss_one (ps_ret (pe_meth0 (pv 1) T.l_Box.c T.m_Box_fails_pair (ok_Box_fails_pair T) (hr.mono (by decide)) T.f_Box_fails_pair.b .nil pass0)))))), ?_⟩)
  · obtain ⟨a, e, k, t, b, B, rfl, _⟩ := h; rfl
  obtain ⟨a, e, j, t, b, B, rfl, hB, k⟩ := h
  have hB' := hB
  obtain ⟨fx, lo, up, hA, _⟩ := hB'
  obtain ⟨dx, f, h1, hE, hT⟩ := hA.ex
  refine ⟨_, rfl, rfl, _, rfl, iteEq (fun q => ?_) (fun q => ?_)⟩
  · have k := k H (Same.refl H)
    rw [if_pos q] at k
    refine ⟨_, rfl, a, dx, _, rfl, h1, rfl, a, e, t, b, B, rfl, hB, _, _, rfl, rfl, ?_⟩
    have e1 : decide ((0 : Int) < ((freeVariables B).length : Int)) = decide (0 < (freeVariables B).length) := decide_eq_decide.mpr (by omega)
    show Q (.bl (decide ((0 : Int) < ((freeVariables B).length : Int)))) H
    rw [e1]; exact k
  · rw [if_neg q] at k
    refine ⟨_, rfl, rfl, _, rfl, iteEq (fun q1 => ?_) (fun q1 => ?_)⟩
    · have k := k H (Same.refl H)
      unfold leafOk at k
      rw [if_pos q1] at k
      exact ⟨_, rfl, a, dx, _, rfl, h1, rfl, a, e, t, b, B, rfl, hB, k⟩
    · unfold leafOk at k
      rw [if_neg q1] at k
      refine ⟨_, rfl, rfl, _, rfl, iteEq (fun q2 => ?_) (fun q2 => ?_)⟩
      · rw [if_pos q2] at k
        exact ⟨_, rfl, a, dx, _, rfl, h1, rfl, a, e, t, b, B, rfl, hB, k H (Same.refl H)⟩
      · rw [if_neg q2] at k
        exact ⟨_, rfl, a, dx, _, rfl, h1, rfl, a, e, t, b, B, rfl, hB, k⟩

def spPush (K : PySem.W.Frag) (C E : Addr) : Sp := fun vs H Q _ => ∃ (s a e : Addr) (xs : List V) (t : Int) (b B x y : Box) (H0 : Hp), vs = [.ref s, .ref a] ∧ H s = some (.lst xs) ∧ xs.length + 2 ≤ sizeLine ∧ BoxIs K C E e H a t b B ∧ bisect B = some (x, y) ∧
  Same H0 H ∧ H0 s = none ∧ EqAt E H0 e t b ∧
  ∀ (H' : Hp) (l r : Addr), Keep s H H' → H' s = some (.lst (xs ++ [.ref r, .ref l])) → BoxIs K C E e H' l t b x → BoxIs K C E e H' r t b y → Q .non H'
theorem ok_push_halves (T : Top K mg) : FnOk P w K mg base CX0 6 T.f_push_halves.a T.f_push_halves.d ["boxes", "box"] (spPush K T.c_Box T.c_Equation) := by
  refine T.f_push_halves.F.ok sc_push_halves (fun vs H Q E h => ?_) (fun cdv A outer s H vs Q E hr h => ⟨_, (pss_cons (ps_asg (pe_meth0 (pv 1) T.l_Box.c T.m_Box_halves (ok_Box_halves T) (hr.mono (by decide)) T.f_Box_halves.b .nil pass0) (pg_tup (by rfl) (pgs_cons (pg_name (i := 2) sc_push_halves.nd rfl (Or.inl rfl)) (pgs_cons (pg_name (i := 3) sc_push_halves.nd rfl (Or.inl rfl)) pgs_nil))))
    (pss_cons (ps_expr (pe_bm PySem.F.plainAttrs_list PySem.F.slot_list_append PySem.F.type_list_append mt_append (pv 0) (pa_cons (pv 3) pa_nil)))
    (pss_one (ps_expr (pe_bm PySem.F.plainAttrs_list PySem.F.slot_list_append PySem.F.type_list_append mt_append (pv 0) (pa_cons (pv 2) pa_nil)))))), ?_⟩)
  · obtain ⟨s, a, e, xs, t, b, B, x, y, H0, rfl, _⟩ := h; rfl
  obtain ⟨s, a, e, xs, t, b, B, x, y, H0, rfl, hs, hsz, hB, hb, s0, n0, hE0, k⟩ := h
  have hB' := hB
  obtain ⟨fx, lo, up, hA, _⟩ := hB'
  obtain ⟨dx, f, h1, hE, hT⟩ := hA.ex
  refine ⟨_, rfl, a, dx, _, rfl, h1, rfl, a, e, t, b, B, x, y, rfl, hB, hb, fun H1 q l r s1 hq hl hr' => ?_⟩
  refine ⟨q, _, rfl, .inl (.inl hq), rfl, _, _, rfl, _, _, rfl, rfl, ?_⟩
  have hs1 := s1 _ _ hs
  refine ⟨_, rfl, .inl ⟨rfl, _, .inl (.inl hs1)⟩, _, rfl, s, _, _, rfl, rfl, hs1, by omega, ?_⟩
  have k2 : Keep s H1 (upd H1 s (.lst (xs ++ [.ref r]))) := Keep.upd
  have k3 : Keep s (upd H1 s (.lst (xs ++ [.ref r]))) (upd (upd H1 s (.lst (xs ++ [.ref r]))) s (.lst ((xs ++ [.ref r]) ++ [.ref l]))) := Keep.upd
  refine ⟨_, rfl, .inl ⟨rfl, _, .inl (.inl upd_same)⟩, _, rfl, s, _, _, rfl, rfl, upd_same, by rw [List.length_append]; show xs.length + 1 < _; omega, ?_⟩
  have E1 : EqAt T.c_Equation (upd (upd H1 s (.lst (xs ++ [.ref r]))) s (.lst ((xs ++ [.ref r]) ++ [.ref l]))) e t b := hE0.same (Same.upd n0 (Same.upd n0 (s0.trans s1)))
  refine k _ l r ?_ ?_ (hl.hop (k2.trans k3) hs1 E1) (hr'.hop (k2.trans k3) hs1 E1)
  · intro c o ec nc
    exact (k2.trans k3) c o (s1 c o ec) nc
  · rw [upd_same, List.append_assoc]; rfl

/-! ### certificates one behind the other -/
theorem seqC {v : V} {i : Nat} {b : TS} {D : L2.Ends} {σ σ' : L2.St} {H : Hp} (e : σ.set i (some v) = σ') (h : b D σ' H) : tSeq (tAsg (tC v) (gName i)) b D σ H := by
  show b D (σ.set i (some v)) H
  rw [e]; exact h
theorem oneC {v : V} {i : Nat} {D : L2.Ends} {σ σ' : L2.St} {H : Hp} (e : σ.set i (some v) = σ') (h : D.nx σ' H) : tAsg (tC v) (gName i) D σ H := by
  show D.nx (σ.set i (some v)) H
  rw [e]; exact h
/-- rows as lists at addresses -/
structure RowsAt (H : Hp) (rl : Addr) (xs : List (List Int)) : Prop where
  ex : ∃ ras : List Addr, H rl = some (.lst (ras.map V.ref)) ∧ ras.length = xs.length ∧ ∀ (i : Nat) (r : Addr), ras[i]? = some r → ∃ x, xs[i]? = some x ∧ H r = some (.lst (x.map V.int))
theorem RowsAt.same {H H' : Hp} {rl : Addr} {xs : List (List Int)} (h : RowsAt H rl xs) (s : Same H H') : RowsAt H' rl xs := by
  obtain ⟨ras, h1, h2, h3⟩ := h.ex
  exact ⟨ras, s _ _ h1, h2, fun i r e => by obtain ⟨x, g1, g2⟩ := h3 i r e; exact ⟨x, g1, s _ _ g2⟩⟩
theorem cut_mid (ns : List Int) (i j : Nat) (h : i ≤ ns.length) (h2 : j ≤ ns.length) : cutV (ns.map V.int) (some (i : Int)) (some (j : Int)) = ((ns.drop i).take (j - i)).map V.int := by
  unfold cutV
  rw [HT.sIx_nat, HT.sIx_nat, List.length_map, Nat.min_eq_left h, Nat.min_eq_left h2, ← List.map_drop, ← List.map_take]
/-- a row more -/
theorem RowsAt.more {H : Hp} {rl q : Addr} {xs : List (List Int)} {x : List Int} (h : RowsAt H rl xs) (hq : H q = some (.lst (x.map V.int))) (nq : q ≠ rl) :
    ∃ ras : List Addr, H rl = some (.lst (ras.map V.ref)) ∧ ras.length = xs.length ∧ RowsAt (upd H rl (.lst (ras.map V.ref ++ [.ref q]))) rl (xs ++ [x]) := by
  obtain ⟨ras, h1, h2, h3⟩ := h.ex
  refine ⟨ras, h1, h2, ras ++ [q], ?_, by rw [List.length_append, List.length_append, h2]; rfl, fun j r e => ?_⟩
  · rw [upd_same, List.map_append]; rfl
  · by_cases hj : j < ras.length
    · rw [List.getElem?_append_left hj] at e
      obtain ⟨y, y1, y2⟩ := h3 j r e
      have : r ≠ rl := fun z => by
        rw [z, h1] at y2
        injection y2 with y2
        injection y2 with y2
        have m : V.ref r ∈ ras.map V.ref := List.mem_map.mpr ⟨r, List.mem_of_getElem? e, rfl⟩
        rw [y2] at m
        obtain ⟨u, _, hu⟩ := List.mem_map.mp m
        cases hu
      exact ⟨y, by rw [List.getElem?_append_left (by omega)]; exact y1, by rw [upd_ne this]; exact y2⟩
    · have hj2 : j = ras.length := by
        have := (List.getElem?_eq_some_iff.mp e).1
        rw [List.length_append] at this
        have : j < ras.length + 1 := this
        omega
      subst hj2
      rw [List.getElem?_append_right (Nat.le_refl _), Nat.sub_self] at e
      obtain rfl := Option.some.inj e
      exact ⟨x, by rw [h2, List.getElem?_append_right (Nat.le_refl _), Nat.sub_self]; rfl, by rw [upd_ne nq]; exact hq⟩
def spSep (K : PySem.W.Frag) : Sp := fun vs H Q _ => ∃ (a : Addr) (l : List Int), vs = [.ref a] ∧ SqL K H a (l.map V.int) ∧ l.length ≤ 3000 ∧ (sepOf l = none → ∀ H', Same H H' → Q .non H') ∧
  ∀ xs, sepOf l = some xs → ∀ (H' : Hp) (rl : Addr), Same H H' → RowsAt H' rl xs → Q (.ref rl) H'
/-- where the reading of certificates stands -/
structure SepAt (H H' : Hp) (rl : Addr) (l : List Int) (i st m : Nat) (done : List (List Int)) : Prop where
  same : Same H H'
  rows : RowsAt H' rl done
  le : st ≤ i
  few : done.length ≤ i
  eq : sepOf l = (sepGo m ((l.drop st).take (i - st)) (l.drop i)).map (done ++ ·)
theorem take_snoc {l : List Int} {st i : Nat} {z : Int} (h : st ≤ i) (hz : l[i]? = some z) : (l.drop st).take (i + 1 - st) = (l.drop st).take (i - st) ++ [z] := by
  have e : i + 1 - st = (i - st) + 1 := by omega
  rw [e]
  refine take_more ?_
  rw [List.getElem?_drop, show st + (i - st) = i by omega, hz]
theorem ok_separated (T : Top K mg) : FnOk P w K mg base CX0 1 T.f_separated.a T.f_separated.d ["claims"] (spSep K) := by
  refine T.f_separated.F.ok sc_separated (fun vs H Q E h => ?_) (fun cdv A outer s H vs Q E hr h => ⟨_, (pss_cons (ps_set (i := 1) sc_separated.nd rfl (Or.inl rfl) (pe_lst pa_nil))
    (pss_cons (ps_set (i := 2) sc_separated.nd rfl (Or.inl rfl) pe_int)
    (pss_cons (ps_set (i := 3) sc_separated.nd rfl (Or.inl rfl) pe_int)
    (pss_cons (ps_for PassesOwn.never rfl (pi_enum (by rfl) T.b_enumerate (pa_cons (pv 0) pa_nil)) (pg_tup (by rfl) (pgs_cons (pg_name (i := 4) sc_separated.nd rfl (Or.inl rfl)) (pgs_cons (pg_name (i := 5) sc_separated.nd rfl (Or.inl rfl)) pgs_nil))) (pss_cons (ps_if (pt_not (pt_chain op_le op_le (pe_glob rfl T.k_BISECTION.g T.k_BISECTION.r) (pv 5) (pe_glob rfl T.k_BY_PAIR.g T.k_BY_PAIR.r))) (pss_one (ps_ret pe_non)) pss_nil)
    (pss_cons (ps_aug (i := 3) sc_separated.nd rfl (Or.inl rfl) (pe_ifExp (pt_cmpR op_eq (pv 5) (pe_glob rfl T.k_BISECTION.g T.k_BISECTION.r) (nomark _)) pe_int (pe_un un_neg pe_int)) ip_add)
    (pss_one (ps_if (pt_cmpR op_eq (pv 3) pe_int (nomark _)) (pss_cons (ps_expr (pe_bm PySem.F.plainAttrs_list PySem.F.slot_list_append PySem.F.type_list_append mt_append (pv 1) (pa_cons (pe_slice sl_list (pv 0) (po_some (pv 2)) (po_some (pe_op op_add (pv 4) pe_int))) pa_nil)))
    (pss_cons (ps_set (i := 2) sc_separated.nd rfl (Or.inl rfl) (pe_op op_add (pv 4) pe_int))
    (pss_one (ps_set (i := 3) sc_separated.nd rfl (Or.inl rfl) pe_int)))) pss_nil)))))
    (pss_one (ps_ret (pe_ifExp (pt_cmpR op_eq (pv 2) (pe_callB call_len_seq (by rfl) T.b_len PySem.boot_len (pa_cons (pv 0) pa_nil)) (nomark _)) (pv 1) pe_non))))))), ?_⟩)
  · obtain ⟨a, l, rfl, _⟩ := h; rfl
  obtain ⟨a, l, rfl, hS, hl, k0, k1⟩ := h
  refine ⟨Nat.zero_le _, fun rl hrl => ?_⟩
  have s0 : Same H (upd H rl (.lst [])) := same_new hrl
  refine ⟨_, rfl, a, _, rfl, s0.seq hS, ?_⟩
  refine for_it (walk_enum (K := K) (a := a) (xs := l.map V.int)) (fun i σ H' => ∃ (st m : Nat) (done : List (List Int)) (u v : Option V), σ = [some (.ref a), some (.ref rl), some (.int st), some (.int ((m + 1 : Nat) : Int)), u, v] ∧ SepAt H H' rl l i st m done)
    ⟨0, 0, [], none, none, rfl, s0, ⟨[], upd_same, rfl, fun i r e => by cases e⟩, Nat.le_refl _, Nat.le_refl _, ?_⟩ (fun i σ H' _ ⟨_, _, _, _, _, _, S⟩ => S.same.seq hS) ?_ ?_
  · show sepOf l = (sepOf l).map ([] ++ ·)
    cases sepOf l <;> rfl
  · rintro i x σ H1 H2 hi ⟨st, m, done, u, v, rfl, S⟩ ⟨T1, x0, y0, rfl, hT, rfl, hx, hy⟩
    obtain rfl := Option.some.inj hx
    obtain ⟨z, hz, rfl⟩ := getI hy
    have hil : i < l.length := (List.getElem?_eq_some_iff.mp hz).1
    have hd : l.drop i = z :: l.drop (i + 1) := by
      have h2 := (List.getElem?_eq_some_iff.mp hz)
      rw [← h2.2]
      exact List.drop_eq_getElem_cons h2.1
    have s2 : Same H1 (upd H1 T1 (.tup [.int i, .int z])) := same_new hT
    have eq := S.eq
    rw [hd, sep_step, ← take_snoc S.le hz] at eq
    refine ⟨T1, _, rfl, .inl (.inl upd_same), rfl, _, _, rfl, _, _, rfl, rfl, ?_⟩
    have sH := S.same.trans s2
    have rows := S.rows.same s2
    have le := S.le
    have few := S.few
    generalize upd H1 T1 (.tup [.int i, .int z]) = H3 at sH rows ⊢
    have bad : z ≠ 0 → ¬ (z = 1 ∨ z = 2 ∨ z = 3) → Q .non H3 := fun z0 z1 => by
      rw [if_neg z0, if_neg z1] at eq
      exact k0 eq H3 sH
    refine ⟨_, rfl, _, _, rfl, rfl, _, rfl, iteD (fun q1 => ?_) (fun q1 => ?_)⟩
    · refine ⟨_, _, rfl, rfl, _, rfl, ?_⟩
      by_cases q2 : z ≤ 3
      · rw [decide_eq_true q2]
        refine iteF ?_
        refine ⟨_, rfl, _, rfl, rfl, _, rfl, iteEq (fun q3 => ?_) (fun q3 => ?_)⟩
        · rw [if_pos q3] at eq
          refine ⟨_, _, rfl, rfl, ?_⟩
          have e1 : ((m + 1 : Nat) : Int) + 1 = ((m + 1 + 1 : Nat) : Int) := by omega
          refine slots (σ' := [some (.ref a), some (.ref rl), some (.int st), some (.int ((m + 1 + 1 : Nat) : Int)), some (.int i), some (.int z)]) (by rw [← e1]; rfl) ?_
          refine ⟨_, rfl, rfl, _, rfl, iteEq (fun q => by omega) (fun _ => ?_)⟩
          exact ⟨st, m + 1, done, _, _, rfl, sH, rows, by omega, by omega, eq⟩
        · rw [if_neg q3, if_pos (by omega)] at eq
          refine ⟨_, rfl, _, _, rfl, rfl, ?_⟩
          have e1 : ((m + 1 : Nat) : Int) + -1 = (m : Int) := by omega
          refine slots (σ' := [some (.ref a), some (.ref rl), some (.int st), some (.int m), some (.int i), some (.int z)]) (by rw [← e1]; rfl) ?_
          refine ⟨_, rfl, rfl, _, rfl, iteEq (fun q => ?_) (fun q => ?_)⟩
          · have m0 : m = 0 := by omega
            subst m0
            have e2 : (i : Int) + 1 = ((i + 1 : Nat) : Int) := by omega
            obtain ⟨ras, hr1, _, _⟩ := rows.ex
            refine ⟨_, rfl, .inl ⟨rfl, _, .inl (.inl hr1)⟩, _, rfl, _, rfl, _, rfl, _, rfl, _, _, rfl, rfl, _, rfl, a, _, rfl, sH.seq hS, fun q hq => ?_⟩
            rw [e2, cut_mid l _ _ (by omega) (by omega)]
            have s3 : Same H3 (upd H3 q (.lst (((l.drop st).take (i + 1 - st)).map V.int))) := same_new hq
            have q3 : (upd H3 q (.lst (((l.drop st).take (i + 1 - st)).map V.int))) q = some (.lst (((l.drop st).take (i + 1 - st)).map V.int)) := upd_same
            have nq : q ≠ rl := fun e => by rw [e, hr1] at hq; cases hq
            obtain ⟨ras2, hr2, hl2, more⟩ := (rows.same s3).more q3 nq
            have s4 := sH.trans s3
            clear sH rows s3
            generalize upd H3 q (.lst (((l.drop st).take (i + 1 - st)).map V.int)) = H4 at q3 hr2 more s4 ⊢
            refine ⟨rl, _, _, rfl, rfl, hr2, by rw [List.length_map, sizeLine_eq]; omega, ?_⟩
            refine ⟨_, rfl, _, _, rfl, rfl, ?_⟩
            refine slots (σ' := [some (.ref a), some (.ref rl), some (.int ((i + 1 : Nat) : Int)), some (.int ((0 : Nat) : Int)), some (.int i), some (.int z)]) (by rw [← e2]; rfl) ?_
            refine ⟨i + 1, 0, done ++ [(l.drop st).take (i + 1 - st)], _, _, rfl, Same.upd hrl s4, more, Nat.le_refl _, by rw [List.length_append]; show _ + 1 ≤ _; omega, ?_⟩
            rw [eq, Nat.sub_self, List.take_zero]
            cases sepGo 0 [] (l.drop (i + 1)) with
            | none => rfl
            | some ys =>
              show some (done ++ (_ :: ys)) = some (done ++ [_] ++ ys)
              rw [List.append_assoc]; rfl
          · obtain ⟨m', rfl⟩ : ∃ m', m = m' + 1 := ⟨m - 1, by omega⟩
            exact ⟨st, m', done, _, _, rfl, sH, rows, by omega, by omega, eq⟩
      · rw [decide_eq_false q2]
        exact iteT (bad (by omega) (by omega))
    · exact ⟨_, rfl, iteT (bad (by omega) (by omega))⟩
  · rintro σ H' ⟨st, m, done, u, v, rfl, S⟩
    have eq := S.eq
    have le := S.le
    rw [List.length_map] at eq le
    have e0 : sepOf l = if (l.drop st).take (l.length - st) = [] then some done else none := by
      rw [eq, List.drop_length]
      have e1 : sepGo m ((l.drop st).take (l.length - st)) [] = if (l.drop st).take (l.length - st) = [] then some [] else none := by cases m <;> rfl
      rw [e1]
      split
      · show some (done ++ []) = _
        rw [List.append_nil]
      · rfl
    refine ⟨_, rfl, _, rfl, a, _, rfl, .inl (S.same.seq hS), rfl, _, rfl, iteEq (fun q => ?_) (fun q => ?_)⟩
    · rw [List.length_map] at q
      have : l.length - st = 0 := by omega
      rw [this, List.take_zero, if_pos rfl] at e0
      exact ⟨_, rfl, k1 done e0 H' rl S.same S.rows⟩
    · rw [List.length_map] at q
      rw [if_neg ?_] at e0
      · exact k0 e0 H' S.same
      · intro z
        have z := congrArg List.length z
        rw [List.length_take, List.length_drop] at z
        have z : min (l.length - st) (l.length - st) = 0 := z
        omega

/-! ### is_one_certificate -/
def spOne (K : PySem.W.Frag) : Sp := fun vs H Q _ => ∃ (a : Addr) (l : List Int), vs = [.ref a] ∧ SqL K H a (l.map V.int) ∧ l.length ≤ 3000 ∧ ∀ H', Same H H' → Q (.bl (oneOf 1 l)) H'
theorem ok_is_one_certificate (T : Top K mg) : FnOk P w K mg base CX0 2 T.f_is_one_certificate.a T.f_is_one_certificate.d ["claims"] (spOne K) := by
  refine T.f_is_one_certificate.F.ok sc_is_one_certificate (fun vs H Q E h => ?_) (fun cdv A outer s H vs Q E hr h => ⟨_, (pss_cons (ps_set (i := 1) sc_is_one_certificate.nd rfl (Or.inl rfl) (pe_call (ok_separated T) (hr.mono (by decide)) rfl T.g_separated T.f_separated.F.kp T.f_separated.b .nil pass0 (pa_cons (pv 0) pa_nil)))
    (pss_one (ps_ret (pe_and (pe_cmp (pc_notN (pv 1)) rfl) (pe_one (pe_cmpR op_eq (pe_callB call_len_seq (by rfl) T.b_len PySem.boot_len (pa_cons (pv 1) pa_nil)) pe_int (nomark _))))))), ?_⟩)
  · obtain ⟨a, l, rfl, _⟩ := h; rfl
  obtain ⟨a, l, rfl, hS, hl, k⟩ := h
  have e0 := sep_one l
  refine ⟨_, rfl, a, l, rfl, hS, hl, fun hn H' s1 => ?_, fun xs hx H' rl s1 hrl => ?_⟩
  · rw [hn] at e0
    rw [← e0] at k
    exact ⟨_, rfl, _, rfl, iteF (k H' s1)⟩
  · rw [hx] at e0
    rw [← e0] at k
    obtain ⟨ras, h1, h2, _⟩ := hrl.ex
    refine ⟨_, rfl, _, rfl, iteT ⟨_, rfl, rl, _, rfl, .inl (.inl (.inl h1)), rfl, ?_⟩⟩
    have e2 : decide (V.int ((ras.map V.ref).length : Int) = V.int 1) = lenIs1 (some xs) := decide_eq_decide.mpr (by
      rw [List.length_map, h2]
      exact ⟨fun z => by injection z with z; omega, fun z => by rw [z]; rfl⟩)
    show Q (.bl (decide (V.int ((ras.map V.ref).length : Int) = V.int 1))) H'
    rw [e2]
    exact k H' s1
end Ov
end

section
set_option Elab.async false
set_option linter.all false
set_option maxRecDepth 100000
set_option maxHeartbeats 8000000
/-! certificates: checked -/
namespace Ov
open PySem PySem.Spec PyProof.Rows L2
open Vaviwc (Box Variable freeVariables isFree minSum maxSum isOutOfRange violatesDivisibility twoVariableSolution bisect solveDirectly)
variable {P : Program} {w : World} {K : PySem.W.Frag} {mg : Str → Option Value} {base : Heap}

/-- boxes on a stack, the top first -/
abbrev Stk := List (Addr × Box)
def Stk.vals (st : Stk) : List V := (st.map fun p => V.ref p.1).reverse
def Stk.boxes (st : Stk) : List Box := st.map (·.2)
theorem Stk.len (st : Stk) : st.vals.length = st.length := by unfold Stk.vals; simp
theorem Stk.top (p : Addr × Box) (st : Stk) : (Stk.vals (p :: st))[(Stk.vals (p :: st)).length - 1]? = some (.ref p.1) := by
  have e : Stk.vals (p :: st) = Stk.vals st ++ [.ref p.1] := by unfold Stk.vals; simp
  rw [e]; simp
theorem Stk.pop (p : Addr × Box) (st : Stk) : (Stk.vals (p :: st)).dropLast = Stk.vals st := by
  have e : Stk.vals (p :: st) = Stk.vals st ++ [.ref p.1] := by unfold Stk.vals; simp
  rw [e, List.dropLast_concat]
theorem Stk.push (p q : Addr × Box) (st : Stk) : Stk.vals st ++ [.ref q.1, .ref p.1] = Stk.vals (p :: q :: st) := by unfold Stk.vals; simp
theorem Stk.nonempty (p : Addr × Box) (st : Stk) : (Stk.vals (p :: st)).isEmpty = false := by
  have := Stk.len (p :: st)
  cases h : Stk.vals (p :: st) with
  | nil => rw [h] at this; simp at this
  | cons _ _ => rfl
/-- the boxes of a stack lie in the heap -/
def StkAt (K : PySem.W.Frag) (C E e : Addr) (H : Hp) (t : Int) (b : Box) (st : Stk) : Prop := ∀ p ∈ st, BoxIs K C E e H p.1 t b p.2
theorem StkAt.hop {C E e s : Addr} {H H' : Hp} {t : Int} {b : Box} {st : Stk} {xs : List V} (h : StkAt K C E e H t b st) (k : Keep s H H') (hs : H s = some (.lst xs)) (hE : EqAt E H' e t b) : StkAt K C E e H' t b st :=
  fun p hp => (h p hp).hop k hs hE
theorem StkAt.same {C E e : Addr} {H H' : Hp} {t : Int} {b : Box} {st : Stk} (h : StkAt K C E e H t b st) (k : Same H H') : StkAt K C E e H' t b st :=
  fun p hp => (h p hp).same k

def spValid (K : PySem.W.Frag) (E : Addr) : Sp := fun vs H Q _ => ∃ (e a : Addr) (t : Int) (b : Box) (l : List Int), vs = [.ref e, .ref a] ∧ EqAt E H e t b ∧ FineB b ∧ SmallT t ∧ SqL K H a (l.map V.int) ∧ l.length ≤ 3000 ∧ oneOf 1 l = true ∧
  ∀ H', Same H H' → Q (.bl (onClaims t [b] l)) H'
theorem bis_some {b : Box} {fx : List Int} {lo up : Int} (h : At b fx lo up) (q : 0 < (freeVariables (narrow b fx lo up)).length) : ∃ x y, bisect (narrow b fx lo up) = some (x, y) := by
  rw [count_is h] at q
  have hl : fx.length < (freeVariables b).length := by omega
  exact ⟨_, _, bisect_narrow b fx lo up hl (h.more hl).2.1⟩
theorem bis_none {B : Box} (q : ¬ 0 < (freeVariables B).length) : bisect B = none := bisect_none B (List.eq_nil_of_length_eq_zero (by omega))
theorem ok_is_valid (T : Top K mg) : FnOk P w K mg base CX0 7 T.f_is_valid.a T.f_is_valid.d ["equation", "certificate"] (spValid K T.c_Equation) := by
  refine T.f_is_valid.F.ok sc_is_valid (fun vs H Q E h => ?_) (fun cdv A outer s H vs Q E hr h => ⟨_, (pss_cons (ps_set (i := 2) sc_is_valid.nd rfl (Or.inl rfl) (pe_lst (pa_cons (pe_call (ok_whole_box T) (hr.mono (by decide)) rfl T.g_whole_box T.f_whole_box.F.kp T.f_whole_box.b .nil pass0 (pa_cons (pv 0) pa_nil)) pa_nil)))
    (pss_cons (ps_for PassesOwn.never rfl (pi_list (pv 1)) (pg_name (i := 3) sc_is_valid.nd rfl (Or.inl rfl)) (pss_cons (ps_set (i := 4) sc_is_valid.nd rfl (Or.inl rfl) (pe_bm0 PySem.F.plainAttrs_list PySem.F.slot_list_pop PySem.F.type_list_pop mt_pop (pv 2)))
    (pss_cons (ps_if (pt_not (pt_val (pe_call (ok_is_true_claim T) (hr.mono (by decide)) rfl T.g_is_true_claim T.f_is_true_claim.F.kp T.f_is_true_claim.b .nil pass0 (pa_cons (pv 3) (pa_cons (pv 4) pa_nil))))) (pss_one (ps_ret pe_bl)) pss_nil)
    (pss_one (ps_if (pt_cmpR op_eq (pv 3) (pe_glob rfl T.k_BISECTION.g T.k_BISECTION.r) (nomark _)) (pss_one (ps_expr (pe_call (ok_push_halves T) (hr.mono (by decide)) rfl T.g_push_halves T.f_push_halves.F.kp T.f_push_halves.b .nil pass0 (pa_cons (pv 2) (pa_cons (pv 4) pa_nil))))) pss_nil)))))
    (pss_one (ps_ret pe_bl)))), ?_⟩)
  · obtain ⟨e, a, t, b, l, rfl, _⟩ := h; rfl
  obtain ⟨e, a, t, b, l, rfl, hE, hf, hst, hS, hl, h1, k⟩ := h
  refine ⟨_, rfl, e, t, b, rfl, hE, hf, hst, fun H1 p s1 hB => ⟨one_ok, fun st hst' => ?_⟩⟩
  have n0 : H st = none := s1.free hst'
  refine ⟨_, rfl, a, rfl, ⟨_, Same.seq (s1.trans (same_new hst')) hS⟩, for_list (K := K) (a := a) (xs := l.map V.int)
    (fun i σ H' => ∃ (sk : Stk) (m : Nat) (u v : Option V), σ = [some (.ref e), some (.ref a), some (.ref st), u, v] ∧ Same H H' ∧ H' st = some (.lst (Stk.vals sk)) ∧ StkAt K T.c_Box T.c_Equation e H' t b sk ∧
      onClaims t [b] l = onClaims t (Stk.boxes sk) (l.drop i) ∧ oneOf sk.length (l.drop i) = true ∧ sk.length ≤ i + 1)
    ⟨[(p, b)], 0, none, none, rfl, s1.trans (same_new hst'), upd_same, ?_, rfl, h1, Nat.le_refl _⟩ (fun i σ H' _ ⟨_, _, _, _, _, s2, _⟩ => s2.seq hS) ?_ ?_⟩
  · intro q hq
    have : q = (p, b) := by simpa using hq
    subst this
    exact hB.same (same_new hst')
  · rintro i y σ H' hi ⟨sk, m0, u, v, rfl, s2, hst2, hB2, hc, ho, hlen⟩
    obtain ⟨z, hz, rfl⟩ := getI hi
    have hil : i < l.length := (List.getElem?_eq_some_iff.mp hz).1
    have hd : l.drop i = z :: l.drop (i + 1) := by
      have h2 := (List.getElem?_eq_some_iff.mp hz)
      rw [← h2.2]
      exact List.drop_eq_getElem_cons h2.1
    rw [hd] at hc ho
    match sk, ho with
    | (c, B) :: sk, ho =>
    have hBc := hB2 (c, B) List.mem_cons_self
    have hE2 := hE.same s2
    -- box = boxes.pop()
    refine ⟨_, rfl, .inl ⟨rfl, _, .inl (.inl hst2)⟩, st, _, _, rfl, rfl, hst2, Stk.top _ _, ?_⟩
    rw [Stk.pop]
    have kp : Keep st H' (upd H' st (.lst (Stk.vals sk))) := Keep.upd
    have s3 : Same H (upd H' st (.lst (Stk.vals sk))) := Same.upd n0 s2
    have hE3 := hE.same s3
    have hBc3 := hBc.hop kp hst2 hE3
    have hB3 : StkAt K T.c_Box T.c_Equation e (upd H' st (.lst (Stk.vals sk))) t b sk := fun q hq => (hB2 q (List.mem_cons_of_mem _ hq)).hop kp hst2 hE3
    have st3 : (upd H' st (.lst (Stk.vals sk))) st = some (.lst (Stk.vals sk)) := upd_same
    generalize upd H' st (.lst (Stk.vals sk)) = H3 at kp s3 hE3 hBc3 hB3 st3 ⊢
    refine slots (σ' := [some (.ref e), some (.ref a), some (.ref st), some (.int z), some (.ref c)]) rfl ?_
    refine ⟨_, rfl, _, rfl, c, e, z, t, b, B, rfl, hBc3, fun H4 s4 => ?_⟩
    have hc1 : onClaims t (Stk.boxes ((c, B) :: sk)) (z :: l.drop (i + 1)) = (if z = 0 then (match bisect B with
      | some (x, y) => onClaims t (x :: y :: Stk.boxes sk) (l.drop (i + 1))
      | none => false) else leafOk t B z && onClaims t (Stk.boxes sk) (l.drop (i + 1))) := rfl
    rw [hc1] at hc
    have ho1 : oneOf ((c, B) :: sk).length (z :: l.drop (i + 1)) = (if z = 0 then oneOf (sk.length + 2) (l.drop (i + 1)) else if z = 1 ∨ z = 2 ∨ z = 3 then oneOf sk.length (l.drop (i + 1)) else false) := rfl
    rw [ho1] at ho
    refine ⟨_, rfl, ?_⟩
    by_cases z0 : z = 0
    · rw [if_pos z0] at hc ho ⊢
      by_cases hf0 : 0 < (freeVariables B).length
      · rw [decide_eq_true hf0]
        refine iteF ⟨_, rfl, rfl, _, rfl, iteEq (fun _ => ?_) (fun q => absurd z0 q)⟩
        have hBc3' := hBc3
        obtain ⟨fx, lo, up, hA, hBe⟩ := hBc3'
        obtain ⟨x, y, hxy⟩ := bis_some hA.at_ (hBe ▸ hf0)
        rw [← hBe] at hxy
        rw [hxy] at hc
        refine ⟨_, rfl, _, rfl, st, c, e, _, t, b, B, x, y, H, rfl, s4 _ _ st3, ?_, hBc3.same s4, hxy, s3.trans s4, n0, hE, fun H5 lft rgt k5 h5 hx hy => ?_⟩
        · rw [Stk.len, sizeLine_eq]
          have : ((c, B) :: sk).length = sk.length + 1 := rfl
          omega
        · have s5 : Same H H5 := fun q o eo => k5 q o ((s3.trans s4) q o eo) (ne_of_none eo n0)
          refine ⟨(lft, x) :: (rgt, y) :: sk, 0, _, _, rfl, s5, ?_, fun q hq => ?_, hc, ho, ?_⟩
          · rw [← Stk.push]; exact h5
          · rcases List.mem_cons.mp hq with e1 | hq
            · subst e1; exact hx
            · rcases List.mem_cons.mp hq with e1 | hq
              · subst e1; exact hy
              · exact ((hB3 q hq).same s4).hop k5 (s4 _ _ st3) (hE.same s5)
          · show sk.length + 1 + 1 ≤ _
            have : ((c, B) :: sk).length = sk.length + 1 := rfl
            omega
      · rw [bis_none hf0] at hc
        rw [decide_eq_false hf0]
        refine iteT ?_
        have k := k H4 (s3.trans s4)
        rw [hc] at k
        exact k
    · rw [if_neg z0] at hc ho ⊢
      cases hk : leafOk t B z with
      | false =>
        rw [hk, Bool.false_and] at hc
        refine iteT ?_
        have k := k H4 (s3.trans s4)
        rw [hc] at k
        exact k
      | true =>
        rw [hk, Bool.true_and] at hc
        refine iteF ⟨_, rfl, rfl, _, rfl, iteEq (fun q => absurd q z0) (fun _ => ?_)⟩
        have ho2 : oneOf sk.length (l.drop (i + 1)) = true := by
          by_cases q : z = 1 ∨ z = 2 ∨ z = 3
          · rw [if_pos q] at ho; exact ho
          · rw [if_neg q] at ho; cases ho
        refine ⟨sk, 0, _, _, rfl, s3.trans s4, s4 _ _ st3, hB3.same s4, hc, ho2, ?_⟩
        have : ((c, B) :: sk).length = sk.length + 1 := rfl
        omega
  · rintro σ H' ⟨sk, m0, u, v, rfl, s2, hst2, hB2, hc, ho, hlen⟩
    rw [List.length_map, List.drop_length] at hc ho
    have e : onClaims t [b] l = true := by rw [hc]; cases Stk.boxes sk <;> rfl
    have k := k H' s2
    rw [e] at k
    exact k
end Ov
end

section
set_option Elab.async false
set_option linter.all false
set_option maxRecDepth 100000
set_option maxHeartbeats 8000000
/-! own errors made; the search -/
namespace Ov
open PySem PySem.Spec PyProof.Rows L2
open Vaviwc (Box Variable freeVariables isFree minSum maxSum isOutOfRange violatesDivisibility twoVariableSolution bisect solveDirectly)
variable {P : Program} {w : World} {K : PySem.W.Frag} {mg : Str → Option Value} {base : Heap}

theorem ok_Refusal_init (T : Top K mg) : FnOk P w K mg base CX0 1 T.f_Refusal_init.a T.f_Refusal_init.d ["self", "code"] (spR K T.c_Refusal) := by
  refine T.f_Refusal_init.F.ok sc_Refusal_init (fun vs H Q E h => ?_) (fun cdv A outer s H vs Q E hr h => ⟨_, pss_one (ps_rst (R := T.c_Refusal) (pv 0) (pv 1)), ?_⟩)
  · obtain ⟨a, C, z, rfl, _⟩ := h; rfl
  obtain ⟨a, C, z, rfl, hR, ha, k⟩ := h
  exact ⟨_, rfl, _, rfl, a, C, rfl, hR, hR.noC, ha, k⟩
theorem ok_NoSuchRegister_init (T : Top K mg) : FnOk P w K mg base CX0 2 T.f_NoSuchRegister_init.a T.f_NoSuchRegister_init.d ["self"] (spS K T.c_Refusal (.int (-10))) := by
  refine T.f_NoSuchRegister_init.F.ok sc_NoSuchRegister_init (fun vs H Q E h => ?_) (fun cdv A outer s H vs Q E hr h => ⟨_, (pss_one (ps_expr (pe_base T.base_Refusal (ok_Refusal_init T) (hr.mono (by decide)) T.f_Refusal_init.b (pa_cons (pv 0) (pa_cons (pe_un un_neg pe_int) pa_nil))))), ?_⟩)
  · obtain ⟨a, C, rfl, _⟩ := h; rfl
  obtain ⟨a, C, rfl, hR, ha, k⟩ := h
  exact ⟨_, rfl, _, rfl, a, C, _, rfl, hR, ha, k⟩
theorem ok_ArrayLengthOutOfRange_init (T : Top K mg) : FnOk P w K mg base CX0 2 T.f_ArrayLengthOutOfRange_init.a T.f_ArrayLengthOutOfRange_init.d ["self"] (spS K T.c_Refusal (.int (-11))) := by
  refine T.f_ArrayLengthOutOfRange_init.F.ok sc_ArrayLengthOutOfRange_init (fun vs H Q E h => ?_) (fun cdv A outer s H vs Q E hr h => ⟨_, (pss_one (ps_expr (pe_base T.base_Refusal (ok_Refusal_init T) (hr.mono (by decide)) T.f_Refusal_init.b (pa_cons (pv 0) (pa_cons (pe_un un_neg pe_int) pa_nil))))), ?_⟩)
  · obtain ⟨a, C, rfl, _⟩ := h; rfl
  obtain ⟨a, C, rfl, hR, ha, k⟩ := h
  exact ⟨_, rfl, _, rfl, a, C, _, rfl, hR, ha, k⟩
theorem ok_NotAnIndex_init (T : Top K mg) : FnOk P w K mg base CX0 2 T.f_NotAnIndex_init.a T.f_NotAnIndex_init.d ["self"] (spS K T.c_Refusal (.int (-12))) := by
  refine T.f_NotAnIndex_init.F.ok sc_NotAnIndex_init (fun vs H Q E h => ?_) (fun cdv A outer s H vs Q E hr h => ⟨_, (pss_one (ps_expr (pe_base T.base_Refusal (ok_Refusal_init T) (hr.mono (by decide)) T.f_Refusal_init.b (pa_cons (pv 0) (pa_cons (pe_un un_neg pe_int) pa_nil))))), ?_⟩)
  · obtain ⟨a, C, rfl, _⟩ := h; rfl
  obtain ⟨a, C, rfl, hR, ha, k⟩ := h
  exact ⟨_, rfl, _, rfl, a, C, _, rfl, hR, ha, k⟩
theorem ok_NotAxes_init (T : Top K mg) : FnOk P w K mg base CX0 2 T.f_NotAxes_init.a T.f_NotAxes_init.d ["self"] (spS K T.c_Refusal (.int (-21))) := by
  refine T.f_NotAxes_init.F.ok sc_NotAxes_init (fun vs H Q E h => ?_) (fun cdv A outer s H vs Q E hr h => ⟨_, (pss_one (ps_expr (pe_base T.base_Refusal (ok_Refusal_init T) (hr.mono (by decide)) T.f_Refusal_init.b (pa_cons (pv 0) (pa_cons (pe_un un_neg pe_int) pa_nil))))), ?_⟩)
  · obtain ⟨a, C, rfl, _⟩ := h; rfl
  obtain ⟨a, C, rfl, hR, ha, k⟩ := h
  exact ⟨_, rfl, _, rfl, a, C, _, rfl, hR, ha, k⟩
theorem ok_AxisLengthOutOfRange_init (T : Top K mg) : FnOk P w K mg base CX0 2 T.f_AxisLengthOutOfRange_init.a T.f_AxisLengthOutOfRange_init.d ["self"] (spS K T.c_Refusal (.int (-22))) := by
  refine T.f_AxisLengthOutOfRange_init.F.ok sc_AxisLengthOutOfRange_init (fun vs H Q E h => ?_) (fun cdv A outer s H vs Q E hr h => ⟨_, (pss_one (ps_expr (pe_base T.base_Refusal (ok_Refusal_init T) (hr.mono (by decide)) T.f_Refusal_init.b (pa_cons (pv 0) (pa_cons (pe_un un_neg pe_int) pa_nil))))), ?_⟩)
  · obtain ⟨a, C, rfl, _⟩ := h; rfl
  obtain ⟨a, C, rfl, hR, ha, k⟩ := h
  exact ⟨_, rfl, _, rfl, a, C, _, rfl, hR, ha, k⟩
theorem ok_ViewTooLarge_init (T : Top K mg) : FnOk P w K mg base CX0 2 T.f_ViewTooLarge_init.a T.f_ViewTooLarge_init.d ["self"] (spS K T.c_Refusal (.int (-23))) := by
  refine T.f_ViewTooLarge_init.F.ok sc_ViewTooLarge_init (fun vs H Q E h => ?_) (fun cdv A outer s H vs Q E hr h => ⟨_, (pss_one (ps_expr (pe_base T.base_Refusal (ok_Refusal_init T) (hr.mono (by decide)) T.f_Refusal_init.b (pa_cons (pv 0) (pa_cons (pe_un un_neg pe_int) pa_nil))))), ?_⟩)
  · obtain ⟨a, C, rfl, _⟩ := h; rfl
  obtain ⟨a, C, rfl, hR, ha, k⟩ := h
  exact ⟨_, rfl, _, rfl, a, C, _, rfl, hR, ha, k⟩
theorem ok_CellOutsideArray_init (T : Top K mg) : FnOk P w K mg base CX0 2 T.f_CellOutsideArray_init.a T.f_CellOutsideArray_init.d ["self"] (spS K T.c_Refusal (.int (-24))) := by
  refine T.f_CellOutsideArray_init.F.ok sc_CellOutsideArray_init (fun vs H Q E h => ?_) (fun cdv A outer s H vs Q E hr h => ⟨_, (pss_one (ps_expr (pe_base T.base_Refusal (ok_Refusal_init T) (hr.mono (by decide)) T.f_Refusal_init.b (pa_cons (pv 0) (pa_cons (pe_un un_neg pe_int) pa_nil))))), ?_⟩)
  · obtain ⟨a, C, rfl, _⟩ := h; rfl
  obtain ⟨a, C, rfl, hR, ha, k⟩ := h
  exact ⟨_, rfl, _, rfl, a, C, _, rfl, hR, ha, k⟩
theorem ok_NotVariables_init (T : Top K mg) : FnOk P w K mg base CX0 2 T.f_NotVariables_init.a T.f_NotVariables_init.d ["self"] (spS K T.c_Refusal (.int (-25))) := by
  refine T.f_NotVariables_init.F.ok sc_NotVariables_init (fun vs H Q E h => ?_) (fun cdv A outer s H vs Q E hr h => ⟨_, (pss_one (ps_expr (pe_base T.base_Refusal (ok_Refusal_init T) (hr.mono (by decide)) T.f_Refusal_init.b (pa_cons (pv 0) (pa_cons (pe_un un_neg pe_int) pa_nil))))), ?_⟩)
  · obtain ⟨a, C, rfl, _⟩ := h; rfl
  obtain ⟨a, C, rfl, hR, ha, k⟩ := h
  exact ⟨_, rfl, _, rfl, a, C, _, rfl, hR, ha, k⟩
theorem ok_VariableOutOfRange_init (T : Top K mg) : FnOk P w K mg base CX0 2 T.f_VariableOutOfRange_init.a T.f_VariableOutOfRange_init.d ["self"] (spS K T.c_Refusal (.int (-26))) := by
  refine T.f_VariableOutOfRange_init.F.ok sc_VariableOutOfRange_init (fun vs H Q E h => ?_) (fun cdv A outer s H vs Q E hr h => ⟨_, (pss_one (ps_expr (pe_base T.base_Refusal (ok_Refusal_init T) (hr.mono (by decide)) T.f_Refusal_init.b (pa_cons (pv 0) (pa_cons (pe_un un_neg pe_int) pa_nil))))), ?_⟩)
  · obtain ⟨a, C, rfl, _⟩ := h; rfl
  obtain ⟨a, C, rfl, hR, ha, k⟩ := h
  exact ⟨_, rfl, _, rfl, a, C, _, rfl, hR, ha, k⟩
theorem ok_SearchLimitExceeded_init (T : Top K mg) : FnOk P w K mg base CX0 2 T.f_SearchLimitExceeded_init.a T.f_SearchLimitExceeded_init.d ["self"] (spS K T.c_Refusal (.int (-30))) := by
  refine T.f_SearchLimitExceeded_init.F.ok sc_SearchLimitExceeded_init (fun vs H Q E h => ?_) (fun cdv A outer s H vs Q E hr h => ⟨_, (pss_one (ps_expr (pe_base T.base_Refusal (ok_Refusal_init T) (hr.mono (by decide)) T.f_Refusal_init.b (pa_cons (pv 0) (pa_cons (pe_un un_neg pe_int) pa_nil))))), ?_⟩)
  · obtain ⟨a, C, rfl, _⟩ := h; rfl
  obtain ⟨a, C, rfl, hR, ha, k⟩ := h
  exact ⟨_, rfl, _, rfl, a, C, _, rfl, hR, ha, k⟩
theorem ok_TooManyElements_init (T : Top K mg) : FnOk P w K mg base CX0 2 T.f_TooManyElements_init.a T.f_TooManyElements_init.d ["self"] (spS K T.c_Refusal (.int (-31))) := by
  refine T.f_TooManyElements_init.F.ok sc_TooManyElements_init (fun vs H Q E h => ?_) (fun cdv A outer s H vs Q E hr h => ⟨_, (pss_one (ps_expr (pe_base T.base_Refusal (ok_Refusal_init T) (hr.mono (by decide)) T.f_Refusal_init.b (pa_cons (pv 0) (pa_cons (pe_un un_neg pe_int) pa_nil))))), ?_⟩)
  · obtain ⟨a, C, rfl, _⟩ := h; rfl
  obtain ⟨a, C, rfl, hR, ha, k⟩ := h
  exact ⟨_, rfl, _, rfl, a, C, _, rfl, hR, ha, k⟩
theorem ok_NotOneCertificate_init (T : Top K mg) : FnOk P w K mg base CX0 2 T.f_NotOneCertificate_init.a T.f_NotOneCertificate_init.d ["self"] (spS K T.c_Refusal (.int (-33))) := by
  refine T.f_NotOneCertificate_init.F.ok sc_NotOneCertificate_init (fun vs H Q E h => ?_) (fun cdv A outer s H vs Q E hr h => ⟨_, (pss_one (ps_expr (pe_base T.base_Refusal (ok_Refusal_init T) (hr.mono (by decide)) T.f_Refusal_init.b (pa_cons (pv 0) (pa_cons (pe_un un_neg pe_int) pa_nil))))), ?_⟩)
  · obtain ⟨a, C, rfl, _⟩ := h; rfl
  obtain ⟨a, C, rfl, hR, ha, k⟩ := h
  exact ⟨_, rfl, _, rfl, a, C, _, rfl, hR, ha, k⟩
/-- how an error with a code leaves a def -/
def Out (H : Hp) (E : XK) (C : Addr) (z : Int) : Prop := ∀ (H' : Hp) (d : Addr), Same H H' → H' d = some (.xd [(("code" : Str), .int z)]) → E (.ref C) (some d) H'
theorem Out.now {H H1 : Hp} {E : XK} {C : Addr} {z : Int} (h : Out H E C z) (s : Same H H1) : ∀ d, H1 d = none → E (.ref C) (some d) (upd H1 d (.xd [(("code" : Str), .int z)])) :=
  fun d hd => h _ d (s.trans (same_new hd)) upd_same
theorem Out.mono {H H1 : Hp} {E : XK} {C : Addr} {z : Int} (h : Out H E C z) (s : Same H H1) : Out H1 E C z := fun H' d s' hd => h H' d (s.trans s') hd

def spSearch (K : PySem.W.Frag) (Eq X : Addr) : Sp := fun vs H Q E => ∃ (e : Addr) (t : Int) (b : Box) (n : Nat), vs = [.ref e, .int n] ∧ EqAt Eq H e t b ∧ FineB b ∧ SmallT t ∧ n ≤ 1000000 ∧
  (∀ v, onStack t [b] n = .found v → ∀ (H' : Hp) (q v' cl : Addr), Same H H' → H' q = some (.tup [.ref v', .ref cl]) → H' v' = some (.lst (v.map V.int)) → Q (.ref q) H') ∧
  (∀ l, onStack t [b] n = .none_ l → ∀ (H' : Hp) (q cl : Addr), Same H H' → H' q = some (.tup [.non, .ref cl]) → H' cl = some (.lst (l.map V.int)) → Q (.ref q) H') ∧
  (onStack t [b] n = .limit → Out H E X (-30))
/-- where the search stands -/
structure SeaAt (K : PySem.W.Frag) (C Eq : Addr) (H H' : Hp) (e cl s : Addr) (t : Int) (b : Box) (n m : Nat) (sk : Stk) (cs : List Int) : Prop where
  same : Same H H'
  hcl : H' cl = some (.lst (cs.map V.int))
  hs : H' s = some (.lst (Stk.vals sk))
  at_ : StkAt K C Eq e H' t b sk
  len : sk.length ≤ cs.length + 1
  cnt : cs.length + m = n
  eq : onStack t [b] n = Ends.pre cs (onStack t (Stk.boxes sk) m)
theorem SeaAt.claim {C Eq : Addr} {H H1 : Hp} {e cl s : Addr} {t : Int} {b : Box} {n m : Nat} {sk : Stk} {cs : List Int} (k : Int) (n0 : H cl = none) (ncs : cl ≠ s) (hE : EqAt Eq H e t b) (same : Same H H1) (hcl : H1 cl = some (.lst (cs.map V.int))) (hs : H1 s = some (.lst (Stk.vals sk)))
    (at_ : StkAt K C Eq e H1 t b sk) (len : sk.length ≤ cs.length + 2) (cnt : cs.length + (m + 1) = n) (eq : onStack t [b] n = Ends.pre (cs ++ [k]) (onStack t (Stk.boxes sk) m)) :
    SeaAt K C Eq H (upd H1 cl (.lst (cs.map V.int ++ [.int k]))) e cl s t b n m sk (cs ++ [k]) := by
  have s2 : Same H (upd H1 cl (.lst (cs.map V.int ++ [.int k]))) := Same.upd n0 same
  refine ⟨s2, ?_, ?_, at_.hop Keep.upd hcl (hE.same s2), ?_, ?_, eq⟩
  · rw [upd_same, List.map_append]; rfl
  · rw [upd_ne ncs.symm]; exact hs
  · rw [List.length_append]; show _ ≤ cs.length + 1 + 1; omega
  · rw [List.length_append]; show cs.length + 1 + m = n; omega
theorem pre_none {cs : List Int} {x : Ends} {l : List Int} (h : Ends.pre cs x = .none_ l) : ∃ r, x = .none_ r ∧ l = cs ++ r := by
  cases x with
  | found v => cases h
  | none_ r => cases h; exact ⟨r, rfl, rfl⟩
  | limit => cases h
theorem ok_search (T : Top K mg) : FnOk P w K mg base (L2.CX P w) 8 T.f_search.a T.f_search.d ["equation", "box_limit"] (spSearch K T.c_Equation T.c_SearchLimitExceeded) := by
  refine T.f_search.F.okX sc_search (fun vs H Q E h => ?_) (fun cdv A outer s H vs Q E hr h => ⟨_, (pss_cons (ps_set (i := 2) sc_search.nd rfl (Or.inl rfl) (pe_lst pa_nil))
    (pss_cons (ps_set (i := 3) sc_search.nd rfl (Or.inl rfl) (pe_lst (pa_cons (pe_call (ok_whole_box T) (hr.mono (by decide)) rfl T.g_whole_box T.f_whole_box.F.kp T.f_whole_box.b .nil pass0 (pa_cons (pv 0) pa_nil)) pa_nil)))
    (pss_cons (ps_while (passes_of rfl) (pt_truth (pv 3) (by intro _; rfl)) (pss_cons (ps_if (pt_cmpR op_eq (pe_callB call_len_seq (by rfl) T.b_len PySem.boot_len (pa_cons (pv 2) pa_nil)) (pv 1) (nomark _)) (pss_one (ps_raise rfl (takes_of rfl rfl rfl rfl) (pmk_ref T.x_SearchLimitExceeded (ok_SearchLimitExceeded_init T) (hr.mono (by decide)) T.f_SearchLimitExceeded_init.b))) pss_nil)
    (pss_cons (ps_set (i := 4) sc_search.nd rfl (Or.inl rfl) (pe_bm0 PySem.F.plainAttrs_list PySem.F.slot_list_pop PySem.F.type_list_pop mt_pop (pv 3)))
    (pss_cons (ps_set (i := 5) sc_search.nd rfl (Or.inl rfl) (pe_glob rfl T.k_BY_PAIR.g T.k_BY_PAIR.r))
    (pss_cons (ps_if (pt_val (pe_meth0 (pv 4) T.l_Box.c T.m_Box_fails_range (ok_Box_fails_range T) (hr.mono (by decide)) T.f_Box_fails_range.b .nil pass0)) (pss_one (ps_set (i := 5) sc_search.nd rfl (Or.inl rfl) (pe_glob rfl T.k_BY_RANGE.g T.k_BY_RANGE.r))) (pss_one (ps_if (pt_val (pe_meth0 (pv 4) T.l_Box.c T.m_Box_fails_divisibility (ok_Box_fails_divisibility T) (hr.mono (by decide)) T.f_Box_fails_divisibility.b .nil pass0)) (pss_one (ps_set (i := 5) sc_search.nd rfl (Or.inl rfl) (pe_glob rfl T.k_BY_DIVISIBILITY.g T.k_BY_DIVISIBILITY.r))) (pss_one (ps_if (pt_cmpR op_gt (pe_meth0 (pv 4) T.l_Box.c T.m_Box_free_count (ok_Box_free_count T) (hr.mono (by decide)) T.f_Box_free_count.b .nil pass0) pe_int (nomark _)) (pss_cons (ps_set (i := 5) sc_search.nd rfl (Or.inl rfl) (pe_glob rfl T.k_BISECTION.g T.k_BISECTION.r))
    (pss_one (ps_expr (pe_call (ok_push_halves T) (hr.mono (by decide)) rfl T.g_push_halves T.f_push_halves.F.kp T.f_push_halves.b .nil pass0 (pa_cons (pv 3) (pa_cons (pv 4) pa_nil)))))) (pss_cons (ps_set (i := 6) sc_search.nd rfl (Or.inl rfl) (pe_call (ok_least_values T) (hr.mono (by decide)) rfl T.g_least_values T.f_least_values.F.kp T.f_least_values.b .nil pass0 (pa_cons (pv 4) pa_nil)))
    (pss_one (ps_if (pt_cmpR op_notN (pv 6) pe_non (nomark _)) (pss_one (ps_ret (pe_tup (pa_cons (pe_meth (pv 0) T.l_Equation.c T.m_Equation_full_solution (ok_Equation_full_solution T) (hr.mono (by decide)) T.f_Equation_full_solution.b .nil pass0 (pa_cons (pv 6) pa_nil)) (pa_cons (pv 2) pa_nil))))) pss_nil))))))))
    (pss_one (ps_expr (pe_bm PySem.F.plainAttrs_list PySem.F.slot_list_append PySem.F.type_list_append mt_append (pv 2) (pa_cons (pv 5) pa_nil)))))))))
    (pss_one (ps_ret (pe_tup (pa_cons pe_non (pa_cons (pv 2) pa_nil)))))))), ?_⟩)
  · obtain ⟨e, t, b, n, rfl, _⟩ := h; rfl
  obtain ⟨e, t, b, n, rfl, hE, hf, hst, hn, kF, kN, kL⟩ := h
  refine ⟨Nat.zero_le _, fun cl hcl => ?_⟩
  have s1 : Same H (upd H cl (.lst [])) := same_new hcl
  refine ⟨_, rfl, e, t, b, rfl, hE.same s1, hf, hst, fun H2 p s2 hB => ⟨one_ok, fun st hst' => ?_⟩⟩
  have nst : H st = none := (s1.trans s2).free hst'
  have cl2 : H2 cl = some (.lst []) := s2 _ _ upd_same
  have ncs : cl ≠ st := ne_of_none cl2 hst'
  refine slots (σ' := [some (.ref e), some (.int n), some (.ref cl), some (.ref st), none, none, none]) rfl ?_
  refine ⟨fun m σ H' => ∃ (sk : Stk) (cs : List Int) (u v x : Option V), σ = [some (.ref e), some (.int n), some (.ref cl), some (.ref st), u, v, x] ∧ SeaAt K T.c_Box T.c_Equation H H' e cl st t b n m sk cs,
    ⟨n, [(p, b)], [], none, none, none, rfl, ?_⟩, ?_⟩
  · refine ⟨(s1.trans s2).trans (same_new hst'), (upd_ne ncs).trans cl2, upd_same, fun q hq => ?_, Nat.le_refl _, Nat.zero_add _, (Ends.pre_nil _).symm⟩
    have e1 : q = (p, b) := by simpa using hq
    subst e1
    exact hB.same (same_new hst')
  · rintro m σ H' ⟨sk, cs, u, v, x, rfl, S⟩
    have hE' := hE.same S.same
    refine ⟨_, rfl, !(Stk.vals sk).isEmpty, .inl ⟨_, .inl (.inl S.hs), rfl⟩, ?_⟩
    match sk, S with
    | [], S =>
      refine iteF ?_
      -- return (None, claims)
      refine ⟨_, rfl, two_ok, fun q hq => ?_⟩
      have e1 : onStack t [b] n = .none_ cs := by
        rw [S.eq]
        show Ends.none_ (cs ++ []) = _
        rw [List.append_nil]
      exact kN cs e1 _ q cl (S.same.trans (same_new hq)) upd_same (same_new hq _ _ S.hcl)
    | (c, B) :: sk, S =>
      rw [Stk.nonempty]
      refine iteT ⟨fun σ' H3 => ∃ m', m' < m ∧ ∃ (sk : Stk) (cs : List Int) (u v x : Option V), σ' = [some (.ref e), some (.int n), some (.ref cl), some (.ref st), u, v, x] ∧ SeaAt K T.c_Box T.c_Equation H H3 e cl st t b n m' sk cs, fun _ _ q => q, ?_⟩
      have S2 := S
      refine ⟨_, rfl, cl, _, rfl, .inl (.inl (.inl S.hcl)), _, rfl, rfl, _, rfl, iteEq (fun q => ?_) (fun q => ?_)⟩
      · -- the limit
        rw [List.length_map] at q
        have hm0 : m = 0 := by have := S.cnt; omega
        subst hm0
        have e1 : onStack t [b] n = .limit := by rw [S.eq]; rfl
        exact (kL e1).now S.same
      · rw [List.length_map] at q
        obtain ⟨m', rfl⟩ : ∃ m', m = m' + 1 := ⟨m - 1, by have := S.cnt; omega⟩
        have hBc := S.at_ (c, B) List.mem_cons_self
        refine ⟨_, rfl, .inl ⟨rfl, _, .inl (.inl S.hs)⟩, st, _, _, rfl, rfl, S.hs, Stk.top _ _, ?_⟩
        rw [Stk.pop]
        have kp : Keep st H' (upd H' st (.lst (Stk.vals sk))) := Keep.upd
        have s3 : Same H (upd H' st (.lst (Stk.vals sk))) := Same.upd nst S.same
        have hE3 := hE.same s3
        have hBc3 := hBc.hop kp S.hs hE3
        have hB3 : StkAt K T.c_Box T.c_Equation e (upd H' st (.lst (Stk.vals sk))) t b sk := fun q hq => (S.at_ q (List.mem_cons_of_mem _ hq)).hop kp S.hs hE3
        have st3 : (upd H' st (.lst (Stk.vals sk))) st = some (.lst (Stk.vals sk)) := upd_same
        have cl3 : (upd H' st (.lst (Stk.vals sk))) cl = some (.lst (cs.map V.int)) := (upd_ne ncs).trans S.hcl
        have len3 : sk.length ≤ cs.length := by have := S.len; have e2 : ((c, B) :: sk).length = sk.length + 1 := rfl; omega
        have cnt3 := S.cnt
        have eq3 : onStack t [b] n = Ends.pre cs (onStack t (B :: Stk.boxes sk) (m' + 1)) := S.eq
        clear S S2
        generalize upd H' st (.lst (Stk.vals sk)) = H3 at kp s3 hE3 hBc3 hB3 st3 cl3 ⊢
        have csz : (cs.map V.int).length < sizeLine := by rw [List.length_map, sizeLine_eq]; omega
        have hBc3' := hBc3
        obtain ⟨fx, lo, up, hA, hBe⟩ := hBc3'
        obtain ⟨dx, f, h1, _, hT⟩ := hA.ex
        refine slots (σ' := [some (.ref e), some (.int n), some (.ref cl), some (.ref st), some (.ref c), v, x]) rfl ?_
        -- claim = BY_PAIR
        refine seqC (σ' := [some (.ref e), some (.int n), some (.ref cl), some (.ref st), some (.ref c), some (.int 3), x]) rfl ?_
        refine ⟨_, rfl, c, dx, _, rfl, h1, rfl, c, e, t, b, B, rfl, hBc3, _, rfl, iteB (fun hR => ?_) (fun hR => ?_)⟩
        · -- by range
          refine oneC (σ' := [some (.ref e), some (.int n), some (.ref cl), some (.ref st), some (.ref c), some (.int 1), x]) rfl ?_
          refine ⟨_, rfl, .inl ⟨rfl, _, .inl (.inl cl3)⟩, _, rfl, cl, _, _, rfl, rfl, cl3, csz, m', Nat.lt_succ_self _, sk, cs ++ [1], _, _, _, rfl, ?_⟩
          refine SeaAt.claim 1 hcl ncs hE s3 cl3 st3 hB3 (by omega) cnt3 ?_
          rw [eq3, on_leaf t B _ m' .range (directR hR), Ends.pre_pre]; rfl
        · refine ⟨_, rfl, c, dx, _, rfl, h1, rfl, c, e, t, b, B, rfl, hBc3, _, rfl, iteB (fun hD => ?_) (fun hD => ?_)⟩
          · -- by divisibility
            refine oneC (σ' := [some (.ref e), some (.int n), some (.ref cl), some (.ref st), some (.ref c), some (.int 2), x]) rfl ?_
            refine ⟨_, rfl, .inl ⟨rfl, _, .inl (.inl cl3)⟩, _, rfl, cl, _, _, rfl, rfl, cl3, csz, m', Nat.lt_succ_self _, sk, cs ++ [2], _, _, _, rfl, ?_⟩
            refine SeaAt.claim 2 hcl ncs hE s3 cl3 st3 hB3 (by omega) cnt3 ?_
            rw [eq3, on_leaf t B _ m' .divisibility (directD hR hD), Ends.pre_pre]; rfl
          · refine ⟨_, rfl, c, dx, _, rfl, h1, rfl, c, e, t, b, B, rfl, hBc3, _, _, rfl, rfl, _, rfl, iteD (fun h2 => ?_) (fun h2 => ?_)⟩
            · -- bisection
              have h2' : 2 < (freeVariables B).length := by omega
              refine seqC (σ' := [some (.ref e), some (.int n), some (.ref cl), some (.ref st), some (.ref c), some (.int 0), x]) rfl ?_
              obtain ⟨y1, y2, hxy⟩ := bis_some hA.at_ (hBe ▸ (Nat.lt_trans (by decide) h2' : 0 < (freeVariables B).length))
              rw [← hBe] at hxy
              refine ⟨_, rfl, _, rfl, st, c, e, _, t, b, B, y1, y2, H, rfl, st3, ?_, hBc3, hxy, s3, nst, hE, fun H5 lft rgt k5 h5 hx hy => ?_⟩
              · rw [Stk.len, sizeLine_eq]; omega
              · have s5 : Same H H5 := fun q o eo => k5 q o (s3 q o eo) (ne_of_none eo nst)
                have cl5 := k5 _ _ cl3 ncs
                refine ⟨_, rfl, .inl ⟨rfl, _, .inl (.inl cl5)⟩, _, rfl, cl, _, _, rfl, rfl, cl5, csz, m', Nat.lt_succ_self _, (lft, y1) :: (rgt, y2) :: sk, cs ++ [0], _, _, _, rfl, ?_⟩
                refine SeaAt.claim 0 hcl ncs hE s5 cl5 ?_ (fun q hq => ?_) ?_ cnt3 ?_
                · rw [← Stk.push]; exact h5
                · rcases List.mem_cons.mp hq with e1 | hq
                  · subst e1; exact hx
                  · rcases List.mem_cons.mp hq with e1 | hq
                    · subst e1; exact hy
                    · exact (hB3 q hq).hop k5 st3 (hE.same s5)
                · show sk.length + 1 + 1 ≤ _; omega
                · rw [eq3, on_cut t B y1 y2 _ m' (direct3 hR hD h2') hxy, Ends.pre_pre]; rfl
            · -- solved or refuted
              have h2' : (freeVariables B).length ≤ 2 := by omega
              refine ⟨_, rfl, c, e, t, b, B, rfl, hBc3, h2', hR, hD, fun hz => ?_, fun xs hz hxl H4 q4 s4 h4 => ?_⟩
              · refine slots (σ' := [some (.ref e), some (.int n), some (.ref cl), some (.ref st), some (.ref c), some (.int 3), some .non]) rfl ?_
                refine ⟨_, rfl, rfl, _, rfl, iteF ?_⟩
                refine ⟨_, rfl, .inl ⟨rfl, _, .inl (.inl cl3)⟩, _, rfl, cl, _, _, rfl, rfl, cl3, csz, m', Nat.lt_succ_self _, sk, cs ++ [3], _, _, _, rfl, ?_⟩
                refine SeaAt.claim 3 hcl ncs hE s3 cl3 st3 hB3 (by omega) cnt3 ?_
                rw [eq3, on_leaf t B _ m' .twoVariables hz, Ends.pre_pre]; rfl
              · refine slots (σ' := [some (.ref e), some (.int n), some (.ref cl), some (.ref st), some (.ref c), some (.int 3), some (.ref q4)]) rfl ?_
                obtain ⟨dy, pl, cc, uu, lt, gt, dv, pm, pi, g1, gL, gP⟩ := (hE3.same s4).ex
                refine ⟨_, rfl, rfl, _, rfl, iteT ?_⟩
                refine ⟨_, rfl, e, dy, _, rfl, g1, rfl, _, rfl, e, q4, t, b, xs, rfl, hE3.same s4, hf.len, .inl (.inl h4), hxl, fun H5 q5 s5 h5 => ?_⟩
                refine ⟨_, rfl, two_ok, fun q6 hq6 => ?_⟩
                have e1 : onStack t [b] n = .found (spread b xs) := by rw [eq3, on_found t B _ m' _ hz]; rfl
                exact kF _ e1 _ q6 q5 cl (((s3.trans s4).trans s5).trans (same_new hq6)) upd_same (same_new hq6 _ _ h5)
end Ov
end

section
set_option Elab.async false
set_option linter.all false
set_option maxRecDepth 100000
set_option maxHeartbeats 8000000
/-! arguments read -/
namespace Ov
open PySem PySem.Spec PyProof.Rows L2
open VaviwBase (View Axis)
open Vaviwc (Box Variable freeVariables isFree variablesArgument axesArgument isNaturalUpToMax)
variable {P : Program} {w : World} {K : PySem.W.Frag} {mg : Str → Option Value} {base : Heap}

theorem evens_eq : ∀ l : List Int, evens l = evensI l
  | [] => by simp [evens, evensI]
  | [_] => by simp [evens, evensI]
  | x :: y :: r => by
    have := evens_eq r
    show x :: evens r = x :: evensI r
    rw [this]
theorem evens_V (l : List Int) (o : Nat) : evens ((l.map V.int).drop o) = (evensI (l.drop o)).map V.int := by
  rw [← List.map_drop, evens_map, evens_eq]
/-- how an error of one of the text's own classes leaves a def -/
def OutAny (K : PySem.W.Frag) (R : Addr) (H : Hp) (E : XK) (z : Int) : Prop := ∀ C : Addr, ErrC K R C → Out H E C z
theorem OutAny.mono {R : Addr} {H H1 : Hp} {E : XK} {z : Int} (h : OutAny K R H E z) (s : Same H H1) : OutAny K R H1 E z := fun C hC => (h C hC).mono s

def spPairs (K : PySem.W.Frag) : Sp := fun vs H Q _ => ∃ (a : Addr) (k : Int) (xs : List V), vs = [.ref a, .int k] ∧ SqL K H a xs ∧ k.natAbs < 2 ^ 64 ∧ Q (.bl (decide (xs.length % 2 = 0) && decide ((xs.length : Int) ≤ 2 * k))) H
theorem ok_is_pairs (T : Top K mg) : FnOk P w K mg base CX0 1 T.f_is_pairs.a T.f_is_pairs.d ["row", "limit"] (spPairs K) := by
  refine T.f_is_pairs.F.ok sc_is_pairs (fun vs H Q E h => ?_) (fun cdv A outer s H vs Q E hr h => ⟨_, (pss_one (ps_ret (pe_and (pe_cmpR op_eq (pe_op op_modN (pe_callB call_len_seq (by rfl) T.b_len PySem.boot_len (pa_cons (pv 0) pa_nil)) pe_int) pe_int (nomark _)) (pe_one (pe_cmpR op_le (pe_callB call_len_seq (by rfl) T.b_len PySem.boot_len (pa_cons (pv 0) pa_nil)) (pe_op op_mulW pe_int (pv 1)) (nomark _)))))), ?_⟩)
  · obtain ⟨a, k, xs, rfl, _⟩ := h; rfl
  obtain ⟨a, j, xs, rfl, hS, hj, k⟩ := h
  have e : decide (V.int ((xs.length : Int).fmod 2) = V.int 0) = decide (xs.length % 2 = 0) := by
    rw [Int.fmod_eq_emod_of_nonneg _ (by decide)]
    exact decide_eq_decide.mpr ⟨fun z => by injection z with z; omega, fun z => by congr 1; omega⟩
  refine ⟨_, rfl, a, _, rfl, .inl hS, _, _, rfl, rfl, (show (2 : Int) ≠ 0 by decide), rfl, _, rfl, ?_⟩
  show if (decide (V.int ((xs.length : Int).fmod 2) = V.int 0)) = true then _ else _
  rw [e]
  refine iteB (fun q => ?_) (fun q => ?_)
  · rw [q, Bool.true_and] at k
    exact ⟨_, rfl, a, _, rfl, .inl hS, _, rfl, _, _, rfl, rfl, wide_mul (a := 64) (b := 64) (by decide) hj (by decide) (by decide) (by decide), _, _, rfl, rfl, k⟩
  · rw [q, Bool.false_and] at k
    exact k

def spCounted : Sp := fun vs H Q _ => ∃ (a : Addr) (l : List Int), vs = [.ref a] ∧ H a = some (.lst (l.map V.int)) ∧ l.length < 10000000 ∧ ∀ (H' : Hp) (q : Addr), Same H H' → H' q = some (.lst (((l.length : Int) :: l).map V.int)) → Q (.ref q) H'
theorem ok_counted (T : Top K mg) : FnOk P w K mg base CX0 1 T.f_counted.a T.f_counted.d ["row"] spCounted := by
  refine T.f_counted.F.ok sc_counted (fun vs H Q E h => ?_) (fun cdv A outer s H vs Q E hr h => ⟨_, (pss_one (ps_ret (pe_op op_cat (pe_lst (pa_cons (pe_callB call_len_seq (by rfl) T.b_len PySem.boot_len (pa_cons (pv 0) pa_nil)) pa_nil)) (pv 0)))), ?_⟩)
  · obtain ⟨a, l, rfl, _⟩ := h; rfl
  obtain ⟨a, l, rfl, ha, hl, k⟩ := h
  refine ⟨_, rfl, a, _, rfl, .inl (.inl (.inl ha)), one_ok, fun p hp => ⟨_, rfl, p, a, _, _, rfl, rfl, upd_same, same_new hp _ _ ha, ?_, fun q hq => ?_⟩⟩
  · rw [List.length_map, sizeLine_eq]; show 1 + l.length ≤ _; omega
  · refine k _ q ((same_new hp).trans (same_new hq)) ?_
    rw [upd_same, List.length_map]; rfl

/-- a certificate that is handed in -/
def spValidity (K : PySem.W.Frag) (E R : Addr) : Sp := fun vs H Q E' => ∃ (e a : Addr) (t : Int) (b : Box) (l : List Int), vs = [.ref e, .ref a] ∧ EqAt E H e t b ∧ FineB b ∧ SmallT t ∧ SqL K H a (l.map V.int) ∧ l.length ≤ 3000 ∧
  (∀ c, Vaviwc.certificateArgument l = .ok c → ∀ (H' : Hp) (q : Addr), Same H H' → H' q = some (.lst ((Vaviwc.encodeBool (Vaviwc.isValid t b c)).map V.int)) → H q = none → Q (.ref q) H') ∧
  (∀ z, Vaviwc.certificateArgument l = .error z → OutAny K R H E' z)
theorem ok_validity (T : Top K mg) : FnOk P w K mg base (L2.CX P w) 8 T.f_validity.a T.f_validity.d ["equation", "certificate"] (spValidity K T.c_Equation T.c_Refusal) := by
  refine T.f_validity.F.okX sc_validity (fun vs H Q E h => ?_) (fun cdv A outer s H vs Q E hr h => ⟨_, (pss_cons (ps_if (pt_not (pt_val (pe_call (ok_is_one_certificate T) (hr.mono (by decide)) rfl T.g_is_one_certificate T.f_is_one_certificate.F.kp T.f_is_one_certificate.b .nil pass0 (pa_cons (pv 1) pa_nil)))) (pss_one (ps_raise rfl (takes_of rfl rfl rfl rfl) (pmk_ref T.x_NotOneCertificate (ok_NotOneCertificate_init T) (hr.mono (by decide)) T.f_NotOneCertificate_init.b))) pss_nil)
    (pss_one (ps_ret (pe_lst (pa_cons (pe_ifExp (pt_val (pe_call (ok_is_valid T) (hr.mono (by decide)) rfl T.g_is_valid T.f_is_valid.F.kp T.f_is_valid.b .nil pass0 (pa_cons (pv 0) (pa_cons (pv 1) pa_nil)))) pe_int pe_int) pa_nil))))), ?_⟩)
  · obtain ⟨e, a, t, b, l, rfl, _⟩ := h; rfl
  obtain ⟨e, a, t, b, l, rfl, hE, hf, hst, hS, hl, k1, k2⟩ := h
  refine ⟨_, rfl, a, l, rfl, hS, hl, fun H0 s0 => ⟨_, rfl, ?_⟩⟩
  cases ho : oneOf 1 l with
  | false =>
    exact iteT ((k2 _ (cert_no ho) T.c_NotOneCertificate T.x_NotOneCertificate.te).now s0)
  | true =>
    obtain ⟨c, hc, hcc⟩ := cert_yes ho
    refine iteF ⟨_, rfl, _, rfl, e, a, t, b, l, rfl, hE.same s0, hf, hst, s0.seq hS, hl, ho, fun H' s1 => ⟨_, rfl, ?_⟩⟩
    have s' := s0.trans s1
    have e1 : onClaims t [b] l = Vaviwc.isValid t b c := by rw [hc]; exact claims_one t b c
    rw [e1]
    have k1 := k1 c hcc
    cases hv : Vaviwc.isValid t b c with
    | true =>
      rw [hv] at k1
      exact iteT ⟨one_ok, fun q hq => k1 _ q (s'.trans (same_new hq)) upd_same (s'.free hq)⟩
    | false =>
      rw [hv] at k1
      exact iteF ⟨one_ok, fun q hq => k1 _ q (s'.trans (same_new hq)) upd_same (s'.free hq)⟩

theorem all_abs (l : List Int) : ((l.filter fun _ => true).map fun z => decide ((if z < 0 then -z else z) ≤ 1000000000000000000)).all id = l.all fun z => decide (z.natAbs ≤ VaviwBase.maxInteger) := by
  rw [List.filter_eq_self.mpr (fun _ _ => rfl), List.all_map]
  congr 1
  funext z
  show decide ((if z < 0 then -z else z) ≤ 1000000000000000000) = decide (z.natAbs ≤ 1000000000000000000)
  exact decide_eq_decide.mpr (by split <;> omega)
theorem all_nat (l : List Int) : ((l.filter fun _ => true).map fun z => decide (0 ≤ z) && decide (z ≤ 1000000000000000000)).all id = l.all isNaturalUpToMax := by
  rw [List.filter_eq_self.mpr (fun _ _ => rfl), List.all_map]; rfl

def spEqFrom (K : PySem.W.Frag) (Eq R : Addr) : Sp := fun vs H Q E => ∃ (a : Addr) (t : Int) (l : List Int), vs = [.int t, .ref a] ∧ SqL K H a (l.map V.int) ∧ l.length ≤ 100 ∧
  (∀ b, variablesArgument l = .ok b → FineB b → ∀ (H' : Hp) (p : Addr), Same H H' → EqAt Eq H' p t b → Q (.ref p) H') ∧ (∀ z, variablesArgument l = .error z → OutAny K R H E z)
theorem ok_equation_from (T : Top K mg) : FnOk P w K mg base (L2.CX P w) 5 T.f_equation_from.a T.f_equation_from.d ["target", "variables"] (spEqFrom K T.c_Equation T.c_Refusal) := by
  refine T.f_equation_from.F.okX sc_equation_from (fun vs H Q E h => ?_) (fun cdv A outer s H vs Q E hr h => ⟨_, (pss_cons (ps_if (pt_not (pt_val (pe_call (ok_is_pairs T) (hr.mono (by decide)) rfl T.g_is_pairs T.f_is_pairs.F.kp T.f_is_pairs.b .nil pass0 (pa_cons (pv 1) (pa_cons (pe_glob rfl T.k_VARIABLE_LIMIT.g T.k_VARIABLE_LIMIT.r) pa_nil))))) (pss_one (ps_raise rfl (takes_of rfl rfl rfl rfl) (pmk_ref T.x_NotVariables (ok_NotVariables_init T) (hr.mono (by decide)) T.f_NotVariables_init.b))) pss_nil)
    (pss_cons (ps_set (i := 2) sc_equation_from.nd rfl (Or.inl rfl) (pe_sl2 (pv 1)))
    (pss_cons (ps_set (i := 3) sc_equation_from.nd rfl (Or.inl rfl) (pe_sl2 (pv 1)))
    (pss_cons (ps_if (pt_not (pt_val (pe_callB (cr_all rfl) (by rfl) T.b_all (by decide +kernel) (pa_cons (pe_lc (own := [("coefficient", 4)]) (g := gName 4) (by rfl) sc_equation_from.nd (pi_list (pv 2)) (blkOk_by (own := [("coefficient", 4)]) (N := N_equation_from) (sc := defScope s_equation_from) (by decide +kernel)) (fun _ _ _ _ _ => by exact (pg_name (i := 4) sc_equation_from.nd rfl (Or.inl rfl))) (fun _ _ _ _ _ => by exact pts_nil) (fun _ _ _ _ _ => by exact (pe_cmpR op_le (pe_callB call_abs (by rfl) T.b_abs (by decide +kernel) (pa_cons (pv 4) pa_nil)) (pe_glob rfl T.k_GREATEST.g T.k_GREATEST.r) (nomark _)))) pa_nil)))) (pss_one (ps_raise rfl (takes_of rfl rfl rfl rfl) (pmk_ref T.x_VariableOutOfRange (ok_VariableOutOfRange_init T) (hr.mono (by decide)) T.f_VariableOutOfRange_init.b))) pss_nil)
    (pss_cons (ps_if (pt_not (pt_val (pe_callB (cr_all rfl) (by rfl) T.b_all (by decide +kernel) (pa_cons (pe_lc (own := [("upper", 5)]) (g := gName 5) (by rfl) sc_equation_from.nd (pi_list (pv 3)) (blkOk_by (own := [("upper", 5)]) (N := N_equation_from) (sc := defScope s_equation_from) (by decide +kernel)) (fun _ _ _ _ _ => by exact (pg_name (i := 5) sc_equation_from.nd rfl (Or.inl rfl))) (fun _ _ _ _ _ => by exact pts_nil) (fun _ _ _ _ _ => by exact (pe_chain op_le op_le pe_int (pv 5) (pe_glob rfl T.k_GREATEST.g T.k_GREATEST.r)))) pa_nil)))) (pss_one (ps_raise rfl (takes_of rfl rfl rfl rfl) (pmk_ref T.x_VariableOutOfRange (ok_VariableOutOfRange_init T) (hr.mono (by decide)) T.f_VariableOutOfRange_init.b))) pss_nil)
    (pss_one (ps_ret (pe_make T.mk_Equation (ok_Equation_init T) (hr.mono (by decide)) rfl T.l_Equation.g T.f_Equation_init.b .nil pass0 (pa_cons (pv 0) (pa_cons (pv 2) (pa_cons (pv 3) pa_nil))))))))))), ?_⟩)
  · obtain ⟨a, t, l, rfl, _⟩ := h; rfl
  obtain ⟨a, t, l, rfl, hS, hl, k1, k2⟩ := h
  have V1 := vars_is l
  refine ⟨_, rfl, a, _, _, rfl, hS, by decide, _, rfl, ?_⟩
  rw [List.length_map]
  have e0 : decide ((l.length : Int) ≤ 2 * 8) = decide (l.length ≤ 16) := decide_eq_decide.mpr (by omega)
  show if (!(decide (l.length % 2 = 0) && decide ((l.length : Int) ≤ 2 * 8))) = true then _ else _
  rw [e0]
  by_cases hp : l.length % 2 = 0 ∧ l.length ≤ 16
  · rw [decide_eq_true hp.1, decide_eq_true hp.2]
    rw [if_pos hp] at V1
    have hev := evens_len2 l hp.1
    refine iteF ?_
    refine ⟨_, rfl, a, _, rfl, hS, fun ca hca => ?_⟩
    rw [evens_V]
    have s1 : Same H (upd H ca (.lst ((evensI (l.drop 0)).map V.int))) := same_new hca
    have c1 : (upd H ca (.lst ((evensI (l.drop 0)).map V.int))) ca = some (.lst ((evensI l).map V.int)) := upd_same
    generalize upd H ca (.lst ((evensI (l.drop 0)).map V.int)) = H1 at s1 c1 ⊢
    refine ⟨_, rfl, a, _, rfl, s1.seq hS, fun ua hua => ?_⟩
    rw [evens_V]
    have s2 := s1.trans (same_new (o := .lst ((evensI (l.drop 1)).map V.int)) hua)
    have c2 := same_new (o := .lst ((evensI (l.drop 1)).map V.int)) hua _ _ c1
    have u2 : (upd H1 ua (.lst ((evensI (l.drop 1)).map V.int))) ua = some (.lst ((evensI (l.drop 1)).map V.int)) := upd_same
    generalize upd H1 ua (.lst ((evensI (l.drop 1)).map V.int)) = H2 at s2 c2 u2 ⊢
    -- all coefficients
    refine ⟨_, rfl, ca, rfl, ⟨_, .inl (.inl c2)⟩, fun D hD => comp1 (ns := evensI l) (fun _ => true) (fun z => V.bl (decide ((if z < 0 then -z else z) ≤ 1000000000000000000))) (.inl (.inl c2)) (few_line (by omega)) hD
      (fun z H1 R E _ _ hR _ => ⟨rfl, yes ⟨_, rfl, _, rfl, _, _, rfl, rfl, hR rfl _ (Same.refl _)⟩⟩) (fun H3 s3 d3 => ?_)⟩
    rw [mapBl] at d3
    refine ⟨_, _, rfl, .inl (.inl d3), _, rfl, ?_⟩
    rw [all_abs]
    cases hA : (evensI l).all (fun z => decide (z.natAbs ≤ VaviwBase.maxInteger)) with
    | false =>
      rw [hA, Bool.false_and] at V1
      exact iteT ((k2 _ V1 T.c_VariableOutOfRange T.x_VariableOutOfRange.te).now (s2.trans s3))
    | true =>
      rw [hA, Bool.true_and] at V1
      refine iteF ?_
      refine ⟨_, rfl, ua, rfl, ⟨_, .inl (.inl (s3 _ _ u2))⟩, fun D hD => comp1 (ns := evensI (l.drop 1)) (fun _ => true) (fun z => V.bl (decide (0 ≤ z) && decide (z ≤ 1000000000000000000))) (.inl (.inl (s3 _ _ u2))) (few_line (by omega)) hD
        (fun z H1 R E _ _ hR _ => ⟨rfl, yes ⟨_, rfl, _, _, rfl, rfl, _, rfl, ?_⟩⟩) (fun H4 s4 d4 => ?_)⟩
      · have hR := hR rfl H1 (Same.refl _)
        refine iteB (fun c => ?_) (fun c => ?_)
        · rw [c, Bool.true_and] at hR
          exact ⟨_, _, rfl, rfl, hR⟩
        · rw [c, Bool.false_and] at hR
          exact hR
      rw [mapBl] at d4
      refine ⟨_, _, rfl, .inl (.inl d4), _, rfl, ?_⟩
      rw [all_nat]
      have s24 := s2.trans (s3.trans s4)
      cases hB : (evensI (l.drop 1)).all isNaturalUpToMax with
      | false =>
        rw [hB, if_neg Bool.false_ne_true] at V1
        exact iteT ((k2 _ V1 T.c_VariableOutOfRange T.x_VariableOutOfRange.te).now s24)
      | true =>
        rw [hB, if_pos rfl] at V1
        refine iteF ?_
        have fb : FineB (((evensI l).zip (evensI (l.drop 1))).map fun x => (⟨x.1, 0, x.2⟩ : Variable)) := by
          refine ⟨fun v hv => ?_, by rw [List.length_map, List.length_zip]; omega, fun v hv => ?_, fun v hv => ?_⟩
          · obtain ⟨x, hx, rfl⟩ := List.mem_map.mp hv; rfl
          · obtain ⟨x, hx, rfl⟩ := List.mem_map.mp hv
            exact of_decide_eq_true (List.all_eq_true.mp hA _ (List.of_mem_zip hx).1)
          · obtain ⟨x, hx, rfl⟩ := List.mem_map.mp hv
            have q := List.all_eq_true.mp hB _ (List.of_mem_zip hx).2
            rw [nat_max, Bool.and_eq_true] at q
            have q1 := of_decide_eq_true q.1
            have q2 := of_decide_eq_true q.2
            show x.2.natAbs < 2 ^ 64
            omega
        have ec : coI (((evensI l).zip (evensI (l.drop 1))).map fun x => (⟨x.1, 0, x.2⟩ : Variable)) = evensI l := by
          unfold coI
          rw [List.map_map]
          exact (zip_fst (fun z => z) _ _ (by omega)).trans (List.map_id' _)
        have eu : upI (((evensI l).zip (evensI (l.drop 1))).map fun x => (⟨x.1, 0, x.2⟩ : Variable)) = evensI (l.drop 1) := by
          unfold upI
          rw [List.map_map]
          exact (zip_snd (fun z => z) _ _ (by omega)).trans (List.map_id' _)
        refine ⟨_, rfl, _, rfl, _, rfl, ?_⟩
        intro x dx nx nd ne
        have sN := new_box (C := T.c_Equation) nx nd
        refine ⟨x, dx, ca, ua, t, _, rfl, upd_same, .inl (.inl (sN _ _ (s4 _ _ (s3 _ _ (by rw [ec]; exact c2))))), .inl (.inl (sN _ _ (s4 _ _ (s3 _ _ (by rw [eu]; exact u2))))), fb, fun H5 hE k5 => ⟨rfl, ?_⟩⟩
        exact k1 _ V1 fb H5 x (keep_same (s24.trans sN) (by
          cases e : H x with
          | none => rfl
          | some o => rw [s24 _ _ e] at nx; cases nx) k5) hE
  · rw [if_neg hp] at V1
    have e1 : (!(decide (l.length % 2 = 0) && decide (l.length ≤ 16))) = true := by
      by_cases q : l.length % 2 = 0
      · rw [decide_eq_false (fun z => hp ⟨q, z⟩)]; simp
      · rw [decide_eq_false q]; rfl
    rw [e1]
    exact iteT ((k2 _ V1 T.c_NotVariables T.x_NotVariables.te).now (Same.refl H))
end Ov
end

section
set_option Elab.async false
set_option linter.all false
set_option maxRecDepth 100000
set_option maxHeartbeats 8000000
/-! views from arguments; the store -/
namespace Ov
open PySem PySem.Spec PyProof.Rows L2
open VaviwBase (View Axis)
open Vaviwc (Box Variable freeVariables isFree variablesArgument axesArgument isNaturalUpToMax)
variable {P : Program} {w : World} {K : PySem.W.Frag} {mg : Str → Option Value} {base : Heap}

def spViewFrom (K : PySem.W.Frag) (Vw R : Addr) : Sp := fun vs H Q E => ∃ (a : Addr) (off : Int) (l : List Int), vs = [.int off, .ref a] ∧ SqL K H a (l.map V.int) ∧ l.length ≤ 100 ∧ (∀ z ∈ l, z.natAbs ≤ 1000000000000000000) ∧ off.natAbs ≤ 1000000000000000000 ∧
  (∀ ax, axesArgument l = .ok ax → ¬ VaviwBase.maxInteger < (View.canonical off ax).size → ViewOk (View.canonical off ax) → ∀ (H' : Hp) (p : Addr), Same H H' → ViewAt Vw H' p (View.canonical off ax) → (∀ x, PartOf H' p x → H x = none) → Q (.ref p) H') ∧
  (∀ ax, axesArgument l = .ok ax → VaviwBase.maxInteger < (View.canonical off ax).size → OutAny K R H E (-23)) ∧ (∀ z, axesArgument l = .error z → OutAny K R H E z)
theorem ok_view_from (T : Top K mg) : FnOk P w K mg base (L2.CX P w) 5 T.f_view_from.a T.f_view_from.d ["offset", "axes"] (spViewFrom K T.c_View T.c_Refusal) := by
  refine T.f_view_from.F.okX sc_view_from (fun vs H Q E h => ?_) (fun cdv A outer s H vs Q E hr h => ⟨_, (pss_cons (ps_if (pt_not (pt_val (pe_call (ok_is_pairs T) (hr.mono (by decide)) rfl T.g_is_pairs T.f_is_pairs.F.kp T.f_is_pairs.b .nil pass0 (pa_cons (pv 1) (pa_cons (pe_glob rfl T.k_AXIS_LIMIT.g T.k_AXIS_LIMIT.r) pa_nil))))) (pss_one (ps_raise rfl (takes_of rfl rfl rfl rfl) (pmk_ref T.x_NotAxes (ok_NotAxes_init T) (hr.mono (by decide)) T.f_NotAxes_init.b))) pss_nil)
    (pss_cons (ps_set (i := 2) sc_view_from.nd rfl (Or.inl rfl) (pe_sl2 (pv 1)))
    (pss_cons (ps_if (pt_not (pt_val (pe_callB (cr_all rfl) (by rfl) T.b_all (by decide +kernel) (pa_cons (pe_lc (own := [("length", 4)]) (g := gName 4) (by rfl) sc_view_from.nd (pi_list (pv 2)) (blkOk_by (own := [("length", 4)]) (N := N_view_from) (sc := defScope s_view_from) (by decide +kernel)) (fun _ _ _ _ _ => by exact (pg_name (i := 4) sc_view_from.nd rfl (Or.inl rfl))) (fun _ _ _ _ _ => by exact pts_nil) (fun _ _ _ _ _ => by exact (pe_chain op_le op_le pe_int (pv 4) (pe_glob rfl T.k_GREATEST.g T.k_GREATEST.r)))) pa_nil)))) (pss_one (ps_raise rfl (takes_of rfl rfl rfl rfl) (pmk_ref T.x_AxisLengthOutOfRange (ok_AxisLengthOutOfRange_init T) (hr.mono (by decide)) T.f_AxisLengthOutOfRange_init.b))) pss_nil)
    (pss_cons (ps_set (i := 3) sc_view_from.nd rfl (Or.inl rfl) (pe_make T.mk_View (ok_View_init T) (hr.mono (by decide)) rfl T.l_View.g T.f_View_init.b .nil pass0 (pa_cons (pv 0) (pa_cons (pv 2) (pa_cons (pe_sl2 (pv 1)) pa_nil)))))
    (pss_cons (ps_if (pt_cmpR op_gt (pe_fld (pv 3) rfl) (pe_glob rfl T.k_GREATEST.g T.k_GREATEST.r) (nomark _)) (pss_one (ps_raise rfl (takes_of rfl rfl rfl rfl) (pmk_ref T.x_ViewTooLarge (ok_ViewTooLarge_init T) (hr.mono (by decide)) T.f_ViewTooLarge_init.b))) pss_nil)
    (pss_one (ps_ret (pv 3)))))))), ?_⟩)
  · obtain ⟨a, off, l, rfl, _⟩ := h; rfl
  obtain ⟨a, off, l, rfl, hS, hl, hz, ho, k1, k2, k3⟩ := h
  have V1 := axes_is l
  refine ⟨_, rfl, a, _, _, rfl, hS, by decide, _, rfl, ?_⟩
  rw [List.length_map]
  have e0 : decide ((l.length : Int) ≤ 2 * 6) = decide (l.length ≤ 12) := decide_eq_decide.mpr (by omega)
  show if (!(decide (l.length % 2 = 0) && decide ((l.length : Int) ≤ 2 * 6))) = true then _ else _
  rw [e0]
  by_cases hp : l.length % 2 = 0 ∧ l.length ≤ 12
  · rw [decide_eq_true hp.1, decide_eq_true hp.2]
    rw [if_pos hp] at V1
    have hev := evens_len2 l hp.1
    refine iteF ?_
    refine ⟨_, rfl, a, _, rfl, hS, fun ca hca => ?_⟩
    rw [evens_V]
    have s1 : Same H (upd H ca (.lst ((evensI (l.drop 0)).map V.int))) := same_new hca
    have c1 : (upd H ca (.lst ((evensI (l.drop 0)).map V.int))) ca = some (.lst ((evensI l).map V.int)) := upd_same
    generalize upd H ca (.lst ((evensI (l.drop 0)).map V.int)) = H1 at s1 c1 ⊢
    refine ⟨_, rfl, ca, rfl, ⟨_, .inl (.inl c1)⟩, fun D hD => comp1 (ns := evensI l) (fun _ => true) (fun z => V.bl (decide (0 ≤ z) && decide (z ≤ 1000000000000000000))) (.inl (.inl c1)) (few_line (by omega)) hD
        (fun z H1 R E _ _ hR _ => ⟨rfl, yes ⟨_, rfl, _, _, rfl, rfl, _, rfl, ?_⟩⟩) (fun H3 s3 d3 => ?_)⟩
    · have hR := hR rfl H1 (Same.refl _)
      refine iteB (fun c => ?_) (fun c => ?_)
      · rw [c, Bool.true_and] at hR
        exact ⟨_, _, rfl, rfl, hR⟩
      · rw [c, Bool.false_and] at hR
        exact hR
    rw [mapBl] at d3
    refine ⟨_, _, rfl, .inl (.inl d3), _, rfl, ?_⟩
    rw [all_nat]
    have s13 := s1.trans s3
    cases hA : (evensI l).all isNaturalUpToMax with
    | false =>
      rw [hA, if_neg Bool.false_ne_true] at V1
      exact iteT ((k3 _ V1 T.c_AxisLengthOutOfRange T.x_AxisLengthOutOfRange.te).now s13)
    | true =>
      rw [hA, if_pos rfl] at V1
      refine iteF ?_
      have nn : ∀ z ∈ evensI l, 0 ≤ z ∧ z ≤ 1000000000000000000 := fun z hz => by
        have q := List.all_eq_true.mp hA _ hz
        rw [nat_max, Bool.and_eq_true] at q
        exact ⟨of_decide_eq_true q.1, of_decide_eq_true q.2⟩
      have el : lenI (((evensI l).zip (evensI (l.drop 1))).map fun x => (⟨x.1.toNat, x.2⟩ : Axis)) = evensI l := by
        unfold lenI
        rw [List.map_map]
        refine (zip_fst (fun (z : Int) => ((z.toNat : Nat) : Int)) (evensI l) (evensI (l.drop 1)) (by omega)).trans ?_
        conv => rhs; rw [← List.map_id (evensI l)]
        exact List.map_congr_left fun z hz => Int.toNat_of_nonneg (nn z hz).1
      have es : strI (((evensI l).zip (evensI (l.drop 1))).map fun x => (⟨x.1.toNat, x.2⟩ : Axis)) = evensI (l.drop 1) := by
        unfold strI
        rw [List.map_map]
        exact (zip_snd (fun z => z) _ _ (by omega)).trans (List.map_id' _)
      have vo : ViewOk ⟨off, ((evensI l).zip (evensI (l.drop 1))).map fun x => (⟨x.1.toNat, x.2⟩ : Axis)⟩ := by
        refine ⟨by rw [List.length_map, List.length_zip]; omega, fun v hv => ?_, fun v hv => ?_, ho⟩
        · obtain ⟨x, hx, rfl⟩ := List.mem_map.mp hv
          have := nn _ (List.of_mem_zip hx).1
          show x.1.toNat ≤ _
          omega
        · obtain ⟨x, hx, rfl⟩ := List.mem_map.mp hv
          exact hz _ (List.mem_of_mem_drop (evens_mem _ _ (List.of_mem_zip hx).2))
      have k1 := k1 _ V1
      have k2 := k2 _ V1
      generalize ((evensI l).zip (evensI (l.drop 1))).map (fun x => (⟨x.1.toNat, x.2⟩ : Axis)) = ax at el es vo k1 k2
      have c3 := s3 _ _ c1
      refine ⟨_, rfl, _, rfl, _, rfl, a, _, rfl, s13.seq hS, fun ua hua => ?_⟩
      rw [evens_V]
      have s2 := s13.trans (same_new (o := .lst ((evensI (l.drop 1)).map V.int)) hua)
      have c2 := same_new (o := .lst ((evensI (l.drop 1)).map V.int)) hua _ _ c3
      have u2 : (upd H3 ua (.lst ((evensI (l.drop 1)).map V.int))) ua = some (.lst ((evensI (l.drop 1)).map V.int)) := upd_same
      generalize upd H3 ua (.lst ((evensI (l.drop 1)).map V.int)) = H2 at s2 c2 u2 ⊢
      intro x dx nx nd ne
      have sN := new_box (C := T.c_View) nx nd
      have hx0 : H x = none := s2.free nx
      refine ⟨x, dx, ca, ua, off, ax, rfl, upd_same, .inl (.inl (sN _ _ (by rw [el]; exact c2))), .inl (.inl (sN _ _ (by rw [es]; exact u2))), ⟨Nat.le_trans vo.len (by decide), fun b hb => by have := vo.big b hb; omega⟩, fun H5 hV hx5 k5 => ⟨rfl, ?_⟩⟩
      have s5 := keep_same (s2.trans sN) hx0 k5
      obtain ⟨dv, ll, tt, v1, v2, v3⟩ := hV.ex
      refine ⟨_, rfl, x, T.c_View, dv, _, _, rfl, v1, T.l_View.c, T.n_View.size, vF_size, _, _, rfl, rfl, _, rfl, iteD (fun q => ?_) (fun q => ?_)⟩
      · exact (k2 (by show 1000000000000000000 < _; omega) T.c_ViewTooLarge T.x_ViewTooLarge.te).now s5
      · exact ⟨_, rfl, k1 (by show ¬ 1000000000000000000 < _; omega) (canon_ok vo) H5 x s5 hV (fun y hy => (s2.trans sN).free (hx5 y hy))⟩
  · rw [if_neg hp] at V1
    have e1 : (!(decide (l.length % 2 = 0) && decide (l.length ≤ 12))) = true := by
      by_cases q : l.length % 2 = 0
      · rw [decide_eq_false (fun z => hp ⟨q, z⟩)]; simp
      · rw [decide_eq_false q]; rfl
    rw [e1]
    exact iteT ((k3 _ V1 T.c_NotAxes T.x_NotAxes.te).now (Same.refl H))

/-! ### the store -/
def sF (n : Int) (vs : Addr) : List (Str × V) := [("array_length", .int n), ("views", .ref vs)]
structure StOk (s : Vaviwc.State) : Prop where
  len : s.length ≤ 1000000000000000000
  six : s.registers.length = 6
  all : ∀ v ∈ s.registers, ViewOk v
  fits : ∀ v ∈ s.registers, v.fitsArray s.length = true
structure StoreAt (C Vw : Addr) (H : Hp) (a vs : Addr) (s : Vaviwc.State) : Prop where
  ex : ∃ (dx : Addr) (rs : List Addr), H a = some (.ins C dx (sF s.length vs)) ∧ H vs = some (.lst (rs.map V.ref)) ∧ rs.length = 6 ∧ ∀ (i : Nat) (r : Addr), rs[i]? = some r → ∃ v, s.registers[i]? = some v ∧ ViewAt Vw H r v
  ok : StOk s
theorem StoreAt.same {C Vw : Addr} {H H' : Hp} {a vs : Addr} {s : Vaviwc.State} (h : StoreAt C Vw H a vs s) (k : Same H H') : StoreAt C Vw H' a vs s := by
  obtain ⟨dx, rs, h1, h2, h3, h4⟩ := h.ex
  exact ⟨⟨dx, rs, k _ _ h1, k _ _ h2, h3, fun i r e => by obtain ⟨v, g1, g2⟩ := h4 i r e; exact ⟨v, g1, g2.same k⟩⟩, h.ok⟩
/-- the lists of the views in the list vs -/
def Parts (H : Hp) (vs x : Addr) : Prop := ∃ (rs : List V) (r : Addr), H vs = some (.lst rs) ∧ V.ref r ∈ rs ∧ PartOf H r x
theorem StoreAt.back {C Vw : Addr} {H H' : Hp} {a vs x : Addr} {s : Vaviwc.State} (h : StoreAt C Vw H a vs s) (k : Same H H') (q : Parts H' vs x) : Parts H vs x := by
  obtain ⟨dx, rs, h1, h2, h3, h4⟩ := h.ex
  obtain ⟨rs', r, g1, g2, g3⟩ := q
  rw [k _ _ h2] at g1
  injection g1 with g1
  injection g1 with g1
  subst g1
  refine ⟨_, r, h2, g2, ?_⟩
  obtain ⟨r', m1, m2⟩ := List.mem_map.mp g2
  injection m2 with m2
  subst m2
  obtain ⟨i, hi⟩ := List.mem_iff_getElem?.mp m1
  obtain ⟨v, _, hv⟩ := h4 i _ hi
  obtain ⟨dv, l, t, v1, _⟩ := hv.ex
  exact g3.eq v1 (k _ _ v1)
/-- six times the same view -/
theorem parts_rep {Vw : Addr} {H H' : Hp} {q vs x : Addr} {v : View} (hv : H' vs = some (.lst ((List.replicate 6 q).map V.ref))) (h : ViewAt Vw H q v) (h' : ∀ o, H q = some o → H' q = some o) (k : Parts H' vs x) : PartOf H q x := by
  obtain ⟨rs', r, g1, g2, g3⟩ := k
  rw [hv] at g1
  injection g1 with g1
  injection g1 with g1
  subst g1
  obtain ⟨r', m1, m2⟩ := List.mem_map.mp g2
  injection m2 with m2
  subst m2
  rw [List.eq_of_mem_replicate m1] at g3
  obtain ⟨dv, l, t, v1, _⟩ := h.ex
  exact g3.eq v1 (h' _ v1)
theorem ins_len {C D dx dy : Addr} {fs gs : List (Str × V)} {n m : Nat} (e : HO.ins C dx fs = HO.ins D dy gs) (h : n ≠ m) (h1 : fs.length = n := by rfl) (h2 : gs.length = m := by rfl) : False := by
  injection e with _ _ e
  exact h (h1.symm.trans ((congrArg List.length e).trans h2))
theorem refs_ne {rs : List Addr} {ns : List Int} (h : rs.length = 6) : (HO.lst (rs.map V.ref)) ≠ .lst (ns.map V.int) := by
  intro z
  injection z with z
  match rs, h, ns, z with
  | r :: rs, _, n :: ns, z => cases z
/-- a view stands when the store's list of views changes -/
theorem ViewAt.keep {Vw : Addr} {H H' : Hp} {q vs : Addr} {rs : List Addr} {v : View} (h : ViewAt Vw H q v) (k : Keep vs H H') (hv : H vs = some (.lst (rs.map V.ref))) (h6 : rs.length = 6) : ViewAt Vw H' q v := by
  obtain ⟨dx, l, t, h1, h2, h3⟩ := h.ex
  refine ⟨dx, l, t, k _ _ h1 (ne_of h1 hv (by intro z; cases z)), k _ _ h2 (ne_of h2 hv (refs_ne h6).symm), k _ _ h3 (ne_of h3 hv (refs_ne h6).symm)⟩

def wholeSt (n : Nat) : Vaviwc.State := ⟨n, List.replicate 6 (View.whole n)⟩
theorem wholeSt_ok {n : Nat} (h : n ≤ 1000000000000000000) : StOk (wholeSt n) := ⟨h, rfl, fun v hv => by rw [List.eq_of_mem_replicate hv]; exact whole_ok h, fun v hv => by rw [List.eq_of_mem_replicate hv]; exact whole_fits n⟩
theorem rep_at {α : Type} {n i : Nat} {x y : α} (h : (List.replicate n x)[i]? = some y) : i < n ∧ y = x := by
  have hl := (List.getElem?_eq_some_iff.mp h).1
  rw [List.length_replicate] at hl
  rw [List.getElem?_replicate] at h
  rw [if_pos hl] at h
  exact ⟨hl, (Option.some.inj h).symm⟩

def spStoreInit (C Vw : Addr) : Sp := fun vs H Q _ => ∃ (p dx : Addr), vs = [.ref p] ∧ H p = some (.ins C dx []) ∧ ∀ (H' : Hp) (vs : Addr), Keep p H H' → StoreAt C Vw H' p vs Vaviwc.start → H vs = none → (∀ x, Parts H' vs x → H x = none) → Q .non H'
theorem ok_Store_init (T : Top K mg) : FnOk P w K mg base CX0 5 T.f_Store_init.a T.f_Store_init.d ["self"] (spStoreInit T.c_Store T.c_View) := by
  refine T.f_Store_init.F.ok sc_Store_init (fun vs H Q E h => ?_) (fun cdv A outer s H vs Q E hr h => ⟨_, (pss_cons (ps_fld (pv 0) pe_int rfl)
    (pss_one (ps_fld (pv 0) (pe_op op_rep (pe_lst (pa_cons (pe_call (ok_whole_view T) (hr.mono (by decide)) rfl T.g_whole_view T.f_whole_view.F.kp T.f_whole_view.b .nil pass0 (pa_cons pe_int pa_nil)) pa_nil)) (pe_glob rfl T.k_REGISTER_COUNT.g T.k_REGISTER_COUNT.r)) rfl))), ?_⟩)
  · obtain ⟨p, dx, rfl, _⟩ := h; rfl
  obtain ⟨p, dx, rfl, hp, k⟩ := h
  refine into_fld 0 rfl hp T.l_Store.c T.n_Store.array_length (few (n := 0) rfl (by decide)) (fun H1 p1 k1 => ?_)
  refine ⟨0, rfl, by decide, fun H2 q s2 hq hx2 => ⟨one_ok, fun l hl => ⟨l, _, _, rfl, rfl, upd_same, by decide, by decide, by show 1 * 6 ≤ sizeLine; decide, fun vs hvs => ?_⟩⟩⟩
  have s3 : Same H1 (upd (upd H2 l (.lst [.ref q])) vs (.lst (List.replicate ((6 : Int)).toNat [V.ref q]).flatten)) := s2.trans ((same_new hl).trans (same_new hvs))
  have v3 : (upd (upd H2 l (.lst [.ref q])) vs (.lst (List.replicate ((6 : Int)).toNat [V.ref q]).flatten)) vs = some (.lst ((List.replicate 6 q).map V.ref)) := upd_same
  have q3 : ViewAt T.c_View (upd (upd H2 l (.lst [.ref q])) vs (.lst (List.replicate ((6 : Int)).toNat [V.ref q]).flatten)) q (View.whole 0) := hq.same ((same_new hl).trans (same_new hvs))
  have n3 : H1 vs = none := (s2.trans (same_new hl)).free hvs
  have s23 : Same H2 (upd (upd H2 l (.lst [.ref q])) vs (.lst (List.replicate ((6 : Int)).toNat [V.ref q]).flatten)) := (same_new hl).trans (same_new hvs)
  have hq0 := hq
  obtain ⟨dv0, ll0, tt0, v10, _⟩ := q3.ex
  generalize upd (upd H2 l (.lst [.ref q])) vs (.lst (List.replicate ((6 : Int)).toNat [V.ref q]).flatten) = H3 at s3 s23 v3 q3 v10 ⊢
  refine into_fld 0 rfl (s3 _ _ p1) T.l_Store.c T.n_Store.views (few (n := 1) rfl (by decide)) (fun H4 p4 k4 => ?_)
  have kk := (k1.then s3 hp).trans k4
  have pvs : vs ≠ p := fun e => by rw [e, p1] at n3; cases n3
  have hn : H vs = none := by
    cases e : H vs with
    | none => rfl
    | some o => rw [k1 _ _ e pvs] at n3; cases n3
  refine k H4 vs kk ⟨⟨dx, List.replicate 6 q, p4, k4.lst (s3 _ _ p1) v3, rfl, fun i r e => ?_⟩, wholeSt_ok (n := 0) (by decide)⟩ hn (fun x hx => k1.gone (hx2 x (parts_rep (k4.lst (s3 _ _ p1) v3) hq0 (fun o e => k4 _ _ (s23 _ _ e) (fun z => by rw [z, s3 _ _ p1] at v10; exact ins_len (n := 1) (m := 4) (Option.some.inj v10) (by decide))) hx)) p1)
  obtain ⟨hi, rfl⟩ := rep_at e
  refine ⟨View.whole 0, by show (List.replicate 6 (View.whole 0))[i]? = _; rw [List.getElem?_replicate, if_pos hi], ?_⟩
  obtain ⟨dv, ll, tt, v1, v2, v5⟩ := q3.ex
  exact ⟨dv, ll, tt, k4 _ _ v1 (fun z => by rw [z, s3 _ _ p1] at v1; exact ins_len (n := 1) (m := 4) (Option.some.inj v1) (by decide)), k4.lst (s3 _ _ p1) v2, k4.lst (s3 _ _ p1) v5⟩

def spResize (C Vw : Addr) : Sp := fun vs H Q _ => ∃ (p vs0 : Addr) (s : Vaviwc.State) (n : Nat), vs = [.ref p, .int n] ∧ StoreAt C Vw H p vs0 s ∧ n ≤ 1000000000000000000 ∧ ∀ (H' : Hp) (vs : Addr), Keep p H H' → StoreAt C Vw H' p vs (wholeSt n) → H vs = none → (∀ x, Parts H' vs x → H x = none) → Q .non H'
theorem ok_Store_resize (T : Top K mg) : FnOk P w K mg base CX0 5 T.f_Store_resize.a T.f_Store_resize.d ["self", "array_length"] (spResize T.c_Store T.c_View) := by
  refine T.f_Store_resize.F.ok sc_Store_resize (fun vs H Q E h => ?_) (fun cdv A outer s H vs Q E hr h => ⟨_, (pss_cons (ps_fld (pv 0) (pv 1) rfl)
    (pss_one (ps_fld (pv 0) (pe_op op_rep (pe_lst (pa_cons (pe_call (ok_whole_view T) (hr.mono (by decide)) rfl T.g_whole_view T.f_whole_view.F.kp T.f_whole_view.b .nil pass0 (pa_cons (pv 1) pa_nil)) pa_nil)) (pe_glob rfl T.k_REGISTER_COUNT.g T.k_REGISTER_COUNT.r)) rfl))), ?_⟩)
  · obtain ⟨p, vs0, s, n, rfl, _⟩ := h; rfl
  obtain ⟨p, vs0, s, n, rfl, hS, hn, k⟩ := h
  obtain ⟨dx, rs, hp, _, _, _⟩ := hS.ex
  refine ⟨_, rfl, into_fld 0 rfl hp T.l_Store.c T.n_Store.array_length (few (n := 2) rfl (by decide)) (fun H1 p1 k1 => ?_)⟩
  refine ⟨_, rfl, n, rfl, by omega, fun H2 q s2 hq hx2 => ⟨one_ok, fun l hl => ⟨l, _, _, rfl, rfl, upd_same, by decide, by decide, by show 1 * 6 ≤ sizeLine; decide, fun vs hvs => ?_⟩⟩⟩
  have s3 : Same H1 (upd (upd H2 l (.lst [.ref q])) vs (.lst (List.replicate ((6 : Int)).toNat [V.ref q]).flatten)) := s2.trans ((same_new hl).trans (same_new hvs))
  have v3 : (upd (upd H2 l (.lst [.ref q])) vs (.lst (List.replicate ((6 : Int)).toNat [V.ref q]).flatten)) vs = some (.lst ((List.replicate 6 q).map V.ref)) := upd_same
  have q3 : ViewAt T.c_View (upd (upd H2 l (.lst [.ref q])) vs (.lst (List.replicate ((6 : Int)).toNat [V.ref q]).flatten)) q (View.whole n) := hq.same ((same_new hl).trans (same_new hvs))
  have n3 : H1 vs = none := (s2.trans (same_new hl)).free hvs
  have s23 : Same H2 (upd (upd H2 l (.lst [.ref q])) vs (.lst (List.replicate ((6 : Int)).toNat [V.ref q]).flatten)) := (same_new hl).trans (same_new hvs)
  have hq0 := hq
  obtain ⟨dv0, ll0, tt0, v10, _⟩ := q3.ex
  generalize upd (upd H2 l (.lst [.ref q])) vs (.lst (List.replicate ((6 : Int)).toNat [V.ref q]).flatten) = H3 at s3 s23 v3 q3 v10 ⊢
  refine into_fld 0 rfl (s3 _ _ p1) T.l_Store.c T.n_Store.views (few (n := 2) rfl (by decide)) (fun H4 p4 k4 => ?_)
  have kk := (k1.then s3 hp).trans k4
  have pvs : vs ≠ p := fun e => by rw [e, p1] at n3; cases n3
  have hn0 : H vs = none := by
    cases e : H vs with
    | none => rfl
    | some o => rw [k1 _ _ e pvs] at n3; cases n3
  refine k H4 vs kk ⟨⟨dx, List.replicate 6 q, p4, k4.lst (s3 _ _ p1) v3, rfl, fun i r e => ?_⟩, wholeSt_ok hn⟩ hn0 (fun x hx => k1.gone (hx2 x (parts_rep (k4.lst (s3 _ _ p1) v3) hq0 (fun o e => k4 _ _ (s23 _ _ e) (fun z => by rw [z, s3 _ _ p1] at v10; exact ins_len (n := 2) (m := 4) (Option.some.inj v10) (by decide))) hx)) p1)
  obtain ⟨hi, rfl⟩ := rep_at e
  refine ⟨View.whole n, by show (List.replicate 6 (View.whole n))[i]? = _; rw [List.getElem?_replicate, if_pos hi], ?_⟩
  obtain ⟨dv, ll, tt, v1, v2, v5⟩ := q3.ex
  refine ⟨dv, ll, tt, k4 _ _ v1 (fun z => ?_), k4.lst (s3 _ _ p1) v2, k4.lst (s3 _ _ p1) v5⟩
  rw [z, s3 _ _ p1] at v1
  exact ins_len (n := 2) (m := 4) (Option.some.inj v1) (by decide)

def spRequire (K : PySem.W.Frag) (C R : Addr) : Sp := fun vs H Q E => ∃ (p : Addr) (r : Int), vs = [.ref p, .int r] ∧ (0 ≤ r ∧ r < 6 → Q .non H) ∧ (¬ (0 ≤ r ∧ r < 6) → OutAny K R H E (-10))
theorem ok_Store_require (T : Top K mg) : FnOk P w K mg base (L2.CX P w) 4 T.f_Store_require.a T.f_Store_require.d ["self", "number"] (spRequire K T.c_Store T.c_Refusal) := by
  refine T.f_Store_require.F.okX sc_Store_require (fun vs H Q E h => ?_) (fun cdv A outer s H vs Q E hr h => ⟨_, (pss_one (ps_if (pt_not (pt_chain op_le op_lt pe_int (pv 1) (pe_glob rfl T.k_REGISTER_COUNT.g T.k_REGISTER_COUNT.r))) (pss_one (ps_raise rfl (takes_of rfl rfl rfl rfl) (pmk_ref T.x_NoSuchRegister (ok_NoSuchRegister_init T) (hr.mono (by decide)) T.f_NoSuchRegister_init.b))) pss_nil)), ?_⟩)
  · obtain ⟨p, r, rfl, _⟩ := h; rfl
  obtain ⟨p, r, rfl, k1, k2⟩ := h
  refine ⟨_, rfl, _, _, rfl, rfl, _, rfl, iteD (fun q => ?_) (fun q => ?_)⟩
  · refine ⟨_, _, rfl, rfl, _, rfl, ?_⟩
    by_cases q2 : r < 6
    · rw [decide_eq_true q2]
      exact iteF (k1 ⟨q, q2⟩)
    · rw [decide_eq_false q2]
      exact iteT ((k2 (fun z => q2 z.2) T.c_NoSuchRegister T.x_NoSuchRegister.te).now (Same.refl H))
  · exact ⟨_, rfl, iteT ((k2 (fun z => q z.1) T.c_NoSuchRegister T.x_NoSuchRegister.te).now (Same.refl H))⟩

theorem reg_ok {s : Vaviwc.State} {r : Int} (h : 0 ≤ r ∧ r < 6) : Vaviwc.register s r = .ok (s.registers.getD r.toNat (View.whole 0)) := by
  unfold Vaviwc.register
  exact if_pos h
theorem reg_no {s : Vaviwc.State} {r : Int} (h : ¬ (0 ≤ r ∧ r < 6)) : Vaviwc.register s r = .error (-10) := by
  unfold Vaviwc.register
  exact if_neg h
def spViewIn (K : PySem.W.Frag) (C Vw R : Addr) : Sp := fun vs H Q E => ∃ (p vs0 : Addr) (s : Vaviwc.State) (r : Int), vs = [.ref p, .int r] ∧ StoreAt C Vw H p vs0 s ∧
  (∀ v, Vaviwc.register s r = .ok v → ViewOk v → ∀ q, ViewAt Vw H q v → Q (.ref q) H) ∧ (∀ z, Vaviwc.register s r = .error z → OutAny K R H E z)
theorem ok_Store_view_in (T : Top K mg) : FnOk P w K mg base (L2.CX P w) 5 T.f_Store_view_in.a T.f_Store_view_in.d ["self", "number"] (spViewIn K T.c_Store T.c_View T.c_Refusal) := by
  refine T.f_Store_view_in.F.okX sc_Store_view_in (fun vs H Q E h => ?_) (fun cdv A outer s H vs Q E hr h => ⟨_, (pss_cons (ps_expr (pe_meth (pv 0) T.l_Store.c T.m_Store_require (ok_Store_require T) (hr.mono (by decide)) T.f_Store_require.b .nil (passes_call (takes_of rfl rfl rfl rfl) (fun _ _ _ _ h => h)) (pa_cons (pv 1) pa_nil)))
    (pss_one (ps_ret (pe_ix ix_list (pe_fld (pv 0) rfl) (pv 1) (fun _ _ => rfl))))), ?_⟩)
  · obtain ⟨p, vs0, s, r, rfl, _⟩ := h; rfl
  obtain ⟨p, vs0, st, r, rfl, hS, k1, k2⟩ := h
  obtain ⟨dx, rs, hp, hv, h6, hr4⟩ := hS.ex
  refine ⟨_, rfl, p, dx, _, rfl, hp, rfl, _, rfl, p, r, rfl, fun hb => ?_, fun hb => k2 _ (reg_no hb)⟩
  have hl : r.toNat < rs.length := by omega
  have er : r = ((r.toNat : Nat) : Int) := by omega
  obtain ⟨v, g1, g2⟩ := hr4 r.toNat _ (List.getElem?_eq_getElem hl)
  have ev : st.registers.getD r.toNat (View.whole 0) = v := by rw [List.getD_eq_getElem?_getD, g1]; rfl
  have k1 := k1 _ (reg_ok hb)
  rw [ev] at k1
  refine ⟨_, rfl, p, T.c_Store, dx, _, _, rfl, hp, T.l_Store.c, T.n_Store.views, rfl, _, rfl, vs0, _, _, _, rfl, rfl, .inl (.inl hv), ?_, k1 (hS.ok.all v (List.mem_of_getElem? g1)) _ g2⟩
  exact at_of er (by rw [List.getElem?_map, List.getElem?_eq_getElem hl]; rfl)

def spPutView (C Vw : Addr) : Sp := fun vs H Q _ => ∃ (p vs0 q : Addr) (s : Vaviwc.State) (r : Int) (v : View), vs = [.ref p, .int r, .ref q] ∧ StoreAt C Vw H p vs0 s ∧ 0 ≤ r ∧ r < 6 ∧ ViewAt Vw H q v ∧ ViewOk v ∧ v.fitsArray s.length = true ∧
  ∀ H' : Hp, Keep vs0 H H' → StoreAt C Vw H' p vs0 ⟨s.length, s.registers.set r.toNat v⟩ → (∀ x, Parts H' vs0 x → Parts H vs0 x ∨ PartOf H q x) → Q .non H'
theorem ok_Store_put_view (T : Top K mg) : FnOk P w K mg base CX0 1 T.f_Store_put_view.a T.f_Store_put_view.d ["self", "number", "view"] (spPutView T.c_Store T.c_View) := by
  refine T.f_Store_put_view.F.ok sc_Store_put_view (fun vs H Q E h => ?_) (fun cdv A outer s H vs Q E hr h => ⟨_, (pss_one (ps_asg (pv 2) (pg_sub (pe_fld (pv 0) rfl) (pv 1) set_list))), ?_⟩)
  · obtain ⟨p, vs0, q, s, r, v, rfl, _⟩ := h; rfl
  obtain ⟨p, vs0, q, st, r, v, rfl, hS, r0, r6, hq, vok, vfit, k⟩ := h
  obtain ⟨dx, rs, hp, hv, h6, hr4⟩ := hS.ex
  have er : r = ((r.toNat : Nat) : Int) := by omega
  have six := hS.ok.six
  refine ⟨_, rfl, _, rfl, p, T.c_Store, dx, _, _, rfl, hp, T.l_Store.c, T.n_Store.views, rfl, _, rfl, vs0, _, _, r.toNat, rfl, rfl, hv, ?_, ?_⟩
  · rw [er, List.length_map, Int.toNat_natCast]
    exact ixN_nat (by omega)
  · have kp : Keep vs0 H (upd H vs0 (.lst ((rs.map V.ref).set r.toNat (.ref q)))) := Keep.upd
    refine k _ kp ⟨⟨dx, rs.set r.toNat q, ?_, ?_, by rw [List.length_set]; exact h6, fun i x e => ?_⟩, hS.ok.len, by rw [List.length_set]; exact six, fun u hu => ?_, fun u hu => ?_⟩ (fun x hx => ?_)
    · exact kp _ _ hp (ne_of hp hv (by intro z; cases z))
    · rw [upd_same, List.map_set]
    · show ∃ u, (st.registers.set r.toNat v)[i]? = some u ∧ _
      by_cases hi : r.toNat = i
      · subst hi
        rw [List.getElem?_set_self (by omega)] at e
        obtain rfl := Option.some.inj e
        exact ⟨v, by rw [List.getElem?_set_self (by omega)], hq.keep kp hv h6⟩
      · rw [List.getElem?_set_ne hi] at e
        obtain ⟨u, g1, g2⟩ := hr4 i x e
        exact ⟨u, by rw [List.getElem?_set_ne hi]; exact g1, g2.keep kp hv h6⟩
    · rcases List.mem_or_eq_of_mem_set hu with h | h
      · exact hS.ok.all u h
      · rw [h]; exact vok
    · rcases List.mem_or_eq_of_mem_set hu with h | h
      · exact hS.ok.fits u h
      · rw [h]; exact vfit
    · obtain ⟨rs', y, g1, g2, C', dx', fs, g3, g4⟩ := hx
      rw [upd_same] at g1
      injection g1 with g1
      injection g1 with g1
      subst g1
      have yn : y ≠ vs0 := fun z => by rw [z, upd_same] at g3; cases g3
      rw [upd_ne yn] at g3
      rcases List.mem_or_eq_of_mem_set g2 with h | h
      · exact .inl ⟨_, y, hv, h, C', dx', fs, g3, g4⟩
      · injection h with h
        subst h
        exact .inr ⟨C', dx', fs, g3, g4⟩
end Ov
end

section
set_option Elab.async false
set_option linter.all false
set_option maxRecDepth 100000
set_option maxHeartbeats 8000000
/-! operations 0 to 7 -/
namespace Ov
open PySem PySem.Spec PyProof.Rows L2
open VaviwBase (View Axis andThen)
open Vaviwc (Box Variable freeVariables isFree variablesArgument axesArgument isNaturalUpToMax encodeList encodeSearchResult)
variable {P : Program} {w : World} {K : PySem.W.Frag} {mg : Str → Option Value} {base : Heap}

/-- what an operation may change: the store and its list of views -/
structure Step (H H' : Hp) (p vs vs' : Addr) : Prop where
  keep : ∀ c o, H c = some o → c ≠ p → c ≠ vs → H' c = some o
  new : vs' = vs ∨ H vs' = none
  parts : ∀ x, Parts H' vs' x → Parts H vs x ∨ H x = none
theorem StoreAt.step {C Vw : Addr} {st : Vaviwc.State} {H H' : Hp} {p vs : Addr} (h : StoreAt C Vw H p vs st) (s : Same H H') : Step H H' p vs vs := ⟨fun c o e _ _ => s c o e, .inl rfl, fun x q => .inl (h.back s q)⟩
/-- how an operation ends, by what the specification says of it -/
def Ends2 (K : PySem.W.Frag) (C Vw R : Addr) (H : Hp) (Q : VK) (E : XK) (p vs : Addr) (r : Vaviwc.Outcome (Vaviwc.State × List Int)) : Prop :=
  (∀ s' l, r = .ok (s', l) → l.length < 10000000 → ∀ (H' : Hp) (vs' q : Addr), Step H H' p vs vs' → StoreAt C Vw H' p vs' s' → H' q = some (.lst (l.map V.int)) → H q = none → Q (.ref q) H') ∧
  (∀ z, r = .error z → OutAny K R H E z)
theorem Ends2.err {C Vw R : Addr} {H H1 : Hp} {Q : VK} {E : XK} {p vs : Addr} {r : Vaviwc.Outcome (Vaviwc.State × List Int)} {z : Int} (h : Ends2 K C Vw R H Q E p vs r) (e : r = .error z) (s : Same H H1) : OutAny K R H1 E z := (h.2 z e).mono s
/-- a query's answer -/
theorem Ends2.say {C Vw R : Addr} {H H' : Hp} {Q : VK} {E : XK} {p vs q : Addr} {st : Vaviwc.State} {r : Vaviwc.Outcome (List Int)} {l : List Int} (h : Ends2 K C Vw R H Q E p vs (r.map fun l => (st, l))) (hS : StoreAt C Vw H p vs st) (e : r = .ok l) (hl : l.length < 10000000)
    (s : Same H H') (hq : H' q = some (.lst (l.map V.int))) (nq : H q = none) : Q (.ref q) H' := h.1 st l (by rw [e]; rfl) hl H' vs q (hS.step s) (hS.same s) hq nq
theorem map_err {r : Vaviwc.Outcome (List Int)} {st : Vaviwc.State} {z : Int} (e : r = .error z) : r.map (fun l => (st, l)) = .error z := by rw [e]; rfl
theorem ViewOk.fineV {v : View} (h : ViewOk v) : FineV v := ⟨⟨by have := h.len; omega, fun a ha => by have := h.big a ha; omega⟩, fun a ha => by have := h.str a ha; omega⟩
theorem shared_fine {v u : View} (hv : ViewOk v) (hu : ViewOk u) : FineB (Vaviwc.sharedCellEquation v u).2 ∧ SmallT (Vaviwc.sharedCellEquation v u).1 := by
  refine ⟨⟨fun x hx => ?_, ?_, fun x hx => ?_, fun x hx => ?_⟩, ?_⟩
  · rcases List.mem_append.mp hx with h | h
    · obtain ⟨a, _, rfl⟩ := List.mem_map.mp h; rfl
    · obtain ⟨a, _, rfl⟩ := List.mem_map.mp h; rfl
  · show (List.map _ _ ++ List.map _ _).length ≤ _
    rw [List.length_append, List.length_map, List.length_map]
    have := hv.len
    have := hu.len
    omega
  · rcases List.mem_append.mp hx with h | h
    · obtain ⟨a, ha, rfl⟩ := List.mem_map.mp h
      have := hv.str a ha
      show (1 * a.stride).natAbs ≤ _
      omega
    · obtain ⟨a, ha, rfl⟩ := List.mem_map.mp h
      have := hu.str a ha
      show (-1 * a.stride).natAbs ≤ _
      omega
  · rcases List.mem_append.mp hx with h | h
    · obtain ⟨a, ha, rfl⟩ := List.mem_map.mp h
      have := hv.big a ha
      show ((a.length : Int) - 1).natAbs < _
      omega
    · obtain ⟨a, ha, rfl⟩ := List.mem_map.mp h
      have := hu.big a ha
      show ((a.length : Int) - 1).natAbs < _
      omega
  · have := hv.off
    have := hu.off
    show (u.offset - v.offset).natAbs < 2 ^ 70
    omega

/-! ### set_length -/
def spSetLength (K : PySem.W.Frag) (C Vw R : Addr) : Sp := fun vs H Q E => ∃ (p vs0 : Addr) (s : Vaviwc.State) (n : Int), vs = [.ref p, .int n] ∧ StoreAt C Vw H p vs0 s ∧ Ends2 K C Vw R H Q E p vs0 (Vaviwc.outcome s (.setLength n))
theorem ok_set_length (T : Top K mg) : FnOk P w K mg base (L2.CX P w) 6 T.f_set_length.a T.f_set_length.d ["store", "n"] (spSetLength K T.c_Store T.c_View T.c_Refusal) := by
  refine T.f_set_length.F.okX sc_set_length (fun vs H Q E h => ?_) (fun cdv A outer s H vs Q E hr h => ⟨_, (pss_cons (ps_if (pt_not (pt_chain op_le op_le pe_int (pv 1) (pe_glob rfl T.k_GREATEST.g T.k_GREATEST.r))) (pss_one (ps_raise rfl (takes_of rfl rfl rfl rfl) (pmk_ref T.x_ArrayLengthOutOfRange (ok_ArrayLengthOutOfRange_init T) (hr.mono (by decide)) T.f_ArrayLengthOutOfRange_init.b))) pss_nil)
    (pss_cons (ps_expr (pe_meth (pv 0) T.l_Store.c T.m_Store_resize (ok_Store_resize T) (hr.mono (by decide)) T.f_Store_resize.b .nil pass0 (pa_cons (pv 1) pa_nil)))
    (pss_one (ps_ret (pe_lst (pa_cons (pv 1) pa_nil)))))), ?_⟩)
  · obtain ⟨p, vs0, s, n, rfl, _⟩ := h; rfl
  obtain ⟨p, vs0, st, n, rfl, hS, k⟩ := h
  obtain ⟨dx, rs, hp, hv, h6, hr4⟩ := hS.ex
  have e0 : Vaviwc.outcome st (.setLength n) = if isNaturalUpToMax n then .ok (⟨n.toNat, List.replicate 6 (View.whole n.toNat)⟩, [n]) else .error (-11) := rfl
  have bad : isNaturalUpToMax n = false → OutAny K T.c_Refusal H E (-11) := fun q => k.2 _ (by rw [e0, q]; rfl)
  rw [nat_max] at bad
  refine ⟨_, rfl, _, _, rfl, rfl, _, rfl, iteD (fun q => ?_) (fun q => ?_)⟩
  · refine ⟨_, _, rfl, rfl, _, rfl, ?_⟩
    by_cases q2 : n ≤ 1000000000000000000
    · rw [decide_eq_true q2]
      have hn : n = ((n.toNat : Nat) : Int) := by omega
      have good : Vaviwc.outcome st (.setLength n) = .ok (wholeSt n.toNat, [n]) := by
        rw [e0, nat_max, decide_eq_true q, decide_eq_true q2]; rfl
      refine iteF ⟨_, rfl, p, dx, _, rfl, hp, rfl, _, rfl, p, vs0, st, n.toNat, congrArg (fun z => [V.ref p, V.int z]) hn, hS, by omega, fun H1 vs1 k1 hS1 n1 x1 => ?_⟩
      refine ⟨_, rfl, one_ok, fun q3 hq3 => ?_⟩
      have s3 : Same H1 (upd H1 q3 (.lst [.int n])) := same_new hq3
      refine k.1 _ _ good (by show 1 < 10000000; decide) _ vs1 q3 ⟨fun c o e c1 _ => s3 _ _ (k1 c o e c1), .inr n1, fun x hx => .inr (x1 x (hS1.back s3 hx))⟩ (hS1.same s3) upd_same ?_
      cases e : H q3 with
      | none => rfl
      | some o =>
        by_cases c1 : q3 = p
        · obtain ⟨dx', rs', hp', _⟩ := hS1.ex
          rw [c1, hp'] at hq3; cases hq3
        · rw [k1 _ _ e c1] at hq3; cases hq3
    · rw [decide_eq_false q2]
      exact iteT ((bad (by rw [decide_eq_false q2, Bool.and_false]) T.c_ArrayLengthOutOfRange T.x_ArrayLengthOutOfRange.te).now (Same.refl H))
  · exact ⟨_, rfl, iteT ((bad (by rw [decide_eq_false q]; rfl) T.c_ArrayLengthOutOfRange T.x_ArrayLengthOutOfRange.te).now (Same.refl H))⟩

/-! ### set_view -/
def spSetView (K : PySem.W.Frag) (C Vw R : Addr) : Sp := fun vs H Q E => ∃ (p vs0 a : Addr) (s : Vaviwc.State) (r off : Int) (l : List Int), vs = [.ref p, .int r, .int off, .ref a] ∧ StoreAt C Vw H p vs0 s ∧ SqL K H a (l.map V.int) ∧ l.length ≤ 100 ∧ (∀ z ∈ l, z.natAbs ≤ 1000000000000000000) ∧ off.natAbs ≤ 1000000000000000000 ∧
  Ends2 K C Vw R H Q E p vs0 (Vaviwc.outcome s (.setView r off l))
theorem ok_set_view (T : Top K mg) : FnOk P w K mg base (L2.CX P w) 6 T.f_set_view.a T.f_set_view.d ["store", "r", "offset", "axes"] (spSetView K T.c_Store T.c_View T.c_Refusal) := by
  refine T.f_set_view.F.okX sc_set_view (fun vs H Q E h => ?_) (fun cdv A outer s H vs Q E hr h => ⟨_, (pss_cons (ps_expr (pe_meth (pv 0) T.l_Store.c T.m_Store_require (ok_Store_require T) (hr.mono (by decide)) T.f_Store_require.b .nil (passes_call (takes_of rfl rfl rfl rfl) (fun _ _ _ _ h => h)) (pa_cons (pv 1) pa_nil)))
    (pss_cons (ps_set (i := 4) sc_set_view.nd rfl (Or.inl rfl) (pe_call (ok_view_from T) (hr.mono (by decide)) rfl T.g_view_from T.f_view_from.F.kp T.f_view_from.b .nil (passes_call (takes_of rfl rfl rfl rfl) (fun _ _ _ _ h => h)) (pa_cons (pv 2) (pa_cons (pv 3) pa_nil))))
    (pss_cons (ps_if (pt_not (pt_val (pe_call (ok_lies_within T) (hr.mono (by decide)) rfl T.g_lies_within T.f_lies_within.F.kp T.f_lies_within.b .nil pass0 (pa_cons (pv 4) (pa_cons (pe_fld (pv 0) rfl) pa_nil))))) (pss_one (ps_raise rfl (takes_of rfl rfl rfl rfl) (pmk_ref T.x_CellOutsideArray (ok_CellOutsideArray_init T) (hr.mono (by decide)) T.f_CellOutsideArray_init.b))) pss_nil)
    (pss_cons (ps_expr (pe_meth (pv 0) T.l_Store.c T.m_Store_put_view (ok_Store_put_view T) (hr.mono (by decide)) T.f_Store_put_view.b .nil pass0 (pa_cons (pv 1) (pa_cons (pv 4) pa_nil))))
    (pss_one (ps_ret (pe_lst (pa_cons (pe_fld (pv 4) rfl) pa_nil)))))))), ?_⟩)
  · obtain ⟨p, vs0, a, s, r, off, l, rfl, _⟩ := h; rfl
  obtain ⟨p, vs0, a, st, r, off, l, rfl, hS, hA, hl, hz, ho, k⟩ := h
  obtain ⟨dx, rs, hp, hv, h6, hr4⟩ := hS.ex
  have e0 : Vaviwc.outcome st (.setView r off l) = andThen (Vaviwc.register st r) fun _ => andThen (Vaviwc.viewArgument st off l) fun v => .ok (⟨st.length, st.registers.set r.toNat v⟩, [(v.size : Int)]) := rfl
  refine ⟨_, rfl, p, dx, _, rfl, hp, rfl, _, rfl, p, r, rfl, fun hb => ?_, fun hb => k.2 _ (by rw [e0, reg_no hb]; rfl)⟩
  rw [e0, reg_ok hb] at k
  refine ⟨_, rfl, _, rfl, a, off, l, rfl, hA, hl, hz, ho, fun ax hax hsz hok H1 q s1 hq hx1 => ?_, fun ax hax hsz => ?_, fun z hax => ?_⟩
  · have hv1 : Vaviwc.viewArgument st off l = if (View.canonical off ax).fitsArray st.length then .ok (View.canonical off ax) else .error (-24) := by
      unfold Vaviwc.viewArgument
      rw [hax]
      exact if_neg hsz
    rw [fits_is] at hv1
    refine ⟨_, rfl, _, rfl, p, T.c_Store, dx, _, _, rfl, s1 _ _ hp, T.l_Store.c, T.n_Store.array_length, rfl, q, _, _, rfl, hq, hok.fineV, fun H2 s2 => ⟨_, rfl, ?_⟩⟩
    have s12 := s1.trans s2
    have el : liesIn (View.canonical off ax) (st.length : Int) = (decide ((View.canonical off ax).size = 0) || (decide (0 ≤ (View.canonical off ax).offset + VaviwBase.minStrideSum (View.canonical off ax).axes) && decide ((View.canonical off ax).offset + VaviwBase.maxStrideSum (View.canonical off ax).axes < st.length))) := rfl
    rw [← el] at hv1
    have hfit : (View.canonical off ax).fitsArray st.length = liesIn (View.canonical off ax) (st.length : Int) := by rw [fits_is]; rfl
    generalize View.canonical off ax = v at hv1 hq hok hsz hfit ⊢
    cases hL : liesIn v (st.length : Int) with
    | false =>
      rw [hL, if_neg Bool.false_ne_true] at hv1
      exact iteT (((k.2 (-24) (by rw [hv1]; rfl)) T.c_CellOutsideArray T.x_CellOutsideArray.te).now s12)
    | true =>
      rw [hL, if_pos rfl] at hv1
      refine iteF ⟨_, rfl, p, dx, _, rfl, s12 _ _ hp, rfl, _, rfl, _, rfl, p, vs0, q, st, r, v, rfl, hS.same s12, hb.1, hb.2, hq.same s2, hok, hfit.trans hL, fun H3 k3 hS3 hx3 => ?_⟩
      obtain ⟨dv, ll, tt, v1, v2, v3⟩ := (hq.same s2).ex
      obtain ⟨_, _, _, w1, _⟩ := hq.ex
      have hv2 := s12 _ _ hv
      have v13 := k3 _ _ v1 (ne_of v1 hv2 (by intro z; cases z))
      refine ⟨_, rfl, q, T.c_View, dv, _, _, rfl, v13, T.l_View.c, T.n_View.size, vF_size, one_ok, fun q4 hq4 => ?_⟩
      have s4 : Same H3 (upd H3 q4 (.lst [.int v.size])) := same_new hq4
      refine k.1 _ _ (by rw [hv1]; rfl) (by show 1 < 10000000; decide) _ vs0 q4 ⟨fun c o e _ c2 => s4 _ _ (k3 c o (s12 _ _ e) c2), .inl rfl, fun x hx => (hx3 x (hS3.back s4 hx)).elim (fun q => .inl (hS.back s12 q)) (fun z => .inr (hx1 x (z.eq w1 (s2 _ _ w1))))⟩ (hS3.same s4) upd_same ?_
      cases e : H q4 with
      | none => rfl
      | some o =>
        by_cases c1 : q4 = vs0
        · obtain ⟨dx', rs', hp', hv', _⟩ := hS3.ex
          rw [c1, hv'] at hq4; cases hq4
        · rw [k3 _ _ (s12 _ _ e) c1] at hq4; cases hq4
  · refine k.2 _ ?_
    show andThen (Vaviwc.viewArgument st off l) _ = _
    have hv1 : Vaviwc.viewArgument st off l = .error (-23) := by
      unfold Vaviwc.viewArgument
      rw [hax]
      exact if_pos hsz
    rw [hv1]; rfl
  · refine k.2 _ ?_
    show andThen (Vaviwc.viewArgument st off l) _ = _
    have hv1 : Vaviwc.viewArgument st off l = .error z := by
      unfold Vaviwc.viewArgument
      rw [hax]; rfl
    rw [hv1]; rfl

/-! ### queries of one view -/
def spQ1 (K : PySem.W.Frag) (C Vw R : Addr) (c : Int → Vaviwc.Call) : Sp := fun vs H Q E => ∃ (p vs0 : Addr) (s : Vaviwc.State) (r : Int), vs = [.ref p, .int r] ∧ StoreAt C Vw H p vs0 s ∧ Ends2 K C Vw R H Q E p vs0 (Vaviwc.outcome s (c r))
theorem ok_get_view (T : Top K mg) : FnOk P w K mg base (L2.CX P w) 6 T.f_get_view.a T.f_get_view.d ["store", "p"] (spQ1 K T.c_Store T.c_View T.c_Refusal .getView) := by
  refine T.f_get_view.F.okX sc_get_view (fun vs H Q E h => ?_) (fun cdv A outer s H vs Q E hr h => ⟨_, (pss_cons (ps_set (i := 2) sc_get_view.nd rfl (Or.inl rfl) (pe_meth (pv 0) T.l_Store.c T.m_Store_view_in (ok_Store_view_in T) (hr.mono (by decide)) T.f_Store_view_in.b .nil (passes_call (takes_of rfl rfl rfl rfl) (fun _ _ _ _ h => h)) (pa_cons (pv 1) pa_nil)))
    (pss_cons (ps_set (i := 3) sc_get_view.nd rfl (Or.inl rfl) (pe_lst pa_nil))
    (pss_cons (ps_for (passes_of rfl) rfl (pi_zip (by rfl) T.b_zip (pa_cons (pe_fld (pv 2) rfl) (pa_cons (pe_fld (pv 2) rfl) pa_nil))) (pg_tup (by rfl) (pgs_cons (pg_name (i := 4) sc_get_view.nd rfl (Or.inl rfl)) (pgs_cons (pg_name (i := 5) sc_get_view.nd rfl (Or.inl rfl)) pgs_nil))) (pss_one (ps_expr (pe_bm PySem.F.plainAttrs_list PySem.F.slot_list_extend PySem.F.type_list_extend mt_extend (pv 3) (pa_cons (pe_lst (pa_cons (pv 4) (pa_cons (pv 5) pa_nil))) pa_nil)))))
    (pss_one (ps_ret (pe_op op_cat (pe_lst (pa_cons (pe_fld (pv 2) rfl) pa_nil)) (pe_call (ok_counted T) (hr.mono (by decide)) rfl T.g_counted T.f_counted.F.kp T.f_counted.b .nil pass0 (pa_cons (pv 3) pa_nil)))))))), ?_⟩)
  · obtain ⟨p, vs0, s, r, rfl, _⟩ := h; rfl
  obtain ⟨p, vs0, st, r, rfl, hS, k⟩ := h
  obtain ⟨dx, rs, hp, hv, h6, hr4⟩ := hS.ex
  have e0 : Vaviwc.outcome st (.getView r) = (andThen (Vaviwc.register st r) fun v => .ok (v.offset :: encodeList (v.axes.flatMap fun a => [(a.length : Int), a.stride]))).map fun l => (st, l) := rfl
  rw [e0] at k
  refine ⟨_, rfl, p, dx, _, rfl, hp, rfl, _, rfl, p, vs0, st, r, rfl, hS, fun v hv1 vok q hq => ?_, fun z hz => k.2 z (by rw [hz]; rfl)⟩
  have fv := vok.fineV
  obtain ⟨dv, ll, tt, v1, v2, v3⟩ := hq.ex
  have l1 : (lenI v.axes).length = v.axes.length := by unfold lenI; rw [List.length_map]
  have l2 : (strI v.axes).length = v.axes.length := by unfold strI; rw [List.length_map]
  refine ⟨Nat.zero_le _, fun ax hax => ?_⟩
  have s1 : Same H (upd H ax (.lst [])) := same_new hax
  refine ⟨_, rfl, q, T.c_View, dv, _, _, rfl, s1 _ _ v1, T.l_View.c, T.n_View.lengths, vF_lengths, _, rfl, q, T.c_View, dv, _, _, rfl, s1 _ _ v1, T.l_View.c, T.n_View.strides, vF_strides, ll, tt, _, _, rfl, .inl (.inl (s1 _ _ v2)), .inl (.inl (s1 _ _ v3)), ?_⟩
  have wz : Walk (Itz K ll tt) v.axes.length (fun H => SqL K H ll ((lenI v.axes).map V.int) ∧ SqL K H tt ((strI v.axes).map V.int)) _ := walk_zip (by rw [List.length_map, List.length_map]; omega)
  refine for_it wz (fun i σ H' => (∃ u x : Option V, σ = [some (.ref p), some (.int r), some (.ref q), some (.ref ax), u, x]) ∧ Same H H' ∧ H' ax = some (.lst (((v.axes.take i).flatMap fun a => [(a.length : Int), a.stride]).map V.int)))
    ⟨⟨none, none, rfl⟩, s1, upd_same⟩ (fun i σ H' _ h => ⟨.inl (.inl (h.2.1 _ _ v2)), .inl (.inl (h.2.1 _ _ v3))⟩) ?_ ?_
  · rintro i x σ H2 H3 hi ⟨⟨u', v', rfl⟩, s2, d2⟩ ⟨T1, x0, y0, rfl, hT, rfl, hx, hy⟩
    obtain ⟨zx, hzx, rfl⟩ := getI hx
    obtain ⟨zy, hzy, rfl⟩ := getI hy
    have axT : ax ≠ T1 := ne_of_none d2 hT
    have ga : v.axes[i]? = some v.axes[i] := List.getElem?_eq_getElem hi
    have ex : zx = ((v.axes[i]).length : Int) := by
      unfold lenI at hzx
      rw [List.getElem?_map, ga] at hzx
      exact (Option.some.inj hzx).symm
    have ey : zy = (v.axes[i]).stride := by
      unfold strI at hzy
      rw [List.getElem?_map, ga] at hzy
      exact (Option.some.inj hzy).symm
    refine ⟨T1, _, rfl, .inl (.inl upd_same), rfl, _, _, rfl, _, _, rfl, rfl, ?_⟩
    have d3 : (upd H2 T1 (.tup [.int zx, .int zy])) ax = some (.lst (((v.axes.take i).flatMap fun a => [(a.length : Int), a.stride]).map V.int)) := (upd_ne axT).trans d2
    have s3 := s2.trans (same_new (o := .tup [.int zx, .int zy]) hT)
    generalize upd H2 T1 (.tup [.int zx, .int zy]) = H4 at d3 s3 ⊢
    have fl : (((v.axes.take i).flatMap fun a => [(a.length : Int), a.stride]).map V.int).length ≤ 1000 := by
      rw [List.length_map, List.length_flatMap]
      have := vok.len
      have h2 : ((v.axes.take i).map fun a => ([(a.length : Int), a.stride] : List Int).length).sum = 2 * (v.axes.take i).length := by
        generalize v.axes.take i = l
        induction l with
        | nil => rfl
        | cons a l ih => rw [List.map_cons, List.sum_cons, ih]; show 2 + 2 * l.length = 2 * (l.length + 1); omega
      rw [h2, List.length_take]; omega
    refine ⟨_, rfl, .inl ⟨rfl, _, .inl (.inl d3)⟩, _, rfl, _, rfl, two_ok, fun l hl => ⟨ax, l, _, _, rfl, rfl, same_new hl _ _ d3, upd_same, by rw [sizeLine_eq]; show _ + 2 ≤ _; omega, ?_⟩⟩
    refine ⟨⟨_, _, rfl⟩, Same.upd hax (s3.trans (same_new hl)), ?_⟩
    rw [upd_same, take_more ga, List.flatMap_append, List.map_append, ex, ey]; rfl
  · rintro σ H2 ⟨⟨u', v', rfl⟩, s2, d2⟩
    rw [List.take_length] at d2
    refine ⟨_, rfl, q, T.c_View, dv, _, _, rfl, s2 _ _ v1, T.l_View.c, T.n_View.offset, vF_offset, one_ok, fun l hl => ?_⟩
    have s3 := s2.trans (same_new (o := .lst [.int v.offset]) hl)
    have fl : (v.axes.flatMap fun a => [(a.length : Int), a.stride]).length ≤ 1000 := by
      rw [List.length_flatMap]
      have := vok.len
      have h2 : (v.axes.map fun a => ([(a.length : Int), a.stride] : List Int).length).sum = 2 * v.axes.length := by
        generalize v.axes = l
        induction l with
        | nil => rfl
        | cons a l ih => rw [List.map_cons, List.sum_cons, ih]; show 2 + 2 * l.length = 2 * (l.length + 1); omega
      rw [h2]; omega
    refine ⟨_, rfl, ax, _, rfl, same_new hl _ _ d2, by omega, fun H4 q4 s4 h4 => ?_⟩
    refine ⟨l, q4, _, _, rfl, rfl, s4 _ _ upd_same, h4, ?_, fun q5 hq5 => ?_⟩
    · rw [List.length_map, List.length_cons, sizeLine_eq]; show 1 + (_ + 1) ≤ _; omega
    · have s5 := (s3.trans s4).trans (same_new (o := .lst ([.int v.offset] ++ ((((v.axes.flatMap fun a => [(a.length : Int), a.stride]).length : Int) :: v.axes.flatMap fun a => [(a.length : Int), a.stride]).map V.int))) hq5)
      refine k.say hS (by rw [hv1]; rfl) ?_ s5 (by rw [upd_same]; rfl) ((s3.trans s4).free hq5)
      show (v.offset :: ((v.axes.flatMap fun a => [(a.length : Int), a.stride]).length : Int) :: v.axes.flatMap fun a => [(a.length : Int), a.stride]).length < _
      rw [List.length_cons, List.length_cons]; omega
end Ov
end

section
set_option Elab.async false
set_option linter.all false
set_option maxRecDepth 100000
set_option maxHeartbeats 8000000
/-! operations 3 to 7 -/
namespace Ov
open PySem PySem.Spec PyProof.Rows L2
open VaviwBase (View Axis andThen)
open Vaviwc (Box Variable freeVariables isFree variablesArgument axesArgument isNaturalUpToMax encodeList encodeSearchResult certificateArgument)
variable {P : Program} {w : World} {K : PySem.W.Frag} {mg : Str → Option Value} {base : Heap}

def spCellAt (K : PySem.W.Frag) (C Vw R : Addr) : Sp := fun vs H Q E => ∃ (p vs0 a : Addr) (s : Vaviwc.State) (r : Int) (l : List Int), vs = [.ref p, .int r, .ref a] ∧ StoreAt C Vw H p vs0 s ∧ SqL K H a (l.map V.int) ∧ l.length ≤ 1000 ∧ (∀ z ∈ l, z.natAbs ≤ 1000000000000000000) ∧ Ends2 K C Vw R H Q E p vs0 (Vaviwc.outcome s (.cellAt r l))
theorem index_len : ∀ (sh l : List Nat), VaviwBase.isMultiIndex sh l = true → l.length = sh.length
  | [], [], _ => rfl
  | [], _ :: _, h => by cases h
  | _ :: _, [], h => by cases h
  | n :: sh, i :: l, h => by
    have h : (decide (i < n) && VaviwBase.isMultiIndex sh l) = true := h
    rw [Bool.and_eq_true] at h
    rw [List.length_cons, List.length_cons, index_len sh l h.2]
theorem ok_cell_at (T : Top K mg) : FnOk P w K mg base (L2.CX P w) 6 T.f_cell_at.a T.f_cell_at.d ["store", "p", "index"] (spCellAt K T.c_Store T.c_View T.c_Refusal) := by
  refine T.f_cell_at.F.okX sc_cell_at (fun vs H Q E h => ?_) (fun cdv A outer s H vs Q E hr h => ⟨_, (pss_cons (ps_set (i := 3) sc_cell_at.nd rfl (Or.inl rfl) (pe_meth (pv 0) T.l_Store.c T.m_Store_view_in (ok_Store_view_in T) (hr.mono (by decide)) T.f_Store_view_in.b .nil (passes_call (takes_of rfl rfl rfl rfl) (fun _ _ _ _ h => h)) (pa_cons (pv 1) pa_nil)))
    (pss_cons (ps_if (pt_not (pt_val (pe_call (ok_is_index T) (hr.mono (by decide)) rfl T.g_is_index T.f_is_index.F.kp T.f_is_index.b .nil pass0 (pa_cons (pv 3) (pa_cons (pv 2) pa_nil))))) (pss_one (ps_raise rfl (takes_of rfl rfl rfl rfl) (pmk_ref T.x_NotAnIndex (ok_NotAnIndex_init T) (hr.mono (by decide)) T.f_NotAnIndex_init.b))) pss_nil)
    (pss_one (ps_ret (pe_lst (pa_cons (pe_call (ok_cell_of T) (hr.mono (by decide)) rfl T.g_cell_of T.f_cell_of.F.kp T.f_cell_of.b .nil pass0 (pa_cons (pv 3) (pa_cons (pv 2) pa_nil))) pa_nil)))))), ?_⟩)
  · obtain ⟨p, vs0, a, s, r, l, rfl, _⟩ := h; rfl
  obtain ⟨p, vs0, a, st, r, l, rfl, hS, hA, hl, hz, k⟩ := h
  obtain ⟨dx, rs, hp, hv, h6, hr4⟩ := hS.ex
  have e0 : Vaviwc.outcome st (.cellAt r l) = (andThen (Vaviwc.register st r) fun v => if l.all (fun z => decide (0 ≤ z)) && VaviwBase.isMultiIndex v.shape (l.map Int.toNat) then .ok [v.cell (l.map Int.toNat)] else .error (-12)).map fun l => (st, l) := rfl
  rw [e0] at k
  refine ⟨_, rfl, p, dx, _, rfl, hp, rfl, _, rfl, p, vs0, st, r, rfl, hS, fun v hv1 vok q hq => ?_, fun z hz => k.2 z (by rw [hz]; rfl)⟩
  rw [hv1] at k
  refine ⟨_, rfl, _, rfl, q, a, v, l, rfl, hq, vok.fineV, hA, hl, fun H1 s1 => ⟨_, rfl, ?_⟩⟩
  cases hI : (l.all (fun z => decide (0 ≤ z)) && VaviwBase.isMultiIndex v.shape (l.map Int.toNat)) with
  | false =>
    refine iteT ((k.2 (-12) ?_ T.c_NotAnIndex T.x_NotAnIndex.te).now s1)
    show (if _ then _ else _ : Vaviwc.Outcome (List Int)).map _ = _
    rw [hI]; rfl
  | true =>
    rw [Bool.and_eq_true] at hI
    have ln := index_len _ _ hI.2
    rw [List.length_map] at ln
    have ln2 : l.length = v.axes.length := by rw [ln]; unfold View.shape; rw [List.length_map]
    have nn : ∀ z ∈ l, 0 ≤ z := fun z hz => of_decide_eq_true (List.all_eq_true.mp hI.1 z hz)
    refine iteF ⟨_, rfl, _, rfl, q, a, v, l, rfl, hq.same s1, vok.fineV, s1.seq hA, ln2, fun z hm => ⟨nn z hm, by have := hz z hm; omega⟩, fun H2 s2 => ⟨one_ok, fun q2 hq2 => ?_⟩⟩
    refine k.say hS (l := [v.cell (l.map Int.toNat)]) ?_ (by show 1 < 10000000; decide) ((s1.trans s2).trans (same_new hq2)) upd_same ((s1.trans s2).free hq2)
    show (if _ then _ else _ : Vaviwc.Outcome (List Int)) = _
    rw [hI.1, hI.2]; rfl

/-! ### solve -/
def spSolve (K : PySem.W.Frag) (C Vw R : Addr) : Sp := fun vs H Q E => ∃ (p vs0 a : Addr) (s : Vaviwc.State) (t : Int) (l : List Int), vs = [.int t, .ref a] ∧ StoreAt C Vw H p vs0 s ∧ SqL K H a (l.map V.int) ∧ l.length ≤ 100 ∧ SmallT t ∧ Ends2 K C Vw R H Q E p vs0 (Vaviwc.outcome s (.solve t l))
theorem ok_solve (T : Top K mg) : FnOk P w K mg base (L2.CX P w) 9 T.f_solve.a T.f_solve.d ["target", "variables"] (spSolve K T.c_Store T.c_View T.c_Refusal) := by
  refine T.f_solve.F.okX sc_solve (fun vs H Q E h => ?_) (fun cdv A outer s H vs Q E hr h => ⟨_, (pss_cons (ps_asg (pe_call (ok_search T) (hr.mono (by decide)) rfl T.g_search T.f_search.F.kp T.f_search.b .nil (passes_call (takes_of rfl rfl rfl rfl) (fun _ _ _ _ h => h)) (pa_cons (pe_call (ok_equation_from T) (hr.mono (by decide)) rfl T.g_equation_from T.f_equation_from.F.kp T.f_equation_from.b .nil (passes_call (takes_of rfl rfl rfl rfl) (fun _ _ _ _ h => h)) (pa_cons (pv 0) (pa_cons (pv 1) pa_nil))) (pa_cons (pe_glob rfl T.k_BOX_LIMIT.g T.k_BOX_LIMIT.r) pa_nil))) (pg_tup (by rfl) (pgs_cons (pg_name (i := 2) sc_solve.nd rfl (Or.inl rfl)) (pgs_cons (pg_name (i := 3) sc_solve.nd rfl (Or.inl rfl)) pgs_nil))))
    (pss_cons (ps_if (pt_cmpR op_isN (pv 2) pe_non (nomark _)) (pss_one (ps_ret (pe_op op_cat (pe_lst (pa_cons pe_int pa_nil)) (pe_call (ok_counted T) (hr.mono (by decide)) rfl T.g_counted T.f_counted.F.kp T.f_counted.b .nil pass0 (pa_cons (pv 3) pa_nil))))) pss_nil)
    (pss_one (ps_ret (pe_op op_cat (pe_lst (pa_cons pe_int pa_nil)) (pe_call (ok_counted T) (hr.mono (by decide)) rfl T.g_counted T.f_counted.F.kp T.f_counted.b .nil pass0 (pa_cons (pv 2) pa_nil))))))), ?_⟩)
  · obtain ⟨p, vs0, a, s, t, l, rfl, _⟩ := h; rfl
  obtain ⟨p, vs0, a, st, t, l, rfl, hS, hA, hl, hst, k⟩ := h
  have e0 : Vaviwc.outcome st (.solve t l) = (andThen (variablesArgument l) fun b => encodeSearchResult (Vaviwc.solve t b)).map fun l => (st, l) := rfl
  rw [e0] at k
  refine ⟨_, rfl, _, rfl, a, t, l, rfl, hA, hl, fun b hb fb H1 e s1 hE => ?_, fun z hz => k.2 z (by rw [hz]; rfl)⟩
  rw [hb] at k
  have k : Ends2 K T.c_Store T.c_View T.c_Refusal H Q E p vs0 ((encodeSearchResult (Vaviwc.solve t b)).map fun l => (st, l)) := k
  refine ⟨e, t, b, 2000, rfl, hE, fb, hst, by decide, fun v hv H2 q v' cl s2 hq hv' => ?_, fun m hm H2 q cl s2 hq hcl => ?_, fun hlim => ?_⟩
  · obtain ⟨hs, hvl⟩ := solve_found hv
    have s12 := s1.trans s2
    have hbl := fb.len
    refine ⟨q, _, rfl, .inl (.inl hq), rfl, _, _, rfl, _, _, rfl, rfl, ?_⟩
    refine ⟨_, rfl, rfl, _, rfl, iteF ?_⟩
    refine ⟨one_ok, fun l1 hl1 => ⟨_, rfl, v', v, rfl, same_new hl1 _ _ hv', by omega, fun H3 q3 s3 h3 => ⟨l1, q3, _, _, rfl, rfl, s3 _ _ upd_same, h3, ?_, fun q4 hq4 => ?_⟩⟩⟩
    · rw [List.length_map, List.length_cons, sizeLine_eq]; show 1 + (v.length + 1) ≤ _; omega
    · have s5 := ((s12.trans (same_new (o := .lst [.int 1]) hl1)).trans s3)
      refine k.say hS (l := 1 :: encodeList v) (by rw [hs]; rfl) ?_ (s5.trans (same_new hq4)) (by rw [upd_same]; rfl) (s5.free hq4)
      show (v.length + 1) + 1 < _; omega
  · obtain ⟨c, hs, hc, hml⟩ := solve_none hm
    have s12 := s1.trans s2
    refine ⟨q, _, rfl, .inl (.inl hq), rfl, _, _, rfl, _, _, rfl, rfl, ?_⟩
    refine ⟨_, rfl, rfl, _, rfl, iteT ?_⟩
    refine ⟨one_ok, fun l1 hl1 => ⟨_, rfl, cl, m, rfl, same_new hl1 _ _ hcl, by omega, fun H3 q3 s3 h3 => ⟨l1, q3, _, _, rfl, rfl, s3 _ _ upd_same, h3, ?_, fun q4 hq4 => ?_⟩⟩⟩
    · rw [List.length_map, List.length_cons, sizeLine_eq]; show 1 + (m.length + 1) ≤ _; omega
    · have s5 := ((s12.trans (same_new (o := .lst [.int 0]) hl1)).trans s3)
      refine k.say hS (l := 0 :: encodeList m) (by rw [hs, hc]; rfl) ?_ (s5.trans (same_new hq4)) (by rw [upd_same]; rfl) (s5.free hq4)
      show (m.length + 1) + 1 < _; omega
  · exact ((k.2 (-30) (by rw [solve_limit hlim]; rfl)).mono s1) _ T.x_SearchLimitExceeded.te

/-! ### check_certificate -/
def spCheck (K : PySem.W.Frag) (C Vw R : Addr) : Sp := fun vs H Q E => ∃ (p vs0 a c : Addr) (s : Vaviwc.State) (t : Int) (l m : List Int), vs = [.int t, .ref a, .ref c] ∧ StoreAt C Vw H p vs0 s ∧ SqL K H a (l.map V.int) ∧ l.length ≤ 100 ∧ SqL K H c (m.map V.int) ∧ m.length ≤ 3000 ∧ SmallT t ∧ Ends2 K C Vw R H Q E p vs0 (Vaviwc.outcome s (.checkCertificate t l m))
theorem ok_check_certificate (T : Top K mg) : FnOk P w K mg base (L2.CX P w) 9 T.f_check_certificate.a T.f_check_certificate.d ["target", "variables", "certificate"] (spCheck K T.c_Store T.c_View T.c_Refusal) := by
  refine T.f_check_certificate.F.okX sc_check_certificate (fun vs H Q E h => ?_) (fun cdv A outer s H vs Q E hr h => ⟨_, (pss_one (ps_ret (pe_call (ok_validity T) (hr.mono (by decide)) rfl T.g_validity T.f_validity.F.kp T.f_validity.b .nil (passes_call (takes_of rfl rfl rfl rfl) (fun _ _ _ _ h => h)) (pa_cons (pe_call (ok_equation_from T) (hr.mono (by decide)) rfl T.g_equation_from T.f_equation_from.F.kp T.f_equation_from.b .nil (passes_call (takes_of rfl rfl rfl rfl) (fun _ _ _ _ h => h)) (pa_cons (pv 0) (pa_cons (pv 1) pa_nil))) (pa_cons (pv 2) pa_nil))))), ?_⟩)
  · obtain ⟨p, vs0, a, c, s, t, l, m, rfl, _⟩ := h; rfl
  obtain ⟨p, vs0, a, c, st, t, l, m, rfl, hS, hA, hl, hM, hm, hst, k⟩ := h
  have e0 : Vaviwc.outcome st (.checkCertificate t l m) = (andThen (variablesArgument l) fun b => andThen (certificateArgument m) fun c => .ok (Vaviwc.encodeBool (Vaviwc.isValid t b c))).map fun l => (st, l) := rfl
  rw [e0] at k
  refine ⟨_, rfl, _, rfl, a, t, l, rfl, hA, hl, fun b hb fb H1 e s1 hE => ?_, fun z hz => k.2 z (by rw [hz]; rfl)⟩
  rw [hb] at k
  have k : Ends2 K T.c_Store T.c_View T.c_Refusal H Q E p vs0 ((andThen (certificateArgument m) fun c => .ok (Vaviwc.encodeBool (Vaviwc.isValid t b c))).map fun l => (st, l)) := k
  refine ⟨_, rfl, e, c, t, b, m, rfl, hE, fb, hst, s1.seq hM, hm, fun cc hc H2 q s2 hq nq => ?_, fun z hz => (k.2 z (by rw [hz]; rfl)).mono s1⟩
  exact k.say hS (l := Vaviwc.encodeBool (Vaviwc.isValid t b cc)) (by rw [hc]; rfl) (by show 1 < 10000000; decide) (s1.trans s2) hq (s1.free nq)

/-! ### two views -/
def spQ2 (K : PySem.W.Frag) (C Vw R : Addr) (c : Int → Int → Vaviwc.Call) : Sp := fun vs H Q E => ∃ (p vs0 : Addr) (s : Vaviwc.State) (r q : Int), vs = [.ref p, .int r, .int q] ∧ StoreAt C Vw H p vs0 s ∧ Ends2 K C Vw R H Q E p vs0 (Vaviwc.outcome s (c r q))
theorem ok_find_shared (T : Top K mg) : FnOk P w K mg base (L2.CX P w) 9 T.f_find_shared.a T.f_find_shared.d ["store", "p", "q"] (spQ2 K T.c_Store T.c_View T.c_Refusal .findShared) := by
  refine T.f_find_shared.F.okX sc_find_shared (fun vs H Q E h => ?_) (fun cdv A outer s H vs Q E hr h => ⟨_, (pss_cons (ps_set (i := 3) sc_find_shared.nd rfl (Or.inl rfl) (pe_meth (pv 0) T.l_Store.c T.m_Store_view_in (ok_Store_view_in T) (hr.mono (by decide)) T.f_Store_view_in.b .nil (passes_call (takes_of rfl rfl rfl rfl) (fun _ _ _ _ h => h)) (pa_cons (pv 1) pa_nil)))
    (pss_cons (ps_set (i := 4) sc_find_shared.nd rfl (Or.inl rfl) (pe_meth (pv 0) T.l_Store.c T.m_Store_view_in (ok_Store_view_in T) (hr.mono (by decide)) T.f_Store_view_in.b .nil (passes_call (takes_of rfl rfl rfl rfl) (fun _ _ _ _ h => h)) (pa_cons (pv 2) pa_nil)))
    (pss_cons (ps_asg (pe_call (ok_search T) (hr.mono (by decide)) rfl T.g_search T.f_search.F.kp T.f_search.b .nil (passes_call (takes_of rfl rfl rfl rfl) (fun _ _ _ _ h => h)) (pa_cons (pe_call (ok_shared_equation T) (hr.mono (by decide)) rfl T.g_shared_equation T.f_shared_equation.F.kp T.f_shared_equation.b .nil pass0 (pa_cons (pv 3) (pa_cons (pv 4) pa_nil))) (pa_cons (pe_glob rfl T.k_BOX_LIMIT.g T.k_BOX_LIMIT.r) pa_nil))) (pg_tup (by rfl) (pgs_cons (pg_name (i := 5) sc_find_shared.nd rfl (Or.inl rfl)) (pgs_cons (pg_name (i := 6) sc_find_shared.nd rfl (Or.inl rfl)) pgs_nil))))
    (pss_cons (ps_if (pt_cmpR op_isN (pv 5) pe_non (nomark _)) (pss_one (ps_ret (pe_op op_cat (pe_lst (pa_cons pe_int pa_nil)) (pe_call (ok_counted T) (hr.mono (by decide)) rfl T.g_counted T.f_counted.F.kp T.f_counted.b .nil pass0 (pa_cons (pv 6) pa_nil))))) pss_nil)
    (pss_cons (ps_set (i := 7) sc_find_shared.nd rfl (Or.inl rfl) (pe_callB call_len_seq (by rfl) T.b_len PySem.boot_len (pa_cons (pe_fld (pv 3) rfl) pa_nil)))
    (pss_one (ps_ret (pe_op op_cat (pe_op op_cat (pe_lst (pa_cons pe_int pa_nil)) (pe_call (ok_counted T) (hr.mono (by decide)) rfl T.g_counted T.f_counted.F.kp T.f_counted.b .nil pass0 (pa_cons (pe_slice sl_list (pv 5) po_none (po_some (pv 7))) pa_nil))) (pe_call (ok_counted T) (hr.mono (by decide)) rfl T.g_counted T.f_counted.F.kp T.f_counted.b .nil pass0 (pa_cons (pe_slice sl_list (pv 5) (po_some (pv 7)) po_none) pa_nil)))))))))), ?_⟩)
  · obtain ⟨p, vs0, s, r, q, rfl, _⟩ := h; rfl
  obtain ⟨p, vs0, st, r, q, rfl, hS, k⟩ := h
  obtain ⟨dx, rs, hp, hv, h6, hr4⟩ := hS.ex
  have e0 : Vaviwc.outcome st (.findShared r q) = (andThen (Vaviwc.register st r) fun v => andThen (Vaviwc.register st q) fun u => (match Vaviwc.solve (Vaviwc.sharedCellEquation v u).1 (Vaviwc.sharedCellEquation v u).2 with
    | .solution values => .ok (1 :: (encodeList (values.take v.axes.length) ++ encodeList (values.drop v.axes.length)))
    | x => encodeSearchResult x)).map fun l => (st, l) := rfl
  rw [e0] at k
  refine ⟨_, rfl, p, dx, _, rfl, hp, rfl, _, rfl, p, vs0, st, r, rfl, hS, fun v hv1 vok av hav => ?_, fun z hz => k.2 z (by rw [hz]; rfl)⟩
  rw [hv1] at k
  refine ⟨_, rfl, p, dx, _, rfl, hp, rfl, _, rfl, p, vs0, st, q, rfl, hS, fun u hu1 uok au hau => ?_, fun z hz => k.2 z (by show (andThen (Vaviwc.register st q) _).map _ = _; rw [hz]; rfl)⟩
  have k : Ends2 K T.c_Store T.c_View T.c_Refusal H Q E p vs0 ((match Vaviwc.solve (Vaviwc.sharedCellEquation v u).1 (Vaviwc.sharedCellEquation v u).2 with
    | .solution values => .ok (1 :: (encodeList (values.take v.axes.length) ++ encodeList (values.drop v.axes.length)))
    | x => encodeSearchResult x : Vaviwc.Outcome (List Int)).map fun l => (st, l)) := by
    have k2 := k
    simp only [andThen] at k2
    rw [hu1] at k2
    exact k2
  obtain ⟨fb, hst⟩ := shared_fine vok uok
  have blen : (Vaviwc.sharedCellEquation v u).2.length = v.axes.length + u.axes.length := by
    show (List.map _ _ ++ List.map _ _).length = _
    rw [List.length_append, List.length_map, List.length_map]
  have vl := vok.len
  have ul := uok.len
  refine ⟨_, rfl, _, rfl, av, au, v, u, rfl, hav, hau, fb, fun H1 e s1 hE => ?_⟩
  generalize (Vaviwc.sharedCellEquation v u).1 = t at k hst hE ⊢
  generalize (Vaviwc.sharedCellEquation v u).2 = b at k fb hE blen ⊢
  refine ⟨e, t, b, 2000, rfl, hE, fb, hst, by decide, fun vv hvv H2 q2 v' cl s2 hq hv' => ?_, fun m hm H2 q2 cl s2 hq hcl => ?_, fun hlim => ?_⟩
  · obtain ⟨hs, hvl⟩ := solve_found hvv
    have s12 := s1.trans s2
    obtain ⟨dv, ll, tt, g1, g2, g3⟩ := (hav.same s12).ex
    refine ⟨q2, _, rfl, .inl (.inl hq), rfl, _, _, rfl, _, _, rfl, rfl, ?_⟩
    refine ⟨_, rfl, rfl, _, rfl, iteF ?_⟩
    refine ⟨_, rfl, av, T.c_View, dv, _, _, rfl, g1, T.l_View.c, T.n_View.lengths, vF_lengths, ll, _, rfl, .inl (.inl (.inl g2)), ?_⟩
    have en : (((lenI v.axes).map V.int).length : Int) = ((v.axes.length : Nat) : Int) := by rw [List.length_map]; unfold lenI; rw [List.length_map]
    rw [en]
    refine ⟨one_ok, fun l1 hl1 => ?_⟩
    have s3 := s12.trans (same_new (o := .lst [.int 1]) hl1)
    have l3 : (upd H2 l1 (.lst [.int 1])) l1 = some (.lst [.int 1]) := upd_same
    have v3 := same_new (o := .lst [.int 1]) hl1 _ _ hv'
    generalize upd H2 l1 (.lst [.int 1]) = H3 at s3 l3 v3 ⊢
    refine ⟨_, rfl, _, rfl, _, rfl, v', _, rfl, .inl (.inl v3), fun c1 hc1 => ?_⟩
    have ct : cutV (vv.map V.int) none (some ((v.axes.length : Nat) : Int)) = (vv.take v.axes.length).map V.int := by
      unfold cutV
      rw [HT.sIx_none, HT.sIx_nat, List.length_map, List.drop_zero, Nat.sub_zero, Nat.min_eq_left (by omega), List.map_take]
    rw [ct]
    have s4 := s3.trans (same_new (o := .lst ((vv.take v.axes.length).map V.int)) hc1)
    have l4 := same_new (o := .lst ((vv.take v.axes.length).map V.int)) hc1 _ _ l3
    have v4 := same_new (o := .lst ((vv.take v.axes.length).map V.int)) hc1 _ _ v3
    have c4 : (upd H3 c1 (.lst ((vv.take v.axes.length).map V.int))) c1 = some (.lst ((vv.take v.axes.length).map V.int)) := upd_same
    generalize upd H3 c1 (.lst ((vv.take v.axes.length).map V.int)) = H4 at s4 l4 v4 c4 ⊢
    have t1 : (vv.take v.axes.length).length = v.axes.length := by rw [List.length_take]; omega
    have t2 : (vv.drop v.axes.length).length = u.axes.length := by rw [List.length_drop]; omega
    refine ⟨c1, _, rfl, c4, by omega, fun H5 q5 s5 h5 => ⟨l1, q5, _, _, rfl, rfl, s5 _ _ l4, h5, ?_, fun q6 hq6 => ?_⟩⟩
    · rw [List.length_map, List.length_cons, sizeLine_eq]; show 1 + (_ + 1) ≤ _; omega
    have s6 := (s4.trans s5).trans (same_new (o := .lst ([.int 1] ++ (((((vv.take v.axes.length).length : Nat) : Int) :: vv.take v.axes.length).map V.int))) hq6)
    have q6h : (upd H5 q6 (.lst ([.int 1] ++ (((((vv.take v.axes.length).length : Nat) : Int) :: vv.take v.axes.length).map V.int)))) q6 = some (.lst ((1 :: encodeList (vv.take v.axes.length)).map V.int)) := upd_same
    have v6 := same_new (o := .lst ([.int 1] ++ (((((vv.take v.axes.length).length : Nat) : Int) :: vv.take v.axes.length).map V.int))) hq6 _ _ (s5 _ _ v4)
    generalize upd H5 q6 (.lst ([.int 1] ++ (((((vv.take v.axes.length).length : Nat) : Int) :: vv.take v.axes.length).map V.int))) = H6 at s6 q6h v6 ⊢
    refine ⟨_, rfl, _, rfl, _, rfl, v', _, rfl, .inl (.inl v6), fun c2 hc2 => ?_⟩
    rw [cut_drop vv v.axes.length (by omega)]
    have s7 := s6.trans (same_new (o := .lst ((vv.drop v.axes.length).map V.int)) hc2)
    refine ⟨c2, _, rfl, upd_same, by omega, fun H8 q8 s8 h8 => ⟨q6, q8, _, _, rfl, rfl, s8 _ _ (same_new hc2 _ _ q6h), h8, ?_, fun q9 hq9 => ?_⟩⟩
    · rw [List.length_map, List.length_map, List.length_cons, List.length_cons, sizeLine_eq]
      show ((vv.take v.axes.length).length + 1 + 1) + (_ + 1) ≤ _; omega
    · refine k.say hS (l := 1 :: (encodeList (vv.take v.axes.length) ++ encodeList (vv.drop v.axes.length))) (by rw [hs]) ?_ ((s7.trans s8).trans (same_new hq9)) ?_ ((s7.trans s8).free hq9)
      · rw [List.length_cons, List.length_append]
        show ((vv.take v.axes.length).length + 1) + ((vv.drop v.axes.length).length + 1) + 1 < _
        omega
      · rw [upd_same, ← List.map_append]; rfl
  · obtain ⟨c, hs, hc, hml⟩ := solve_none hm
    have s12 := s1.trans s2
    refine ⟨q2, _, rfl, .inl (.inl hq), rfl, _, _, rfl, _, _, rfl, rfl, ?_⟩
    refine ⟨_, rfl, rfl, _, rfl, iteT ?_⟩
    refine ⟨one_ok, fun l1 hl1 => ⟨_, rfl, cl, m, rfl, same_new hl1 _ _ hcl, by omega, fun H3 q3 s3 h3 => ⟨l1, q3, _, _, rfl, rfl, s3 _ _ upd_same, h3, ?_, fun q4 hq4 => ?_⟩⟩⟩
    · rw [List.length_map, List.length_cons, sizeLine_eq]; show 1 + (m.length + 1) ≤ _; omega
    · have s5 := ((s12.trans (same_new (o := .lst [.int 0]) hl1)).trans s3)
      refine k.say hS (l := 0 :: encodeList m) (by rw [hs, hc]; rfl) ?_ (s5.trans (same_new hq4)) (by rw [upd_same]; rfl) (s5.free hq4)
      show (m.length + 1) + 1 < _; omega
  · exact ((k.2 (-30) (by rw [solve_limit hlim]; rfl)).mono s1) _ T.x_SearchLimitExceeded.te

def spDisjoint (K : PySem.W.Frag) (C Vw R : Addr) : Sp := fun vs H Q E => ∃ (p vs0 c : Addr) (s : Vaviwc.State) (r q : Int) (m : List Int), vs = [.ref p, .int r, .int q, .ref c] ∧ StoreAt C Vw H p vs0 s ∧ SqL K H c (m.map V.int) ∧ m.length ≤ 3000 ∧ Ends2 K C Vw R H Q E p vs0 (Vaviwc.outcome s (.proveDisjoint r q m))
theorem ok_prove_disjoint (T : Top K mg) : FnOk P w K mg base (L2.CX P w) 9 T.f_prove_disjoint.a T.f_prove_disjoint.d ["store", "p", "q", "certificate"] (spDisjoint K T.c_Store T.c_View T.c_Refusal) := by
  refine T.f_prove_disjoint.F.okX sc_prove_disjoint (fun vs H Q E h => ?_) (fun cdv A outer s H vs Q E hr h => ⟨_, (pss_cons (ps_set (i := 4) sc_prove_disjoint.nd rfl (Or.inl rfl) (pe_meth (pv 0) T.l_Store.c T.m_Store_view_in (ok_Store_view_in T) (hr.mono (by decide)) T.f_Store_view_in.b .nil (passes_call (takes_of rfl rfl rfl rfl) (fun _ _ _ _ h => h)) (pa_cons (pv 1) pa_nil)))
    (pss_cons (ps_set (i := 5) sc_prove_disjoint.nd rfl (Or.inl rfl) (pe_meth (pv 0) T.l_Store.c T.m_Store_view_in (ok_Store_view_in T) (hr.mono (by decide)) T.f_Store_view_in.b .nil (passes_call (takes_of rfl rfl rfl rfl) (fun _ _ _ _ h => h)) (pa_cons (pv 2) pa_nil)))
    (pss_one (ps_ret (pe_call (ok_validity T) (hr.mono (by decide)) rfl T.g_validity T.f_validity.F.kp T.f_validity.b .nil (passes_call (takes_of rfl rfl rfl rfl) (fun _ _ _ _ h => h)) (pa_cons (pe_call (ok_shared_equation T) (hr.mono (by decide)) rfl T.g_shared_equation T.f_shared_equation.F.kp T.f_shared_equation.b .nil pass0 (pa_cons (pv 4) (pa_cons (pv 5) pa_nil))) (pa_cons (pv 3) pa_nil))))))), ?_⟩)
  · obtain ⟨p, vs0, c, s, r, q, m, rfl, _⟩ := h; rfl
  obtain ⟨p, vs0, c, st, r, q, m, rfl, hS, hM, hm, k⟩ := h
  obtain ⟨dx, rs, hp, hv, h6, hr4⟩ := hS.ex
  have e0 : Vaviwc.outcome st (.proveDisjoint r q m) = (andThen (Vaviwc.register st r) fun v => andThen (Vaviwc.register st q) fun u => andThen (certificateArgument m) fun c => .ok (Vaviwc.encodeBool (Vaviwc.isValid (Vaviwc.sharedCellEquation v u).1 (Vaviwc.sharedCellEquation v u).2 c))).map fun l => (st, l) := rfl
  rw [e0] at k
  refine ⟨_, rfl, p, dx, _, rfl, hp, rfl, _, rfl, p, vs0, st, r, rfl, hS, fun v hv1 vok av hav => ?_, fun z hz => k.2 z (by rw [hz]; rfl)⟩
  rw [hv1] at k
  refine ⟨_, rfl, p, dx, _, rfl, hp, rfl, _, rfl, p, vs0, st, q, rfl, hS, fun u hu1 uok au hau => ?_, fun z hz => k.2 z (by show (andThen (Vaviwc.register st q) _).map _ = _; rw [hz]; rfl)⟩
  have k : Ends2 K T.c_Store T.c_View T.c_Refusal H Q E p vs0 ((andThen (certificateArgument m) fun c => .ok (Vaviwc.encodeBool (Vaviwc.isValid (Vaviwc.sharedCellEquation v u).1 (Vaviwc.sharedCellEquation v u).2 c))).map fun l => (st, l)) := by
    have k2 := k
    simp only [andThen] at k2
    rw [hu1] at k2
    exact k2
  obtain ⟨fb, hst⟩ := shared_fine vok uok
  refine ⟨_, rfl, _, rfl, av, au, v, u, rfl, hav, hau, fb, fun H1 e s1 hE => ?_⟩
  refine ⟨_, rfl, e, c, _, _, m, rfl, hE, fb, hst, s1.seq hM, hm, fun cc hc H2 q2 s2 hq nq => ?_, fun z hz => (k.2 z (by rw [hz]; rfl)).mono s1⟩
  exact k.say hS (l := Vaviwc.encodeBool (Vaviwc.isValid _ _ cc)) (by rw [hc]; rfl) (by show 1 < 10000000; decide) (s1.trans s2) hq (s1.free nq)
end Ov
end

section
set_option Elab.async false
set_option linter.all false
set_option maxRecDepth 100000
set_option maxHeartbeats 8000000
/-! repetitions: searched, proved not to be there -/
namespace Ov
open PySem PySem.Spec PyProof.Rows L2
open VaviwBase (View Axis andThen)
open Vaviwc (Box Variable freeVariables isFree variablesArgument axesArgument isNaturalUpToMax encodeList encodeSearchResult)
variable {P : Program} {w : World} {K : PySem.W.Frag} {mg : Str → Option Value} {base : Heap}

theorem reg_mem {s : Vaviwc.State} {r : Int} {v : View} (h6 : s.registers.length = 6) (h : Vaviwc.register s r = .ok v) : v ∈ s.registers := by
  unfold Vaviwc.register at h
  by_cases q : 0 ≤ r ∧ r < (Vaviwc.registerCount : Nat)
  · rw [if_pos q] at h
    injection h with h
    have q2 : r < 6 := q.2
    have hl : r.toNat < s.registers.length := by omega
    rw [List.getD_eq_getElem?_getD, List.getElem?_eq_getElem hl] at h
    rw [← h]
    exact List.getElem_mem hl
  · rw [if_neg q] at h; cases h
theorem rep_fine {n : Nat} {v : View} (hv : ViewOk v) (hn : n ≤ 1000000000000000000) (hf : v.fitsArray n = true) (hs : v.size ≠ 0) {i : Nat} (hi : i < v.axes.length) : FineB (eqAt v i).2 ∧ SmallT (eqAt v i).1 := by
  have hd := getD_drop hi
  have mem : ∀ x ∈ v.axes.getD i ⟨0, 0⟩ :: v.axes.drop (i + 1), x ∈ v.axes := fun x hx => by
    rw [← hd] at hx
    exact List.mem_of_mem_drop hx
  have hl := hv.len
  refine ⟨⟨repBox_low _ _, ?_, repBox_co fun x hx => hv.str x (mem x hx), repBox_up fun x hx => hv.big x (mem x hx)⟩, ?_⟩
  · show List.length (repBox _ _) ≤ 100
    rw [repBox_len, List.length_drop]; omega
  · have := repTarget_small (a := v.axes.getD i ⟨0, 0⟩) (l := v.axes.drop (i + 1)) (hv.str _ (mem _ List.mem_cons_self)) (by rw [List.length_drop]; omega) (fun x hx => by
      have := span_le hf hs x (mem x (List.mem_cons_of_mem _ hx))
      omega)
    show (repTarget _ _).natAbs < 2 ^ 70
    omega
/-- where the searches stand -/
structure RepAt (H H' : Hp) (ce : Addr) (v : View) (j : Nat) (cs : List Int) : Prop where
  same : Same H H'
  hce : H' ce = some (.lst (cs.map V.int))
  le : cs.length ≤ 2000
  eq : repGo v [] (axesI v) = repGo v cs ((axesI v).drop j)
theorem on_none_len {t : Int} {b : Box} {n : Nat} {x : List Int} (hn : n ≤ 2000) (hs : onStack t [b] n = .none_ x) : x.length ≤ n := by
  have o := on_one t b (Vaviwc.maxBoxes + 1) n (by show n < 2001; omega)
  rw [hs] at o
  have lf := left_is t (Vaviwc.maxBoxes + 1) n b
  rcases hr : Vaviwc.search t (Vaviwc.maxBoxes + 1) n b with ⟨r, m⟩
  rw [hr] at o lf
  cases r with
  | solution v' => cases o
  | limitExceeded => cases o
  | infeasible c =>
    injection o with o
    have lf : m + c.encode.length = n := lf c rfl
    rw [o]; omega
theorem diffs_len (l : List Axis) (x : List Int) : (Vaviwc.indexDifferences l x).length ≤ x.length := by
  unfold Vaviwc.indexDifferences
  split
  · rw [List.length_cons, List.length_map, List.length_zip, List.length_cons]; omega
  · exact Nat.zero_le _
theorem neg_max : ∀ z : Int, (if -z > 0 then -z else 0) = max 0 (-z) := fun z => by split <;> omega
theorem pos_max : ∀ z : Int, (if z > 0 then z else 0) = max 0 z := fun z => by split <;> omega
theorem ok_find_repetition (T : Top K mg) : FnOk P w K mg base (L2.CX P w) 9 T.f_find_repetition.a T.f_find_repetition.d ["store", "p"] (spQ1 K T.c_Store T.c_View T.c_Refusal .findRepetition) := by
  refine T.f_find_repetition.F.okX sc_find_repetition (fun vs H Q E h => ?_) (fun cdv A outer s H vs Q E hr h => ⟨_, (pss_cons (ps_set (i := 2) sc_find_repetition.nd rfl (Or.inl rfl) (pe_meth (pv 0) T.l_Store.c T.m_Store_view_in (ok_Store_view_in T) (hr.mono (by decide)) T.f_Store_view_in.b .nil (passes_call (takes_of rfl rfl rfl rfl) (fun _ _ _ _ h => h)) (pa_cons (pv 1) pa_nil)))
    (pss_cons (ps_set (i := 3) sc_find_repetition.nd rfl (Or.inl rfl) (pe_lst pa_nil))
    (pss_cons (ps_for (passes_of rfl) rfl (pi_list (pe_call (ok_repetition_axes T) (hr.mono (by decide)) rfl T.g_repetition_axes T.f_repetition_axes.F.kp T.f_repetition_axes.b .nil pass0 (pa_cons (pv 2) pa_nil))) (pg_name (i := 4) sc_find_repetition.nd rfl (Or.inl rfl)) (pss_cons (ps_set (i := 5) sc_find_repetition.nd rfl (Or.inl rfl) (pe_op op_sub (pe_glob rfl T.k_BOX_LIMIT.g T.k_BOX_LIMIT.r) (pe_callB call_len_seq (by rfl) T.b_len PySem.boot_len (pa_cons (pv 3) pa_nil))))
    (pss_cons (ps_asg (pe_call (ok_search T) (hr.mono (by decide)) rfl T.g_search T.f_search.F.kp T.f_search.b .nil (passes_call (takes_of rfl rfl rfl rfl) (fun _ _ _ _ h => h)) (pa_cons (pe_call (ok_repetition_equation T) (hr.mono (by decide)) rfl T.g_repetition_equation T.f_repetition_equation.F.kp T.f_repetition_equation.b .nil pass0 (pa_cons (pv 2) (pa_cons (pv 4) pa_nil))) (pa_cons (pv 5) pa_nil))) (pg_tup (by rfl) (pgs_cons (pg_name (i := 6) sc_find_repetition.nd rfl (Or.inl rfl)) (pgs_cons (pg_name (i := 7) sc_find_repetition.nd rfl (Or.inl rfl)) pgs_nil))))
    (pss_cons (ps_if (pt_cmpR op_notN (pv 6) pe_non (nomark _)) (pss_cons (ps_set (i := 8) sc_find_repetition.nd rfl (Or.inl rfl) (pe_call (ok_represented_differences T) (hr.mono (by decide)) rfl T.g_represented_differences T.f_represented_differences.F.kp T.f_represented_differences.b .nil pass0 (pa_cons (pv 2) (pa_cons (pv 4) (pa_cons (pv 6) pa_nil)))))
    (pss_cons (ps_setLc (i := 9) (own := [("difference", 11)]) (g := gName 11) (by rfl) sc_find_repetition.nd rfl rfl (sw_true rfl rfl rfl (by decide +kernel)) (pi_list (pv 8)) (blkOk_by (own := [("difference", 11)]) (N := N_find_repetition) (sc := defScope s_find_repetition) (by decide +kernel)) (fun _ _ _ _ _ => by exact (pg_name (i := 11) sc_find_repetition.nd rfl (Or.inl rfl))) (fun _ _ _ _ _ => by exact pts_nil) (fun _ _ _ _ _ => by exact (pe_callB (call_max2 rfl) (by rfl) T.b_max (by decide +kernel) (pa_cons pe_int (pa_cons (pe_un un_neg (pv 11)) pa_nil)))))
    (pss_cons (ps_setLc (i := 10) (own := [("difference", 11)]) (g := gName 11) (by rfl) sc_find_repetition.nd rfl rfl (sw_true rfl rfl rfl (by decide +kernel)) (pi_list (pv 8)) (blkOk_by (own := [("difference", 11)]) (N := N_find_repetition) (sc := defScope s_find_repetition) (by decide +kernel)) (fun _ _ _ _ _ => by exact (pg_name (i := 11) sc_find_repetition.nd rfl (Or.inl rfl))) (fun _ _ _ _ _ => by exact pts_nil) (fun _ _ _ _ _ => by exact (pe_callB (call_max2 rfl) (by rfl) T.b_max (by decide +kernel) (pa_cons pe_int (pa_cons (pv 11) pa_nil)))))
    (pss_one (ps_ret (pe_op op_cat (pe_op op_cat (pe_lst (pa_cons pe_int pa_nil)) (pe_call (ok_counted T) (hr.mono (by decide)) rfl T.g_counted T.f_counted.F.kp T.f_counted.b .nil pass0 (pa_cons (pv 9) pa_nil))) (pe_call (ok_counted T) (hr.mono (by decide)) rfl T.g_counted T.f_counted.F.kp T.f_counted.b .nil pass0 (pa_cons (pv 10) pa_nil)))))))) pss_nil)
    (pss_one (ps_expr (pe_bm PySem.F.plainAttrs_list PySem.F.slot_list_extend PySem.F.type_list_extend mt_extend (pv 3) (pa_cons (pv 7) pa_nil))))))))
    (pss_one (ps_ret (pe_op op_cat (pe_lst (pa_cons pe_int pa_nil)) (pe_call (ok_counted T) (hr.mono (by decide)) rfl T.g_counted T.f_counted.F.kp T.f_counted.b .nil pass0 (pa_cons (pv 3) pa_nil)))))))), ?_⟩)
  · obtain ⟨p, vs0, s, r, rfl, _⟩ := h; rfl
  obtain ⟨p, vs0, st, r, rfl, hS, k⟩ := h
  obtain ⟨dx, rs, hp, hv, h6, hr4⟩ := hS.ex
  have e0 : Vaviwc.outcome st (.findRepetition r) = (andThen (Vaviwc.register st r) fun v => (match Vaviwc.findRepetition v with
    | .indices x y => .ok (1 :: (encodeList x ++ encodeList y))
    | .distinct cs => .ok (0 :: encodeList (cs.flatMap Vaviwc.Certificate.encode))
    | .limitExceeded => .error (-30))).map fun l => (st, l) := rfl
  rw [e0] at k
  refine ⟨_, rfl, p, dx, _, rfl, hp, rfl, _, rfl, p, vs0, st, r, rfl, hS, fun v hv1 vok q hq => ?_, fun z hz => k.2 z (by rw [hz]; rfl)⟩
  have vmem := reg_mem hS.ok.six hv1
  have vfit := hS.ok.fits v vmem
  have slen := hS.ok.len
  rw [hv1] at k
  have k : Ends2 K T.c_Store T.c_View T.c_Refusal H Q E p vs0 ((match Vaviwc.findRepetition v with
    | .indices x y => .ok (1 :: (encodeList x ++ encodeList y))
    | .distinct cs => .ok (0 :: encodeList (cs.flatMap Vaviwc.Certificate.encode))
    | .limitExceeded => .error (-30) : Vaviwc.Outcome (List Int)).map fun l => (st, l)) := k
  have fin := rep_all v
  have vl := vok.len
  have al := axesI_len v
  refine ⟨Nat.zero_le _, fun ce hce => ?_⟩
  have s0 : Same H (upd H ce (.lst [])) := same_new hce
  refine ⟨_, rfl, q, v, rfl, hq.same s0, by omega, fun H1 ra s1 nra hra => ?_⟩
  have s01 := s0.trans s1
  have nra : ra ≠ ce := fun e => by rw [e, upd_same] at nra; cases nra
  refine ⟨ra, rfl, ⟨_, .inl (.inl hra)⟩, ?_⟩
  refine for_list (K := K) (a := ra) (xs := (natI (axesI v)).map V.int) (fun j σ H' => ∃ (cs : List Int) (u4 u5 u6 u7 u8 u9 u10 u11 : Option V), σ = [some (.ref p), some (.int r), some (.ref q), some (.ref ce), u4, u5, u6, u7, u8, u9, u10, u11] ∧ H' ra = some (.lst ((natI (axesI v)).map V.int)) ∧ RepAt H H' ce v j cs)
    ⟨[], none, none, none, none, none, none, none, none, rfl, hra, s01, s1 _ _ upd_same, Nat.zero_le _, rfl⟩ (fun j σ H' _ ⟨_, _, _, _, _, _, _, _, _, _, hra', _⟩ => .inl (.inl hra')) ?_ ?_
  · rintro j y σ H2 hj ⟨cs, u4, u5, u6, u7, u8, u9, u10, u11, rfl, hra2, S⟩
    obtain ⟨z, hz, rfl⟩ := getI hj
    obtain ⟨i, hi, rfl⟩ : ∃ i : Nat, (axesI v)[j]? = some i ∧ z = (i : Int) := by
      unfold natI at hz
      rw [List.getElem?_map] at hz
      cases e : (axesI v)[j]? with
      | none => rw [e] at hz; cases hz
      | some i => rw [e] at hz; exact ⟨i, rfl, (Option.some.inj hz).symm⟩
    obtain ⟨vs_, ilt, i2⟩ := axesI_mem (List.mem_of_getElem? hi)
    obtain ⟨fb, hst⟩ := rep_fine vok slen vfit vs_ ilt
    have hd : (axesI v).drop j = i :: (axesI v).drop (j + 1) := by
      have h2 := (List.getElem?_eq_some_iff.mp hi)
      rw [← h2.2]
      exact List.drop_eq_getElem_cons h2.1
    have eq := S.eq
    rw [hd, repGo] at eq
    have le := S.le
    have sH := S.same
    have hce2 := S.hce
    -- boxes_left
    refine ⟨_, rfl, ce, _, rfl, .inl (.inl (.inl hce2)), _, _, rfl, rfl, ?_⟩
    have eb : (2000 : Int) - ((cs.map V.int).length : Int) = ((2000 - cs.length : Nat) : Int) := by rw [List.length_map]; omega
    refine slots (σ' := [some (.ref p), some (.int r), some (.ref q), some (.ref ce), some (.int i), some (.int ((2000 - cs.length : Nat) : Int)), u6, u7, u8, u9, u10, u11]) (by rw [← eb]; rfl) ?_
    refine ⟨_, rfl, _, rfl, q, v, i, rfl, hq.same sH, vok.fineV, ilt, fb, fun H3 e s3 hE => ?_⟩
    have sH3 := sH.trans s3
    have hce3 := s3 _ _ hce2
    have hra3 := s3 _ _ hra2
    refine ⟨_, rfl, e, (eqAt v i).1, (eqAt v i).2, 2000 - cs.length, rfl, hE, fb, hst, by omega, fun x hx H4 q4 v' cl s4 hq4 hv' => ?_, fun l hl H4 q4 cl s4 hq4 hcl => ?_, fun hlim => ?_⟩
    · -- found
      rw [hx] at eq
      rw [eq] at fin
      obtain ⟨f1, f2⟩ := fin
      refine ⟨q4, _, rfl, .inl (.inl hq4), rfl, _, _, rfl, _, _, rfl, rfl, ?_⟩
      refine ⟨_, rfl, rfl, _, rfl, iteT ?_⟩
      have sH4 := sH3.trans s4
      refine ⟨_, rfl, _, rfl, _, rfl, q, v', v, i, x, rfl, hq.same sH4, by omega, ilt, .inl (.inl hv'), f2, fun H5 dq s5 hdq => ?_⟩
      have dlen : (List.replicate i 0 ++ Vaviwc.indexDifferences (v.axes.drop i) x).length ≤ 1000 := by
        have := diffs_len (v.axes.drop i) x
        rw [List.length_append, List.length_replicate]
        omega
      generalize List.replicate i 0 ++ Vaviwc.indexDifferences (v.axes.drop i) x = ds at f1 hdq dlen
      rw [f1] at k
      have sH5 := sH4.trans s5
      refine ⟨_, rfl, dq, rfl, ⟨_, .inl (.inl hdq)⟩, fun D hD => comp1 (ns := ds) (fun _ => true) (fun z => V.int (max 0 (-z))) (.inl (.inl hdq)) (few_line dlen) hD
        (fun z H6 R E' _ _ hR _ => ⟨rfl, yes ⟨_, rfl, _, rfl, 0, -z, rfl, by rw [neg_max]; exact hR rfl _ (Same.refl _)⟩⟩) (fun H6 s6 d6 => ?_)⟩
      rw [List.filter_eq_self.mpr (fun _ _ => rfl), mapI (fun z => max 0 (-z))] at d6
      have hdq6 := s6 _ _ hdq
      refine ⟨_, rfl, dq, rfl, ⟨_, .inl (.inl hdq6)⟩, fun D2 hD2 => comp1 (ns := ds) (fun _ => true) (fun z => V.int (max 0 z)) (.inl (.inl hdq6)) (few_line dlen) hD2
        (fun z H7 R E' _ _ hR _ => ⟨rfl, yes ⟨_, rfl, 0, z, rfl, by rw [pos_max]; exact hR rfl _ (Same.refl _)⟩⟩) (fun H7 s7 d7 => ?_)⟩
      rw [List.filter_eq_self.mpr (fun _ _ => rfl), mapI (fun z => max 0 z)] at d7
      have sH7 := (sH5.trans s6).trans s7
      have d6' := s7 _ _ d6
      have l1 : (ds.map fun z => max 0 (-z)).length ≤ 1000 := by rw [List.length_map]; exact dlen
      have l2 : (ds.map fun z => max 0 z).length ≤ 1000 := by rw [List.length_map]; exact dlen
      generalize (ds.map fun z => max 0 (-z)) = xs at k d6' l1
      generalize (ds.map fun z => max 0 z) = ys at k d7 l2
      refine ⟨one_ok, fun l1 hl1 => ?_⟩
      have s8 := sH7.trans (same_new (o := .lst [.int 1]) hl1)
      have l8 : (upd H7 l1 (.lst [.int 1])) l1 = some (.lst [.int 1]) := upd_same
      have x8 := same_new (o := .lst [.int 1]) hl1 _ _ d6'
      have y8 := same_new (o := .lst [.int 1]) hl1 _ _ d7
      generalize upd H7 l1 (.lst [.int 1]) = H8 at s8 l8 x8 y8 ⊢
      refine ⟨_, rfl, D, xs, rfl, x8, by omega, fun H9 q9 s9 h9 => ⟨l1, q9, _, _, rfl, rfl, s9 _ _ l8, h9, ?_, fun q10 hq10 => ?_⟩⟩
      · rw [List.length_map, List.length_cons, sizeLine_eq]; show 1 + (xs.length + 1) ≤ _; omega
      have s10 := (s8.trans s9).trans (same_new (o := .lst ([.int 1] ++ (((xs.length : Int) :: xs).map V.int))) hq10)
      have q10h : (upd H9 q10 (.lst ([.int 1] ++ (((xs.length : Int) :: xs).map V.int)))) q10 = some (.lst ((1 :: encodeList xs).map V.int)) := upd_same
      have y10 := same_new (o := .lst ([.int 1] ++ (((xs.length : Int) :: xs).map V.int))) hq10 _ _ (s9 _ _ y8)
      generalize upd H9 q10 (.lst ([.int 1] ++ (((xs.length : Int) :: xs).map V.int))) = H10 at s10 q10h y10 ⊢
      refine ⟨_, rfl, D2, ys, rfl, y10, by omega, fun H11 q11 s11 h11 => ⟨q10, q11, _, _, rfl, rfl, s11 _ _ q10h, h11, ?_, fun q12 hq12 => ?_⟩⟩
      · rw [List.length_map, List.length_map, List.length_cons, List.length_cons, sizeLine_eq]
        show (xs.length + 1 + 1) + (ys.length + 1) ≤ _; omega
      refine k.say hS (l := 1 :: (encodeList xs ++ encodeList ys)) rfl ?_ ((s10.trans s11).trans (same_new hq12)) ?_ ((s10.trans s11).free hq12)
      · rw [List.length_cons, List.length_append]
        show (xs.length + 1) + (ys.length + 1) + 1 < _
        omega
      · rw [upd_same, ← List.map_append]; rfl
    · -- none
      rw [hl] at eq
      have eq : repGo v [] (axesI v) = repGo v (cs ++ l) ((axesI v).drop (j + 1)) := eq
      refine ⟨q4, _, rfl, .inl (.inl hq4), rfl, _, _, rfl, _, _, rfl, rfl, ?_⟩
      refine ⟨_, rfl, rfl, _, rfl, iteF ?_⟩
      have sH4 := sH3.trans s4
      have hce4 := s4 _ _ hce3
      have ln : l.length ≤ 2000 - cs.length := on_none_len (by omega) hl
      refine ⟨_, rfl, .inl ⟨rfl, _, .inl (.inl hce4)⟩, _, rfl, ce, cl, _, _, rfl, rfl, hce4, hcl, ?_, ?_⟩
      · rw [List.length_map, List.length_map, sizeLine_eq]; omega
      refine ⟨cs ++ l, _, _, _, _, _, _, _, _, rfl, (upd_ne nra).trans (s4 _ _ hra3), Same.upd hce sH4, ?_, by rw [List.length_append]; omega, eq⟩
      rw [upd_same, List.map_append]
    · -- limit
      rw [hlim] at eq
      rw [eq] at fin
      have fin : Vaviwc.findRepetition v = .limitExceeded := fin
      rw [fin] at k
      exact ((k.2 (-30) rfl).mono sH3) _ T.x_SearchLimitExceeded.te
  · rintro σ H2 ⟨cs, u4, u5, u6, u7, u8, u9, u10, u11, rfl, hra2, S⟩
    have eq := S.eq
    have e1 : (axesI v).drop ((natI (axesI v)).map V.int).length = [] := by
      unfold natI
      rw [List.length_map, List.length_map, List.drop_length]
    rw [e1] at eq
    rw [eq] at fin
    obtain ⟨certs, f1, f2, f3⟩ := fin
    rw [f1] at k
    have sH := S.same
    have hce2 := S.hce
    have f2 : cs = certs.flatMap Vaviwc.Certificate.encode := f2
    have k : Ends2 K T.c_Store T.c_View T.c_Refusal H Q E p vs0 ((.ok (0 :: encodeList cs) : Vaviwc.Outcome (List Int)).map fun l => (st, l)) := by
      rw [f2]
      exact k
    refine ⟨one_ok, fun l1 hl1 => ⟨_, rfl, ce, cs, rfl, same_new hl1 _ _ hce2, by omega, fun H3 q3 s3 h3 => ⟨l1, q3, _, _, rfl, rfl, s3 _ _ upd_same, h3, ?_, fun q4 hq4 => ?_⟩⟩⟩
    · rw [List.length_map, List.length_cons, sizeLine_eq]; show 1 + (cs.length + 1) ≤ _; omega
    · have s5 := ((sH.trans (same_new (o := .lst [.int 0]) hl1)).trans s3)
      refine k.say hS (l := 0 :: encodeList cs) rfl ?_ (s5.trans (same_new hq4)) (by rw [upd_same]; rfl) (s5.free hq4)
      show (cs.length + 1) + 1 < _; omega

/-! ### prove_distinct -/
theorem allValid_zip : ∀ (es : List (Int × Box)) (xs : List (List Int)), allValid es xs = (List.zipWith (fun (e : Int × Box) x => onClaims e.1 [e.2] x) es xs).all id
  | [], xs => by cases xs <;> rfl
  | e :: es, [] => rfl
  | e :: es, x :: xs => by
    show (onClaims e.1 [e.2] x && allValid es xs) = (_ && (List.zipWith _ es xs).all id)
    rw [allValid_zip es xs]; rfl
def spDistinct (K : PySem.W.Frag) (C Vw R : Addr) : Sp := fun vs H Q E => ∃ (p vs0 c : Addr) (s : Vaviwc.State) (r : Int) (m : List Int), vs = [.ref p, .int r, .ref c] ∧ StoreAt C Vw H p vs0 s ∧ SqL K H c (m.map V.int) ∧ m.length ≤ 3000 ∧ Ends2 K C Vw R H Q E p vs0 (Vaviwc.outcome s (.proveDistinct r m))
theorem ok_prove_distinct (T : Top K mg) : FnOk P w K mg base (L2.CX P w) 9 T.f_prove_distinct.a T.f_prove_distinct.d ["store", "p", "certificates"] (spDistinct K T.c_Store T.c_View T.c_Refusal) := by
  refine T.f_prove_distinct.F.okX sc_prove_distinct (fun vs H Q E h => ?_) (fun cdv A outer s H vs Q E hr h => ⟨_, (pss_cons (ps_set (i := 3) sc_prove_distinct.nd rfl (Or.inr rfl) (pe_meth (pv 0) T.l_Store.c T.m_Store_view_in (ok_Store_view_in T) (hr.mono (by decide)) T.f_Store_view_in.b .nil (passes_call (takes_of rfl rfl rfl rfl) (fun _ _ _ _ h => h)) (pa_cons (pv 1) pa_nil)))
    (pss_cons (ps_set (i := 4) sc_prove_distinct.nd rfl (Or.inl rfl) (pe_call (ok_repetition_axes T) (hr.mono (by decide)) rfl T.g_repetition_axes T.f_repetition_axes.F.kp T.f_repetition_axes.b .nil pass0 (pa_cons (pv 3) pa_nil)))
    (pss_cons (ps_set (i := 5) sc_prove_distinct.nd rfl (Or.inl rfl) (pe_call (ok_separated T) (hr.mono (by decide)) rfl T.g_separated T.f_separated.F.kp T.f_separated.b .nil pass0 (pa_cons (pv 2) pa_nil)))
    (pss_cons (ps_if (PW.pt (pw_or (pt_cmpR op_isN (pv 5) pe_non (nomark _)) (pw_or1 (pt_cmpR op_ne (pe_callB call_len_seq (by rfl) T.b_len PySem.boot_len (pa_cons (pv 5) pa_nil)) (pe_callB call_len_seq (by rfl) T.b_len PySem.boot_len (pa_cons (pv 4) pa_nil)) (nomark _))))) (pss_one (ps_ret (pe_lst (pa_cons pe_int pa_nil)))) pss_nil)
    (pss_cons (ps_set (i := 6) sc_prove_distinct.nd rfl (Or.inl rfl) (pe_callB (cr_all rfl) (by rfl) T.b_all (by decide +kernel) (pa_cons (pe_lc (own := [("axis", 7), ("part", 8)]) (g := gTup K 2 (gCons (gName 7) (gCons (gName 8) gNil))) (by rfl) sc_prove_distinct.nd (pi_zip (by rfl) T.b_zip (pa_cons (pv 4) (pa_cons (pv 5) pa_nil))) (blkOk_by (own := [("axis", 7), ("part", 8)]) (N := N_prove_distinct) (sc := defScope s_prove_distinct) (by decide +kernel)) (fun _ _ _ _ _ => by exact (pg_tup (by rfl) (pgs_cons (pg_name (i := 7) sc_prove_distinct.nd rfl (Or.inl rfl)) (pgs_cons (pg_name (i := 8) sc_prove_distinct.nd rfl (Or.inl rfl)) pgs_nil)))) (fun _ _ _ _ _ => by exact pts_nil) (fun _ _ _ _ _ => by exact (pe_call (ok_is_valid T) (hr.mono (by decide)) rfl T.g_is_valid T.f_is_valid.F.kp T.f_is_valid.b .nil pass0 (pa_cons (pe_call (ok_repetition_equation T) (hr.mono (by decide)) rfl T.g_repetition_equation T.f_repetition_equation.F.kp T.f_repetition_equation.b .nil pass0 (pa_cons (pv 3) (pa_cons (pv 7) pa_nil))) (pa_cons (pv 8) pa_nil))))) pa_nil)))
    (pss_one (ps_ret (pe_lst (pa_cons (pe_ifExp (pt_truth (pv 6) (by intro _; rfl)) pe_int pe_int) pa_nil))))))))), ?_⟩)
  · obtain ⟨p, vs0, c, s, r, m, rfl, _⟩ := h; rfl
  obtain ⟨p, vs0, c, st, r, m, rfl, hS, hM, hm, k⟩ := h
  obtain ⟨dx, rs, hp, hv, h6, hr4⟩ := hS.ex
  have e0 : Vaviwc.outcome st (.proveDistinct r m) = (andThen (Vaviwc.register st r) fun v => .ok (Vaviwc.encodeBool (Vaviwc.provesDistinct (Vaviwc.suffixesOf v) m))).map fun l => (st, l) := rfl
  rw [e0] at k
  refine ⟨_, rfl, p, dx, _, rfl, hp, rfl, _, rfl, p, vs0, st, r, rfl, hS, fun v hv1 vok q hq => ?_, fun z hz => k.2 z (by rw [hz]; rfl)⟩
  have vmem := reg_mem hS.ok.six hv1
  have vfit := hS.ok.fits v vmem
  have slen := hS.ok.len
  rw [hv1] at k
  have k : Ends2 K T.c_Store T.c_View T.c_Refusal H Q E p vs0 ((.ok (Vaviwc.encodeBool (Vaviwc.provesDistinct (Vaviwc.suffixesOf v) m)) : Vaviwc.Outcome (List Int)).map fun l => (st, l)) := k
  rw [proves_is, eqs_is] at k
  have vl := vok.len
  have al := axesI_len v
  have say : ∀ (b : Bool) (H' : Hp) (z : Addr), Same H H' → H' z = none → Ends2 K T.c_Store T.c_View T.c_Refusal H Q E p vs0 ((.ok (Vaviwc.encodeBool b) : Vaviwc.Outcome (List Int)).map fun l => (st, l)) → Q (.ref z) (upd H' z (.lst [.int (if b = true then 1 else 0)])) := fun b H' z s' nz k =>
    k.say hS (l := Vaviwc.encodeBool b) rfl (by show 1 < 10000000; decide) (s'.trans (same_new nz)) upd_same (s'.free nz)
  refine ⟨_, rfl, q, v, rfl, hq, by omega, fun H1 ra s1 nra hra => ?_⟩
  have lax : ((natI (axesI v)).map V.int).length = (axesI v).length := by unfold natI; rw [List.length_map, List.length_map]
  refine ⟨_, rfl, c, m, rfl, s1.seq hM, hm, fun hn H2 s2 => ?_, fun xs hx H2 rl s2 hrl => ?_⟩
  · rw [hn] at k
    exact ⟨_, rfl, rfl, _, rfl, iteT ⟨one_ok, fun z nz => say false H2 z (s1.trans s2) nz k⟩⟩
  · rw [hx] at k
    have each := (sep_each m.length m xs (Nat.le_refl _) hx).1
    obtain ⟨ras, hr1, hr2, hr3⟩ := hrl.ex
    have s12 := s1.trans s2
    have hra2 := s2 _ _ hra
    refine ⟨_, rfl, rfl, _, rfl, iteF ⟨_, rfl, rl, _, rfl, .inl (.inl (.inl hr1)), _, rfl, ra, _, rfl, .inl (.inl (.inl hra2)), rfl, _, rfl, ?_⟩⟩
    rw [lax, List.length_map, hr2]
    refine iteNe (fun hne => ?_) (fun heq => ?_)
    · have e : decide (xs.length = ((axesI v).map (eqAt v)).length) = false := decide_eq_false (by rw [List.length_map]; omega)
      have k : Ends2 K T.c_Store T.c_View T.c_Refusal H Q E p vs0 ((.ok (Vaviwc.encodeBool (decide (xs.length = ((axesI v).map (eqAt v)).length) && allValid ((axesI v).map (eqAt v)) xs)) : Vaviwc.Outcome (List Int)).map fun l => (st, l)) := k
      rw [e, Bool.false_and] at k
      exact ⟨one_ok, fun z nz => say false H2 z s12 nz k⟩
    · have hlen : xs.length = (axesI v).length := by omega
      have e : decide (xs.length = ((axesI v).map (eqAt v)).length) = true := decide_eq_true (by rw [List.length_map]; exact hlen)
      have k : Ends2 K T.c_Store T.c_View T.c_Refusal H Q E p vs0 ((.ok (Vaviwc.encodeBool (decide (xs.length = ((axesI v).map (eqAt v)).length) && allValid ((axesI v).map (eqAt v)) xs)) : Vaviwc.Outcome (List Int)).map fun l => (st, l)) := k
      rw [e, Bool.true_and, allValid_zip] at k
      refine ⟨_, rfl, _, rfl, ra, rl, _, _, rfl, .inl (.inl hra2), .inl (.inl hr1), fun D hD => ?_⟩
      refine comp_it (walk_zip (n := (axesI v).length) (by rw [lax, List.length_map, hr2, hlen, Nat.min_self])) (fun _ => true)
        (fun i => V.bl (onClaims (((axesI v).map (eqAt v)).getD i (0, [])).1 [(((axesI v).map (eqAt v)).getD i (0, [])).2] (xs.getD i []))) (few_line (by omega)) hD (fun H' s' => ⟨.inl (.inl (s' _ _ hra2)), .inl (.inl (s' _ _ hr1))⟩) ?_ (fun H3 s3 d3 => ?_)
      · rintro j x H3 H4 R E' hj s3 ⟨T1, x0, y0, rfl, hT, rfl, hx0, hy0⟩ hR _
        obtain ⟨z, hz, rfl⟩ := getI hx0
        obtain ⟨i, hi, rfl⟩ : ∃ i : Nat, (axesI v)[j]? = some i ∧ z = (i : Int) := by
          unfold natI at hz
          rw [List.getElem?_map] at hz
          cases e : (axesI v)[j]? with
          | none => rw [e] at hz; cases hz
          | some i => rw [e] at hz; exact ⟨i, rfl, (Option.some.inj hz).symm⟩
        obtain ⟨rr, hrr, rfl⟩ : ∃ rr : Addr, ras[j]? = some rr ∧ y0 = V.ref rr := by
          have hy0 : (ras.map V.ref)[j]? = some y0 := hy0
          rw [List.getElem?_map] at hy0
          cases e : ras[j]? with
          | none => rw [e] at hy0; cases hy0
          | some rr => rw [e] at hy0; exact ⟨rr, rfl, (Option.some.inj hy0).symm⟩
        obtain ⟨x, hx1, hx2⟩ := hr3 j rr hrr
        obtain ⟨o1, o2⟩ := each x (List.mem_of_getElem? hx1)
        obtain ⟨vs_, ilt, i2⟩ := axesI_mem (List.mem_of_getElem? hi)
        obtain ⟨fb, hst⟩ := rep_fine vok slen vfit vs_ ilt
        have g1 : ((axesI v).map (eqAt v)).getD j (0, []) = eqAt v i := by rw [List.getD_eq_getElem?_getD, List.getElem?_map, hi]; rfl
        have g2 : xs.getD j [] = x := by rw [List.getD_eq_getElem?_getD, hx1]; rfl
        rw [g1, g2] at hR
        have s4 : Same H3 (upd H3 T1 (.tup [.int i, .ref rr])) := same_new hT
        refine ⟨T1, _, rfl, .inl (.inl upd_same), rfl, _, _, rfl, _, _, rfl, rfl, rfl, ?_⟩
        generalize upd H3 T1 (.tup [.int i, .ref rr]) = H4 at s4 ⊢
        have sH := (s12.trans s3).trans s4
        refine yes ⟨_, rfl, _, rfl, q, v, i, rfl, hq.same sH, vok.fineV, ilt, fb, fun H5 e s5 hE => ⟨_, rfl, e, rr, (eqAt v i).1, (eqAt v i).2, x, rfl, hE, fb, hst, .inl (.inl (((s3.trans s4).trans s5) _ _ hx2)), by omega, o1, fun H6 s6 => hR rfl _ ((s4.trans s5).trans s6)⟩⟩
      · rw [List.filter_eq_self.mpr (fun _ _ => rfl), mapBl] at d3
        have ez : (List.range (axesI v).length).map (fun i => onClaims (((axesI v).map (eqAt v)).getD i (0, [])).1 [(((axesI v).map (eqAt v)).getD i (0, [])).2] (xs.getD i [])) = List.zipWith (fun (e : Int × Box) x => onClaims e.1 [e.2] x) ((axesI v).map (eqAt v)) xs := by
          rw [← range_zip (fun (e : Int × Box) x => onClaims e.1 [e.2] x) (0, []) [], List.length_map, hlen, Nat.min_self]
        rw [ez] at d3
        generalize List.zipWith (fun (e : Int × Box) x => onClaims e.1 [e.2] x) ((axesI v).map (eqAt v)) xs = bs at d3 k
        refine ⟨_, _, rfl, .inl (.inl d3), ?_⟩
        refine ⟨_, rfl, bs.all id, rfl, ?_⟩
        cases hb : bs.all id with
        | true =>
          rw [hb] at k
          exact iteT ⟨one_ok, fun z nz => say true H3 z (s12.trans s3) nz k⟩
        | false =>
          rw [hb] at k
          exact iteF ⟨one_ok, fun z nz => say false H3 z (s12.trans s3) nz k⟩
end Ov
end

section
set_option Elab.async false
set_option linter.all false
set_option maxRecDepth 100000
set_option maxHeartbeats 8000000
/-! views gone through cell by cell -/
namespace Ov
open PySem PySem.Spec PyProof.Rows L2
open VaviwBase (View Axis andThen)
open Vaviwc (Box Variable distinctElements positionsOf encodeList)
variable {P : Program} {w : World} {K : PySem.W.Frag} {mg : Str → Option Value} {base : Heap}

/-! ### all cells of a view -/
def spListed (K : PySem.W.Frag) (C R : Addr) : Sp := fun vs H Q E => ∃ (a : Addr) (v : View), vs = [.ref a] ∧ ViewAt C H a v ∧ ViewOk v ∧
  (∀ l, Vaviwc.enumeratedCells v = .ok l → l.length ≤ 400 → ∀ (H' : Hp) (q : Addr), Same H H' → H' q = some (.lst (l.map V.int)) → Q (.ref q) H') ∧ (∀ z, Vaviwc.enumeratedCells v = .error z → OutAny K R H E z)
theorem ok_listed_cells (T : Top K mg) : FnOk P w K mg base (L2.CX P w) 4 T.f_listed_cells.a T.f_listed_cells.d ["view"] (spListed K T.c_View T.c_Refusal) := by
  refine T.f_listed_cells.F.okX sc_listed_cells (fun vs H Q E h => ?_) (fun cdv A outer s H vs Q E hr h => ⟨_, (pss_cons (ps_if (pt_cmpR op_gt (pe_fld (pv 0) rfl) (pe_glob rfl T.k_ELEMENT_LIMIT.g T.k_ELEMENT_LIMIT.r) (nomark _)) (pss_one (ps_raise rfl (takes_of rfl rfl rfl rfl) (pmk_ref T.x_TooManyElements (ok_TooManyElements_init T) (hr.mono (by decide)) T.f_TooManyElements_init.b))) pss_nil)
    (pss_cons (ps_if (pt_cmpR op_eq (pe_fld (pv 0) rfl) pe_int (nomark _)) (pss_one (ps_ret (pe_lst pa_nil))) pss_nil)
    (pss_cons (ps_set (i := 1) sc_listed_cells.nd rfl (Or.inl rfl) (pe_lst (pa_cons (pe_fld (pv 0) rfl) pa_nil)))
    (pss_cons (ps_for (passes_of rfl) rfl (pi_zip (by rfl) T.b_zip (pa_cons (pe_fld (pv 0) rfl) (pa_cons (pe_fld (pv 0) rfl) pa_nil))) (pg_tup (by rfl) (pgs_cons (pg_name (i := 2) sc_listed_cells.nd rfl (Or.inl rfl)) (pgs_cons (pg_name (i := 3) sc_listed_cells.nd rfl (Or.inr rfl)) pgs_nil))) (pss_cons (ps_set (i := 4) sc_listed_cells.nd rfl (Or.inl rfl) (pe_lst pa_nil))
    (pss_cons (ps_for (passes_of rfl) rfl (pi_list (pv 1)) (pg_name (i := 5) sc_listed_cells.nd rfl (Or.inr rfl)) (pss_one (ps_expr (pe_bm PySem.F.plainAttrs_list PySem.F.slot_list_extend PySem.F.type_list_extend mt_extend (pv 4) (pa_cons (pe_lc (own := [("position", 6)]) (g := gName 6) (by rfl) sc_listed_cells.nd (pi_range1 (by rfl) T.b_range (pa_cons (pv 2) pa_nil)) (blkOk_by (own := [("position", 6)]) (N := N_listed_cells) (sc := defScope s_listed_cells) (by decide +kernel)) (fun _ _ _ _ _ => by exact (pg_name (i := 6) sc_listed_cells.nd rfl (Or.inl rfl))) (fun _ _ _ _ _ => by exact pts_nil) (fun _ _ _ _ _ => by exact (pe_op op_add (pv 5) (pe_op op_mulW (pv 6) (pv 3))))) pa_nil)))))
    (pss_one (ps_set (i := 1) sc_listed_cells.nd rfl (Or.inl rfl) (pv 4))))))
    (pss_one (ps_ret (pv 1))))))), ?_⟩)
  · obtain ⟨a, v, rfl, _⟩ := h; rfl
  obtain ⟨a, v, rfl, hv, vok, k1, k2⟩ := h
  obtain ⟨dx, ll, tt, h1, h2, h3⟩ := hv.ex
  have fv := vok.fineV
  have vl := vok.len
  have e0 : Vaviwc.enumeratedCells v = if 400 < v.size then .error (-31) else .ok v.cells := rfl
  refine ⟨_, rfl, a, T.c_View, dx, _, _, rfl, h1, T.l_View.c, T.n_View.size, vF_size, _, _, rfl, rfl, _, rfl, iteD (fun q => ?_) (fun q => ?_)⟩
  · rw [if_pos (by omega)] at e0
    exact (k2 _ e0 T.c_TooManyElements T.x_TooManyElements.te).now (Same.refl H)
  rw [if_neg (by omega)] at e0
  have clen := cells_len v
  have k1 := k1 _ e0 (by omega)
  refine ⟨_, rfl, a, T.c_View, dx, _, _, rfl, h1, T.l_View.c, T.n_View.size, vF_size, rfl, _, rfl, iteEq (fun z0 => ?_) (fun z1 => ?_)⟩
  · have e1 : v.cells = [] := List.eq_nil_of_length_eq_zero (by omega)
    rw [e1] at k1
    exact ⟨Nat.zero_le _, fun p hp => k1 _ p (same_new hp) upd_same⟩
  have z1 : v.size ≠ 0 := by omega
  have pos := lens_pos z1
  have psz : VaviwBase.product (v.axes.map fun a => a.length) ≤ 400 := by
    have : v.size ≤ 400 := by omega
    exact this
  have glen : ∀ i, (growA [v.offset] (v.axes.take i)).length ≤ 400 := fun i => by
    rw [growA_len]
    have := prod_take v.axes i pos
    show 1 * _ ≤ 400
    omega
  refine ⟨_, rfl, a, T.c_View, dx, _, _, rfl, h1, T.l_View.c, T.n_View.offset, vF_offset, one_ok, fun c0 hc0 => ?_⟩
  have s0 : Same H (upd H c0 (.lst [.int v.offset])) := same_new hc0
  have l1 := lenI_len v.axes
  have l2 := strI_len v.axes
  refine ⟨_, rfl, a, T.c_View, dx, _, _, rfl, s0 _ _ h1, T.l_View.c, T.n_View.lengths, vF_lengths, _, rfl, a, T.c_View, dx, _, _, rfl, s0 _ _ h1, T.l_View.c, T.n_View.strides, vF_strides, ll, tt, _, _, rfl, .inl (.inl (s0 _ _ h2)), .inl (.inl (s0 _ _ h3)), ?_⟩
  have wz : Walk (Itz K ll tt) v.axes.length (fun H => SqL K H ll ((lenI v.axes).map V.int) ∧ SqL K H tt ((strI v.axes).map V.int)) _ := walk_zip (by rw [List.length_map, List.length_map]; omega)
  refine for_it wz (fun i σ H' => ∃ (cl : Addr) (u2 u3 u4 u5 u6 : Option V), σ = [some (.ref a), some (.ref cl), u2, u3, u4, u5, u6] ∧ Same H H' ∧ H' cl = some (.lst ((growA [v.offset] (v.axes.take i)).map V.int)))
    ⟨c0, none, none, none, none, none, rfl, s0, upd_same⟩ (fun i σ H' _ ⟨_, _, _, _, _, _, _, s', _⟩ => ⟨.inl (.inl (s' _ _ h2)), .inl (.inl (s' _ _ h3))⟩) ?_ ?_
  · rintro i x σ H2 H3 hi ⟨cl, u2, u3, u4, u5, u6, rfl, s2, hcl⟩ ⟨T1, x0, y0, rfl, hT, rfl, hx, hy⟩
    obtain ⟨zx, hzx, rfl⟩ := getI hx
    obtain ⟨zy, hzy, rfl⟩ := getI hy
    have ga : v.axes[i]? = some v.axes[i] := List.getElem?_eq_getElem hi
    have ex : zx = ((v.axes[i]).length : Int) := by
      unfold lenI at hzx
      rw [List.getElem?_map, ga] at hzx
      exact (Option.some.inj hzx).symm
    have ey : zy = (v.axes[i]).stride := by
      unfold strI at hzy
      rw [List.getElem?_map, ga] at hzy
      exact (Option.some.inj hzy).symm
    have g1 := growA_take (cs := [v.offset]) ga
    have g2 := glen (i + 1)
    have g3 := glen i
    have al : v.axes[i].length ≤ 400 := Nat.le_trans (axis_le v.axes pos _ (List.getElem_mem hi)) psz
    have ast := fv.str _ (List.getElem_mem hi)
    generalize v.axes[i] = ax at ex ey g1 al ast
    subst ex ey
    refine ⟨T1, _, rfl, .inl (.inl upd_same), rfl, _, _, rfl, _, _, rfl, rfl, ?_⟩
    have s3 := s2.trans (same_new (o := .tup [.int (ax.length : Int), .int ax.stride]) hT)
    have c3 := same_new (o := .tup [.int (ax.length : Int), .int ax.stride]) hT _ _ hcl
    generalize upd H2 T1 (.tup [.int (ax.length : Int), .int ax.stride]) = H4 at s3 c3 ⊢
    generalize growA [v.offset] (v.axes.take i) = cs at c3 g1 g3
    rw [g1] at g2
    have g2b := g2
    rw [flat_len] at g2b
    refine ⟨Nat.zero_le _, fun lo hlo => ?_⟩
    have nlo : H lo = none := s3.free hlo
    have s4 : Same H4 (upd H4 lo (.lst [])) := same_new hlo
    refine ⟨_, rfl, cl, rfl, ⟨_, .inl (.inl (s4 _ _ c3))⟩, ?_⟩
    refine for_list (K := K) (a := cl) (xs := cs.map V.int) (fun j σ H' => ∃ (u5 u6 : Option V), σ = [some (.ref a), some (.ref cl), some (.int (ax.length : Int)), some (.int ax.stride), some (.ref lo), u5, u6] ∧ Same H4 H' ∧
        H' lo = some (.lst (((cs.take j).flatMap fun c => (List.range ax.length).map fun (i : Nat) => c + (i : Int) * ax.stride).map V.int)))
      ⟨_, _, rfl, s4, upd_same⟩ (fun j σ H' _ ⟨_, _, _, s', _⟩ => .inl (.inl (s' _ _ c3))) ?_ ?_
    · rintro j y σ H5 hj ⟨u5, u6, rfl, s5, hlo5⟩
      obtain ⟨z, hz, rfl⟩ := getI hj
      have jl : j < cs.length := (List.getElem?_eq_some_iff.mp hz).1
      refine ⟨_, rfl, .inl ⟨rfl, _, .inl (.inl hlo5)⟩, ?_⟩
      refine ⟨_, rfl, ax.length, rfl, by omega, by omega, fun D hD => ?_⟩
      show ∃ W : Nat → Nat → Hp → Prop, (∃ m, W 0 m (upd H5 D (.lst []))) ∧ _
      rw [Int.toNat_natCast]
      refine compR (n := ax.length) (fun _ => true) (fun i => V.int (z + (i : Int) * ax.stride)) (few_line (by omega)) hD
        (fun i H6 R E' hi6 s6 hR _ => ⟨rfl, yes ⟨_, rfl, _, rfl, _, rfl, _, _, rfl, rfl, wide_mul (a := 64) (b := 64) (by omega) ast (by decide) (by decide) (by decide), _, _, rfl, rfl, hR rfl _ (Same.refl _)⟩⟩) (fun H6 s6 d6 => ?_)
      rw [List.filter_eq_self.mpr (fun _ _ => rfl), mapI (fun (i : Nat) => z + (i : Int) * ax.stride)] at d6
      have lo6 := s6 _ _ hlo5
      have jt : (cs.take (j + 1)).flatMap (fun c => (List.range ax.length).map fun (i : Nat) => c + (i : Int) * ax.stride) = (cs.take j).flatMap (fun c => (List.range ax.length).map fun (i : Nat) => c + (i : Int) * ax.stride) ++ (List.range ax.length).map fun (i : Nat) => z + (i : Int) * ax.stride := by
        rw [take_at hz, List.flatMap_append, List.flatMap_cons, List.flatMap_nil, List.append_nil]
      have fl : ((cs.take j).flatMap fun c => (List.range ax.length).map fun (i : Nat) => c + (i : Int) * ax.stride).length ≤ 400 := by
        rw [flat_len]
        have : (cs.take j).length ≤ cs.length := by rw [List.length_take]; omega
        exact Nat.le_trans (Nat.mul_le_mul_right _ this) g2b
      refine ⟨lo, D, _, _, rfl, rfl, lo6, d6, ?_, ?_⟩
      · rw [List.length_map, List.length_map, List.length_map, List.length_range, sizeLine_eq]; omega
      · refine ⟨_, _, rfl, Same.upd hlo (s5.trans s6), ?_⟩
        rw [upd_same, jt, List.map_append]
    · rintro σ H5 ⟨u5, u6, rfl, s5, hlo5⟩
      rw [List.length_map, List.take_length] at hlo5
      refine ⟨_, rfl, lo, _, _, _, _, _, rfl, s3.trans s5, ?_⟩
      rw [hlo5, g1]
  · rintro σ H2 ⟨cl, u2, u3, u4, u5, u6, rfl, s2, hcl⟩
    rw [List.take_length, growA_cells] at hcl
    exact ⟨_, rfl, k1 H2 cl s2 hcl⟩
end Ov
end

section
set_option Elab.async false
set_option linter.all false
set_option maxRecDepth 100000
set_option maxHeartbeats 8000000
/-! numbers by their cells -/
namespace Ov
open PySem PySem.Spec PyProof.Rows L2
open VaviwBase (View Axis andThen)
open Vaviwc (Box Variable distinctElements positionsOf encodeList)
variable {P : Program} {w : World} {K : PySem.W.Frag} {mg : Str → Option Value} {base : Heap}

/-- a dict of cells, their lists at as -/
def kvsOf (ds : List Int) (as : List Addr) : List (Key × V) := List.zipWith (fun x a => (Sum.inl x, V.ref a)) ds as
theorem kvs_len (ds : List Int) (as : List Addr) (h : as.length = ds.length) : (kvsOf ds as).length = ds.length := by
  unfold kvsOf
  rw [List.length_zipWith]; omega
theorem kvs_at {ds : List Int} {as : List Addr} {i : Nat} {x : Int} {a : Addr} (h1 : ds[i]? = some x) (h2 : as[i]? = some a) : (kvsOf ds as)[i]? = some (Sum.inl x, V.ref a) := by
  unfold kvsOf
  rw [List.getElem?_zipWith, h1, h2]
theorem kvs_get {ds : List Int} {as : List Addr} {i : Nat} {k : Key} {v : V} (h : (kvsOf ds as)[i]? = some (k, v)) : ∃ x a, ds[i]? = some x ∧ as[i]? = some a ∧ k = Sum.inl x ∧ v = V.ref a := by
  unfold kvsOf at h
  rw [List.getElem?_zipWith] at h
  cases h1 : ds[i]? with
  | none => rw [h1] at h; cases h
  | some x =>
    cases h2 : as[i]? with
    | none => rw [h1, h2] at h; cases h
    | some a =>
      rw [h1, h2] at h
      cases h
      exact ⟨x, a, rfl, rfl, rfl, rfl⟩
theorem kvs_val : ∀ {ds : List Int} {as : List Addr} {i : Nat} {x : Int} {a : Addr}, ds.Nodup → ds[i]? = some x → as[i]? = some a → valV (kvsOf ds as) (Sum.inl x) = some (V.ref a)
  | [], as, i, x, a, _, h, _ => by cases h
  | y :: ds, [], i, x, a, _, _, h => by cases h
  | y :: ds, b :: as, 0, x, a, _, h1, h2 => by
    cases h1
    cases h2
    exact valV_pos rfl
  | y :: ds, b :: as, i + 1, x, a, nd, h1, h2 => by
    have nd := List.nodup_cons.mp nd
    have h1 : ds[i]? = some x := h1
    have ne : ¬ (Sum.inl y : Key) = Sum.inl x := fun e => by
      injection e with e
      exact nd.1 (e ▸ List.mem_of_getElem? h1)
    exact (valV_neg ne).trans (kvs_val nd.2 h1 h2)
theorem kvs_none : ∀ {ds : List Int} {as : List Addr} {x : Int}, x ∉ ds → valV (kvsOf ds as) (Sum.inl x) = none
  | [], as, x, _ => rfl
  | y :: ds, [], x, _ => rfl
  | y :: ds, b :: as, x, h => by
    have ne : ¬ (Sum.inl y : Key) = Sum.inl x := fun e => by
      injection e with e
      exact h (e ▸ List.mem_cons_self)
    exact (valV_neg ne).trans (kvs_none fun m => h (List.mem_cons_of_mem _ m))
theorem kvs_snoc : ∀ {ds : List Int} {as : List Addr} (x : Int) (a : Addr), as.length = ds.length → kvsOf (ds ++ [x]) (as ++ [a]) = kvsOf ds as ++ [(Sum.inl x, V.ref a)]
  | [], [], x, a, _ => rfl
  | y :: ds, [], x, a, h => by cases h
  | [], b :: as, x, a, h => by cases h
  | y :: ds, b :: as, x, a, h => by
    show _ :: kvsOf (ds ++ [x]) (as ++ [a]) = _
    rw [kvs_snoc x a (Nat.succ.inj h)]; rfl
/-- the numbers of l by their cells, the dict at d -/
structure NumsAt (H : Hp) (d : Addr) (l : List Int) (as : List Addr) : Prop where
  hd : H d = some (.dK (kvsOf (distinctElements l) as))
  len : as.length = (distinctElements l).length
  at_ : ∀ (i : Nat) (x : Int) (a : Addr), (distinctElements l)[i]? = some x → as[i]? = some a → H a = some (.lst ((natI (positionsOf x 0 l)).map V.int))
theorem NumsAt.same {H H' : Hp} {d : Addr} {l : List Int} {as : List Addr} (h : NumsAt H d l as) (s : Same H H') : NumsAt H' d l as :=
  ⟨s _ _ h.hd, h.len, fun i x a h1 h2 => s _ _ (h.at_ i x a h1 h2)⟩
theorem dist_len (l : List Int) : (distinctElements l).length ≤ l.length := by
  refine snoc_rec (P := fun l => (distinctElements l).length ≤ l.length) (Nat.le_refl _) (fun l x ih => ?_) l
  rw [dist_snoc, List.length_append]
  split
  · exact Nat.le_trans ih (Nat.le_add_right _ _)
  · rw [List.length_append]
    show _ + 1 ≤ _ + 1
    omega
def spNums (K : PySem.W.Frag) : Sp := fun vs H Q _ => ∃ (a : Addr) (l : List Int), vs = [.ref a] ∧ SqL K H a (l.map V.int) ∧ l.length ≤ 400 ∧ ∀ (H' : Hp) (d : Addr) (as : List Addr), Same H H' → H d = none → NumsAt H' d l as → Q (.ref d) H'
theorem ok_numbers_by_cell (T : Top K mg) : FnOk P w K mg base CX0 1 T.f_numbers_by_cell.a T.f_numbers_by_cell.d ["cells"] (spNums K) := by
  refine T.f_numbers_by_cell.F.ok sc_numbers_by_cell (fun vs H Q E h => ?_) (fun cdv A outer s H vs Q E hr h => ⟨_, (pss_cons (ps_set (i := 1) sc_numbers_by_cell.nd rfl (Or.inl rfl) pe_dnewK)
    (pss_cons (ps_for PassesOwn.never rfl (pi_enum (by rfl) T.b_enumerate (pa_cons (pv 0) pa_nil)) (pg_tup (by rfl) (pgs_cons (pg_name (i := 2) sc_numbers_by_cell.nd rfl (Or.inl rfl)) (pgs_cons (pg_name (i := 3) sc_numbers_by_cell.nd rfl (Or.inl rfl)) pgs_nil))) (pss_one (ps_expr (pe_bm PySem.F.plainAttrs_list PySem.F.slot_list_append PySem.F.type_list_append mt_append (pe_dsetd (pv 1) (pv 3) (pe_lst pa_nil) ⟨rfl, rfl, rfl, rfl⟩) (pa_cons (pv 2) pa_nil)))))
    (pss_one (ps_ret (pv 1))))), ?_⟩)
  · obtain ⟨a, l, rfl, _⟩ := h; rfl
  obtain ⟨a, l, rfl, hS, hl, k⟩ := h
  refine fun d hd => ?_
  have s0 : Same H (upd H d (.dK [])) := same_new hd
  refine ⟨_, rfl, a, _, rfl, s0.seq hS, ?_⟩
  refine for_it (walk_enum (K := K) (a := a) (xs := l.map V.int)) (fun i σ H' => ∃ (as : List Addr) (u v : Option V), σ = [some (.ref a), some (.ref d), u, v] ∧ Same H H' ∧ NumsAt H' d (l.take i) as ∧ as.Nodup ∧ ∀ b ∈ as, H b = none)
    ⟨[], none, none, rfl, s0, ⟨upd_same, rfl, fun i x a h => by cases h⟩, List.nodup_nil, fun b hb => nomatch hb⟩ (fun i σ H' _ ⟨_, _, _, _, s', _⟩ => s'.seq hS) ?_ ?_
  · rintro i x σ H1 H2 hi ⟨as, u, v, rfl, s1, N, nd, fresh⟩ ⟨T1, x0, y0, rfl, hT, rfl, hx, hy⟩
    obtain rfl := Option.some.inj hx
    obtain ⟨z, hz, rfl⟩ := getI hy
    have hil : i < l.length := (List.getElem?_eq_some_iff.mp hz).1
    have tl : (l.take i).length = i := by rw [List.length_take]; omega
    have dl := dist_len (l.take i)
    refine ⟨T1, _, rfl, .inl (.inl upd_same), rfl, _, _, rfl, _, _, rfl, rfl, ?_⟩
    have s2 := s1.trans (same_new (o := .tup [.int i, .int z]) hT)
    have N2 := N.same (same_new (o := .tup [.int i, .int z]) hT)
    generalize upd H1 T1 (.tup [.int i, .int z]) = H2 at s2 N2 ⊢
    clear N s1
    refine ⟨_, rfl, d, rfl, .inl ⟨_, .inl N2.hd⟩, _, rfl, Nat.zero_le _, fun nl hnl => ?_⟩
    have nnl : H nl = none := s2.free hnl
    have s3 : Same H2 (upd H2 nl (.lst [])) := same_new hnl
    have nl3 : (upd H2 nl (.lst [])) nl = some (.lst []) := upd_same
    have N3 := N2.same s3
    have sH := s2.trans s3
    have old : ∀ b ∈ as, b ≠ nl := fun b hb e => by
      obtain ⟨j, hj⟩ := List.mem_iff_getElem?.mp hb
      have jl := (List.getElem?_eq_some_iff.mp hj).1
      have jl2 : j < (distinctElements (l.take i)).length := by rw [← N2.len]; exact jl
      have := N2.at_ j _ b (List.getElem?_eq_getElem jl2) hj
      rw [e, hnl] at this; cases this
    clear s2 hnl s3 N2
    generalize upd H2 nl (.lst []) = H3 at nl3 N3 sH ⊢
    have kl := kvs_len _ as N3.len
    have tz := take_at hz
    have np : ∀ x, positionsOf x 0 (l.take (i + 1)) = if z = x then positionsOf x 0 (l.take i) ++ [i] else positionsOf x 0 (l.take i) := fun x => by
      rw [tz, pos_snoc, tl, Nat.zero_add]
    refine ⟨_, Sum.inl z, N3.hd, rfl, by rw [kl, sizeLine_eq]; omega, fun v hv => ?_, fun hv => ?_⟩
    · -- the cell is there
      have hin : z ∈ distinctElements (l.take i) := by
        by_cases q : z ∈ distinctElements (l.take i)
        · exact q
        · rw [kvs_none q] at hv; cases hv
      obtain ⟨j, hj⟩ := List.mem_iff_getElem?.mp hin
      have jl := (List.getElem?_eq_some_iff.mp hj).1
      have hj2 : as[j]? = some (as[j]'(by rw [N3.len]; exact jl)) := List.getElem?_eq_getElem _
      generalize as[j]'(by rw [N3.len]; exact jl) = aj at hj2
      rw [kvs_val (dist_nodup _) hj hj2] at hv
      obtain rfl := Option.some.inj hv
      have ha := N3.at_ j z aj hj hj2
      have e1 : distinctElements (l.take (i + 1)) = distinctElements (l.take i) := by
        rw [tz, dist_snoc, if_pos (by simpa using hin)]
      refine ⟨.inl ⟨rfl, _, .inl (.inl ha)⟩, _, rfl, aj, _, _, rfl, rfl, ha, ?_, ?_⟩
      · unfold natI
        rw [List.length_map, List.length_map, pos_len, sizeLine_eq]
        have : (l.take i).count z ≤ (l.take i).length := List.count_le_length
        omega
      · refine ⟨as, _, _, rfl, Same.upd (fresh aj (List.mem_of_getElem? hj2)) sH, ⟨?_, by rw [e1]; exact N3.len, fun j2 x2 a2 g1 g2 => ?_⟩, nd, fresh⟩
        · rw [e1, upd_ne (ne_of N3.hd ha (by intro z; cases z))]
          exact N3.hd
        · rw [e1] at g1
          rw [np]
          by_cases e : j2 = j
          · subst e
            rw [hj] at g1
            rw [hj2] at g2
            cases g1
            cases g2
            rw [upd_same, if_pos rfl]
            unfold natI
            rw [List.map_append, List.map_append]; rfl
          · have ne2 : z ≠ x2 := fun q => by
              subst q
              obtain ⟨p1, p2⟩ := List.getElem?_eq_some_iff.mp hj
              obtain ⟨p3, p4⟩ := List.getElem?_eq_some_iff.mp g1
              exact e ((List.getElem_inj (dist_nodup _)).mp (p4.trans p2.symm))
            have na : a2 ≠ aj := fun q => by
              subst q
              obtain ⟨p1, p2⟩ := List.getElem?_eq_some_iff.mp hj2
              obtain ⟨p3, p4⟩ := List.getElem?_eq_some_iff.mp g2
              exact e ((List.getElem_inj nd).mp (p4.trans p2.symm))
            rw [if_neg ne2, upd_ne na]
            exact N3.at_ j2 x2 a2 g1 g2
    · -- a new cell
      have nin : z ∉ distinctElements (l.take i) := fun q => by
        obtain ⟨j, hj⟩ := List.mem_iff_getElem?.mp q
        have jl := (List.getElem?_eq_some_iff.mp hj).1
        have hj2 : as[j]? = some (as[j]'(by rw [N3.len]; exact jl)) := List.getElem?_eq_getElem _
        rw [kvs_val (dist_nodup _) hj hj2] at hv; cases hv
      rw [putK_new _ hv]
      have e1 : distinctElements (l.take (i + 1)) = distinctElements (l.take i) ++ [z] := by
        rw [tz, dist_snoc, if_neg (by simpa using nin)]
      have nld : nl ≠ d := ne_of nl3 N3.hd (by intro z; cases z)
      refine ⟨.inl ⟨rfl, _, .inl (.inl ((upd_ne nld).trans nl3))⟩, _, rfl, nl, _, _, rfl, rfl, (upd_ne nld).trans nl3, by rw [sizeLine_eq]; decide, ?_⟩
      have p0 : positionsOf z 0 (l.take i) = [] := pos_none fun m => nin ((mem_dist z _).mpr m)
      refine ⟨as ++ [nl], _, _, rfl, Same.upd nnl (Same.upd hd sH), ⟨?_, by rw [e1, List.length_append, List.length_append, N3.len]; rfl, fun j2 x2 a2 g1 g2 => ?_⟩, ?_, fun b hb => ?_⟩
      · rw [e1, kvs_snoc _ _ N3.len, upd_ne nld.symm, upd_same]
      · rw [e1] at g1
        rw [np]
        by_cases e : j2 < as.length
        · rw [List.getElem?_append_left (by rw [← N3.len]; exact e)] at g1
          rw [List.getElem?_append_left e] at g2
          have ne2 : z ≠ x2 := fun q => nin (q ▸ List.mem_of_getElem? g1)
          have h2 := N3.at_ j2 x2 a2 g1 g2
          rw [if_neg ne2, upd_ne (old a2 (List.mem_of_getElem? g2)), upd_ne (ne_of h2 N3.hd (by intro z; cases z))]
          exact h2
        · have j2e : j2 = as.length := by
            have := (List.getElem?_eq_some_iff.mp g2).1
            rw [List.length_append] at this
            have : j2 < as.length + 1 := this
            omega
          subst j2e
          rw [List.getElem?_append_right (Nat.le_refl _), Nat.sub_self] at g2
          rw [N3.len, List.getElem?_append_right (Nat.le_refl _), Nat.sub_self] at g1
          cases g1
          cases g2
          rw [upd_same, if_pos rfl, p0]; rfl
      · refine List.nodup_append.mpr ⟨nd, List.nodup_cons.mpr ⟨by simp, List.nodup_nil⟩, fun b hb c hc e => ?_⟩
        have hc : c = nl := by simpa using hc
        exact old b hb (e.trans hc)
      · rcases List.mem_append.mp hb with q | q
        · exact fresh b q
        · have q : b = nl := by simpa using q
          rw [q]; exact nnl
  · rintro σ H2 ⟨as, u, v, rfl, s1, N, nd, fresh⟩
    rw [List.length_map, List.take_length] at N
    exact ⟨_, rfl, k H2 d as s1 hd N⟩
end Ov
end

section
set_option Elab.async false
set_option linter.all false
set_option maxRecDepth 100000
set_option maxHeartbeats 8000000
/-! operations 10 to 15 -/
namespace Ov
open PySem PySem.Spec PyProof.Rows L2
open VaviwBase (View Axis andThen)
open Vaviwc (Box Variable distinctElements positionsOf encodeList)
variable {P : Program} {w : World} {K : PySem.W.Frag} {mg : Str → Option Value} {base : Heap}

/-! ### words -/
theorem NumsAt.get {H : Hp} {d : Addr} {l : List Int} {as : List Addr} (N : NumsAt H d l as) {z : Int} (h : z ∈ l) : ∃ a, DGet H d (.int z) (some (.ref a)) ∧ H a = some (.lst ((natI (positionsOf z 0 l)).map V.int)) := by
  obtain ⟨j, hj⟩ := List.mem_iff_getElem?.mp ((mem_dist z l).mpr h)
  have jl := (List.getElem?_eq_some_iff.mp hj).1
  have hj2 : as[j]? = some (as[j]'(by rw [N.len]; exact jl)) := List.getElem?_eq_getElem _
  refine ⟨_, ?_, N.at_ j z _ hj hj2⟩
  have g : DGet H d (.int z) (valV (kvsOf (distinctElements l) as) (Sum.inl z)) := DGet.k (k := Sum.inl z) N.hd
  rw [kvs_val (dist_nodup _) hj hj2] at g
  exact g
theorem NumsAt.no {H : Hp} {d : Addr} {l : List Int} {as : List Addr} (N : NumsAt H d l as) {z : Int} (h : z ∉ l) : DGet H d (.int z) none := by
  have g : DGet H d (.int z) (valV (kvsOf (distinctElements l) as) (Sum.inl z)) := DGet.k (k := Sum.inl z) N.hd
  rw [kvs_none fun m => h ((mem_dist z l).mp m)] at g
  exact g
theorem Same.unlock {H H' : Hp} {d : Addr} {o : Obj} {u : HO} (h : H d = some u) (s : Same (L2.upd H d (.frz o u)) H') : Same H (L2.upd H' d u) := fun b v e => by
  by_cases q : b = d
  · subst q
    rw [h] at e
    rw [upd_same]; exact e
  · rw [upd_ne q]
    exact s b v ((upd_ne q).trans e)
theorem natI_len (l : List Nat) : (natI l).length = l.length := by unfold natI; rw [List.length_map]
/-- an entry of the dict, locked or not -/
theorem NumsAt.entry {H H' : Hp} {d : Addr} {l : List Int} {as : List Addr} (N : NumsAt H d l as) {o : Obj} {u : HO} (s : Same (upd H d (.frz o u)) H') {i : Nat} {k : Key} {v : V} (h : (kvsOf (distinctElements l) as)[i]? = some (k, v)) :
    ∃ x a, (distinctElements l)[i]? = some x ∧ k = Sum.inl x ∧ v = .ref a ∧ H' a = some (.lst ((natI (positionsOf x 0 l)).map V.int)) := by
  obtain ⟨x, a, h1, h2, rfl, rfl⟩ := kvs_get h
  have ha := N.at_ i x a h1 h2
  refine ⟨x, a, h1, rfl, rfl, s _ _ ((upd_ne (ne_of ha N.hd (by intro z; cases z))).trans ha)⟩

/-! ### two views -/
def spTwo (K : PySem.W.Frag) (C Vw R : Addr) : Sp := fun vs H Q E => ∃ (p vs0 : Addr) (s : Vaviwc.State) (r q : Int), vs = [.ref p, .int r, .int q] ∧ StoreAt C Vw H p vs0 s ∧
  (∀ l m, twoOut s r q = .ok (l, m) → l.length ≤ 400 → m.length ≤ 400 → ∀ (H' : Hp) (T a b : Addr), Same H H' → H' T = some (.tup [.ref a, .ref b]) → H' a = some (.lst (l.map V.int)) → H' b = some (.lst (m.map V.int)) → Q (.ref T) H') ∧ (∀ z, twoOut s r q = .error z → OutAny K R H E z)
theorem ok_two_lists (T : Top K mg) : FnOk P w K mg base (L2.CX P w) 6 T.f_two_lists.a T.f_two_lists.d ["store", "p", "q"] (spTwo K T.c_Store T.c_View T.c_Refusal) := by
  refine T.f_two_lists.F.okX sc_two_lists (fun vs H Q E h => ?_) (fun cdv A outer s H vs Q E hr h => ⟨_, (pss_cons (ps_set (i := 3) sc_two_lists.nd rfl (Or.inl rfl) (pe_meth (pv 0) T.l_Store.c T.m_Store_view_in (ok_Store_view_in T) (hr.mono (by decide)) T.f_Store_view_in.b .nil (passes_call (takes_of rfl rfl rfl rfl) (fun _ _ _ _ h => h)) (pa_cons (pv 1) pa_nil)))
    (pss_cons (ps_set (i := 4) sc_two_lists.nd rfl (Or.inl rfl) (pe_meth (pv 0) T.l_Store.c T.m_Store_view_in (ok_Store_view_in T) (hr.mono (by decide)) T.f_Store_view_in.b .nil (passes_call (takes_of rfl rfl rfl rfl) (fun _ _ _ _ h => h)) (pa_cons (pv 2) pa_nil)))
    (pss_one (ps_ret (pe_tup (pa_cons (pe_call (ok_listed_cells T) (hr.mono (by decide)) rfl T.g_listed_cells T.f_listed_cells.F.kp T.f_listed_cells.b .nil (passes_call (takes_of rfl rfl rfl rfl) (fun _ _ _ _ h => h)) (pa_cons (pv 3) pa_nil)) (pa_cons (pe_call (ok_listed_cells T) (hr.mono (by decide)) rfl T.g_listed_cells T.f_listed_cells.F.kp T.f_listed_cells.b .nil (passes_call (takes_of rfl rfl rfl rfl) (fun _ _ _ _ h => h)) (pa_cons (pv 4) pa_nil)) pa_nil))))))), ?_⟩)
  · obtain ⟨p, vs0, s, r, q, rfl, _⟩ := h; rfl
  obtain ⟨p, vs0, st, r, q, rfl, hS, k1, k2⟩ := h
  obtain ⟨dx, rs, hp, hv, h6, hr4⟩ := hS.ex
  refine ⟨_, rfl, p, dx, _, rfl, hp, rfl, _, rfl, p, vs0, st, r, rfl, hS, fun v hv1 vok av hav => ?_, fun z hz => k2 z (by unfold twoOut; rw [hz]; rfl)⟩
  refine ⟨_, rfl, p, dx, _, rfl, hp, rfl, _, rfl, p, vs0, st, q, rfl, hS, fun u hu1 uok au hau => ?_, fun z hz => k2 z (by unfold twoOut; rw [hv1, hz]; rfl)⟩
  have e0 : twoOut st r q = andThen (Vaviwc.enumeratedCells v) fun l => andThen (Vaviwc.enumeratedCells u) fun m => .ok (l, m) := by unfold twoOut; rw [hv1, hu1]; rfl
  rw [e0] at k1 k2
  refine ⟨_, rfl, av, v, rfl, hav, vok, fun l hl ll H1 a s1 ha => ?_, fun z hz => k2 z (by rw [hz]; rfl)⟩
  rw [hl] at k1 k2
  refine ⟨_, rfl, au, u, rfl, hau.same s1, uok, fun m hm ml H2 b s2 hb => ?_, fun z hz => (k2 z (by rw [hz]; rfl)).mono s1⟩
  rw [hm] at k1
  refine ⟨two_ok, fun t ht => ?_⟩
  exact k1 l m rfl ll ml _ t a b ((s1.trans s2).trans (same_new ht)) upd_same (same_new ht _ _ (s2 _ _ ha)) (same_new ht _ _ hb)

/-! ### elements_with_cell -/
def spQ1x (K : PySem.W.Frag) (C Vw R : Addr) : Sp := fun vs H Q E => ∃ (p vs0 : Addr) (s : Vaviwc.State) (r x : Int), vs = [.ref p, .int r, .int x] ∧ StoreAt C Vw H p vs0 s ∧ Ends2 K C Vw R H Q E p vs0 (Vaviwc.outcome s (.elementsWithCell r x))
theorem ok_elements_with_cell (T : Top K mg) : FnOk P w K mg base (L2.CX P w) 7 T.f_elements_with_cell.a T.f_elements_with_cell.d ["store", "p", "x"] (spQ1x K T.c_Store T.c_View T.c_Refusal) := by
  refine T.f_elements_with_cell.F.okX sc_elements_with_cell (fun vs H Q E h => ?_) (fun cdv A outer s H vs Q E hr h => ⟨_, (pss_cons (ps_set (i := 3) sc_elements_with_cell.nd rfl (Or.inl rfl) (pe_dget2 (hu_of hr) (pe_call (ok_numbers_by_cell T) (hr.mono (by decide)) rfl T.g_numbers_by_cell T.f_numbers_by_cell.F.kp T.f_numbers_by_cell.b .nil pass0 (pa_cons (pe_call (ok_listed_cells T) (hr.mono (by decide)) rfl T.g_listed_cells T.f_listed_cells.F.kp T.f_listed_cells.b .nil (passes_call (takes_of rfl rfl rfl rfl) (fun _ _ _ _ h => h)) (pa_cons (pe_meth (pv 0) T.l_Store.c T.m_Store_view_in (ok_Store_view_in T) (hr.mono (by decide)) T.f_Store_view_in.b .nil (passes_call (takes_of rfl rfl rfl rfl) (fun _ _ _ _ h => h)) (pa_cons (pv 1) pa_nil)) pa_nil)) pa_nil)) (pv 2) (pe_lst pa_nil) ⟨rfl, rfl, rfl, rfl⟩))
    (pss_one (ps_ret (pe_op op_cat (pe_lst (pa_cons (pe_callB call_len_seq (by rfl) T.b_len PySem.boot_len (pa_cons (pv 3) pa_nil)) pa_nil)) (pv 3))))), ?_⟩)
  · obtain ⟨p, vs0, s, r, x, rfl, _⟩ := h; rfl
  obtain ⟨p, vs0, st, r, x, rfl, hS, k⟩ := h
  obtain ⟨dx, rs, hp, hv, h6, hr4⟩ := hS.ex
  have e0 : Vaviwc.outcome st (.elementsWithCell r x) = (andThen (oneOut st r) fun l => .ok (encodeList ((positionsOf x 0 l).map Int.ofNat))).map fun l => (st, l) := by
    rw [← one_out]; rfl
  rw [e0] at k
  refine ⟨_, rfl, p, dx, _, rfl, hp, rfl, _, rfl, p, vs0, st, r, rfl, hS, fun v hv1 vok q hq => ?_, fun z hz => k.2 z (by unfold oneOut; rw [hz]; rfl)⟩
  have e1 : oneOut st r = Vaviwc.enumeratedCells v := by unfold oneOut; rw [hv1]; rfl
  rw [e1] at k
  refine ⟨q, v, rfl, hq, vok, fun l hl ll H1 cl s1 hcl => ?_, fun z hz => k.2 z (by rw [hz]; rfl)⟩
  rw [hl] at k
  have k : Ends2 K T.c_Store T.c_View T.c_Refusal H Q E p vs0 ((.ok (encodeList ((positionsOf x 0 l).map Int.ofNat)) : Vaviwc.Outcome (List Int)).map fun l => (st, l)) := k
  refine ⟨cl, l, rfl, .inl (.inl hcl), ll, fun H2 d as s2 nd N => ?_⟩
  refine ⟨d, rfl, .inl ⟨_, .inl N.hd⟩, _, rfl, Nat.zero_le _, fun e he => ?_⟩
  have s3 := (s1.trans s2).trans (same_new (o := .lst []) he)
  have N3 := N.same (same_new (o := .lst []) he)
  have e3 : (upd H2 e (.lst [])) e = some (.lst []) := upd_same
  generalize upd H2 e (.lst []) = H3 at s3 N3 e3 ⊢
  have pl : (positionsOf x 0 l).length ≤ 400 := by
    rw [pos_len]
    exact Nat.le_trans List.count_le_length ll
  have fin : ∃ (na : Addr) (o : Option V), DGet H3 d (.int x) o ∧ o.getD (V.ref e) = .ref na ∧ H3 na = some (.lst ((natI (positionsOf x 0 l)).map V.int)) := by
    by_cases hx : x ∈ l
    · obtain ⟨a, g1, g2⟩ := N3.get hx
      exact ⟨a, _, g1, rfl, g2⟩
    · exact ⟨e, _, N3.no hx, rfl, by rw [e3, pos_none hx]; rfl⟩
  obtain ⟨na, o, g1, g2, g3⟩ := fin
  refine ⟨o, g1, ?_⟩
  rw [g2]
  have nl := natI_len (positionsOf x 0 l)
  refine ⟨_, rfl, na, _, rfl, .inl (.inl (.inl g3)), one_ok, fun l1 hl1 => ⟨_, rfl, l1, na, _, _, rfl, rfl, upd_same, same_new hl1 _ _ g3, ?_, fun q2 hq2 => ?_⟩⟩
  · rw [List.length_map, nl, sizeLine_eq]
    show 1 + _ ≤ _
    omega
  · refine k.say hS (l := encodeList ((positionsOf x 0 l).map Int.ofNat)) rfl ?_ ((s3.trans (same_new hl1)).trans (same_new hq2)) ?_ ((s3.trans (same_new hl1)).free hq2)
    · show ((positionsOf x 0 l).map Int.ofNat).length + 1 < _
      rw [List.length_map]; omega
    · rw [upd_same]
      show some (HO.lst (V.int (((natI (positionsOf x 0 l)).map V.int).length : Int) :: (natI (positionsOf x 0 l)).map V.int)) = some (HO.lst (V.int ((((positionsOf x 0 l).map Int.ofNat).length : Nat) : Int) :: ((positionsOf x 0 l).map Int.ofNat).map V.int))
      rw [List.length_map, nl, List.length_map]; rfl

/-! ### first_shared_pair -/
theorem ok_first_shared_pair (T : Top K mg) : FnOk P w K mg base (L2.CX P w) 7 T.f_first_shared_pair.a T.f_first_shared_pair.d ["store", "p", "q"] (spQ2 K T.c_Store T.c_View T.c_Refusal .firstSharedPair) := by
  refine T.f_first_shared_pair.F.okX sc_first_shared_pair (fun vs H Q E h => ?_) (fun cdv A outer s H vs Q E hr h => ⟨_, (pss_cons (ps_asg (pe_call (ok_two_lists T) (hr.mono (by decide)) rfl T.g_two_lists T.f_two_lists.F.kp T.f_two_lists.b .nil (passes_call (takes_of rfl rfl rfl rfl) (fun _ _ _ _ h => h)) (pa_cons (pv 0) (pa_cons (pv 1) (pa_cons (pv 2) pa_nil)))) (pg_tup (by rfl) (pgs_cons (pg_name (i := 3) sc_first_shared_pair.nd rfl (Or.inl rfl)) (pgs_cons (pg_name (i := 4) sc_first_shared_pair.nd rfl (Or.inl rfl)) pgs_nil))))
    (pss_cons (ps_set (i := 5) sc_first_shared_pair.nd rfl (Or.inl rfl) (pe_call (ok_numbers_by_cell T) (hr.mono (by decide)) rfl T.g_numbers_by_cell T.f_numbers_by_cell.F.kp T.f_numbers_by_cell.b .nil pass0 (pa_cons (pv 4) pa_nil)))
    (pss_cons (ps_for (passes_of rfl) rfl (pi_enum (by rfl) T.b_enumerate (pa_cons (pv 3) pa_nil)) (pg_tup (by rfl) (pgs_cons (pg_name (i := 6) sc_first_shared_pair.nd rfl (Or.inl rfl)) (pgs_cons (pg_name (i := 7) sc_first_shared_pair.nd rfl (Or.inl rfl)) pgs_nil))) (pss_one (ps_if (pt_cmp (pc_din (hu_of hr) (pv 7) (pv 5))) (pss_one (ps_ret (pe_lst (pa_cons pe_int (pa_cons (pv 6) (pa_cons (pe_ix ix_list (pe_dget (hu_of hr) (pv 5) (pv 7) (fun _ _ => rfl)) pe_int (fun _ _ => rfl)) pa_nil)))))) pss_nil)))
    (pss_one (ps_ret (pe_lst (pa_cons pe_int pa_nil))))))), ?_⟩)
  · obtain ⟨p, vs0, s, r, q, rfl, _⟩ := h; rfl
  obtain ⟨p, vs0, st, r, q, rfl, hS, k⟩ := h
  have e0 : Vaviwc.outcome st (.firstSharedPair r q) = (andThen (twoOut st r q) fun x => .ok (Vaviwc.encodePair (Vaviwc.firstSharedPairOf x.2 0 x.1))).map fun l => (st, l) := by
    rw [← two_out st r q fun l m => .ok (Vaviwc.encodePair (Vaviwc.firstSharedPairOf m 0 l))]; rfl
  rw [e0] at k
  refine ⟨_, rfl, _, rfl, _, rfl, p, vs0, st, r, q, rfl, hS, fun l m h2 ll ml H1 T1 a b s1 hT ha hb => ?_, fun z hz => k.2 z (by rw [hz]; rfl)⟩
  rw [h2] at k
  have k : Ends2 K T.c_Store T.c_View T.c_Refusal H Q E p vs0 ((.ok (Vaviwc.encodePair (Vaviwc.firstSharedPairOf m 0 l)) : Vaviwc.Outcome (List Int)).map fun l => (st, l)) := k
  refine ⟨T1, _, rfl, .inl (.inl hT), rfl, _, _, rfl, _, _, rfl, rfl, ?_⟩
  refine ⟨_, rfl, b, m, rfl, .inl (.inl hb), ml, fun H2 d as s2 nd N => ?_⟩
  have s12 := s1.trans s2
  have ha2 := s2 _ _ ha
  refine ⟨_, rfl, a, _, rfl, .inl (.inl ha2), ?_⟩
  refine for_it (walk_enum (K := K) (a := a) (xs := l.map V.int)) (fun i σ H' => ∃ (u v : Option V), σ = [some (.ref p), some (.int r), some (.int q), some (.ref a), some (.ref b), some (.ref d), u, v] ∧ Same H2 H' ∧ Vaviwc.firstSharedPairOf m 0 l = Vaviwc.firstSharedPairOf m i (l.drop i))
    ⟨none, none, rfl, Same.refl _, rfl⟩ (fun i σ H' _ ⟨_, _, _, s', _⟩ => .inl (.inl (s' _ _ ha2))) ?_ ?_
  · rintro i x σ H3 H4 hi ⟨u, v, rfl, s3, eq⟩ ⟨T2, x0, y0, rfl, hT2, rfl, hx, hy⟩
    obtain rfl := Option.some.inj hx
    obtain ⟨z, hz, rfl⟩ := getI hy
    refine ⟨T2, _, rfl, .inl (.inl upd_same), rfl, _, _, rfl, _, _, rfl, rfl, ?_⟩
    have s4 := s3.trans (same_new (o := .tup [.int i, .int z]) hT2)
    generalize upd H3 T2 (.tup [.int i, .int z]) = H4 at s4 ⊢
    have N4 := N.same s4
    rw [drop_at hz] at eq
    by_cases hm : z ∈ m
    · obtain ⟨na, g1, g2⟩ := N4.get hm
      refine ⟨_, rfl, _, rfl, d, _, rfl, g1, _, rfl, iteT ?_⟩
      have pn : positionsOf z 0 m ≠ [] := fun e => by
        have := congrArg List.length e
        rw [pos_len] at this
        have h3 : 0 < m.count z := List.count_pos_iff.mpr hm
        have this : m.count z = 0 := this
        omega
      obtain ⟨j, rest, hj⟩ : ∃ j rest, positionsOf z 0 m = j :: rest := by
        cases e : positionsOf z 0 m with
        | nil => exact absurd e pn
        | cons j rest => exact ⟨j, rest, rfl⟩
      rw [hj] at g2
      have eq : Vaviwc.firstSharedPairOf m 0 l = some (i, j) := by
        rw [eq, Vaviwc.firstSharedPairOf, hj]
      rw [eq] at k
      refine ⟨_, rfl, _, rfl, _, rfl, d, _, rfl, g1, na, _, (0 : Int), V.int (j : Int), rfl, rfl, .inl (.inl g2), at_of rfl rfl, by show 3 ≤ sizeLine; decide, fun q2 hq2 => ?_⟩
      exact k.say hS (l := [1, (i : Int), (j : Int)]) rfl (by show 3 < 10000000; decide) ((s12.trans s4).trans (same_new hq2)) upd_same ((s12.trans s4).free hq2)
    · refine ⟨_, rfl, _, rfl, d, _, rfl, N4.no hm, _, rfl, iteF ?_⟩
      exact ⟨_, _, rfl, s4, eq.trans (shared_step_none hm)⟩
  · rintro σ H3 ⟨u, v, rfl, s3, eq⟩
    have e1 : l.drop (l.map V.int).length = [] := by rw [List.length_map, List.drop_length]
    rw [e1] at eq
    have eq : Vaviwc.firstSharedPairOf m 0 l = none := eq
    rw [eq] at k
    exact ⟨one_ok, fun q2 hq2 => k.say hS (l := [0]) rfl (by show 1 < 10000000; decide) ((s12.trans s3).trans (same_new hq2)) upd_same ((s12.trans s3).free hq2)⟩

/-! ### is_covered -/
def missAns : Option Nat → List Int
  | some i => [0, (i : Int)]
  | none => [1]
theorem ok_is_covered (T : Top K mg) : FnOk P w K mg base (L2.CX P w) 7 T.f_is_covered.a T.f_is_covered.d ["store", "p", "q"] (spQ2 K T.c_Store T.c_View T.c_Refusal .isCovered) := by
  refine T.f_is_covered.F.okX sc_is_covered (fun vs H Q E h => ?_) (fun cdv A outer s H vs Q E hr h => ⟨_, (pss_cons (ps_asg (pe_call (ok_two_lists T) (hr.mono (by decide)) rfl T.g_two_lists T.f_two_lists.F.kp T.f_two_lists.b .nil (passes_call (takes_of rfl rfl rfl rfl) (fun _ _ _ _ h => h)) (pa_cons (pv 0) (pa_cons (pv 1) (pa_cons (pv 2) pa_nil)))) (pg_tup (by rfl) (pgs_cons (pg_name (i := 3) sc_is_covered.nd rfl (Or.inl rfl)) (pgs_cons (pg_name (i := 4) sc_is_covered.nd rfl (Or.inl rfl)) pgs_nil))))
    (pss_cons (ps_set (i := 5) sc_is_covered.nd rfl (Or.inl rfl) (pe_call (ok_numbers_by_cell T) (hr.mono (by decide)) rfl T.g_numbers_by_cell T.f_numbers_by_cell.F.kp T.f_numbers_by_cell.b .nil pass0 (pa_cons (pv 4) pa_nil)))
    (pss_cons (ps_for (passes_of rfl) rfl (pi_enum (by rfl) T.b_enumerate (pa_cons (pv 3) pa_nil)) (pg_tup (by rfl) (pgs_cons (pg_name (i := 6) sc_is_covered.nd rfl (Or.inl rfl)) (pgs_cons (pg_name (i := 7) sc_is_covered.nd rfl (Or.inl rfl)) pgs_nil))) (pss_one (ps_if (pt_cmp (pc_dnotin (hu_of hr) (pv 7) (pv 5))) (pss_one (ps_ret (pe_lst (pa_cons pe_int (pa_cons (pv 6) pa_nil))))) pss_nil)))
    (pss_one (ps_ret (pe_lst (pa_cons pe_int pa_nil))))))), ?_⟩)
  · obtain ⟨p, vs0, s, r, q, rfl, _⟩ := h; rfl
  obtain ⟨p, vs0, st, r, q, rfl, hS, k⟩ := h
  have e0 : Vaviwc.outcome st (.isCovered r q) = (andThen (twoOut st r q) fun x => .ok (missAns (Vaviwc.firstMissingOf x.2 0 x.1))).map fun l => (st, l) :=
    (congrArg (Except.map fun l => (st, l)) (two_out st r q fun l m => .ok (missAns (Vaviwc.firstMissingOf m 0 l))))
  rw [e0] at k
  refine ⟨_, rfl, _, rfl, _, rfl, p, vs0, st, r, q, rfl, hS, fun l m h2 ll ml H1 T1 a b s1 hT ha hb => ?_, fun z hz => k.2 z (by rw [hz]; rfl)⟩
  rw [h2] at k
  have k : Ends2 K T.c_Store T.c_View T.c_Refusal H Q E p vs0 ((.ok (missAns (Vaviwc.firstMissingOf m 0 l)) : Vaviwc.Outcome (List Int)).map fun l => (st, l)) := k
  refine ⟨T1, _, rfl, .inl (.inl hT), rfl, _, _, rfl, _, _, rfl, rfl, ?_⟩
  refine ⟨_, rfl, b, m, rfl, .inl (.inl hb), ml, fun H2 d as s2 nd N => ?_⟩
  have s12 := s1.trans s2
  have ha2 := s2 _ _ ha
  refine ⟨_, rfl, a, _, rfl, .inl (.inl ha2), ?_⟩
  refine for_it (walk_enum (K := K) (a := a) (xs := l.map V.int)) (fun i σ H' => ∃ (u v : Option V), σ = [some (.ref p), some (.int r), some (.int q), some (.ref a), some (.ref b), some (.ref d), u, v] ∧ Same H2 H' ∧ Vaviwc.firstMissingOf m 0 l = Vaviwc.firstMissingOf m i (l.drop i))
    ⟨none, none, rfl, Same.refl _, rfl⟩ (fun i σ H' _ ⟨_, _, _, s', _⟩ => .inl (.inl (s' _ _ ha2))) ?_ ?_
  · rintro i x σ H3 H4 hi ⟨u, v, rfl, s3, eq⟩ ⟨T2, x0, y0, rfl, hT2, rfl, hx, hy⟩
    obtain rfl := Option.some.inj hx
    obtain ⟨z, hz, rfl⟩ := getI hy
    refine ⟨T2, _, rfl, .inl (.inl upd_same), rfl, _, _, rfl, _, _, rfl, rfl, ?_⟩
    have s4 := s3.trans (same_new (o := .tup [.int i, .int z]) hT2)
    generalize upd H3 T2 (.tup [.int i, .int z]) = H4 at s4 ⊢
    have N4 := N.same s4
    rw [drop_at hz] at eq
    by_cases hm : z ∈ m
    · obtain ⟨na, g1, g2⟩ := N4.get hm
      refine ⟨_, rfl, _, rfl, d, _, rfl, g1, _, rfl, iteF ?_⟩
      exact ⟨_, _, rfl, s4, eq.trans (missing_step_in hm)⟩
    · refine ⟨_, rfl, _, rfl, d, _, rfl, N4.no hm, _, rfl, iteT ?_⟩
      rw [eq, missing_step_out hm] at k
      refine ⟨_, rfl, two_ok, fun q2 hq2 => ?_⟩
      exact k.say hS (l := [0, (i : Int)]) rfl (by show 2 < 10000000; decide) ((s12.trans s4).trans (same_new hq2)) upd_same ((s12.trans s4).free hq2)
  · rintro σ H3 ⟨u, v, rfl, s3, eq⟩
    have e1 : l.drop (l.map V.int).length = [] := by rw [List.length_map, List.drop_length]
    rw [e1] at eq
    have eq : Vaviwc.firstMissingOf m 0 l = none := eq
    rw [eq] at k
    exact ⟨one_ok, fun q2 hq2 => k.say hS (l := [1]) rfl (by show 1 < 10000000; decide) ((s12.trans s3).trans (same_new hq2)) upd_same ((s12.trans s3).free hq2)⟩
end Ov
end

section
set_option Elab.async false
set_option linter.all false
set_option maxRecDepth 100000
set_option maxHeartbeats 8000000
/-! operations 11, 12, 14 -/
namespace Ov
open PySem PySem.Spec PyProof.Rows L2
open VaviwBase (View Axis andThen)
open Vaviwc (Box Variable distinctElements positionsOf encodeList occurrences)
variable {P : Program} {w : World} {K : PySem.W.Frag} {mg : Str → Option Value} {base : Heap}

/-- len of a list or tuple, within a comprehension -/
theorem call_len_seqK {X : Cx} {K : PySem.W.Frag} (h : X.K = K := by rfl) : CallR X (.builtin "len") (fun xs H Q => ∃ p ys, xs = [V.ref p] ∧ (SqL K H p ys ∨ SqT K H p ys) ∧ Q (.int ys.length) H) := h ▸ call_len_seq

/-! ### first_repeated -/
theorem ok_first_repeated (T : Top K mg) : FnOk P w K mg base (L2.CX P w) 7 T.f_first_repeated.a T.f_first_repeated.d ["store", "p"] (spQ1 K T.c_Store T.c_View T.c_Refusal .firstRepeated) := by
  refine T.f_first_repeated.F.okX sc_first_repeated (fun vs H Q E h => ?_) (fun cdv A outer s H vs Q E hr h => ⟨_, (pss_cons (ps_set (i := 2) sc_first_repeated.nd rfl (Or.inl rfl) (pe_call (ok_numbers_by_cell T) (hr.mono (by decide)) rfl T.g_numbers_by_cell T.f_numbers_by_cell.F.kp T.f_numbers_by_cell.b .nil pass0 (pa_cons (pe_call (ok_listed_cells T) (hr.mono (by decide)) rfl T.g_listed_cells T.f_listed_cells.F.kp T.f_listed_cells.b .nil (passes_call (takes_of rfl rfl rfl rfl) (fun _ _ _ _ h => h)) (pa_cons (pe_meth (pv 0) T.l_Store.c T.m_Store_view_in (ok_Store_view_in T) (hr.mono (by decide)) T.f_Store_view_in.b .nil (passes_call (takes_of rfl rfl rfl rfl) (fun _ _ _ _ h => h)) (pa_cons (pv 1) pa_nil)) pa_nil)) pa_nil)))
    (pss_cons (ps_lock (ps_for (passes_of rfl) rfl (pi_values (pv 2)) (pg_name (i := 3) sc_first_repeated.nd rfl (Or.inl rfl)) (pss_one (ps_if (pt_cmpR op_ge (pe_callB call_len_seq (by rfl) T.b_len PySem.boot_len (pa_cons (pv 3) pa_nil)) pe_int (nomark _)) (pss_one (ps_ret (pe_lst (pa_cons pe_int (pa_cons (pe_ix ix_list (pv 3) pe_int (fun _ _ => rfl)) (pa_cons (pe_ix ix_list (pv 3) pe_int (fun _ _ => rfl)) pa_nil)))))) pss_nil))))
    (pss_one (ps_ret (pe_lst (pa_cons pe_int pa_nil)))))), ?_⟩)
  · obtain ⟨p, vs0, s, r, rfl, _⟩ := h; rfl
  obtain ⟨p, vs0, st, r, rfl, hS, k⟩ := h
  obtain ⟨dx, rs, hp, hv, h6, hr4⟩ := hS.ex
  have e0 : Vaviwc.outcome st (.firstRepeated r) = (andThen (oneOut st r) fun l => .ok (Vaviwc.encodePair (Vaviwc.firstRepeatedOf 0 l))).map fun l => (st, l) := by
    rw [← one_out]; rfl
  rw [e0] at k
  refine ⟨_, rfl, p, dx, _, rfl, hp, rfl, _, rfl, p, vs0, st, r, rfl, hS, fun v hv1 vok q hq => ?_, fun z hz => k.2 z (by unfold oneOut; rw [hz]; rfl)⟩
  have e1 : oneOut st r = Vaviwc.enumeratedCells v := by unfold oneOut; rw [hv1]; rfl
  rw [e1] at k
  refine ⟨q, v, rfl, hq, vok, fun l hl ll H1 cl s1 hcl => ?_, fun z hz => k.2 z (by rw [hz]; rfl)⟩
  rw [hl] at k
  have k : Ends2 K T.c_Store T.c_View T.c_Refusal H Q E p vs0 ((.ok (Vaviwc.encodePair (Vaviwc.firstRepeatedOf 0 l)) : Vaviwc.Outcome (List Int)).map fun l => (st, l)) := k
  refine ⟨cl, l, rfl, .inl (.inl hcl), ll, fun H2 d as s2 nd N => ?_⟩
  have s12 := s1.trans s2
  have kl := kvs_len _ as N.len
  refine ⟨d, _, N.hd, trivial, fun od => ?_⟩
  refine ⟨_, rfl, d, od, _, rfl, upd_same, ?_⟩
  refine for_it walk_values (fun i σ H' => ∃ (u : Option V), σ = [some (.ref p), some (.int r), some (.ref d), u] ∧ Same (upd H2 d (.frz od (.dK (kvsOf (distinctElements l) as)))) H' ∧ ∀ (s : Nat) (y : Int), s < i → (distinctElements l)[s]? = some y → (positionsOf y 0 l).length < 2)
    ⟨none, rfl, Same.refl _, fun s y h => absurd h (Nat.not_lt_zero _)⟩ (fun i σ H' _ ⟨_, _, s', _⟩ => s' _ _ upd_same) ?_ ?_
  · rintro i x σ H3 H4 hi ⟨u, rfl, s3, few⟩ ⟨rfl, k0, hk⟩
    obtain ⟨y, a, h1, rfl, rfl, ha⟩ := N.entry s3 hk
    have nl := natI_len (positionsOf y 0 l)
    have hf := s3 _ _ upd_same
    refine ⟨_, rfl, a, _, rfl, .inl (.inl (.inl ha)), _, _, rfl, rfl, _, rfl, iteD (fun q2 => ?_) (fun q2 => ?_)⟩
    · rw [List.length_map, nl] at q2
      obtain ⟨i0, j0, rest, hp0⟩ : ∃ i0 j0 rest, positionsOf y 0 l = i0 :: j0 :: rest := by
        match e : positionsOf y 0 l with
        | [] =>
          rw [e] at q2
          have q2 : (2 : Int) ≤ 0 := q2
          omega
        | [i0] =>
          rw [e] at q2
          have q2 : (2 : Int) ≤ 1 := q2
          omega
        | i0 :: j0 :: rest => exact ⟨i0, j0, rest, rfl⟩
      have fr := rep_yes h1 hp0 few
      rw [fr] at k
      rw [hp0] at ha
      refine ⟨_, rfl, a, _, (0 : Int), V.int (i0 : Int), rfl, rfl, .inl (.inl ha), at_of rfl rfl, _, rfl, a, _, (1 : Int), V.int (j0 : Int), rfl, rfl, .inl (.inl ha), at_of rfl rfl, by show 3 ≤ sizeLine; decide, fun q2 hq2 => ?_⟩
      have nqd : q2 ≠ d := fun e => by rw [e, hf] at hq2; cases hq2
      have s4 := s3.trans (same_new (o := .lst [.int 1, .int (i0 : Int), .int (j0 : Int)]) hq2)
      refine ⟨s4 _ _ upd_same, ?_⟩
      have s5 := s12.trans (Same.unlock N.hd s4)
      refine k.say hS (l := [1, (i0 : Int), (j0 : Int)]) rfl (by show 3 < 10000000; decide) s5 ((upd_ne nqd).trans upd_same) ?_
      exact s12.free (by
        cases e : H2 q2 with
        | none => rfl
        | some o =>
          have := s3 q2 o ((upd_ne nqd).trans e)
          rw [hq2] at this; cases this)
    · rw [List.length_map, nl] at q2
      refine ⟨_, rfl, s3, fun s y2 hs hy => ?_⟩
      by_cases e : s = i
      · subst e
        rw [h1] at hy
        cases hy
        omega
      · exact few s y2 (by omega) hy
  · rintro σ H3 ⟨u, rfl, s3, few⟩
    refine ⟨s3 _ _ upd_same, ?_⟩
    have s5 := s12.trans (Same.unlock N.hd s3)
    have fr : Vaviwc.firstRepeatedOf 0 l = none := rep_no fun y hy => by
      obtain ⟨s, hs⟩ := List.mem_iff_getElem?.mp hy
      have sl := (List.getElem?_eq_some_iff.mp hs).1
      exact few s y (by rw [kl]; exact sl) hs
    rw [fr] at k
    exact ⟨one_ok, fun q2 hq2 => k.say hS (l := [0]) rfl (by show 1 < 10000000; decide) (s5.trans (same_new hq2)) upd_same (s5.free hq2)⟩

theorem NumsAt.other {H : Hp} {d d2 : Addr} {m : List Int} {as : List Addr} {kvs : List (Key × V)} {o : HO} (M : NumsAt H d2 m as) (h : H d = some (.dK kvs)) (ne : d2 ≠ d) : NumsAt (upd H d o) d2 m as :=
  ⟨(upd_ne ne).trans M.hd, M.len, fun i x a h1 h2 => by
    have ha := M.at_ i x a h1 h2
    exact (upd_ne (ne_of ha h (by intro z; cases z))).trans ha⟩
theorem sum_cast {α : Type} (f : α → Nat) : ∀ l : List α, (l.map fun x => ((f x : Nat) : Int)).sum = ((l.map f).sum : Nat)
  | [] => rfl
  | x :: l => by
    rw [List.map_cons, List.sum_cons, sum_cast f l, List.map_cons, List.sum_cons]
    omega

/-! ### shared_statistics -/
theorem ok_shared_statistics (T : Top K mg) : FnOk P w K mg base (L2.CX P w) 7 T.f_shared_statistics.a T.f_shared_statistics.d ["store", "p", "q"] (spQ2 K T.c_Store T.c_View T.c_Refusal .sharedStatistics) := by
  refine T.f_shared_statistics.F.okX sc_shared_statistics (fun vs H Q E h => ?_) (fun cdv A outer s H vs Q E hr h => ⟨_, (pss_cons (ps_asg (pe_call (ok_two_lists T) (hr.mono (by decide)) rfl T.g_two_lists T.f_two_lists.F.kp T.f_two_lists.b .nil (passes_call (takes_of rfl rfl rfl rfl) (fun _ _ _ _ h => h)) (pa_cons (pv 0) (pa_cons (pv 1) (pa_cons (pv 2) pa_nil)))) (pg_tup (by rfl) (pgs_cons (pg_name (i := 3) sc_shared_statistics.nd rfl (Or.inl rfl)) (pgs_cons (pg_name (i := 4) sc_shared_statistics.nd rfl (Or.inl rfl)) pgs_nil))))
    (pss_cons (ps_set (i := 5) sc_shared_statistics.nd rfl (Or.inl rfl) (pe_call (ok_numbers_by_cell T) (hr.mono (by decide)) rfl T.g_numbers_by_cell T.f_numbers_by_cell.F.kp T.f_numbers_by_cell.b .nil pass0 (pa_cons (pv 3) pa_nil)))
    (pss_cons (ps_set (i := 6) sc_shared_statistics.nd rfl (Or.inr rfl) (pe_call (ok_numbers_by_cell T) (hr.mono (by decide)) rfl T.g_numbers_by_cell T.f_numbers_by_cell.F.kp T.f_numbers_by_cell.b .nil pass0 (pa_cons (pv 4) pa_nil)))
    (pss_cons (ps_lock (ps_setLc (i := 7) (own := [("cell", 8), ("numbers", 9)]) (g := gTup K 2 (gCons (gName 8) (gCons (gName 9) gNil))) (by rfl) sc_shared_statistics.nd rfl rfl (sw_true rfl rfl rfl (by decide +kernel)) (pi_items (pv 5)) (blkOk_by (own := [("cell", 8), ("numbers", 9)]) (N := N_shared_statistics) (sc := defScope s_shared_statistics) (by decide +kernel)) (fun _ _ _ _ _ => by exact (pg_tup (by rfl) (pgs_cons (pg_name (i := 8) sc_shared_statistics.nd rfl (Or.inl rfl)) (pgs_cons (pg_name (i := 9) sc_shared_statistics.nd rfl (Or.inl rfl)) pgs_nil)))) (fun _ _ _ _ _ => by exact pts_one (pt_cmp (pc_din (hu_of hr) (pv 8) (pv 6)))) (fun _ _ _ _ _ => by exact (pe_op op_mulW (pe_callB (call_len_seqK (K := K)) (by rfl) T.b_len PySem.boot_len (pa_cons (pv 9) pa_nil)) (pe_callB (call_len_seqK (K := K)) (by rfl) T.b_len PySem.boot_len (pa_cons (pe_dget (hu_of hr) (pv 6) (pv 8) (fun _ _ => rfl)) pa_nil))))))
    (pss_one (ps_ret (pe_lst (pa_cons (pe_callB call_len_seq (by rfl) T.b_len PySem.boot_len (pa_cons (pv 7) pa_nil)) (pa_cons (pe_callB (cr_sum rfl) (by rfl) T.b_sum (by decide +kernel) (pa_cons (pv 7) pa_nil)) pa_nil))))))))), ?_⟩)
  · obtain ⟨p, vs0, s, r, q, rfl, _⟩ := h; rfl
  obtain ⟨p, vs0, st, r, q, rfl, hS, k⟩ := h
  have e0 : Vaviwc.outcome st (.sharedStatistics r q) = (andThen (twoOut st r q) fun x => .ok [((Vaviwc.sharedStatisticsOf x.1 x.2).1 : Int), ((Vaviwc.sharedStatisticsOf x.1 x.2).2 : Int)]).map fun l => (st, l) :=
    (congrArg (Except.map fun l => (st, l)) (two_out st r q fun l m => .ok [((Vaviwc.sharedStatisticsOf l m).1 : Int), ((Vaviwc.sharedStatisticsOf l m).2 : Int)]))
  rw [e0] at k
  refine ⟨_, rfl, _, rfl, _, rfl, p, vs0, st, r, q, rfl, hS, fun l m h2 ll ml H1 T1 a b s1 hT ha hb => ?_, fun z hz => k.2 z (by rw [hz]; rfl)⟩
  rw [h2] at k
  have k : Ends2 K T.c_Store T.c_View T.c_Refusal H Q E p vs0 ((.ok [((Vaviwc.sharedStatisticsOf l m).1 : Int), ((Vaviwc.sharedStatisticsOf l m).2 : Int)] : Vaviwc.Outcome (List Int)).map fun l => (st, l)) := k
  refine ⟨T1, _, rfl, .inl (.inl hT), rfl, _, _, rfl, _, _, rfl, rfl, ?_⟩
  refine ⟨_, rfl, a, l, rfl, .inl (.inl ha), ll, fun H2 d as s2 nd N => ?_⟩
  refine ⟨_, rfl, b, m, rfl, .inl (.inl (s2 _ _ hb)), ml, fun H3 d' as' s3 nd' M => ?_⟩
  have N3 := N.same s3
  have s13 := (s1.trans s2).trans s3
  have kl := kvs_len _ as N.len
  have dl := dist_len l
  refine ⟨d, _, N3.hd, trivial, fun od => ?_⟩
  refine ⟨_, rfl, d, od, _, rfl, upd_same, fun D hD => ?_⟩
  have ndd : d' ≠ d := fun e => by rw [e, N.hd] at nd'; cases nd'
  have ML : NumsAt (upd H3 d (.frz od (.dK (kvsOf (distinctElements l) as)))) d' m as' := M.other N3.hd ndd
  refine comp_it walk_items (fun i => m.contains ((distinctElements l).getD i 0)) (fun i => V.int (((l.count ((distinctElements l).getD i 0) * m.count ((distinctElements l).getD i 0) : Nat)) : Int)) (few_line (by omega)) hD (fun H' s' => s' _ _ upd_same) ?_ (fun H5 s5 d5 => ?_)
  · rintro i x H5 H6 R E' hi s5 ⟨T2, x0, y0, rfl, hT2, rfl, hx, hy⟩ hR hE
    have hk : (kvsOf (distinctElements l) as)[i]? = some ((kvsOf (distinctElements l) as)[i].1, (kvsOf (distinctElements l) as)[i].2) := List.getElem?_eq_getElem hi
    obtain ⟨y, na, h1, ek, ev, hna⟩ := N3.entry s5 hk
    have hx : (kvsOf (distinctElements l) as)[i]?.map (fun kv => kV kv.1) = some x0 := hx
    have hy : (kvsOf (distinctElements l) as)[i]?.map Prod.snd = some y0 := hy
    rw [hk, ek, ev] at hx hy
    obtain rfl : x0 = V.int y := (Option.some.inj hx).symm
    obtain rfl : y0 = V.ref na := (Option.some.inj hy).symm
    have gd : (distinctElements l).getD i 0 = y := by rw [List.getD_eq_getElem?_getD, h1]; rfl
    rw [gd] at hR hE
    have s6 : Same H5 (upd H5 T2 (.tup [.int y, .ref na])) := same_new hT2
    refine ⟨T2, _, rfl, .inl (.inl upd_same), rfl, _, _, rfl, _, _, rfl, rfl, rfl, ?_⟩
    have M6 := ML.same (s5.trans s6)
    have hna6 := s6 _ _ hna
    generalize upd H5 T2 (.tup [.int y, .ref na]) = H6 at s6 M6 hna6 ⊢
    by_cases hm : y ∈ m
    · obtain ⟨nb, g1, g2⟩ := M6.get hm
      have e1 : m.contains y = true := by simpa using hm
      refine ⟨_, rfl, _, rfl, d', _, rfl, g1, _, rfl, iteT ?_⟩
      refine ⟨_, rfl, na, _, rfl, .inl (.inl (.inl hna6)), _, rfl, _, rfl, d', _, rfl, g1, nb, _, rfl, .inl (.inl (.inl g2)), _, _, rfl, rfl, ?_, ?_⟩
      · rw [List.length_map, List.length_map, natI_len, natI_len, pos_len, pos_len]
        have c1 : l.count y ≤ l.length := List.count_le_length
        have c2 : m.count y ≤ m.length := List.count_le_length
        exact wide_mul (a := 64) (b := 64) (by omega) (by omega) (by decide) (by decide) (by decide)
      · have e2 : ((l.count y * m.count y : Nat) : Int) = (((natI (positionsOf y 0 l)).map V.int).length : Int) * (((natI (positionsOf y 0 m)).map V.int).length : Int) := by
          rw [List.length_map, List.length_map, natI_len, natI_len, pos_len, pos_len]
          push_cast
          rfl
        have hR := hR e1 _ s6
        rw [e2] at hR
        exact hR
    · have e1 : m.contains y = false := by
        cases e : m.contains y with
        | false => rfl
        | true => exact absurd (by simpa using e) hm
      refine ⟨_, rfl, _, rfl, d', _, rfl, M6.no hm, _, rfl, iteF ?_⟩
      exact hE e1 _ s6
  · rw [kl, range_pick (fun x => m.contains x) (fun x => V.int (((l.count x * m.count x : Nat)) : Int)), mapI (fun x => (((l.count x * m.count x : Nat)) : Int))] at d5
    refine ⟨s5 _ _ upd_same, ?_⟩
    have Dd : D ≠ d := fun e => by rw [e, upd_same] at hD; cases hD
    have d6 : (upd H5 d (.dK (kvsOf (distinctElements l) as))) D = some (.lst ((((distinctElements l).filter fun x => m.contains x).map fun x => (((l.count x * m.count x : Nat)) : Int)).map V.int)) := (upd_ne Dd).trans d5
    have s6 := s13.trans (Same.unlock N3.hd s5)
    generalize upd H5 d (.dK (kvsOf (distinctElements l) as)) = H6 at d6 s6 ⊢
    have eL : Vaviwc.sharedStatisticsOf l m = (((distinctElements l).filter fun x => m.contains x).length, (((distinctElements l).filter fun x => m.contains x).map fun x => l.count x * m.count x).sum) := by
      unfold Vaviwc.sharedStatisticsOf
      dsimp only
      congr 2
      exact List.map_congr_left fun x _ => by rw [occ_count, occ_count]
    rw [eL] at k
    refine ⟨_, rfl, D, _, rfl, .inl (.inl (.inl d6)), _, rfl, D, _, rfl, .inl (.inl d6), two_ok, fun q2 hq2 => ?_⟩
    refine k.say hS (l := [_, _]) rfl (by show 2 < 10000000; decide) (s6.trans (same_new hq2)) ?_ (s6.free hq2)
    rw [upd_same, sum_cast, List.length_map, List.length_map]; rfl

/-! ### cell_statistics -/
theorem most_is {l : List Int} {M : Int} (h : ((distinctElements l).map (fun x => ((l.count x : Nat) : Int)) = [] ∧ M = 0) ∨ (M ∈ (distinctElements l).map (fun x => ((l.count x : Nat) : Int)) ∧ ∀ a, a ∈ (distinctElements l).map (fun x => ((l.count x : Nat) : Int)) → a ≤ M)) :
    ∃ mm : Nat, M = mm ∧ ((l = [] ∧ mm = 0) ∨ ((∃ c ∈ l, l.count c = mm) ∧ ∀ x ∈ l, l.count x ≤ mm)) := by
  rcases h with ⟨h1, h2⟩ | ⟨h1, h2⟩
  · refine ⟨0, h2, .inl ⟨?_, rfl⟩⟩
    cases l with
    | nil => rfl
    | cons x r =>
      have m : x ∈ distinctElements (x :: r) := (mem_dist x _).mpr List.mem_cons_self
      rw [List.map_eq_nil_iff] at h1
      rw [h1] at m; cases m
  · obtain ⟨c, hc, e⟩ := List.mem_map.mp h1
    refine ⟨l.count c, e.symm, .inr ⟨⟨c, (mem_dist c l).mp hc, rfl⟩, fun x hx => ?_⟩⟩
    have := h2 _ (List.mem_map.mpr ⟨x, (mem_dist x l).mpr hx, rfl⟩)
    rw [← e] at this
    omega
theorem stats_fin {l : List Int} {mm : Nat} {c : Int} (h : (l = [] ∧ mm = 0) ∨ ((∃ c ∈ l, l.count c = mm) ∧ ∀ x ∈ l, l.count x ≤ mm))
    (h2 : ((distinctElements l).filter (fun x => decide (l.count x = mm)) = [] ∧ c = 0) ∨ (c ∈ (distinctElements l).filter (fun x => decide (l.count x = mm)) ∧ ∀ a, a ∈ (distinctElements l).filter (fun x => decide (l.count x = mm)) → c ≤ a)) :
    Vaviwc.cellStatisticsOf l = ((distinctElements l).length, mm, c) := by
  have mem : ∀ x, x ∈ (distinctElements l).filter (fun x => decide (l.count x = mm)) ↔ x ∈ l ∧ l.count x = mm := fun x => by
    rw [List.mem_filter, mem_dist, decide_eq_true_iff]
  rcases h with ⟨rfl, rfl⟩ | ⟨⟨c0, m0, e0⟩, hmax⟩
  · rcases h2 with ⟨_, rfl⟩ | ⟨q, _⟩
    · exact stats_nil
    · exact absurd ((mem c).mp q).1 (by simp)
  · rcases h2 with ⟨q, _⟩ | ⟨q1, q2⟩
    · have := (mem c0).mpr ⟨m0, e0⟩
      rw [q] at this; cases this
    · obtain ⟨a1, a2⟩ := (mem c).mp q1
      exact stats_is a1 a2 hmax fun x hx he => q2 x ((mem x).mpr ⟨hx, he⟩)
theorem ok_cell_statistics (T : Top K mg) : FnOk P w K mg base (L2.CX P w) 7 T.f_cell_statistics.a T.f_cell_statistics.d ["store", "p"] (spQ1 K T.c_Store T.c_View T.c_Refusal .cellStatistics) := by
  refine T.f_cell_statistics.F.okX sc_cell_statistics (fun vs H Q E h => ?_) (fun cdv A outer s H vs Q E hr h => ⟨_, (pss_cons (ps_set (i := 2) sc_cell_statistics.nd rfl (Or.inl rfl) (pe_call (ok_numbers_by_cell T) (hr.mono (by decide)) rfl T.g_numbers_by_cell T.f_numbers_by_cell.F.kp T.f_numbers_by_cell.b .nil pass0 (pa_cons (pe_call (ok_listed_cells T) (hr.mono (by decide)) rfl T.g_listed_cells T.f_listed_cells.F.kp T.f_listed_cells.b .nil (passes_call (takes_of rfl rfl rfl rfl) (fun _ _ _ _ h => h)) (pa_cons (pe_meth (pv 0) T.l_Store.c T.m_Store_view_in (ok_Store_view_in T) (hr.mono (by decide)) T.f_Store_view_in.b .nil (passes_call (takes_of rfl rfl rfl rfl) (fun _ _ _ _ h => h)) (pa_cons (pv 1) pa_nil)) pa_nil)) pa_nil)))
    (pss_cons (ps_set (i := 3) sc_cell_statistics.nd rfl (Or.inr rfl) (pe_callKw (cr_maxD rfl) (by rfl) T.b_max (by decide +kernel) (pa_cons (pe_lock (pe_lc (own := [("numbers", 5)]) (g := gName 5) (by rfl) sc_cell_statistics.nd (pi_values (pv 2)) (blkOk_by (own := [("numbers", 5)]) (N := N_cell_statistics) (sc := defScope s_cell_statistics) (by decide +kernel)) (fun _ _ _ _ _ => by exact (pg_name (i := 5) sc_cell_statistics.nd rfl (Or.inl rfl))) (fun _ _ _ _ _ => by exact pts_nil) (fun _ _ _ _ _ => by exact (pe_callB (call_len_seqK (K := K)) (by rfl) T.b_len PySem.boot_len (pa_cons (pv 5) pa_nil))))) pa_nil) (pk_cons pe_int pk_nil)))
    (pss_cons (ps_set (i := 4) sc_cell_statistics.nd rfl (Or.inl rfl) (pe_callKw (cr_minD rfl) (by rfl) T.b_min (by decide +kernel) (pa_cons (pe_lock (pe_lc (own := [("cell", 6), ("numbers", 5)]) (g := gTup K 2 (gCons (gName 6) (gCons (gName 5) gNil))) (by rfl) sc_cell_statistics.nd (pi_items (pv 2)) (blkOk_by (own := [("cell", 6), ("numbers", 5)]) (N := N_cell_statistics) (sc := defScope s_cell_statistics) (by decide +kernel)) (fun _ _ _ _ _ => by exact (pg_tup (by rfl) (pgs_cons (pg_name (i := 6) sc_cell_statistics.nd rfl (Or.inl rfl)) (pgs_cons (pg_name (i := 5) sc_cell_statistics.nd rfl (Or.inl rfl)) pgs_nil)))) (fun _ _ _ _ _ => by exact pts_one (pt_cmpR op_eq (pe_callB (call_len_seqK (K := K)) (by rfl) T.b_len PySem.boot_len (pa_cons (pv 5) pa_nil)) (pv 3) (nomark _))) (fun _ _ _ _ _ => by exact (pv 6)))) pa_nil) (pk_cons pe_int pk_nil)))
    (pss_one (ps_ret (pe_lst (pa_cons (pe_callB call_lenD (by rfl) T.b_len PySem.boot_len (pa_cons (pv 2) pa_nil)) (pa_cons (pv 3) (pa_cons (pv 4) pa_nil))))))))), ?_⟩)
  · obtain ⟨p, vs0, s, r, rfl, _⟩ := h; rfl
  obtain ⟨p, vs0, st, r, rfl, hS, k⟩ := h
  obtain ⟨dx, rs, hp, hv, h6, hr4⟩ := hS.ex
  have e0 : Vaviwc.outcome st (.cellStatistics r) = (andThen (oneOut st r) fun l => .ok [((Vaviwc.cellStatisticsOf l).1 : Int), ((Vaviwc.cellStatisticsOf l).2.1 : Int), (Vaviwc.cellStatisticsOf l).2.2]).map fun l => (st, l) :=
    congrArg (Except.map fun l => (st, l)) (one_out st r fun l => .ok [((Vaviwc.cellStatisticsOf l).1 : Int), ((Vaviwc.cellStatisticsOf l).2.1 : Int), (Vaviwc.cellStatisticsOf l).2.2])
  rw [e0] at k
  refine ⟨_, rfl, p, dx, _, rfl, hp, rfl, _, rfl, p, vs0, st, r, rfl, hS, fun v hv1 vok q hq => ?_, fun z hz => k.2 z (by unfold oneOut; rw [hz]; rfl)⟩
  have e1 : oneOut st r = Vaviwc.enumeratedCells v := by unfold oneOut; rw [hv1]; rfl
  rw [e1] at k
  refine ⟨q, v, rfl, hq, vok, fun l hl ll H1 cl s1 hcl => ?_, fun z hz => k.2 z (by rw [hz]; rfl)⟩
  rw [hl] at k
  have k : Ends2 K T.c_Store T.c_View T.c_Refusal H Q E p vs0 ((.ok [((Vaviwc.cellStatisticsOf l).1 : Int), ((Vaviwc.cellStatisticsOf l).2.1 : Int), (Vaviwc.cellStatisticsOf l).2.2] : Vaviwc.Outcome (List Int)).map fun l => (st, l)) := k
  refine ⟨cl, l, rfl, .inl (.inl hcl), ll, fun H2 d as s2 nd N => ?_⟩
  have s12 := s1.trans s2
  have kl := kvs_len _ as N.len
  have dl := dist_len l
  -- most
  refine ⟨d, _, N.hd, trivial, fun od => ⟨_, rfl, d, od, _, rfl, upd_same, fun D hD => ?_⟩⟩
  refine comp_it walk_values (fun _ => true) (fun i => V.int ((l.count ((distinctElements l).getD i 0) : Nat) : Int)) (few_line (by omega)) hD (fun H' s' => s' _ _ upd_same) ?_ (fun H5 s5 d5 => ?_)
  · rintro i x H5 H6 R E' hi s5 ⟨rfl, k0, hk⟩ hR _
    obtain ⟨y, na, h1, rfl, rfl, hna⟩ := N.entry s5 hk
    have gd : (distinctElements l).getD i 0 = y := by rw [List.getD_eq_getElem?_getD, h1]; rfl
    have hR := hR rfl _ (Same.refl _)
    rw [gd] at hR
    have e2 : ((l.count y : Nat) : Int) = (((natI (positionsOf y 0 l)).map V.int).length : Int) := by rw [List.length_map, natI_len, pos_len]
    rw [e2] at hR
    exact ⟨rfl, yes ⟨_, rfl, na, _, rfl, .inl (.inl (.inl hna)), hR⟩⟩
  rw [kl, range_pick (fun _ => true) (fun x => V.int ((l.count x : Nat) : Int)), List.filter_eq_self.mpr (fun _ _ => rfl), mapI (fun x => ((l.count x : Nat) : Int))] at d5
  refine ⟨s5 _ _ upd_same, ?_⟩
  have Dd : D ≠ d := fun e => by rw [e, upd_same] at hD; cases hD
  have d6 := (upd_ne Dd (H := H5) (o := .dK (kvsOf (distinctElements l) as))).trans d5
  have s6 := Same.unlock N.hd s5
  generalize upd H5 d (.dK (kvsOf (distinctElements l) as)) = H6 at d6 s6 ⊢
  refine ⟨D, _, 0, rfl, rfl, .inl (.inl d6), fun M hM => ?_⟩
  obtain ⟨mm, rfl, hmm⟩ := most_is hM
  have N6 := N.same s6
  have s16 := s12.trans s6
  clear hM d6 d5 s5 Dd hD N s6
  -- smallest
  refine ⟨d, _, N6.hd, trivial, fun od2 => ⟨_, rfl, d, od2, _, rfl, upd_same, fun D2 hD2 => ?_⟩⟩
  refine comp_it walk_items (fun i => decide (l.count ((distinctElements l).getD i 0) = mm)) (fun i => V.int ((distinctElements l).getD i 0)) (few_line (by omega)) hD2 (fun H' s' => s' _ _ upd_same) ?_ (fun H7 s7 d7 => ?_)
  · rintro i x H7 H8 R E' hi s7 ⟨T2, x0, y0, rfl, hT2, rfl, hx, hy⟩ hR hE
    have hk : (kvsOf (distinctElements l) as)[i]? = some ((kvsOf (distinctElements l) as)[i].1, (kvsOf (distinctElements l) as)[i].2) := List.getElem?_eq_getElem hi
    obtain ⟨y, na, h1, ek, ev, hna⟩ := N6.entry s7 hk
    have hx : (kvsOf (distinctElements l) as)[i]?.map (fun kv => kV kv.1) = some x0 := hx
    have hy : (kvsOf (distinctElements l) as)[i]?.map Prod.snd = some y0 := hy
    rw [hk, ek, ev] at hx hy
    obtain rfl : x0 = V.int y := (Option.some.inj hx).symm
    obtain rfl : y0 = V.ref na := (Option.some.inj hy).symm
    have gd : (distinctElements l).getD i 0 = y := by rw [List.getD_eq_getElem?_getD, h1]; rfl
    rw [gd] at hR hE
    have s8 : Same H7 (upd H7 T2 (.tup [.int y, .ref na])) := same_new hT2
    refine ⟨T2, _, rfl, .inl (.inl upd_same), rfl, _, _, rfl, _, _, rfl, rfl, rfl, ?_⟩
    have hna8 := s8 _ _ hna
    have e2 : (((natI (positionsOf y 0 l)).map V.int).length : Int) = ((l.count y : Nat) : Int) := by rw [List.length_map, natI_len, pos_len]
    refine ⟨_, rfl, na, _, rfl, .inl (.inl (.inl hna8)), _, rfl, rfl, _, rfl, ?_⟩
    rw [e2]
    refine iteEq (fun q2 => ?_) (fun q2 => ?_)
    · exact ⟨_, rfl, hR (decide_eq_true (by omega)) _ s8⟩
    · exact hE (decide_eq_false (by omega)) _ s8
  rw [kl, range_pick (fun x => decide (l.count x = mm)) (fun x => V.int x)] at d7
  refine ⟨s7 _ _ upd_same, ?_⟩
  have Dd : D2 ≠ d := fun e => by rw [e, upd_same] at hD2; cases hD2
  have d8 := (upd_ne Dd (H := H7) (o := .dK (kvsOf (distinctElements l) as))).trans d7
  have s8 := Same.unlock N6.hd s7
  generalize upd H7 d (.dK (kvsOf (distinctElements l) as)) = H8 at d8 s8 ⊢
  refine ⟨D2, _, 0, rfl, rfl, .inl (.inl d8), fun c hc => ?_⟩
  have fin := stats_fin hmm hc
  rw [fin] at k
  have s18 := s16.trans s8
  refine ⟨_, rfl, d, _, rfl, (N6.same s8).hd, _, rfl, _, rfl, by show 3 ≤ sizeLine; decide, fun q2 hq2 => ?_⟩
  refine k.say hS (l := [_, _, _]) rfl (by show 3 < 10000000; decide) (s18.trans (same_new hq2)) ?_ (s18.free hq2)
  rw [upd_same, kl]; rfl
end Ov
end

section
set_option Elab.async false
set_option linter.all false
set_option maxRecDepth 100000
set_option maxHeartbeats 8000000
/-! the list of calls -/
namespace Ov
open PySem PySem.Spec PyProof.Rows L2
variable {P : Program} {w : World} {K : PySem.W.Frag} {mg : Str → Option Value} {base : Heap}

def spReadRows (K : PySem.W.Frag) : Sp := fun vs H Q _ => ∃ (a : Addr) (st k : Nat) (l t : List Int) (xs : List (List Int)), vs = [.ref a, .int st, .int k] ∧ SqL K H a (l.map V.int) ∧ l.length ≤ 1000000 ∧ k ≤ 10 ∧ st ≤ l.length ∧
  PyFlat.rows k (l.drop st) = some (xs, t) ∧ ∀ (H' : Hp) (T rl : Addr) (pl : Nat), Same H H' → H' T = some (.tup [.ref rl, .int pl]) → RowsAt H' rl xs → t = l.drop pl → pl ≤ l.length → Q (.ref T) H'
theorem ok_read_rows (T : Top K mg) : FnOk P w K mg base CX0 1 T.f_read_rows.a T.f_read_rows.d ["calls", "start", "count"] (spReadRows K) := by
  refine T.f_read_rows.F.ok sc_read_rows (fun vs H Q E h => ?_) (fun cdv A outer s H vs Q E hr h => ⟨_, (pss_cons (ps_set (i := 3) sc_read_rows.nd rfl (Or.inl rfl) (pe_lst pa_nil))
    (pss_cons (ps_set (i := 4) sc_read_rows.nd rfl (Or.inl rfl) (pv 1))
    (pss_cons (ps_for PassesOwn.never rfl (pi_range1 (by rfl) T.b_range (pa_cons (pv 2) pa_nil)) (pg_name (i := 5) sc_read_rows.nd rfl (Or.inl rfl)) (pss_cons (ps_set (i := 6) sc_read_rows.nd rfl (Or.inl rfl) (pe_op op_add (pe_op op_add (pv 4) pe_int) (pe_ix ix_list (pv 0) (pv 4) (fun _ _ => rfl))))
    (pss_cons (ps_expr (pe_bm PySem.F.plainAttrs_list PySem.F.slot_list_append PySem.F.type_list_append mt_append (pv 3) (pa_cons (pe_slice sl_list (pv 0) (po_some (pe_op op_add (pv 4) pe_int)) (po_some (pv 6))) pa_nil)))
    (pss_one (ps_set (i := 4) sc_read_rows.nd rfl (Or.inl rfl) (pv 6))))))
    (pss_one (ps_ret (pe_tup (pa_cons (pv 3) (pa_cons (pv 4) pa_nil)))))))), ?_⟩)
  · obtain ⟨a, st, k, l, t, xs, rfl, _⟩ := h; rfl
  obtain ⟨a, st, n, l, t, xs, rfl, hS, hl, hn, hst, hrows, k⟩ := h
  refine ⟨Nat.zero_le _, fun rl hrl => ?_⟩
  have s0 : Same H (upd H rl (.lst [])) := same_new hrl
  refine ⟨_, rfl, _, rfl, n, rfl, by omega, by omega, for_range (n := n) (fun i σ H' => ∃ (u v : Option V) (ras : List Addr) (done rest : List (List Int)) (pl : Nat), σ = [some (.ref a), some (.int st), some (.int n), some (.ref rl), some (.int pl), u, v] ∧
    Same H H' ∧ H' rl = some (.lst (ras.map V.ref)) ∧ ras.length = i ∧ done.length = i ∧ xs = done ++ rest ∧ pl ≤ l.length ∧ PyFlat.rows (n - i) (l.drop pl) = some (rest, t) ∧ (∀ (j : Nat) (r : Addr), ras[j]? = some r → ∃ x, done[j]? = some x ∧ H' r = some (.lst (x.map V.int))))
    ⟨none, none, [], [], xs, st, rfl, s0, upd_same, rfl, rfl, rfl, hst, hrows, fun j r h => by cases h⟩ ?_ ?_⟩
  · rintro i σ H1 hi ⟨u, v, ras, done, rest, pl, rfl, s1, h1, hr1, hd1, hx, hpl, hrw, hall⟩
    have en : n - i = (n - (i + 1)) + 1 := by omega
    rw [en] at hrw
    obtain ⟨z, r', xs', e1, z0, zl, rfl, hrw2⟩ := rows_succ hrw
    obtain ⟨g1, g2, g3⟩ := drop_cons e1
    have rl' : r'.length = l.length - (pl + 1) := by rw [g2, List.length_drop]
    have ez : (pl : Int) + 1 + z = ((pl + 1 + z.toNat : Nat) : Int) := by omega
    have e2 : (pl : Int) + 1 = ((pl + 1 : Nat) : Int) := by omega
    refine ⟨_, rfl, _, _, rfl, rfl, _, rfl, _, rfl, a, _, _, V.int z, rfl, rfl, s1.seq hS, at_of rfl (by rw [List.getElem?_map, g1]; rfl), _, _, rfl, rfl, ?_⟩
    refine slots (σ' := [some (.ref a), some (.int st), some (.int n), some (.ref rl), some (.int pl), some (.int (0 + i)), some (.int ((pl + 1 + z.toNat : Nat) : Int))]) (by rw [← ez]; rfl) ?_
    refine ⟨_, rfl, .inl ⟨rfl, _, .inl (.inl h1)⟩, _, rfl, _, rfl, _, _, rfl, rfl, _, rfl, _, rfl, _, rfl, a, _, rfl, s1.seq hS, fun q hq => ?_⟩
    rw [e2, cut_mid l _ _ (by omega) (by omega)]
    have s2 : Same H1 (upd H1 q (.lst (((l.drop (pl + 1)).take (pl + 1 + z.toNat - (pl + 1))).map V.int))) := same_new hq
    have q2 : (upd H1 q (.lst (((l.drop (pl + 1)).take (pl + 1 + z.toNat - (pl + 1))).map V.int))) q = some (.lst ((r'.take z.toNat).map V.int)) := by
      rw [upd_same, g2, show pl + 1 + z.toNat - (pl + 1) = z.toNat by omega]
    have nq : q ≠ rl := fun e => by rw [e, h1] at hq; cases hq
    generalize upd H1 q (.lst (((l.drop (pl + 1)).take (pl + 1 + z.toNat - (pl + 1))).map V.int)) = H2 at s2 q2 ⊢
    refine ⟨rl, _, _, rfl, rfl, s2 _ _ h1, by rw [List.length_map, sizeLine_eq]; omega, ?_⟩
    refine ⟨_, rfl, _, _, ras ++ [q], done ++ [r'.take z.toNat], xs', pl + 1 + z.toNat, rfl, ?_, ?_, ?_, ?_, ?_, by omega, ?_, fun j r e => ?_⟩
    · intro c o e
      have : c ≠ rl := fun z => by rw [z, hrl] at e; cases e
      rw [upd_ne this]
      exact s2 _ _ (s1 _ _ e)
    · rw [upd_same, List.map_append]; rfl
    · rw [List.length_append, hr1]; rfl
    · rw [List.length_append, hd1]; rfl
    · rw [hx, List.append_assoc]; rfl
    · rw [g2, List.drop_drop] at hrw2
      exact hrw2
    · by_cases hj : j < ras.length
      · rw [List.getElem?_append_left hj] at e
        obtain ⟨x, x1, x2⟩ := hall j r e
        have : r ≠ rl := fun z => by
          rw [z, h1] at x2
          injection x2 with x2
          injection x2 with x2
          have m : V.ref r ∈ ras.map V.ref := List.mem_map.mpr ⟨r, List.mem_of_getElem? e, rfl⟩
          rw [x2] at m
          obtain ⟨y, _, hy⟩ := List.mem_map.mp m
          cases hy
        exact ⟨x, by rw [List.getElem?_append_left (by omega)]; exact x1, by rw [upd_ne this]; exact s2 _ _ x2⟩
      · have hj2 : j = ras.length := by
          have := (List.getElem?_eq_some_iff.mp e).1
          rw [List.length_append] at this
          have : j < ras.length + 1 := this
          omega
        subst hj2
        rw [List.getElem?_append_right (Nat.le_refl _), Nat.sub_self] at e
        obtain rfl := Option.some.inj e
        exact ⟨_, by rw [hr1, ← hd1, List.getElem?_append_right (Nat.le_refl _), Nat.sub_self]; rfl, by rw [upd_ne nq]; exact q2⟩
  · rintro σ H1 ⟨u, v, ras, done, rest, pl, rfl, s1, h1, hr1, hd1, hx, hpl, hrw, hall⟩
    rw [Nat.sub_self] at hrw
    obtain ⟨rfl, ht⟩ := rows_zero hrw
    rw [List.append_nil] at hx
    refine ⟨_, rfl, _, rfl, two_ok, fun p hp => ?_⟩
    have s2 : Same H1 (upd H1 p (.tup [.ref rl, .int pl])) := same_new hp
    refine k _ p rl pl (s1.trans s2) upd_same ⟨ras, s2 _ _ h1, by rw [hr1, hx, hd1], fun j r e => ?_⟩ ht hpl
    obtain ⟨x, x1, x2⟩ := hall j r e
    exact ⟨x, by rw [hx]; exact x1, s2 _ _ x2⟩
end Ov
end

section
set_option Elab.async false
set_option linter.all false
set_option maxRecDepth 100000
set_option maxHeartbeats 8000000
/-! one call -/
namespace Ov
open PySem PySem.Spec PyProof.Rows L2
variable {P : Program} {w : World} {K : PySem.W.Frag} {mg : Str → Option Value} {base : Heap}

theorem RowsAt.one {H : Hp} {rl : Addr} {x : List Int} (h : RowsAt H rl [x]) : ∃ r, H rl = some (.lst [.ref r]) ∧ H r = some (.lst (x.map V.int)) := by
  obtain ⟨ras, h1, h2, h3⟩ := h.ex
  match ras, h2 with
  | [r], _ =>
    obtain ⟨y, e, hr⟩ := h3 0 r rfl
    obtain rfl := Option.some.inj e
    exact ⟨r, h1, hr⟩
theorem RowsAt.two {H : Hp} {rl : Addr} {x y : List Int} (h : RowsAt H rl [x, y]) : ∃ r q, H rl = some (.lst [.ref r, .ref q]) ∧ H r = some (.lst (x.map V.int)) ∧ H q = some (.lst (y.map V.int)) := by
  obtain ⟨ras, h1, h2, h3⟩ := h.ex
  match ras, h2 with
  | [r, q], _ =>
    obtain ⟨u, e, hr⟩ := h3 0 r rfl
    obtain rfl := Option.some.inj e
    obtain ⟨v, e, hq⟩ := h3 1 q rfl
    obtain rfl := Option.some.inj e
    exact ⟨r, q, h1, hr, hq⟩
theorem Sm.t {z : Int} (h : Sm z) : SmallT z := by unfold Sm at h; unfold SmallT; omega

/-! ### calls that go through views element by element -/
def spSmall (K : PySem.W.Frag) (C Vw R : Addr) : Sp := fun vs H Q E => ∃ (p vs0 na : Addr) (s : Vaviwc.State) (i : Nat) (ns : List Int) (rs : List (List Int)) (c : Vaviwc.Call), vs = [.ref p, .int i, .ref na] ∧ 10 ≤ i ∧ StoreAt C Vw H p vs0 s ∧
  H na = some (.lst (ns.map V.int)) ∧ IsCall i ns rs c ∧ Ends2 K C Vw R H Q E p vs0 (Vaviwc.outcome s c)
theorem ok_small_views_answer (T : Top K mg) : FnOk P w K mg base (L2.CX P w) 8 T.f_small_views_answer.a T.f_small_views_answer.d ["store", "operation", "numbers"] (spSmall K T.c_Store T.c_View T.c_Refusal) := by
  refine T.f_small_views_answer.F.okX sc_small_views_answer (fun vs H Q E h => ?_) (fun cdv A outer s H vs Q E hr h => ⟨_, (pss_cons (ps_if (pt_cmpR op_eq (pv 1) pe_int (nomark _)) (pss_one (ps_ret (pe_call (ok_elements_with_cell T) (hr.mono (by decide)) rfl T.g_elements_with_cell T.f_elements_with_cell.F.kp T.f_elements_with_cell.b .nil (passes_call (takes_of rfl rfl rfl rfl) (fun _ _ _ _ h => h)) (pa_cons (pv 0) (pa_cons (pe_ix ix_list (pv 2) pe_int (fun _ _ => rfl)) (pa_cons (pe_ix ix_list (pv 2) pe_int (fun _ _ => rfl)) pa_nil)))))) pss_nil)
    (pss_cons (ps_if (pt_cmpR op_eq (pv 1) pe_int (nomark _)) (pss_one (ps_ret (pe_call (ok_cell_statistics T) (hr.mono (by decide)) rfl T.g_cell_statistics T.f_cell_statistics.F.kp T.f_cell_statistics.b .nil (passes_call (takes_of rfl rfl rfl rfl) (fun _ _ _ _ h => h)) (pa_cons (pv 0) (pa_cons (pe_ix ix_list (pv 2) pe_int (fun _ _ => rfl)) pa_nil))))) pss_nil)
    (pss_cons (ps_if (pt_cmpR op_eq (pv 1) pe_int (nomark _)) (pss_one (ps_ret (pe_call (ok_shared_statistics T) (hr.mono (by decide)) rfl T.g_shared_statistics T.f_shared_statistics.F.kp T.f_shared_statistics.b .nil (passes_call (takes_of rfl rfl rfl rfl) (fun _ _ _ _ h => h)) (pa_cons (pv 0) (pa_cons (pe_ix ix_list (pv 2) pe_int (fun _ _ => rfl)) (pa_cons (pe_ix ix_list (pv 2) pe_int (fun _ _ => rfl)) pa_nil)))))) pss_nil)
    (pss_cons (ps_if (pt_cmpR op_eq (pv 1) pe_int (nomark _)) (pss_one (ps_ret (pe_call (ok_first_shared_pair T) (hr.mono (by decide)) rfl T.g_first_shared_pair T.f_first_shared_pair.F.kp T.f_first_shared_pair.b .nil (passes_call (takes_of rfl rfl rfl rfl) (fun _ _ _ _ h => h)) (pa_cons (pv 0) (pa_cons (pe_ix ix_list (pv 2) pe_int (fun _ _ => rfl)) (pa_cons (pe_ix ix_list (pv 2) pe_int (fun _ _ => rfl)) pa_nil)))))) pss_nil)
    (pss_cons (ps_if (pt_cmpR op_eq (pv 1) pe_int (nomark _)) (pss_one (ps_ret (pe_call (ok_first_repeated T) (hr.mono (by decide)) rfl T.g_first_repeated T.f_first_repeated.F.kp T.f_first_repeated.b .nil (passes_call (takes_of rfl rfl rfl rfl) (fun _ _ _ _ h => h)) (pa_cons (pv 0) (pa_cons (pe_ix ix_list (pv 2) pe_int (fun _ _ => rfl)) pa_nil))))) pss_nil)
    (pss_one (ps_ret (pe_call (ok_is_covered T) (hr.mono (by decide)) rfl T.g_is_covered T.f_is_covered.F.kp T.f_is_covered.b .nil (passes_call (takes_of rfl rfl rfl rfl) (fun _ _ _ _ h => h)) (pa_cons (pv 0) (pa_cons (pe_ix ix_list (pv 2) pe_int (fun _ _ => rfl)) (pa_cons (pe_ix ix_list (pv 2) pe_int (fun _ _ => rfl)) pa_nil))))))))))), ?_⟩)
  · obtain ⟨p, vs0, na, s, i, ns, rs, c, rfl, _⟩ := h; rfl
  obtain ⟨p, vs0, na, st, i, ns, rs, c, rfl, hi, hS, hN, hc, k⟩ := h
  cases hc with
  | c10 r x h1 h2 =>
    refine ⟨_, rfl, rfl, _, rfl, iteEq (fun _ => ?_) (fun q => absurd rfl q)⟩
    exact ⟨_, rfl, _, rfl, na, _, 0, _, rfl, rfl, .inl (.inl hN), rfl, _, rfl, na, _, 1, _, rfl, rfl, .inl (.inl hN), rfl, p, vs0, st, r, x, rfl, hS, k⟩
  | c11 r h1 =>
    iterate 1 (refine ⟨_, rfl, rfl, _, rfl, iteEq (fun q => absurd q (by decide)) (fun _ => ?_)⟩)
    refine ⟨_, rfl, rfl, _, rfl, iteEq (fun _ => ?_) (fun q => absurd rfl q)⟩
    exact ⟨_, rfl, _, rfl, na, _, 0, _, rfl, rfl, .inl (.inl hN), rfl, p, vs0, st, r, rfl, hS, k⟩
  | c12 r q h1 h2 =>
    iterate 2 (refine ⟨_, rfl, rfl, _, rfl, iteEq (fun q => absurd q (by decide)) (fun _ => ?_)⟩)
    refine ⟨_, rfl, rfl, _, rfl, iteEq (fun _ => ?_) (fun q => absurd rfl q)⟩
    exact ⟨_, rfl, _, rfl, na, _, 0, _, rfl, rfl, .inl (.inl hN), rfl, _, rfl, na, _, 1, _, rfl, rfl, .inl (.inl hN), rfl, p, vs0, st, r, q, rfl, hS, k⟩
  | c13 r q h1 h2 =>
    iterate 3 (refine ⟨_, rfl, rfl, _, rfl, iteEq (fun q => absurd q (by decide)) (fun _ => ?_)⟩)
    refine ⟨_, rfl, rfl, _, rfl, iteEq (fun _ => ?_) (fun q => absurd rfl q)⟩
    exact ⟨_, rfl, _, rfl, na, _, 0, _, rfl, rfl, .inl (.inl hN), rfl, _, rfl, na, _, 1, _, rfl, rfl, .inl (.inl hN), rfl, p, vs0, st, r, q, rfl, hS, k⟩
  | c14 r h1 =>
    iterate 4 (refine ⟨_, rfl, rfl, _, rfl, iteEq (fun q => absurd q (by decide)) (fun _ => ?_)⟩)
    refine ⟨_, rfl, rfl, _, rfl, iteEq (fun _ => ?_) (fun q => absurd rfl q)⟩
    exact ⟨_, rfl, _, rfl, na, _, 0, _, rfl, rfl, .inl (.inl hN), rfl, p, vs0, st, r, rfl, hS, k⟩
  | c15 r q h1 h2 =>
    iterate 5 (refine ⟨_, rfl, rfl, _, rfl, iteEq (fun q => absurd q (by decide)) (fun _ => ?_)⟩)
    exact ⟨_, rfl, _, rfl, na, _, 0, _, rfl, rfl, .inl (.inl hN), rfl, _, rfl, na, _, 1, _, rfl, rfl, .inl (.inl hN), rfl, p, vs0, st, r, q, rfl, hS, k⟩
  | _ => omega

def spAnswerTo (K : PySem.W.Frag) (C Vw R : Addr) : Sp := fun vs H Q E => ∃ (p vs0 na ra : Addr) (s : Vaviwc.State) (i : Nat) (ns : List Int) (rs : List (List Int)) (c : Vaviwc.Call), vs = [.ref p, .int i, .ref na, .ref ra] ∧ StoreAt C Vw H p vs0 s ∧
  H na = some (.lst (ns.map V.int)) ∧ RowsAt H ra rs ∧ IsCall i ns rs c ∧ Ends2 K C Vw R H Q E p vs0 (Vaviwc.outcome s c)
theorem ok_answer_to (T : Top K mg) : FnOk P w K mg base (L2.CX P w) 10 T.f_answer_to.a T.f_answer_to.d ["store", "operation", "numbers", "rows"] (spAnswerTo K T.c_Store T.c_View T.c_Refusal) := by
  refine T.f_answer_to.F.okX sc_answer_to (fun vs H Q E h => ?_) (fun cdv A outer s H vs Q E hr h => ⟨_, (pss_cons (ps_if (pt_cmpR op_eq (pv 1) pe_int (nomark _)) (pss_one (ps_ret (pe_call (ok_set_length T) (hr.mono (by decide)) rfl T.g_set_length T.f_set_length.F.kp T.f_set_length.b .nil (passes_call (takes_of rfl rfl rfl rfl) (fun _ _ _ _ h => h)) (pa_cons (pv 0) (pa_cons (pe_ix ix_list (pv 2) pe_int (fun _ _ => rfl)) pa_nil))))) pss_nil)
    (pss_cons (ps_if (pt_cmpR op_eq (pv 1) pe_int (nomark _)) (pss_one (ps_ret (pe_call (ok_set_view T) (hr.mono (by decide)) rfl T.g_set_view T.f_set_view.F.kp T.f_set_view.b .nil (passes_call (takes_of rfl rfl rfl rfl) (fun _ _ _ _ h => h)) (pa_cons (pv 0) (pa_cons (pe_ix ix_list (pv 2) pe_int (fun _ _ => rfl)) (pa_cons (pe_ix ix_list (pv 2) pe_int (fun _ _ => rfl)) (pa_cons (pe_ix ix_list (pv 3) pe_int (fun _ _ => rfl)) pa_nil))))))) pss_nil)
    (pss_cons (ps_if (pt_cmpR op_eq (pv 1) pe_int (nomark _)) (pss_one (ps_ret (pe_call (ok_get_view T) (hr.mono (by decide)) rfl T.g_get_view T.f_get_view.F.kp T.f_get_view.b .nil (passes_call (takes_of rfl rfl rfl rfl) (fun _ _ _ _ h => h)) (pa_cons (pv 0) (pa_cons (pe_ix ix_list (pv 2) pe_int (fun _ _ => rfl)) pa_nil))))) pss_nil)
    (pss_cons (ps_if (pt_cmpR op_eq (pv 1) pe_int (nomark _)) (pss_one (ps_ret (pe_call (ok_cell_at T) (hr.mono (by decide)) rfl T.g_cell_at T.f_cell_at.F.kp T.f_cell_at.b .nil (passes_call (takes_of rfl rfl rfl rfl) (fun _ _ _ _ h => h)) (pa_cons (pv 0) (pa_cons (pe_ix ix_list (pv 2) pe_int (fun _ _ => rfl)) (pa_cons (pe_ix ix_list (pv 3) pe_int (fun _ _ => rfl)) pa_nil)))))) pss_nil)
    (pss_cons (ps_if (pt_cmpR op_eq (pv 1) pe_int (nomark _)) (pss_one (ps_ret (pe_call (ok_solve T) (hr.mono (by decide)) rfl T.g_solve T.f_solve.F.kp T.f_solve.b .nil (passes_call (takes_of rfl rfl rfl rfl) (fun _ _ _ _ h => h)) (pa_cons (pe_ix ix_list (pv 2) pe_int (fun _ _ => rfl)) (pa_cons (pe_ix ix_list (pv 3) pe_int (fun _ _ => rfl)) pa_nil))))) pss_nil)
    (pss_cons (ps_if (pt_cmpR op_eq (pv 1) pe_int (nomark _)) (pss_one (ps_ret (pe_call (ok_check_certificate T) (hr.mono (by decide)) rfl T.g_check_certificate T.f_check_certificate.F.kp T.f_check_certificate.b .nil (passes_call (takes_of rfl rfl rfl rfl) (fun _ _ _ _ h => h)) (pa_cons (pe_ix ix_list (pv 2) pe_int (fun _ _ => rfl)) (pa_cons (pe_ix ix_list (pv 3) pe_int (fun _ _ => rfl)) (pa_cons (pe_ix ix_list (pv 3) pe_int (fun _ _ => rfl)) pa_nil)))))) pss_nil)
    (pss_cons (ps_if (pt_cmpR op_eq (pv 1) pe_int (nomark _)) (pss_one (ps_ret (pe_call (ok_find_shared T) (hr.mono (by decide)) rfl T.g_find_shared T.f_find_shared.F.kp T.f_find_shared.b .nil (passes_call (takes_of rfl rfl rfl rfl) (fun _ _ _ _ h => h)) (pa_cons (pv 0) (pa_cons (pe_ix ix_list (pv 2) pe_int (fun _ _ => rfl)) (pa_cons (pe_ix ix_list (pv 2) pe_int (fun _ _ => rfl)) pa_nil)))))) pss_nil)
    (pss_cons (ps_if (pt_cmpR op_eq (pv 1) pe_int (nomark _)) (pss_one (ps_ret (pe_call (ok_prove_disjoint T) (hr.mono (by decide)) rfl T.g_prove_disjoint T.f_prove_disjoint.F.kp T.f_prove_disjoint.b .nil (passes_call (takes_of rfl rfl rfl rfl) (fun _ _ _ _ h => h)) (pa_cons (pv 0) (pa_cons (pe_ix ix_list (pv 2) pe_int (fun _ _ => rfl)) (pa_cons (pe_ix ix_list (pv 2) pe_int (fun _ _ => rfl)) (pa_cons (pe_ix ix_list (pv 3) pe_int (fun _ _ => rfl)) pa_nil))))))) pss_nil)
    (pss_cons (ps_if (pt_cmpR op_eq (pv 1) pe_int (nomark _)) (pss_one (ps_ret (pe_call (ok_find_repetition T) (hr.mono (by decide)) rfl T.g_find_repetition T.f_find_repetition.F.kp T.f_find_repetition.b .nil (passes_call (takes_of rfl rfl rfl rfl) (fun _ _ _ _ h => h)) (pa_cons (pv 0) (pa_cons (pe_ix ix_list (pv 2) pe_int (fun _ _ => rfl)) pa_nil))))) pss_nil)
    (pss_cons (ps_if (pt_cmpR op_eq (pv 1) pe_int (nomark _)) (pss_one (ps_ret (pe_call (ok_prove_distinct T) (hr.mono (by decide)) rfl T.g_prove_distinct T.f_prove_distinct.F.kp T.f_prove_distinct.b .nil (passes_call (takes_of rfl rfl rfl rfl) (fun _ _ _ _ h => h)) (pa_cons (pv 0) (pa_cons (pe_ix ix_list (pv 2) pe_int (fun _ _ => rfl)) (pa_cons (pe_ix ix_list (pv 3) pe_int (fun _ _ => rfl)) pa_nil)))))) pss_nil)
    (pss_one (ps_ret (pe_call (ok_small_views_answer T) (hr.mono (by decide)) rfl T.g_small_views_answer T.f_small_views_answer.F.kp T.f_small_views_answer.b .nil (passes_call (takes_of rfl rfl rfl rfl) (fun _ _ _ _ h => h)) (pa_cons (pv 0) (pa_cons (pv 1) (pa_cons (pv 2) pa_nil)))))))))))))))), ?_⟩)
  · obtain ⟨p, vs0, na, ra, s, i, ns, rs, c, rfl, _⟩ := h; rfl
  obtain ⟨p, vs0, na, ra, st, i, ns, rs, c, rfl, hS, hN, hR, hc, k⟩ := h
  cases hc with
  | c0 n h1 =>
    refine ⟨_, rfl, rfl, _, rfl, iteEq (fun _ => ?_) (fun q => absurd rfl q)⟩
    exact ⟨_, rfl, _, rfl, na, _, 0, _, rfl, rfl, .inl (.inl hN), rfl, p, vs0, st, n, rfl, hS, k⟩
  | c1 r off l h1 h2 h3 h4 =>
    iterate 1 (refine ⟨_, rfl, rfl, _, rfl, iteEq (fun q => absurd q (by decide)) (fun _ => ?_)⟩)
    obtain ⟨a, hra, ha⟩ := hR.one
    refine ⟨_, rfl, rfl, _, rfl, iteEq (fun _ => ?_) (fun q => absurd rfl q)⟩
    exact ⟨_, rfl, _, rfl, na, _, 0, _, rfl, rfl, .inl (.inl hN), rfl, _, rfl, na, _, 1, _, rfl, rfl, .inl (.inl hN), rfl, _, rfl, ra, _, 0, _, rfl, rfl, .inl (.inl hra), rfl, p, vs0, a, st, r, off, l, rfl, hS, .inl (.inl ha), by omega, h3, h2, k⟩
  | c2 r h1 =>
    iterate 2 (refine ⟨_, rfl, rfl, _, rfl, iteEq (fun q => absurd q (by decide)) (fun _ => ?_)⟩)
    refine ⟨_, rfl, rfl, _, rfl, iteEq (fun _ => ?_) (fun q => absurd rfl q)⟩
    exact ⟨_, rfl, _, rfl, na, _, 0, _, rfl, rfl, .inl (.inl hN), rfl, p, vs0, st, r, rfl, hS, k⟩
  | c3 r l h1 h2 h3 =>
    iterate 3 (refine ⟨_, rfl, rfl, _, rfl, iteEq (fun q => absurd q (by decide)) (fun _ => ?_)⟩)
    obtain ⟨a, hra, ha⟩ := hR.one
    refine ⟨_, rfl, rfl, _, rfl, iteEq (fun _ => ?_) (fun q => absurd rfl q)⟩
    exact ⟨_, rfl, _, rfl, na, _, 0, _, rfl, rfl, .inl (.inl hN), rfl, _, rfl, ra, _, 0, _, rfl, rfl, .inl (.inl hra), rfl, p, vs0, a, st, r, l, rfl, hS, .inl (.inl ha), by omega, h2, k⟩
  | c4 t l h1 h2 h3 =>
    iterate 4 (refine ⟨_, rfl, rfl, _, rfl, iteEq (fun q => absurd q (by decide)) (fun _ => ?_)⟩)
    obtain ⟨a, hra, ha⟩ := hR.one
    refine ⟨_, rfl, rfl, _, rfl, iteEq (fun _ => ?_) (fun q => absurd rfl q)⟩
    exact ⟨_, rfl, na, _, 0, _, rfl, rfl, .inl (.inl hN), rfl, _, rfl, ra, _, 0, _, rfl, rfl, .inl (.inl hra), rfl, p, vs0, a, st, t, l, rfl, hS, .inl (.inl ha), by omega, h1.t, k⟩
  | c5 t l m h1 h2 h3 h4 h5 =>
    iterate 5 (refine ⟨_, rfl, rfl, _, rfl, iteEq (fun q => absurd q (by decide)) (fun _ => ?_)⟩)
    obtain ⟨a, b, hra, ha, hb⟩ := hR.two
    refine ⟨_, rfl, rfl, _, rfl, iteEq (fun _ => ?_) (fun q => absurd rfl q)⟩
    exact ⟨_, rfl, na, _, 0, _, rfl, rfl, .inl (.inl hN), rfl, _, rfl, ra, _, 0, _, rfl, rfl, .inl (.inl hra), rfl, _, rfl, ra, _, 1, _, rfl, rfl, .inl (.inl hra), rfl, p, vs0, a, b, st, t, l, m, rfl, hS, .inl (.inl ha), by omega, .inl (.inl hb), by omega, h1.t, k⟩
  | c6 r q h1 h2 =>
    iterate 6 (refine ⟨_, rfl, rfl, _, rfl, iteEq (fun q => absurd q (by decide)) (fun _ => ?_)⟩)
    refine ⟨_, rfl, rfl, _, rfl, iteEq (fun _ => ?_) (fun q => absurd rfl q)⟩
    exact ⟨_, rfl, _, rfl, na, _, 0, _, rfl, rfl, .inl (.inl hN), rfl, _, rfl, na, _, 1, _, rfl, rfl, .inl (.inl hN), rfl, p, vs0, st, r, q, rfl, hS, k⟩
  | c7 r q m h1 h2 h3 h4 =>
    iterate 7 (refine ⟨_, rfl, rfl, _, rfl, iteEq (fun q => absurd q (by decide)) (fun _ => ?_)⟩)
    obtain ⟨a, hra, ha⟩ := hR.one
    refine ⟨_, rfl, rfl, _, rfl, iteEq (fun _ => ?_) (fun q => absurd rfl q)⟩
    exact ⟨_, rfl, _, rfl, na, _, 0, _, rfl, rfl, .inl (.inl hN), rfl, _, rfl, na, _, 1, _, rfl, rfl, .inl (.inl hN), rfl, _, rfl, ra, _, 0, _, rfl, rfl, .inl (.inl hra), rfl, p, vs0, a, st, r, q, m, rfl, hS, .inl (.inl ha), by omega, k⟩
  | c8 r h1 =>
    iterate 8 (refine ⟨_, rfl, rfl, _, rfl, iteEq (fun q => absurd q (by decide)) (fun _ => ?_)⟩)
    refine ⟨_, rfl, rfl, _, rfl, iteEq (fun _ => ?_) (fun q => absurd rfl q)⟩
    exact ⟨_, rfl, _, rfl, na, _, 0, _, rfl, rfl, .inl (.inl hN), rfl, p, vs0, st, r, rfl, hS, k⟩
  | c9 r m h1 h2 h3 =>
    iterate 9 (refine ⟨_, rfl, rfl, _, rfl, iteEq (fun q => absurd q (by decide)) (fun _ => ?_)⟩)
    obtain ⟨a, hra, ha⟩ := hR.one
    refine ⟨_, rfl, rfl, _, rfl, iteEq (fun _ => ?_) (fun q => absurd rfl q)⟩
    exact ⟨_, rfl, _, rfl, na, _, 0, _, rfl, rfl, .inl (.inl hN), rfl, _, rfl, ra, _, 0, _, rfl, rfl, .inl (.inl hra), rfl, p, vs0, a, st, r, m, rfl, hS, .inl (.inl ha), by omega, k⟩
  | c10 r x h1 h2 =>
    iterate 10 (refine ⟨_, rfl, rfl, _, rfl, iteEq (fun q => absurd q (by decide)) (fun _ => ?_)⟩)
    exact ⟨_, rfl, _, rfl, _, rfl, p, vs0, na, st, 10, _, _, _, rfl, by decide, hS, hN, .c10 r x h1 h2, k⟩
  | c11 r h1 =>
    iterate 10 (refine ⟨_, rfl, rfl, _, rfl, iteEq (fun q => absurd q (by decide)) (fun _ => ?_)⟩)
    exact ⟨_, rfl, _, rfl, _, rfl, p, vs0, na, st, 11, _, _, _, rfl, by decide, hS, hN, .c11 r h1, k⟩
  | c12 r q h1 h2 =>
    iterate 10 (refine ⟨_, rfl, rfl, _, rfl, iteEq (fun q => absurd q (by decide)) (fun _ => ?_)⟩)
    exact ⟨_, rfl, _, rfl, _, rfl, p, vs0, na, st, 12, _, _, _, rfl, by decide, hS, hN, .c12 r q h1 h2, k⟩
  | c13 r q h1 h2 =>
    iterate 10 (refine ⟨_, rfl, rfl, _, rfl, iteEq (fun q => absurd q (by decide)) (fun _ => ?_)⟩)
    exact ⟨_, rfl, _, rfl, _, rfl, p, vs0, na, st, 13, _, _, _, rfl, by decide, hS, hN, .c13 r q h1 h2, k⟩
  | c14 r h1 =>
    iterate 10 (refine ⟨_, rfl, rfl, _, rfl, iteEq (fun q => absurd q (by decide)) (fun _ => ?_)⟩)
    exact ⟨_, rfl, _, rfl, _, rfl, p, vs0, na, st, 14, _, _, _, rfl, by decide, hS, hN, .c14 r h1, k⟩
  | c15 r q h1 h2 =>
    iterate 10 (refine ⟨_, rfl, rfl, _, rfl, iteEq (fun q => absurd q (by decide)) (fun _ => ?_)⟩)
    exact ⟨_, rfl, _, rfl, _, rfl, p, vs0, na, st, 15, _, _, _, rfl, by decide, hS, hN, .c15 r q h1 h2, k⟩

/-! ### an answer or the error's code -/
def spCodeOr (K : PySem.W.Frag) (C Vw R : Addr) : Sp := fun vs H Q _ => ∃ (p vs0 na ra : Addr) (s : Vaviwc.State) (i : Nat) (ns : List Int) (rs : List (List Int)) (c : Vaviwc.Call), vs = [.ref p, .int i, .ref na, .ref ra] ∧ StoreAt C Vw H p vs0 s ∧
  H na = some (.lst (ns.map V.int)) ∧ RowsAt H ra rs ∧ IsCall i ns rs c ∧
  ∀ (H' : Hp) (vs' q : Addr), Step H H' p vs0 vs' → StoreAt C Vw H' p vs' (stateOf s (Vaviwc.outcome s c)) → H' q = some (.lst ((codeOf (Vaviwc.outcome s c)).map V.int)) → H q = none → Q (.ref q) H'
theorem ok_answer_or_code (T : Top K mg) : FnOk P w K mg base CX0 11 T.f_answer_or_code.a T.f_answer_or_code.d ["store", "operation", "numbers", "rows"] (spCodeOr K T.c_Store T.c_View T.c_Refusal) := by
  refine T.f_answer_or_code.F.ok sc_answer_or_code (fun vs H Q E h => ?_) (fun cdv A outer s H vs Q E hr h => ⟨_, pss_one (ps_try_as (i := 4) (tb := fun W => tRet (tCallS (spAnswerTo K T.c_Store T.c_View T.c_Refusal) (WE W) (tCons (tVar 0) (tCons (tVar 1) (tCons (tVar 2) (tCons (tVar 3) tNil))))))
      (ts := fun a cls d => tRet (tLst (tCons (tCode K T.c_Refusal a cls d (tVar 4)) tNil))) (Wout := fun _ _ _ _ => False) rfl rfl sc_answer_or_code.nd rfl rfl ⟨rfl, by decide, Or.inl T.base_Refusal.gR⟩ takes0
      (fun W pn xe tk _ => pss_one (ps_ret (by exact pe_callS (ok_answer_to T) (hr.mono (by decide)) rfl T.g_answer_to T.f_answer_to.F.kp T.f_answer_to.b (fun σ => passAt tk σ) (by exact (pa_cons (pv 0) (pa_cons (pv 1) (pa_cons (pv 2) (pa_cons (pv 3) pa_nil))))))))
      (fun a oe cls d pn hz hf => pss_one (ps_ret (by exact pe_lst (by exact pa_cons (pe_code hz hf (pv 4)) pa_nil))))), ?_⟩)
  · obtain ⟨p, vs0, na, ra, s, i, ns, rs, c, rfl, _⟩ := h; rfl
  obtain ⟨p, vs0, na, ra, st, i, ns, rs, c, rfl, hS, hN, hR, hc, k⟩ := h
  refine ⟨_, rfl, _, rfl, _, rfl, _, rfl, p, vs0, na, ra, st, i, ns, rs, c, rfl, hS, hN, hR, hc, fun s' l e hl H' vs' q hst hs' hq nq => ?_, fun z e C hC H' d s' hd => ?_⟩
  · rw [e] at k
    exact k H' vs' q hst hs' hq nq
  · rw [e] at k
    refine ⟨true, hC.te, fun _ a0 _ => ?_, fun q => Bool.noConfusion q⟩
    refine ⟨_, rfl, rfl, C, rfl, hC.rc, d, _, rfl, hd, one_ok, fun q hq => ?_⟩
    have s2 := s'.trans (same_new (o := .lst [.int z]) hq)
    exact k _ vs0 q (hS.step s2) (hS.same s2) upd_same (s'.free hq)
end Ov
end

section
set_option Elab.async false
set_option linter.all false
set_option maxRecDepth 100000
set_option maxHeartbeats 8000000
/-! all calls -/
namespace Ov
open PySem PySem.Spec PyProof.Rows L2
variable {P : Program} {w : World} {K : PySem.W.Frag} {mg : Str → Option Value} {base : Heap}

/-- the list handed in: it is none that the program changes -/
def ArgAt (K : PySem.W.Frag) (H : Hp) (a rq : Addr) (xs : List V) : Prop := (Rd H a (.lst xs) ∧ a ≠ rq) ∨ ∀ H' : Hp, SqL K H' a xs
theorem ArgAt.sql {H : Hp} {a rq : Addr} {xs : List V} (h : ArgAt K H a rq xs) : SqL K H a xs := by
  rcases h with ⟨h, _⟩ | h
  · exact .inl h
  · exact h H
theorem ArgAt.start {H : Hp} {a rq : Addr} {xs : List V} (h : SqL K H a xs) (n : H rq = none) : ArgAt K H a rq xs := by
  rcases h with h | h
  · refine .inl ⟨h, fun z => ?_⟩
    rcases h with h | ⟨o, h⟩
    · rw [z, n] at h; cases h
    · rw [z, n] at h; cases h
  · exact .inr fun _ => .inr h
theorem ArgAt.same {H H' : Hp} {a rq : Addr} {xs : List V} (h : ArgAt K H a rq xs) (s : Same H H') : ArgAt K H' a rq xs := by
  rcases h with ⟨h | ⟨o, h⟩, n⟩ | h
  · exact .inl ⟨.inl (s _ _ h), n⟩
  · exact .inl ⟨.inr ⟨o, s _ _ h⟩, n⟩
  · exact .inr h
theorem ArgAt.keep {H H' : Hp} {a rq : Addr} {xs : List V} (h : ArgAt K H a rq xs) (s : Keep rq H H') : ArgAt K H' a rq xs := by
  rcases h with ⟨h | ⟨o, h⟩, n⟩ | h
  · exact .inl ⟨.inl (s _ _ h n), n⟩
  · exact .inl ⟨.inr ⟨o, s _ _ h n⟩, n⟩
  · exact .inr h
/-- a call's step leaves a list of numbers -/
theorem Step.ints {C Vw : Addr} {st : Vaviwc.State} {H H' : Hp} {p vs vs' q : Addr} {ns : List Int} (k : Step H H' p vs vs') (hS : StoreAt C Vw H p vs st) (h : H q = some (.lst (ns.map V.int))) : H' q = some (.lst (ns.map V.int)) := by
  obtain ⟨dx, rs, h1, h2, h3, h4⟩ := hS.ex
  exact k.keep _ _ h (ne_of h h1 (by intro z; cases z)) (ne_of h h2 (refs_ne h3).symm)
theorem ArgAt.step {C Vw : Addr} {st : Vaviwc.State} {H H' : Hp} {p vs vs' a rq : Addr} {ns : List Int} (h : ArgAt K H a rq (ns.map V.int)) (k : Step H H' p vs vs') (hS : StoreAt C Vw H p vs st) : ArgAt K H' a rq (ns.map V.int) := by
  rcases h with ⟨h | ⟨o, h⟩, n⟩ | h
  · exact .inl ⟨.inl (k.ints hS h), n⟩
  · obtain ⟨dx, rs, h1, h2, h3, h4⟩ := hS.ex
    exact .inl ⟨.inr ⟨o, k.keep _ _ h (ne_of h h1 (by intro z; cases z)) (ne_of h h2 (by intro z; cases z))⟩, n⟩
  · exact .inr h
/-- the store stands when the list of answers grows -/
theorem StoreAt.away {C Vw : Addr} {st : Vaviwc.State} {H H' : Hp} {p vs rq : Addr} {ns : List Int} (hS : StoreAt C Vw H p vs st) (h : H rq = some (.lst (ns.map V.int))) (n : ∀ x, Parts H vs x → x ≠ rq) (k : Keep rq H H') : StoreAt C Vw H' p vs st := by
  obtain ⟨dx, rs, h1, h2, h3, h4⟩ := hS.ex
  refine ⟨⟨dx, rs, k _ _ h1 (ne_of h1 h (by intro z; cases z)), k _ _ h2 (ne_of h2 h (refs_ne h3)), h3, fun i r e => ?_⟩, hS.ok⟩
  obtain ⟨v, e2, hv⟩ := h4 i r e
  obtain ⟨dv, l, t, v1, v2, v3⟩ := hv.ex
  have m : V.ref r ∈ rs.map V.ref := List.mem_map.mpr ⟨r, List.mem_of_getElem? e, rfl⟩
  refine ⟨v, e2, dv, l, t, k _ _ v1 (ne_of v1 h (by intro z; cases z)), k _ _ v2 (n l ⟨_, r, h2, m, Vw, dv, _, v1, .inl vF_lengths⟩), k _ _ v3 (n t ⟨_, r, h2, m, Vw, dv, _, v1, .inr vF_strides⟩)⟩
theorem StoreAt.parts_away {C Vw : Addr} {st : Vaviwc.State} {H H' : Hp} {p vs rq x : Addr} {ns : List Int} (hS : StoreAt C Vw H p vs st) (h : H rq = some (.lst (ns.map V.int))) (k : Keep rq H H') (q : Parts H' vs x) : Parts H vs x := by
  obtain ⟨dx, rs, h1, h2, h3, h4⟩ := hS.ex
  obtain ⟨rs', r, g1, g2, g3⟩ := q
  rw [k _ _ h2 (ne_of h2 h (refs_ne h3))] at g1
  injection g1 with g1
  injection g1 with g1
  subst g1
  obtain ⟨r', m1, m2⟩ := List.mem_map.mp g2
  injection m2 with m2
  subst m2
  obtain ⟨i, hi⟩ := List.mem_iff_getElem?.mp m1
  obtain ⟨v, _, hv⟩ := h4 i _ hi
  obtain ⟨dv, l, t, v1, _⟩ := hv.ex
  exact ⟨_, r', h2, g2, g3.eq v1 (k _ _ v1 (ne_of v1 h (by intro z; cases z)))⟩

theorem StoreAt.part_some {C Vw : Addr} {st : Vaviwc.State} {H : Hp} {p vs x : Addr} (hS : StoreAt C Vw H p vs st) (q : Parts H vs x) : ∃ o, H x = some o := by
  obtain ⟨dx, rs, h1, h2, h3, h4⟩ := hS.ex
  obtain ⟨rs', r, g1, g2, g3⟩ := q
  rw [h2] at g1
  injection g1 with g1
  injection g1 with g1
  subst g1
  obtain ⟨r', m1, m2⟩ := List.mem_map.mp g2
  injection m2 with m2
  subst m2
  obtain ⟨i, hi⟩ := List.mem_iff_getElem?.mp m1
  obtain ⟨v, _, hv⟩ := h4 i _ hi
  obtain ⟨dv, l, t, v1, v2, v3⟩ := hv.ex
  rcases part_vF v1 g3 with e | e
  · exact ⟨_, e ▸ v2⟩
  · exact ⟨_, e ▸ v3⟩
theorem forms_at (T : Top K mg) {i : Nat} {n k : Int} (h : [((1 : Int), (0 : Int)), (2, 1), (1, 0), (1, 1), (1, 1), (1, 2), (2, 0), (2, 1), (1, 0), (1, 1), (2, 0), (1, 0), (2, 0), (2, 0), (1, 0), (2, 0)][i]? = some (n, k)) :
    ∃ q : Addr, ([.ref T.k_FORMS.q_0, .ref T.k_FORMS.q_1, .ref T.k_FORMS.q_2, .ref T.k_FORMS.q_3, .ref T.k_FORMS.q_4, .ref T.k_FORMS.q_5, .ref T.k_FORMS.q_6, .ref T.k_FORMS.q_7, .ref T.k_FORMS.q_8, .ref T.k_FORMS.q_9, .ref T.k_FORMS.q_10, .ref T.k_FORMS.q_11, .ref T.k_FORMS.q_12, .ref T.k_FORMS.q_13, .ref T.k_FORMS.q_14, .ref T.k_FORMS.q_15] : List V)[i]? = some (.ref q) ∧ ∀ H, SqT K H q [.int n, .int k] := by
  match i, h with
  | 0, h => cases h; exact ⟨_, rfl, T.k_FORMS.Q_0⟩
  | 1, h => cases h; exact ⟨_, rfl, T.k_FORMS.Q_1⟩
  | 2, h => cases h; exact ⟨_, rfl, T.k_FORMS.Q_2⟩
  | 3, h => cases h; exact ⟨_, rfl, T.k_FORMS.Q_3⟩
  | 4, h => cases h; exact ⟨_, rfl, T.k_FORMS.Q_4⟩
  | 5, h => cases h; exact ⟨_, rfl, T.k_FORMS.Q_5⟩
  | 6, h => cases h; exact ⟨_, rfl, T.k_FORMS.Q_6⟩
  | 7, h => cases h; exact ⟨_, rfl, T.k_FORMS.Q_7⟩
  | 8, h => cases h; exact ⟨_, rfl, T.k_FORMS.Q_8⟩
  | 9, h => cases h; exact ⟨_, rfl, T.k_FORMS.Q_9⟩
  | 10, h => cases h; exact ⟨_, rfl, T.k_FORMS.Q_10⟩
  | 11, h => cases h; exact ⟨_, rfl, T.k_FORMS.Q_11⟩
  | 12, h => cases h; exact ⟨_, rfl, T.k_FORMS.Q_12⟩
  | 13, h => cases h; exact ⟨_, rfl, T.k_FORMS.Q_13⟩
  | 14, h => cases h; exact ⟨_, rfl, T.k_FORMS.Q_14⟩
  | 15, h => cases h; exact ⟨_, rfl, T.k_FORMS.Q_15⟩
  | i + 16, h => cases h

/-- where the loop stands -/
structure LoopAt (K : PySem.W.Frag) (C Vw a p rq : Addr) (l : List Int) (H : Hp) (pl : Nat) : Prop where
  ex : ∃ (s : Vaviwc.State) (vs : Addr) (f : Nat) (cs : List (List (List Int))) (done : List Int), StoreAt C Vw H p vs s ∧ H rq = some (.lst (done.map V.int)) ∧ (∀ x, Parts H vs x → x ≠ rq) ∧ pl ≤ l.length ∧
    PyFlat.calls PyVaviwc.shape f (l.drop pl) = some cs ∧ (∀ c ∈ cs, VaviwcNeutral.asked1 c = true) ∧
    done ++ PyFlat.told (PyFlat.played VaviwcNeutral.step s cs) = PyVaviwc.answers l
  arg : ArgAt K H a rq (l.map V.int)
def spAnswers (K : PySem.W.Frag) : Sp := fun vs H Q _ => ∃ (a : Addr) (l : List Int) (cs : List (List (List Int))), vs = [.ref a] ∧ SqL K H a (l.map V.int) ∧ l.length ≤ 100000 ∧ Ask l cs ∧
  ∀ (H' : Hp) (q : Addr), H' q = some (.lst ((PyVaviwc.answers l).map V.int)) → Q (.ref q) H'
theorem ok_answers (T : Top K mg) : FnOk P w K mg base CX0 12 T.f_answers.a T.f_answers.d ["calls"] (spAnswers K) := by
  refine T.f_answers.F.ok sc_answers (fun vs H Q E h => ?_) (fun cdv A outer s H vs Q E hr h => ⟨_, (pss_cons (ps_set (i := 1) sc_answers.nd rfl (Or.inl rfl) (pe_make0 T.mk_Store (ok_Store_init T) (hr.mono (by decide)) rfl T.l_Store.g T.f_Store_init.b .nil pass0))
    (pss_cons (ps_set (i := 2) sc_answers.nd rfl (Or.inl rfl) (pe_lst pa_nil))
    (pss_cons (ps_set (i := 3) sc_answers.nd rfl (Or.inl rfl) pe_int)
    (pss_cons (ps_while PassesOwn.never (pt_cmpR op_lt (pv 3) (pe_callB call_len_seq (by rfl) T.b_len PySem.boot_len (pa_cons (pv 0) pa_nil)) (nomark _)) (pss_cons (ps_set (i := 4) sc_answers.nd rfl (Or.inl rfl) (pe_ix ix_list (pv 0) (pv 3) (fun _ _ => rfl)))
    (pss_cons (ps_asg (pe_ix ix_tup (pe_glob (v := .ref T.k_FORMS.a) rfl T.k_FORMS.g rfl) (pv 4) (fun _ _ => rfl)) (pg_tup (by rfl) (pgs_cons (pg_name (i := 5) sc_answers.nd rfl (Or.inl rfl)) (pgs_cons (pg_name (i := 6) sc_answers.nd rfl (Or.inl rfl)) pgs_nil))))
    (pss_cons (ps_set (i := 7) sc_answers.nd rfl (Or.inl rfl) (pe_op op_add (pe_op op_add (pv 3) pe_int) (pv 5)))
    (pss_cons (ps_set (i := 8) sc_answers.nd rfl (Or.inl rfl) (pe_slice sl_list (pv 0) (po_some (pe_op op_add (pv 3) pe_int)) (po_some (pv 7))))
    (pss_cons (ps_asg (pe_call (ok_read_rows T) (hr.mono (by decide)) rfl T.g_read_rows T.f_read_rows.F.kp T.f_read_rows.b .nil pass0 (pa_cons (pv 0) (pa_cons (pv 7) (pa_cons (pv 6) pa_nil)))) (pg_tup (by rfl) (pgs_cons (pg_name (i := 9) sc_answers.nd rfl (Or.inl rfl)) (pgs_cons (pg_name (i := 3) sc_answers.nd rfl (Or.inl rfl)) pgs_nil))))
    (pss_cons (ps_set (i := 10) sc_answers.nd rfl (Or.inl rfl) (pe_call (ok_answer_or_code T) (hr.mono (by decide)) rfl T.g_answer_or_code T.f_answer_or_code.F.kp T.f_answer_or_code.b .nil pass0 (pa_cons (pv 1) (pa_cons (pv 4) (pa_cons (pv 8) (pa_cons (pv 9) pa_nil))))))
    (pss_cons (ps_expr (pe_bm PySem.F.plainAttrs_list PySem.F.slot_list_append PySem.F.type_list_append mt_append (pv 2) (pa_cons (pe_callB call_len_seq (by rfl) T.b_len PySem.boot_len (pa_cons (pv 10) pa_nil)) pa_nil)))
    (pss_one (ps_expr (pe_bm PySem.F.plainAttrs_list PySem.F.slot_list_extend PySem.F.type_list_extend mt_extend (pv 2) (pa_cons (pv 10) pa_nil))))))))))))
    (pss_one (ps_ret (pv 2))))))), ?_⟩)
  · obtain ⟨a, l, cs, rfl, _⟩ := h; rfl
  obtain ⟨a, l, cs0, rfl, hA, hl, hask, k⟩ := h
  intro p dx np nd ne
  refine ⟨p, dx, rfl, upd_same, fun H1 vs k1 hS1 hn1 hx1 => ⟨rfl, ?_⟩⟩
  have s1 := keep_same (new_box np nd) np k1
  refine ⟨Nat.zero_le _, fun rq hrq => ?_⟩
  have s2 : Same H1 (upd H1 rq (.lst [])) := same_new hrq
  have hA2 := (ArgAt.start (s1.seq hA) hrq).same s2
  have short := hask.short
  rw [← hask.out] at short
  refine ⟨fun m σ H' => ∃ (pl : Nat) (u4 u5 u6 u7 u8 u9 u10 : Option V), σ = [some (.ref a), some (.ref p), some (.ref rq), some (.int pl), u4, u5, u6, u7, u8, u9, u10] ∧ m = l.length - pl ∧ LoopAt K T.c_Store T.c_View a p rq l H' pl,
    ⟨l.length, 0, none, none, none, none, none, none, none, rfl, rfl, ⟨⟨_, vs, l.length, cs0, [], hS1.same s2, upd_same, fun x hx e => ?_, Nat.zero_le _, by rw [List.drop_zero]; exact hask.parse, hask.all, hask.out.symm⟩, hA2⟩⟩, ?_⟩
  · obtain ⟨o, ho⟩ := hS1.part_some (hS1.back s2 hx)
    rw [e, hrq] at ho; cases ho
  · rintro m σ H2 ⟨pl, u4, u5, u6, u7, u8, u9, u10, rfl, rfl, hL⟩
    obtain ⟨⟨st, vs2, f, cs, done, hS, hR, hP, hpl, hcs, hall, htold⟩, hA3⟩ := hL
    refine ⟨_, rfl, _, rfl, a, _, rfl, .inl hA3.sql, _, _, rfl, rfl, _, rfl, iteD (fun q => ?_) (fun q => ?_)⟩
    · rw [List.length_map] at q
      have hlt : pl < l.length := by omega
      obtain ⟨z, r, hzr⟩ : ∃ z r, l.drop pl = z :: r := ⟨_, _, List.drop_eq_getElem_cons hlt⟩
      rw [hzr] at hcs
      obtain ⟨g1, g2, _⟩ := drop_cons hzr
      obtain ⟨f', c, t, cs', hc1, hc2, rfl⟩ := calls_cons hcs
      obtain ⟨n, kk, xs, hsh, hn, hrows, hcx⟩ := call_some hc1
      obtain ⟨z0, z16, hform⟩ := shape_is hsh
      obtain ⟨ci, ns, rs, kc, hce, hcall, hic⟩ := is_call (hall c List.mem_cons_self)
      rw [hcx] at hce
      injection hce with e1 e2
      injection e1 with e1 e3
      subst e1 e2 e3
      have kk2 : kk ≤ 2 := by
        have := List.mem_of_getElem? hform
        simp only [List.mem_cons, Prod.mk.injEq, List.not_mem_nil, or_false] at this
        omega
      have rl : r.length = l.length - (pl + 1) := by rw [g2, List.length_drop]
      have hrt := rows_len _ _ _ _ hrows
      rw [List.length_drop] at hrt
      obtain ⟨fq, hf1, hf2⟩ := forms_at T (by rw [Int.toNat_natCast] at hform; exact hform)
      have hrows' : PyFlat.rows kk (l.drop (pl + 1 + n)) = some (xs, t) := by rw [← hrows, g2, List.drop_drop]
      refine ⟨fun σ' H' => ∃ m', m' < l.length - pl ∧ ∃ (pl : Nat) (u4 u5 u6 u7 u8 u9 u10 : Option V), σ' = [some (.ref a), some (.ref p), some (.ref rq), some (.int pl), u4, u5, u6, u7, u8, u9, u10] ∧ m' = l.length - pl ∧ LoopAt K T.c_Store T.c_View a p rq l H' pl, fun _ _ q => q, ?_⟩
      refine ⟨_, rfl, _, rfl, a, _, _, V.int ci, rfl, rfl, hA3.sql, at_of rfl (by rw [List.getElem?_map, g1]; rfl), ?_⟩
      refine ⟨_, rfl, _, _, _, V.ref fq, rfl, rfl, T.k_FORMS.Q H2, at_of rfl hf1, fq, _, rfl, hf2 H2, rfl, _, _, rfl, _, _, rfl, rfl, ?_⟩
      have er : (pl : Int) + 1 + (n : Int) = ((pl + 1 + n : Nat) : Int) := by omega
      have e2 : (pl : Int) + 1 = ((pl + 1 : Nat) : Int) := by omega
      refine ⟨_, rfl, _, _, rfl, rfl, _, rfl, _, _, rfl, rfl, ?_⟩
      refine slots (σ' := [some (.ref a), some (.ref p), some (.ref rq), some (.int pl), some (.int ci), some (.int n), some (.int kk), some (.int ((pl + 1 + n : Nat) : Int)), u8, u9, u10]) (by rw [← er]; rfl) ?_
      refine ⟨_, rfl, _, rfl, _, _, rfl, rfl, _, rfl, _, rfl, _, rfl, a, _, rfl, hA3.sql, fun nq hnq => ?_⟩
      rw [e2, cut_mid l _ _ (by omega) (by omega)]
      have hnum : pl + 1 + n - (pl + 1) = n := by omega
      rw [hnum, ← g2]
      have s3 : Same H2 (upd H2 nq (.lst ((r.take n).map V.int))) := same_new hnq
      have n3 : (upd H2 nq (.lst ((r.take n).map V.int))) nq = some (.lst ((r.take n).map V.int)) := upd_same
      generalize upd H2 nq (.lst ((r.take n).map V.int)) = H3 at s3 n3 ⊢
      refine ⟨_, rfl, _, rfl, _, rfl, a, pl + 1 + n, kk, l, t, xs, rfl, (hA3.same s3).sql, by omega, by omega, by omega, hrows', fun H4 T4 rl4 pl4 s4 hT4 hrw4 ht4 hpl4 => ?_⟩
      refine ⟨T4, _, rfl, .inl (.inl hT4), rfl, _, _, rfl, _, _, rfl, rfl, ?_⟩
      have s34 := s3.trans s4
      have hS4 := hS.same s34
      have hR4 := s34 _ _ hR
      refine ⟨_, rfl, _, rfl, _, rfl, _, rfl, p, vs2, nq, rl4, st, ci, r.take n, xs, kc, rfl, hS4, s4 _ _ n3, hrw4, hic, fun H5 vs5 q5 hst5 hS5 hq5 nq5 => ?_⟩
      have hR5 := hst5.ints hS4 hR4
      have hA5 := (hA3.same s34).step hst5 hS4
      have q5n : q5 ≠ rq := fun e => by rw [e, hR4] at nq5; cases nq5
      have hP5 : ∀ x, Parts H5 vs5 x → x ≠ rq := fun x hx e => by
        rcases hst5.parts x hx with h | h
        · exact hP x (hS.back s34 h) e
        · rw [e, hR4] at h; cases h
      have htl : t.length = l.length - pl4 := by rw [ht4, List.length_drop]
      have told2 : (done ++ (((codeOf (Vaviwc.outcome st kc)).length : Int) :: codeOf (Vaviwc.outcome st kc))) ++ PyFlat.told (PyFlat.played VaviwcNeutral.step (stateOf st (Vaviwc.outcome st kc)) cs') = PyVaviwc.answers l := by
        rw [← htold, played_cons, told_cons, step_is hcall, List.append_assoc]
      have sh2 : done.length + (codeOf (Vaviwc.outcome st kc)).length + 1 ≤ 10000000 := by
        rw [← told2, List.length_append, List.length_append, List.length_cons] at short
        omega
      refine ⟨_, rfl, .inl ⟨rfl, _, .inl (.inl hR5)⟩, _, rfl, q5, _, rfl, .inl (.inl (.inl hq5)), rq, _, _, rfl, rfl, hR5, by rw [List.length_map, sizeLine_eq]; omega, ?_⟩
      have k6 : Keep rq H5 (upd H5 rq (.lst (done.map V.int ++ [.int (((codeOf (Vaviwc.outcome st kc)).map V.int).length : Int)]))) := Keep.upd
      have r6 : (upd H5 rq (.lst (done.map V.int ++ [.int (((codeOf (Vaviwc.outcome st kc)).map V.int).length : Int)]))) rq = some (.lst (done.map V.int ++ [.int (((codeOf (Vaviwc.outcome st kc)).map V.int).length : Int)])) := upd_same
      generalize upd H5 rq (.lst (done.map V.int ++ [.int (((codeOf (Vaviwc.outcome st kc)).map V.int).length : Int)])) = H6 at k6 r6 ⊢
      refine ⟨_, rfl, .inl ⟨rfl, _, .inl (.inl r6)⟩, _, rfl, rq, q5, _, _, rfl, rfl, r6, k6 _ _ hq5 q5n, ?_, ?_⟩
      · rw [List.length_append, List.length_map, List.length_map, sizeLine_eq]
        show done.length + 1 + _ ≤ _
        omega
      · have k7 := k6.trans (Keep.upd (o := .lst ((done.map V.int ++ [.int (((codeOf (Vaviwc.outcome st kc)).map V.int).length : Int)]) ++ (codeOf (Vaviwc.outcome st kc)).map V.int)))
        have r7 : (upd H6 rq (.lst ((done.map V.int ++ [.int (((codeOf (Vaviwc.outcome st kc)).map V.int).length : Int)]) ++ (codeOf (Vaviwc.outcome st kc)).map V.int))) rq = some (.lst ((done ++ (((codeOf (Vaviwc.outcome st kc)).length : Int) :: codeOf (Vaviwc.outcome st kc))).map V.int)) := by
          rw [upd_same, List.length_map, List.map_append, List.append_assoc]; rfl
        refine ⟨l.length - pl4, by omega, pl4, _, _, _, _, _, _, _, rfl, rfl, ⟨⟨_, vs5, f', cs', _, hS5.away hR5 hP5 k7, r7, fun x hx => hP5 x (hS5.parts_away hR5 k7 hx), hpl4, by rw [← ht4]; exact hc2, fun c hc => hall c (List.mem_cons_of_mem _ hc), told2⟩, hA5.keep k7⟩⟩
    · rw [List.length_map] at q
      have : l.drop pl = [] := List.drop_eq_nil_of_le (by omega)
      rw [this] at hcs
      obtain rfl := calls_nil hcs
      have ht : done = PyVaviwc.answers l := by rw [← htold]; exact (List.append_nil done).symm
      rw [ht] at hR
      exact ⟨_, rfl, k _ _ hR⟩
end Ov
end

section
set_option Elab.async false
set_option linter.all false
set_option maxRecDepth 100000
set_option maxHeartbeats 8000000
/-! What the head tells; the program's top made of it. Printed by mkend.py. -/
namespace Ov
open PySem PySem.Spec PyProof.Rows L2

/-! ### words -/
theorem ic_of {mg : Str → Option Value} {x : Str} {n : Int} (h : ∃ t, mg x = some (.int n t)) : ∃ v, mg x = some v ∧ RelV (.int n) v := by
  obtain ⟨t, e⟩ := h
  exact ⟨_, e, ⟨t, rfl⟩⟩
noncomputable def mkIc {mg : Str → Option Value} {x : Str} {n : Int} (h : ∃ v, mg x = some v ∧ RelV (.int n) v) : Ic mg x n := ⟨h.choose, h.choose_spec.1, h.choose_spec.2⟩
noncomputable def mkDf {K : PySem.W.Frag} {x q : Str} {st : Stmt} {ps : List Str} (p : Str × Option Str) (h : ∃ fd, Fun K x q st (He.fAd K p) fd ∧ Binds K fd ps []) : Df K x q st ps :=
  ⟨He.fAd K p, h.choose, h.choose_spec.1, h.choose_spec.2⟩
theorem mk_d {K : PySem.W.Frag} {x q : Str} {st : Stmt} {ps : List Str} {f : Addr}
    (h : ∃ oc od osl kV doc pm an cdv ct, K.lookup f = some ⟨oc, od, .func (PySem.W.fnOf x q (defArgs st) (defBody st) (defScope st) .none kV doc pm an cdv ct), osl⟩ ∧ PySem.W.codeIn K cdv q = true)
    (kp : PySem.W.keepIn K (.ref f) = true)
    (hb : ∀ (kV doc pm : Value) (an : Option Addr) (cdv ct : Value) (us : List Value), us.length = ps.length → bindArgs (PySem.W.fnOf x q (defArgs st) (defBody st) (defScope st) .none kV doc pm an cdv ct) ⟨us, []⟩ = pure (ps.zip us)) :
    ∃ fd, Fun K x q st f fd ∧ Binds K fd ps [] := by
  obtain ⟨oc, od, osl, kV, doc, pm, an, cdv, ct, l, c⟩ := h
  exact ⟨_, fun_mk l c kp, (fun_mk l c kp).binds hb⟩
/-! ### tables of tables -/
def itA (K : PySem.W.Frag) (a : Addr) (i : Nat) : Addr :=
  match K.lookup a with
  | some ⟨_, _, .seq its _, _⟩ => (match its.toList[i]? with | some (.ref b) => b | _ => 0)
  | _ => 0
def tupAtB (K : PySem.W.Frag) (a : Addr) (vs : List V) : Bool :=
  match K.lookup a with
  | some ⟨c, _, .seq its _, _⟩ => decide (c = .type "tuple") && (decide (its.size ≤ 1000) && He.relAll vs its.toList)
  | _ => false
theorem tupAt_ok {K : PySem.W.Frag} {a : Addr} {vs : List V} (h : tupAtB K a vs = true) (H : Hp) : SqT K H a vs := by
  unfold tupAtB at h
  split at h
  · rename_i c d its n sl ho
    simp only [Bool.and_eq_true, decide_eq_true_eq] at h
    refine .inr ⟨_, its, n, ho, h.1, rfl, ?_, He.relAll_ok h.2.2⟩
    rw [sizeLine_eq]
    have := h.2.1
    omega
  · cases h
def tabB (K : PySem.W.Frag) (a : Addr) (rows : List (List V)) : Bool :=
  tupAtB K a ((List.range rows.length).map fun i => .ref (itA K a i)) && (List.range rows.length).all fun i => tupAtB K (itA K a i) (rows.getD i [])
theorem tab_ok {K : PySem.W.Frag} {a : Addr} {rows : List (List V)} (h : tabB K a rows = true) :
    (∀ H : Hp, SqT K H a ((List.range rows.length).map fun i => .ref (itA K a i))) ∧ ∀ i, i < rows.length → ∀ H : Hp, SqT K H (itA K a i) (rows.getD i []) := by
  unfold tabB at h
  rw [Bool.and_eq_true] at h
  exact ⟨fun H => tupAt_ok h.1 H, fun i hi H => tupAt_ok (List.all_eq_true.mp h.2 i (List.mem_range.mpr hi)) H⟩
theorem tabrow {K : PySem.W.Frag} {a : Addr} {rows : List (List V)} {r : List V} (h : tabB K a rows = true) (i : Nat) (e : rows[i]? = some r) (H : Hp) : SqT K H (itA K a i) r := by
  have hi := (List.getElem?_eq_some_iff.mp e).1
  have := (tab_ok h).2 i hi H
  rw [List.getD_eq_getElem?_getD, e] at this
  exact this
/-! ### errors -/
def clsB (K : PySem.W.Frag) (R C : Addr) : Bool :=
  match K.lookup C with
  | some ⟨t, _, .cls cd, sl⟩ => decide (t = .type "type") && (decide (cd.mro = .ref C :: .ref R :: exEnd) && (cd.hasDict && (!cd.hasDel && (match sl.toList with | [_, _, _, _, z, _] => decide (z = some (.builtin "Exception.__new__")) | _ => false))))
  | _ => false
theorem clsB_ok {K : PySem.W.Frag} {R C : Addr} (h : clsB K R C = true) : ∃ nm q N bs sn sub ab col dd k0 k1 k2 k3 k5,
    K.lookup C = some (excClassObj nm q C N bs (.ref R :: exEnd) true sn sub ab col dd k0 k1 k2 k3 k5 "Exception.__new__") := by
  unfold clsB at h
  split at h
  · rename_i t dd cd sl ho
    simp only [Bool.and_eq_true, decide_eq_true_eq] at h
    obtain ⟨h1, h2, h3, h4, h5⟩ := h
    split at h5
    · rename_i k0 k1 k2 k3 z k5 hs
      obtain ⟨l⟩ := sl
      have hs : l = [k0, k1, k2, k3, z, k5] := hs
      obtain ⟨nm, bs, mro, ns, qn, hd, sn, sub, ab, col, del⟩ := cd
      have h2 : mro = .ref C :: .ref R :: exEnd := h2
      have h3 : hd = true := h3
      have hdl : del = false := by
        cases del with
        | true => cases h4
        | false => rfl
      clear h4
      subst h1 h2 h3 hdl hs
      have h5 : z = some (.builtin "Exception.__new__") := of_decide_eq_true h5
      subst h5
      exact ⟨nm, qn, ns, bs, sn, sub, ab, col, dd, k0, k1, k2, k3, k5, ho⟩
    · cases h5
  · cases h
def errB (K : PySem.W.Frag) (x : Str) : Bool :=
  let C := He.ga K x
  let R := He.ga K "Refusal"
  clsB K R C && (He.eqO (PySem.W.nsIn K PySem.mainGlobals x) (some (some (.ref C))) && (He.eqO (PySem.W.findIn K (.ref C) "__setattr__") (some (some (.builtin "object.__setattr__"))) &&
    (He.eqO (PySem.W.findIn K (.ref C) "code") (some none) && (He.eqO (PySem.W.findIn K (.ref C) "__getattribute__") (some (some (.builtin "BaseException.__getattribute__"))) &&
    (He.eqO (PySem.W.findIn K (.ref C) "__getattr__") (some none) && (PySem.W.hasDictIn K C && (decide (PySem.W.subIn K (.ref C) (.type "BaseException") = some true) &&
    (decide (PySem.W.typeIn K (.ref C) = some (.type "type")) && (PySem.W.keepIn K (.ref C) && (He.eqO (PySem.W.findIn K (.ref C) "__init__") (some (some (.ref (He.ma K C "__init__")))) &&
    (decide (PySem.W.typeIn K (.ref (He.ma K C "__init__")) = some (.type "function")) && decide (PySem.W.exmOne K (.ref C) (.ref R) = some true))))))))))))
theorem err_ok {K : PySem.W.Frag} {h : Heap} {mg : Str → Option Value} (X : K.In h) (G : h.Ns PySem.mainGlobals mg) {x : Str} (c : errB K x = true) :
    SubC K mg (He.ga K "Refusal") (He.ga K x) (He.ma K (He.ga K x) "__init__") x := by
  have c : (_ && (_ && (_ && (_ && (_ && (_ && (_ && (_ && (_ && (_ && (_ && (_ && _)))))))))))) = true := c
  simp only [Bool.and_eq_true, decide_eq_true_eq] at c
  obtain ⟨c1, c2, c3, c4, c5, c6, c7, c8, c9, c10, c11, c12, c13⟩ := c
  exact ⟨⟨clsB_ok c1, He.eqO_ok c3, He.eqO_ok c4, He.eqO_ok c5, He.eqO_ok c6, c7, c8, c9, c10⟩, PySem.W.mg_of X G (He.eqO_ok c2), He.eqO_ok c11, c12, c13⟩
def baseB (K : PySem.W.Frag) : Bool :=
  let R := He.ga K "Refusal"
  PySem.W.readsIn K R (.type "type") && (He.eqO (PySem.W.specialIn K (.ref R) "__getattribute__") (some (some (.builtin "type.__getattribute__"))) &&
    ((match PySem.W.findCls K (.ref R) (.type "type") "__init__" with | some (.val u) => decide (u = .ref (He.ma K R "__init__")) | _ => false) && PySem.W.keepIn K (.ref (He.ma K R "__init__"))))
theorem base_ok {K : PySem.W.Frag} {h : Heap} {mg : Str → Option Value} (X : K.In h) (G : h.Ns PySem.mainGlobals mg) (c : baseB K = true) (g : (He.Fa.glo "Refusal").ok K = true) :
    BaseC K mg (He.ga K "Refusal") (He.ma K (He.ga K "Refusal") "__init__") (.type "type") := by
  have c : (_ && (_ && ((match PySem.W.findCls K (.ref (He.ga K "Refusal")) (.type "type") "__init__" with | some (.val u) => decide (u = .ref (He.ma K (He.ga K "Refusal") "__init__")) | _ => false) && _))) = true := c
  rw [Bool.and_eq_true, Bool.and_eq_true, Bool.and_eq_true] at c
  obtain ⟨c1, c2, c3, c4⟩ := c
  refine ⟨He.glo_ok X G g, ⟨c1, He.eqO_ok c2⟩, ⟨?_, rfl⟩, c4⟩
  split at c3
  · rename_i u hu
    rw [hu, of_decide_eq_true c3]
  · cases c3
def eFa_0 : List He.Fa := [.free "len",
  .free "max",
  .free "min",
  .free "enumerate",
  .free "sum",
  .free "all",
  .free "zip",
  .free "range",
  .free "abs",
  .free "list",
  .free "any",
  .int "BISECTION" (0),
  .int "BY_RANGE" (1),
  .int "BY_DIVISIBILITY" (2),
  .int "BY_PAIR" (3),
  .int "GREATEST" (1000000000000000000),
  .int "REGISTER_COUNT" (6),
  .int "AXIS_LIMIT" (6),
  .int "VARIABLE_LIMIT" (8),
  .int "ELEMENT_LIMIT" (400)]
def eFa_1 : List He.Fa := [.int "BOX_LIMIT" (2000),
  .glo "FORMS",
  .cls "Box",
  .glo "Box",
  .noat "Box" "equation",
  .noat "Box" "fixed",
  .noat "Box" "lower",
  .noat "Box" "upper",
  .noat "Box" "rest",
  .cls "Equation",
  .glo "Equation",
  .noat "Equation" "target",
  .noat "Equation" "width",
  .noat "Equation" "lacks_values",
  .noat "Equation" "places",
  .noat "Equation" "coefficients",
  .noat "Equation" "uppers",
  .noat "Equation" "least_tails",
  .noat "Equation" "greatest_tails",
  .noat "Equation" "divisors"]
def eFa_2 : List He.Fa := [.noat "Equation" "pair_modulus",
  .noat "Equation" "pair_inverse",
  .cls "View",
  .glo "View",
  .noat "View" "size",
  .noat "View" "lengths",
  .noat "View" "offset",
  .noat "View" "strides",
  .cls "Store",
  .glo "Store",
  .noat "Store" "array_length",
  .noat "Store" "views",
  .glo "common_divisor",
  .glo "inverse_for",
  .glo "ceiling_quotient",
  .mkr "Box",
  .meth "Box" "free_count",
  .meth "Box" "fails_range",
  .meth "Box" "fails_divisibility",
  .meth "Box" "fails_pair"]
def eFa_3 : List He.Fa := [.meth "Box" "halves",
  .glo "whole_box",
  .glo "box_after",
  .glo "narrowed",
  .glo "least_values",
  .glo "least_pair",
  .glo "Refusal",
  .glo "search",
  .glo "push_halves",
  .glo "separated",
  .glo "is_one_certificate",
  .glo "is_valid",
  .glo "is_true_claim",
  .mkr "Equation",
  .meth "Equation" "prepare_pair",
  .meth "Equation" "full_solution",
  .glo "free_places",
  .glo "tail_sums",
  .glo "shared_equation",
  .glo "repetition_axes"]
def eFa_4 : List He.Fa := [.glo "repetition_equation",
  .glo "represented_differences",
  .mkr "View",
  .glo "product",
  .glo "whole_view",
  .glo "lies_within",
  .glo "is_index",
  .glo "cell_of",
  .glo "set_length",
  .glo "set_view",
  .glo "get_view",
  .glo "cell_at",
  .glo "solve",
  .glo "check_certificate",
  .glo "find_shared",
  .glo "prove_disjoint",
  .glo "find_repetition",
  .glo "prove_distinct",
  .glo "view_from",
  .glo "equation_from"]
def eFa_5 : List He.Fa := [.glo "is_pairs",
  .glo "validity",
  .glo "counted",
  .glo "elements_with_cell",
  .glo "cell_statistics",
  .glo "shared_statistics",
  .glo "first_shared_pair",
  .glo "first_repeated",
  .glo "is_covered",
  .glo "two_lists",
  .glo "listed_cells",
  .glo "numbers_by_cell",
  .mkr "Store",
  .meth "Store" "resize",
  .meth "Store" "require",
  .meth "Store" "view_in",
  .meth "Store" "put_view",
  .glo "answers",
  .glo "read_rows",
  .glo "answer_or_code"]
def eFa_6 : List He.Fa := [.glo "answer_to",
  .glo "small_views_answer"]
def eFa : List He.Fa := eFa_0 ++ eFa_1 ++ eFa_2 ++ eFa_3 ++ eFa_4 ++ eFa_5 ++ eFa_6
def eFn_0 : List He.FnD := [⟨("common_divisor", none), "common_divisor", "common_divisor", defArgs s_common_divisor, defBody s_common_divisor, defScope s_common_divisor⟩,
  ⟨("inverse_for", none), "inverse_for", "inverse_for", defArgs s_inverse_for, defBody s_inverse_for, defScope s_inverse_for⟩,
  ⟨("ceiling_quotient", none), "ceiling_quotient", "ceiling_quotient", defArgs s_ceiling_quotient, defBody s_ceiling_quotient, defScope s_ceiling_quotient⟩,
  ⟨("Box", some "__init__"), "__init__", "Box.__init__", defArgs s_Box_init, defBody s_Box_init, defScope s_Box_init⟩,
  ⟨("Box", some "free_count"), "free_count", "Box.free_count", defArgs s_Box_free_count, defBody s_Box_free_count, defScope s_Box_free_count⟩,
  ⟨("Box", some "fails_range"), "fails_range", "Box.fails_range", defArgs s_Box_fails_range, defBody s_Box_fails_range, defScope s_Box_fails_range⟩,
  ⟨("Box", some "fails_divisibility"), "fails_divisibility", "Box.fails_divisibility", defArgs s_Box_fails_divisibility, defBody s_Box_fails_divisibility, defScope s_Box_fails_divisibility⟩,
  ⟨("Box", some "fails_pair"), "fails_pair", "Box.fails_pair", defArgs s_Box_fails_pair, defBody s_Box_fails_pair, defScope s_Box_fails_pair⟩,
  ⟨("Box", some "halves"), "halves", "Box.halves", defArgs s_Box_halves, defBody s_Box_halves, defScope s_Box_halves⟩,
  ⟨("whole_box", none), "whole_box", "whole_box", defArgs s_whole_box, defBody s_whole_box, defScope s_whole_box⟩,
  ⟨("box_after", none), "box_after", "box_after", defArgs s_box_after, defBody s_box_after, defScope s_box_after⟩,
  ⟨("narrowed", none), "narrowed", "narrowed", defArgs s_narrowed, defBody s_narrowed, defScope s_narrowed⟩,
  ⟨("least_values", none), "least_values", "least_values", defArgs s_least_values, defBody s_least_values, defScope s_least_values⟩,
  ⟨("least_pair", none), "least_pair", "least_pair", defArgs s_least_pair, defBody s_least_pair, defScope s_least_pair⟩,
  ⟨("Refusal", some "__init__"), "__init__", "Refusal.__init__", defArgs s_Refusal_init, defBody s_Refusal_init, defScope s_Refusal_init⟩,
  ⟨("NoSuchRegister", some "__init__"), "__init__", "NoSuchRegister.__init__", defArgs s_NoSuchRegister_init, defBody s_NoSuchRegister_init, defScope s_NoSuchRegister_init⟩]
def eFn_1 : List He.FnD := [⟨("ArrayLengthOutOfRange", some "__init__"), "__init__", "ArrayLengthOutOfRange.__init__", defArgs s_ArrayLengthOutOfRange_init, defBody s_ArrayLengthOutOfRange_init, defScope s_ArrayLengthOutOfRange_init⟩,
  ⟨("NotAnIndex", some "__init__"), "__init__", "NotAnIndex.__init__", defArgs s_NotAnIndex_init, defBody s_NotAnIndex_init, defScope s_NotAnIndex_init⟩,
  ⟨("NotAxes", some "__init__"), "__init__", "NotAxes.__init__", defArgs s_NotAxes_init, defBody s_NotAxes_init, defScope s_NotAxes_init⟩,
  ⟨("AxisLengthOutOfRange", some "__init__"), "__init__", "AxisLengthOutOfRange.__init__", defArgs s_AxisLengthOutOfRange_init, defBody s_AxisLengthOutOfRange_init, defScope s_AxisLengthOutOfRange_init⟩,
  ⟨("ViewTooLarge", some "__init__"), "__init__", "ViewTooLarge.__init__", defArgs s_ViewTooLarge_init, defBody s_ViewTooLarge_init, defScope s_ViewTooLarge_init⟩,
  ⟨("CellOutsideArray", some "__init__"), "__init__", "CellOutsideArray.__init__", defArgs s_CellOutsideArray_init, defBody s_CellOutsideArray_init, defScope s_CellOutsideArray_init⟩,
  ⟨("NotVariables", some "__init__"), "__init__", "NotVariables.__init__", defArgs s_NotVariables_init, defBody s_NotVariables_init, defScope s_NotVariables_init⟩,
  ⟨("VariableOutOfRange", some "__init__"), "__init__", "VariableOutOfRange.__init__", defArgs s_VariableOutOfRange_init, defBody s_VariableOutOfRange_init, defScope s_VariableOutOfRange_init⟩,
  ⟨("SearchLimitExceeded", some "__init__"), "__init__", "SearchLimitExceeded.__init__", defArgs s_SearchLimitExceeded_init, defBody s_SearchLimitExceeded_init, defScope s_SearchLimitExceeded_init⟩,
  ⟨("TooManyElements", some "__init__"), "__init__", "TooManyElements.__init__", defArgs s_TooManyElements_init, defBody s_TooManyElements_init, defScope s_TooManyElements_init⟩,
  ⟨("NotOneCertificate", some "__init__"), "__init__", "NotOneCertificate.__init__", defArgs s_NotOneCertificate_init, defBody s_NotOneCertificate_init, defScope s_NotOneCertificate_init⟩,
  ⟨("search", none), "search", "search", defArgs s_search, defBody s_search, defScope s_search⟩,
  ⟨("push_halves", none), "push_halves", "push_halves", defArgs s_push_halves, defBody s_push_halves, defScope s_push_halves⟩,
  ⟨("separated", none), "separated", "separated", defArgs s_separated, defBody s_separated, defScope s_separated⟩,
  ⟨("is_one_certificate", none), "is_one_certificate", "is_one_certificate", defArgs s_is_one_certificate, defBody s_is_one_certificate, defScope s_is_one_certificate⟩,
  ⟨("is_valid", none), "is_valid", "is_valid", defArgs s_is_valid, defBody s_is_valid, defScope s_is_valid⟩]
def eFn_2 : List He.FnD := [⟨("is_true_claim", none), "is_true_claim", "is_true_claim", defArgs s_is_true_claim, defBody s_is_true_claim, defScope s_is_true_claim⟩,
  ⟨("Equation", some "__init__"), "__init__", "Equation.__init__", defArgs s_Equation_init, defBody s_Equation_init, defScope s_Equation_init⟩,
  ⟨("Equation", some "prepare_pair"), "prepare_pair", "Equation.prepare_pair", defArgs s_Equation_prepare_pair, defBody s_Equation_prepare_pair, defScope s_Equation_prepare_pair⟩,
  ⟨("Equation", some "full_solution"), "full_solution", "Equation.full_solution", defArgs s_Equation_full_solution, defBody s_Equation_full_solution, defScope s_Equation_full_solution⟩,
  ⟨("free_places", none), "free_places", "free_places", defArgs s_free_places, defBody s_free_places, defScope s_free_places⟩,
  ⟨("tail_sums", none), "tail_sums", "tail_sums", defArgs s_tail_sums, defBody s_tail_sums, defScope s_tail_sums⟩,
  ⟨("shared_equation", none), "shared_equation", "shared_equation", defArgs s_shared_equation, defBody s_shared_equation, defScope s_shared_equation⟩,
  ⟨("repetition_axes", none), "repetition_axes", "repetition_axes", defArgs s_repetition_axes, defBody s_repetition_axes, defScope s_repetition_axes⟩,
  ⟨("repetition_equation", none), "repetition_equation", "repetition_equation", defArgs s_repetition_equation, defBody s_repetition_equation, defScope s_repetition_equation⟩,
  ⟨("represented_differences", none), "represented_differences", "represented_differences", defArgs s_represented_differences, defBody s_represented_differences, defScope s_represented_differences⟩,
  ⟨("View", some "__init__"), "__init__", "View.__init__", defArgs s_View_init, defBody s_View_init, defScope s_View_init⟩,
  ⟨("product", none), "product", "product", defArgs s_product, defBody s_product, defScope s_product⟩,
  ⟨("whole_view", none), "whole_view", "whole_view", defArgs s_whole_view, defBody s_whole_view, defScope s_whole_view⟩,
  ⟨("lies_within", none), "lies_within", "lies_within", defArgs s_lies_within, defBody s_lies_within, defScope s_lies_within⟩,
  ⟨("is_index", none), "is_index", "is_index", defArgs s_is_index, defBody s_is_index, defScope s_is_index⟩,
  ⟨("cell_of", none), "cell_of", "cell_of", defArgs s_cell_of, defBody s_cell_of, defScope s_cell_of⟩]
def eFn_3 : List He.FnD := [⟨("set_length", none), "set_length", "set_length", defArgs s_set_length, defBody s_set_length, defScope s_set_length⟩,
  ⟨("set_view", none), "set_view", "set_view", defArgs s_set_view, defBody s_set_view, defScope s_set_view⟩,
  ⟨("get_view", none), "get_view", "get_view", defArgs s_get_view, defBody s_get_view, defScope s_get_view⟩,
  ⟨("cell_at", none), "cell_at", "cell_at", defArgs s_cell_at, defBody s_cell_at, defScope s_cell_at⟩,
  ⟨("solve", none), "solve", "solve", defArgs s_solve, defBody s_solve, defScope s_solve⟩,
  ⟨("check_certificate", none), "check_certificate", "check_certificate", defArgs s_check_certificate, defBody s_check_certificate, defScope s_check_certificate⟩,
  ⟨("find_shared", none), "find_shared", "find_shared", defArgs s_find_shared, defBody s_find_shared, defScope s_find_shared⟩,
  ⟨("prove_disjoint", none), "prove_disjoint", "prove_disjoint", defArgs s_prove_disjoint, defBody s_prove_disjoint, defScope s_prove_disjoint⟩,
  ⟨("find_repetition", none), "find_repetition", "find_repetition", defArgs s_find_repetition, defBody s_find_repetition, defScope s_find_repetition⟩,
  ⟨("prove_distinct", none), "prove_distinct", "prove_distinct", defArgs s_prove_distinct, defBody s_prove_distinct, defScope s_prove_distinct⟩,
  ⟨("view_from", none), "view_from", "view_from", defArgs s_view_from, defBody s_view_from, defScope s_view_from⟩,
  ⟨("equation_from", none), "equation_from", "equation_from", defArgs s_equation_from, defBody s_equation_from, defScope s_equation_from⟩,
  ⟨("is_pairs", none), "is_pairs", "is_pairs", defArgs s_is_pairs, defBody s_is_pairs, defScope s_is_pairs⟩,
  ⟨("validity", none), "validity", "validity", defArgs s_validity, defBody s_validity, defScope s_validity⟩,
  ⟨("counted", none), "counted", "counted", defArgs s_counted, defBody s_counted, defScope s_counted⟩,
  ⟨("elements_with_cell", none), "elements_with_cell", "elements_with_cell", defArgs s_elements_with_cell, defBody s_elements_with_cell, defScope s_elements_with_cell⟩]
def eFn_4 : List He.FnD := [⟨("cell_statistics", none), "cell_statistics", "cell_statistics", defArgs s_cell_statistics, defBody s_cell_statistics, defScope s_cell_statistics⟩,
  ⟨("shared_statistics", none), "shared_statistics", "shared_statistics", defArgs s_shared_statistics, defBody s_shared_statistics, defScope s_shared_statistics⟩,
  ⟨("first_shared_pair", none), "first_shared_pair", "first_shared_pair", defArgs s_first_shared_pair, defBody s_first_shared_pair, defScope s_first_shared_pair⟩,
  ⟨("first_repeated", none), "first_repeated", "first_repeated", defArgs s_first_repeated, defBody s_first_repeated, defScope s_first_repeated⟩,
  ⟨("is_covered", none), "is_covered", "is_covered", defArgs s_is_covered, defBody s_is_covered, defScope s_is_covered⟩,
  ⟨("two_lists", none), "two_lists", "two_lists", defArgs s_two_lists, defBody s_two_lists, defScope s_two_lists⟩,
  ⟨("listed_cells", none), "listed_cells", "listed_cells", defArgs s_listed_cells, defBody s_listed_cells, defScope s_listed_cells⟩,
  ⟨("numbers_by_cell", none), "numbers_by_cell", "numbers_by_cell", defArgs s_numbers_by_cell, defBody s_numbers_by_cell, defScope s_numbers_by_cell⟩,
  ⟨("Store", some "__init__"), "__init__", "Store.__init__", defArgs s_Store_init, defBody s_Store_init, defScope s_Store_init⟩,
  ⟨("Store", some "resize"), "resize", "Store.resize", defArgs s_Store_resize, defBody s_Store_resize, defScope s_Store_resize⟩,
  ⟨("Store", some "require"), "require", "Store.require", defArgs s_Store_require, defBody s_Store_require, defScope s_Store_require⟩,
  ⟨("Store", some "view_in"), "view_in", "Store.view_in", defArgs s_Store_view_in, defBody s_Store_view_in, defScope s_Store_view_in⟩,
  ⟨("Store", some "put_view"), "put_view", "Store.put_view", defArgs s_Store_put_view, defBody s_Store_put_view, defScope s_Store_put_view⟩,
  ⟨("answers", none), "answers", "answers", defArgs s_answers, defBody s_answers, defScope s_answers⟩,
  ⟨("read_rows", none), "read_rows", "read_rows", defArgs s_read_rows, defBody s_read_rows, defScope s_read_rows⟩,
  ⟨("answer_or_code", none), "answer_or_code", "answer_or_code", defArgs s_answer_or_code, defBody s_answer_or_code, defScope s_answer_or_code⟩]
def eFn_5 : List He.FnD := [⟨("answer_to", none), "answer_to", "answer_to", defArgs s_answer_to, defBody s_answer_to, defScope s_answer_to⟩,
  ⟨("small_views_answer", none), "small_views_answer", "small_views_answer", defArgs s_small_views_answer, defBody s_small_views_answer, defScope s_small_views_answer⟩]
def eFn : List He.FnD := eFn_0 ++ eFn_1 ++ eFn_2 ++ eFn_3 ++ eFn_4 ++ eFn_5
def eErr : List Str := ["NoSuchRegister", "ArrayLengthOutOfRange", "NotAnIndex", "NotAxes", "AxisLengthOutOfRange", "ViewTooLarge", "CellOutsideArray", "NotVariables", "VariableOutOfRange", "SearchLimitExceeded", "TooManyElements", "NotOneCertificate"]
def rows_FORMS : List (List V) := [[.int 1, .int 0], [.int 2, .int 1], [.int 1, .int 0], [.int 1, .int 1], [.int 1, .int 1], [.int 1, .int 2], [.int 2, .int 0], [.int 2, .int 1], [.int 1, .int 0], [.int 1, .int 1], [.int 2, .int 0], [.int 1, .int 0], [.int 2, .int 0], [.int 2, .int 0], [.int 1, .int 0], [.int 2, .int 0]]
def eB (K : PySem.W.Frag) : Bool := (eFn.all fun d => PySem.W.keepIn K (.ref (He.fAd K d.at_))) && (eErr.all fun x => errB K x) && baseB K && tabB K (He.ga K "FORMS") rows_FORMS
structure SaysOv (K : PySem.W.Frag) : Prop where
  c : He.SaysE eFa eFn K
  x : eB K = true
section
variable {K : PySem.W.Frag}
theorem SaysOv.parts (c : SaysOv K) : (eFn.all fun d => PySem.W.keepIn K (.ref (He.fAd K d.at_))) = true ∧ (eErr.all fun x => errB K x) = true ∧ baseB K = true ∧ tabB K (He.ga K "FORMS") rows_FORMS = true := by
  have h := c.x
  unfold eB at h
  simp only [Bool.and_eq_true] at h
  obtain ⟨⟨⟨h1, h2⟩, h3⟩, t0⟩ := h
  exact ⟨h1, h2, h3, t0⟩
theorem SaysOv.kp (c : SaysOv K) (i : Nat) {d : He.FnD} (h : eFn[i]? = some d) : PySem.W.keepIn K (.ref (He.fAd K d.at_)) = true := List.all_eq_true.mp c.parts.1 d (List.mem_of_getElem? h)
theorem SaysOv.err (c : SaysOv K) (x : Str) (h : eErr.contains x = true) : errB K x = true := List.all_eq_true.mp c.parts.2.1 x (List.contains_iff_mem.mp h)
theorem SaysOv.base (c : SaysOv K) : baseB K = true := c.parts.2.2.1
theorem SaysOv.tab_FORMS (c : SaysOv K) : tabB K (He.ga K "FORMS") rows_FORMS = true := c.parts.2.2.2
end
noncomputable def top_of {K : PySem.W.Frag} {h : Heap} {mg : Str → Option Value} (X : K.In h) (G : h.Ns PySem.mainGlobals mg) (c : SaysOv K) : Top K mg where
  b_len := He.free_ok X G (c.c.fact 0 rfl)
  b_max := He.free_ok X G (c.c.fact 1 rfl)
  b_min := He.free_ok X G (c.c.fact 2 rfl)
  b_enumerate := He.free_ok X G (c.c.fact 3 rfl)
  b_sum := He.free_ok X G (c.c.fact 4 rfl)
  b_all := He.free_ok X G (c.c.fact 5 rfl)
  b_zip := He.free_ok X G (c.c.fact 6 rfl)
  b_range := He.free_ok X G (c.c.fact 7 rfl)
  b_abs := He.free_ok X G (c.c.fact 8 rfl)
  b_list := He.free_ok X G (c.c.fact 9 rfl)
  b_any := He.free_ok X G (c.c.fact 10 rfl)
  k_BISECTION := mkIc (ic_of (He.int_ok X G (c.c.fact 11 rfl)))
  k_BY_RANGE := mkIc (ic_of (He.int_ok X G (c.c.fact 12 rfl)))
  k_BY_DIVISIBILITY := mkIc (ic_of (He.int_ok X G (c.c.fact 13 rfl)))
  k_BY_PAIR := mkIc (ic_of (He.int_ok X G (c.c.fact 14 rfl)))
  k_GREATEST := mkIc (ic_of (He.int_ok X G (c.c.fact 15 rfl)))
  k_REGISTER_COUNT := mkIc (ic_of (He.int_ok X G (c.c.fact 16 rfl)))
  k_AXIS_LIMIT := mkIc (ic_of (He.int_ok X G (c.c.fact 17 rfl)))
  k_VARIABLE_LIMIT := mkIc (ic_of (He.int_ok X G (c.c.fact 18 rfl)))
  k_ELEMENT_LIMIT := mkIc (ic_of (He.int_ok X G (c.c.fact 19 rfl)))
  k_BOX_LIMIT := mkIc (ic_of (He.int_ok X G (c.c.fact 20 rfl)))
  k_FORMS := { a := He.ga K "FORMS", g := He.glo_ok X G (c.c.fact 21 rfl), q_0 := itA K (He.ga K "FORMS") 0, q_1 := itA K (He.ga K "FORMS") 1, q_2 := itA K (He.ga K "FORMS") 2, q_3 := itA K (He.ga K "FORMS") 3, q_4 := itA K (He.ga K "FORMS") 4, q_5 := itA K (He.ga K "FORMS") 5, q_6 := itA K (He.ga K "FORMS") 6, q_7 := itA K (He.ga K "FORMS") 7, q_8 := itA K (He.ga K "FORMS") 8, q_9 := itA K (He.ga K "FORMS") 9, q_10 := itA K (He.ga K "FORMS") 10, q_11 := itA K (He.ga K "FORMS") 11, q_12 := itA K (He.ga K "FORMS") 12, q_13 := itA K (He.ga K "FORMS") 13, q_14 := itA K (He.ga K "FORMS") 14, q_15 := itA K (He.ga K "FORMS") 15, Q := fun H => (tab_ok (c.tab_FORMS)).1 H, Q_0 := fun H => tabrow (c.tab_FORMS) 0 rfl H, Q_1 := fun H => tabrow (c.tab_FORMS) 1 rfl H, Q_2 := fun H => tabrow (c.tab_FORMS) 2 rfl H, Q_3 := fun H => tabrow (c.tab_FORMS) 3 rfl H, Q_4 := fun H => tabrow (c.tab_FORMS) 4 rfl H, Q_5 := fun H => tabrow (c.tab_FORMS) 5 rfl H, Q_6 := fun H => tabrow (c.tab_FORMS) 6 rfl H, Q_7 := fun H => tabrow (c.tab_FORMS) 7 rfl H, Q_8 := fun H => tabrow (c.tab_FORMS) 8 rfl H, Q_9 := fun H => tabrow (c.tab_FORMS) 9 rfl H, Q_10 := fun H => tabrow (c.tab_FORMS) 10 rfl H, Q_11 := fun H => tabrow (c.tab_FORMS) 11 rfl H, Q_12 := fun H => tabrow (c.tab_FORMS) 12 rfl H, Q_13 := fun H => tabrow (c.tab_FORMS) 13 rfl H, Q_14 := fun H => tabrow (c.tab_FORMS) 14 rfl H, Q_15 := fun H => tabrow (c.tab_FORMS) 15 rfl H }
  c_Box := He.ga K "Box"
  l_Box := ⟨He.cls_ok (c.c.fact 22 rfl), He.glo_ok X G (c.c.fact 23 rfl)⟩
  n_Box := ⟨He.noat_ok (c.c.fact 24 rfl), He.noat_ok (c.c.fact 25 rfl), He.noat_ok (c.c.fact 26 rfl), He.noat_ok (c.c.fact 27 rfl), He.noat_ok (c.c.fact 28 rfl)⟩
  c_Refusal := He.ga K "Refusal"
  c_NoSuchRegister := He.ga K "NoSuchRegister"
  c_ArrayLengthOutOfRange := He.ga K "ArrayLengthOutOfRange"
  c_NotAnIndex := He.ga K "NotAnIndex"
  c_NotAxes := He.ga K "NotAxes"
  c_AxisLengthOutOfRange := He.ga K "AxisLengthOutOfRange"
  c_ViewTooLarge := He.ga K "ViewTooLarge"
  c_CellOutsideArray := He.ga K "CellOutsideArray"
  c_NotVariables := He.ga K "NotVariables"
  c_VariableOutOfRange := He.ga K "VariableOutOfRange"
  c_SearchLimitExceeded := He.ga K "SearchLimitExceeded"
  c_TooManyElements := He.ga K "TooManyElements"
  c_NotOneCertificate := He.ga K "NotOneCertificate"
  c_Equation := He.ga K "Equation"
  l_Equation := ⟨He.cls_ok (c.c.fact 29 rfl), He.glo_ok X G (c.c.fact 30 rfl)⟩
  n_Equation := ⟨He.noat_ok (c.c.fact 31 rfl), He.noat_ok (c.c.fact 32 rfl), He.noat_ok (c.c.fact 33 rfl), He.noat_ok (c.c.fact 34 rfl), He.noat_ok (c.c.fact 35 rfl), He.noat_ok (c.c.fact 36 rfl), He.noat_ok (c.c.fact 37 rfl), He.noat_ok (c.c.fact 38 rfl), He.noat_ok (c.c.fact 39 rfl), He.noat_ok (c.c.fact 40 rfl), He.noat_ok (c.c.fact 41 rfl)⟩
  c_View := He.ga K "View"
  l_View := ⟨He.cls_ok (c.c.fact 42 rfl), He.glo_ok X G (c.c.fact 43 rfl)⟩
  n_View := ⟨He.noat_ok (c.c.fact 44 rfl), He.noat_ok (c.c.fact 45 rfl), He.noat_ok (c.c.fact 46 rfl), He.noat_ok (c.c.fact 47 rfl)⟩
  c_Store := He.ga K "Store"
  l_Store := ⟨He.cls_ok (c.c.fact 48 rfl), He.glo_ok X G (c.c.fact 49 rfl)⟩
  n_Store := ⟨He.noat_ok (c.c.fact 50 rfl), He.noat_ok (c.c.fact 51 rfl)⟩
  f_common_divisor := mkDf (x := "common_divisor") (q := "common_divisor") (st := s_common_divisor) (ps := ["numbers"]) ("common_divisor", none) (mk_d (c.c.def_ 0 rfl) (c.kp 0 rfl) fun _ _ _ _ _ _ us hl => match us, hl with | [_], _ => rfl)
  g_common_divisor := He.glo_ok X G (c.c.fact 52 rfl)
  f_inverse_for := mkDf (x := "inverse_for") (q := "inverse_for") (st := s_inverse_for) (ps := ["number", "modulus"]) ("inverse_for", none) (mk_d (c.c.def_ 1 rfl) (c.kp 1 rfl) fun _ _ _ _ _ _ us hl => match us, hl with | [_, _], _ => rfl)
  g_inverse_for := He.glo_ok X G (c.c.fact 53 rfl)
  f_ceiling_quotient := mkDf (x := "ceiling_quotient") (q := "ceiling_quotient") (st := s_ceiling_quotient) (ps := ["number", "divisor"]) ("ceiling_quotient", none) (mk_d (c.c.def_ 2 rfl) (c.kp 2 rfl) fun _ _ _ _ _ _ us hl => match us, hl with | [_, _], _ => rfl)
  g_ceiling_quotient := He.glo_ok X G (c.c.fact 54 rfl)
  f_Box_init := mkDf (x := "__init__") (q := "Box.__init__") (st := s_Box_init) (ps := ["self", "equation", "fixed", "lower", "upper", "rest"]) ("Box", some "__init__") (mk_d (c.c.def_ 3 rfl) (c.kp 3 rfl) fun _ _ _ _ _ _ us hl => match us, hl with | [_, _, _, _, _, _], _ => rfl)
  mk_Box := He.mkr_ok (c.c.fact 55 rfl)
  f_Box_free_count := mkDf (x := "free_count") (q := "Box.free_count") (st := s_Box_free_count) (ps := ["self"]) ("Box", some "free_count") (mk_d (c.c.def_ 4 rfl) (c.kp 4 rfl) fun _ _ _ _ _ _ us hl => match us, hl with | [_], _ => rfl)
  m_Box_free_count := He.meth_ok (c.c.fact 56 rfl)
  f_Box_fails_range := mkDf (x := "fails_range") (q := "Box.fails_range") (st := s_Box_fails_range) (ps := ["self"]) ("Box", some "fails_range") (mk_d (c.c.def_ 5 rfl) (c.kp 5 rfl) fun _ _ _ _ _ _ us hl => match us, hl with | [_], _ => rfl)
  m_Box_fails_range := He.meth_ok (c.c.fact 57 rfl)
  f_Box_fails_divisibility := mkDf (x := "fails_divisibility") (q := "Box.fails_divisibility") (st := s_Box_fails_divisibility) (ps := ["self"]) ("Box", some "fails_divisibility") (mk_d (c.c.def_ 6 rfl) (c.kp 6 rfl) fun _ _ _ _ _ _ us hl => match us, hl with | [_], _ => rfl)
  m_Box_fails_divisibility := He.meth_ok (c.c.fact 58 rfl)
  f_Box_fails_pair := mkDf (x := "fails_pair") (q := "Box.fails_pair") (st := s_Box_fails_pair) (ps := ["self"]) ("Box", some "fails_pair") (mk_d (c.c.def_ 7 rfl) (c.kp 7 rfl) fun _ _ _ _ _ _ us hl => match us, hl with | [_], _ => rfl)
  m_Box_fails_pair := He.meth_ok (c.c.fact 59 rfl)
  f_Box_halves := mkDf (x := "halves") (q := "Box.halves") (st := s_Box_halves) (ps := ["self"]) ("Box", some "halves") (mk_d (c.c.def_ 8 rfl) (c.kp 8 rfl) fun _ _ _ _ _ _ us hl => match us, hl with | [_], _ => rfl)
  m_Box_halves := He.meth_ok (c.c.fact 60 rfl)
  f_whole_box := mkDf (x := "whole_box") (q := "whole_box") (st := s_whole_box) (ps := ["equation"]) ("whole_box", none) (mk_d (c.c.def_ 9 rfl) (c.kp 9 rfl) fun _ _ _ _ _ _ us hl => match us, hl with | [_], _ => rfl)
  g_whole_box := He.glo_ok X G (c.c.fact 61 rfl)
  f_box_after := mkDf (x := "box_after") (q := "box_after") (st := s_box_after) (ps := ["equation", "fixed", "rest"]) ("box_after", none) (mk_d (c.c.def_ 10 rfl) (c.kp 10 rfl) fun _ _ _ _ _ _ us hl => match us, hl with | [_, _, _], _ => rfl)
  g_box_after := He.glo_ok X G (c.c.fact 62 rfl)
  f_narrowed := mkDf (x := "narrowed") (q := "narrowed") (st := s_narrowed) (ps := ["box", "lower", "upper"]) ("narrowed", none) (mk_d (c.c.def_ 11 rfl) (c.kp 11 rfl) fun _ _ _ _ _ _ us hl => match us, hl with | [_, _, _], _ => rfl)
  g_narrowed := He.glo_ok X G (c.c.fact 63 rfl)
  f_least_values := mkDf (x := "least_values") (q := "least_values") (st := s_least_values) (ps := ["box"]) ("least_values", none) (mk_d (c.c.def_ 12 rfl) (c.kp 12 rfl) fun _ _ _ _ _ _ us hl => match us, hl with | [_], _ => rfl)
  g_least_values := He.glo_ok X G (c.c.fact 64 rfl)
  f_least_pair := mkDf (x := "least_pair") (q := "least_pair") (st := s_least_pair) (ps := ["box"]) ("least_pair", none) (mk_d (c.c.def_ 13 rfl) (c.kp 13 rfl) fun _ _ _ _ _ _ us hl => match us, hl with | [_], _ => rfl)
  g_least_pair := He.glo_ok X G (c.c.fact 65 rfl)
  f_Refusal_init := mkDf (x := "__init__") (q := "Refusal.__init__") (st := s_Refusal_init) (ps := ["self", "code"]) ("Refusal", some "__init__") (mk_d (c.c.def_ 14 rfl) (c.kp 14 rfl) fun _ _ _ _ _ _ us hl => match us, hl with | [_, _], _ => rfl)
  mc_Refusal := .type "type"
  base_Refusal := base_ok X G c.base (c.c.fact 66 rfl)
  f_NoSuchRegister_init := mkDf (x := "__init__") (q := "NoSuchRegister.__init__") (st := s_NoSuchRegister_init) (ps := ["self"]) ("NoSuchRegister", some "__init__") (mk_d (c.c.def_ 15 rfl) (c.kp 15 rfl) fun _ _ _ _ _ _ us hl => match us, hl with | [_], _ => rfl)
  x_NoSuchRegister := err_ok X G (c.err "NoSuchRegister" (by decide +kernel))
  f_ArrayLengthOutOfRange_init := mkDf (x := "__init__") (q := "ArrayLengthOutOfRange.__init__") (st := s_ArrayLengthOutOfRange_init) (ps := ["self"]) ("ArrayLengthOutOfRange", some "__init__") (mk_d (c.c.def_ 16 rfl) (c.kp 16 rfl) fun _ _ _ _ _ _ us hl => match us, hl with | [_], _ => rfl)
  x_ArrayLengthOutOfRange := err_ok X G (c.err "ArrayLengthOutOfRange" (by decide +kernel))
  f_NotAnIndex_init := mkDf (x := "__init__") (q := "NotAnIndex.__init__") (st := s_NotAnIndex_init) (ps := ["self"]) ("NotAnIndex", some "__init__") (mk_d (c.c.def_ 17 rfl) (c.kp 17 rfl) fun _ _ _ _ _ _ us hl => match us, hl with | [_], _ => rfl)
  x_NotAnIndex := err_ok X G (c.err "NotAnIndex" (by decide +kernel))
  f_NotAxes_init := mkDf (x := "__init__") (q := "NotAxes.__init__") (st := s_NotAxes_init) (ps := ["self"]) ("NotAxes", some "__init__") (mk_d (c.c.def_ 18 rfl) (c.kp 18 rfl) fun _ _ _ _ _ _ us hl => match us, hl with | [_], _ => rfl)
  x_NotAxes := err_ok X G (c.err "NotAxes" (by decide +kernel))
  f_AxisLengthOutOfRange_init := mkDf (x := "__init__") (q := "AxisLengthOutOfRange.__init__") (st := s_AxisLengthOutOfRange_init) (ps := ["self"]) ("AxisLengthOutOfRange", some "__init__") (mk_d (c.c.def_ 19 rfl) (c.kp 19 rfl) fun _ _ _ _ _ _ us hl => match us, hl with | [_], _ => rfl)
  x_AxisLengthOutOfRange := err_ok X G (c.err "AxisLengthOutOfRange" (by decide +kernel))
  f_ViewTooLarge_init := mkDf (x := "__init__") (q := "ViewTooLarge.__init__") (st := s_ViewTooLarge_init) (ps := ["self"]) ("ViewTooLarge", some "__init__") (mk_d (c.c.def_ 20 rfl) (c.kp 20 rfl) fun _ _ _ _ _ _ us hl => match us, hl with | [_], _ => rfl)
  x_ViewTooLarge := err_ok X G (c.err "ViewTooLarge" (by decide +kernel))
  f_CellOutsideArray_init := mkDf (x := "__init__") (q := "CellOutsideArray.__init__") (st := s_CellOutsideArray_init) (ps := ["self"]) ("CellOutsideArray", some "__init__") (mk_d (c.c.def_ 21 rfl) (c.kp 21 rfl) fun _ _ _ _ _ _ us hl => match us, hl with | [_], _ => rfl)
  x_CellOutsideArray := err_ok X G (c.err "CellOutsideArray" (by decide +kernel))
  f_NotVariables_init := mkDf (x := "__init__") (q := "NotVariables.__init__") (st := s_NotVariables_init) (ps := ["self"]) ("NotVariables", some "__init__") (mk_d (c.c.def_ 22 rfl) (c.kp 22 rfl) fun _ _ _ _ _ _ us hl => match us, hl with | [_], _ => rfl)
  x_NotVariables := err_ok X G (c.err "NotVariables" (by decide +kernel))
  f_VariableOutOfRange_init := mkDf (x := "__init__") (q := "VariableOutOfRange.__init__") (st := s_VariableOutOfRange_init) (ps := ["self"]) ("VariableOutOfRange", some "__init__") (mk_d (c.c.def_ 23 rfl) (c.kp 23 rfl) fun _ _ _ _ _ _ us hl => match us, hl with | [_], _ => rfl)
  x_VariableOutOfRange := err_ok X G (c.err "VariableOutOfRange" (by decide +kernel))
  f_SearchLimitExceeded_init := mkDf (x := "__init__") (q := "SearchLimitExceeded.__init__") (st := s_SearchLimitExceeded_init) (ps := ["self"]) ("SearchLimitExceeded", some "__init__") (mk_d (c.c.def_ 24 rfl) (c.kp 24 rfl) fun _ _ _ _ _ _ us hl => match us, hl with | [_], _ => rfl)
  x_SearchLimitExceeded := err_ok X G (c.err "SearchLimitExceeded" (by decide +kernel))
  f_TooManyElements_init := mkDf (x := "__init__") (q := "TooManyElements.__init__") (st := s_TooManyElements_init) (ps := ["self"]) ("TooManyElements", some "__init__") (mk_d (c.c.def_ 25 rfl) (c.kp 25 rfl) fun _ _ _ _ _ _ us hl => match us, hl with | [_], _ => rfl)
  x_TooManyElements := err_ok X G (c.err "TooManyElements" (by decide +kernel))
  f_NotOneCertificate_init := mkDf (x := "__init__") (q := "NotOneCertificate.__init__") (st := s_NotOneCertificate_init) (ps := ["self"]) ("NotOneCertificate", some "__init__") (mk_d (c.c.def_ 26 rfl) (c.kp 26 rfl) fun _ _ _ _ _ _ us hl => match us, hl with | [_], _ => rfl)
  x_NotOneCertificate := err_ok X G (c.err "NotOneCertificate" (by decide +kernel))
  f_search := mkDf (x := "search") (q := "search") (st := s_search) (ps := ["equation", "box_limit"]) ("search", none) (mk_d (c.c.def_ 27 rfl) (c.kp 27 rfl) fun _ _ _ _ _ _ us hl => match us, hl with | [_, _], _ => rfl)
  g_search := He.glo_ok X G (c.c.fact 67 rfl)
  f_push_halves := mkDf (x := "push_halves") (q := "push_halves") (st := s_push_halves) (ps := ["boxes", "box"]) ("push_halves", none) (mk_d (c.c.def_ 28 rfl) (c.kp 28 rfl) fun _ _ _ _ _ _ us hl => match us, hl with | [_, _], _ => rfl)
  g_push_halves := He.glo_ok X G (c.c.fact 68 rfl)
  f_separated := mkDf (x := "separated") (q := "separated") (st := s_separated) (ps := ["claims"]) ("separated", none) (mk_d (c.c.def_ 29 rfl) (c.kp 29 rfl) fun _ _ _ _ _ _ us hl => match us, hl with | [_], _ => rfl)
  g_separated := He.glo_ok X G (c.c.fact 69 rfl)
  f_is_one_certificate := mkDf (x := "is_one_certificate") (q := "is_one_certificate") (st := s_is_one_certificate) (ps := ["claims"]) ("is_one_certificate", none) (mk_d (c.c.def_ 30 rfl) (c.kp 30 rfl) fun _ _ _ _ _ _ us hl => match us, hl with | [_], _ => rfl)
  g_is_one_certificate := He.glo_ok X G (c.c.fact 70 rfl)
  f_is_valid := mkDf (x := "is_valid") (q := "is_valid") (st := s_is_valid) (ps := ["equation", "certificate"]) ("is_valid", none) (mk_d (c.c.def_ 31 rfl) (c.kp 31 rfl) fun _ _ _ _ _ _ us hl => match us, hl with | [_, _], _ => rfl)
  g_is_valid := He.glo_ok X G (c.c.fact 71 rfl)
  f_is_true_claim := mkDf (x := "is_true_claim") (q := "is_true_claim") (st := s_is_true_claim) (ps := ["claim", "box"]) ("is_true_claim", none) (mk_d (c.c.def_ 32 rfl) (c.kp 32 rfl) fun _ _ _ _ _ _ us hl => match us, hl with | [_, _], _ => rfl)
  g_is_true_claim := He.glo_ok X G (c.c.fact 72 rfl)
  f_Equation_init := mkDf (x := "__init__") (q := "Equation.__init__") (st := s_Equation_init) (ps := ["self", "target", "coefficients", "uppers"]) ("Equation", some "__init__") (mk_d (c.c.def_ 33 rfl) (c.kp 33 rfl) fun _ _ _ _ _ _ us hl => match us, hl with | [_, _, _, _], _ => rfl)
  mk_Equation := He.mkr_ok (c.c.fact 73 rfl)
  f_Equation_prepare_pair := mkDf (x := "prepare_pair") (q := "Equation.prepare_pair") (st := s_Equation_prepare_pair) (ps := ["self"]) ("Equation", some "prepare_pair") (mk_d (c.c.def_ 34 rfl) (c.kp 34 rfl) fun _ _ _ _ _ _ us hl => match us, hl with | [_], _ => rfl)
  m_Equation_prepare_pair := He.meth_ok (c.c.fact 74 rfl)
  f_Equation_full_solution := mkDf (x := "full_solution") (q := "Equation.full_solution") (st := s_Equation_full_solution) (ps := ["self", "free_values"]) ("Equation", some "full_solution") (mk_d (c.c.def_ 35 rfl) (c.kp 35 rfl) fun _ _ _ _ _ _ us hl => match us, hl with | [_, _], _ => rfl)
  m_Equation_full_solution := He.meth_ok (c.c.fact 75 rfl)
  f_free_places := mkDf (x := "free_places") (q := "free_places") (st := s_free_places) (ps := ["coefficients", "uppers"]) ("free_places", none) (mk_d (c.c.def_ 36 rfl) (c.kp 36 rfl) fun _ _ _ _ _ _ us hl => match us, hl with | [_, _], _ => rfl)
  g_free_places := He.glo_ok X G (c.c.fact 76 rfl)
  f_tail_sums := mkDf (x := "tail_sums") (q := "tail_sums") (st := s_tail_sums) (ps := ["terms"]) ("tail_sums", none) (mk_d (c.c.def_ 37 rfl) (c.kp 37 rfl) fun _ _ _ _ _ _ us hl => match us, hl with | [_], _ => rfl)
  g_tail_sums := He.glo_ok X G (c.c.fact 77 rfl)
  f_shared_equation := mkDf (x := "shared_equation") (q := "shared_equation") (st := s_shared_equation) (ps := ["left", "right"]) ("shared_equation", none) (mk_d (c.c.def_ 38 rfl) (c.kp 38 rfl) fun _ _ _ _ _ _ us hl => match us, hl with | [_, _], _ => rfl)
  g_shared_equation := He.glo_ok X G (c.c.fact 78 rfl)
  f_repetition_axes := mkDf (x := "repetition_axes") (q := "repetition_axes") (st := s_repetition_axes) (ps := ["view"]) ("repetition_axes", none) (mk_d (c.c.def_ 39 rfl) (c.kp 39 rfl) fun _ _ _ _ _ _ us hl => match us, hl with | [_], _ => rfl)
  g_repetition_axes := He.glo_ok X G (c.c.fact 79 rfl)
  f_repetition_equation := mkDf (x := "repetition_equation") (q := "repetition_equation") (st := s_repetition_equation) (ps := ["view", "axis"]) ("repetition_equation", none) (mk_d (c.c.def_ 40 rfl) (c.kp 40 rfl) fun _ _ _ _ _ _ us hl => match us, hl with | [_, _], _ => rfl)
  g_repetition_equation := He.glo_ok X G (c.c.fact 80 rfl)
  f_represented_differences := mkDf (x := "represented_differences") (q := "represented_differences") (st := s_represented_differences) (ps := ["view", "axis", "solution"]) ("represented_differences", none) (mk_d (c.c.def_ 41 rfl) (c.kp 41 rfl) fun _ _ _ _ _ _ us hl => match us, hl with | [_, _, _], _ => rfl)
  g_represented_differences := He.glo_ok X G (c.c.fact 81 rfl)
  f_View_init := mkDf (x := "__init__") (q := "View.__init__") (st := s_View_init) (ps := ["self", "offset", "lengths", "strides"]) ("View", some "__init__") (mk_d (c.c.def_ 42 rfl) (c.kp 42 rfl) fun _ _ _ _ _ _ us hl => match us, hl with | [_, _, _, _], _ => rfl)
  mk_View := He.mkr_ok (c.c.fact 82 rfl)
  f_product := mkDf (x := "product") (q := "product") (st := s_product) (ps := ["numbers"]) ("product", none) (mk_d (c.c.def_ 43 rfl) (c.kp 43 rfl) fun _ _ _ _ _ _ us hl => match us, hl with | [_], _ => rfl)
  g_product := He.glo_ok X G (c.c.fact 83 rfl)
  f_whole_view := mkDf (x := "whole_view") (q := "whole_view") (st := s_whole_view) (ps := ["array_length"]) ("whole_view", none) (mk_d (c.c.def_ 44 rfl) (c.kp 44 rfl) fun _ _ _ _ _ _ us hl => match us, hl with | [_], _ => rfl)
  g_whole_view := He.glo_ok X G (c.c.fact 84 rfl)
  f_lies_within := mkDf (x := "lies_within") (q := "lies_within") (st := s_lies_within) (ps := ["view", "array_length"]) ("lies_within", none) (mk_d (c.c.def_ 45 rfl) (c.kp 45 rfl) fun _ _ _ _ _ _ us hl => match us, hl with | [_, _], _ => rfl)
  g_lies_within := He.glo_ok X G (c.c.fact 85 rfl)
  f_is_index := mkDf (x := "is_index") (q := "is_index") (st := s_is_index) (ps := ["view", "index"]) ("is_index", none) (mk_d (c.c.def_ 46 rfl) (c.kp 46 rfl) fun _ _ _ _ _ _ us hl => match us, hl with | [_, _], _ => rfl)
  g_is_index := He.glo_ok X G (c.c.fact 86 rfl)
  f_cell_of := mkDf (x := "cell_of") (q := "cell_of") (st := s_cell_of) (ps := ["view", "index"]) ("cell_of", none) (mk_d (c.c.def_ 47 rfl) (c.kp 47 rfl) fun _ _ _ _ _ _ us hl => match us, hl with | [_, _], _ => rfl)
  g_cell_of := He.glo_ok X G (c.c.fact 87 rfl)
  f_set_length := mkDf (x := "set_length") (q := "set_length") (st := s_set_length) (ps := ["store", "n"]) ("set_length", none) (mk_d (c.c.def_ 48 rfl) (c.kp 48 rfl) fun _ _ _ _ _ _ us hl => match us, hl with | [_, _], _ => rfl)
  g_set_length := He.glo_ok X G (c.c.fact 88 rfl)
  f_set_view := mkDf (x := "set_view") (q := "set_view") (st := s_set_view) (ps := ["store", "r", "offset", "axes"]) ("set_view", none) (mk_d (c.c.def_ 49 rfl) (c.kp 49 rfl) fun _ _ _ _ _ _ us hl => match us, hl with | [_, _, _, _], _ => rfl)
  g_set_view := He.glo_ok X G (c.c.fact 89 rfl)
  f_get_view := mkDf (x := "get_view") (q := "get_view") (st := s_get_view) (ps := ["store", "p"]) ("get_view", none) (mk_d (c.c.def_ 50 rfl) (c.kp 50 rfl) fun _ _ _ _ _ _ us hl => match us, hl with | [_, _], _ => rfl)
  g_get_view := He.glo_ok X G (c.c.fact 90 rfl)
  f_cell_at := mkDf (x := "cell_at") (q := "cell_at") (st := s_cell_at) (ps := ["store", "p", "index"]) ("cell_at", none) (mk_d (c.c.def_ 51 rfl) (c.kp 51 rfl) fun _ _ _ _ _ _ us hl => match us, hl with | [_, _, _], _ => rfl)
  g_cell_at := He.glo_ok X G (c.c.fact 91 rfl)
  f_solve := mkDf (x := "solve") (q := "solve") (st := s_solve) (ps := ["target", "variables"]) ("solve", none) (mk_d (c.c.def_ 52 rfl) (c.kp 52 rfl) fun _ _ _ _ _ _ us hl => match us, hl with | [_, _], _ => rfl)
  g_solve := He.glo_ok X G (c.c.fact 92 rfl)
  f_check_certificate := mkDf (x := "check_certificate") (q := "check_certificate") (st := s_check_certificate) (ps := ["target", "variables", "certificate"]) ("check_certificate", none) (mk_d (c.c.def_ 53 rfl) (c.kp 53 rfl) fun _ _ _ _ _ _ us hl => match us, hl with | [_, _, _], _ => rfl)
  g_check_certificate := He.glo_ok X G (c.c.fact 93 rfl)
  f_find_shared := mkDf (x := "find_shared") (q := "find_shared") (st := s_find_shared) (ps := ["store", "p", "q"]) ("find_shared", none) (mk_d (c.c.def_ 54 rfl) (c.kp 54 rfl) fun _ _ _ _ _ _ us hl => match us, hl with | [_, _, _], _ => rfl)
  g_find_shared := He.glo_ok X G (c.c.fact 94 rfl)
  f_prove_disjoint := mkDf (x := "prove_disjoint") (q := "prove_disjoint") (st := s_prove_disjoint) (ps := ["store", "p", "q", "certificate"]) ("prove_disjoint", none) (mk_d (c.c.def_ 55 rfl) (c.kp 55 rfl) fun _ _ _ _ _ _ us hl => match us, hl with | [_, _, _, _], _ => rfl)
  g_prove_disjoint := He.glo_ok X G (c.c.fact 95 rfl)
  f_find_repetition := mkDf (x := "find_repetition") (q := "find_repetition") (st := s_find_repetition) (ps := ["store", "p"]) ("find_repetition", none) (mk_d (c.c.def_ 56 rfl) (c.kp 56 rfl) fun _ _ _ _ _ _ us hl => match us, hl with | [_, _], _ => rfl)
  g_find_repetition := He.glo_ok X G (c.c.fact 96 rfl)
  f_prove_distinct := mkDf (x := "prove_distinct") (q := "prove_distinct") (st := s_prove_distinct) (ps := ["store", "p", "certificates"]) ("prove_distinct", none) (mk_d (c.c.def_ 57 rfl) (c.kp 57 rfl) fun _ _ _ _ _ _ us hl => match us, hl with | [_, _, _], _ => rfl)
  g_prove_distinct := He.glo_ok X G (c.c.fact 97 rfl)
  f_view_from := mkDf (x := "view_from") (q := "view_from") (st := s_view_from) (ps := ["offset", "axes"]) ("view_from", none) (mk_d (c.c.def_ 58 rfl) (c.kp 58 rfl) fun _ _ _ _ _ _ us hl => match us, hl with | [_, _], _ => rfl)
  g_view_from := He.glo_ok X G (c.c.fact 98 rfl)
  f_equation_from := mkDf (x := "equation_from") (q := "equation_from") (st := s_equation_from) (ps := ["target", "variables"]) ("equation_from", none) (mk_d (c.c.def_ 59 rfl) (c.kp 59 rfl) fun _ _ _ _ _ _ us hl => match us, hl with | [_, _], _ => rfl)
  g_equation_from := He.glo_ok X G (c.c.fact 99 rfl)
  f_is_pairs := mkDf (x := "is_pairs") (q := "is_pairs") (st := s_is_pairs) (ps := ["row", "limit"]) ("is_pairs", none) (mk_d (c.c.def_ 60 rfl) (c.kp 60 rfl) fun _ _ _ _ _ _ us hl => match us, hl with | [_, _], _ => rfl)
  g_is_pairs := He.glo_ok X G (c.c.fact 100 rfl)
  f_validity := mkDf (x := "validity") (q := "validity") (st := s_validity) (ps := ["equation", "certificate"]) ("validity", none) (mk_d (c.c.def_ 61 rfl) (c.kp 61 rfl) fun _ _ _ _ _ _ us hl => match us, hl with | [_, _], _ => rfl)
  g_validity := He.glo_ok X G (c.c.fact 101 rfl)
  f_counted := mkDf (x := "counted") (q := "counted") (st := s_counted) (ps := ["row"]) ("counted", none) (mk_d (c.c.def_ 62 rfl) (c.kp 62 rfl) fun _ _ _ _ _ _ us hl => match us, hl with | [_], _ => rfl)
  g_counted := He.glo_ok X G (c.c.fact 102 rfl)
  f_elements_with_cell := mkDf (x := "elements_with_cell") (q := "elements_with_cell") (st := s_elements_with_cell) (ps := ["store", "p", "x"]) ("elements_with_cell", none) (mk_d (c.c.def_ 63 rfl) (c.kp 63 rfl) fun _ _ _ _ _ _ us hl => match us, hl with | [_, _, _], _ => rfl)
  g_elements_with_cell := He.glo_ok X G (c.c.fact 103 rfl)
  f_cell_statistics := mkDf (x := "cell_statistics") (q := "cell_statistics") (st := s_cell_statistics) (ps := ["store", "p"]) ("cell_statistics", none) (mk_d (c.c.def_ 64 rfl) (c.kp 64 rfl) fun _ _ _ _ _ _ us hl => match us, hl with | [_, _], _ => rfl)
  g_cell_statistics := He.glo_ok X G (c.c.fact 104 rfl)
  f_shared_statistics := mkDf (x := "shared_statistics") (q := "shared_statistics") (st := s_shared_statistics) (ps := ["store", "p", "q"]) ("shared_statistics", none) (mk_d (c.c.def_ 65 rfl) (c.kp 65 rfl) fun _ _ _ _ _ _ us hl => match us, hl with | [_, _, _], _ => rfl)
  g_shared_statistics := He.glo_ok X G (c.c.fact 105 rfl)
  f_first_shared_pair := mkDf (x := "first_shared_pair") (q := "first_shared_pair") (st := s_first_shared_pair) (ps := ["store", "p", "q"]) ("first_shared_pair", none) (mk_d (c.c.def_ 66 rfl) (c.kp 66 rfl) fun _ _ _ _ _ _ us hl => match us, hl with | [_, _, _], _ => rfl)
  g_first_shared_pair := He.glo_ok X G (c.c.fact 106 rfl)
  f_first_repeated := mkDf (x := "first_repeated") (q := "first_repeated") (st := s_first_repeated) (ps := ["store", "p"]) ("first_repeated", none) (mk_d (c.c.def_ 67 rfl) (c.kp 67 rfl) fun _ _ _ _ _ _ us hl => match us, hl with | [_, _], _ => rfl)
  g_first_repeated := He.glo_ok X G (c.c.fact 107 rfl)
  f_is_covered := mkDf (x := "is_covered") (q := "is_covered") (st := s_is_covered) (ps := ["store", "p", "q"]) ("is_covered", none) (mk_d (c.c.def_ 68 rfl) (c.kp 68 rfl) fun _ _ _ _ _ _ us hl => match us, hl with | [_, _, _], _ => rfl)
  g_is_covered := He.glo_ok X G (c.c.fact 108 rfl)
  f_two_lists := mkDf (x := "two_lists") (q := "two_lists") (st := s_two_lists) (ps := ["store", "p", "q"]) ("two_lists", none) (mk_d (c.c.def_ 69 rfl) (c.kp 69 rfl) fun _ _ _ _ _ _ us hl => match us, hl with | [_, _, _], _ => rfl)
  g_two_lists := He.glo_ok X G (c.c.fact 109 rfl)
  f_listed_cells := mkDf (x := "listed_cells") (q := "listed_cells") (st := s_listed_cells) (ps := ["view"]) ("listed_cells", none) (mk_d (c.c.def_ 70 rfl) (c.kp 70 rfl) fun _ _ _ _ _ _ us hl => match us, hl with | [_], _ => rfl)
  g_listed_cells := He.glo_ok X G (c.c.fact 110 rfl)
  f_numbers_by_cell := mkDf (x := "numbers_by_cell") (q := "numbers_by_cell") (st := s_numbers_by_cell) (ps := ["cells"]) ("numbers_by_cell", none) (mk_d (c.c.def_ 71 rfl) (c.kp 71 rfl) fun _ _ _ _ _ _ us hl => match us, hl with | [_], _ => rfl)
  g_numbers_by_cell := He.glo_ok X G (c.c.fact 111 rfl)
  f_Store_init := mkDf (x := "__init__") (q := "Store.__init__") (st := s_Store_init) (ps := ["self"]) ("Store", some "__init__") (mk_d (c.c.def_ 72 rfl) (c.kp 72 rfl) fun _ _ _ _ _ _ us hl => match us, hl with | [_], _ => rfl)
  mk_Store := He.mkr_ok (c.c.fact 112 rfl)
  f_Store_resize := mkDf (x := "resize") (q := "Store.resize") (st := s_Store_resize) (ps := ["self", "array_length"]) ("Store", some "resize") (mk_d (c.c.def_ 73 rfl) (c.kp 73 rfl) fun _ _ _ _ _ _ us hl => match us, hl with | [_, _], _ => rfl)
  m_Store_resize := He.meth_ok (c.c.fact 113 rfl)
  f_Store_require := mkDf (x := "require") (q := "Store.require") (st := s_Store_require) (ps := ["self", "number"]) ("Store", some "require") (mk_d (c.c.def_ 74 rfl) (c.kp 74 rfl) fun _ _ _ _ _ _ us hl => match us, hl with | [_, _], _ => rfl)
  m_Store_require := He.meth_ok (c.c.fact 114 rfl)
  f_Store_view_in := mkDf (x := "view_in") (q := "Store.view_in") (st := s_Store_view_in) (ps := ["self", "number"]) ("Store", some "view_in") (mk_d (c.c.def_ 75 rfl) (c.kp 75 rfl) fun _ _ _ _ _ _ us hl => match us, hl with | [_, _], _ => rfl)
  m_Store_view_in := He.meth_ok (c.c.fact 115 rfl)
  f_Store_put_view := mkDf (x := "put_view") (q := "Store.put_view") (st := s_Store_put_view) (ps := ["self", "number", "view"]) ("Store", some "put_view") (mk_d (c.c.def_ 76 rfl) (c.kp 76 rfl) fun _ _ _ _ _ _ us hl => match us, hl with | [_, _, _], _ => rfl)
  m_Store_put_view := He.meth_ok (c.c.fact 116 rfl)
  f_answers := mkDf (x := "answers") (q := "answers") (st := s_answers) (ps := ["calls"]) ("answers", none) (mk_d (c.c.def_ 77 rfl) (c.kp 77 rfl) fun _ _ _ _ _ _ us hl => match us, hl with | [_], _ => rfl)
  g_answers := He.glo_ok X G (c.c.fact 117 rfl)
  f_read_rows := mkDf (x := "read_rows") (q := "read_rows") (st := s_read_rows) (ps := ["calls", "start", "count"]) ("read_rows", none) (mk_d (c.c.def_ 78 rfl) (c.kp 78 rfl) fun _ _ _ _ _ _ us hl => match us, hl with | [_, _, _], _ => rfl)
  g_read_rows := He.glo_ok X G (c.c.fact 118 rfl)
  f_answer_or_code := mkDf (x := "answer_or_code") (q := "answer_or_code") (st := s_answer_or_code) (ps := ["store", "operation", "numbers", "rows"]) ("answer_or_code", none) (mk_d (c.c.def_ 79 rfl) (c.kp 79 rfl) fun _ _ _ _ _ _ us hl => match us, hl with | [_, _, _, _], _ => rfl)
  g_answer_or_code := He.glo_ok X G (c.c.fact 119 rfl)
  f_answer_to := mkDf (x := "answer_to") (q := "answer_to") (st := s_answer_to) (ps := ["store", "operation", "numbers", "rows"]) ("answer_to", none) (mk_d (c.c.def_ 80 rfl) (c.kp 80 rfl) fun _ _ _ _ _ _ us hl => match us, hl with | [_, _, _, _], _ => rfl)
  g_answer_to := He.glo_ok X G (c.c.fact 120 rfl)
  f_small_views_answer := mkDf (x := "small_views_answer") (q := "small_views_answer") (st := s_small_views_answer) (ps := ["store", "operation", "numbers"]) ("small_views_answer", none) (mk_d (c.c.def_ 81 rfl) (c.kp 81 rfl) fun _ _ _ _ _ _ us hl => match us, hl with | [_, _, _], _ => rfl)
  g_small_views_answer := He.glo_ok X G (c.c.fact 121 rfl)
/-- what the run looks at -/
def eObs (K : PySem.W.Frag) : He.Al × Bool := (He.obsE eFa eFn K, eB K)
/-- the objects that the text's names reach, by a first run (addrs.lean.txt) -/
def eAs : List Nat := [2, 3, 6, 4, 21, 28, 35, 87, 98, 105, 112, 119, 126, 143, 163, 182, 201, 220, 239, 258, 277, 296, 315, 334, 353, 372, 381, 388, 395, 402, 409, 416, 445, 454, 459, 464, 469, 474, 479, 494, 505, 512, 517, 522, 527, 534, 541, 548, 555, 562, 569, 576, 583, 588, 593, 598, 603, 610, 617, 624, 631, 636, 641, 648, 655, 662, 669, 674, 681, 726, 747, 754, 761, 768, 775, 782, 20, 27, 34, 86, 97, 104, 111, 118, 125, 142, 162, 181, 200, 219, 238, 257, 276, 295, 314, 333, 352, 371, 380, 387, 394, 401, 408, 415, 444, 453, 458, 463, 468, 473, 478, 493, 504, 511, 516, 521, 526, 533, 540, 547, 554, 561, 568, 575, 582, 587, 592, 597, 602, 609, 616, 623, 630, 635, 640, 647, 654, 661, 668, 673, 680, 725, 731, 732, 733, 734, 735, 736, 737, 738, 739, 740, 741, 742, 743, 744, 745, 746, 753, 760, 767, 774, 781, 15, 16, 17, 18, 19, 22, 23, 24, 25, 26, 29, 30, 31, 32, 33, 49, 56, 63, 70, 77, 84, 85, 88, 89, 92, 93, 94, 95, 96, 99, 100, 101, 102, 103, 106, 107, 108, 109, 110, 113, 114, 115, 116, 117, 120, 121, 122, 123, 124, 140, 141, 144, 160, 161, 179, 180, 198, 199, 217, 218, 236, 237, 255, 256, 274, 275, 293, 294, 312, 313, 331, 332, 350, 351, 369, 370, 375, 376, 377, 378, 379, 382, 383, 384, 385, 386, 389, 390, 391, 392, 393, 396, 397, 398, 399, 400, 403, 404, 405, 406, 407, 410, 411, 412, 413, 414, 428, 435, 442, 443, 446, 447, 450, 451, 452, 455, 456, 457, 460, 461, 462, 465, 466, 467, 470, 471, 472, 475, 476, 477, 491, 492, 495, 496, 499, 500, 501, 502, 503, 506, 507, 508, 509, 510, 513, 514, 515, 518, 519, 520, 523, 524, 525, 528, 529, 530, 531, 532, 535, 536, 537, 538, 539, 542, 543, 544, 545, 546, 549, 550, 551, 552, 553, 556, 557, 558, 559, 560, 563, 564, 565, 566, 567, 570, 571, 572, 573, 574, 577, 578, 579, 580, 581, 584, 585, 586, 589, 590, 591, 594, 595, 596, 599, 600, 601, 604, 605, 606, 607, 608, 611, 612, 613, 614, 615, 618, 619, 620, 621, 622, 625, 626, 627, 628, 629, 632, 633, 634, 637, 638, 639, 642, 643, 644, 645, 646, 649, 650, 651, 652, 653, 656, 657, 658, 659, 660, 663, 664, 665, 666, 667, 670, 671, 672, 675, 676, 677, 678, 679, 695, 702, 709, 716, 723, 724, 727, 728, 748, 749, 750, 751, 752, 755, 756, 757, 758, 759, 762, 763, 764, 765, 766, 769, 770, 771, 772, 773, 776, 777, 778, 779, 780, 48, 55, 62, 69, 76, 83, 139, 159, 178, 197, 216, 235, 254, 273, 292, 311, 330, 349, 368, 427, 434, 441, 490, 694, 701, 708, 715, 722, 43, 44, 45, 46, 47, 50, 51, 52, 53, 54, 57, 58, 59, 60, 61, 64, 65, 66, 67, 68, 71, 72, 73, 74, 75, 78, 79, 80, 81, 82, 134, 135, 136, 137, 138, 154, 155, 156, 157, 158, 173, 174, 175, 176, 177, 192, 193, 194, 195, 196, 211, 212, 213, 214, 215, 230, 231, 232, 233, 234, 249, 250, 251, 252, 253, 268, 269, 270, 271, 272, 287, 288, 289, 290, 291, 306, 307, 308, 309, 310, 325, 326, 327, 328, 329, 344, 345, 346, 347, 348, 363, 364, 365, 366, 367, 424, 425, 426, 429, 430, 431, 432, 433, 436, 437, 438, 439, 440, 487, 488, 489, 689, 690, 691, 692, 693, 696, 697, 698, 699, 700, 703, 704, 705, 706, 707, 710, 711, 712, 713, 714, 717, 718, 719, 720, 721]
def eG (g : Addr → Option Obj) : PySem.W.Frag := He.frG g eAs
def eHook : PySem.W.Hook := ⟨He.Al × Bool, fun s => eObs (eG s.heap.get?), fun _ => (He.valE eFn, true), fun _ h => ∃ K : PySem.W.Frag, K.In h ∧ SaysOv K,
  fun _ _ e => ⟨_, He.frG_in, ⟨congrArg (fun z : He.Al × Bool => z.1) e, congrArg (fun z : He.Al × Bool => z.2) e⟩⟩, fun _ _ _ ⟨K, hK, c⟩ k => ⟨K, PySem.W.Frag.In.keeps hK k, c⟩⟩
def eOb (s : PySem.W.SharedT) : He.Al × Bool := eObs (eG (HandSHeadRun.getT s))
theorem eOb_eq (s : PySem.W.SharedT) : eOb s = eHook.obs s.abs := by
  have e : HandSHeadRun.getT s = s.abs.heap.get? := funext (HandSHeadRun.getT_eq s)
  unfold eOb
  rw [e] <;> rfl
def eNames_0 : List Str := ["BISECTION",
  "BY_RANGE",
  "BY_DIVISIBILITY",
  "BY_PAIR",
  "GREATEST",
  "REGISTER_COUNT",
  "AXIS_LIMIT",
  "VARIABLE_LIMIT",
  "ELEMENT_LIMIT",
  "BOX_LIMIT",
  "FORMS",
  "Box",
  "Refusal",
  "NoSuchRegister",
  "ArrayLengthOutOfRange",
  "NotAnIndex",
  "NotAxes",
  "AxisLengthOutOfRange",
  "ViewTooLarge",
  "CellOutsideArray"]
def eNames_1 : List Str := ["NotVariables",
  "VariableOutOfRange",
  "SearchLimitExceeded",
  "TooManyElements",
  "NotOneCertificate",
  "Equation",
  "View",
  "Store",
  "common_divisor",
  "inverse_for",
  "ceiling_quotient",
  "whole_box",
  "box_after",
  "narrowed",
  "least_values",
  "least_pair",
  "search",
  "push_halves",
  "separated",
  "is_one_certificate"]
def eNames_2 : List Str := ["is_valid",
  "is_true_claim",
  "free_places",
  "tail_sums",
  "shared_equation",
  "repetition_axes",
  "repetition_equation",
  "represented_differences",
  "product",
  "whole_view",
  "lies_within",
  "is_index",
  "cell_of",
  "set_length",
  "set_view",
  "get_view",
  "cell_at",
  "solve",
  "check_certificate",
  "find_shared"]
def eNames_3 : List Str := ["prove_disjoint",
  "find_repetition",
  "prove_distinct",
  "view_from",
  "equation_from",
  "is_pairs",
  "validity",
  "counted",
  "elements_with_cell",
  "cell_statistics",
  "shared_statistics",
  "first_shared_pair",
  "first_repeated",
  "is_covered",
  "two_lists",
  "listed_cells",
  "numbers_by_cell",
  "read_rows",
  "answer_or_code",
  "answer_to"]
def eNames_4 : List Str := ["small_views_answer"]
def eNames : List Str := eNames_0 ++ eNames_1 ++ eNames_2 ++ eNames_3 ++ eNames_4
abbrev eV : Program := PySem.W.view PySem.Challenge.rw_viewoverlap_s01_answers.prog [87]
def eI : Nat := 87
end Ov
end

section
set_option Elab.async false
set_option linter.all false
set_option maxRecDepth 100000
set_option maxHeartbeats 0
/-! The head's run, the end. -/
namespace Ov
open PySem PySem.W PySem.Calls PyProof.Rows
abbrev eR : OpenSpec := PySem.Challenge.rw_viewoverlap_s01_answers
/-! the run is looked at four times, each time at a part: one kernel check of all would want too much memory -/
noncomputable abbrev eEndOf (w : World) (os : OsState) : Option SharedT := HeadRun.endF (HeadRun.stepQ (HeadRun.denQ HeadRun.tabQ) eR.prog w) 12000 eR.prog w os
theorem eRunA (w : World) (os : OsState) : (eEndOf w os).map (fun s => (HeadRun.looksF eR.prog (boot_heap w.params) s.abs, HeadRun.seenQ eV eNames (importedModules eR.prog.main.body) (fun s => xlAt eV [] s && recOk [] s) s.abs)) = some (true, openGood eV eNames) := by
  kernel_rfl
theorem eRunF (w : World) (os : OsState) : (eEndOf w os).map (fun s => eFa.all fun f => f.ok (eG (HandSHeadRun.getT s))) = some true := by
  kernel_rfl
theorem eRunD (w : World) (os : OsState) : (eEndOf w os).map (fun s => (eFn.all fun d => (He.Fa.code d.at_ d.qual).ok (eG (HandSHeadRun.getT s)), eFn.map fun d => He.fnObs (eG (HandSHeadRun.getT s)) d.at_)) = some (true, eFn.map He.FnD.val) := by
  kernel_rfl
theorem eRunB (w : World) (os : OsState) : (eEndOf w os).map (fun s => eB (eG (HandSHeadRun.getT s))) = some true := by
  kernel_rfl
theorem eRun (w : World) : HeadRun.RunEqS eR eV eHook eOb 12000 eNames w := by
  intro os
  have a := eRunA w os
  have f := eRunF w os
  have d := eRunD w os
  have b := eRunB w os
  show (eEndOf w os).map _ = _
  generalize eEndOf w os = o at a f d b ⊢
  cases o with
  | none => cases a
  | some s =>
    have a := Option.some.inj a
    have f := Option.some.inj f
    have d := Option.some.inj d
    have b := Option.some.inj b
    dsimp only at a f d b
    rw [Prod.mk.injEq] at a d
    show some (_, _, ((_ && _, _), _)) = some (true, openGood eV eNames, ((true, _), true))
    rw [a.1, a.2, f, d.1, d.2, b]
    rfl
theorem eEnd {K : PySem.W.Frag} (c : SaysOv K) (w : World) (mg : Str → Option Value) (fa : Addr) (h : Heap) (X : K.In h) (G : h.Ns PySem.mainGlobals mg) (hmg : mg (HandSHeadRun.topDef eR.prog eI).name = some (.ref fa)) :
    ∃ fd : FuncData, (∀ (s : Shared) (us : List Value), us.length = (["calls"] : List Str).length → BindsTo s fd ⟨us, []⟩ ((["calls"] : List Str).zip us)) ∧
      ∀ base : Heap, K.In base → base.Ns PySem.mainGlobals mg → L2.FnOk eR.prog w K mg base L2.CX0 12 fa fd ["calls"] (spAnswers K) := by
  have T := top_of X G c
  have e : (HandSHeadRun.topDef eR.prog eI).name = ("answers" : Str) := by kernel_rfl
  rw [e] at hmg
  have e2 := hmg.symm.trans T.g_answers
  injection e2 with e2
  injection e2 with e2
  subst e2
  refine ⟨T.f_answers.d, fun s us hu => ?_, fun base _ _ => ok_answers T⟩
  obtain ⟨oc, od, kV, doc, pm, an, cdv, ct, osl, ed, _⟩ := T.f_answers.F.ex
  rw [ed]
  match us, hu with
  | [_], _ => exact .of_eq rfl
theorem len_of {a : Codec.denoteAll PySem.Challenge.rw_viewoverlap_s01_answers.args} (h : Codec.withinAll PySem.Challenge.rw_viewoverlap_s01_answers.args a = true) : a.1.length ≤ 100000 := by
  have h : Codec.inPair (Codec.inList 0 17000 _) _ a = true := h
  unfold Codec.inPair Codec.inList Codec.inLen Codec.inNat at h
  simp only [Bool.and_eq_true] at h
  have q := h.1.1.2
  have : a.1.length ≤ 17000 := of_decide_eq_true q
  omega
end Ov
open PySem PySem.W PyProof.Rows
set_option maxRecDepth 100000 in
set_option maxHeartbeats 8000000 in
theorem PySem.Challenge.cw_viewoverlap_s01_answers_holds : PySem.Challenge.rw_viewoverlap_s01_answers.Holds := by
  w_on
  refine HeadRun.head_spec (r := Ov.eR) (q := Ov.eV) (H := Ov.eHook) (ob := Ov.eOb) (M := 12000) (loose := Ov.eNames) (d := HandSHeadRun.topDef Ov.eR.prog Ov.eI) (kwd := []) Ov.eOb_eq
    (by kernel_rfl) (fun s => by kernel_rfl) Ov.eRun (by kernel_rfl) (by kernel_rfl) (by kernel_rfl) os_shapes (by first | assumption | decide +kernel) (by decide +kernel) ⟨rfl, rfl, rfl, rfl, rfl, by decide +kernel⟩ ?hw ?hc
  case hw => exact ⟨[.list [.int 2, .int 0]], by decide +kernel, by decide +kernel⟩
  case hc =>
    intro w s0 s1 mg mb G Y
    obtain ⟨K, hK, c⟩ := Y
    refine L2.walk_specK (r := Ov.eR) (k := 12) (CX := L2.CX0) (ps := ["calls"]) (sp := Ov.spAnswers) (K := fun _ => K) (YP := fun _ h => K.In h ∧ Ov.SaysOv K) (by decide +kernel) (by kernel_rfl) (by kernel_rfl) ⟨by decide, by decide, by decide⟩ (fun _ _ y => y.1)
      (fun w mg fa h y X G hmg => Ov.eEnd c w mg fa h X G hmg) ?S (fun _ _ _ _ z => z) w s0 s1 mg mb G ⟨hK, c⟩
    intro K H xs a hO hwi hask hx
    cases hx with
    | cons h1 h2 =>
      cases h2
      cases h1 with
      | lst hs ha =>
        have e := L2.ints_dw a.1 _ ha
        subst e
        obtain ⟨cs, hcs⟩ := Ov.asked_is hask
        exact ⟨_, a.1, cs, rfl, hs, Ov.len_of hwi, hcs, fun H' p hp => .lst (L2.SqL.of hp) (L2.dw_ints _)⟩
#print axioms PySem.Challenge.cw_viewoverlap_s01_answers_holds
end
