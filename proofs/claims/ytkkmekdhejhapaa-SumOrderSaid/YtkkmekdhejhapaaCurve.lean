/- What is proved here: the points of a curve y y = x x x + b over a field are a commutative group; how often a point is taken, reckoned by doubling and adding over codes of numbers, with inverses that are tried; sums of points of y y = x x x + b without division: what the formulas for three numbers make is the sum, if no point has the second number 0. -/
import Derived.WalkKit
namespace Go.Proofs.Ytkkmekdhejhapaa
namespace Cv
abbrev clsOf {C : Type → Type} {α : Type} (_ : C α) : Type → Type := C
abbrev Rg : Type → Type := clsOf Dyadic.instCommRing
structure Fd (F : Type) [Rg F] where
  inv : F → F
  mul_inv : ∀ a : F, a ≠ 0 → a * inv a = 1
  two : (2 : F) ≠ 0
  three : (3 : F) ≠ 0
section
variable {F : Type} [Rg F]
theorem Fd.nz (K : Fd F) {a b : F} (h : a * b = 0) (ha : a ≠ 0) : b = 0 := by
  have := K.mul_inv a ha
  grind
theorem Fd.cancel (K : Fd F) {a b c : F} (h : a * b = a * c) (ha : a ≠ 0) : b = c := by
  have := K.mul_inv a ha
  grind
theorem Fd.sq (K : Fd F) {a : F} (h : a * a = 0) : a = 0 := by
  by_cases ha : a = 0
  · exact ha
  · exact K.nz h ha
theorem Fd.neg_self (K : Fd F) {a : F} (h : a = -a) : a = 0 := by
  have h2 : (2 : F) * a = 0 := by grind
  exact K.nz h2 K.two
theorem sub_ne {a b : F} (h : a ≠ b) : b - a ≠ 0 := fun e => h (by grind)
inductive Pt (F : Type) where
  | inf : Pt F
  | aff : F → F → Pt F
def On (b : F) : Pt F → Prop
  | .inf => True
  | .aff x y => y * y = x * x * x + b
def ng : Pt F → Pt F
  | .inf => .inf
  | .aff x y => .aff x (-y)
def Slope (x1 y1 x2 y2 l : F) : Prop := (x1 ≠ x2 ∧ l * (x2 - x1) = y2 - y1) ∨ (x1 = x2 ∧ y1 = y2 ∧ y1 ≠ 0 ∧ l * (2 * y1) = 3 * x1 * x1)
def third (x1 y1 x2 l : F) : Pt F := .aff (l * l - x1 - x2) (l * (x1 - (l * l - x1 - x2)) - y1)
def Sum : Pt F → Pt F → Pt F → Prop
  | .inf, Q, R => R = Q
  | .aff x y, .inf, R => R = .aff x y
  | .aff x1 y1, .aff x2 y2, R => (x1 = x2 ∧ y1 = -y2 ∧ R = .inf) ∨ ∃ l, Slope x1 y1 x2 y2 l ∧ ¬ (x1 = x2 ∧ y1 = -y2) ∧ R = third x1 y1 x2 l
variable {b : F}
theorem Slope.line (K : Fd F) {x1 y1 x2 y2 l : F} (h : Slope x1 y1 x2 y2 l) (h1 : y1 * y1 = x1 * x1 * x1 + b) (h2 : y2 * y2 = x2 * x2 * x2 + b) :
    y2 = y1 + l * (x2 - x1) ∧ (3 * x2 * x2 - 2 * y2 * l = (x2 - x1) * (x2 - (l * l - x1 - x2))) ∧ (3 * x1 * x1 - 2 * y1 * l = (x1 - x2) * (x1 - (l * l - x1 - x2)))
    ∧ ∀ x : F, x * x * x + b - (y1 + l * (x - x1)) * (y1 + l * (x - x1)) = (x - x1) * (x - x2) * (x - (l * l - x1 - x2)) := by
  rcases h with ⟨hne, hl⟩ | ⟨rfl, rfl, hy, hl⟩
  · have hd : x2 - x1 ≠ 0 := fun h => hne (by grind)
    have key : x1 * x1 + x1 * x2 + x2 * x2 = l * (y1 + y2) := by
      refine K.cancel (a := x2 - x1) ?_ hd
      grind
    refine ⟨by grind, ?_, ?_, fun x => ?_⟩
    · grind
    · grind
    · grind
  · refine ⟨by grind, by grind, by grind, fun x => by grind⟩
theorem Slope.uniq (K : Fd F) {x1 y1 x2 y2 l l' : F} (h : Slope x1 y1 x2 y2 l) (h' : Slope x1 y1 x2 y2 l') : l = l' := by
  rcases h with ⟨hne, hl⟩ | ⟨hx, hy, h0, hl⟩ <;> rcases h' with ⟨hne', hl'⟩ | ⟨hx', hy', h0', hl'⟩
  · exact K.cancel (a := x2 - x1) (by grind) (by grind)
  · exact absurd hx' hne
  · exact absurd hx hne'
  · refine K.cancel (a := 2 * y1) (by grind) (fun h => h0 (K.nz h K.two))
theorem Slope.symm {x1 y1 x2 y2 l : F} (h : Slope x1 y1 x2 y2 l) : Slope x2 y2 x1 y1 l := by
  rcases h with ⟨hne, hl⟩ | ⟨rfl, rfl, h0, hl⟩
  · exact .inl ⟨fun e => hne e.symm, by grind⟩
  · exact .inr ⟨rfl, rfl, h0, hl⟩
theorem Slope.neg {x1 y1 x2 y2 l : F} (h : Slope x1 y1 x2 y2 l) : Slope x1 (-y1) x2 (-y2) (-l) := by
  rcases h with ⟨hne, hl⟩ | ⟨rfl, rfl, h0, hl⟩
  · exact .inl ⟨hne, by grind⟩
  · exact .inr ⟨rfl, rfl, by grind, by grind⟩
theorem third_symm {x1 y1 x2 y2 l : F} (e : y2 = y1 + l * (x2 - x1)) : third x1 y1 x2 l = third x2 y2 x1 l := by
  unfold third
  congr 1 <;> grind
theorem sum_uniq (K : Fd F) {P Q R R' : Pt F} (h : Sum P Q R) (h' : Sum P Q R') : R = R' := by
  match P, Q with
  | .inf, Q => exact h.trans h'.symm
  | .aff x y, .inf => exact h.trans h'.symm
  | .aff x1 y1, .aff x2 y2 =>
    rcases h with ⟨hx, hy, hR⟩ | ⟨l, hs, hn, hR⟩ <;> rcases h' with ⟨hx', hy', hR'⟩ | ⟨l', hs', hn', hR'⟩
    · rw [hR, hR']
    · exact absurd ⟨hx, hy⟩ hn'
    · exact absurd ⟨hx', hy'⟩ hn
    · rw [hR, hR', hs.uniq K hs']
theorem sum_comm (K : Fd F) {P Q R : Pt F} (hP : On b P) (hQ : On b Q) (h : Sum P Q R) : Sum Q P R := by
  match P, Q with
  | .inf, .inf => exact h
  | .inf, .aff x y => exact h
  | .aff x y, .inf => exact h
  | .aff x1 y1, .aff x2 y2 =>
    rcases h with ⟨hx, hy, hR⟩ | ⟨l, hs, hn, hR⟩
    · exact .inl ⟨hx.symm, by grind, hR⟩
    · exact .inr ⟨l, hs.symm, fun h => hn ⟨h.1.symm, by grind⟩, hR.trans (third_symm (hs.line K hP hQ).1)⟩
theorem sum_on (K : Fd F) {P Q R : Pt F} (hP : On b P) (hQ : On b Q) (h : Sum P Q R) : On b R := by
  match P, Q with
  | .inf, Q => rw [show R = Q from h]; exact hQ
  | .aff x y, .inf => rw [show R = .aff x y from h]; exact hP
  | .aff x1 y1, .aff x2 y2 =>
    rcases h with ⟨hx, hy, hR⟩ | ⟨l, hs, hn, hR⟩
    · rw [hR]; trivial
    · rw [hR]
      have := (hs.line K hP hQ).2.2.2 (l * l - x1 - x2)
      show (_ : F) = _
      grind
theorem sum_neg {P Q R : Pt F} (h : Sum P Q R) : Sum (ng P) (ng Q) (ng R) := by
  match P, Q with
  | .inf, Q => rw [show R = Q from h]; exact rfl
  | .aff x y, .inf => rw [show R = .aff x y from h]; exact rfl
  | .aff x1 y1, .aff x2 y2 =>
    rcases h with ⟨hx, hy, hR⟩ | ⟨l, hs, hn, hR⟩
    · exact .inl ⟨hx, by grind, by rw [hR]; rfl⟩
    · refine .inr ⟨-l, hs.neg, fun h => hn ⟨h.1, by grind⟩, ?_⟩
      rw [hR]
      show Pt.aff _ _ = Pt.aff _ _
      congr 1 <;> grind
theorem ng_ng (P : Pt F) : ng (ng P) = P := by
  cases P with
  | inf => rfl
  | aff x y => show Pt.aff _ _ = _; congr 1; grind
theorem on_ng {P : Pt F} (h : On b P) : On b (ng P) := by
  cases P with
  | inf => trivial
  | aff x y => show _ * _ = _; have : y * y = x * x * x + b := h; grind
theorem sum_ng (P : Pt F) : Sum P (ng P) .inf := by
  cases P with
  | inf => rfl
  | aff x y => exact .inl ⟨rfl, by grind, rfl⟩
theorem sum_back (K : Fd F) (hb : b ≠ 0) {P Q R : Pt F} (hP : On b P) (hQ : On b Q) (h : Sum P Q R) : Sum (ng P) R Q := by
  match P, Q with
  | .inf, Q => exact (show R = Q from h).symm
  | .aff x y, .inf =>
    rw [show R = .aff x y from h]
    exact .inl ⟨rfl, rfl, rfl⟩
  | .aff x1 y1, .aff x2 y2 =>
    rcases h with ⟨rfl, hy, hR⟩ | ⟨l, hs, hn, hR⟩
    · rw [hR]
      show Pt.aff _ _ = Pt.aff _ _
      congr 1; grind
    · rw [hR]
      obtain ⟨e1, e2, e3, e4⟩ := hs.line K hP hQ
      have hP' : y1 * y1 = x1 * x1 * x1 + b := hP
      have hn' : ¬ (x1 = l * l - x1 - x2 ∧ -y1 = -(l * (x1 - (l * l - x1 - x2)) - y1)) := by
        rintro ⟨h1, h2⟩
        have hy : y1 = 0 := K.neg_self (by grind)
        have hx : (3 : F) * (x1 * x1) = 0 := by grind
        have := K.sq (K.nz hx K.three)
        exact hb (by grind)
      refine .inr ⟨-l, ?_, hn', ?_⟩
      · by_cases hx : x1 = l * l - x1 - x2
        · refine .inr ⟨hx, by grind, fun h0 => hn' ⟨hx, by grind⟩, by grind⟩
        · exact .inl ⟨hx, by grind⟩
      · show Pt.aff _ _ = Pt.aff _ _
        congr 1 <;> grind
theorem kt1 {x1 y1 x2 y2 x3 y3 x4 l1 l2 : F} (h3 : y3 * y3 = x3 * x3 * x3 + b) (e1 : y2 = y1 + l1 * (x2 - x1)) (e4 : x3 * x3 * x3 + b - (y1 + l1 * (x3 - x1)) * (y1 + l1 * (x3 - x1)) = (x3 - x1) * (x3 - x2) * (x3 - x4)) (hl : l2 * (x3 - x2) = y3 - y2) :
    (x3 - x2) * ((x3 - x1) * (x3 - x4)) = (x3 - x2) * ((l2 - l1) * (y3 + (y1 + l1 * (x3 - x1)))) := by
  have e : (x3 - x2) * (l2 - l1) = y3 - (y1 + l1 * (x3 - x1)) := by clear e4 h3; rw [e1] at hl; grind
  have e' : (x3 - x2) * ((l2 - l1) * (y3 + (y1 + l1 * (x3 - x1)))) = (y3 - (y1 + l1 * (x3 - x1))) * (y3 + (y1 + l1 * (x3 - x1))) := by rw [← e]; grind
  rw [e']
  generalize y1 + l1 * (x3 - x1) = L at *
  clear e e' hl e1
  grind
theorem kt2 {x1 y1 x2 y2 x4 l1 l2 : F} (e1 : y2 = y1 + l1 * (x2 - x1)) (e2 : 3 * x2 * x2 - 2 * y2 * l1 = (x2 - x1) * (x2 - x4)) (hl : l2 * (2 * y2) = 3 * x2 * x2) :
    (x2 - x1) * (x2 - x4) = (l2 - l1) * (y2 + (y1 + l1 * (x2 - x1))) := by
  rw [← e1, ← e2, ← hl]
  clear e1 e2 hl
  grind
theorem ks1 {x1 y1 x3 y3 x4 l1 l2 m : F} (hT : (x3 - x1) * (x3 - x4) = (l2 - l1) * (y3 + (y1 + l1 * (x3 - x1)))) (hl : m * (x3 - x4) = y3 - (l1 * (x1 - x4) - y1)) :
    (x3 - x4) * ((m + l1) * (l2 - l1)) = (x3 - x4) * (x3 - x1) := by
  have e : (x3 - x4) * (m + l1) = y3 + (y1 + l1 * (x3 - x1)) := by grind
  have e' : (x3 - x4) * ((m + l1) * (l2 - l1)) = (l2 - l1) * (y3 + (y1 + l1 * (x3 - x1))) := by rw [← e]; grind
  rw [e', ← hT]
  grind
theorem ks2 {x1 y1 x2 y2 x4 y3 l1 l2 m : F} (e1 : y2 = y1 + l1 * (x2 - x1)) (e6 : 3 * x4 * x4 + 2 * y3 * l1 = (x4 - x1) * (x4 - x2)) (hy : l1 * (x1 - x4) - y1 = y3) (hl : m * (2 * y3) = 3 * x4 * x4) (hl2 : l2 * (x4 - x2) = y3 - y2) :
    (x4 - x2) * ((m + l1) * (l2 - l1)) = (x4 - x2) * (x4 - x1) := by
  have e5 : 2 * y3 * (m + l1) = (x4 - x1) * (x4 - x2) := by rw [← e6, ← hl]; clear e1 e6 hl hy hl2; grind
  have e7 : (x4 - x2) * (l2 - l1) = 2 * y3 := by clear e6 e5 hl; grind
  have e8 : (x4 - x2) * ((m + l1) * (l2 - l1)) = 2 * y3 * (m + l1) := by rw [← e7]; grind
  rw [e8, e5]
  grind
theorem key (K : Fd F) {x1 y1 x2 y2 x3 y3 l1 l2 m : F} (h1 : y1 * y1 = x1 * x1 * x1 + b) (h2 : y2 * y2 = x2 * x2 * x2 + b) (h3 : y3 * y3 = x3 * x3 * x3 + b)
    (s1 : Slope x1 y1 x2 y2 l1) (s2 : Slope x2 y2 x3 y3 l2) (s : Slope (l1 * l1 - x1 - x2) (l1 * (x1 - (l1 * l1 - x1 - x2)) - y1) x3 y3 m) :
    (m + l1) * (l2 - l1) = x3 - x1 := by
  obtain ⟨e1, e2, e3, e4⟩ := s1.line K h1 h2
  have e6 : 3 * (l1 * l1 - x1 - x2) * (l1 * l1 - x1 - x2) + 2 * (l1 * (x1 - (l1 * l1 - x1 - x2)) - y1) * l1 = ((l1 * l1 - x1 - x2) - x1) * ((l1 * l1 - x1 - x2) - x2) := by
    have a0 := e4 0
    have a1 := e4 1
    clear e4 s1 s2 s h1 h2 h3 e2 e3
    grind
  replace e4 := e4 x3
  generalize hx4 : l1 * l1 - x1 - x2 = x4 at *
  have hT : (x3 - x1) * (x3 - x4) = (l2 - l1) * (y3 + (y1 + l1 * (x3 - x1))) := by
    rcases s2 with ⟨hne, hl⟩ | ⟨rfl, rfl, h0, hl⟩
    · exact K.cancel (a := x3 - x2) (kt1 h3 e1 e4 hl) (sub_ne hne)
    · exact kt2 e1 e2 hl
  rcases s with ⟨hne, hl⟩ | ⟨rfl, hy, h0, hl⟩
  · exact K.cancel (a := x3 - x4) (ks1 hT hl) (sub_ne hne)
  · rcases s2 with ⟨hne, hl2⟩ | ⟨rfl, rfl, h02, hl2⟩
    · rw [hy] at e6 hl
      exact K.cancel (a := x4 - x2) (ks2 e1 e6 hy hl hl2) (sub_ne hne)
    · exact absurd (K.neg_self (a := y2) (by clear e2 e3 e4 e6 hT hx4 hl h1 h2 h3 hl2 s1 h02; grind)) h02
theorem m5 {x2 y2 x3 y3 l2 : F} (f2 : y3 = y2 + l2 * (x3 - x2)) : l2 * (x3 - (l2 * l2 - x2 - x3)) - y3 = l2 * (x2 - (l2 * l2 - x2 - x3)) - y2 := by rw [f2]; clear f2; grind
theorem m6 {x1 y1 x2 y2 x3 y3 l : F} (f1 : y2 = y1 + l * (x2 - x1)) (f2 : y3 = y2 + l * (x3 - x2)) (hx : x3 = x1) : y3 = y1 := by
  rw [f2, f1, hx]
  clear f1 f2 hx
  grind
theorem m7 {l1 l2 k k' d e : F} (k1 : k * (l2 - l1) = d - e) (k2 : k' * (l1 - l2) = e - d) : (l2 - l1) * k = (l2 - l1) * k' := by grind
theorem m8 {x1 x2 x3 l1 l2 m1 m2 : F} (hk : m1 + l1 = m2 + l2) (k1 : (m1 + l1) * (l2 - l1) = x3 - x1) : m1 * m1 - (l1 * l1 - x1 - x2) - x3 = m2 * m2 - x1 - (l2 * l2 - x2 - x3) := by
  have e1 : m1 = (m1 + l1) - l1 := by clear hk k1; grind
  have e2 : m2 = (m1 + l1) - l2 := by rw [hk]; clear hk k1 e1; grind
  generalize m1 + l1 = k at *
  rw [e1, e2]
  clear e1 e2 hk
  grind
theorem m9 {x1 y1 x2 y2 x3 y3 l1 l2 m1 m2 x : F} (hk : m1 + l1 = m2 + l2) (k1 : (m1 + l1) * (l2 - l1) = x3 - x1) (f1 : y2 = y1 + l1 * (x2 - x1)) (f2 : y3 = y2 + l2 * (x3 - x2)) (f3 : y3 = l1 * (x1 - (l1 * l1 - x1 - x2)) - y1 + m1 * (x3 - (l1 * l1 - x1 - x2)))
    (hx : x = m1 * m1 - (l1 * l1 - x1 - x2) - x3) : m1 * (l1 * l1 - x1 - x2 - x) - (l1 * (x1 - (l1 * l1 - x1 - x2)) - y1) = m2 * (x1 - x) - y1 := by
  have e1 : m1 = (m1 + l1) - l1 := by clear hk k1 f1 f2 f3 hx; grind
  have e2 : m2 = (m1 + l1) - l2 := by rw [hk]; clear hk k1 e1 f1 f2 f3 hx; grind
  have e3 : y3 = y1 + l1 * (x2 - x1) + l2 * (x3 - x2) := by rw [f2, f1]
  have e4 : m1 * (l1 * l1 - x1 - x2 - x) - (l1 * (x1 - (l1 * l1 - x1 - x2)) - y1) = m1 * (x3 - x) - y3 := by rw [f3]; clear hk k1 f1 f2 f3 hx e1 e2 e3; grind
  rw [e4, e3]
  clear f1 f2 f3 e3 e4
  generalize m1 + l1 = k at *
  rw [e1] at hx ⊢
  rw [e2]
  clear e1 e2 hk
  have e5 : k * (l2 - l1) * x = (x3 - x1) * x := by rw [k1]
  have e6 : x = k * k - 2 * (k * l1) + x1 + x2 - x3 := by rw [hx]; clear hx e5 k1; grind
  have e7 : (l2 - l1) * x = (l2 - l1) * (k * k - 2 * (k * l1) + x1 + x2 - x3) := by rw [← e6]
  have e8 : (l2 - l1) * (k * k - 2 * (k * l1)) = (x3 - x1) * (k - 2 * l1) := by rw [← k1]; clear hx e5 e6 e7 k1; grind
  clear hx e5 e6 k1
  grind
theorem sum_assoc (K : Fd F) (hb : b ≠ 0) {A B C D E G H : Pt F} (hA : On b A) (hB : On b B) (hC : On b C) (hD : Sum A B D) (hE : Sum B C E) (hG : Sum D C G) (hH : Sum A E H) : G = H := by
  match A, B, C with
  | .inf, B, C =>
    rw [show D = B from hD] at hG
    rw [show H = E from hH]
    exact sum_uniq K hG hE
  | .aff x1 y1, .inf, C =>
    rw [show D = .aff x1 y1 from hD] at hG
    rw [show E = C from hE] at hH
    exact sum_uniq K hG hH
  | .aff x1 y1, .aff x2 y2, .inf =>
    rw [show E = .aff x2 y2 from hE] at hH
    have hG' := sum_comm K (sum_on K hA hB hD) hC hG
    rw [show G = D from hG']
    exact sum_uniq K hD hH
  | .aff x1 y1, .aff x2 y2, .aff x3 y3 =>
    have hBC := hE
    have hAB := hD
    have hDC := hG
    have hAE := hH
    have onD := sum_on K hA hB hD
    have onE := sum_on K hB hC hE
    rcases hD with ⟨hx, hy, rfl⟩ | ⟨l1, s1, n1, rfl⟩
    · have h := sum_back K hb hB hC hBC
      rw [show ng (Pt.aff x2 y2) = Pt.aff x1 y1 from by show Pt.aff _ _ = _; rw [hx, hy]] at h
      rw [show G = _ from hG]
      exact sum_uniq K h hAE
    rcases hE with ⟨hx, hy, rfl⟩ | ⟨l2, s2, n2, rfl⟩
    · have h := sum_comm K (on_ng hB) onD (sum_back K hb hB hA (sum_comm K hA hB hAB))
      rw [show ng (Pt.aff x2 y2) = Pt.aff x3 y3 from by show Pt.aff _ _ = _; rw [← hx]; congr 1; grind] at h
      rw [show H = _ from hH]
      exact sum_uniq K hDC h
    rcases hG with ⟨hx, hy, rfl⟩ | ⟨m1, s3, n3, rfl⟩
    · have h := sum_neg (sum_comm K hA hB hAB)
      have h := sum_back K hb (on_ng hB) (on_ng hA) h
      rw [ng_ng, show ng (third x1 y1 x2 l1) = Pt.aff x3 y3 from by show Pt.aff _ _ = _; congr 1; grind] at h
      have e := sum_uniq K hBC h
      rw [e] at hAE
      exact sum_uniq K (sum_ng _) hAE
    rcases hH with ⟨hx, hy, rfl⟩ | ⟨m2, s4, n4, rfl⟩
    · have h := sum_neg hBC
      rw [show ng (third x2 y2 x3 l2) = Pt.aff x1 y1 from by show Pt.aff _ _ = _; rw [hx, hy]] at h
      have h := sum_back K hb (on_ng hB) (on_ng hC) h
      rw [ng_ng] at h
      have e := sum_uniq K hAB (sum_comm K hB hA h)
      rw [e] at hDC
      exact sum_uniq K hDC (sum_comm K hC (on_ng hC) (sum_ng _))
    have hA' : y1 * y1 = x1 * x1 * x1 + b := hA
    have hB' : y2 * y2 = x2 * x2 * x2 + b := hB
    have hC' : y3 * y3 = x3 * x3 * x3 + b := hC
    have k1 := key K hA' hB' hC' s1 s2 s3
    obtain ⟨f1, -⟩ := s1.line K hA' hB'
    obtain ⟨f2, -⟩ := s2.line K hB' hC'
    obtain ⟨f3, -⟩ := s3.line K (show _ from onD) hC'
    have hs4 : Slope (l2 * l2 - x3 - x2) (l2 * (x3 - (l2 * l2 - x3 - x2)) - y3) x1 y1 m2 := by
      have h := s4.symm
      rw [show l2 * l2 - x3 - x2 = l2 * l2 - x2 - x3 from by grind, m5 f2]
      exact h
    have k2 := key K hC' hB' hA' s2.symm s1.symm hs4
    by_cases hl : l1 = l2
    · subst hl
      have hx : x3 = x1 := by clear k2; grind
      have hy : y3 = y1 := m6 f1 f2 hx
      subst hx
      subst hy
      have e := sum_uniq K hBC (sum_comm K hA hB hAB)
      rw [e] at hAE
      exact sum_uniq K hDC (sum_comm K hA onD hAE)
    · have hk : m1 + l1 = m2 + l2 := K.cancel (a := l2 - l1) (m7 k1 k2) (sub_ne hl)
      have ex : m1 * m1 - (l1 * l1 - x1 - x2) - x3 = m2 * m2 - x1 - (l2 * l2 - x2 - x3) := m8 hk k1
      show Pt.aff _ _ = Pt.aff _ _
      rw [← ex]
      congr 1
      exact m9 hk k1 f1 f2 f3 rfl
structure EP (b : F) where
  pt : Pt F
  on : On b pt
theorem EP.ext' {P Q : EP b} (h : P.pt = Q.pt) : P = Q := by
  obtain ⟨p, hp⟩ := P
  obtain ⟨q, hq⟩ := Q
  simp only at h
  subst h
  rfl
structure Cu (F : Type) [Rg F] (b : F) where
  K : Fd F
  nb : b ≠ 0
def EP.neg (P : EP b) : EP b := ⟨ng P.pt, on_ng P.on⟩
def EP.zero : EP b := ⟨.inf, trivial⟩
theorem EP.neg_neg (P : EP b) : P.neg.neg = P := EP.ext' (ng_ng P.pt)
section
variable [DecidableEq F]
def slopeOf (K : Fd F) (x1 y1 x2 y2 : F) : F := if x1 = x2 then 3 * x1 * x1 * K.inv (2 * y1) else (y2 - y1) * K.inv (x2 - x1)
def addP (K : Fd F) : Pt F → Pt F → Pt F
  | .inf, Q => Q
  | .aff x y, .inf => .aff x y
  | .aff x1 y1, .aff x2 y2 => if x1 = x2 ∧ y1 = -y2 then .inf else third x1 y1 x2 (slopeOf K x1 y1 x2 y2)
theorem slopeOf_slope (K : Fd F) {x1 y1 x2 y2 : F} (h1 : y1 * y1 = x1 * x1 * x1 + b) (h2 : y2 * y2 = x2 * x2 * x2 + b) (hn : ¬ (x1 = x2 ∧ y1 = -y2)) : Slope x1 y1 x2 y2 (slopeOf K x1 y1 x2 y2) := by
  unfold slopeOf
  split
  · next hx =>
    subst hx
    have h3 : (y1 + y2) * (y1 - y2) = 0 := by clear hn; grind
    have h4 : y1 + y2 ≠ 0 := fun h => hn ⟨rfl, by clear h1 h2 h3 hn; grind⟩
    have h5 : y1 = y2 := by
      have := K.nz h3 h4
      clear h1 h2 h3 h4 hn
      grind
    subst h5
    have h6 : y1 ≠ 0 := fun h => h4 (by rw [h]; clear h1 h2 h3 h4 hn h; grind)
    have h7 := K.mul_inv (2 * y1) (fun h => h6 (K.nz h K.two))
    refine .inr ⟨rfl, rfl, h6, ?_⟩
    generalize K.inv (2 * y1) = i at *
    clear h1 h2 h3 h4 h6 hn
    grind
  · next hx =>
    have h7 := K.mul_inv (x2 - x1) (sub_ne hx)
    refine .inl ⟨hx, ?_⟩
    generalize K.inv (x2 - x1) = i at *
    clear h1 h2 hn hx
    grind
theorem addP_sum (K : Fd F) {P Q : Pt F} (hP : On b P) (hQ : On b Q) : Sum P Q (addP K P Q) := by
  match P, Q with
  | .inf, Q => exact rfl
  | .aff x y, .inf => exact rfl
  | .aff x1 y1, .aff x2 y2 =>
    show Sum _ _ (if x1 = x2 ∧ y1 = -y2 then .inf else third x1 y1 x2 (slopeOf K x1 y1 x2 y2))
    by_cases h : x1 = x2 ∧ y1 = -y2
    · rw [if_pos h]
      exact .inl ⟨h.1, h.2, rfl⟩
    · rw [if_neg h]
      exact .inr ⟨_, slopeOf_slope K hP hQ h, h, rfl⟩
def EP.add (C : Cu F b) (P Q : EP b) : EP b := ⟨addP C.K P.pt Q.pt, sum_on C.K P.on Q.on (addP_sum C.K P.on Q.on)⟩
theorem EP.sum (C : Cu F b) (P Q : EP b) : Sum P.pt Q.pt (P.add C Q).pt := addP_sum C.K P.on Q.on
theorem EP.of_sum (C : Cu F b) {P Q R : EP b} (h : Sum P.pt Q.pt R.pt) : P.add C Q = R := EP.ext' (sum_uniq C.K (EP.sum C P Q) h)
theorem EP.add_comm (C : Cu F b) (P Q : EP b) : P.add C Q = Q.add C P := EP.of_sum C (sum_comm C.K Q.on P.on (EP.sum C Q P))
theorem EP.add_assoc (C : Cu F b) (P Q R : EP b) : (P.add C Q).add C R = P.add C (Q.add C R) :=
  EP.ext' (sum_assoc C.K C.nb P.on Q.on R.on (EP.sum C P Q) (EP.sum C Q R) (EP.sum C (P.add C Q) R) (EP.sum C P (Q.add C R)))
theorem EP.zero_add (C : Cu F b) (P : EP b) : EP.zero.add C P = P := EP.of_sum C rfl
theorem EP.add_zero (C : Cu F b) (P : EP b) : P.add C EP.zero = P := by rw [EP.add_comm, EP.zero_add]
def EP.times (C : Cu F b) : Nat → EP b → EP b
  | 0, _ => EP.zero
  | n + 1, P => (EP.times C n P).add C P
theorem EP.times_add (C : Cu F b) (m n : Nat) (P : EP b) : EP.times C (m + n) P = (EP.times C m P).add C (EP.times C n P) := by
  induction n with
  | zero => exact (EP.add_zero C _).symm
  | succ n ih =>
    show (EP.times C (m + n) P).add C P = (EP.times C m P).add C ((EP.times C n P).add C P)
    rw [ih, EP.add_assoc]
theorem EP.times_zero (C : Cu F b) (n : Nat) : EP.times C n (EP.zero : EP b) = EP.zero := by
  induction n with
  | zero => rfl
  | succ n ih =>
    show (EP.times C n EP.zero).add C EP.zero = _
    rw [ih, EP.zero_add]
theorem EP.times_mul (C : Cu F b) (m n : Nat) (P : EP b) : EP.times C (m * n) P = EP.times C m (EP.times C n P) := by
  induction m with
  | zero => rw [Nat.zero_mul]; rfl
  | succ m ih =>
    rw [Nat.succ_mul, EP.times_add, ih]
    rfl
theorem EP.times_sum (C : Cu F b) (n : Nat) (P Q : EP b) : EP.times C n (P.add C Q) = (EP.times C n P).add C (EP.times C n Q) := by
  induction n with
  | zero => exact (EP.zero_add C _).symm
  | succ n ih =>
    show (EP.times C n (P.add C Q)).add C (P.add C Q) = ((EP.times C n P).add C P).add C ((EP.times C n Q).add C Q)
    rw [ih, EP.add_assoc, EP.add_assoc, ← EP.add_assoc C (EP.times C n Q), EP.add_comm C (EP.times C n Q) P, EP.add_assoc]
end
end
end Cv
namespace Cv
structure Cod (F : Type) [Rg F] (C : Type) where
  is : C → F
  add : C → C → C
  sub : C → C → C
  mul : C → C → C
  inv : C → C
  one : C
  eq : C → C → Bool
  is_add : ∀ a b, is (add a b) = is a + is b
  is_sub : ∀ a b, is (sub a b) = is a - is b
  is_mul : ∀ a b, is (mul a b) = is a * is b
  is_one : is one = 1
  is_eq : ∀ a b, eq a b = true → is a = is b
section
variable {F : Type} [Rg F] {C : Type} {b : F}
def Cod.third (c : Cod F C) (p q : C × C) (l : C) : C × C :=
  let x := c.sub (c.sub (c.mul l l) p.1) q.1
  (x, c.sub (c.mul l (c.sub p.1 x)) p.2)
def Cod.sum (c : Cod F C) (p q : C × C) : Option (C × C) :=
  let i := c.inv (c.sub q.1 p.1)
  if c.eq (c.mul (c.sub q.1 p.1) i) c.one = true then some (c.third p q (c.mul (c.sub q.2 p.2) i)) else none
def Cod.pt (c : Cod F C) (p : C × C) : Pt F := .aff (c.is p.1) (c.is p.2)
theorem one_ne (K : Fd F) : (1 : F) ≠ 0 := fun h => K.two (by
  have h2 : (2 : F) = 1 + 1 := by clear h; grind
  rw [h2, h]
  clear h2 h
  grind)
end
end Cv
namespace Cv
section
variable {F : Type} [Rg F] {b : F}
structure Tri (F : Type) where
  x : F
  y : F
  z : F
def Tri.Is (t : Tri F) : Pt F → Prop
  | .inf => t.x = 0 ∧ t.z = 0 ∧ t.y ≠ 0
  | .aff x y => t.x = x * t.z ∧ t.y = y * t.z ∧ t.z ≠ 0
def plusX (c x1 y1 z1 x2 y2 z2 : F) : F := (x1 * y2 + y1 * x2) * (y1 * y2 - c * (z1 * z2)) - (y1 * z2 + z1 * y2) * (c * (x1 * z2 + z1 * x2))
def plusY (c x1 y1 z1 x2 y2 z2 : F) : F := (y1 * y2 + c * (z1 * z2)) * (y1 * y2 - c * (z1 * z2)) + 3 * (x1 * x2) * (c * (x1 * z2 + z1 * x2))
def plusZ (c x1 y1 z1 x2 y2 z2 : F) : F := (y1 * z2 + z1 * y2) * (y1 * y2 + c * (z1 * z2)) + 3 * (x1 * x2) * (x1 * y2 + y1 * x2)
def plusT (c : F) (s t : Tri F) : Tri F := ⟨plusX c s.x s.y s.z t.x t.y t.z, plusY c s.x s.y s.z t.x t.y t.z, plusZ c s.x s.y s.z t.x t.y t.z⟩
def twiceX (c x y z : F) : F := 2 * (x * y) * (y * y - 3 * (c * (z * z)))
def twiceY (c _x y z : F) : F := (y * y + c * (z * z)) * (y * y - 3 * (c * (z * z))) + 8 * (y * y) * (c * (z * z))
def twiceZ (_c _x y z : F) : F := 8 * (y * y) * (y * z)
def twiceT (c : F) (s : Tri F) : Tri F := ⟨twiceX c s.x s.y s.z, twiceY c s.x s.y s.z, twiceZ c s.x s.y s.z⟩
theorem Fd.ne_mul (K : Fd F) {a b : F} (ha : a ≠ 0) (hb : b ≠ 0) : a * b ≠ 0 := fun h => hb (K.nz h ha)
theorem plus_scale (c x1 y1 s x2 y2 t : F) : plusX c (x1 * s) (y1 * s) s (x2 * t) (y2 * t) t = plusX c x1 y1 1 x2 y2 1 * (s * s * (t * t)) ∧ plusY c (x1 * s) (y1 * s) s (x2 * t) (y2 * t) t = plusY c x1 y1 1 x2 y2 1 * (s * s * (t * t))
    ∧ plusZ c (x1 * s) (y1 * s) s (x2 * t) (y2 * t) t = plusZ c x1 y1 1 x2 y2 1 * (s * s * (t * t)) := by
  unfold plusX plusY plusZ
  refine ⟨by grind, by grind, by grind⟩
theorem chord_z {x1 y1 x2 y2 m d : F} (hm : m * (x2 - x1) = -y2 - y1) (k : x1 * x1 + x1 * x2 + x2 * x2 = m * (y1 - y2)) (h1 : y1 * y1 = x1 * x1 * x1 + b)
    (hd : d = m * (x1 - (m * m - x1 - x2)) - y1) : plusZ (3 * b) x1 y1 1 x2 y2 1 = d * ((x2 - x1) * ((x2 - x1) * (x2 - x1))) := by
  unfold plusZ
  subst hd
  have e : y2 = -y1 - m * (x2 - x1) := by grind
  subst e
  have e : b = y1 * y1 - x1 * x1 * x1 := by grind
  subst e
  grind
theorem chord_x {x1 y1 x2 y2 l : F} (hl : l * (x2 - x1) = y2 - y1) (k : x1 * x1 + x1 * x2 + x2 * x2 = l * (y1 + y2)) (h1 : y1 * y1 = x1 * x1 * x1 + b) :
    plusX (3 * b) x1 y1 1 x2 y2 1 = (l * l - x1 - x2) * plusZ (3 * b) x1 y1 1 x2 y2 1 := by
  unfold plusX plusZ
  have e : y2 = y1 + l * (x2 - x1) := by grind
  subst e
  have e : b = y1 * y1 - x1 * x1 * x1 := by grind
  subst e
  clear hl h1
  grind
theorem chord_y {x1 y1 x2 y2 l : F} (hl : l * (x2 - x1) = y2 - y1) (k : x1 * x1 + x1 * x2 + x2 * x2 = l * (y1 + y2)) (h1 : y1 * y1 = x1 * x1 * x1 + b) :
    plusY (3 * b) x1 y1 1 x2 y2 1 = (l * (x1 - (l * l - x1 - x2)) - y1) * plusZ (3 * b) x1 y1 1 x2 y2 1 := by
  unfold plusY plusZ
  have e : y2 = y1 + l * (x2 - x1) := by grind
  subst e
  have e : b = y1 * y1 - x1 * x1 * x1 := by grind
  subst e
  clear hl h1
  grind
theorem tang_z {x y : F} (h1 : y * y = x * x * x + b) : plusZ (3 * b) x y 1 x y 1 = 8 * (y * (y * y)) := by
  unfold plusZ
  have e : b = y * y - x * x * x := by grind
  subst e
  grind
theorem tang_x {x y l : F} (hl : l * (2 * y) = 3 * x * x) (h1 : y * y = x * x * x + b) : plusX (3 * b) x y 1 x y 1 = (l * l - x - x) * (8 * (y * (y * y))) := by
  unfold plusX
  have e : b = y * y - x * x * x := by grind
  subst e
  clear h1
  have e2 : (l * (2 * y)) * (l * (2 * y)) = 9 * (x * x * x * x) := by rw [hl]; grind
  grind
theorem tang_y {x y l : F} (hl : l * (2 * y) = 3 * x * x) (h1 : y * y = x * x * x + b) : plusY (3 * b) x y 1 x y 1 = (l * (x - (l * l - x - x)) - y) * (8 * (y * (y * y))) := by
  unfold plusY
  have e : b = y * y - x * x * x := by grind
  subst e
  clear h1
  have e2 : (l * (2 * y)) * (l * (2 * y)) = 9 * (x * x * x * x) := by rw [hl]; grind
  have e3 : (l * (2 * y)) * (l * (2 * y)) * (l * (2 * y)) = 27 * (x * x * x * (x * x * x)) := by rw [hl]; grind
  grind
theorem opp_y {x y l : F} (hl : l * (2 * y) = 3 * x * x) (h1 : y * y = x * x * x + b) : plusY (3 * b) x y 1 x (-y) 1 = (l * (x - (l * l - x - x)) - y) * (8 * (y * (y * y))) := by
  unfold plusY
  have e : b = y * y - x * x * x := by grind
  subst e
  clear h1
  have e3 : (l * (2 * y)) * (l * (2 * y)) * (l * (2 * y)) = 27 * (x * x * x * (x * x * x)) := by rw [hl]; grind
  grind
theorem opp_xz (c x y : F) : plusX c x y 1 x (-y) 1 = 0 ∧ plusZ c x y 1 x (-y) 1 = 0 := by
  unfold plusX plusZ
  exact ⟨by grind, by grind⟩
theorem Fd.eight (K : Fd F) : (8 : F) ≠ 0 := by
  have e : (8 : F) = 2 * (2 * 2) := by grind
  rw [e]
  exact K.ne_mul K.two (K.ne_mul K.two K.two)
theorem Fd.tang (K : Fd F) {y : F} (hy : y ≠ 0) : 8 * (y * (y * y)) ≠ 0 := K.ne_mul K.eight (K.ne_mul hy (K.ne_mul hy hy))
def NoZero (b : F) : Prop := ∀ x : F, x * x * x + b ≠ 0
theorem cube_zero_b {x : F} (h : x * x * x + b = 0) (e : x = 0) : b = 0 := by
  subst e
  grind
theorem NoZero.ne (_K : Fd F) (hN : NoZero b) {x y : F} (h : On b (.aff x y)) : y ≠ 0 := fun e => hN x (by
  have h' : y * y = x * x * x + b := h
  rw [← h', e]
  clear h h' e
  grind)
theorem Tri.Is.scale (K : Fd F) {t : Tri F} {P : Pt F} (h : t.Is P) {s : F} (hs : s ≠ 0) : Tri.Is ⟨t.x * s, t.y * s, t.z * s⟩ P := by
  match P with
  | .inf =>
    obtain ⟨h1, h2, h3⟩ := h
    refine ⟨?_, ?_, K.ne_mul h3 hs⟩
    · show t.x * s = 0; rw [h1]; clear h1 h2 h3; grind
    · show t.z * s = 0; rw [h2]; clear h1 h2 h3; grind
  | .aff x y =>
    obtain ⟨h1, h2, h3⟩ := h
    refine ⟨?_, ?_, K.ne_mul h3 hs⟩
    · show t.x * s = x * (t.z * s); rw [h1]; clear h1 h2 h3; grind
    · show t.y * s = y * (t.z * s); rw [h2]; clear h1 h2 h3; grind
theorem plus_aff [DecidableEq F] (K : Fd F) (hN : NoZero b) {x1 y1 x2 y2 : F} {R : Pt F} (h1 : On b (.aff x1 y1)) (h2 : On b (.aff x2 y2)) (h : Sum (.aff x1 y1) (.aff x2 y2) R) :
    Tri.Is ⟨plusX (3 * b) x1 y1 1 x2 y2 1, plusY (3 * b) x1 y1 1 x2 y2 1, plusZ (3 * b) x1 y1 1 x2 y2 1⟩ R := by
  have e1 : y1 * y1 = x1 * x1 * x1 + b := h1
  have hy1 := hN.ne K h1
  rcases h with ⟨hx, hy, hR⟩ | ⟨l, hs, hn, hR⟩
  · subst hx hR
    obtain rfl : y2 = -y1 := by rw [hy]; clear hy; grind
    have hd := addP_sum K h1 h1
    have hn : ¬ (x1 = x1 ∧ y1 = -y1) := fun h => hy1 (K.neg_self h.2)
    have hsl := slopeOf_slope K e1 e1 hn
    have hon := sum_on K h1 h1 (R := third x1 y1 x1 (slopeOf K x1 y1 x1 y1)) (.inr ⟨_, hsl, hn, rfl⟩)
    obtain ⟨hne, _⟩ | ⟨_, _, _, hl⟩ := hsl
    · exact absurd rfl hne
    · refine ⟨(opp_xz _ _ _).1, (opp_xz _ _ _).2, ?_⟩
      show plusY _ _ _ _ _ _ _ ≠ 0
      rw [opp_y hl e1]
      exact K.ne_mul (hN.ne K hon) (K.tang hy1)
  · subst hR
    rcases hs with ⟨hne, hl⟩ | ⟨rfl, rfl, _, hl⟩
    · have e2 : y2 * y2 = x2 * x2 * x2 + b := h2
      have hd : x2 - x1 ≠ 0 := sub_ne hne
      have k : x1 * x1 + x1 * x2 + x2 * x2 = l * (y1 + y2) := by
        refine K.cancel (a := x2 - x1) ?_ hd
        clear hd hne hy1 h1 h2 hn hN
        grind
      refine ⟨chord_x hl k e1, chord_y hl k e1, ?_⟩
      show plusZ _ _ _ _ _ _ _ ≠ 0
      -- the difference
      have hq : On b (.aff x2 (-y2)) := on_ng h2
      have hn' : ¬ (x1 = x2 ∧ y1 = - -y2) := fun h => hne h.1
      have hsl := slopeOf_slope K e1 (show -y2 * -y2 = x2 * x2 * x2 + b from hq) hn'
      have hon := sum_on K h1 hq (R := third x1 y1 x2 (slopeOf K x1 y1 x2 (-y2))) (.inr ⟨_, hsl, hn', rfl⟩)
      obtain ⟨_, hm⟩ | ⟨he, _⟩ := hsl
      · have k' : x1 * x1 + x1 * x2 + x2 * x2 = slopeOf K x1 y1 x2 (-y2) * (y1 - y2) := by
          refine K.cancel (a := x2 - x1) ?_ hd
          generalize slopeOf K x1 y1 x2 (-y2) = m at *
          clear hd hne hy1 h1 h2 hn hN hon hq hl k
          grind
        rw [chord_z hm k' e1 rfl]
        exact K.ne_mul (hN.ne K hon) (K.ne_mul hd (K.ne_mul hd hd))
      · exact absurd he hne
    · refine ⟨?_, ?_, ?_⟩
      · show plusX _ _ _ _ _ _ _ = _ * plusZ _ _ _ _ _ _ _
        rw [tang_z e1]; exact tang_x hl e1
      · show plusY _ _ _ _ _ _ _ = _ * plusZ _ _ _ _ _ _ _
        rw [tang_z e1]; exact tang_y hl e1
      · show plusZ _ _ _ _ _ _ _ ≠ 0
        rw [tang_z e1]; exact K.tang hy1
theorem plus_ok [DecidableEq F] (K : Fd F) (hN : NoZero b) {P Q R : Pt F} (hP : On b P) (hQ : On b Q) {s t : Tri F} (hs : s.Is P) (ht : t.Is Q) (h : Sum P Q R) : (plusT (3 * b) s t).Is R := by
  obtain ⟨x1, y1, z1⟩ := s
  obtain ⟨x2, y2, z2⟩ := t
  match P, Q with
  | .inf, .inf =>
    obtain ⟨rfl, rfl, n1⟩ : x1 = 0 ∧ z1 = 0 ∧ y1 ≠ 0 := hs
    obtain ⟨rfl, rfl, n2⟩ : x2 = 0 ∧ z2 = 0 ∧ y2 ≠ 0 := ht
    rw [show R = _ from h]
    refine ⟨?_, ?_, ?_⟩
    · show plusX _ _ _ _ _ _ _ = 0; unfold plusX; clear n1 n2; grind
    · show plusZ _ _ _ _ _ _ _ = 0; unfold plusZ; clear n1 n2; grind
    · show plusY _ _ _ _ _ _ _ ≠ 0
      have e : plusY (3 * b) 0 y1 0 0 y2 0 = y1 * y2 * (y1 * y2) := by unfold plusY; clear n1 n2; grind
      rw [e]
      exact K.ne_mul (K.ne_mul n1 n2) (K.ne_mul n1 n2)
  | .inf, .aff X Y =>
    obtain ⟨rfl, rfl, n1⟩ : x1 = 0 ∧ z1 = 0 ∧ y1 ≠ 0 := hs
    obtain ⟨rfl, rfl, n2⟩ : x2 = X * z2 ∧ y2 = Y * z2 ∧ z2 ≠ 0 := ht
    rw [show R = _ from h]
    have hy := hN.ne K hQ
    have ez : plusZ (3 * b) 0 y1 0 (X * z2) (Y * z2) z2 = y1 * z2 * (y1 * z2 * Y) := by unfold plusZ; clear n1 n2 hy; grind
    refine ⟨?_, ?_, ?_⟩
    · show plusX _ _ _ _ _ _ _ = _ * plusZ _ _ _ _ _ _ _; rw [ez]; unfold plusX; clear n1 n2 hy ez; grind
    · show plusY _ _ _ _ _ _ _ = _ * plusZ _ _ _ _ _ _ _; rw [ez]; unfold plusY; clear n1 n2 hy ez; grind
    · show plusZ _ _ _ _ _ _ _ ≠ 0
      rw [ez]
      exact K.ne_mul (K.ne_mul n1 n2) (K.ne_mul (K.ne_mul n1 n2) hy)
  | .aff X Y, .inf =>
    obtain ⟨rfl, rfl, n1⟩ : x1 = X * z1 ∧ y1 = Y * z1 ∧ z1 ≠ 0 := hs
    obtain ⟨rfl, rfl, n2⟩ : x2 = 0 ∧ z2 = 0 ∧ y2 ≠ 0 := ht
    rw [show R = _ from h]
    have hy := hN.ne K hP
    have ez : plusZ (3 * b) (X * z1) (Y * z1) z1 0 y2 0 = y2 * z1 * (y2 * z1 * Y) := by unfold plusZ; clear n1 n2 hy; grind
    refine ⟨?_, ?_, ?_⟩
    · show plusX _ _ _ _ _ _ _ = _ * plusZ _ _ _ _ _ _ _; rw [ez]; unfold plusX; clear n1 n2 hy ez; grind
    · show plusY _ _ _ _ _ _ _ = _ * plusZ _ _ _ _ _ _ _; rw [ez]; unfold plusY; clear n1 n2 hy ez; grind
    · show plusZ _ _ _ _ _ _ _ ≠ 0
      rw [ez]
      exact K.ne_mul (K.ne_mul n2 n1) (K.ne_mul (K.ne_mul n2 n1) hy)
  | .aff X1 Y1, .aff X2 Y2 =>
    obtain ⟨rfl, rfl, n1⟩ : x1 = X1 * z1 ∧ y1 = Y1 * z1 ∧ z1 ≠ 0 := hs
    obtain ⟨rfl, rfl, n2⟩ : x2 = X2 * z2 ∧ y2 = Y2 * z2 ∧ z2 ≠ 0 := ht
    obtain ⟨ex, ey, ez⟩ := plus_scale (3 * b) X1 Y1 z1 X2 Y2 z2
    have := (plus_aff K hN hP hQ h).scale K (K.ne_mul (K.ne_mul n1 n1) (K.ne_mul n2 n2))
    unfold plusT
    simp only [ex, ey, ez]
    exact this
theorem twice_ok [DecidableEq F] (K : Fd F) (hN : NoZero b) {P R : Pt F} (hP : On b P) {s : Tri F} (hs : s.Is P) (h : Sum P P R) : (twiceT (3 * b) s).Is R := by
  obtain ⟨x1, y1, z1⟩ := s
  match P with
  | .inf =>
    obtain ⟨rfl, rfl, n1⟩ : x1 = 0 ∧ z1 = 0 ∧ y1 ≠ 0 := hs
    rw [show R = _ from h]
    refine ⟨?_, ?_, ?_⟩
    · show twiceX (3 * b) 0 y1 0 = 0; unfold twiceX; clear n1; grind
    · show twiceZ (3 * b) 0 y1 0 = 0; unfold twiceZ; clear n1; grind
    · show twiceY (3 * b) 0 y1 0 ≠ 0
      have e : twiceY (3 * b) 0 y1 0 = y1 * y1 * (y1 * y1) := by unfold twiceY; clear n1; grind
      rw [e]
      exact K.ne_mul (K.ne_mul n1 n1) (K.ne_mul n1 n1)
  | .aff X Y =>
    obtain ⟨rfl, rfl, n1⟩ : x1 = X * z1 ∧ y1 = Y * z1 ∧ z1 ≠ 0 := hs
    have hy := hN.ne K hP
    have e1 : Y * Y = X * X * X + b := hP
    rcases h with ⟨_, hy', _⟩ | ⟨l, hsl, hn, hR⟩
    · exact absurd (K.neg_self hy') hy
    · subst hR
      obtain ⟨hne, _⟩ | ⟨_, _, _, hl⟩ := hsl
      · exact absurd rfl hne
      · have hx := tang_x hl e1
        have hyy := tang_y hl e1
        have ez : twiceZ (3 * b) (X * z1) (Y * z1) z1 = 8 * (Y * (Y * Y)) * (z1 * z1 * (z1 * z1)) := by unfold twiceZ; clear hy n1; grind
        have ex : twiceX (3 * b) (X * z1) (Y * z1) z1 = plusX (3 * b) X Y 1 X Y 1 * (z1 * z1 * (z1 * z1)) := by unfold twiceX plusX; clear hy n1 hx hyy hl e1; grind
        have ey : twiceY (3 * b) (X * z1) (Y * z1) z1 = plusY (3 * b) X Y 1 X Y 1 * (z1 * z1 * (z1 * z1)) := by
          have e : b = Y * Y - X * X * X := by clear hy n1 hx hyy hl; grind
          rw [e]
          unfold twiceY plusY; clear hy n1 hx hyy hl e1 e; grind
        refine ⟨?_, ?_, ?_⟩
        · show twiceX (3 * b) (X * z1) (Y * z1) z1 = _ * twiceZ (3 * b) (X * z1) (Y * z1) z1; rw [ez, ex, hx]; clear ez ex ey hx hyy hl hy n1; grind
        · show twiceY (3 * b) (X * z1) (Y * z1) z1 = _ * twiceZ (3 * b) (X * z1) (Y * z1) z1; rw [ez, ey, hyy]; clear ez ex ey hx hyy hl hy n1; grind
        · show twiceZ (3 * b) (X * z1) (Y * z1) z1 ≠ 0
          rw [ez]
          exact K.ne_mul (K.tang hy) (K.ne_mul (K.ne_mul n1 n1) (K.ne_mul n1 n1))
theorem back_ok (K : Fd F) {t : Tri F} {P : Pt F} (h : t.Is P) : (t.z = 0 ∧ P = .inf) ∨ (t.z ≠ 0 ∧ P = .aff (t.x * K.inv t.z) (t.y * K.inv t.z)) := by
  match P with
  | .inf => exact .inl ⟨h.2.1, rfl⟩
  | .aff x y =>
    obtain ⟨h1, h2, h3⟩ := h
    have h4 := K.mul_inv _ h3
    refine .inr ⟨h3, ?_⟩
    rw [h1, h2]
    generalize K.inv t.z = i at *
    generalize t.z = z at *
    clear h1 h2 h3
    congr 1 <;> grind
end
end Cv
end Go.Proofs.Ytkkmekdhejhapaa
