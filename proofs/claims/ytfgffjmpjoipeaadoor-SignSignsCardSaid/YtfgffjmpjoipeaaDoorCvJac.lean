/-
  Points by three numbers (X by Z Z, Y by Z Z Z), plain: twice, and one more point; so many times of two, from the highest bit on. No walk here, no program.
-/
import Derived.Test.YtfgffjmpjoipeaaDoorPlainAll
namespace Go.Proofs.YtfgffjmpjoipeaaDoor
namespace Cv
variable {n : Nat} [NeZero n] {iv : Fin n → Fin n}
structure Jac (n : Nat) where
  x : Fin n
  y : Fin n
  z : Fin n
def Jac.twice (a : Jac n) : Jac n :=
  ⟨3 * (a.x * a.x) * (3 * (a.x * a.x)) - (4 * (a.x * (a.y * a.y)) + 4 * (a.x * (a.y * a.y))),
   3 * (a.x * a.x) * (4 * (a.x * (a.y * a.y)) - (3 * (a.x * a.x) * (3 * (a.x * a.x)) - (4 * (a.x * (a.y * a.y)) + 4 * (a.x * (a.y * a.y))))) - 8 * (a.y * a.y * (a.y * a.y)),
   2 * (a.y * a.z)⟩
/-- how far apart -/
def Jac.along (a : Jac n) (x : Fin n) : Fin n := x * (a.z * a.z) - a.x
def Jac.up (a : Jac n) (y : Fin n) : Fin n := y * (a.z * a.z * a.z) - a.y
def Jac.chordX (a : Jac n) (x y : Fin n) : Fin n := a.up y * a.up y - a.along x * a.along x * a.along x - (a.x * (a.along x * a.along x) + a.x * (a.along x * a.along x))
def Jac.chord (a : Jac n) (x y : Fin n) : Jac n :=
  ⟨a.chordX x y, a.up y * (a.x * (a.along x * a.along x) - a.chordX x y) - a.y * (a.along x * a.along x * a.along x), a.z * a.along x⟩
def Jac.plus (a : Jac n) : Pt n → Jac n
  | .o => a
  | .mk x y => if a.z = 0 then ⟨x, y, 1⟩ else if a.along x = 0 ∧ a.up y = 0 then a.twice else a.chord x y
def Jac.pt (iv : Fin n → Fin n) (a : Jac n) : Pt n := if a.z = 0 then .o else .mk (a.x * (iv a.z * iv a.z)) (a.y * (iv a.z * iv a.z * iv a.z))
/-- it stands for the point -/
def JRep (a : Jac n) : Pt n → Prop
  | .o => a.z = 0
  | .mk x y => a.z ≠ 0 ∧ a.x = x * (a.z * a.z) ∧ a.y = y * (a.z * a.z * a.z)
theorem Good.jac_pt (g : Good n iv) {a : Jac n} {p : Pt n} (h : JRep a p) : a.pt iv = p := by
  unfold Jac.pt
  cases p with
  | o => rw [if_pos (show a.z = 0 from h)]
  | mk x y =>
    obtain ⟨hz, hx, hy⟩ := h
    rw [if_neg hz]
    have hi := g.iv a.z hz
    rw [hx, hy]
    generalize iv a.z = i at hi
    generalize a.z = z at hi
    congr 1
    · have : x * (z * z) * (i * i) = x * (i * z) * (i * z) := by clear hi hx hy hz; grobner
      rw [this, hi, Fin.mul_one, Fin.mul_one]
    · have : y * (z * z * z) * (i * i * i) = y * (i * z) * (i * z) * (i * z) := by clear hi hx hy hz; grobner
      rw [this, hi, Fin.mul_one, Fin.mul_one, Fin.mul_one]
theorem tw_x (X Y z u : Fin n) (hu : u * (2 * Y) = 1) : (Jac.twice ⟨X * (z * z), Y * (z * z * z), z⟩).x = (u * (3 * X * X) * (u * (3 * X * X)) - X - X) * ((2 * (Y * (z * z * z) * z)) * (2 * (Y * (z * z * z) * z))) := by
  have e : (u * (3 * X * X) * (u * (3 * X * X)) - X - X) * ((2 * (Y * (z * z * z) * z)) * (2 * (Y * (z * z * z) * z))) = ((u * (2 * Y)) * (u * (2 * Y)) * (3 * X * X * (3 * X * X)) - 8 * (X * Y * Y)) * (z * z * z * z * (z * z * z * z)) := by clear hu; grobner
  rw [e, hu]
  show 3 * (X * (z * z) * (X * (z * z))) * (3 * (X * (z * z) * (X * (z * z)))) - (4 * (X * (z * z) * (Y * (z * z * z) * (Y * (z * z * z)))) + 4 * (X * (z * z) * (Y * (z * z * z) * (Y * (z * z * z))))) = _
  clear hu e; grobner
theorem tw_y (X Y z u : Fin n) (hu : u * (2 * Y) = 1) : (Jac.twice ⟨X * (z * z), Y * (z * z * z), z⟩).y = (u * (3 * X * X) * (X - (u * (3 * X * X) * (u * (3 * X * X)) - X - X)) - Y) * ((2 * (Y * (z * z * z) * z)) * (2 * (Y * (z * z * z) * z)) * (2 * (Y * (z * z * z) * z))) := by
  have e : (u * (3 * X * X) * (X - (u * (3 * X * X) * (u * (3 * X * X)) - X - X)) - Y) * ((2 * (Y * (z * z * z) * z)) * (2 * (Y * (z * z * z) * z)) * (2 * (Y * (z * z * z) * z))) =
      (u * (2 * Y) * (3 * X * X) * (12 * (X * Y * Y) - (u * (2 * Y)) * (u * (2 * Y)) * (3 * X * X * (3 * X * X))) - 8 * (Y * Y * Y * Y)) * (z * z * z * z * (z * z * z * z) * (z * z * z * z)) := by clear hu; grobner
  rw [e, hu]
  show 3 * (X * (z * z) * (X * (z * z))) * (4 * (X * (z * z) * (Y * (z * z * z) * (Y * (z * z * z)))) - (3 * (X * (z * z) * (X * (z * z))) * (3 * (X * (z * z) * (X * (z * z)))) - (4 * (X * (z * z) * (Y * (z * z * z) * (Y * (z * z * z)))) + 4 * (X * (z * z) * (Y * (z * z * z) * (Y * (z * z * z))))))) - 8 * (Y * (z * z * z) * (Y * (z * z * z)) * (Y * (z * z * z) * (Y * (z * z * z)))) = _
  clear hu e; grobner
theorem Good.add_twice (g : Good n iv) {X Y : Fin n} (h : Y * Y = X * X * X + 7) : Pt.add iv (.mk X Y) (.mk X Y) = Pt.rise (iv (2 * Y) * (3 * X * X)) X Y X := by
  have hc := Col.tangent h (g.iv _ (g.twice_ne (g.y_ne h))) rfl
  rw [g.add_of_col hc, rise_col hc]
theorem Good.add_chord (g : Good n iv) {X Y x y : Fin n} (h : Y * Y = X * X * X + 7) (h2 : y * y = x * x * x + 7) (hx : X ≠ x) : Pt.add iv (.mk X Y) (.mk x y) = Pt.rise (iv (x - X) * (y - Y)) X Y x := by
  have hc := Col.chord h h2 (g.iv _ (sub_ne hx)) rfl
  rw [g.add_of_col hc, rise_col hc]
theorem Good.twice_rep (g : Good n iv) {a : Jac n} {p : Pt n} (hp : p.On) (h : JRep a p) : JRep a.twice (Pt.add iv p p) := by
  cases p with
  | o =>
    show 2 * (a.y * a.z) = 0
    have h : a.z = 0 := h
    rw [h]; clear h; grobner
  | mk X Y =>
    have hp : Y * Y = X * X * X + 7 := hp
    obtain ⟨ax, ay, z⟩ := a
    obtain ⟨hz, hx, hy⟩ := h
    replace hz : z ≠ 0 := hz
    replace hx : ax = X * (z * z) := hx
    replace hy : ay = Y * (z * z * z) := hy
    subst hx; subst hy
    rw [g.add_twice hp]
    have hY := g.y_ne hp
    have hi := g.iv _ (g.twice_ne hY)
    refine ⟨?_, tw_x X Y z _ hi, tw_y X Y z _ hi⟩
    exact g.mul_ne g.two (g.mul_ne (g.mul_ne hY (g.mul_ne (g.mul_ne hz hz) hz)) hz)
theorem ch_along (X Y z x : Fin n) : (Jac.mk (X * (z * z)) (Y * (z * z * z)) z).along x = (x - X) * (z * z) := by
  show x * (z * z) - X * (z * z) = _; grobner
theorem ch_up (X Y z y : Fin n) : (Jac.mk (X * (z * z)) (Y * (z * z * z)) z).up y = (y - Y) * (z * z * z) := by
  show y * (z * z * z) - Y * (z * z * z) = _; grobner
theorem ch_x (X Y z x y u : Fin n) (hu : u * (x - X) = 1) : (Jac.mk (X * (z * z)) (Y * (z * z * z)) z).chordX x y = (u * (y - Y) * (u * (y - Y)) - X - x) * ((z * ((x - X) * (z * z))) * (z * ((x - X) * (z * z)))) := by
  have e : (u * (y - Y) * (u * (y - Y)) - X - x) * ((z * ((x - X) * (z * z))) * (z * ((x - X) * (z * z)))) = ((u * (x - X)) * (u * (x - X)) * ((y - Y) * (y - Y)) - (X + x) * ((x - X) * (x - X))) * (z * z * z * (z * z * z)) := by clear hu; grobner
  rw [e, hu]
  unfold Jac.chordX
  rw [ch_along, ch_up]
  show _ - _ - (X * (z * z) * ((x - X) * (z * z) * ((x - X) * (z * z))) + X * (z * z) * ((x - X) * (z * z) * ((x - X) * (z * z)))) = _
  clear hu e; grobner
theorem ch_y (X Y z x y u : Fin n) (hu : u * (x - X) = 1) : (Jac.mk (X * (z * z)) (Y * (z * z * z)) z).up y * (X * (z * z) * ((Jac.mk (X * (z * z)) (Y * (z * z * z)) z).along x * (Jac.mk (X * (z * z)) (Y * (z * z * z)) z).along x) - (Jac.mk (X * (z * z)) (Y * (z * z * z)) z).chordX x y) - Y * (z * z * z) * ((Jac.mk (X * (z * z)) (Y * (z * z * z)) z).along x * (Jac.mk (X * (z * z)) (Y * (z * z * z)) z).along x * (Jac.mk (X * (z * z)) (Y * (z * z * z)) z).along x) =
    (u * (y - Y) * (X - (u * (y - Y) * (u * (y - Y)) - X - x)) - Y) * ((z * ((x - X) * (z * z))) * (z * ((x - X) * (z * z))) * (z * ((x - X) * (z * z)))) := by
  rw [ch_x X Y z x y u hu, ch_along, ch_up]
  generalize hx3 : u * (y - Y) * (u * (y - Y)) - X - x = x3
  have e : (u * (y - Y) * (X - x3) - Y) * ((z * ((x - X) * (z * z))) * (z * ((x - X) * (z * z))) * (z * ((x - X) * (z * z)))) = (u * (x - X) * (y - Y) * (X - x3) - Y * (x - X)) * ((x - X) * (x - X)) * (z * z * z * (z * z * z) * (z * z * z)) := by clear hu hx3; grobner
  rw [e, hu]
  clear hu e hx3; grobner
theorem Good.plus_rep (g : Good n iv) {a : Jac n} {p q : Pt n} (hp : p.On) (hq : q.On) (h : JRep a p) : JRep (a.plus q) (Pt.add iv p q) := by
  cases q with
  | o => rw [Pt.add_o]; exact h
  | mk x y =>
    unfold Jac.plus
    simp only
    cases p with
    | o =>
      rw [if_pos (show a.z = 0 from h), Pt.o_add]
      refine ⟨one_ne g, ?_, ?_⟩
      · show x = x * (1 * 1); rw [Fin.mul_one, Fin.mul_one]
      · show y = y * (1 * 1 * 1); rw [Fin.mul_one, Fin.mul_one, Fin.mul_one]
    | mk X Y =>
      have hr := h
      have hp' : Y * Y = X * X * X + 7 := hp
      have hq' : y * y = x * x * x + 7 := hq
      obtain ⟨ax, ay, z⟩ := a
      obtain ⟨hz, hx, hy⟩ := h
      replace hz : z ≠ 0 := hz
      replace hx : ax = X * (z * z) := hx
      replace hy : ay = Y * (z * z * z) := hy
      subst hx; subst hy
      have hzz := g.mul_ne hz hz
      have hzzz := g.mul_ne hzz hz
      have hal : (Jac.mk (X * (z * z)) (Y * (z * z * z)) z).along x = 0 ↔ X = x := by
        rw [ch_along]
        constructor
        · intro e
          by_cases hne : X = x
          · exact hne
          · exact absurd e (g.mul_ne (sub_ne hne) hzz)
        · intro e; rw [e]; grobner
      have hup : (Jac.mk (X * (z * z)) (Y * (z * z * z)) z).up y = 0 ↔ Y = y := by
        rw [ch_up]
        constructor
        · intro e
          by_cases hne : Y = y
          · exact hne
          · exact absurd e (g.mul_ne (sub_ne hne) hzzz)
        · intro e; rw [e]; grobner
      rw [if_neg hz]
      by_cases hxx : X = x
      · by_cases hyy : Y = y
        · rw [if_pos ⟨hal.2 hxx, hup.2 hyy⟩]
          subst hxx; subst hyy
          exact g.twice_rep hp hr
        · rw [if_neg fun e => hyy (hup.1 e.2)]
          subst hxx
          have hn : y = 0 - Y := by
            rcases sq_same g (hp'.trans hq'.symm) with e | e
            · exact absurd e hyy
            · exact e
          rw [hn, Good.add_across]
          show z * (Jac.mk (X * (z * z)) (Y * (z * z * z)) z).along X = 0
          rw [hal.2 rfl]; clear hal hup; grobner
      · rw [if_neg fun e => hxx (hal.1 e.1), g.add_chord hp' hq' hxx]
        have hi := g.iv _ (sub_ne hxx)
        refine ⟨?_, ?_, ?_⟩
        · show z * (Jac.mk (X * (z * z)) (Y * (z * z * z)) z).along x ≠ 0
          rw [ch_along]; exact g.mul_ne hz (g.mul_ne (sub_ne hxx) hzz)
        · show (Jac.mk (X * (z * z)) (Y * (z * z * z)) z).chordX x y = _ * ((z * (Jac.mk (X * (z * z)) (Y * (z * z * z)) z).along x) * (z * (Jac.mk (X * (z * z)) (Y * (z * z * z)) z).along x))
          rw [ch_along]; exact ch_x X Y z x y _ hi
        · show (Jac.mk (X * (z * z)) (Y * (z * z * z)) z).up y * (X * (z * z) * ((Jac.mk (X * (z * z)) (Y * (z * z * z)) z).along x * (Jac.mk (X * (z * z)) (Y * (z * z * z)) z).along x) - (Jac.mk (X * (z * z)) (Y * (z * z * z)) z).chordX x y) - Y * (z * z * z) * ((Jac.mk (X * (z * z)) (Y * (z * z * z)) z).along x * (Jac.mk (X * (z * z)) (Y * (z * z * z)) z).along x * (Jac.mk (X * (z * z)) (Y * (z * z * z)) z).along x) = _ * ((z * (Jac.mk (X * (z * z)) (Y * (z * z * z)) z).along x) * (z * (Jac.mk (X * (z * z)) (Y * (z * z * z)) z).along x) * (z * (Jac.mk (X * (z * z)) (Y * (z * z * z)) z).along x))
          rw [ch_y X Y z x y _ hi, ch_along]
/-! ### two points, so many times each, from the highest bit on -/
def both (iv : Fin n → Fin n) (p q : Pt n) (j k : Nat) : Pt n := Pt.add iv (Pt.times iv p j) (Pt.times iv q k)
theorem Good.two_on (g : Good n iv) {p q : Pt n} (hp : p.On) (hq : q.On) (j k : Nat) : (both iv p q j k).On := g.add_on (g.times_on hp j) (g.times_on hq k)
theorem Good.mix (g : Good n iv) {a b c d : Pt n} (ha : a.On) (hb : b.On) (hc : c.On) (hd : d.On) : Pt.add iv (Pt.add iv a b) (Pt.add iv c d) = Pt.add iv (Pt.add iv a c) (Pt.add iv b d) := by
  rw [g.assoc ha hb (g.add_on hc hd), ← g.assoc hb hc hd, g.add_comm hb hc, g.assoc hc hb hd, ← g.assoc ha hc (g.add_on hb hd)]
theorem Good.two_add (g : Good n iv) {p q : Pt n} (hp : p.On) (hq : q.On) (j k j' k' : Nat) : Pt.add iv (both iv p q j k) (both iv p q j' k') = both iv p q (j + j') (k + k') := by
  unfold both
  rw [g.mix (g.times_on hp j) (g.times_on hq k) (g.times_on hp j') (g.times_on hq k'), ← g.times_add hp, ← g.times_add hq]
theorem two_p (p q : Pt n) : both iv p q 1 0 = p := Pt.add_o _
theorem two_q (p q : Pt n) : both iv p q 0 1 = q := rfl
/-- one bit more -/
theorem Good.two_step (g : Good n iv) {p q : Pt n} (hp : p.On) (hq : q.On) {a : Jac n} {j k : Nat} (h : JRep a (both iv p q j k)) (b c : Bool) :
    JRep (((if b then a.twice.plus p else a.twice) : Jac n) |> fun s => if c then s.plus q else s) (both iv p q (2 * j + b.toNat) (2 * k + c.toNat)) := by
  have h2 := g.twice_rep (g.two_on hp hq j k) h
  rw [g.two_add hp hq] at h2
  have h3 : JRep (if b then a.twice.plus p else a.twice) (both iv p q (2 * j + b.toNat) (2 * k)) := by
    cases b with
    | false => rw [if_neg (by decide)]; rw [show 2 * j + false.toNat = j + j by simp; omega, show 2 * k = k + k by omega]; exact h2
    | true =>
      rw [if_pos rfl]
      have := g.plus_rep (g.two_on hp hq _ _) hp h2
      rw [show Pt.add iv (both iv p q (j + j) (k + k)) p = Pt.add iv (both iv p q (j + j) (k + k)) (both iv p q 1 0) by rw [two_p], g.two_add hp hq] at this
      rw [show 2 * j + true.toNat = j + j + 1 by simp; omega, show 2 * k = k + k + 0 by omega]; exact this
  cases c with
  | false => rw [show 2 * k + false.toNat = 2 * k by simp]; exact h3
  | true =>
    show JRep ((if b then a.twice.plus p else a.twice).plus q) _
    have := g.plus_rep (g.two_on hp hq _ _) hq h3
    rw [show Pt.add iv (both iv p q (2 * j + b.toNat) (2 * k)) q = Pt.add iv (both iv p q (2 * j + b.toNat) (2 * k)) (both iv p q 0 1) by rw [two_q], g.two_add hp hq] at this
    exact this
end Cv
end Go.Proofs.YtfgffjmpjoipeaaDoor
