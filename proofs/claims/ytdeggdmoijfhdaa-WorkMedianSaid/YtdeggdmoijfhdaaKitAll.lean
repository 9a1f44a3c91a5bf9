/-
  Joined: Sha, Kit, Kit2, Kit3, KitStr, KitEq, KitApp, Kit4, Kit5, Kit6, Kit7, KitGen, Kit8, Kit9, Kit10, Kit13, Kit14.
-/
import Derived.Laws.BitsAllLaws
import Derived.Laws.Sem
import Derived.WalkKit
import Derived.WalkSpells
import Derived.WalkLawsBesides
import Derived.Lib.Hide
import Derived.StillTail
import Derived.Deep.Quiet
import Derived.Lib.QuietBelow
import Derived.BigQuiet
import Derived.Laws.AppendOwnNone
import Derived.OrdersHeld
import Derived.Deep.RegionHeld3
import Derived.Laws.BytesString
import Derived.Laws.StructEq
import Derived.Laws.IdiomStrings
import Derived.Laws.Externs
/-
  SHA-256 as a plain function over bytes, and how the model's integers carry numbers of 32 and of 8 bits. No walk here, no program.
-/
namespace Go.Proofs.Ytdeggdmoijfhdaa
open Go

/-- a number of 32 bits as the model's integer -/
def I (a : UInt32) : Int := (a.toNat : Int)
/-- a byte as the model's integer -/
def B (a : UInt8) : Int := (a.toNat : Int)

theorem I_lo (a : UInt32) : 0 ≤ I a := by unfold I; omega
theorem I_hi (a : UInt32) : I a < 4294967296 := by unfold I; have := a.toNat_lt; omega
theorem B_lo (a : UInt8) : 0 ≤ B a := by unfold B; omega
theorem B_hi (a : UInt8) : B a < 256 := by unfold B; have := a.toNat_lt; omega

theorem wrap_add (a b : UInt32) : IntKind.u32.wrap (I a + I b) = I (a + b) := by
  rw [IntKind.wrap_u32']; unfold I; rw [UInt32.toNat_add]; omega
theorem mod_add (a b : UInt32) : (I a + I b) % 4294967296 = I (a + b) := by
  rw [← wrap_add, IntKind.wrap_u32']
theorem bxor (a b : UInt32) : bits .xor .u32 (I a) (I b) = I (a ^^^ b) := by
  unfold I; rw [u32_xor_nat _ _ a.toNat_lt b.toNat_lt, UInt32.toNat_xor]
theorem band (a b : UInt32) : bits .and .u32 (I a) (I b) = I (a &&& b) := by
  unfold I; rw [u32_and_nat _ _ a.toNat_lt b.toNat_lt, UInt32.toNat_and]
theorem bor (a b : UInt32) : bits .or .u32 (I a) (I b) = I (a ||| b) := by
  unfold I; rw [u32_or_nat _ _ a.toNat_lt b.toNat_lt, UInt32.toNat_or]

/-- turned right -/
def rotr (x : UInt32) (n : Nat) : UInt32 := UInt32.ofNat (x.toNat / 2 ^ n ||| x.toNat * 2 ^ (32 - n))
/-- shifted right -/
def shr (x : UInt32) (n : Nat) : UInt32 := UInt32.ofNat (x.toNat / 2 ^ n)

theorem rotr_toNat (x : UInt32) (n : Nat) : (rotr x n).toNat = (x.toNat / 2 ^ n ||| x.toNat * 2 ^ (32 - n)) % 4294967296 := by
  unfold rotr; rw [UInt32.toNat_ofNat']
theorem shr_toNat (x : UInt32) (n : Nat) : (shr x n).toNat = x.toNat / 2 ^ n := by
  unfold shr; rw [UInt32.toNat_ofNat', Nat.mod_eq_of_lt]
  exact Nat.lt_of_le_of_lt (Nat.div_le_self _ _) x.toNat_lt

theorem rot_code (x : UInt32) (n : Nat) :
    bits .or .u32 (IntKind.u32.wrap (I x * 2 ^ (32 - n))) (I x / 2 ^ n) = I (rotr x n) := by
  have hx := x.toNat_lt
  have e1 : IntKind.u32.wrap (I x * 2 ^ (32 - n)) = ((x.toNat * 2 ^ (32 - n) % 4294967296 : Nat) : Int) := by
    rw [IntKind.wrap_u32']; unfold I; rw [Int.natCast_emod, Int.natCast_mul, Int.natCast_pow]; rfl
  have e2 : I x / 2 ^ n = ((x.toNat / 2 ^ n : Nat) : Int) := by unfold I; rw [Int.natCast_ediv, Int.natCast_pow]; rfl
  have l2 : x.toNat / 2 ^ n < 4294967296 := Nat.lt_of_le_of_lt (Nat.div_le_self _ _) hx
  rw [e1, e2, u32_or_nat _ _ (Nat.mod_lt _ (by decide)) l2]
  unfold I
  rw [rotr_toNat, show (4294967296 : Nat) = 2 ^ 32 from rfl, Nat.or_mod_two_pow, Nat.mod_eq_of_lt (a := x.toNat / 2 ^ n) (by simpa using l2), Nat.or_comm]

def bS1 (x : UInt32) : UInt32 := rotr x 6 ^^^ rotr x 11 ^^^ rotr x 25
def bS0 (x : UInt32) : UInt32 := rotr x 2 ^^^ rotr x 13 ^^^ rotr x 22
def sS0 (x : UInt32) : UInt32 := rotr x 7 ^^^ rotr x 18 ^^^ shr x 3
def sS1 (x : UInt32) : UInt32 := rotr x 17 ^^^ rotr x 19 ^^^ shr x 10

theorem not_eq_xor (a : UInt32) : (4294967295 : UInt32) ^^^ a = ~~~a := by
  apply UInt32.eq_of_toBitVec_eq
  rw [UInt32.toBitVec_xor, UInt32.toBitVec_not]
  exact BitVec.allOnes_xor
theorem bnot (a : UInt32) : bits .xor .u32 4294967295 (I a) = I (~~~a) := by
  rw [← not_eq_xor, ← bxor]; rfl

/-- one byte more behind a number -/
def push8 (n : UInt32) (b : UInt8) : UInt32 := n * 256 + b.toUInt32
theorem push8_code (n : UInt32) (b : UInt8) : bits .or .u32 (IntKind.u32.wrap (I n * 256)) (B b) = I (push8 n b) := by
  have hb := b.toNat_lt
  have e1 : IntKind.u32.wrap (I n * 256) = ((n.toNat * 256 % 4294967296 : Nat) : Int) := by
    rw [IntKind.wrap_u32']; unfold I; rw [Int.natCast_emod, Int.natCast_mul]; rfl
  unfold B
  rw [e1, u32_or_nat _ _ (Nat.mod_lt _ (by decide)) (by omega), nat_join 8 _ _ (by omega) (by simpa using hb)]
  unfold I push8
  rw [UInt32.toNat_add, UInt32.toNat_mul]
  have : (UInt8.toUInt32 b).toNat = b.toNat := by simp
  rw [this, show (256 : UInt32).toNat = 256 from rfl]
  omega

theorem push8_walk (n : UInt32) (b : UInt8) : bits .or .u32 (I n * 256 % 4294967296) (B b % 4294967296) = I (push8 n b) := by
  rw [← push8_code, IntKind.wrap_u32']
  congr 1
  have := B_lo b; have := B_hi b
  omega

/-- the j-th number of some bytes, of which the first k have come -/
def part (bs : List UInt8) (k j : Nat) : UInt32 := (((bs.take k).drop (4 * j)).take 4).foldl push8 0
theorem part_zero (bs : List UInt8) (j : Nat) : part bs 0 j = 0 := by simp [part]
theorem take_drop_take_append {α : Type} (xs : List α) (k j : Nat) (x : α) (hj : xs.length = k) : (((xs ++ [x]).drop (4 * j)).take 4) = if k / 4 = j then ((xs.drop (4 * j)).take 4) ++ [x] else ((xs.drop (4 * j)).take 4) := by
  by_cases h : 4 * j ≤ k
  · rw [List.drop_append_of_le_length (by omega)]
    by_cases h2 : k / 4 = j
    · have hl : (xs.drop (4 * j)).length = k - 4 * j := by simp [hj]
      rw [if_pos h2, List.take_append, hl]
      have e : 4 - (k - 4 * j) ≠ 0 := by omega
      obtain ⟨m, hm⟩ := Nat.exists_eq_succ_of_ne_zero e
      rw [hm]; simp
    · rw [if_neg h2, List.take_append_of_le_length (by simp; omega)]
  · rw [if_neg (by omega), List.drop_eq_nil_of_le (by simp; omega), List.drop_eq_nil_of_le (by omega)]
theorem part_succ (bs : List UInt8) (k j : Nat) (hk : k < bs.length) : part bs (k + 1) j = if j = k / 4 then push8 (part bs k j) bs[k] else part bs k j := by
  unfold part
  rw [List.take_succ_eq_append_getElem hk, take_drop_take_append _ k j _ (by simp; omega)]
  by_cases h : k / 4 = j
  · rw [if_pos h, if_pos h.symm, List.foldl_append]; rfl
  · rw [if_neg h, if_neg (Ne.symm h)]

/-- the sixteen numbers of 64 bytes -/
def words (bs : List UInt8) : List UInt32 := (List.range 16).map (fun j => part bs 64 j)
/-- the next number of the row -/
def nextW (l : List UInt32) : UInt32 := l.getD (l.length - 16) 0 + l.getD (l.length - 7) 0 + sS0 (l.getD (l.length - 15) 0) + sS1 (l.getD (l.length - 2) 0)
def extW (l : List UInt32) : Nat → List UInt32
  | 0 => l
  | n + 1 => extW l n ++ [nextW (extW l n)]
theorem extW_length (l : List UInt32) (n : Nat) : (extW l n).length = l.length + n := by
  induction n with
  | zero => rfl
  | succ n ih => simp [extW, ih]; omega
def sched (bs : List UInt8) : List UInt32 := extW (words bs) 48

structure St where
  a : UInt32
  b : UInt32
  c : UInt32
  d : UInt32
  e : UInt32
  f : UInt32
  g : UInt32
  h : UInt32
def St.list (s : St) : List UInt32 := [s.a, s.b, s.c, s.d, s.e, s.f, s.g, s.h]
def St.add (s t : St) : St := ⟨s.a + t.a, s.b + t.b, s.c + t.c, s.d + t.d, s.e + t.e, s.f + t.f, s.g + t.g, s.h + t.h⟩
def tOf (s : St) (k w : UInt32) : UInt32 := s.h + bS1 s.e + ((s.e &&& s.f) ^^^ (~~~s.e &&& s.g)) + k + w
def uOf (s : St) : UInt32 := bS0 s.a + ((s.a &&& s.b) ^^^ (s.a &&& s.c) ^^^ (s.b &&& s.c))
def rnd (s : St) (k w : UInt32) : St := ⟨tOf s k w + uOf s, s.a, s.b, s.c, s.d + tOf s k w, s.e, s.f, s.g⟩
def kTab : List UInt32 := [1116352408, 1899447441, 3049323471, 3921009573, 961987163, 1508970993, 2453635748, 2870763221, 3624381080, 310598401, 607225278, 1426881987, 1925078388, 2162078206, 2614888103, 3248222580, 3835390401, 4022224774, 264347078, 604807628, 770255983, 1249150122, 1555081692, 1996064986, 2554220882, 2821834349, 2952996808, 3210313671, 3336571891, 3584528711, 113926993, 338241895, 666307205, 773529912, 1294757372, 1396182291, 1695183700, 1986661051, 2177026350, 2456956037, 2730485921, 2820302411, 3259730800, 3345764771, 3516065817, 3600352804, 4094571909, 275423344, 430227734, 506948616, 659060556, 883997877, 958139571, 1322822218, 1537002063, 1747873779, 1955562222, 2024104815, 2227730452, 2361852424, 2428436474, 2756734187, 3204031479, 3329325298]
def rnds (ws : List UInt32) (s : St) : Nat → St
  | 0 => s
  | n + 1 => rnd (rnds ws s n) (kTab.getD n 0) (ws.getD n 0)
def comp (s : St) (bs : List UInt8) : St := s.add (rnds (sched bs) s 64)
def st0 : St := ⟨1779033703, 3144134277, 1013904242, 2773480762, 1359893119, 2600822924, 528734635, 1541459225⟩
/-- the state behind the first n blocks of these bytes -/
def absorb (l : List UInt8) : Nat → St
  | 0 => st0
  | n + 1 => comp (absorb l n) ((l.drop (64 * n)).take 64)
/-- the element at a place, nought beyond the end -/
def at8 (l : List UInt8) (j : Nat) : UInt8 := l.getD j 0
def at32 (l : List UInt32) (j : Nat) : UInt32 := l.getD j 0
/-- the p-th byte of a row of numbers, each the highest byte first -/
def hbyte (l : List UInt32) (p : Nat) : UInt8 := UInt8.ofNat ((at32 l (p / 4)).toNat / 2 ^ (24 - 8 * (p % 4)))
def St.bytes (s : St) : List UInt8 := (List.range 32).map (hbyte s.list)
def be64 (n : Nat) : List UInt8 := (List.range 8).map fun i => UInt8.ofNat (n / 2 ^ (56 - 8 * i))
/-- what comes behind n bytes -/
def tailOf (n : Nat) : List UInt8 := 128 :: (List.replicate ((119 - n % 64) % 64) 0 ++ be64 (n * 8))
def padded (l : List UInt8) : List UInt8 := l ++ tailOf l.length
def sha (l : List UInt8) : List UInt8 := (absorb (padded l) ((padded l).length / 64)).bytes

theorem absorb_append (l m : List UInt8) (n : Nat) (h : 64 * n ≤ l.length) : absorb (l ++ m) n = absorb l n := by
  induction n with
  | zero => rfl
  | succ n ih =>
    unfold absorb
    rw [ih (by omega), List.drop_append_of_le_length (by omega), List.take_append_of_le_length (by simp; omega)]

theorem at8_lt (l : List UInt8) (j : Nat) (h : j < l.length) : at8 l j = l[j] := by simp [at8, h]

/-! ### rows of cells by a function of the place -/
abbrev V32 (a : UInt32) : Value := .int .u32 (I a)
abbrev VB (a : UInt8) : Value := .int .u8 (B a)
def tab (n : Nat) (f : Nat → Value) : Array Value := ((List.range n).map f).toArray
theorem tab_size (n : Nat) (f : Nat → Value) : (tab n f).size = n := by simp [tab]
theorem tab_get (n : Nat) (f : Nat → Value) (i : Nat) (h : i < n) : (tab n f)[i]? = some (f i) := by simp [tab, h]
theorem tab_congr {n : Nat} {f g : Nat → Value} (h : ∀ j, j < n → f j = g j) : tab n f = tab n g := by
  unfold tab; congr 1; exact List.map_congr_left (fun j hj => h j (List.mem_range.1 hj))
theorem tab_set {n : Nat} {f g : Nat → Value} {i : Nat} {v : Value} (h : ∀ j, j < n → g j = if j = i then v else f j) : (tab n f).setIfInBounds i v = tab n g := by
  apply Array.ext_getElem?
  intro j
  rw [Array.getElem?_setIfInBounds]
  by_cases hj : j < n
  · rw [tab_get n g j hj, h j hj, tab_size]
    by_cases hij : i = j
    · subst hij; simp [hj]
    · rw [if_neg hij, if_neg (Ne.symm hij), tab_get n f j hj]
  · have h1 : (tab n g)[j]? = none := Array.getElem?_eq_none (by rw [tab_size]; omega)
    have h2 : (tab n f)[j]? = none := Array.getElem?_eq_none (by rw [tab_size]; omega)
    rw [h1, tab_size]
    split
    · rw [if_neg (by omega)]
    · exact h2
theorem tab_one (n : Nat) (f : Nat → Value) (h : ∀ j, j < n → (f j).oneCell' = true) : ∀ v ∈ tab n f, v.oneCell' = true := by
  intro v hv
  simp [tab] at hv
  obtain ⟨j, hj, rfl⟩ := hv
  exact h j hj
theorem V32_one (a : UInt32) : (V32 a).oneCell' = true := rfl
theorem VB_one (a : UInt8) : (VB a).oneCell' = true := rfl

theorem words_length (bs : List UInt8) : (words bs).length = 16 := by simp [words]
theorem words_at (bs : List UInt8) (hbs : bs.length = 64) (j : Nat) : part bs 64 j = at32 (words bs) j := by
  by_cases h : j < 16
  · simp [at32, words, h]
  · have e : at32 (words bs) j = 0 := by simp [at32, words, h]
    rw [e]; unfold part
    rw [List.drop_eq_nil_of_le (by simp; omega)]; rfl
theorem extW_at (l : List UInt32) (n j : Nat) : at32 (extW l (n + 1)) j = if j = l.length + n then nextW (extW l n) else at32 (extW l n) j := by
  have hl := extW_length l n
  show at32 (extW l n ++ [nextW (extW l n)]) j = _
  unfold at32
  rw [List.getD_eq_getElem?_getD, List.getD_eq_getElem?_getD, List.getElem?_append, hl]
  by_cases h : j = l.length + n
  · subst h; simp
  · by_cases h2 : j < l.length + n
    · rw [if_neg h, if_pos h2]
    · rw [if_neg h, if_neg h2, List.getElem?_eq_none (by simp; omega), List.getElem?_eq_none (by omega)]
theorem nextW_at (l : List UInt32) (i : Nat) (h : l.length = i) : nextW l = at32 l (i - 16) + at32 l (i - 7) + sS0 (at32 l (i - 15)) + sS1 (at32 l (i - 2)) := by
  subst h; rfl

theorem nextW_n (l : List UInt32) (n : Nat) (h : l.length = 16 + n) : nextW l = at32 l n + at32 l (n + 9) + sS0 (at32 l (n + 1)) + sS1 (at32 l (n + 14)) := by
  rw [nextW_at l (16 + n) h, show 16 + n - 16 = n by omega, show 16 + n - 7 = n + 9 by omega, show 16 + n - 15 = n + 1 by omega, show 16 + n - 2 = n + 14 by omega]

theorem byte_shr (x : UInt32) (n : Nat) : I x / 2 ^ n % 256 = B (UInt8.ofNat (x.toNat / 2 ^ n)) := by
  unfold I B
  rw [UInt8.toNat_ofNat', Int.natCast_emod, Int.natCast_ediv, Int.natCast_pow]; rfl
theorem hbyte_bytes (s : St) (p : Nat) (h : p < 32) : hbyte s.list p = at8 s.bytes p := by
  simp [St.bytes, at8, h]
theorem bytes_length (s : St) : s.bytes.length = 32 := by simp [St.bytes]

end Go.Proofs.Ytdeggdmoijfhdaa

/-
  A small kit of laws of my own, over whatever program: regions that draw their order and end in one forced tail, over a class of worlds; rows of cells that are made, read and written whole, the world behind each step a variable.
-/
namespace Go.Proofs.Ytdeggdmoijfhdaa
open Go Go.RowKit Go.Sort

section
variable {P : Program} {ops : Array Oper} {md : Region.Mode} {C : World → Prop}

/-- The head of a region in whatever order, each of its operations quiet over the class; then what L says. -/
def headAny (P : Program) (md : Region.Mode) (ops : Array Oper) (C : World → Prop) (n : Nat) (L : Array Bool → Act → Prop) : Nat → Array Bool → Act → Prop
  | 0, listed, a => L listed a
  | f + 1, listed, a => Region.ready md ops listed ≠ [] ∧ ∀ i ∈ Region.ready md ops listed, i < n ∧ qOp P ops C i (headAny P md ops C n L f (listed.setIfInBounds i true)) a

theorem any_of_headAny {n g : Nat} {L : Array Bool → Act → Prop} {Q' : Exit → Act → World → Prop} (hL : ∀ listed a w, C w → L listed a → wpAny P md ops Q' g listed a w) :
    ∀ (f : Nat) (listed : Array Bool) (a : Act) (w : World), C w → headAny P md ops C n L f listed a → wpAny P md ops Q' (f + g) listed a w
  | 0, listed, a, w, hw, h => by rw [Nat.zero_add]; exact hL _ _ _ hw h
  | f + 1, listed, a, w, hw, h => by
    rw [show f + 1 + g = (f + g) + 1 by omega]
    exact ⟨fun h0 => absurd h0 h.1, fun i hi => wpOp_of_qOp hw (fun a' w' hw' h' => any_of_headAny hL f _ a' w' hw' h') (h.2 i hi).2⟩

theorem headAny_first {n i : Nat} {oi : Oper} {v : Value} {L : Array Bool → Act → Prop} (hi : ops[i]? = some oi) (hsel : ∀ (j : Nat) (o : Oper) cs b, ops[j]? = some o → o.op ≠ .select cs b)
    (hs : Region.sinkB md ops n = true) (hc : Region.chainB md ops n = true) (hn : n < ops.size) (hin : i < n)
    (hdone : ∀ listed a, L listed a → ∀ j ∈ Region.ready md ops listed, n ≤ j) (f : Nat) :
    ∀ (listed : Array Bool) (a : Act), HeadInv md ops n listed →
      (∀ j oj, ops[j]? = some oj → j ≠ i → listed.getD j true = false → (∀ e ∈ oj.after, Region.binds md e = true → e.on ≠ i) → oi.apart ops oj = true) →
      i ∈ Region.ready md ops listed → YieldsIn P ops C oi v a →
      headAny P md ops C n L f (listed.setIfInBounds i true) (a.put oi.dst v) → headAny P md ops C n L (f + 1) listed a := by
  induction f with
  | zero =>
    intro listed a inv _ hr hy H
    have early : ∀ j ∈ Region.ready md ops listed, j < n := fun j hj => by
      rcases Nat.lt_or_ge j n with h | h
      · exact h
      · exact absurd hj (tail_waits hs hc hn inv _ i rfl hin (mem_ready.1 hr).1 j h)
    refine ⟨fun h => (by rw [h] at hr; cases hr), fun j hj => ⟨early j hj, ?_⟩⟩
    by_cases hji : j = i
    · subst hji; exact hy.qOp hi H
    · have h1 := hdone _ _ H j (ready_mono hj hji)
      have h2 := early j hj
      omega
  | succ f ih =>
    intro listed a inv hfree hr hy H
    have hun := (mem_ready.1 hr).1
    have early : ∀ j ∈ Region.ready md ops listed, j < n := fun j hj => by
      rcases Nat.lt_or_ge j n with h | h
      · exact h
      · exact absurd hj (tail_waits hs hc hn inv _ i rfl hin hun j h)
    refine ⟨fun h => (by rw [h] at hr; cases hr), fun j hj => ⟨early j hj, ?_⟩⟩
    by_cases hji : j = i
    · subst hji; exact hy.qOp hi H
    · obtain ⟨hjun, oj, hoj, hall⟩ := mem_ready.1 hj
      have hnot : ∀ e ∈ oj.after, Region.binds md e = true → e.on ≠ i := fun e he hb heq => by
        have h1 := hall e he hb
        rw [heq, getD_both hun] at h1
        cases h1
      have h2 := qOp_put hoj (hfree j oj hoj hji hjun hnot) (fun cs b => hsel i oi cs b hi) (fun cs b => hsel j oj cs b hoj) hy (H.2 j (ready_mono hj hji)).2
      refine qOp_mono (fun a' h3 => ih (listed.setIfInBounds j true) a' (inv.set hj (early j hj)) (fun k ok hk hki hu hno => ?_) (ready_mono hr (Ne.symm hji)) h3.1 ?_) h2
      · refine hfree k ok hk hki ?_ hno
        by_cases hjk : j = k
        · subst hjk; exact hjun
        · rw [getD_set_ne true hjk] at hu; exact hu
      · rw [Array.setIfInBounds_comm _ _ hji]; exact h3.2

theorem headAny_lex {n g : Nat} {Lq : Act → Prop} (hsel : Region.noSelect ops = true) (hs : Region.sinkB md ops n = true) (hc : Region.chainB md ops n = true) (hn : n < ops.size) :
    ∀ (l : List Oper) (k : Nat) (listed : Array Bool) (a : Act), (∀ j, j < l.length → l[j]? = ops[k + j]?) → k + l.length = n → HeadInv md ops n listed →
    Region.lexHead md ops g l.length k listed = true → wpQuiet P ops C Lq l a →
    headAny P md ops C n (fun listed' a' => Region.seqB md ops g n listed' = true ∧ Lq a') l.length listed a
  | [], k, listed, a, _, hk, _, hB, h => by
    obtain rfl : k = n := by simpa using hk
    exact ⟨by simpa [Region.lexHead] using hB, h⟩
  | o :: l, k, listed, a, hl, hk, inv, hB, h => by
    have h0 : ops[k]? = some o := by simpa using (hl 0 (by simp)).symm
    simp only [List.length_cons, Region.lexHead, Bool.and_eq_true] at hB
    obtain ⟨⟨hr, hf⟩, hB'⟩ := hB
    have hkn : k < n := by simp only [List.length_cons] at hk; omega
    have hr' : k ∈ Region.ready md ops listed := by simpa using hr
    have hq : qOp P ops C k (wpQuiet P ops C Lq l) a := by unfold qOp; simp only [h0]; exact h
    obtain ⟨v, hy, hK⟩ := yieldsIn_of_qOp h0 hq
    exact headAny_first h0 (Region.noSelect_spec hsel) hs hc hn hkn (fun listed' a' hL => seqB_ready hL.1) l.length listed a inv (Region.free_spec h0 hf) hr' hy
      (headAny_lex hsel hs hc hn l (k + 1) _ _ (fun j hj => by have := hl (j + 1) (by simp; omega); simpa [Nat.add_assoc, Nat.add_comm 1 j] using this) (by simp only [List.length_cons] at hk; omega) (inv.set hr' hkn) hB' hK)

/-- A REGION THAT DRAWS ITS ORDER: its first n operations are quiet over the class C of worlds, the others follow in one forced order. -/
theorem region_qtail {id : Nat} {Q : Exit → Act → World → Prop} {a : Act} {w : World} {l : List Oper} (n : Nat) (hm : P.follows .mixedOrders = true) (hB : Region.lexTailB .any l.toArray n = true)
    (hC : C { w with drawn := w.drawn + 1 })
    (h : wpQuiet P l.toArray C (fun a' => ∀ w', C w' → wpList P l.toArray Q (l.drop n) a' w') (l.take n) a) : (Code.region id l.toArray true).wp P Q a w := by
  simp only [Region.lexTailB, Bool.and_eq_true, decide_eq_true_eq] at hB
  obtain ⟨⟨⟨⟨hsel, hn⟩, hs⟩, hc⟩, hlex⟩ := hB
  have htl : (l.take n).length = n := by have : n < l.length := by simpa using hn
                                         simp; omega
  have hdl : (l.drop n).length = l.toArray.size - n := by simp
  have inv0 : HeadInv .any l.toArray n (Array.replicate l.toArray.size false) :=
    ⟨by simp, fun j oj _ hl => (by rw [getD_replicate_false] at hl; cases hl), fun t _ ht => getD_in (by simpa using ht) (getD_replicate_false _ _)⟩
  have H := headAny_lex (md := .any) (g := l.toArray.size - n) hsel hs hc hn (l.take n) 0 _ a (fun j hj => by
    have hj' : j < n := by rw [htl] at hj; exact hj
    simp [hj']) (by simpa using htl) inv0 (by rw [htl]; exact hlex) h
  refine wp_region_any hm ?_
  have := any_of_headAny (Q' := Q) (g := l.toArray.size - n) (fun listed a' w' hw' hL => by
    have := wpAny_of_seq (md := .any) (Q' := Q) (l.drop n) n listed a' w' (fun j => by simp [List.getElem?_drop]) (by rw [hdl]; exact hL.1) (hL.2 w' hw')
    rwa [hdl] at this) _ _ _ _ hC H
  rw [htl, show n + (l.toArray.size - n) = l.toArray.size by omega] at this
  exact this

/-- .. at the class 'of what was there nothing has turned'. -/
theorem region_below_tail {id : Nat} {Q : Exit → Act → World → Prop} {a : Act} {w : World} {l : List Oper} (n : Nat) (hm : P.follows .mixedOrders = true) (hB : Region.lexTailB .any l.toArray n = true)
    (h : wpQuiet P l.toArray (fun w' => ∃ p : Regrown, w' = grow (redrawn w p.d) p.os) (fun a' => ∀ w', (∃ p : Regrown, w' = grow (redrawn w p.d) p.os) → wpList P l.toArray Q (l.drop n) a' w') (l.take n) a) : (Code.region id l.toArray true).wp P Q a w :=
  region_qtail n hm hB ⟨⟨w.drawn + 1, #[]⟩, by rw [grow_empty]; rfl⟩ h
end

/-- Block g is a row of these cells, of this type, none of them frozen. -/
def Row (w : World) (g : Nat) (T : TypeId) (cs : Array Value) : Prop := w.heap[g]? = some (.cells cs T (0, 0))
theorem Row.lt {w : World} {g : Nat} {T : TypeId} {cs : Array Value} (h : Row w g T cs) : g < w.heap.size := (Array.getElem?_eq_some_iff.1 h).1
theorem Row.cell {w : World} {g : Nat} {T : TypeId} {cs : Array Value} (h : Row w g T cs) (j : Nat) : w.cell? ⟨g, j, none⟩ = cs[j]? := cell_of_row w g j cs T _ h
theorem Row.frozen {w : World} {g : Nat} {T : TypeId} {cs : Array Value} (h : Row w g T cs) (j : Nat) : w.frozen? ⟨g, j, none⟩ = false := frozen_of_row w g j cs T h
theorem Row.below {B : Nat} {w w' : World} {g : Nat} {T : TypeId} {cs : Array Value} (h : Row w g T cs) (hb : Below B w w') (hg : g < B) : Row w' g T cs := by
  unfold Row at *; rw [hb.block g hg]; exact h
theorem Row.drew {w : World} {g : Nat} {T : TypeId} {cs : Array Value} (h : Row w g T cs) : Row w.drew g T cs := h
theorem Row.alloc {w : World} {g : Nat} {T : TypeId} {cs : Array Value} (h : Row w g T cs) (o : Obj) : Row (w.alloc o) g T cs := by
  unfold Row; rw [Below.heap_alloc _ _ _ h.lt]; exact h

/-- Only block g may have turned, and no block has come. -/
structure Wrote (g : Nat) (w w' : World) : Prop where
  os : w'.os = w.os
  tape : w'.tape = w.tape
  output : w'.output = w.output
  size : w'.heap.size = w.heap.size
  other : ∀ k, k ≠ g → w'.heap[k]? = w.heap[k]?
theorem Wrote.row {g k : Nat} {w w' : World} {T : TypeId} {cs : Array Value} (h : Wrote g w w') (hr : Row w k T cs) (hk : k ≠ g) : Row w' k T cs := by
  unfold Row at *; rw [h.other k hk]; exact hr
theorem Wrote.below {B g : Nat} {w w' : World} (h : Wrote g w w') (hg : B ≤ g) : Below B w w' :=
  ⟨h.os, h.tape, h.output, Nat.le_of_eq h.size.symm, fun k hk => h.other k (by omega)⟩
theorem wrote_setRow (w : World) (g : Nat) (cs : Array Value) : Wrote g w (w.setRow g cs) :=
  ⟨rfl, rfl, rfl, by simp, fun k hk => setRow_other w g k cs hk⟩

section
variable {P : Program} {ops : Array Oper} {Q : Exit → Act → World → Prop} {rest : List Oper} {o : Oper} {a : Act} {w : World}

/-- A variable is laid, all nought. -/
theorem kAlloc (T : TypeId) (Z : Array Value) (ho : o.op = .alloc T) (hg : Region.wanted o (yielded ops a.tmps) = true) (hz : ((P.info? T).bind (·.zero)).map Value.cells = some Z)
    (h : ∀ w1, Row w1 w.heap.size T Z → w1.heap.size = w.heap.size + 1 → Below w.heap.size w w1 → wpList P ops Q rest (a.put o.dst (.pointer (some ⟨w.heap.size, 0, none⟩))) w1) : wpList P ops Q (o :: rest) a w := by
  refine BigFrame.wpList_want hg fun K hK => ?_
  unfold Oper.wp execOp
  cases hi : P.info? T with
  | none => simp [hi] at hz
  | some i =>
    cases hv : i.zero with
    | none => simp [hi, hv] at hz
    | some v =>
      have hc : v.cells = Z := by simpa [hi, hv] using hz
      have hr : (Instr.alloc T true (.tuple #[])).run P w = .ok (.pointer (some ⟨w.heap.size, 0, none⟩)) (w.alloc (.cells Z T)) := by
        simp [Instr.alloc, zeroValue, typeInfo, hi, hv, newVar, newRow, newObj, Sem.run, hc]
      simp only [ho, Sem.run_bind, hr, Result.andThen_ok, Sem.run_pure]
      exact hK _ _ (h _ (heap_alloc_new w _) (by simp) ((Below.refl _ _).alloc (Nat.le_refl _) _))

/-- A value is boxed. -/
theorem kBox (T : TypeId) (x : Operand) (cs : Array Value) (ho : o.op = .box T x) (hg : Region.wanted o (yielded ops a.tmps) = true) (hx : a.eval x = .agg cs)
    (h : ∀ w1, Row w1 w.heap.size T cs → w1.heap.size = w.heap.size + 1 → Below w.heap.size w w1 → wpList P ops Q rest (a.put o.dst (.pointer (some ⟨w.heap.size, 0, none⟩))) w1) : wpList P ops Q (o :: rest) a w := by
  refine BigFrame.wpList_want hg fun K hK => ?_
  unfold Oper.wp execOp
  have hr : (Instr.box T (.agg cs)).run P w = .ok (.pointer (some ⟨w.heap.size, 0, none⟩)) (w.alloc (.cells cs T)) := by
    simp [Instr.box, newVar, newRow, newObj, Sem.run, Value.cells]
  simp only [ho, hx, Sem.run_bind, hr, Result.andThen_ok, Sem.run_pure]
  exact hK _ _ (h _ (heap_alloc_new w _) (by simp) ((Below.refl _ _).alloc (Nat.le_refl _) _))

def aggDesc : TypeDesc → Bool | .struct _ | .array _ _ => true | _ => false
theorem run_isAgg {T : TypeId} {d : TypeDesc} (hu : P.underlying T = some d) (w : World) : (isAgg T).run P w = .ok (aggDesc d) w := by
  unfold isAgg; rw [Sem.run_bind, run_underlying hu w]; cases d <;> rfl
theorem add_none (g off j : Nat) : (⟨g, off, none⟩ : Addr).add j = ⟨g, off + j, none⟩ := by unfold Addr.add; split <;> simp_all

/-- A part of a row is read as one value. -/
theorem run_loadPart {T U : TypeId} {d : TypeDesc} {g off n : Nat} {cs : Array Value} (hr : Row w g U cs) (hu : P.underlying T = some d) (hd : aggDesc d = true)
    (hi : (P.info? T).map (·.size) = some n) (hn : off + n ≤ cs.size) : (loadVar T ⟨g, off, none⟩).run P w = .ok (.agg (cs.extract off (off + n))) w := by
  have hlen : (cs.extract off (off + n)).size = n := by simp; omega
  have hl : (loadCells ⟨g, off, none⟩ (cs.extract off (off + n)).toList.length).run P w = .ok (cs.extract off (off + n)).toList.toArray w :=
    run_loadCells_list (P := P) w ⟨g, off, none⟩ (cs.extract off (off + n)).toList (fun j v hv => by
      rw [add_none, hr.cell]
      have hv' : (cs.extract off (off + n))[j]? = some v := by rw [← Array.getElem?_toList]; exact hv
      rw [Array.getElem?_extract] at hv'
      split at hv'
      · exact hv'
      · cases hv')
  cases hq : P.info? T with
  | none => simp [hq] at hi
  | some i =>
    have hs : i.size = n := by simpa [hq] using hi
    rw [Array.length_toList, hlen, Array.toArray_toList] at hl
    simp [loadVar, Sem.run_bind, run_isAgg hu, hd, sizeOf, typeInfo, hq, hs, hl]

theorem kLoadPart (T U : TypeId) (x : Operand) (g off n : Nat) (cs : Array Value) (d : TypeDesc) (ho : o.op = .load T x) (hg : Region.wanted o (yielded ops a.tmps) = true)
    (hx : a.eval x = .pointer (some ⟨g, off, none⟩)) (hr : Row w g U cs) (hu : P.underlying T = some d) (hd : aggDesc d = true)
    (hi : (P.info? T).map (·.size) = some n) (hn : off + n ≤ cs.size)
    (h : wpList P ops Q rest (a.put o.dst (.agg (cs.extract off (off + n)))) w) : wpList P ops Q (o :: rest) a w := by
  refine BigFrame.wpList_want hg fun K hK => ?_
  unfold Oper.wp execOp
  simp only [ho, hx, Instr.loadAt, Instr.sureAddr, Sem.run_bind, Sem.run_pure, Result.andThen_ok, run_loadPart hr hu hd hi hn]
  exact hK _ _ h

/-- A whole row is read as one value. -/
theorem kLoadRow (T U : TypeId) (x : Operand) (g : Nat) (cs : Array Value) (d : TypeDesc) (ho : o.op = .load T x) (hg : Region.wanted o (yielded ops a.tmps) = true)
    (hx : a.eval x = .pointer (some ⟨g, 0, none⟩)) (hr : Row w g U cs) (hu : P.underlying T = some d) (hd : aggDesc d = true)
    (hi : (P.info? T).map (·.size) = some cs.size)
    (h : wpList P ops Q rest (a.put o.dst (.agg cs)) w) : wpList P ops Q (o :: rest) a w :=
  kLoadPart T U x g 0 cs.size cs d ho hg hx hr hu hd hi (by omega) (by simpa using h)

/-- What a row holds behind a write of some values at a place. -/
def splice (cs : Array Value) (off : Nat) (vs : List Value) : Array Value := (cs.toList.take off ++ vs ++ cs.toList.drop (off + vs.length)).toArray

/-- A value is written over a part of a row. -/
theorem kStorePart (T U : TypeId) (x y : Operand) (g off : Nat) (cs : Array Value) (vs : Array Value) (ho : o.op = .store T x y) (hg : Region.wanted o (yielded ops a.tmps) = true)
    (hx : a.eval x = .pointer (some ⟨g, off, none⟩)) (hy : a.eval y = .agg vs) (hr : Row w g U cs)
    (hi : (P.info? T).map (·.size) = some vs.size) (hn : off + vs.size ≤ cs.size) (h1 : ∀ v ∈ vs, v.oneCell' = true)
    (h : ∀ w1, Row w1 g U (splice cs off vs.toList) → Wrote g w w1 → wpList P ops Q rest (a.put o.dst undef) w1) : wpList P ops Q (o :: rest) a w := by
  refine BigFrame.wpList_want hg fun K hK => ?_
  unfold Oper.wp execOp
  have hst := run_storeCells_at P g off U vs.toList 0 cs w hr (by simpa using hn) (by simpa using h1)
  cases hq : P.info? T with
  | none => simp [hq] at hi
  | some i =>
    have hs : i.size = vs.size := by simpa [hq] using hi
    have hrun : (Instr.storeAt T (.pointer (some ⟨g, off, none⟩)) (.agg vs)).run P w = .ok () (w.setRow g (splice cs off vs.toList)) := by
      simp only [Nat.add_zero] at hst
      simp [Instr.storeAt, Instr.sureAddr, storeVar, Value.cells, sizeOf, typeInfo, hq, hs, hst, splice]
    simp only [ho, hx, hy, Sem.run_bind, hrun, Result.andThen_ok, Sem.run_pure]
    exact hK _ _ (h _ (setRow_heap w g cs _ U _ hr) (wrote_setRow w g _))

/-- A value is written over a whole row. -/
theorem kStoreRow (T U : TypeId) (x y : Operand) (g : Nat) (cs : Array Value) (vs : Array Value) (ho : o.op = .store T x y) (hg : Region.wanted o (yielded ops a.tmps) = true)
    (hx : a.eval x = .pointer (some ⟨g, 0, none⟩)) (hy : a.eval y = .agg vs) (hr : Row w g U cs)
    (hi : (P.info? T).map (·.size) = some vs.size) (hn : vs.size = cs.size) (h1 : ∀ v ∈ vs, v.oneCell' = true)
    (h : ∀ w1, Row w1 g U vs → Wrote g w w1 → wpList P ops Q rest (a.put o.dst undef) w1) : wpList P ops Q (o :: rest) a w :=
  kStorePart T U x y g 0 cs vs ho hg hx hy hr hi (by omega) h1 (fun w1 hr1 hw1 => h w1 (by
    have e : splice cs 0 vs.toList = vs := by
      have hd : cs.toList.drop cs.size = [] := List.drop_eq_nil_of_le (by simp)
      simp [splice, hn, hd]
    rw [e] at hr1; exact hr1) hw1)

/-- One cell of a row is written. -/
theorem kStore1 (T U : TypeId) (x y : Operand) (g off : Nat) (cs : Array Value) (v : Value) (ho : o.op = .store T x y) (hg : Region.wanted o (yielded ops a.tmps) = true)
    (hx : a.eval x = .pointer (some ⟨g, off, none⟩)) (hy : a.eval y = v) (hr : Row w g U cs) (hi : (P.info? T).map (·.size) = some 1)
    (hn : off < cs.size) (h1 : v.oneCell' = true)
    (h : ∀ w1, Row w1 g U (cs.setIfInBounds off v) → Wrote g w w1 → wpList P ops Q rest (a.put o.dst undef) w1) : wpList P ops Q (o :: rest) a w := by
  refine BigFrame.wpList_want hg fun K hK => ?_
  unfold Oper.wp execOp
  have hc : v.cells = #[v] := by cases v <;> first | rfl | cases h1
  have hcell : w.cell? ⟨g, off, none⟩ = some cs[off] := by rw [hr.cell]; simp [hn]
  cases hq : P.info? T with
  | none => simp [hq] at hi
  | some i =>
    have hs : i.size = 1 := by simpa [hq] using hi
    have hrun : (Instr.storeAt T (.pointer (some ⟨g, off, none⟩)) v).run P w = .ok () (w.setRow g (cs.setIfInBounds off v)) := by
      simp [Instr.storeAt, Instr.sureAddr, storeVar, hc, sizeOf, typeInfo, hq, hs, storeCells, add_none, run_store P w _ v _ h1, hcell, hr.frozen, setCell_eq_setRow w g off cs U (0, 0) v hr]
    simp only [ho, hx, hy, Sem.run_bind, hrun, Result.andThen_ok, Sem.run_pure]
    exact hK _ _ (h _ (setRow_heap w g cs _ U _ hr) (wrote_setRow w g _))

/-- One cell of a row is read. -/
theorem run_load1 {T U : TypeId} {d : TypeDesc} {g off : Nat} {cs : Array Value} {v : Value} (hr : Row w g U cs) (hu : P.underlying T = some d) (hd : aggDesc d = false)
    (hv : cs[off]? = some v) : (loadVar T ⟨g, off, none⟩).run P w = .ok v w := by
  have hcell : w.cell? ⟨g, off, none⟩ = some v := by rw [hr.cell]; exact hv
  simp [loadVar, Sem.run_bind, run_isAgg hu, hd, load, Sem.run, hcell]
theorem kLoad1 (T U : TypeId) (x : Operand) (g off : Nat) (cs : Array Value) (v : Value) (d : TypeDesc) (ho : o.op = .load T x) (hg : Region.wanted o (yielded ops a.tmps) = true)
    (hx : a.eval x = .pointer (some ⟨g, off, none⟩)) (hr : Row w g U cs) (hu : P.underlying T = some d) (hd : aggDesc d = false) (hv : cs[off]? = some v)
    (h : wpList P ops Q rest (a.put o.dst v) w) : wpList P ops Q (o :: rest) a w := by
  refine BigFrame.wpList_want hg fun K hK => ?_
  unfold Oper.wp execOp
  simp only [ho, hx, Instr.loadAt, Instr.sureAddr, Sem.run_bind, Sem.run_pure, Result.andThen_ok, run_load1 hr hu hd hv]
  exact hK _ _ h

/-- What a function hands back that lies in a row of its own. -/
theorem result_row {fn : Func} {R : Ending → World → Prop} {p : Tmp} {T U : TypeId} {d : TypeDesc} {g : Nat} {cs : Array Value} (h : fn.results = #[.cell p T])
    (hp : a.tmps.getD p undef = .pointer (some ⟨g, 0, none⟩)) (hr : Row w g U cs) (hu : P.underlying T = some d) (hd : aggDesc d = true)
    (hi : (P.info? T).map (·.size) = some cs.size) (hdf : a.defers = []) (hR : R (.returned (.agg cs)) w) : bodyPost P fn R .ret a w :=
  bodyPost_ret (v := .agg cs) (results_cell_row h a.tmps w g U cs _ d hp hr hu (by cases d <;> first | rfl | cases hd) hi) hdf hR
/-- A value of an array, at an index. -/
theorem kIndex (T elem : TypeId) (x y : Operand) (k : IntKind) (cs : Array Value) (i : Int) (j len : Nat) (v : Value) (d : TypeDesc) (ho : o.op = .index T x y) (hg : Region.wanted o (yielded ops a.tmps) = true)
    (hx : a.eval x = .agg cs) (hy : a.eval y = .int k i) (hu : P.underlying T = some (.array len elem)) (he : P.underlying elem = some d) (hd : aggDesc d = false)
    (hs : (P.info? elem).map (·.size) = some 1) (hi : i = (j : Int)) (hj : j < len) (hv : cs[j]? = some v)
    (h : wpList P ops Q rest (a.put o.dst v) w) : wpList P ops Q (o :: rest) a w := by
  refine BigFrame.wpList_want hg fun K hK => ?_
  unfold Oper.wp execOp
  subst hi
  have hrun : (Instr.index T (.agg cs) (.int k (j : Int))).run P w = .ok v w := by
    cases hq : P.info? elem with
    | none => simp [hq] at hs
    | some t =>
      have hs' : t.size = 1 := by simpa [hq] using hs
      have hc : (0 : Int) ≤ (j : Int) ∧ (j : Int) < (len : Int) := by omega
      simp [Instr.index, asIntOf, run_underlying hu, hc, Go.part, run_isAgg he, hd, sizeOf, typeInfo, hq, hs', hv]
      intro hle; omega
  simp only [ho, hx, hy, Sem.run_bind, hrun, Result.andThen_ok, Sem.run_pure]
  exact hK _ _ h

/-- The address of an element of an array variable. -/
theorem kIndexAddr (T elem : TypeId) (x y : Operand) (k : IntKind) (g off : Nat) (i : Int) (j len s : Nat) (ho : o.op = .indexAddr T x y) (hg : Region.wanted o (yielded ops a.tmps) = true)
    (hx : a.eval x = .pointer (some ⟨g, off, none⟩)) (hy : a.eval y = .int k i) (hu : P.underlying T = some (.array len elem))
    (hs : (P.info? elem).map (·.size) = some s) (hi : i = (j : Int)) (hj : j < len)
    (h : wpList P ops Q rest (a.put o.dst (.pointer (some ⟨g, off + j * s, none⟩))) w) : wpList P ops Q (o :: rest) a w := by
  refine BigFrame.wpList_want hg fun K hK => ?_
  unfold Oper.wp execOp
  subst hi
  have hrun : (Instr.indexAt T (.pointer (some ⟨g, off, none⟩)) (.int k (j : Int))).run P w = .ok (.pointer (some ⟨g, off + j * s, none⟩)) w := by
    cases hq : P.info? elem with
    | none => simp [hq] at hs
    | some t =>
      have hs' : t.size = s := by simpa [hq] using hs
      have hc : (0 : Int) ≤ (j : Int) ∧ (j : Int) < (len : Int) := by omega
      simp [Instr.indexAt, asIntOf, run_underlying hu, hc, Instr.sureAddr, sizeOf, typeInfo, hq, hs', add_none]
      intro hle; omega
  simp only [ho, hx, hy, Sem.run_bind, hrun, Result.andThen_ok, Sem.run_pure]
  exact hK _ _ h
theorem kIndexAddr1 (T elem : TypeId) (x y : Operand) (k : IntKind) (g : Nat) (i : Int) (j len : Nat) (ho : o.op = .indexAddr T x y) (hg : Region.wanted o (yielded ops a.tmps) = true)
    (hx : a.eval x = .pointer (some ⟨g, 0, none⟩)) (hy : a.eval y = .int k i) (hu : P.underlying T = some (.array len elem))
    (hs : (P.info? elem).map (·.size) = some 1) (hi : i = (j : Int)) (hj : j < len)
    (h : wpList P ops Q rest (a.put o.dst (.pointer (some ⟨g, j, none⟩))) w) : wpList P ops Q (o :: rest) a w :=
  kIndexAddr T elem x y k g 0 i j len 1 ho hg hx hy hu hs hi hj (by simpa using h)
end

/-! ### the same in a quiet walk over a class of worlds -/
section
variable {P : Program} {ops : Array Oper} {C : World → Prop} {Q : Act → Prop} {rest : List Oper} {o : Oper} {a : Act}

theorem qStep (v : Value) (hg : Region.wanted o (yielded ops a.tmps) = true) (hv : ∀ w, C w → (execOp a.eval o).run P w = .ok (.value v) w) (h : wpQuiet P ops C Q rest (a.put o.dst v)) : wpQuiet P ops C Q (o :: rest) a :=
  wpQuiet_step fun K hK => by
    rw [if_pos hg]
    exact ⟨v, fun w hw => by unfold Oper.quietAt; rw [hv w hw]; exact ⟨rfl, rfl⟩, hK _ h⟩

theorem qIndexAddr (T elem : TypeId) (x y : Operand) (k : IntKind) (g off : Nat) (i : Int) (j len s : Nat) (ho : o.op = .indexAddr T x y) (hg : Region.wanted o (yielded ops a.tmps) = true)
    (hx : a.eval x = .pointer (some ⟨g, off, none⟩)) (hy : a.eval y = .int k i) (hu : P.underlying T = some (.array len elem))
    (hs : (P.info? elem).map (·.size) = some s) (hi : i = (j : Int)) (hj : j < len)
    (h : wpQuiet P ops C Q rest (a.put o.dst (.pointer (some ⟨g, off + j * s, none⟩)))) : wpQuiet P ops C Q (o :: rest) a := by
  refine qStep _ hg (fun w _ => ?_) h
  subst hi
  unfold execOp
  cases hq : P.info? elem with
  | none => simp [hq] at hs
  | some t =>
    have hs' : t.size = s := by simpa [hq] using hs
    have hc : (0 : Int) ≤ (j : Int) ∧ (j : Int) < (len : Int) := by omega
    simp only [ho, hx, hy]
    simp [Instr.indexAt, asIntOf, run_underlying hu, hc, Instr.sureAddr, sizeOf, typeInfo, hq, hs', add_none]
    omega
theorem qIndexAddr1 (T elem : TypeId) (x y : Operand) (k : IntKind) (g : Nat) (i : Int) (j len : Nat) (ho : o.op = .indexAddr T x y) (hg : Region.wanted o (yielded ops a.tmps) = true)
    (hx : a.eval x = .pointer (some ⟨g, 0, none⟩)) (hy : a.eval y = .int k i) (hu : P.underlying T = some (.array len elem))
    (hs : (P.info? elem).map (·.size) = some 1) (hi : i = (j : Int)) (hj : j < len)
    (h : wpQuiet P ops C Q rest (a.put o.dst (.pointer (some ⟨g, j, none⟩)))) : wpQuiet P ops C Q (o :: rest) a :=
  qIndexAddr T elem x y k g 0 i j len 1 ho hg hx hy hu hs hi hj (by simpa using h)

theorem qLoad1 (T U : TypeId) (x : Operand) (g off : Nat) (cs : Array Value) (v : Value) (d : TypeDesc) (ho : o.op = .load T x) (hg : Region.wanted o (yielded ops a.tmps) = true)
    (hx : a.eval x = .pointer (some ⟨g, off, none⟩)) (hr : ∀ w, C w → Row w g U cs) (hu : P.underlying T = some d) (hd : aggDesc d = false) (hv : cs[off]? = some v)
    (h : wpQuiet P ops C Q rest (a.put o.dst v)) : wpQuiet P ops C Q (o :: rest) a := by
  refine qStep _ hg (fun w hw => ?_) h
  unfold execOp
  simp only [ho, hx, Instr.loadAt, Instr.sureAddr, Sem.run_bind, Sem.run_pure, Result.andThen_ok, run_load1 (hr w hw) hu hd hv]

theorem qLoadPart (T U : TypeId) (x : Operand) (g off n : Nat) (cs : Array Value) (d : TypeDesc) (ho : o.op = .load T x) (hg : Region.wanted o (yielded ops a.tmps) = true)
    (hx : a.eval x = .pointer (some ⟨g, off, none⟩)) (hr : ∀ w, C w → Row w g U cs) (hu : P.underlying T = some d) (hd : aggDesc d = true)
    (hi : (P.info? T).map (·.size) = some n) (hn : off + n ≤ cs.size)
    (h : wpQuiet P ops C Q rest (a.put o.dst (.agg (cs.extract off (off + n))))) : wpQuiet P ops C Q (o :: rest) a := by
  refine qStep _ hg (fun w hw => ?_) h
  unfold execOp
  simp only [ho, hx, Instr.loadAt, Instr.sureAddr, Sem.run_bind, Sem.run_pure, Result.andThen_ok, run_loadPart (hr w hw) hu hd hi hn]

/-- A callee's contract that leaves the world alone, met in a world behind some draws. -/
theorem quiet_same {f : FuncId} {args : Array Value} {w : World} {n : Nat} {v : Value}
    (h : Calls P f args (w.drewN n) fun e w' => e = .returned v ∧ w.drewN n = w') : Calls P f args (w.drewN n) fun e w'' => e = .returned v ∧ ∃ m, w'' = w.drewN m :=
  h.mono fun _ _ ⟨he, hm⟩ => ⟨he, n, hm.symm⟩
theorem Row.drewN {w : World} {g : Nat} {T : TypeId} {cs : Array Value} (h : Row w g T cs) (n : Nat) : Row (w.drewN n) g T cs := h
theorem region_drew_tail {id : Nat} {Q : Exit → Act → World → Prop} {a : Act} {w : World} {l : List Oper} (n : Nat) (hm : P.follows .mixedOrders = true) (hB : Region.lexTailB .any l.toArray n = true)
    (h : wpQuiet P l.toArray (fun w' => ∃ n, w' = w.drewN n) (fun a' => ∀ w', (∃ n, w' = w.drewN n) → wpList P l.toArray Q (l.drop n) a' w') (l.take n) a) : (Code.region id l.toArray true).wp P Q a w :=
  region_qtail n hm hB ⟨1, rfl⟩ h
end

/-- A cell that is the same in every world of the class. -/
theorem qLoadCell {P : Program} {ops : Array Oper} {C : World → Prop} {Q : Act → Prop} {rest : List Oper} {o : Oper} {a : Act} (T : TypeId) (x : Operand) (g off : Nat) (v : Value) (d : TypeDesc) (ho : o.op = .load T x) (hg : Region.wanted o (yielded ops a.tmps) = true)
    (hx : a.eval x = .pointer (some ⟨g, off, none⟩)) (hr : ∀ w, C w → w.cell? ⟨g, off, none⟩ = some v) (hu : P.underlying T = some d) (hd : aggDesc d = false)
    (h : wpQuiet P ops C Q rest (a.put o.dst v)) : wpQuiet P ops C Q (o :: rest) a := by
  refine qStep _ hg (fun w hw => ?_) h
  unfold execOp
  have hcell := hr w hw
  have hl : (loadVar T ⟨g, off, none⟩).run P w = .ok v w := by simp [loadVar, Sem.run_bind, run_isAgg hu, hd, load, Sem.run, hcell]
  simp only [ho, hx, Instr.loadAt, Instr.sureAddr, Sem.run_bind, Sem.run_pure, Result.andThen_ok, hl]

theorem qLoadAs {P : Program} {ops : Array Oper} {C : World → Prop} {Q : Act → Prop} {rest : List Oper} {o : Oper} {a : Act} (T U : TypeId) (x : Operand) (g off n : Nat) (cs vs : Array Value) (d : TypeDesc) (ho : o.op = .load T x) (hg : Region.wanted o (yielded ops a.tmps) = true)
    (hx : a.eval x = .pointer (some ⟨g, off, none⟩)) (hr : ∀ w, C w → Row w g U cs) (hu : P.underlying T = some d) (hd : aggDesc d = true)
    (hi : (P.info? T).map (·.size) = some n) (hn : off + n ≤ cs.size) (hv : cs.extract off (off + n) = vs)
    (h : wpQuiet P ops C Q rest (a.put o.dst (.agg vs))) : wpQuiet P ops C Q (o :: rest) a :=
  qLoadPart T U x g off n cs d ho hg hx hr hu hd hi hn (by rw [hv]; exact h)
theorem kLoadAs {P : Program} {ops : Array Oper} {Q : Exit → Act → World → Prop} {rest : List Oper} {o : Oper} {a : Act} {w : World} (T U : TypeId) (x : Operand) (g off n : Nat) (cs vs : Array Value) (d : TypeDesc) (ho : o.op = .load T x) (hg : Region.wanted o (yielded ops a.tmps) = true)
    (hx : a.eval x = .pointer (some ⟨g, off, none⟩)) (hr : Row w g U cs) (hu : P.underlying T = some d) (hd : aggDesc d = true)
    (hi : (P.info? T).map (·.size) = some n) (hn : off + n ≤ cs.size) (hv : cs.extract off (off + n) = vs)
    (h : wpList P ops Q rest (a.put o.dst (.agg vs)) w) : wpList P ops Q (o :: rest) a w :=
  kLoadPart T U x g off n cs d ho hg hx hr hu hd hi hn (by rw [hv]; exact h)
theorem row_regrown {w : World} {g : Nat} {T : TypeId} {cs : Array Value} (h : Row w g T cs) {w' : World} (hw : ∃ p : Regrown, w' = grow (redrawn w p.d) p.os) : Row w' g T cs := by
  obtain ⟨p, rfl⟩ := hw; exact h.below (below_regrown w p.d p.os) h.lt

end Go.Proofs.Ytdeggdmoijfhdaa

/-
  My kit, second part: slices of elements of one cell: what they read as; made, appended to, copied, cut; a slice of a call's own.
-/
namespace Go.Proofs.Ytdeggdmoijfhdaa
open Go Go.RowKit

/-- The value reads as a list of these cells. -/
def IsVals (w : World) (v : Value) (l : List Value) : Prop :=
  ∃ ao c, v = .slice ao l.length c ∧ l.length ≤ c ∧ (ao = none → c = 0) ∧ ∀ j u, l[j]? = some u → ∃ a, ao = some a ∧ w.cell? (a.add j) = some u

theorem IsVals.below {w w' : World} {v : Value} {l : List Value} (h : IsVals w v l) (hb : Below w.heap.size w w') : IsVals w' v l := by
  obtain ⟨ao, c, rfl, hc, hn, hj⟩ := h
  refine ⟨ao, c, rfl, hc, hn, fun j u hu => ?_⟩
  obtain ⟨a, rfl, hcell⟩ := hj j u hu
  exact ⟨a, rfl, by rw [hb.cell (block_lt_of_cell hcell)]; exact hcell⟩
theorem IsVals.wrote {w w' : World} {v : Value} {l : List Value} {g : Nat} (h : IsVals w v l) (hb : Wrote g w w') (hB : ∀ (j : Nat) (u : Value), l[j]? = some u → ∀ a, v.ownBlock = some a → a ≠ g) : IsVals w' v l := by
  obtain ⟨ao, c, rfl, hc, hn, hj⟩ := h
  refine ⟨ao, c, rfl, hc, hn, fun j u hu => ?_⟩
  obtain ⟨a, rfl, hcell⟩ := hj j u hu
  have hne : a.block ≠ g := hB j u hu a.block rfl
  have hblk : (a.add j).block = a.block := by unfold Addr.add; split <;> rfl
  exact ⟨a, rfl, by rw [World.cell?_of_block (w := w) (by rw [hblk]; exact hb.other _ hne)]; exact hcell⟩
theorem isVals_nil (w : World) : IsVals w (.slice none 0 0) [] := ⟨none, 0, rfl, Nat.le_refl _, fun _ => rfl, fun j u h => by simp at h⟩
theorem isVals_own {w : World} {base : Nat} {E : TypeId} {v : Value} {l : List Value} {n : Nat} (h : w.ownsRow base E 1 v n l) : IsVals w v l := by
  have hl : l.length = n := by have := h.1; omega
  rcases h.2 with ⟨rfl, rfl⟩ | ⟨g, cap, cur, rfl, _, hg, hnc, _, hcs, ht⟩
  · rw [List.length_eq_zero_iff.1 hl]; exact isVals_nil w
  · refine ⟨some ⟨g, 0, none⟩, cap, by rw [hl], by omega, (fun h => by cases h), fun j u hu => ⟨⟨g, 0, none⟩, rfl, ?_⟩⟩
    rw [add_none, Nat.zero_add, cell_of_row w g j cur E _ hg]
    have hj : j < l.length := (List.getElem?_eq_some_iff.1 hu).1
    rw [← ht] at hu
    rw [List.getElem?_take, if_pos (by omega)] at hu
    simpa using hu
theorem isVals_row {w : World} {g : Nat} {E : TypeId} {cs : Array Value} (h : Row w g E cs) (off n c : Nat) (hn : off + n ≤ cs.size) (hc : n ≤ c) : IsVals w (.slice (some ⟨g, off, none⟩) n c) (cs.extract off (off + n)).toList := by
  have hl : (cs.extract off (off + n)).toList.length = n := by simp; omega
  refine ⟨some ⟨g, off, none⟩, c, by rw [hl], by omega, (fun h => by cases h), fun j u hu => ⟨_, rfl, ?_⟩⟩
  have hj : j < n := by have := (List.getElem?_eq_some_iff.1 hu).1; omega
  rw [add_none, h.cell]
  have hu' : (cs.extract off (off + n))[j]? = some u := by rw [← Array.getElem?_toList]; exact hu
  rw [Array.getElem?_extract] at hu'
  split at hu'
  · exact hu'
  · cases hu'

theorem isVals_lit {w : World} {g : Nat} {E : TypeId} {l : List Value} (h : Row w g E l.toArray) : IsVals w (.slice (some ⟨g, 0, none⟩) l.length l.length) l := by
  have := isVals_row h 0 l.length l.length (by simp) (Nat.le_refl _)
  simpa using this
theorem ownsRow_below {w w' : World} {base : Nat} {e : TypeId} {size : Nat} {v : Value} {n : Nat} {xs : List Value} (h : w.ownsRow base e size v n xs) (hb : Below w.heap.size w w') : w'.ownsRow base e size v n xs := by
  refine ⟨h.1, ?_⟩
  rcases h.2 with hn | ⟨g, cap, cur, rfl, hbg, hg, rest⟩
  · exact .inl hn
  · exact .inr ⟨g, cap, cur, rfl, hbg, by rw [hb.block g (Array.getElem?_eq_some_iff.1 hg).1]; exact hg, rest⟩
theorem below_grown {w w' : World} {base : Nat} {e : TypeId} {size : Nat} {v : Value} {n : Nat} {xs : List Value} (h : w.ownsRow base e size v n xs) (hg : w.grownBy w' v.ownBlock) (hB : base ≤ w.heap.size) : Below base w w' :=
  (Below.refl _ _).grown hg hB (fun k hk => (h.lt k hk).1)

section
variable {P : Program} {ops : Array Oper} {Q : Exit → Act → World → Prop} {rest : List Oper} {o : Oper} {a : Act} {w : World}

/-- append(s, x...), s a slice of the call's own (or nil), x whatever reads as a list. -/
theorem kAppend (s x : Operand) (T E : TypeId) (ho : o.op = .call { callee := .builtin .append, args := #[s, x], argTypes := #[T, T] }) (hg : o.guard = none)
    (base : Nat) (i : TypeInfo) (z : Value) (ht : P.underlying T = some (.slice E)) (hi : P.info? E = some i) (hz : i.zero = some z) (hsize : i.size = 1) (hzs : z.cells.size = 1)
    (v y : Value) (xs news : List Value) (hs : a.eval s = v) (hown : w.ownsRow base E 1 v xs.length xs) (hx : a.eval x = y) (hy : IsVals w y news) (h1 : ∀ u ∈ news, u.oneCell' = true)
    (h63 : xs.length + news.length ≤ maxLen) (hbytes : (xs.length + news.length) * i.bytes ≤ 140737488355328) (hbase : base ≤ w.heap.size)
    (h : ∀ v' w', w'.ownsRow base E 1 v' (xs ++ news).length (xs ++ news) → w.grownBy w' v.ownBlock → wpList P ops Q rest (a.put o.dst v') w') : wpList P ops Q (o :: rest) a w := by
  obtain ⟨ao, c, rfl, hc, hn, hj⟩ := hy
  cases ao with
  | none =>
    have e0 : news = [] := by
      cases news with
      | nil => rfl
      | cons u us => obtain ⟨a, ha, _⟩ := hj 0 u rfl; cases ha
    subst e0
    have hc0 := hn rfl
    subst hc0
    refine wpList_append_own_none hg s x T ho base E i 1 ht hi v xs.length xs hs hown hx ?_
    exact h v w (by simpa using hown) ⟨rfl, rfl, rfl, Nat.le_refl _, fun _ _ _ => rfl⟩
  | some ad =>
    refine wpList_append_own w hg s x T ho base E i z 1 i.bytes ht hi hz hsize rfl hzs (by decide) v xs.length xs hs hown ad news.length c news hx (by omega) (fun j u hu => ?_) h1 h63 hbytes hbase ?_
    · obtain ⟨a', ha, hcell⟩ := hj j u hu
      cases ha; exact hcell
    · intro v' w' hown' hg' _
      exact h v' w' (by rw [List.length_append]; exact hown') hg'

/-- make([]E, l, c). -/
theorem kMake (T E : TypeId) (x y : Operand) (ho : o.op = .makeSlice T x y) (hg : Region.wanted o (yielded ops a.tmps) = true) (i : TypeInfo) (z : Value) (ht : P.underlying T = some (.slice E)) (hi : P.info? E = some i) (hz : i.zero = some z)
    (hsize : i.size = 1) (zv : Value) (hzs : z.cells = #[zv]) (kl kc : IntKind) (l c : Int) (n m : Nat) (hx : a.eval x = .int kl l) (hy : a.eval y = .int kc c) (hl : l = (n : Int)) (hc : c = (m : Int)) (hnm : n ≤ m) (hbytes : i.bytes * m ≤ 281474976710656) (h63 : m ≤ 9223372036854775807)
    (h : ∀ w1, Row w1 w.heap.size E (Array.replicate m zv) → w1.heap.size = w.heap.size + 1 → Below w.heap.size w w1 → wpList P ops Q rest (a.put o.dst (.slice (some ⟨w.heap.size, 0, none⟩) n m)) w1) : wpList P ops Q (o :: rest) a w := by
  refine BigFrame.wpList_want hg fun K hK => ?_
  unfold Oper.wp execOp
  have hb' : (i.bytes : Int) * c ≤ 281474976710656 := by
    subst hc
    have h : ((i.bytes * m : Nat) : Int) ≤ 281474976710656 := by omega
    rwa [Int.natCast_mul] at h
  have hr := run_make (P := P) w T E i z ht hi hz kl kc l c (by omega) (by omega) hb' (by omega)
  have e1 : l.toNat = n := by omega
  have e2 : c.toNat = m := by omega
  have e3 : madeCells z.cells m = Array.replicate m zv := by
    rw [hzs]
    apply Array.ext
    · simp [madeCells]
    · intro k h1 h2; simp [madeCells, Nat.mod_one]
  rw [e1, e2, hsize, Nat.mul_one, e3] at hr
  simp only [ho, hx, hy, Sem.run_bind, hr, Result.andThen_ok, Sem.run_pure]
  exact hK _ _ (h _ (heap_alloc_new w _) (by simp) ((Below.refl _ _).alloc (Nat.le_refl _) _))

/-- copy(d, s): d a part of a row of the call's own. -/
theorem kCopy (d s : Operand) (T T2 E U : TypeId) (ho : o.op = .call { callee := .builtin .copy, args := #[d, s], argTypes := #[T, T2] }) (hg : Region.wanted o (yielded ops a.tmps) = true)
    (ht : P.underlying T = some (.slice E)) (hsz : (P.info? E).map (·.size) = some 1) (g off dLen dCap : Nat) (hd : a.eval d = .slice (some ⟨g, off, none⟩) dLen dCap) (y : Value) (hs : a.eval s = y) (l : List Value) (hy : IsVals w y l) (h1 : ∀ u ∈ l, u.oneCell' = true)
    (cs : Array Value) (hr : Row w g U cs) (hfit : off + dLen ≤ cs.size)
    (h : ∀ w1, Row w1 g U (splice cs off (l.take dLen)) → Wrote g w w1 → wpList P ops Q rest (a.put o.dst (.int .i64 ((min l.length dLen : Nat) : Int))) w1) : wpList P ops Q (o :: rest) a w := by
  refine BigFrame.wpList_want hg fun K hK => ?_
  obtain ⟨ao, c, rfl, hc, hn, hj⟩ := hy
  unfold Oper.wp
  cases ao with
  | none =>
    have e0 : l = [] := by
      cases l with
      | nil => rfl
      | cons u us => obtain ⟨a, ha, _⟩ := hj 0 u rfl; cases ha
    subst e0
    have hc0 := hn rfl
    subst hc0
    have hrun := run_copy_nil P w T T2 o.type E ⟨g, off, none⟩ dLen dCap ht (by cases hq : P.info? E <;> simp [hq] at hsz ⊢)
    have hs' : a.eval s = .slice none 0 0 := hs
    have e : splice cs off (List.take dLen []) = cs := by simp [splice]
    simp [execOp, ho, resolve, invoke, builtin, hd, hs', hrun, Result.andThen]
    have := h w (by rw [e]; exact hr) ⟨rfl, rfl, rfl, rfl, fun _ _ => rfl⟩
    simp at this
    exact hK _ _ this
  | some ad =>
    have hlen : (l.take dLen).length = Nat.min l.length dLen := by rw [List.length_take]; exact Nat.min_comm _ _
    have hle : (l.take dLen).length ≤ dLen := List.length_take_le _ _
    have hrun := run_copy_row P w T T2 o.type E g off dLen dCap ad l.length c cs U (l.take dLen) ht hsz hr hlen
      (fun j v hv => by
        have hv' : l[j]? = some v := by rw [List.getElem?_take] at hv; split at hv <;> simp_all
        obtain ⟨a', ha, hcell⟩ := hj j v hv'
        cases ha; exact hcell) (by omega) (fun v hv => h1 v (List.mem_of_mem_take hv))
    have hthis := h _ (setRow_heap w g cs _ U _ hr) (wrote_setRow w g _)
    have e : (l.take dLen).length = min l.length dLen := hlen
    rw [← e] at hthis
    have hrun' : (execOp a.eval o).run P w = .ok (.value (.int .i64 ((l.take dLen).length : Int))) (w.setRow g (splice cs off (l.take dLen))) := by
      simp only [execOp, ho, resolve, invoke, builtin, hd, hs, Sem.run_bind, Sem.run_pure, Result.andThen_ok, List.map_toArray, List.map_cons, List.map_nil, hrun]
      rfl
    rw [hrun']
    exact hK _ _ hthis

/-- x[n:] of a slice. -/
theorem kSliceFrom (T E : TypeId) (x y : Operand) (ho : o.op = .slice T x (some y) none none) (hg : Region.wanted o (yielded ops a.tmps) = true) (ht : P.underlying T = some (.slice E)) (hsz : (P.info? E).map (·.size) = some 1)
    (v : Value) (l : List Value) (hx : a.eval x = v) (hv : IsVals w v l) (k : IntKind) (i : Int) (n : Nat) (hy : a.eval y = .int k i) (hi : i = (n : Int)) (hn : n ≤ l.length)
    (h : ∀ v', IsVals w v' (l.drop n) → v'.ownBlock = v.ownBlock → wpList P ops Q rest (a.put o.dst v') w) : wpList P ops Q (o :: rest) a w := by
  refine BigFrame.wpList_want hg fun K hK => ?_
  obtain ⟨ao, c, rfl, hc, hnone, hj⟩ := hv
  unfold Oper.wp execOp
  subst hi
  have hrun : (Instr.sliceAt T (.slice ao l.length c) (some (.int k (n : Int))) none none).run P w = .ok (.slice (if c = n then ao else ao.map (·.add n)) (l.length - n) (c - n)) w := by
    cases hq : P.info? E with
    | none => simp [hq] at hsz
    | some t =>
      have hs' : t.size = 1 := by simpa [hq] using hsz
      have hb : (Instr.sliceBound (.int k (n : Int)) l.length .sliceB).run P w = .ok n w := by
        have := run_sliceBound (P := P) (w := w) k (n : Int) l.length .sliceB (by omega) (by omega)
        simpa using this
      simp [Instr.sliceAt, run_underlying ht, Instr.slice, Instr.sliceBounds, hb, sizeOf, typeInfo, hq, hs']
  simp only [ho, hx, hy, Option.map_some, Option.map_none, Sem.run_bind, hrun, Result.andThen_ok, Sem.run_pure]
  refine hK _ _ (h _ ⟨if c = n then ao else ao.map (·.add n), c - n, by rw [List.length_drop], by rw [List.length_drop]; omega, fun hno => ?_, fun j u hu => ?_⟩ ?_)
  · by_cases e : c = n
    · omega
    · rw [if_neg e] at hno
      have : ao = none := by cases ao <;> simp_all
      have := hnone this; omega
  · rw [List.getElem?_drop] at hu
    obtain ⟨b, rfl, hcell⟩ := hj _ u hu
    have hlt := (List.getElem?_eq_some_iff.1 hu).1
    rw [if_neg (by omega)]
    refine ⟨b.add n, rfl, ?_⟩
    have e : (b.add n).add j = b.add (n + j) := by
      obtain ⟨bb, bo, bs⟩ := b
      unfold Addr.add
      by_cases hn0 : n = 0 <;> by_cases hj0 : j = 0 <;> simp [hn0, hj0, Nat.add_assoc]
    rw [e]; exact hcell
  · by_cases e : c = n
    · rw [if_pos e]; cases ao <;> rfl
    · rw [if_neg e]
      cases ao with
      | none => rfl
      | some b => simp [Value.ownBlock, Addr.add]; split <;> rfl
theorem map_range (f : Nat → Value) (n : Nat) : Array.map f (Array.range n) = ((List.range n).map f).toArray := by
  apply Array.ext
  · simp
  · intro k h1 h2; simp
theorem cells_one {v : Value} (h : v.oneCell' = true) : v.cells = #[v] := by cases v <;> first | rfl | cases h

/-- A slice of one element that is written out. -/
theorem kBuildSlice1 (T E : TypeId) (x0 : Operand) (v0 : Value) (ho : o.op = .buildSlice T 1 #[(0, x0)]) (hg : Region.wanted o (yielded ops a.tmps) = true) (ht : P.underlying T = some (.slice E)) (i : TypeInfo) (z : Value) (hi : P.info? E = some i) (hz : i.zero = some z) (hsize : i.size = 1)
    (hx0 : a.eval x0 = v0) (h0 : v0.oneCell' = true)
    (h : ∀ w1, Row w1 w.heap.size E #[v0] → w1.heap.size = w.heap.size + 1 → Below w.heap.size w w1 → wpList P ops Q rest (a.put o.dst (.slice (some ⟨w.heap.size, 0, none⟩) 1 1)) w1) : wpList P ops Q (o :: rest) a w := by
  refine BigFrame.wpList_want hg fun K hK => ?_
  unfold Oper.wp execOp
  have hrun : (Instr.buildSlice T 1 #[(0, v0)]).run P w = .ok (.slice (some ⟨w.heap.size, 0, none⟩) 1 1) (w.alloc (.cells #[v0] E)) := by
    simp [Instr.buildSlice, run_underlying ht, sizeOf, typeInfo, hi, hsize, zeroValue, hz, Instr.fill, cells_one h0, newRow, newObj, Sem.run]
    rw [map_range]; rfl
  simp only [ho, List.map_toArray, List.map_cons, List.map_nil, hx0, Sem.run_bind, hrun, Result.andThen_ok, Sem.run_pure]
  exact hK _ _ (h _ (heap_alloc_new w _) (by simp) ((Below.refl _ _).alloc (Nat.le_refl _) _))
/-- A slice of two elements that is written out. -/
theorem kBuildSlice2 (T E : TypeId) (x0 x1 : Operand) (v0 v1 : Value) (ho : o.op = .buildSlice T 2 #[(0, x0), (1, x1)]) (hg : Region.wanted o (yielded ops a.tmps) = true) (ht : P.underlying T = some (.slice E)) (i : TypeInfo) (z : Value) (hi : P.info? E = some i) (hz : i.zero = some z) (hsize : i.size = 1)
    (hx0 : a.eval x0 = v0) (h0 : v0.oneCell' = true) (hx1 : a.eval x1 = v1) (h1 : v1.oneCell' = true)
    (h : ∀ w1, Row w1 w.heap.size E #[v0, v1] → w1.heap.size = w.heap.size + 1 → Below w.heap.size w w1 → wpList P ops Q rest (a.put o.dst (.slice (some ⟨w.heap.size, 0, none⟩) 2 2)) w1) : wpList P ops Q (o :: rest) a w := by
  refine BigFrame.wpList_want hg fun K hK => ?_
  unfold Oper.wp execOp
  have hrun : (Instr.buildSlice T 2 #[(0, v0), (1, v1)]).run P w = .ok (.slice (some ⟨w.heap.size, 0, none⟩) 2 2) (w.alloc (.cells #[v0, v1] E)) := by
    simp [Instr.buildSlice, run_underlying ht, sizeOf, typeInfo, hi, hsize, zeroValue, hz, Instr.fill, cells_one h0, cells_one h1, newRow, newObj, Sem.run]
    rw [map_range]; rfl
  simp only [ho, List.map_toArray, List.map_cons, List.map_nil, hx0, hx1, Sem.run_bind, hrun, Result.andThen_ok, Sem.run_pure]
  exact hK _ _ (h _ (heap_alloc_new w _) (by simp) ((Below.refl _ _).alloc (Nat.le_refl _) _))
/-- A slice of three elements that is written out. -/
theorem kBuildSlice3 (T E : TypeId) (x0 x1 x2 : Operand) (v0 v1 v2 : Value) (ho : o.op = .buildSlice T 3 #[(0, x0), (1, x1), (2, x2)]) (hg : Region.wanted o (yielded ops a.tmps) = true) (ht : P.underlying T = some (.slice E)) (i : TypeInfo) (z : Value) (hi : P.info? E = some i) (hz : i.zero = some z) (hsize : i.size = 1)
    (hx0 : a.eval x0 = v0) (h0 : v0.oneCell' = true) (hx1 : a.eval x1 = v1) (h1 : v1.oneCell' = true) (hx2 : a.eval x2 = v2) (h2 : v2.oneCell' = true)
    (h : ∀ w1, Row w1 w.heap.size E #[v0, v1, v2] → w1.heap.size = w.heap.size + 1 → Below w.heap.size w w1 → wpList P ops Q rest (a.put o.dst (.slice (some ⟨w.heap.size, 0, none⟩) 3 3)) w1) : wpList P ops Q (o :: rest) a w := by
  refine BigFrame.wpList_want hg fun K hK => ?_
  unfold Oper.wp execOp
  have hrun : (Instr.buildSlice T 3 #[(0, v0), (1, v1), (2, v2)]).run P w = .ok (.slice (some ⟨w.heap.size, 0, none⟩) 3 3) (w.alloc (.cells #[v0, v1, v2] E)) := by
    simp [Instr.buildSlice, run_underlying ht, sizeOf, typeInfo, hi, hsize, zeroValue, hz, Instr.fill, cells_one h0, cells_one h1, cells_one h2, newRow, newObj, Sem.run]
    rw [map_range]; rfl
  simp only [ho, List.map_toArray, List.map_cons, List.map_nil, hx0, hx1, hx2, Sem.run_bind, hrun, Result.andThen_ok, Sem.run_pure]
  exact hK _ _ (h _ (heap_alloc_new w _) (by simp) ((Below.refl _ _).alloc (Nat.le_refl _) _))

/-- The address of an element of a slice. -/
theorem kIndexAddrS (T E : TypeId) (x y : Operand) (k : IntKind) (g off len cap : Nat) (i : Int) (j : Nat) (ho : o.op = .indexAddr T x y) (hg : Region.wanted o (yielded ops a.tmps) = true)
    (hx : a.eval x = .slice (some ⟨g, off, none⟩) len cap) (hy : a.eval y = .int k i) (hu : P.underlying T = some (.slice E))
    (hs : (P.info? E).map (·.size) = some 1) (hi : i = (j : Int)) (hj : j < len)
    (h : wpList P ops Q rest (a.put o.dst (.pointer (some ⟨g, off + j, none⟩))) w) : wpList P ops Q (o :: rest) a w := by
  refine BigFrame.wpList_want hg fun K hK => ?_
  unfold Oper.wp execOp
  subst hi
  have hrun : (Instr.indexAt T (.slice (some ⟨g, off, none⟩) len cap) (.int k (j : Int))).run P w = .ok (.pointer (some ⟨g, off + j, none⟩)) w := by
    cases hq : P.info? E with
    | none => simp [hq] at hs
    | some t =>
      have hs' : t.size = 1 := by simpa [hq] using hs
      have hc : (0 : Int) ≤ (j : Int) ∧ (j : Int) < (len : Int) := by omega
      simp [Instr.indexAt, asIntOf, run_underlying hu, hc, sizeOf, typeInfo, hq, hs', add_none]
      intro hle; omega
  simp only [ho, hx, hy, Sem.run_bind, hrun, Result.andThen_ok, Sem.run_pure]
  exact hK _ _ h

/-- An element of a list of cells: address and load in one. -/
theorem kIndexAddrV (T E : TypeId) (x y : Operand) (k : IntKind) (v : Value) (l : List Value) (i : Int) (j : Nat) (u : Value) (ho : o.op = .indexAddr T x y) (hg : Region.wanted o (yielded ops a.tmps) = true)
    (hx : a.eval x = v) (hv : IsVals w v l) (hy : a.eval y = .int k i) (ht : P.underlying T = some (.slice E))
    (hs : (P.info? E).map (·.size) = some 1) (hi : i = (j : Int)) (hj : l[j]? = some u)
    (h : ∀ b, w.cell? b = some u → wpList P ops Q rest (a.put o.dst (.pointer (some b))) w) : wpList P ops Q (o :: rest) a w := by
  refine BigFrame.wpList_want hg fun K hK => ?_
  unfold Oper.wp execOp
  subst hi
  obtain ⟨ao, c, rfl, hc, hnone, hcells⟩ := hv
  obtain ⟨b, rfl, hcell⟩ := hcells j u hj
  have hjl := (List.getElem?_eq_some_iff.1 hj).1
  have hrun : (Instr.indexAt T (.slice (some b) l.length c) (.int k (j : Int))).run P w = .ok (.pointer (some (b.add j))) w := by
    cases hq : P.info? E with
    | none => simp [hq] at hs
    | some t =>
      have hs' : t.size = 1 := by simpa [hq] using hs
      have hc : (0 : Int) ≤ (j : Int) ∧ (j : Int) < (l.length : Int) := by omega
      simp [Instr.indexAt, asIntOf, run_underlying ht, hc, sizeOf, typeInfo, hq, hs']
      intro hle; omega
  simp only [ho, hx, hy, Sem.run_bind, hrun, Result.andThen_ok, Sem.run_pure]
  exact hK _ _ (h _ hcell)
theorem kLoadCell (T : TypeId) (x : Operand) (b : Addr) (v : Value) (d : TypeDesc) (ho : o.op = .load T x) (hg : Region.wanted o (yielded ops a.tmps) = true)
    (hx : a.eval x = .pointer (some b)) (hr : w.cell? b = some v) (hu : P.underlying T = some d) (hd : aggDesc d = false)
    (h : wpList P ops Q rest (a.put o.dst v) w) : wpList P ops Q (o :: rest) a w := by
  refine BigFrame.wpList_want hg fun K hK => ?_
  unfold Oper.wp execOp
  have hl : (loadVar T b).run P w = .ok v w := by simp [loadVar, Sem.run_bind, run_isAgg hu, hd, load, Sem.run, hr]
  simp only [ho, hx, Instr.loadAt, Instr.sureAddr, Sem.run_bind, Sem.run_pure, Result.andThen_ok, hl]
  exact hK _ _ h

/-- len(x) of a slice that reads as a list. -/
theorem kLen (T : TypeId) (x : Operand) (E : TypeId) (v : Value) (l : List Value) (ho : o.op = .call { callee := .builtin .len, args := #[x], argTypes := #[T] }) (hg : Region.wanted o (yielded ops a.tmps) = true) (hx : a.eval x = v) (hv : IsVals w v l) (ht : P.underlying T = some (.slice E))
    (h : wpList P ops Q rest (a.put o.dst (.int .i64 (l.length : Int))) w) : wpList P ops Q (o :: rest) a w := by
  refine BigFrame.wpList_want hg fun K hK => ?_
  obtain ⟨ao, c, rfl, hc, hnone, hcells⟩ := hv
  unfold Oper.wp
  have hrun : (execOp a.eval o).run P w = .ok (.value (.int .i64 (l.length : Int))) w := by
    simp [execOp, ho, resolve, invoke, builtin, hx, Builtin.len_, run_underlying ht, goInt]
  rw [hrun]
  exact hK _ _ h
/-- x[n:] of an array variable. -/
theorem kSliceArrFrom (T E : TypeId) (len : Nat) (x y : Operand) (ho : o.op = .slice T x (some y) none none) (hg : Region.wanted o (yielded ops a.tmps) = true) (ht : P.underlying T = some (.array len E)) (hsz : (P.info? E).map (·.size) = some 1)
    (g off : Nat) (hx : a.eval x = .pointer (some ⟨g, off, none⟩)) (k : IntKind) (i : Int) (n : Nat) (hy : a.eval y = .int k i) (hi : i = (n : Int)) (hn : n < len)
    (h : wpList P ops Q rest (a.put o.dst (.slice (some ⟨g, off + n, none⟩) (len - n) (len - n))) w) : wpList P ops Q (o :: rest) a w := by
  refine BigFrame.wpList_want hg fun K hK => ?_
  unfold Oper.wp execOp
  subst hi
  have hrun : (Instr.sliceAt T (.pointer (some ⟨g, off, none⟩)) (some (.int k (n : Int))) none none).run P w = .ok (.slice (some ⟨g, off + n, none⟩) (len - n) (len - n)) w := by
    cases hq : P.info? E with
    | none => simp [hq] at hsz
    | some t =>
      have hs' : t.size = 1 := by simpa [hq] using hsz
      have hb : (Instr.sliceBound (.int k (n : Int)) len .sliceB).run P w = .ok n w := by
        have := run_sliceBound (P := P) (w := w) k (n : Int) len .sliceB (by omega) (by omega)
        simpa using this
      have hne : ¬ len = n := by omega
      simp [Instr.sliceAt, run_underlying ht, Instr.sureAddr, Instr.sliceBounds, hb, sizeOf, typeInfo, hq, hs', hne, add_none]
  simp only [ho, hx, hy, Option.map_some, Option.map_none, Sem.run_bind, hrun, Result.andThen_ok, Sem.run_pure]
  exact hK _ _ h
/-- x[:] of an array variable. -/
theorem kSliceArrAll (T E : TypeId) (len : Nat) (x : Operand) (ho : o.op = .slice T x none none none) (hg : Region.wanted o (yielded ops a.tmps) = true) (ht : P.underlying T = some (.array len E)) (hsz : (P.info? E).map (·.size) = some 1)
    (g off : Nat) (hx : a.eval x = .pointer (some ⟨g, off, none⟩))
    (h : wpList P ops Q rest (a.put o.dst (.slice (some ⟨g, off, none⟩) len len)) w) : wpList P ops Q (o :: rest) a w := by
  refine BigFrame.wpList_want hg fun K hK => ?_
  unfold Oper.wp execOp
  have hrun : (Instr.sliceAt T (.pointer (some ⟨g, off, none⟩)) none none none).run P w = .ok (.slice (some ⟨g, off, none⟩) len len) w := by
    cases hq : P.info? E with
    | none => simp [hq] at hsz
    | some t =>
      simp [Instr.sliceAt, run_underlying ht, Instr.sureAddr, Instr.sliceBounds, sizeOf, typeInfo, hq, Addr.add]
  simp only [ho, hx, Option.map_none, Sem.run_bind, hrun, Result.andThen_ok, Sem.run_pure]
  exact hK _ _ h
/-- x[:n] of an array variable. -/
theorem kSliceArrTo (T E : TypeId) (len : Nat) (x y : Operand) (ho : o.op = .slice T x none (some y) none) (hg : Region.wanted o (yielded ops a.tmps) = true) (ht : P.underlying T = some (.array len E)) (hsz : (P.info? E).map (·.size) = some 1)
    (g off : Nat) (hx : a.eval x = .pointer (some ⟨g, off, none⟩)) (k : IntKind) (i : Int) (n : Nat) (hy : a.eval y = .int k i) (hi : i = (n : Int)) (hn : n ≤ len)
    (h : wpList P ops Q rest (a.put o.dst (.slice (some ⟨g, off, none⟩) n len)) w) : wpList P ops Q (o :: rest) a w := by
  refine BigFrame.wpList_want hg fun K hK => ?_
  unfold Oper.wp execOp
  subst hi
  have hrun : (Instr.sliceAt T (.pointer (some ⟨g, off, none⟩)) none (some (.int k (n : Int))) none).run P w = .ok (.slice (some ⟨g, off, none⟩) n len) w := by
    cases hq : P.info? E with
    | none => simp [hq] at hsz
    | some t =>
      have hb : (Instr.sliceBound (.int k (n : Int)) len .sliceAlen).run P w = .ok n w := by
        have := run_sliceBound (P := P) (w := w) k (n : Int) len .sliceAlen (by omega) (by omega)
        simpa using this
      simp [Instr.sliceAt, run_underlying ht, Instr.sureAddr, Instr.sliceBounds, hb, sizeOf, typeInfo, hq, Addr.add]
  simp only [ho, hx, hy, Option.map_some, Option.map_none, Sem.run_bind, hrun, Result.andThen_ok, Sem.run_pure]
  exact hK _ _ h
end

end Go.Proofs.Ytdeggdmoijfhdaa

/-
  My kit, third part: a region that draws its order, in which what writes or makes memory comes in one forced order, and all else yields the same value in every world that keeps a condition S.
-/
namespace Go.Proofs.Ytdeggdmoijfhdaa
open Go Go.RowKit

section
variable {P : Program} {ops : Array Oper} {md : Region.Mode} {S : World → Prop} {Q : Exit → Act → World → Prop}

def headMix (P : Program) (md : Region.Mode) (ops : Array Oper) (Q : Exit → Act → World → Prop) (S : World → Prop) (n : Nat) (L : Array Bool → Act → World → Prop) : Nat → Array Bool → Act → World → Prop
  | 0, listed, a, w => L listed a w
  | f + 1, listed, a, w => Region.ready md ops listed ≠ [] ∧ ∀ i ∈ Region.ready md ops listed, i < n ∧ wpOp P ops Q i (fun a' w' => S w' ∧ headMix P md ops Q S n L f (listed.setIfInBounds i true) a' w') a w

theorem wpOp_noPanic {i : Nat} {K : Act → World → Prop} {a : Act} {w : World} (h : wpOp P ops (NoPanic Q) i K a w) : wpOp P ops Q i K a w := by
  unfold wpOp at *
  split
  · rename_i hn; simpa [hn] using h
  · rename_i o ho
    simp only [ho] at h
    split
    · rename_i hw
      rw [if_pos hw] at h
      rcases h with h | ⟨h1, h2⟩
      · refine .inl ?_
        unfold Oper.wp at *
        generalize (execOp a.eval o).run P w = r at *
        cases r with
        | ok nx w' =>
          cases nx <;> first | exact h | (exact Calls.mono h fun e w'' he => by cases e <;> first | exact he | exact (he : False).elim)
        | halt x w' => cases x <;> first | exact h | exact (h : False).elim
      · exact .inr ⟨h1, h2⟩
    · rename_i hw; rw [if_neg hw] at h; exact h
theorem any_of_headMix {n g : Nat} {L : Array Bool → Act → World → Prop} (hL : ∀ listed a w, L listed a w → wpAny P md ops Q g listed a w) :
    ∀ (f : Nat) (listed : Array Bool) (a : Act) (w : World), headMix P md ops (NoPanic Q) S n L f listed a w → wpAny P md ops Q (f + g) listed a w
  | 0, listed, a, w, h => by rw [Nat.zero_add]; exact hL _ _ _ h
  | f + 1, listed, a, w, h => by
    rw [show f + 1 + g = (f + g) + 1 by omega]
    exact ⟨fun h0 => absurd h0 h.1, fun i hi => wpOp_noPanic (wpOp_mono (fun a' w' h' => any_of_headMix hL f _ a' w' h'.2) (h.2 i hi).2)⟩

theorem headMix_take {n i : Nat} {oi : Oper} {v : Value} {L : Array Bool → Act → World → Prop} (hi : ops[i]? = some oi) (hsel : ∀ (j : Nat) (o : Oper) cs b, ops[j]? = some o → o.op ≠ .select cs b)
    (hQ : ∀ c a w, Q (.panic c) (a.put oi.dst v) w → Q (.panic c) a w)
    (hs : Region.sinkB md ops n = true) (hc : Region.chainB md ops n = true) (hn : n < ops.size) (hin : i < n)
    (hdone : ∀ listed a w, L listed a w → ∀ j ∈ Region.ready md ops listed, n ≤ j) (f : Nat) :
    ∀ (listed : Array Bool) (a : Act) (w : World), HeadInv md ops n listed →
      (∀ j oj, ops[j]? = some oj → j ≠ i → listed.getD j true = false → (∀ e ∈ oj.after, Region.binds md e = true → e.on ≠ i) → oi.apart ops oj = true) →
      i ∈ Region.ready md ops listed → YieldsIf P ops S oi v a → S w →
      headMix P md ops Q S n L f (listed.setIfInBounds i true) (a.put oi.dst v) w → headMix P md ops Q S n L (f + 1) listed a w := by
  induction f with
  | zero =>
    intro listed a w inv _ hr hy hS H
    have early : ∀ j ∈ Region.ready md ops listed, j < n := fun j hj => by
      rcases Nat.lt_or_ge j n with h | h
      · exact h
      · exact absurd hj (tail_waits hs hc hn inv _ i rfl hin (mem_ready.1 hr).1 j h)
    refine ⟨fun h => (by rw [h] at hr; cases hr), fun j hj => ⟨early j hj, ?_⟩⟩
    by_cases hji : j = i
    · subst hji; exact hy.wpOp hi hS ⟨hS, H⟩
    · have h1 := hdone _ _ _ H j (ready_mono hj hji)
      have h2 := early j hj
      omega
  | succ f ih =>
    intro listed a w inv hfree hr hy hS H
    have hun := (mem_ready.1 hr).1
    have early : ∀ j ∈ Region.ready md ops listed, j < n := fun j hj => by
      rcases Nat.lt_or_ge j n with h | h
      · exact h
      · exact absurd hj (tail_waits hs hc hn inv _ i rfl hin hun j h)
    refine ⟨fun h => (by rw [h] at hr; cases hr), fun j hj => ⟨early j hj, ?_⟩⟩
    by_cases hji : j = i
    · subst hji; exact hy.wpOp hi hS ⟨hS, H⟩
    · obtain ⟨hjun, oj, hoj, hall⟩ := mem_ready.1 hj
      have hnot : ∀ e ∈ oj.after, Region.binds md e = true → e.on ≠ i := fun e he hb heq => by
        have h1 := hall e he hb
        rw [heq, getD_both hun] at h1
        cases h1
      have h2 := wpOp_putIf hoj (hfree j oj hoj hji hjun hnot) (fun cs b => hsel i oi cs b hi) (fun cs b => hsel j oj cs b hoj) hQ hy (H.2 j (ready_mono hj hji)).2
      refine wpOp_mono (fun a' w' h3 => ⟨h3.2.1, ih (listed.setIfInBounds j true) a' w' (inv.set hj (early j hj)) (fun k ok hk hki hu hno => ?_) (ready_mono hr (Ne.symm hji)) h3.1 h3.2.1 ?_⟩) h2
      · refine hfree k ok hk hki ?_ hno
        by_cases hjk : j = k
        · subst hjk; exact hjun
        · rw [getD_set_ne true hjk] at hu; exact hu
      · rw [Array.setIfInBounds_comm _ _ hji]; exact h3.2.2

/-- The plan: of each operation of the head whether it is taken first (true), or is the only one that may come up (false). -/
def mixHead (md : Region.Mode) (ops : Array Oper) (g : Nat) : List Bool → Nat → Array Bool → Bool
  | [], k, listed => Region.seqB md ops g k listed
  | true :: bs, k, listed => (Region.ready md ops listed).contains k && Region.free md ops listed k && mixHead md ops g bs (k + 1) (listed.setIfInBounds k true)
  | false :: bs, k, listed => decide (Region.ready md ops listed = [k]) && mixHead md ops g bs (k + 1) (listed.setIfInBounds k true)
def mixB (md : Region.Mode) (ops : Array Oper) (bs : List Bool) : Bool :=
  Region.noSelect ops && decide (bs.length < ops.size) && Region.sinkB md ops bs.length && Region.chainB md ops bs.length && mixHead md ops (ops.size - bs.length) bs 0 (Array.replicate ops.size false)

def wpMix (P : Program) (ops : Array Oper) (Q : Exit → Act → World → Prop) (S : World → Prop) (L : Act → World → Prop) : List Bool → List Oper → Act → World → Prop
  | true :: bs, o :: rest, a, w => S w ∧ ∃ v, YieldsIf P ops S o v a ∧ wpMix P ops Q S L bs rest (a.put o.dst v) w
  | false :: bs, o :: rest, a, w => wpList P ops (Exit.then (fun a' w' => S w' ∧ wpMix P ops Q S L bs rest a' w') (NoPanic Q)) [o] a w
  | _, _, a, w => L a w

theorem wpOp_of_list {i : Nat} {o : Oper} {K : Act → World → Prop} {a : Act} {w : World} (hi : ops[i]? = some o) (h : wpList P ops (Exit.then K (NoPanic Q)) [o] a w) : wpOp P ops (NoPanic Q) i K a w := by
  unfold wpOp
  simp only [hi]
  unfold wpList at h
  split
  · rename_i hw
    rw [if_pos hw] at h
    rcases h with h | ⟨h1, h2⟩
    · refine .inl ?_
      unfold Oper.wp at *
      generalize (execOp a.eval o).run P w = r at *
      cases r with
      | ok nx w' =>
        cases nx <;> first | exact h | (exact Calls.mono h fun e w'' he => by cases e <;> exact he)
      | halt x w' => cases x <;> exact h
    · exact .inr ⟨h1, h2⟩
  · rename_i hw
    rw [if_neg hw] at h
    exact h

theorem headMix_of_wpMix {n g : Nat} {Lq : Act → World → Prop} (hsel : Region.noSelect ops = true) (hs : Region.sinkB md ops n = true) (hc : Region.chainB md ops n = true) (hn : n < ops.size) :
    ∀ (bs : List Bool) (l : List Oper) (k : Nat) (listed : Array Bool) (a : Act) (w : World), l.length = bs.length → (∀ j, j < l.length → l[j]? = ops[k + j]?) → k + l.length = n → HeadInv md ops n listed →
    mixHead md ops g bs k listed = true → wpMix P ops Q S Lq bs l a w →
    headMix P md ops (NoPanic Q) S n (fun listed' a' w' => Region.seqB md ops g n listed' = true ∧ Lq a' w') l.length listed a w
  | [], [], k, listed, a, w, _, _, hk, _, hB, h => by
    obtain rfl : k = n := by simpa using hk
    exact ⟨by simpa [mixHead] using hB, h⟩
  | [], _ :: _, _, _, _, _, hl, _, _, _, _, _ => by simp at hl
  | _ :: _, [], _, _, _, _, hl, _, _, _, _, _ => by simp at hl
  | true :: bs, o :: l, k, listed, a, w, hll, hl, hk, inv, hB, h => by
    have h0 : ops[k]? = some o := by simpa using (hl 0 (by simp)).symm
    simp only [mixHead, Bool.and_eq_true] at hB
    obtain ⟨⟨hr, hf⟩, hB'⟩ := hB
    have hkn : k < n := by simp only [List.length_cons] at hk; omega
    have hr' : k ∈ Region.ready md ops listed := by simpa using hr
    obtain ⟨hS, v, hy, hK⟩ := h
    exact headMix_take h0 (Region.noSelect_spec hsel) (fun _ _ _ hx => hx) hs hc hn hkn (fun _ _ _ hL => seqB_ready hL.1) l.length listed a w inv (Region.free_spec h0 hf) hr' hy hS
      (headMix_of_wpMix hsel hs hc hn bs l (k + 1) _ _ _ (by simpa using hll) (fun j hj => by have := hl (j + 1) (by simp; omega); simpa [Nat.add_assoc, Nat.add_comm 1 j] using this) (by simp only [List.length_cons] at hk; omega) (inv.set hr' hkn) hB' hK)
  | false :: bs, o :: l, k, listed, a, w, hll, hl, hk, inv, hB, h => by
    have h0 : ops[k]? = some o := by simpa using (hl 0 (by simp)).symm
    simp only [mixHead, Bool.and_eq_true, decide_eq_true_eq] at hB
    obtain ⟨hr, hB'⟩ := hB
    have hkn : k < n := by simp only [List.length_cons] at hk; omega
    have hr' : k ∈ Region.ready md ops listed := by rw [hr]; simp
    refine ⟨by rw [hr]; simp, fun i hi => ?_⟩
    rw [hr] at hi
    obtain rfl : i = k := by simpa using hi
    refine ⟨hkn, wpOp_mono (fun a' w' h' => ⟨h'.1, ?_⟩) (wpOp_of_list h0 h)⟩
    exact headMix_of_wpMix hsel hs hc hn bs l (i + 1) _ _ _ (by simpa using hll) (fun j hj => by have := hl (j + 1) (by simp; omega); simpa [Nat.add_assoc, Nat.add_comm 1 j] using this) (by simp only [List.length_cons] at hk; omega) (inv.set hr' hkn) hB' h'.2

/-- A REGION THAT DRAWS ITS ORDER, by a plan of its head; the others follow in one forced order. -/
theorem region_mix {id : Nat} {a : Act} {w : World} {l : List Oper} (bs : List Bool) (S : World → Prop) (hm : P.follows .mixedOrders = true) (hB : mixB .any l.toArray bs = true)
    (h : wpMix P l.toArray Q S (fun a' w' => wpList P l.toArray Q (l.drop bs.length) a' w') bs (l.take bs.length) a { w with drawn := w.drawn + 1 }) : (Code.region id l.toArray true).wp P Q a w := by
  simp only [mixB, Bool.and_eq_true, decide_eq_true_eq] at hB
  obtain ⟨⟨⟨⟨hsel, hn⟩, hs⟩, hc⟩, hlex⟩ := hB
  have hn' : bs.length < l.length := by simpa using hn
  have htl : (l.take bs.length).length = bs.length := by simp; omega
  have hdl : (l.drop bs.length).length = l.toArray.size - bs.length := by simp
  have inv0 : HeadInv .any l.toArray bs.length (Array.replicate l.toArray.size false) :=
    ⟨by simp, fun j oj _ hl => (by rw [getD_replicate_false] at hl; cases hl), fun t _ ht => getD_in (by simpa using ht) (getD_replicate_false _ _)⟩
  have H := headMix_of_wpMix (md := .any) (g := l.toArray.size - bs.length) hsel hs hc hn bs (l.take bs.length) 0 _ a _ htl (fun j hj => by
    have hj' : j < bs.length := by rw [htl] at hj; exact hj
    simp [hj']) (by simpa using htl) inv0 hlex h
  refine wp_region_any hm ?_
  have := any_of_headMix (g := l.toArray.size - bs.length) (fun listed a' w' hL => by
    have := wpAny_of_seq (md := .any) (Q' := Q) (l.drop bs.length) bs.length listed a' w' (fun j => by simp [List.getElem?_drop]) (by rw [hdl]; exact hL.1) hL.2
    rwa [hdl] at this) _ _ _ _ H
  rw [htl, show bs.length + (l.toArray.size - bs.length) = l.toArray.size by omega] at this
  exact this

/-- .. the world behind the draw a variable -/
theorem region_mix' {id : Nat} {a : Act} {w : World} {l : List Oper} (bs : List Bool) (S : World → Prop) (hm : P.follows .mixedOrders = true) (hB : mixB .any l.toArray bs = true)
    (h : ∀ w1, Below w.heap.size w w1 → w1.heap.size = w.heap.size → wpMix P l.toArray Q S (fun a' w' => wpList P l.toArray Q (l.drop bs.length) a' w') bs (l.take bs.length) a w1) : (Code.region id l.toArray true).wp P Q a w :=
  region_mix bs S hm hB (h _ ⟨rfl, rfl, rfl, Nat.le_refl _, fun _ _ => rfl⟩ rfl)

/-- an operation of the plan that yields its value in every world that keeps S -/
theorem mixQuiet {L : Act → World → Prop} {bs : List Bool} {o : Oper} {rest : List Oper} {a : Act} {w : World} (v : Value) (hS : S w) (hg : Region.wanted o (yielded ops a.tmps) = true) (hv : ∀ w, S w → (execOp a.eval o).run P w = .ok (.value v) w)
    (h : wpMix P ops Q S L bs rest (a.put o.dst v) w) : wpMix P ops Q S L (true :: bs) (o :: rest) a w :=
  ⟨hS, v, .inl ⟨hg, hv⟩, h⟩
/-- an operation that comes up alone -/
theorem mixLoud {L : Act → World → Prop} {bs : List Bool} {o : Oper} {rest : List Oper} {a : Act} {w : World}
    (h : wpList P ops (Exit.then (fun a' w' => S w' ∧ wpMix P ops Q S L bs rest a' w') (NoPanic Q)) [o] a w) : wpMix P ops Q S L (false :: bs) (o :: rest) a w := h
theorem mixEnd {l2 : List Oper} {a : Act} {w : World} (h : wpList P ops Q l2 a w) : wpMix P ops Q S (fun a' w' => wpList P ops Q l2 a' w') [] [] a w := h
theorem mixOn {K : Act → World → Prop} {a : Act} {w : World} (h : K a w) : wpList P ops (Exit.then K (NoPanic Q)) [] a w := h
end

end Go.Proofs.Ytdeggdmoijfhdaa

/-
  My kit: texts: bytes become a text, a text's byte, the digits of a byte.
-/
namespace Go.Proofs.Ytdeggdmoijfhdaa
open Go Go.RowKit

/-- a text of these bytes -/
def textV (l : List UInt8) : Value := .string ⟨l.toArray⟩

theorem foldl_push (l : List UInt8) : ∀ (s : ByteArray), (l.map B).foldl (fun r n => r.push (UInt8.ofNat n.toNat)) s = ⟨s.data ++ l.toArray⟩ := by
  induction l with
  | nil => intro s; simp
  | cons b l ih =>
    intro s
    rw [List.map_cons, List.foldl_cons, ih]
    have : UInt8.ofNat (B b).toNat = b := by unfold B; simp
    rw [this]
    simp [ByteArray.push]

theorem run_toString {P : Program} {w : World} {src dst E : TypeId} {v : Value} {l : List UInt8} (hv : IsVals w v (l.map VB)) (hs : P.underlying src = some (.slice E)) (he : P.underlying E = some (.int .u8)) (hd : P.underlying dst = some .string) :
    (convert src dst v).run P w = .ok (textV l) w := by
  obtain ⟨ao, c, rfl, hc, hn, hj⟩ := hv
  rw [run_convert_bytes_string w src dst E ao _ c hs he hd]
  cases ao with
  | none =>
    have e0 : l = [] := by
      cases l with
      | nil => rfl
      | cons u us => obtain ⟨a, ha, _⟩ := hj 0 (VB u) rfl; cases ha
    subst e0; rfl
  | some a =>
    have hl : (loadCells a (l.map VB).length).run P w = .ok ((l.map B).map (Value.int .u8)).toArray w := by
      have := run_loadCells_list (P := P) w a (l.map VB) (fun j v hv => by obtain ⟨a', ha, hcell⟩ := hj j v hv; cases ha; exact hcell)
      rw [this, List.map_map]; rfl
    rw [run_bytesToString w a _ c (l.map B) hl, foldl_push]
    have e : ByteArray.empty.data ++ l.toArray = l.toArray := by show #[] ++ l.toArray = _; simp
    rw [e]; rfl

section
variable {P : Program} {ops : Array Oper} {Q : Exit → Act → World → Prop} {rest : List Oper} {o : Oper} {a : Act} {w : World}
theorem kToString (src dst E : TypeId) (x : Operand) (v : Value) (l : List UInt8) (ho : o.op = .convert src dst x) (hg : Region.wanted o (yielded ops a.tmps) = true) (hx : a.eval x = v) (hv : IsVals w v (l.map VB)) (hs : P.underlying src = some (.slice E)) (he : P.underlying E = some (.int .u8)) (hd : P.underlying dst = some .string)
    (h : wpList P ops Q rest (a.put o.dst (textV l)) w) : wpList P ops Q (o :: rest) a w := by
  refine BigFrame.wpList_want hg fun K hK => ?_
  unfold Oper.wp execOp
  simp only [ho, hx, Sem.run_bind, run_toString hv hs he hd, Result.andThen_ok, Sem.run_pure]
  exact hK _ _ h
end

theorem run_indexStr {P : Program} {w : World} {T : TypeId} {k : IntKind} {i : Int} {j : Nat} {l : List UInt8} (hu : P.underlying T = some .string) (hi : i = (j : Int)) (hj : j < l.length) :
    (Instr.index T (textV l) (.int k i)).run P w = .ok (VB (at8 l j)) w := by
  subst hi
  have h1 : (⟨l.toArray⟩ : ByteArray)[j]? = some l[j] := by
    rw [getElem?_pos (⟨l.toArray⟩ : ByteArray) j (by simpa [ByteArray.size] using hj)]; rfl
  simp [Instr.index, asIntOf, run_underlying hu, textV, h1, at8, hj, VB, B]

section
variable {P : Program} {ops : Array Oper} {S : World → Prop} {Q : Exit → Act → World → Prop} {L : Act → World → Prop} {bs : List Bool} {o : Oper} {rest : List Oper} {a : Act} {w : World}
theorem mixIndexStr (T : TypeId) (x y : Operand) (k : IntKind) (i : Int) (j : Nat) (l : List UInt8) (hS : S w) (ho : o.op = .index T x y) (hg : Region.wanted o (yielded ops a.tmps) = true) (hx : a.eval x = textV l) (hy : a.eval y = .int k i) (hu : P.underlying T = some .string) (hi : i = (j : Int)) (hj : j < l.length)
    (h : wpMix P ops Q S L bs rest (a.put o.dst (VB (at8 l j))) w) : wpMix P ops Q S L (true :: bs) (o :: rest) a w :=
  mixQuiet _ hS hg (fun w _ => by unfold execOp; simp only [ho, hx, hy, Sem.run_bind, run_indexStr hu hi hj, Result.andThen_ok, Sem.run_pure]) h
theorem mixMove (x : Operand) (v : Value) (hS : S w) (ho : o.op = .move x) (hg : Region.wanted o (yielded ops a.tmps) = true) (hx : a.eval x = v)
    (h : wpMix P ops Q S L bs rest (a.put o.dst v) w) : wpMix P ops Q S L (true :: bs) (o :: rest) a w :=
  mixQuiet _ hS hg (fun w _ => by unfold execOp; simp only [ho, hx, Sem.run_pure]) h
end
theorem kIndexStr {P : Program} {ops : Array Oper} {Q : Exit → Act → World → Prop} {rest : List Oper} {o : Oper} {a : Act} {w : World} (T : TypeId) (x y : Operand) (k : IntKind) (i : Int) (j : Nat) (l : List UInt8) (ho : o.op = .index T x y) (hg : Region.wanted o (yielded ops a.tmps) = true) (hx : a.eval x = textV l) (hy : a.eval y = .int k i) (hu : P.underlying T = some .string) (hi : i = (j : Int)) (hj : j < l.length)
    (h : wpList P ops Q rest (a.put o.dst (VB (at8 l j))) w) : wpList P ops Q (o :: rest) a w := by
  refine BigFrame.wpList_want hg fun K hK => ?_
  unfold Oper.wp execOp
  simp only [ho, hx, hy, Sem.run_bind, run_indexStr hu hi hj, Result.andThen_ok, Sem.run_pure]
  exact hK _ _ h

/-- the sixteen digits -/
def hexL : List UInt8 := [48, 49, 50, 51, 52, 53, 54, 55, 56, 57, 97, 98, 99, 100, 101, 102]
def hexd (n : Nat) : UInt8 := at8 hexL n
def pairOf (x : UInt8) : List UInt8 := [hexd (x.toNat / 16), hexd (x.toNat % 16)]
/-- the digits of a row of 32 bytes, from behind, the first k of them -/
def textTo (h : List UInt8) (k : Nat) : List UInt8 := (List.range k).flatMap fun i => pairOf (at8 h (31 - i))
theorem textTo_succ (h : List UInt8) (k : Nat) : textTo h (k + 1) = textTo h k ++ pairOf (at8 h (31 - k)) := by
  unfold textTo; rw [List.range_succ, List.flatMap_append]; simp
theorem textTo_len (h : List UInt8) (k : Nat) : (textTo h k).length = 2 * k := by
  induction k with
  | zero => rfl
  | succ k ih => rw [textTo_succ, List.length_append, ih]; simp [pairOf]; omega
theorem B_div16 (x : UInt8) : B x / 16 = ((x.toNat / 16 : Nat) : Int) := by unfold B; omega
theorem B_and15 (x : UInt8) : bits .and .u8 (B x) 15 = ((x.toNat % 16 : Nat) : Int) := by
  unfold B
  have h := u8_and_nat x.toNat 15 x.toNat_lt (by decide)
  rw [nat_mask4] at h
  exact h

/-- []byte of a constant: the row bears a mark behind its end; its cells are as they were. -/
theorem kConvSame {P : Program} {ops : Array Oper} {Q : Exit → Act → World → Prop} {rest : List Oper} {o : Oper} {a : Act} {w : World} (T E : TypeId) (x : Operand) (g n c : Nat) (cs : Array Value) (ho : o.op = .convert T T x) (hg : Region.wanted o (yielded ops a.tmps) = true)
    (hx : a.eval x = .slice (some ⟨g, 0, none⟩) n c) (hr : Row w g E cs) (ht : P.underlying T = some (.slice E)) (he : P.underlying E = some (.int .u8))
    (h : ∀ w1, Wrote g w w1 → (∀ v l, IsVals w v l → IsVals w1 v l) → wpList P ops Q rest (a.put o.dst (.slice (some ⟨g, 0, none⟩) n c)) w1) : wpList P ops Q (o :: rest) a w := by
  refine BigFrame.wpList_want hg fun K hK => ?_
  unfold Oper.wp execOp
  have hsh : w.shape? g = some (E, cs.size) := by unfold World.shape?; rw [show w.heap[g]? = _ from hr]
  have hrun : (convert T T (.slice (some ⟨g, 0, none⟩) n c)).run P w = .ok (.slice (some ⟨g, 0, none⟩) n c) (w.freeze ⟨g, cs.size, none⟩ 1) := by
    simp [convert, run_underlying ht, run_underlying he, markStringish, hsh]
  simp only [ho, hx, Sem.run_bind, hrun, Result.andThen_ok, Sem.run_pure]
  have hcell : ∀ b, (w.freeze ⟨g, cs.size, none⟩ 1).cell? b = w.cell? b := fun b => by
    unfold World.freeze World.cell?
    rw [if_neg (by decide)]
    simp only [Array.getElem?_modify]
    by_cases hb : g = b.block
    · rw [if_pos hb, ← hb, show w.heap[g]? = _ from hr]; rfl
    · rw [if_neg hb]
  refine hK _ _ (h _ ⟨?_, ?_, ?_, ?_, fun k hk => ?_⟩ fun v l hv => ?_)
  · unfold World.freeze; split <;> rfl
  · unfold World.freeze; split <;> rfl
  · unfold World.freeze; split <;> rfl
  · unfold World.freeze; split <;> simp
  · unfold World.freeze
    rw [if_neg (by decide)]
    simp only [Array.getElem?_modify]
    rw [if_neg (Ne.symm hk)]
  · obtain ⟨ao, c', rfl, h1, h2, h3⟩ := hv
    exact ⟨ao, c', rfl, h1, h2, fun j u hu => by obtain ⟨b, hb, hc⟩ := h3 j u hu; exact ⟨b, hb, by rw [hcell]; exact hc⟩⟩

theorem kLenStr {P : Program} {ops : Array Oper} {Q : Exit → Act → World → Prop} {rest : List Oper} {o : Oper} {a : Act} {w : World} (T : TypeId) (x : Operand) (l : List UInt8) (ho : o.op = .call { callee := .builtin .len, args := #[x], argTypes := #[T] }) (hg : Region.wanted o (yielded ops a.tmps) = true) (hx : a.eval x = textV l) (ht : P.underlying T = some .string)
    (h : wpList P ops Q rest (a.put o.dst (.int .i64 (l.length : Int))) w) : wpList P ops Q (o :: rest) a w := by
  refine BigFrame.wpList_want hg fun K hK => ?_
  unfold Oper.wp
  have hrun : (execOp a.eval o).run P w = .ok (.value (.int .i64 (l.length : Int))) w := by
    have hz : (⟨l.toArray⟩ : ByteArray).size = l.length := by simp [ByteArray.size]
    simp [execOp, ho, resolve, invoke, builtin, hx, Builtin.len_, run_underlying ht, goInt, textV, hz]
  rw [hrun]
  exact hK _ _ h

end Go.Proofs.Ytdeggdmoijfhdaa

/-
  My kit: '==' and '!=' of texts and of arrays of numbers.
-/
namespace Go.Proofs.Ytdeggdmoijfhdaa
open Go Go.RowKit

theorem run_eqlStr {P : Program} {w : World} (T : TypeId) (l m : List UInt8) (x y : Operand) : (do eqGuard .eql T x y (textV l) (textV m); binOp .eql T (textV l) (textV m) : Sem Value).run P w = .ok (.bool (l == m)) w := by
  simp [eqGuard, textV, binOp_string_eql]
theorem run_neqStr {P : Program} {w : World} (T : TypeId) (l m : List UInt8) (x y : Operand) : (do eqGuard .neq T x y (textV l) (textV m); binOp .neq T (textV l) (textV m) : Sem Value).run P w = .ok (.bool (l != m)) w := by
  simp [eqGuard, textV, binOp, Op.stringOp, bne]

theorem forIn_all {P : Program} {w : World} (body : Nat → Sem Bool) (p : Nat → Bool) : ∀ (l : List Nat), (∀ i ∈ l, (body i).run P w = .ok (p i) w) →
    ((forIn l ((none, ()) : Option Bool × Unit) fun i _ => do
      let r ← body i
      if r = false then pure (ForInStep.done (some false, ())) else pure (ForInStep.yield (none, ())) : Sem (Option Bool × Unit)).run P w) = .ok (if l.all p then none else some false, ()) w
  | [], _ => by simp
  | i :: l, h => by
    have h0 := h i (by simp)
    have ih := forIn_all body p l (fun j hj => h j (by simp [hj]))
    cases hp : p i
    · simp [List.forIn_cons, h0, hp]
    · simp only [List.forIn_cons, Sem.run_bind, h0, hp, Result.andThen_ok, Bool.true_eq_false, if_false, Sem.run_pure]
      rw [ih]
      simp [hp]

theorem run_equalIn_arr {P : Program} {w : World} {T elem : TypeId} {len d : Nat} {k k' : IntKind} (hu : P.underlying T = some (.array len elem)) (he : P.underlying elem = some (.int k')) (hs : (P.info? elem).map (·.size) = some 1) (f g : Nat → Int) :
    (Op.equalIn (d + 2) T (.agg (tab len fun j => .int k (f j))) (.agg (tab len fun j => .int k (g j)))).run P w = .ok ((List.range len).all fun j => f j == g j) w := by
  cases hq : P.info? elem with
  | none => simp [hq] at hs
  | some t =>
    have hs' : t.size = 1 := by simpa [hq] using hs
    have hpart : ∀ (F : Nat → Int) (i : Nat), i < len → (Go.part elem (tab len fun j => .int k (F j)) i).run P w = .ok (.int k (F i)) w := fun F i hi => by
      simp [Go.part, run_isAgg he, aggDesc, tab_get len (fun j => Value.int k (F j)) i hi]
    have hall := forIn_all (P := P) (w := w) (fun i => do
        let a ← Go.part elem (tab len fun j => .int k (f j)) i
        let b ← Go.part elem (tab len fun j => .int k (g j)) i
        Op.equalIn (d + 1) elem a b) (fun i => f i == g i) (List.range' 0 len) (fun i hi => by
      have hi' : i < len := by have := (List.mem_range'_1.1 hi).2; omega
      simp [hpart f i hi', hpart g i hi', run_equalIn_int (P := P) w d elem k k' (f i) (g i) he])
    unfold Op.equalIn
    simp [run_underlying hu, sizeOf, typeInfo, hq, hs']
    simp only [bind_assoc] at hall
    rw [hall, List.range_eq_range']
    cases (List.range' 0 len).all fun i => f i == g i <;> simp

theorem run_eqlArr {P : Program} {w : World} {T elem : TypeId} {len : Nat} {k k' : IntKind} (hu : P.underlying T = some (.array len elem)) (he : P.underlying elem = some (.int k')) (hs : (P.info? elem).map (·.size) = some 1) (hq : P.eqGuardType P.depth T = false) (f g : Nat → Int) (x y : Operand) :
    (do eqGuard .eql T x y (.agg (tab len fun j => .int k (f j))) (.agg (tab len fun j => .int k (g j))); binOp .eql T (.agg (tab len fun j => .int k (f j))) (.agg (tab len fun j => .int k (g j))) : Sem Value).run P w = .ok (.bool ((List.range len).all fun j => f j == g j)) w := by
  have h := run_equalIn_arr (P := P) (w := w) (d := 9998) (k := k) hu he hs f g
  simp [eqGuard, binOp, Op.equal, Op.maxDepth, hq, h]
theorem run_neqArr {P : Program} {w : World} {T elem : TypeId} {len : Nat} {k k' : IntKind} (hu : P.underlying T = some (.array len elem)) (he : P.underlying elem = some (.int k')) (hs : (P.info? elem).map (·.size) = some 1) (hq : P.eqGuardType P.depth T = false) (f g : Nat → Int) (x y : Operand) :
    (do eqGuard .neq T x y (.agg (tab len fun j => .int k (f j))) (.agg (tab len fun j => .int k (g j))); binOp .neq T (.agg (tab len fun j => .int k (f j))) (.agg (tab len fun j => .int k (g j))) : Sem Value).run P w = .ok (.bool (!(List.range len).all fun j => f j == g j)) w := by
  have h := run_equalIn_arr (P := P) (w := w) (d := 9998) (k := k) hu he hs f g
  simp [eqGuard, binOp, Op.equal, Op.maxDepth, hq, h]

section
variable {P : Program} {ops : Array Oper} {Q : Exit → Act → World → Prop} {rest : List Oper} {o : Oper} {a : Act} {w : World}
theorem kEqlStr (T T2 : TypeId) (x y : Operand) (l m : List UInt8) (b : Bool) (ho : o.op = .binOp .eql T x y T2) (hg : Region.wanted o (yielded ops a.tmps) = true) (hx : a.eval x = textV l) (hy : a.eval y = textV m) (hb : (l == m) = b)
    (h : wpList P ops Q rest (a.put o.dst (.bool b)) w) : wpList P ops Q (o :: rest) a w := by
  subst hb
  refine BigFrame.wpList_want hg fun K hK => ?_
  unfold Oper.wp execOp
  have hr := run_eqlStr (P := P) (w := w) T l m x y
  simp only [ho, hx, hy]
  rw [Sem.run_bind, hr]
  exact hK _ _ h
theorem kNeqStr (T T2 : TypeId) (x y : Operand) (l m : List UInt8) (b : Bool) (ho : o.op = .binOp .neq T x y T2) (hg : Region.wanted o (yielded ops a.tmps) = true) (hx : a.eval x = textV l) (hy : a.eval y = textV m) (hb : (l != m) = b)
    (h : wpList P ops Q rest (a.put o.dst (.bool b)) w) : wpList P ops Q (o :: rest) a w := by
  subst hb
  refine BigFrame.wpList_want hg fun K hK => ?_
  unfold Oper.wp execOp
  have hr := run_neqStr (P := P) (w := w) T l m x y
  simp only [ho, hx, hy]
  rw [Sem.run_bind, hr]
  exact hK _ _ h
theorem kEqlArr (T T2 elem : TypeId) (x y : Operand) (len : Nat) (k k' : IntKind) (f g : Nat → Int) (b : Bool) (ho : o.op = .binOp .eql T x y T2) (hg : Region.wanted o (yielded ops a.tmps) = true) (hx : a.eval x = .agg (tab len fun j => .int k (f j))) (hy : a.eval y = .agg (tab len fun j => .int k (g j)))
    (hu : P.underlying T = some (.array len elem)) (he : P.underlying elem = some (.int k')) (hs : (P.info? elem).map (·.size) = some 1) (hq : P.eqGuardType P.depth T = false) (hb : ((List.range len).all fun j => f j == g j) = b)
    (h : wpList P ops Q rest (a.put o.dst (.bool b)) w) : wpList P ops Q (o :: rest) a w := by
  subst hb
  refine BigFrame.wpList_want hg fun K hK => ?_
  unfold Oper.wp execOp
  have hr := run_eqlArr (P := P) (w := w) (k := k) hu he hs hq f g x y
  simp only [ho, hx, hy]
  rw [Sem.run_bind, hr]
  exact hK _ _ h
theorem kNeqArr (T T2 elem : TypeId) (x y : Operand) (len : Nat) (k k' : IntKind) (f g : Nat → Int) (b : Bool) (ho : o.op = .binOp .neq T x y T2) (hg : Region.wanted o (yielded ops a.tmps) = true) (hx : a.eval x = .agg (tab len fun j => .int k (f j))) (hy : a.eval y = .agg (tab len fun j => .int k (g j)))
    (hu : P.underlying T = some (.array len elem)) (he : P.underlying elem = some (.int k')) (hs : (P.info? elem).map (·.size) = some 1) (hq : P.eqGuardType P.depth T = false) (hb : (!(List.range len).all fun j => f j == g j) = b)
    (h : wpList P ops Q rest (a.put o.dst (.bool b)) w) : wpList P ops Q (o :: rest) a w := by
  subst hb
  refine BigFrame.wpList_want hg fun K hK => ?_
  unfold Oper.wp execOp
  have hr := run_neqArr (P := P) (w := w) (k := k) hu he hs hq f g x y
  simp only [ho, hx, hy]
  rw [Sem.run_bind, hr]
  exact hK _ _ h
end
theorem all_refl (n : Nat) (f : Nat → Int) : ((List.range n).all fun j => f j == f j) = true := by simp

end Go.Proofs.Ytdeggdmoijfhdaa

/-
  My kit: an append that keeps what it read; elements of a slice of the call's own in drawn regions.
-/
namespace Go.Proofs.Ytdeggdmoijfhdaa
open Go Go.RowKit

section
variable {P : Program} {ops : Array Oper} {Q : Exit → Act → World → Prop} {rest : List Oper} {o : Oper} {a : Act} {w : World}

theorem run_append_keep (base : Nat) (t ty e : TypeId) (i : TypeInfo) (z : Value) (ht : P.underlying t = some (.slice e)) (hi : P.info? e = some i) (hz : i.zero = some z) (hsize : i.size = 1) (hzs : z.cells.size = 1)
    (g n cap : Nat) (xs : List Value) (hown : w.ownsRow base e 1 (.slice (some ⟨g, 0, none⟩) n cap) n xs)
    (ad : Addr) (m c : Nat) (news : List Value) (hl : news.length = m) (hnews : ∀ j u, news[j]? = some u → w.cell? (ad.add j) = some u) (h1 : ∀ u ∈ news, u.oneCell' = true)
    (h63 : n + m ≤ maxLen) (hbytes : (n + m) * i.bytes ≤ 140737488355328) (hbase : base ≤ w.heap.size) :
    ∃ v' w', (Builtin.append_ #[t, t] ty #[.slice (some ⟨g, 0, none⟩) n cap, .slice (some ad) m c]).run P w = .ok v' w' ∧ w'.ownsRow base e 1 v' (n + m) (xs ++ news) ∧ w.grownBy w' (some g) ∧
      ∀ j u, xs[j]? = some u → w'.cell? ⟨g, j, none⟩ = some u := by
  obtain ⟨v', w', hr, h2, h3, -⟩ := run_append_own (P := P) w base t ty e i z 1 i.bytes ht hi hz hsize rfl hzs (by decide) _ n xs hown ad m c news (by simpa using hl) hnews h1 h63 hbytes hbase
  refine ⟨v', w', hr, h2, h3, ?_⟩
  have holds : ∀ j u, xs[j]? = some u → w.cell? ((⟨g, 0, none⟩ : Addr).add j) = some u := hown.cells (g := g) rfl
  have hsm : n + m ≤ 9223372036854775807 := by simp only [maxLen] at h63; omega
  rcases hown.2 with ⟨hh, -⟩ | ⟨g', cap', cur, hh, hbg, hg, hnc, hcm, hcs, htake⟩
  · cases hh
  · simp only [Value.slice.injEq, Option.some.injEq, Addr.mk.injEq, and_true, true_and] at hh
    obtain ⟨rfl, rfl⟩ := hh
    by_cases hroom : n + m ≤ cap
    · have hr2 := run_append_room (P := P) w t ty e i ht hi g n cap cur hg ad m c news (by rw [hsize]; simpa using hl) hnews h1 hroom (by rw [hsize, hl, hcs]; omega)
      rw [hr] at hr2
      simp only [Result.ok.injEq] at hr2
      obtain ⟨rfl, rfl⟩ := hr2
      intro j u hu
      have := h2.cells (g := g) rfl j u (by rw [List.getElem?_append_left (List.getElem?_eq_some_iff.1 hu).1]; exact hu)
      rwa [add_none, Nat.zero_add] at this
    · have hr2 := run_append_grow (P := P) w t ty e i z ht hi hz ⟨g, 0, none⟩ n cap xs (by rw [hown.1, hsize]) holds ad m c news (by rw [hsize]; simpa using hl) hnews (by omega) (by omega) (growslice_fits (by omega) hbytes)
      rw [hr] at hr2
      simp only [Result.ok.injEq] at hr2
      obtain ⟨rfl, rfl⟩ := hr2
      intro j u hu
      have h0 := holds j u hu
      rw [add_none, Nat.zero_add] at h0
      rw [← h0]
      have hlt : g < w.heap.size := (Array.getElem?_eq_some_iff.1 hg).1
      unfold World.cell?
      rw [show (World.alloc _ _).heap[g]? = w.drew.heap[g]? from heap_alloc_old w.drew _ hlt]
      rfl

/-- append(s, x...) that keeps what s read. -/
theorem kAppendKeep (s x : Operand) (T E : TypeId) (ho : o.op = .call { callee := .builtin .append, args := #[s, x], argTypes := #[T, T] }) (hg : Region.wanted o (yielded ops a.tmps) = true)
    (base : Nat) (i : TypeInfo) (z : Value) (ht : P.underlying T = some (.slice E)) (hi : P.info? E = some i) (hz : i.zero = some z) (hsize : i.size = 1) (hzs : z.cells.size = 1)
    (g n cap : Nat) (y : Value) (xs news : List Value) (hs : a.eval s = .slice (some ⟨g, 0, none⟩) n cap) (hown : w.ownsRow base E 1 (.slice (some ⟨g, 0, none⟩) n cap) n xs) (hx : a.eval x = y) (hy : IsVals w y news) (hnn : news ≠ []) (h1 : ∀ u ∈ news, u.oneCell' = true)
    (h63 : n + news.length ≤ maxLen) (hbytes : (n + news.length) * i.bytes ≤ 140737488355328) (hbase : base ≤ w.heap.size)
    (h : ∀ v' w', w'.ownsRow base E 1 v' (n + news.length) (xs ++ news) → w.grownBy w' (some g) → (∀ j u, xs[j]? = some u → w'.cell? ⟨g, j, none⟩ = some u) → wpList P ops Q rest (a.put o.dst v') w') : wpList P ops Q (o :: rest) a w := by
  obtain ⟨ao, c, rfl, hc, hn, hj⟩ := hy
  cases ao with
  | none =>
    cases news with
    | nil => exact absurd rfl hnn
    | cons u us => obtain ⟨a, ha, _⟩ := hj 0 u rfl; cases ha
  | some ad =>
    obtain ⟨v', w', hr, h2, h3, h4⟩ := run_append_keep (P := P) (w := w) base T o.type E i z ht hi hz hsize hzs g n cap xs hown ad news.length c news rfl (fun j u hu => by obtain ⟨a', ha, hcell⟩ := hj j u hu; cases ha; exact hcell) h1 h63 hbytes hbase
    refine BigFrame.wpList_want hg fun K hK => ?_
    unfold Oper.wp execOp
    simp only [ho, resolve, invoke, builtin, Sem.run_bind, Sem.run_pure, Result.andThen_ok, List.map_toArray, List.map_cons, List.map_nil, hs, hx, hr]
    exact hK _ _ (h v' w' h2 h3 h4)
end

theorem run_indexAddrG {P : Program} {w : World} {T E : TypeId} {k : IntKind} {g len cap j : Nat} {i : Int} (ht : P.underlying T = some (.slice E)) (hs : (P.info? E).map (·.size) = some 1) (hi : i = (j : Int)) (hj : j < len) :
    (Instr.indexAt T (.slice (some ⟨g, 0, none⟩) len cap) (.int k i)).run P w = .ok (.pointer (some ⟨g, j, none⟩)) w := by
  subst hi
  cases hq : P.info? E with
  | none => simp [hq] at hs
  | some t =>
    have hs' : t.size = 1 := by simpa [hq] using hs
    have hc : (0 : Int) ≤ (j : Int) ∧ (j : Int) < (len : Int) := by omega
    simp [Instr.indexAt, asIntOf, run_underlying ht, hc, sizeOf, typeInfo, hq, hs', add_none]
    intro hle; omega

section
variable {P : Program} {ops : Array Oper} {C : World → Prop} {Q : Act → Prop} {rest : List Oper} {o : Oper} {a : Act}
theorem qIndexAddrG (T E : TypeId) (x y : Operand) (k : IntKind) (g len cap : Nat) (i : Int) (j : Nat) (ho : o.op = .indexAddr T x y) (hg : Region.wanted o (yielded ops a.tmps) = true)
    (hx : a.eval x = .slice (some ⟨g, 0, none⟩) len cap) (hy : a.eval y = .int k i) (ht : P.underlying T = some (.slice E)) (hs : (P.info? E).map (·.size) = some 1) (hi : i = (j : Int)) (hj : j < len)
    (h : wpQuiet P ops C Q rest (a.put o.dst (.pointer (some ⟨g, j, none⟩)))) : wpQuiet P ops C Q (o :: rest) a := by
  refine qStep _ hg (fun w _ => ?_) h
  unfold execOp
  simp only [ho, hx, hy, Sem.run_bind, run_indexAddrG ht hs hi hj, Result.andThen_ok, Sem.run_pure]
end

section
variable {P : Program} {ops : Array Oper} {S : World → Prop} {Q : Exit → Act → World → Prop} {L : Act → World → Prop} {bs : List Bool} {o : Oper} {rest : List Oper} {a : Act} {w : World}
theorem mixIndexAddrG (T E : TypeId) (x y : Operand) (k : IntKind) (g len cap : Nat) (i : Int) (j : Nat) (hS : S w) (ho : o.op = .indexAddr T x y) (hg : Region.wanted o (yielded ops a.tmps) = true)
    (hx : a.eval x = .slice (some ⟨g, 0, none⟩) len cap) (hy : a.eval y = .int k i) (ht : P.underlying T = some (.slice E)) (hs : (P.info? E).map (·.size) = some 1) (hi : i = (j : Int)) (hj : j < len)
    (h : wpMix P ops Q S L bs rest (a.put o.dst (.pointer (some ⟨g, j, none⟩))) w) : wpMix P ops Q S L (true :: bs) (o :: rest) a w :=
  mixQuiet _ hS hg (fun w _ => by unfold execOp; simp only [ho, hx, hy, Sem.run_bind, run_indexAddrG ht hs hi hj, Result.andThen_ok, Sem.run_pure]) h
theorem mixLoadCell (T : TypeId) (x : Operand) (g off : Nat) (v : Value) (d : TypeDesc) (hS : S w) (ho : o.op = .load T x) (hg : Region.wanted o (yielded ops a.tmps) = true)
    (hx : a.eval x = .pointer (some ⟨g, off, none⟩)) (hr : ∀ w, S w → w.cell? ⟨g, off, none⟩ = some v) (hu : P.underlying T = some d) (hd : aggDesc d = false)
    (h : wpMix P ops Q S L bs rest (a.put o.dst v) w) : wpMix P ops Q S L (true :: bs) (o :: rest) a w := by
  refine mixQuiet _ hS hg (fun w hw => ?_) h
  unfold execOp
  have hcell := hr w hw
  have hl : (loadVar T ⟨g, off, none⟩).run P w = .ok v w := by simp [loadVar, Sem.run_bind, run_isAgg hu, hd, load, Sem.run, hcell]
  simp only [ho, hx, Instr.loadAt, Instr.sureAddr, Sem.run_bind, Sem.run_pure, Result.andThen_ok, hl]
end

section
variable {P : Program} {ops : Array Oper} {Q : Exit → Act → World → Prop} {rest : List Oper} {o : Oper} {a : Act} {w : World}
/-- A slice of no element. -/
theorem kBuildSlice0 (T E : TypeId) (ho : o.op = .buildSlice T 0 #[]) (hg : Region.wanted o (yielded ops a.tmps) = true) (ht : P.underlying T = some (.slice E)) (i : TypeInfo) (hi : P.info? E = some i)
    (h : ∀ w1, Row w1 w.heap.size E #[] → w1.heap.size = w.heap.size + 1 → Below w.heap.size w w1 → wpList P ops Q rest (a.put o.dst (.slice (some ⟨w.heap.size, 0, none⟩) 0 0)) w1) : wpList P ops Q (o :: rest) a w := by
  refine BigFrame.wpList_want hg fun K hK => ?_
  unfold Oper.wp execOp
  have hrun : (Instr.buildSlice T 0 #[]).run P w = .ok (.slice (some ⟨w.heap.size, 0, none⟩) 0 0) (w.alloc (.cells #[] E)) := by
    simp [Instr.buildSlice, run_underlying ht, sizeOf, typeInfo, hi, Instr.fill, newRow, newObj, Sem.run]
    rw [map_range]; rfl
  simp only [ho, List.map_toArray, List.map_nil, Sem.run_bind, hrun, Result.andThen_ok, Sem.run_pure]
  exact hK _ _ (h _ (heap_alloc_new w _) (by simp) ((Below.refl _ _).alloc (Nat.le_refl _) _))
theorem kLenN (T : TypeId) (x : Operand) (E : TypeId) (v : Value) (l : List Value) (n : Nat) (ho : o.op = .call { callee := .builtin .len, args := #[x], argTypes := #[T] }) (hg : Region.wanted o (yielded ops a.tmps) = true) (hx : a.eval x = v) (hv : IsVals w v l) (hn : l.length = n) (ht : P.underlying T = some (.slice E))
    (h : wpList P ops Q rest (a.put o.dst (.int .i64 (n : Int))) w) : wpList P ops Q (o :: rest) a w := by
  subst hn; exact kLen T x E v l ho hg hx hv ht h
end
theorem own_empty {w : World} {g base : Nat} {E : TypeId} (hb : base ≤ g) (h : Row w g E #[]) : w.ownsRow base E 1 (.slice (some ⟨g, 0, none⟩) 0 0) 0 [] :=
  ⟨rfl, .inr ⟨g, 0, _, rfl, hb, h, Nat.zero_le _, by decide, by simp, by simp⟩⟩
end Go.Proofs.Ytdeggdmoijfhdaa

/-
  My kit, fourth part: the plan of a drawn region in an order of one's own; a call as one step; slices and texts in such a plan.
-/
namespace Go.Proofs.Ytdeggdmoijfhdaa
open Go Go.RowKit

section
variable {P : Program} {ops : Array Oper} {md : Region.Mode} {S : World → Prop} {Q : Exit → Act → World → Prop}

def mixHeadP (md : Region.Mode) (ops : Array Oper) (n g : Nat) : List (Nat × Bool) → Array Bool → Bool
  | [], listed => Region.seqB md ops g n listed
  | (k, true) :: bs, listed => decide (k < n) && (Region.ready md ops listed).contains k && Region.free md ops listed k && mixHeadP md ops n g bs (listed.setIfInBounds k true)
  | (k, false) :: bs, listed => decide (k < n) && decide (Region.ready md ops listed = [k]) && mixHeadP md ops n g bs (listed.setIfInBounds k true)
def mixBP (md : Region.Mode) (ops : Array Oper) (plan : List (Nat × Bool)) : Bool :=
  Region.noSelect ops && decide (plan.length < ops.size) && Region.sinkB md ops plan.length && Region.chainB md ops plan.length && mixHeadP md ops plan.length (ops.size - plan.length) plan (Array.replicate ops.size false)

theorem headMix_of_wpMixP {n g : Nat} {Lq : Act → World → Prop} (hsel : Region.noSelect ops = true) (hs : Region.sinkB md ops n = true) (hc : Region.chainB md ops n = true) (hn : n < ops.size) :
    ∀ (plan : List (Nat × Bool)) (l : List Oper) (listed : Array Bool) (a : Act) (w : World), plan.map (fun p => ops[p.1]?) = l.map some → HeadInv md ops n listed →
    mixHeadP md ops n g plan listed = true → wpMix P ops Q S Lq (plan.map (·.2)) l a w →
    headMix P md ops (NoPanic Q) S n (fun listed' a' w' => Region.seqB md ops g n listed' = true ∧ Lq a' w') plan.length listed a w
  | [], [], listed, a, w, _, _, hB, h => ⟨by simpa [mixHeadP] using hB, h⟩
  | [], _ :: _, _, _, _, hl, _, _, _ => by simp at hl
  | _ :: _, [], _, _, _, hl, _, _, _ => by simp at hl
  | (k, true) :: bs, o :: l, listed, a, w, hl, inv, hB, h => by
    simp only [List.map_cons, List.cons.injEq] at hl
    obtain ⟨h0, hl'⟩ := hl
    simp only [mixHeadP, Bool.and_eq_true, decide_eq_true_eq] at hB
    obtain ⟨⟨⟨hkn, hr⟩, hf⟩, hB'⟩ := hB
    have hr' : k ∈ Region.ready md ops listed := by simpa using hr
    obtain ⟨hS, v, hy, hK⟩ := h
    exact headMix_take h0 (Region.noSelect_spec hsel) (fun _ _ _ hx => hx) hs hc hn hkn (fun _ _ _ hL => seqB_ready hL.1) bs.length listed a w inv (Region.free_spec h0 hf) hr' hy hS
      (headMix_of_wpMixP hsel hs hc hn bs l _ _ _ hl' (inv.set hr' hkn) hB' hK)
  | (k, false) :: bs, o :: l, listed, a, w, hl, inv, hB, h => by
    simp only [List.map_cons, List.cons.injEq] at hl
    obtain ⟨h0, hl'⟩ := hl
    simp only [mixHeadP, Bool.and_eq_true, decide_eq_true_eq] at hB
    obtain ⟨⟨hkn, hr⟩, hB'⟩ := hB
    have hr' : k ∈ Region.ready md ops listed := by rw [hr]; simp
    refine ⟨by rw [hr]; simp, fun i hi => ?_⟩
    rw [hr] at hi
    obtain rfl : i = k := by simpa using hi
    refine ⟨hkn, wpOp_mono (fun a' w' h' => ⟨h'.1, ?_⟩) (wpOp_of_list h0 h)⟩
    exact headMix_of_wpMixP hsel hs hc hn bs l _ _ _ hl' (inv.set hr' hkn) hB' h'.2

/-- A REGION THAT DRAWS ITS ORDER, by a plan of its head in an order of one's own; the others follow in one forced order. -/
theorem region_mixP {id : Nat} {a : Act} {w : World} {l : List Oper} (plan : List (Nat × Bool)) (S : World → Prop) (hm : P.follows .mixedOrders = true) (hB : mixBP .any l.toArray plan = true) (hlp : plan.map (fun p => l.toArray[p.1]?) = (plan.filterMap fun p => l[p.1]?).map some)
    (h : ∀ w1, Below w.heap.size w w1 → w1.heap.size = w.heap.size → wpMix P l.toArray Q S (fun a' w' => wpList P l.toArray Q (l.drop plan.length) a' w') (plan.map (·.2)) (plan.filterMap fun p => l[p.1]?) a w1) : (Code.region id l.toArray true).wp P Q a w := by
  have h := h { w with drawn := w.drawn + 1 } ⟨rfl, rfl, rfl, Nat.le_refl _, fun _ _ => rfl⟩ rfl
  simp only [mixBP, Bool.and_eq_true, decide_eq_true_eq] at hB
  obtain ⟨⟨⟨⟨hsel, hn⟩, hs⟩, hc⟩, hlex⟩ := hB
  have hn' : plan.length < l.length := by simpa using hn
  have hdl : (l.drop plan.length).length = l.toArray.size - plan.length := by simp
  have inv0 : HeadInv .any l.toArray plan.length (Array.replicate l.toArray.size false) :=
    ⟨by simp, fun j oj _ hl => (by rw [getD_replicate_false] at hl; cases hl), fun t _ ht => getD_in (by simpa using ht) (getD_replicate_false _ _)⟩
  have H := headMix_of_wpMixP (md := .any) (g := l.toArray.size - plan.length) hsel hs hc hn plan _ _ a _ hlp inv0 hlex h
  refine wp_region_any hm ?_
  have := any_of_headMix (g := l.toArray.size - plan.length) (fun listed a' w' hL => by
    have := wpAny_of_seq (md := .any) (Q' := Q) (l.drop plan.length) plan.length listed a' w' (fun j => by simp [List.getElem?_drop]) (by rw [hdl]; exact hL.1) hL.2
    rwa [hdl] at this) _ _ _ _ H
  rw [show plan.length + (l.toArray.size - plan.length) = l.toArray.size by omega] at this
  exact this
end

/-- a function of the program's own, with a text -/
def bodied (P : Program) (f : FuncId) : Bool := match P.funcs[f]? with
  | some fn => !(fn.name == "runtime.NumGoroutine") && !fn.body.isNone
  | none => false
theorem run_callFunc_bodied {P : Program} {f : FuncId} (h : bodied P f = true) (args : Array Value) (w : World) : (callFunc f args).run P w = .ok (.enter f args) w := by
  unfold bodied at h
  split at h
  · rename_i fn hf
    simp only [Bool.and_eq_true, Bool.not_eq_true'] at h
    have h1 : fn.name ≠ "runtime.NumGoroutine" := by simpa using h.1
    have h2 : fn.body ≠ none := fun e => by rw [e] at h; simp at h
    simp [callFunc, program, Sem.run, hf]
    rw [if_neg h1, if_neg h2]
  · cases h

section
variable {P : Program} {ops : Array Oper} {Q : Exit → Act → World → Prop} {rest : List Oper} {o : Oper} {a : Act} {w : World}
theorem kCall1 (f : FuncId) (T : TypeId) (x : Operand) (u : Value) (ho : o.op = .call { callee := .value (.func f), args := #[x], argTypes := #[T] }) (hg : Region.wanted o (yielded ops a.tmps) = true) (hf : bodied P f = true) (hx : a.eval x = u)
    (hc : Calls P f #[u] w fun e w' => ∃ v, e = .returned v ∧ wpList P ops Q rest (a.put o.dst v) w') : wpList P ops Q (o :: rest) a w := by
  refine BigFrame.wpList_want hg fun K hK => ?_
  have hrun : (execOp a.eval o).run P w = .ok (.enter f #[u]) w := by
    have hff : a.eval (.func f) = .func (.func f) #[] #[] := rfl
    unfold execOp
    simp only [ho, resolve, List.map_toArray, List.map_cons, List.map_nil, hx, hff, Deferred.ofValue, Sem.run_bind, Sem.run_pure, Result.andThen_ok, invoke]
    simpa using run_callFunc_bodied hf #[u] w
  unfold Oper.wp
  rw [hrun, Oper.upon_enter]
  exact hc.mono fun e w' ⟨v, he, h⟩ => by subst he; exact hK _ _ h
end

/-! ### what a part of a slice is -/
/-- s[n:] and s[:n] of a slice -/
def fromV (v : Value) (n : Nat) : Value := match v with
  | .slice ao len c => .slice (if c = n then ao else ao.map (·.add n)) (len - n) (c - n)
  | v => v
def toV (v : Value) (n : Nat) : Value := match v with
  | .slice ao _ c => .slice ao n c
  | v => v
theorem addr_add (b : Addr) (n j : Nat) : (b.add n).add j = b.add (n + j) := by
  obtain ⟨bb, bo, bs⟩ := b
  unfold Addr.add
  by_cases hn0 : n = 0 <;> by_cases hj0 : j = 0 <;> simp [hn0, hj0, Nat.add_assoc]
theorem isVals_from {w : World} {v : Value} {l : List Value} {n : Nat} (hv : IsVals w v l) (hn : n ≤ l.length) : IsVals w (fromV v n) (l.drop n) := by
  obtain ⟨ao, c, rfl, hc, hnone, hj⟩ := hv
  refine ⟨if c = n then ao else ao.map (·.add n), c - n, by unfold fromV; rw [List.length_drop], by rw [List.length_drop]; omega, fun hno => ?_, fun j u hu => ?_⟩
  · by_cases e : c = n
    · omega
    · rw [if_neg e] at hno
      have : ao = none := by cases ao <;> simp_all
      have := hnone this; omega
  · rw [List.getElem?_drop] at hu
    obtain ⟨b, rfl, hcell⟩ := hj _ u hu
    have hlt := (List.getElem?_eq_some_iff.1 hu).1
    rw [if_neg (by omega)]
    exact ⟨b.add n, rfl, by rw [addr_add]; exact hcell⟩
theorem isVals_to {w : World} {v : Value} {l : List Value} {n : Nat} (hv : IsVals w v l) (hn : n ≤ l.length) : IsVals w (toV v n) (l.take n) := by
  obtain ⟨ao, c, rfl, hc, hnone, hj⟩ := hv
  have hl : (l.take n).length = n := by simp; omega
  refine ⟨ao, c, by unfold toV; rw [hl], by omega, hnone, fun j u hu => ?_⟩
  rw [List.getElem?_take] at hu
  split at hu
  · exact hj j u hu
  · cases hu
theorem run_sliceFromV {P : Program} {w : World} {T E : TypeId} {v : Value} {l : List Value} {k : IntKind} {i : Int} {n : Nat} (ht : P.underlying T = some (.slice E)) (hsz : (P.info? E).map (·.size) = some 1) (hv : IsVals w v l) (hi : i = (n : Int)) (hn : n ≤ l.length) :
    (Instr.sliceAt T v (some (.int k i)) none none).run P w = .ok (fromV v n) w := by
  obtain ⟨ao, c, rfl, hc, hnone, hj⟩ := hv
  subst hi
  cases hq : P.info? E with
  | none => simp [hq] at hsz
  | some t =>
    have hs' : t.size = 1 := by simpa [hq] using hsz
    have hb : (Instr.sliceBound (.int k (n : Int)) l.length .sliceB).run P w = .ok n w := by
      have := run_sliceBound (P := P) (w := w) k (n : Int) l.length .sliceB (by omega) (by omega)
      simpa using this
    simp [Instr.sliceAt, run_underlying ht, Instr.slice, Instr.sliceBounds, hb, sizeOf, typeInfo, hq, hs', fromV]
theorem run_sliceToV {P : Program} {w : World} {T E : TypeId} {v : Value} {l : List Value} {k : IntKind} {i : Int} {n : Nat} (ht : P.underlying T = some (.slice E)) (hsz : (P.info? E).map (·.size) = some 1) (hv : IsVals w v l) (hi : i = (n : Int)) (hn : n ≤ l.length) :
    (Instr.sliceAt T v none (some (.int k i)) none).run P w = .ok (toV v n) w := by
  obtain ⟨ao, c, rfl, hc, hnone, hj⟩ := hv
  subst hi
  cases hq : P.info? E with
  | none => simp [hq] at hsz
  | some t =>
    have hb : ∀ code, (Instr.sliceBound (.int k (n : Int)) c code).run P w = .ok n w := fun code => by
      have := run_sliceBound (P := P) (w := w) k (n : Int) c code (by omega) (by omega)
      simpa using this
    simp [Instr.sliceAt, run_underlying ht, Instr.slice, Instr.sliceBounds, hb, sizeOf, typeInfo, hq, toV]
    cases ao <;> simp [Addr.add]
theorem run_sliceArrAll {P : Program} {w : World} {T E : TypeId} {len g off : Nat} (ht : P.underlying T = some (.array len E)) (hsz : (P.info? E).map (·.size) = some 1) :
    (Instr.sliceAt T (.pointer (some ⟨g, off, none⟩)) none none none).run P w = .ok (.slice (some ⟨g, off, none⟩) len len) w := by
  cases hq : P.info? E with
  | none => simp [hq] at hsz
  | some t => simp [Instr.sliceAt, run_underlying ht, Instr.sureAddr, Instr.sliceBounds, sizeOf, typeInfo, hq, Addr.add]
theorem run_sliceArrTo {P : Program} {w : World} {T E : TypeId} {len g off n : Nat} {k : IntKind} {i : Int} (ht : P.underlying T = some (.array len E)) (hsz : (P.info? E).map (·.size) = some 1) (hi : i = (n : Int)) (hn : n ≤ len) :
    (Instr.sliceAt T (.pointer (some ⟨g, off, none⟩)) none (some (.int k i)) none).run P w = .ok (.slice (some ⟨g, off, none⟩) n len) w := by
  subst hi
  cases hq : P.info? E with
  | none => simp [hq] at hsz
  | some t =>
    have hb : (Instr.sliceBound (.int k (n : Int)) len .sliceAlen).run P w = .ok n w := by
      have := run_sliceBound (P := P) (w := w) k (n : Int) len .sliceAlen (by omega) (by omega)
      simpa using this
    simp [Instr.sliceAt, run_underlying ht, Instr.sureAddr, Instr.sliceBounds, hb, sizeOf, typeInfo, hq, Addr.add]

section
variable {P : Program} {ops : Array Oper} {S : World → Prop} {Q : Exit → Act → World → Prop} {L : Act → World → Prop} {bs : List Bool} {o : Oper} {rest : List Oper} {a : Act} {w : World}
theorem mixSliceFrom (T E : TypeId) (x y : Operand) (v : Value) (l : List Value) (k : IntKind) (i : Int) (n : Nat) (hS : S w) (ho : o.op = .slice T x (some y) none none) (hg : Region.wanted o (yielded ops a.tmps) = true) (hx : a.eval x = v) (hy : a.eval y = .int k i) (ht : P.underlying T = some (.slice E)) (hsz : (P.info? E).map (·.size) = some 1) (hv : ∀ w, S w → IsVals w v l) (hi : i = (n : Int)) (hn : n ≤ l.length)
    (h : wpMix P ops Q S L bs rest (a.put o.dst (fromV v n)) w) : wpMix P ops Q S L (true :: bs) (o :: rest) a w :=
  mixQuiet _ hS hg (fun w hw => by unfold execOp; simp only [ho, hx, hy, Option.map_some, Option.map_none, Sem.run_bind, run_sliceFromV ht hsz (hv w hw) hi hn, Result.andThen_ok, Sem.run_pure]) h
theorem mixSliceTo (T E : TypeId) (x y : Operand) (v : Value) (l : List Value) (k : IntKind) (i : Int) (n : Nat) (hS : S w) (ho : o.op = .slice T x none (some y) none) (hg : Region.wanted o (yielded ops a.tmps) = true) (hx : a.eval x = v) (hy : a.eval y = .int k i) (ht : P.underlying T = some (.slice E)) (hsz : (P.info? E).map (·.size) = some 1) (hv : ∀ w, S w → IsVals w v l) (hi : i = (n : Int)) (hn : n ≤ l.length)
    (h : wpMix P ops Q S L bs rest (a.put o.dst (toV v n)) w) : wpMix P ops Q S L (true :: bs) (o :: rest) a w :=
  mixQuiet _ hS hg (fun w hw => by unfold execOp; simp only [ho, hx, hy, Option.map_some, Option.map_none, Sem.run_bind, run_sliceToV ht hsz (hv w hw) hi hn, Result.andThen_ok, Sem.run_pure]) h
theorem mixSliceArrAll (T E : TypeId) (x : Operand) (len g : Nat) (hS : S w) (ho : o.op = .slice T x none none none) (hg : Region.wanted o (yielded ops a.tmps) = true) (hx : a.eval x = .pointer (some ⟨g, 0, none⟩)) (ht : P.underlying T = some (.array len E)) (hsz : (P.info? E).map (·.size) = some 1)
    (h : wpMix P ops Q S L bs rest (a.put o.dst (.slice (some ⟨g, 0, none⟩) len len)) w) : wpMix P ops Q S L (true :: bs) (o :: rest) a w :=
  mixQuiet _ hS hg (fun w _ => by unfold execOp; simp only [ho, hx, Option.map_none, Sem.run_bind, run_sliceArrAll ht hsz, Result.andThen_ok, Sem.run_pure]) h
theorem mixSliceArrTo (T E : TypeId) (x y : Operand) (len g n : Nat) (k : IntKind) (i : Int) (hS : S w) (ho : o.op = .slice T x none (some y) none) (hg : Region.wanted o (yielded ops a.tmps) = true) (hx : a.eval x = .pointer (some ⟨g, 0, none⟩)) (hy : a.eval y = .int k i) (ht : P.underlying T = some (.array len E)) (hsz : (P.info? E).map (·.size) = some 1) (hi : i = (n : Int)) (hn : n ≤ len)
    (h : wpMix P ops Q S L bs rest (a.put o.dst (.slice (some ⟨g, 0, none⟩) n len)) w) : wpMix P ops Q S L (true :: bs) (o :: rest) a w :=
  mixQuiet _ hS hg (fun w _ => by unfold execOp; simp only [ho, hx, hy, Option.map_some, Option.map_none, Sem.run_bind, run_sliceArrTo ht hsz hi hn, Result.andThen_ok, Sem.run_pure]) h
theorem mixToString (src dst E : TypeId) (x : Operand) (v : Value) (l : List UInt8) (hS : S w) (ho : o.op = .convert src dst x) (hg : Region.wanted o (yielded ops a.tmps) = true) (hx : a.eval x = v) (hv : ∀ w, S w → IsVals w v (l.map VB)) (hs : P.underlying src = some (.slice E)) (he : P.underlying E = some (.int .u8)) (hd : P.underlying dst = some .string)
    (h : wpMix P ops Q S L bs rest (a.put o.dst (textV l)) w) : wpMix P ops Q S L (true :: bs) (o :: rest) a w :=
  mixQuiet _ hS hg (fun w hw => by unfold execOp; simp only [ho, hx, Sem.run_bind, run_toString (hv w hw) hs he hd, Result.andThen_ok, Sem.run_pure]) h
theorem mixLoadRow (T U : TypeId) (x : Operand) (g : Nat) (cs : Array Value) (d : TypeDesc) (hS : S w) (ho : o.op = .load T x) (hg : Region.wanted o (yielded ops a.tmps) = true)
    (hx : a.eval x = .pointer (some ⟨g, 0, none⟩)) (hr : ∀ w, S w → Row w g U cs) (hu : P.underlying T = some d) (hd : aggDesc d = true) (hi : (P.info? T).map (·.size) = some cs.size)
    (h : wpMix P ops Q S L bs rest (a.put o.dst (.agg cs)) w) : wpMix P ops Q S L (true :: bs) (o :: rest) a w := by
  refine mixQuiet _ hS hg (fun w hw => ?_) h
  unfold execOp
  have e := run_loadPart (P := P) (T := T) (n := cs.size) (hr w hw) hu hd hi (by omega : 0 + cs.size ≤ cs.size)
  have e2 : cs.extract 0 (0 + cs.size) = cs := by simp
  rw [e2] at e
  simp only [ho, hx, Instr.loadAt, Instr.sureAddr, Sem.run_bind, Sem.run_pure, Result.andThen_ok, e]
theorem mixNeqStr (T T2 : TypeId) (x y : Operand) (l m : List UInt8) (b : Bool) (hS : S w) (ho : o.op = .binOp .neq T x y T2) (hg : Region.wanted o (yielded ops a.tmps) = true) (hx : a.eval x = textV l) (hy : a.eval y = textV m) (hb : (l != m) = b)
    (h : wpMix P ops Q S L bs rest (a.put o.dst (.bool b)) w) : wpMix P ops Q S L (true :: bs) (o :: rest) a w := by
  subst hb
  refine mixQuiet _ hS hg (fun w _ => ?_) h
  unfold execOp
  have hr := run_neqStr (P := P) (w := w) T l m x y
  simp only [ho, hx, hy]
  rw [Sem.run_bind, hr]; rfl
theorem mixEqlArr (T T2 elem : TypeId) (x y : Operand) (len : Nat) (k k' : IntKind) (f g : Nat → Int) (b : Bool) (hS : S w) (ho : o.op = .binOp .eql T x y T2) (hg : Region.wanted o (yielded ops a.tmps) = true) (hx : a.eval x = .agg (tab len fun j => .int k (f j))) (hy : a.eval y = .agg (tab len fun j => .int k (g j)))
    (hu : P.underlying T = some (.array len elem)) (he : P.underlying elem = some (.int k')) (hs : (P.info? elem).map (·.size) = some 1) (hq : P.eqGuardType P.depth T = false) (hb : ((List.range len).all fun j => f j == g j) = b)
    (h : wpMix P ops Q S L bs rest (a.put o.dst (.bool b)) w) : wpMix P ops Q S L (true :: bs) (o :: rest) a w := by
  subst hb
  refine mixQuiet _ hS hg (fun w _ => ?_) h
  unfold execOp
  have hr := run_eqlArr (P := P) (w := w) (k := k) hu he hs hq f g x y
  simp only [ho, hx, hy]
  rw [Sem.run_bind, hr]; rfl
theorem mixNeqArr (T T2 elem : TypeId) (x y : Operand) (len : Nat) (k k' : IntKind) (f g : Nat → Int) (b : Bool) (hS : S w) (ho : o.op = .binOp .neq T x y T2) (hg : Region.wanted o (yielded ops a.tmps) = true) (hx : a.eval x = .agg (tab len fun j => .int k (f j))) (hy : a.eval y = .agg (tab len fun j => .int k (g j)))
    (hu : P.underlying T = some (.array len elem)) (he : P.underlying elem = some (.int k')) (hs : (P.info? elem).map (·.size) = some 1) (hq : P.eqGuardType P.depth T = false) (hb : (!(List.range len).all fun j => f j == g j) = b)
    (h : wpMix P ops Q S L bs rest (a.put o.dst (.bool b)) w) : wpMix P ops Q S L (true :: bs) (o :: rest) a w := by
  subst hb
  refine mixQuiet _ hS hg (fun w _ => ?_) h
  unfold execOp
  have hr := run_neqArr (P := P) (w := w) (k := k) hu he hs hq f g x y
  simp only [ho, hx, hy]
  rw [Sem.run_bind, hr]; rfl
end
end Go.Proofs.Ytdeggdmoijfhdaa

/-
  My kit, fifth part: a drawn region by an invariant: each operation's value meets a predicate in the world in which it was yielded, and in every later one, whatever the order.
-/
namespace Go.Proofs.Ytdeggdmoijfhdaa
open Go Go.RowKit

section
variable {P : Program} {Q : Exit → Act → World → Prop}

/-- every operation has a slot of its own, inside the frame; what it waits for comes before it -/
def slotsB (l : List Oper) (n : Nat) : Bool :=
  (List.range l.length).all fun i => match l[i]? with
    | some o => (match o.dst with
        | some d => decide (d < n) && (List.range l.length).all fun j => decide (j = i) || (match l[j]? with | some o' => o'.dst != some d | none => true)
        | none => false) && o.after.all fun e => !Region.binds .any e || decide (e.on < i)
    | none => true
def dstOf (l : List Oper) (j : Nat) : Tmp := match l[j]? with
  | some o => o.dst.getD 0
  | none => 0

theorem slots_at {l : List Oper} {n i : Nat} {o : Oper} (h : slotsB l n = true) (hi : l[i]? = some o) :
    o.dst = some (dstOf l i) ∧ dstOf l i < n ∧ (∀ j o', l[j]? = some o' → j ≠ i → o'.dst ≠ some (dstOf l i)) ∧ ∀ e ∈ o.after, Region.binds .any e = true → e.on < i := by
  have hlt : i < l.length := (List.getElem?_eq_some_iff.1 hi).1
  have h1 := List.all_eq_true.1 h i (List.mem_range.2 hlt)
  simp only [hi, Bool.and_eq_true] at h1
  obtain ⟨h2, h3⟩ := h1
  cases hd : o.dst with
  | none => rw [hd] at h2; cases h2
  | some d =>
    rw [hd] at h2
    simp only [Bool.and_eq_true, decide_eq_true_eq] at h2
    have e : dstOf l i = d := by unfold dstOf; rw [hi]; simp [hd]
    rw [e]
    refine ⟨rfl, h2.1, fun j o' hj hne => ?_, fun ed he hb => ?_⟩
    · have hjl : j < l.length := (List.getElem?_eq_some_iff.1 hj).1
      have h4 := List.all_eq_true.1 h2.2 j (List.mem_range.2 hjl)
      simp only [hj, Bool.or_eq_true, decide_eq_true_eq] at h4
      rcases h4 with h4 | h4
      · exact absurd h4 hne
      · simpa using h4
    · have h4 := (Array.all_eq_true'.1 h3) ed he
      simpa [hb] using h4

structure Midst (l : List Oper) (Pr : Nat → World → Value → Prop) (a0 : Act) (w0 : World) (listed : Array Bool) (a : Act) (w : World) : Prop where
  size : a.tmps.size = a0.tmps.size
  defers : a.defers = a0.defers
  below : Below w0.heap.size w0 w
  other : ∀ s, (∀ j, j < l.length → dstOf l j ≠ s) → a.tmps.getD s undef = a0.tmps.getD s undef
  done : ∀ j, j < l.length → listed.getD j false = true → Pr j w (a.tmps.getD (dstOf l j) undef)

theorem put_get {a : Act} {d s : Tmp} {v : Value} (hd : d < a.tmps.size) : (a.put (some d) v).tmps.getD s undef = if s = d then v else a.tmps.getD s undef := by
  unfold Act.put
  by_cases h : s = d
  · subst h; simp [hd]
  · simp [h, Array.getElem?_setIfInBounds_ne (Ne.symm h)]

theorem count_set {listed : Array Bool} {i : Nat} (h : listed.getD i true = false) : (listed.setIfInBounds i true).toList.count false + 1 = listed.toList.count false := by
  have hlt : i < listed.size := by
    rcases Nat.lt_or_ge i listed.size with h' | h'
    · exact h'
    · simp [Array.getElem?_eq_none h'] at h
  have hv : listed.toList[i]'(by simpa using hlt) = false := by simpa [hlt] using h
  rw [Array.toList_setIfInBounds, List.count_set (by simpa using hlt), hv]
  have : 0 < listed.toList.count false := List.count_pos_iff.2 (by rw [← hv]; exact List.getElem_mem _)
  rw [if_pos (by decide), if_neg (by decide)]
  omega

theorem midst_any {l : List Oper} {Pr : Nat → World → Value → Prop} {a0 : Act} {w0 : World} (hB : slotsB l a0.tmps.size = true) (hmono : ∀ i w w' v, Below w.heap.size w w' → Pr i w v → Pr i w' v)
    (hstep : ∀ i o, l[i]? = some o → ∀ a w, a.tmps.size = a0.tmps.size → (∀ s, (∀ j, j < l.length → dstOf l j ≠ s) → a.tmps.getD s undef = a0.tmps.getD s undef) → Below w0.heap.size w0 w →
      (∀ e ∈ o.after, Region.binds .any e = true → Pr e.on w (a.tmps.getD (dstOf l e.on) undef)) →
      wpList P l.toArray (Exit.then (fun a' w' => ∃ v, a' = a.put o.dst v ∧ Below w.heap.size w w' ∧ Pr i w' v) (NoPanic Q)) [o] a w)
    (hfin : ∀ a w, a.tmps.size = a0.tmps.size → a.defers = a0.defers → Below w0.heap.size w0 w → (∀ s, (∀ j, j < l.length → dstOf l j ≠ s) → a.tmps.getD s undef = a0.tmps.getD s undef) → (∀ j, j < l.length → Pr j w (a.tmps.getD (dstOf l j) undef)) → Q .normal a w) :
    ∀ (f : Nat) (listed : Array Bool) (a : Act) (w : World), listed.size = l.length → listed.toList.count false = f → Midst l Pr a0 w0 listed a w → wpAny P .any l.toArray Q f listed a w := by
  have hend : ∀ (listed : Array Bool) (a : Act) (w : World), listed.size = l.length → Midst l Pr a0 w0 listed a w → Region.ready .any l.toArray listed = [] → Q .normal a w := by
    intro listed a w hsz hM hr
    have hall : ∀ n j, j < n → j < l.length → listed.getD j false = true := by
      intro n
      induction n with
      | zero => intro j hj; omega
      | succ n ih =>
        intro j hj hjl
        by_cases hjn : j < n
        · exact ih j hjn hjl
        · obtain rfl : j = n := by omega
          cases hb : listed.getD j false
          · have hun : listed.getD j true = false := getD_in (by omega) hb
            obtain ⟨o, ho⟩ : ∃ o, l[j]? = some o := ⟨l[j], List.getElem?_eq_getElem hjl⟩
            have hmem : j ∈ Region.ready .any l.toArray listed := mem_ready.2 ⟨hun, o, by simpa using ho, fun e he hbd => by
              have := (slots_at hB ho).2.2.2 e he hbd
              exact ih e.on this (by omega)⟩
            rw [hr] at hmem; cases hmem
          · rfl
    exact hfin a w hM.size hM.defers hM.below hM.other fun j hj => hM.done j hj (hall (j + 1) j (by omega) hj)
  intro f
  induction f with
  | zero =>
    intro listed a w hsz hc hM
    have hr : Region.ready .any l.toArray listed = [] := by
      rw [List.eq_nil_iff_forall_not_mem]
      intro i hi
      have h1 := count_set (mem_ready.1 hi).1
      omega
    exact ⟨hr, hend listed a w hsz hM hr⟩
  | succ f ih =>
    intro listed a w hsz hc hM
    refine ⟨fun hr => hend listed a w hsz hM hr, fun i hi => ?_⟩
    obtain ⟨hun, o, ho, hdeps⟩ := mem_ready.1 hi
    have ho' : l[i]? = some o := by simpa using ho
    have hil : i < l.length := (List.getElem?_eq_some_iff.1 ho').1
    obtain ⟨hd, hdn, hdist, hbef⟩ := slots_at hB ho'
    have h1 := hstep i o ho' a w hM.size hM.other hM.below fun e he hb => hM.done e.on (by have := hbef e he hb; omega) (hdeps e he hb)
    refine wpOp_noPanic (wpOp_mono (fun a' w' ⟨v, ha, hbw, hp⟩ => ?_) (wpOp_of_list ho h1))
    subst ha
    rw [hd]
    have hlt : dstOf l i < a.tmps.size := by rw [hM.size]; exact hdn
    refine ih _ _ _ (by simpa using hsz) (by have := count_set hun; omega) ⟨by simp [Act.put, hM.size], by simp [Act.put, hM.defers], hM.below.trans (hbw.mono hM.below.size), fun s hs => ?_, fun j hj hl => ?_⟩
    · rw [put_get hlt, if_neg (fun e => hs i hil e.symm)]; exact hM.other s hs
    · rw [put_get hlt]
      by_cases hji : j = i
      · subst hji; rw [if_pos rfl]; exact hp
      · have hne : dstOf l j ≠ dstOf l i := fun e => by
          obtain ⟨oj, hoj⟩ : ∃ o, l[j]? = some o := ⟨l[j], List.getElem?_eq_getElem hj⟩
          exact hdist j oj hoj hji (by rw [(slots_at hB hoj).1, e])
        rw [if_neg hne]
        refine hmono _ _ _ _ hbw (hM.done j hj ?_)
        rwa [getD_set_ne false (Ne.symm hji)] at hl

/-- A REGION THAT DRAWS ITS ORDER, BY AN INVARIANT. -/
theorem region_inv {id : Nat} {a0 : Act} {w0 : World} {l : List Oper} (Pr : Nat → World → Value → Prop) (hm : P.follows .mixedOrders = true) (hB : slotsB l a0.tmps.size = true) (hmono : ∀ i w w' v, Below w.heap.size w w' → Pr i w v → Pr i w' v)
    (hstep : ∀ i o, l[i]? = some o → ∀ a w, a.tmps.size = a0.tmps.size → (∀ s, (∀ j, j < l.length → dstOf l j ≠ s) → a.tmps.getD s undef = a0.tmps.getD s undef) → Below w0.heap.size w0 w →
      (∀ e ∈ o.after, Region.binds .any e = true → Pr e.on w (a.tmps.getD (dstOf l e.on) undef)) →
      wpList P l.toArray (Exit.then (fun a' w' => ∃ v, a' = a.put o.dst v ∧ Below w.heap.size w w' ∧ Pr i w' v) (NoPanic Q)) [o] a w)
    (hfin : ∀ a w, a.tmps.size = a0.tmps.size → a.defers = a0.defers → Below w0.heap.size w0 w → (∀ s, (∀ j, j < l.length → dstOf l j ≠ s) → a.tmps.getD s undef = a0.tmps.getD s undef) → (∀ j, j < l.length → Pr j w (a.tmps.getD (dstOf l j) undef)) → Q .normal a w) :
    (Code.region id l.toArray true).wp P Q a0 w0 := by
  refine wp_region_any hm ?_
  have hs : l.toArray.size = l.length := by simp
  refine midst_any (w0 := w0) hB hmono hstep hfin _ _ _ _ (by simp) ?_ ⟨rfl, rfl, ⟨rfl, rfl, rfl, Nat.le_refl _, fun _ _ => rfl⟩, fun _ _ => rfl, fun j _ h => ?_⟩
  · simp
  · rw [getD_replicate_false] at h; cases h
end

def Steps (F : Nat → Oper → Prop) : Nat → List Oper → Prop
  | _, [] => True
  | k, o :: r => F k o ∧ Steps F (k + 1) r
theorem steps_at {F : Nat → Oper → Prop} : ∀ (l : List Oper) (k : Nat), Steps F k l → ∀ i o, l[i]? = some o → F (k + i) o
  | [], _, _, i, o, h => by simp at h
  | x :: r, k, hs, 0, o, h => by simp at h; subst h; exact hs.1
  | x :: r, k, hs, i + 1, o, h => by
    have := steps_at r (k + 1) hs.2 i o (by simpa using h)
    rwa [show k + 1 + i = k + (i + 1) by omega] at this
theorem steps_all {F : Nat → Oper → Prop} {l : List Oper} (h : Steps F 0 l) : ∀ i o, l[i]? = some o → F i o := fun i o hi => by
  have := steps_at l 0 h i o hi
  rwa [Nat.zero_add] at this
theorem free_of {l : List Oper} {s : Tmp} (h : ((List.range l.length).all fun j => decide (dstOf l j ≠ s)) = true) : ∀ j, j < l.length → dstOf l j ≠ s := fun j hj => by
  have := List.all_eq_true.1 h j (List.mem_range.2 hj)
  simpa using this
theorem dep_of {l : List Oper} {o : Oper} {Pr : Nat → World → Value → Prop} {w : World} {a : Act} (h : ∀ e ∈ o.after, Region.binds .any e = true → Pr e.on w (a.tmps.getD (dstOf l e.on) undef)) (k : Nat) (hk : (o.after.any fun e => e.on == k && Region.binds .any e) = true) : Pr k w (a.tmps.getD (dstOf l k) undef) := by
  obtain ⟨e, he, h2⟩ := Array.any_eq_true'.1 hk
  simp only [Bool.and_eq_true, beq_iff_eq] at h2
  obtain ⟨rfl, hb⟩ := h2
  exact h e he hb
theorem wanted_of {l : List Oper} {o : Oper} {a : Act} {g : Nat} {b : Bool} {d : Tmp} (hg : o.guard = some (g, b)) (hd : (l[g]?).bind (·.dst) = some d) (hv : a.tmps.getD d undef = .bool b) : Region.wanted o (yielded l.toArray a.tmps) = true := by
  have h2 : a.tmps[d]? = some (.bool b) := by
    cases hq : a.tmps[d]? with
    | none => rw [Array.getD_eq_getD_getElem?, hq] at hv; cases hv
    | some u => rw [Array.getD_eq_getD_getElem?, hq] at hv; simp at hv; rw [hv]
  unfold Region.wanted
  rw [hg]
  simp [yielded, hd, h2]

section
variable {P : Program} {ops : Array Oper} {Q : Exit → Act → World → Prop} {rest : List Oper} {o : Oper} {a : Act} {w : World}
theorem kPure (v : Value) (hg : Region.wanted o (yielded ops a.tmps) = true) (hv : (execOp a.eval o).run P w = .ok (.value v) w) (h : wpList P ops Q rest (a.put o.dst v) w) : wpList P ops Q (o :: rest) a w := by
  refine BigFrame.wpList_want hg fun K hK => ?_
  unfold Oper.wp
  rw [hv]
  exact hK _ _ h
theorem kMoveV (x : Operand) (v : Value) (ho : o.op = .move x) (hg : Region.wanted o (yielded ops a.tmps) = true) (hx : a.eval x = v) (h : wpList P ops Q rest (a.put o.dst v) w) : wpList P ops Q (o :: rest) a w :=
  kPure v hg (by unfold execOp; simp only [ho, hx, Sem.run_pure]) h
theorem kAssignV (x : Operand) (v : Value) (ho : o.op = .assign x) (hg : Region.wanted o (yielded ops a.tmps) = true) (hx : a.eval x = v) (h : wpList P ops Q rest (a.put o.dst v) w) : wpList P ops Q (o :: rest) a w :=
  kPure v hg (by unfold execOp; simp only [ho, hx, Sem.run_pure]) h
theorem run_eqlBool (T : TypeId) (b c : Bool) (x y : Operand) (ht : P.underlying T = some .bool) : (do eqGuard .eql T x y (.bool b) (.bool c); binOp .eql T (.bool b) (.bool c) : Sem Value).run P w = .ok (.bool (b == c)) w := by
  simp [eqGuard, run_eql_bool w T b c ht]
theorem run_neqBool (T : TypeId) (b c : Bool) (x y : Operand) (ht : P.underlying T = some .bool) : (do eqGuard .neq T x y (.bool b) (.bool c); binOp .neq T (.bool b) (.bool c) : Sem Value).run P w = .ok (.bool (b != c)) w := by
  cases b <;> cases c <;> simp [eqGuard, run_neq_bool w T _ _ ht]
theorem kEqlBool (T T2 : TypeId) (x y : Operand) (b c d : Bool) (ho : o.op = .binOp .eql T x y T2) (hg : Region.wanted o (yielded ops a.tmps) = true) (hx : a.eval x = .bool b) (hy : a.eval y = .bool c) (ht : P.underlying T = some .bool) (hd : (b == c) = d) (h : wpList P ops Q rest (a.put o.dst (.bool d)) w) : wpList P ops Q (o :: rest) a w := by
  subst hd
  refine kPure _ hg ?_ h
  have hr := run_eqlBool (P := P) (w := w) T b c x y ht
  unfold execOp
  simp only [ho, hx, hy]
  rw [Sem.run_bind, hr]; rfl
theorem kNeqBool (T T2 : TypeId) (x y : Operand) (b c d : Bool) (ho : o.op = .binOp .neq T x y T2) (hg : Region.wanted o (yielded ops a.tmps) = true) (hx : a.eval x = .bool b) (hy : a.eval y = .bool c) (ht : P.underlying T = some .bool) (hd : (b != c) = d) (h : wpList P ops Q rest (a.put o.dst (.bool d)) w) : wpList P ops Q (o :: rest) a w := by
  subst hd
  refine kPure _ hg ?_ h
  have hr := run_neqBool (P := P) (w := w) T b c x y ht
  unfold execOp
  simp only [ho, hx, hy]
  rw [Sem.run_bind, hr]; rfl
theorem kSliceToV (T E : TypeId) (x y : Operand) (v : Value) (l : List Value) (k : IntKind) (i : Int) (n : Nat) (ho : o.op = .slice T x none (some y) none) (hg : Region.wanted o (yielded ops a.tmps) = true) (hx : a.eval x = v) (hy : a.eval y = .int k i) (ht : P.underlying T = some (.slice E)) (hsz : (P.info? E).map (·.size) = some 1) (hv : IsVals w v l) (hi : i = (n : Int)) (hn : n ≤ l.length)
    (h : wpList P ops Q rest (a.put o.dst (toV v n)) w) : wpList P ops Q (o :: rest) a w :=
  kPure _ hg (by unfold execOp; simp only [ho, hx, hy, Option.map_some, Option.map_none, Sem.run_bind, run_sliceToV ht hsz hv hi hn, Result.andThen_ok, Sem.run_pure]) h
theorem kSliceFromV (T E : TypeId) (x y : Operand) (v : Value) (l : List Value) (k : IntKind) (i : Int) (n : Nat) (ho : o.op = .slice T x (some y) none none) (hg : Region.wanted o (yielded ops a.tmps) = true) (hx : a.eval x = v) (hy : a.eval y = .int k i) (ht : P.underlying T = some (.slice E)) (hsz : (P.info? E).map (·.size) = some 1) (hv : IsVals w v l) (hi : i = (n : Int)) (hn : n ≤ l.length)
    (h : wpList P ops Q rest (a.put o.dst (fromV v n)) w) : wpList P ops Q (o :: rest) a w :=
  kPure _ hg (by unfold execOp; simp only [ho, hx, hy, Option.map_some, Option.map_none, Sem.run_bind, run_sliceFromV ht hsz hv hi hn, Result.andThen_ok, Sem.run_pure]) h
/-- []byte(text): a new row of these bytes -/
theorem kToBytes (src dst e : TypeId) (x : Operand) (l : List UInt8) (ho : o.op = .convert src dst x) (hg : Region.wanted o (yielded ops a.tmps) = true) (hx : a.eval x = textV l) (hs : P.underlying src = some .string) (hd : P.underlying dst = some (.slice e)) (he : P.underlying e = some (.int .u8))
    (h : ∀ v w1, Below w.heap.size w w1 → IsVals w1 v (l.map VB) → wpList P ops Q rest (a.put o.dst v) w1) : wpList P ops Q (o :: rest) a w := by
  refine BigFrame.wpList_want hg fun K hK => ?_
  unfold Oper.wp execOp
  have hr := run_bytes_of_string (P := P) w src dst e ⟨l.toArray⟩ hs hd he
  have hsz : (⟨l.toArray⟩ : ByteArray).size = l.length := by simp [ByteArray.size]
  rw [hsz] at hr
  have hge := grownCap_ge w l.length 0 e
  simp only [ho, hx, textV, Sem.run_bind, hr, Result.andThen_ok, Sem.run_pure]
  refine hK _ _ (h _ _ ?_ ?_)
  · refine Below.trans (b := w.drew) ⟨rfl, rfl, rfl, Nat.le_refl _, fun _ _ => rfl⟩ ?_
    exact (Below.refl w.drew.heap.size w.drew).alloc (Nat.le_refl _) _
  · refine ⟨some ⟨w.heap.size, 0, none⟩, _, by rw [List.length_map], by rw [List.length_map]; exact hge, (fun h => by cases h), fun j u hu => ⟨_, rfl, ?_⟩⟩
    have hj : j < l.length := by have := (List.getElem?_eq_some_iff.1 hu).1; simpa using this
    rw [add_none, Nat.zero_add]
    have hheap : (w.drew.alloc (.cells (bytesRow ⟨l.toArray⟩ (grownCap w l.length 0 e)) e ((bytesRow ⟨l.toArray⟩ (grownCap w l.length 0 e)).size, (bytesRow ⟨l.toArray⟩ (grownCap w l.length 0 e)).size + 1))).heap[w.heap.size]? = some (.cells (bytesRow ⟨l.toArray⟩ (grownCap w l.length 0 e)) e ((bytesRow ⟨l.toArray⟩ (grownCap w l.length 0 e)).size, (bytesRow ⟨l.toArray⟩ (grownCap w l.length 0 e)).size + 1)) := heap_alloc_new w.drew _
    rw [cell_of_row _ _ _ _ _ _ hheap]
    unfold bytesRow
    rw [Array.getElem?_append_left (by simpa using hj)]
    simp [hj] at hu ⊢
    rw [← hu]; rfl
end
theorem arr_tab (t : Array Value) (n : Nat) (h : t.size = n) : t = tab n fun i => t.getD i undef := by
  apply Array.ext_getElem?
  intro j
  by_cases hj : j < n
  · rw [tab_get _ _ _ hj]; simp [show j < t.size by omega]
  · rw [Array.getElem?_eq_none (by omega), Array.getElem?_eq_none (by rw [tab_size]; omega)]

section
variable {P : Program} {ops : Array Oper} {Q : Exit → Act → World → Prop} {rest : List Oper} {o : Oper} {a : Act} {w : World}
theorem kPick (c x y : Operand) (b : Bool) (v : Value) (ho : o.op = .pick c x y) (hg : Region.wanted o (yielded ops a.tmps) = true) (hc : a.eval c = .bool b) (hv : (if b = true then a.eval x else a.eval y) = v)
    (h : wpList P ops Q rest (a.put o.dst v) w) : wpList P ops Q (o :: rest) a w := by
  subst hv
  refine kPure _ hg ?_ h
  unfold execOp
  simp only [ho, hc, asBool, Sem.run_bind, Sem.run_pure, Result.andThen_ok]
theorem kMin2 (T : TypeId) (x y : Operand) (k k' : IntKind) (b c m : Int) (ho : o.op = .call { callee := .builtin .min, args := #[x, y], argTypes := #[T, T] }) (hg : Region.wanted o (yielded ops a.tmps) = true) (hx : a.eval x = .int k b) (hy : a.eval y = .int k' c) (hm : (if c < b then c else b) = m)
    (h : wpList P ops Q rest (a.put o.dst (.int k m)) w) : wpList P ops Q (o :: rest) a w := by
  subst hm
  exact kPure _ hg (by simp [execOp, ho, resolve, invoke, builtin, hx, hy, run_min_int2]) h
theorem kMax2 (T : TypeId) (x y : Operand) (k k' : IntKind) (b c m : Int) (ho : o.op = .call { callee := .builtin .max, args := #[x, y], argTypes := #[T, T] }) (hg : Region.wanted o (yielded ops a.tmps) = true) (hx : a.eval x = .int k b) (hy : a.eval y = .int k' c) (hm : (if c > b then c else b) = m)
    (h : wpList P ops Q rest (a.put o.dst (.int k m)) w) : wpList P ops Q (o :: rest) a w := by
  subst hm
  exact kPure _ hg (by simp [execOp, ho, resolve, invoke, builtin, hx, hy, run_max_int2]) h
end
end Go.Proofs.Ytdeggdmoijfhdaa

/-
  My kit, sixth part: a drawn region by an invariant, in which some operations write: such a one has no slot, and its predicate speaks of the slot of an operation that it waits for.
-/
namespace Go.Proofs.Ytdeggdmoijfhdaa
open Go Go.RowKit

section
variable {P : Program} {Q : Exit → Act → World → Prop}

/-- the slot of which an operation's predicate speaks -/
def srcOf (l : List Oper) (alt : Nat → Nat) (j : Nat) : Tmp := match l[j]? with
  | some o => (match o.dst with
    | some d => d
    | none => dstOf l (alt j))
  | none => 0
/-- every operation has a slot of its own, inside the frame, or none, and then waits for one that has; what it waits for comes before it -/
def slots2B (l : List Oper) (n : Nat) (alt : Nat → Nat) : Bool :=
  (List.range l.length).all fun i => match l[i]? with
    | some o => (match o.dst with
        | some d => decide (d < n) && (List.range l.length).all fun j => decide (j = i) || (match l[j]? with | some o' => o'.dst != some d | none => true)
        | none => decide (((l[alt i]?).bind (·.dst)).isSome = true) && o.after.any fun e => e.on == alt i && Region.binds .any e) && o.after.all fun e => !Region.binds .any e || decide (e.on < i)
    | none => true

theorem slots2_at {l : List Oper} {n i : Nat} {alt : Nat → Nat} {o : Oper} (h : slots2B l n alt = true) (hi : l[i]? = some o) :
    (∀ d, o.dst = some d → d < n ∧ ∀ j o', l[j]? = some o' → j ≠ i → o'.dst ≠ some d) ∧ (o.dst = none → (∃ oa d, l[alt i]? = some oa ∧ oa.dst = some d) ∧ ∃ e ∈ o.after, Region.binds .any e = true ∧ e.on = alt i) ∧ ∀ e ∈ o.after, Region.binds .any e = true → e.on < i := by
  have hlt : i < l.length := (List.getElem?_eq_some_iff.1 hi).1
  have h1 := List.all_eq_true.1 h i (List.mem_range.2 hlt)
  simp only [hi, Bool.and_eq_true] at h1
  obtain ⟨h2, h3⟩ := h1
  refine ⟨fun d hd => ?_, fun hd => ?_, fun ed he hb => ?_⟩
  · rw [hd] at h2
    simp only [Bool.and_eq_true, decide_eq_true_eq] at h2
    refine ⟨h2.1, fun j o' hj hne => ?_⟩
    have hjl : j < l.length := (List.getElem?_eq_some_iff.1 hj).1
    have h4 := List.all_eq_true.1 h2.2 j (List.mem_range.2 hjl)
    simp only [hj, Bool.or_eq_true, decide_eq_true_eq] at h4
    rcases h4 with h4 | h4
    · exact absurd h4 hne
    · simpa using h4
  · rw [hd] at h2
    simp only [Bool.and_eq_true, decide_eq_true_eq] at h2
    obtain ⟨h4, h5⟩ := h2
    constructor
    · cases ho : l[alt i]? with
      | none => rw [ho] at h4; cases h4
      | some oa =>
        rw [ho] at h4
        cases hd2 : oa.dst with
        | none => simp [hd2] at h4
        | some d => exact ⟨oa, d, rfl, hd2⟩
    · obtain ⟨e, he, h6⟩ := Array.any_eq_true'.1 h5
      simp only [Bool.and_eq_true, beq_iff_eq] at h6
      exact ⟨e, he, h6.2, h6.1⟩
  · have h4 := (Array.all_eq_true'.1 h3) ed he
    simpa [hb] using h4

structure Midst2 (l : List Oper) (alt : Nat → Nat) (Pr : Nat → World → Value → Prop) (a0 : Act) (w0 : World) (listed : Array Bool) (a : Act) (w : World) : Prop where
  size : a.tmps.size = a0.tmps.size
  defers : a.defers = a0.defers
  below : Below w0.heap.size w0 w
  other : ∀ s, (∀ (j : Nat) o, l[j]? = some o → o.dst ≠ some s) → a.tmps.getD s undef = a0.tmps.getD s undef
  closed : ∀ (j : Nat) o, l[j]? = some o → listed.getD j false = true → ∀ e ∈ o.after, Region.binds .any e = true → listed.getD e.on false = true
  done : ∀ j, j < l.length → listed.getD j false = true → Pr j w (a.tmps.getD (srcOf l alt j) undef)

theorem getD_set_true {listed : Array Bool} {i j : Nat} (h : listed.getD j false = true) : (listed.setIfInBounds i true).getD j false = true := by
  by_cases hij : i = j
  · subst hij
    have hlt : i < listed.size := by
      rcases Nat.lt_or_ge i listed.size with h' | h'
      · exact h'
      · simp [Array.getElem?_eq_none h'] at h
    simp [hlt]
  · rw [getD_set_ne false hij]; exact h

theorem midst2_any {l : List Oper} {alt : Nat → Nat} {Pr : Nat → World → Value → Prop} {a0 : Act} {w0 : World} (hB : slots2B l a0.tmps.size alt = true)
    (hstep : ∀ i o, l[i]? = some o → ∀ a w, a.tmps.size = a0.tmps.size → (∀ s, (∀ (j : Nat) o, l[j]? = some o → o.dst ≠ some s) → a.tmps.getD s undef = a0.tmps.getD s undef) → Below w0.heap.size w0 w →
      (∀ e ∈ o.after, Region.binds .any e = true → Pr e.on w (a.tmps.getD (srcOf l alt e.on) undef)) →
      wpList P l.toArray (Exit.then (fun a' w' => ∃ v, a' = a.put o.dst v ∧ Below w0.heap.size w0 w' ∧ (∀ j u, Pr j w u → Pr j w' u) ∧ Pr i w' (a'.tmps.getD (srcOf l alt i) undef)) (NoPanic Q)) [o] a w)
    (hfin : ∀ a w, a.tmps.size = a0.tmps.size → a.defers = a0.defers → Below w0.heap.size w0 w → (∀ s, (∀ (j : Nat) o, l[j]? = some o → o.dst ≠ some s) → a.tmps.getD s undef = a0.tmps.getD s undef) → (∀ j, j < l.length → Pr j w (a.tmps.getD (srcOf l alt j) undef)) → Q .normal a w) :
    ∀ (f : Nat) (listed : Array Bool) (a : Act) (w : World), listed.size = l.length → listed.toList.count false = f → Midst2 l alt Pr a0 w0 listed a w → wpAny P .any l.toArray Q f listed a w := by
  have hend : ∀ (listed : Array Bool) (a : Act) (w : World), listed.size = l.length → Midst2 l alt Pr a0 w0 listed a w → Region.ready .any l.toArray listed = [] → Q .normal a w := by
    intro listed a w hsz hM hr
    have hall : ∀ n j, j < n → j < l.length → listed.getD j false = true := by
      intro n
      induction n with
      | zero => intro j hj; omega
      | succ n ih =>
        intro j hj hjl
        by_cases hjn : j < n
        · exact ih j hjn hjl
        · obtain rfl : j = n := by omega
          cases hb : listed.getD j false
          · have hun : listed.getD j true = false := getD_in (by omega) hb
            obtain ⟨o, ho⟩ : ∃ o, l[j]? = some o := ⟨l[j], List.getElem?_eq_getElem hjl⟩
            have hmem : j ∈ Region.ready .any l.toArray listed := mem_ready.2 ⟨hun, o, by simpa using ho, fun e he hbd => by
              have := (slots2_at hB ho).2.2 e he hbd
              exact ih e.on this (by omega)⟩
            rw [hr] at hmem; cases hmem
          · rfl
    exact hfin a w hM.size hM.defers hM.below hM.other fun j hj => hM.done j hj (hall (j + 1) j (by omega) hj)
  intro f
  induction f with
  | zero =>
    intro listed a w hsz hc hM
    have hr : Region.ready .any l.toArray listed = [] := by
      rw [List.eq_nil_iff_forall_not_mem]
      intro i hi
      have h1 := count_set (mem_ready.1 hi).1
      omega
    exact ⟨hr, hend listed a w hsz hM hr⟩
  | succ f ih =>
    intro listed a w hsz hc hM
    refine ⟨fun hr => hend listed a w hsz hM hr, fun i hi => ?_⟩
    obtain ⟨hun, o, ho, hdeps⟩ := mem_ready.1 hi
    have ho' : l[i]? = some o := by simpa using ho
    have hil : i < l.length := (List.getElem?_eq_some_iff.1 ho').1
    obtain ⟨hdist, hnone, hbef⟩ := slots2_at hB ho'
    have hun' : listed.getD i false = false := by
      cases hb : listed.getD i false
      · rfl
      · have := getD_both hun; rw [hb] at this; exact this
    have h1 := hstep i o ho' a w hM.size hM.other hM.below fun e he hb => hM.done e.on (by have := hbef e he hb; omega) (hdeps e he hb)
    refine wpOp_noPanic (wpOp_mono (fun a' w' ⟨v, ha, hbw, hkeep, hp⟩ => ?_) (wpOp_of_list ho h1))
    subst ha
    refine ih _ _ _ (by simpa using hsz) (by have := count_set hun; omega) ⟨?_, ?_, hbw, fun s hs => ?_, fun j oj hoj hl e he hbd => ?_, fun j hj hl => ?_⟩
    · cases hd : o.dst <;> simp [Act.put, hM.size]
    · cases hd : o.dst <;> simp [Act.put, hM.defers]
    · cases hd : o.dst with
      | none => exact hM.other s hs
      | some d =>
        rw [put_get (by rw [hM.size]; exact (hdist d hd).1), if_neg (fun e => hs i o ho' (by rw [hd, e]))]
        exact hM.other s hs
    · by_cases hji : j = i
      · subst hji
        obtain rfl : oj = o := Option.some.inj (hoj.symm.trans ho')
        exact getD_set_true (hdeps e he hbd)
      · rw [getD_set_ne false (Ne.symm hji)] at hl
        exact getD_set_true (hM.closed j oj hoj hl e he hbd)
    · by_cases hji : j = i
      · subst hji; exact hp
      · rw [getD_set_ne false (Ne.symm hji)] at hl
        have hold := hM.done j hj hl
        have hne : ∀ d, o.dst = some d → srcOf l alt j ≠ d := by
          intro d hd
          obtain ⟨oj, hoj⟩ : ∃ o, l[j]? = some o := ⟨l[j], List.getElem?_eq_getElem hj⟩
          cases hdj : oj.dst with
          | some dj =>
            have esrc : srcOf l alt j = dj := by unfold srcOf; simp [hoj, hdj]
            rw [esrc]
            intro e
            exact (hdist d hd).2 j oj hoj hji (by rw [hdj]; exact congrArg some e)
          | none =>
            obtain ⟨⟨oa, da, hoa, hda⟩, e, he, hbd, hon⟩ := (slots2_at hB hoj).2.1 hdj
            have hlk := hM.closed j oj hoj hl e he hbd
            rw [hon] at hlk
            have hki : alt j ≠ i := fun e2 => by rw [e2, hun'] at hlk; cases hlk
            have ed : dstOf l (alt j) = da := by unfold dstOf; rw [hoa]; simp [hda]
            have esrc : srcOf l alt j = dstOf l (alt j) := by unfold srcOf; simp [hoj, hdj]
            rw [esrc, ed]
            intro e2
            exact (hdist d hd).2 (alt j) oa hoa hki (by rw [hda, e2])
        have e1 : (a.put o.dst v).tmps.getD (srcOf l alt j) undef = a.tmps.getD (srcOf l alt j) undef := by
          cases hd : o.dst with
          | none => rfl
          | some d => rw [put_get (by rw [hM.size]; exact (hdist d hd).1), if_neg (hne d hd)]
        rw [e1]
        exact hkeep j _ hold

/-- A REGION THAT DRAWS ITS ORDER, BY AN INVARIANT; some of its operations write. -/
theorem region_inv2 {id : Nat} {a0 : Act} {w0 : World} {l : List Oper} (alt : Nat → Nat) (Pr : Nat → World → Value → Prop) (hm : P.follows .mixedOrders = true) (hB : slots2B l a0.tmps.size alt = true)
    (hstep : ∀ i o, l[i]? = some o → ∀ a w, a.tmps.size = a0.tmps.size → (∀ s, (∀ (j : Nat) o, l[j]? = some o → o.dst ≠ some s) → a.tmps.getD s undef = a0.tmps.getD s undef) → Below w0.heap.size w0 w →
      (∀ e ∈ o.after, Region.binds .any e = true → Pr e.on w (a.tmps.getD (srcOf l alt e.on) undef)) →
      wpList P l.toArray (Exit.then (fun a' w' => ∃ v, a' = a.put o.dst v ∧ Below w0.heap.size w0 w' ∧ (∀ j u, Pr j w u → Pr j w' u) ∧ Pr i w' (a'.tmps.getD (srcOf l alt i) undef)) (NoPanic Q)) [o] a w)
    (hfin : ∀ a w, a.tmps.size = a0.tmps.size → a.defers = a0.defers → Below w0.heap.size w0 w → (∀ s, (∀ (j : Nat) o, l[j]? = some o → o.dst ≠ some s) → a.tmps.getD s undef = a0.tmps.getD s undef) → (∀ j, j < l.length → Pr j w (a.tmps.getD (srcOf l alt j) undef)) → Q .normal a w) :
    (Code.region id l.toArray true).wp P Q a0 w0 := by
  refine wp_region_any hm ?_
  have hs : l.toArray.size = l.length := by simp
  refine midst2_any (w0 := w0) hB hstep hfin _ _ _ _ (by simp) ?_ ⟨rfl, rfl, ⟨rfl, rfl, rfl, Nat.le_refl _, fun _ _ => rfl⟩, fun _ _ => rfl, fun j o _ h => ?_, fun j _ h => ?_⟩
  · simp
  · rw [getD_replicate_false] at h; cases h
  · rw [getD_replicate_false] at h; cases h
end

theorem free2_of {l : List Oper} {s : Tmp} (h : (l.all fun o => o.dst != some s) = true) : ∀ (j : Nat) o, l[j]? = some o → o.dst ≠ some s := fun j o hj => by
  have := List.all_eq_true.1 h o (List.mem_of_getElem? hj)
  simpa using this
/-- the end of a step that yields a value into its own slot -/
theorem stepV {l : List Oper} {alt : Nat → Nat} {Pr : Nat → World → Value → Prop} {a0 a : Act} {w0 w w' : World} {o : Oper} {i d : Nat} {v : Value} {Q : Exit → Act → World → Prop} {P : Program} (hmono : ∀ j w w' u, Below w.heap.size w w' → Pr j w u → Pr j w' u) (hbel : Below w0.heap.size w0 w) (hsz : a.tmps.size = a0.tmps.size) (hd : o.dst = some d) (hs : srcOf l alt i = d) (hdn : d < a0.tmps.size) (hB : Below w.heap.size w w') (hp : Pr i w' v) :
    wpList P l.toArray (Exit.then (fun a' w' => ∃ v, a' = a.put o.dst v ∧ Below w0.heap.size w0 w' ∧ (∀ j u, Pr j w u → Pr j w' u) ∧ Pr i w' (a'.tmps.getD (srcOf l alt i) undef)) (NoPanic Q)) [] (a.put o.dst v) w' := by
  refine mixOn ⟨v, rfl, hbel.trans (hB.mono hbel.size), fun j u h => hmono j w w' u hB h, ?_⟩
  rw [hd, put_get (by rw [hsz]; exact hdn), hs, if_pos rfl]
  exact hp

section
variable {P : Program} {ops : Array Oper} {Q : Exit → Act → World → Prop} {rest : List Oper} {o : Oper} {a : Act} {w : World}
theorem kCall2 (f : FuncId) (Ts : Array TypeId) (x y : Operand) (u t : Value) (ho : o.op = .call { callee := .value (.func f), args := #[x, y], argTypes := Ts }) (hg : Region.wanted o (yielded ops a.tmps) = true) (hf : bodied P f = true) (hx : a.eval x = u) (hy : a.eval y = t)
    (hc : Calls P f #[u, t] w fun e w' => ∃ v, e = .returned v ∧ wpList P ops Q rest (a.put o.dst v) w') : wpList P ops Q (o :: rest) a w := by
  refine BigFrame.wpList_want hg fun K hK => ?_
  have hrun : (execOp a.eval o).run P w = .ok (.enter f #[u, t]) w := by
    have hff : a.eval (.func f) = .func (.func f) #[] #[] := rfl
    unfold execOp
    simp only [ho, resolve, List.map_toArray, List.map_cons, List.map_nil, hx, hy, hff, Deferred.ofValue, Sem.run_bind, Sem.run_pure, Result.andThen_ok, invoke]
    simpa using run_callFunc_bodied hf #[u, t] w
  unfold Oper.wp
  rw [hrun, Oper.upon_enter]
  exact hc.mono fun e w' ⟨v, he, h⟩ => by subst he; exact hK _ _ h
theorem kExtract (x : Operand) (i : Nat) (vs : Array Value) (v : Value) (ho : o.op = .extract x i) (hg : Region.wanted o (yielded ops a.tmps) = true) (hx : a.eval x = .tuple vs) (hv : vs[i]? = some v)
    (h : wpList P ops Q rest (a.put o.dst v) w) : wpList P ops Q (o :: rest) a w :=
  kPure _ hg (by unfold execOp; simp [ho, hx, Instr.extract, hv]) h
end
end Go.Proofs.Ytdeggdmoijfhdaa

/-
  My kit, seventh part: a drawn region by an invariant, with a fact on the whole frame beside the predicates (two new variables are apart).
-/
namespace Go.Proofs.Ytdeggdmoijfhdaa
open Go Go.RowKit

section
variable {P : Program} {Q : Exit → Act → World → Prop}

structure Midst3 (l : List Oper) (alt : Nat → Nat) (Pr : Nat → World → Value → Prop) (X : Act → World → Prop) (a0 : Act) (w0 : World) (listed : Array Bool) (a : Act) (w : World) : Prop where
  size : a.tmps.size = a0.tmps.size
  defers : a.defers = a0.defers
  below : Below w0.heap.size w0 w
  other : ∀ s, (∀ (j : Nat) o, l[j]? = some o → o.dst ≠ some s) → a.tmps.getD s undef = a0.tmps.getD s undef
  closed : ∀ (j : Nat) o, l[j]? = some o → listed.getD j false = true → ∀ e ∈ o.after, Region.binds .any e = true → listed.getD e.on false = true
  extra : X a w
  done : ∀ j, j < l.length → listed.getD j false = true → Pr j w (a.tmps.getD (srcOf l alt j) undef)

theorem midst3_any {l : List Oper} {alt : Nat → Nat} {Pr : Nat → World → Value → Prop} {X : Act → World → Prop} {a0 : Act} {w0 : World} (hB : slots2B l a0.tmps.size alt = true)
    (hstep : ∀ i o, l[i]? = some o → ∀ a w, a.tmps.size = a0.tmps.size → (∀ s, (∀ (j : Nat) o, l[j]? = some o → o.dst ≠ some s) → a.tmps.getD s undef = a0.tmps.getD s undef) → Below w0.heap.size w0 w → X a w →
      (∀ e ∈ o.after, Region.binds .any e = true → Pr e.on w (a.tmps.getD (srcOf l alt e.on) undef)) →
      wpList P l.toArray (Exit.then (fun a' w' => ∃ v, a' = a.put o.dst v ∧ Below w0.heap.size w0 w' ∧ (∀ j, j < l.length → Pr j w (a.tmps.getD (srcOf l alt j) undef) → Pr j w' (a.tmps.getD (srcOf l alt j) undef)) ∧ X a' w' ∧ Pr i w' (a'.tmps.getD (srcOf l alt i) undef)) (NoPanic Q)) [o] a w)
    (hfin : ∀ a w, a.tmps.size = a0.tmps.size → a.defers = a0.defers → Below w0.heap.size w0 w → X a w → (∀ s, (∀ (j : Nat) o, l[j]? = some o → o.dst ≠ some s) → a.tmps.getD s undef = a0.tmps.getD s undef) → (∀ j, j < l.length → Pr j w (a.tmps.getD (srcOf l alt j) undef)) → Q .normal a w) :
    ∀ (f : Nat) (listed : Array Bool) (a : Act) (w : World), listed.size = l.length → listed.toList.count false = f → Midst3 l alt Pr X a0 w0 listed a w → wpAny P .any l.toArray Q f listed a w := by
  have hend : ∀ (listed : Array Bool) (a : Act) (w : World), listed.size = l.length → Midst3 l alt Pr X a0 w0 listed a w → Region.ready .any l.toArray listed = [] → Q .normal a w := by
    intro listed a w hsz hM hr
    have hall : ∀ n j, j < n → j < l.length → listed.getD j false = true := by
      intro n
      induction n with
      | zero => intro j hj; omega
      | succ n ih =>
        intro j hj hjl
        by_cases hjn : j < n
        · exact ih j hjn hjl
        · obtain rfl : j = n := by omega
          cases hb : listed.getD j false
          · have hun : listed.getD j true = false := getD_in (by omega) hb
            obtain ⟨o, ho⟩ : ∃ o, l[j]? = some o := ⟨l[j], List.getElem?_eq_getElem hjl⟩
            have hmem : j ∈ Region.ready .any l.toArray listed := mem_ready.2 ⟨hun, o, by simpa using ho, fun e he hbd => by
              have := (slots2_at hB ho).2.2 e he hbd
              exact ih e.on this (by omega)⟩
            rw [hr] at hmem; cases hmem
          · rfl
    exact hfin a w hM.size hM.defers hM.below hM.extra hM.other fun j hj => hM.done j hj (hall (j + 1) j (by omega) hj)
  intro f
  induction f with
  | zero =>
    intro listed a w hsz hc hM
    have hr : Region.ready .any l.toArray listed = [] := by
      rw [List.eq_nil_iff_forall_not_mem]
      intro i hi
      have h1 := count_set (mem_ready.1 hi).1
      omega
    exact ⟨hr, hend listed a w hsz hM hr⟩
  | succ f ih =>
    intro listed a w hsz hc hM
    refine ⟨fun hr => hend listed a w hsz hM hr, fun i hi => ?_⟩
    obtain ⟨hun, o, ho, hdeps⟩ := mem_ready.1 hi
    have ho' : l[i]? = some o := by simpa using ho
    have hil : i < l.length := (List.getElem?_eq_some_iff.1 ho').1
    obtain ⟨hdist, hnone, hbef⟩ := slots2_at hB ho'
    have hun' : listed.getD i false = false := by
      cases hb : listed.getD i false
      · rfl
      · have := getD_both hun; rw [hb] at this; exact this
    have h1 := hstep i o ho' a w hM.size hM.other hM.below hM.extra fun e he hb => hM.done e.on (by have := hbef e he hb; omega) (hdeps e he hb)
    refine wpOp_noPanic (wpOp_mono (fun a' w' ⟨v, ha, hbw, hkeep, hx, hp⟩ => ?_) (wpOp_of_list ho h1))
    subst ha
    refine ih _ _ _ (by simpa using hsz) (by have := count_set hun; omega) ⟨?_, ?_, hbw, fun s hs => ?_, fun j oj hoj hl e he hbd => ?_, hx, fun j hj hl => ?_⟩
    · cases hd : o.dst <;> simp [Act.put, hM.size]
    · cases hd : o.dst <;> simp [Act.put, hM.defers]
    · cases hd : o.dst with
      | none => exact hM.other s hs
      | some d =>
        rw [put_get (by rw [hM.size]; exact (hdist d hd).1), if_neg (fun e => hs i o ho' (by rw [hd, e]))]
        exact hM.other s hs
    · by_cases hji : j = i
      · subst hji
        obtain rfl : oj = o := Option.some.inj (hoj.symm.trans ho')
        exact getD_set_true (hdeps e he hbd)
      · rw [getD_set_ne false (Ne.symm hji)] at hl
        exact getD_set_true (hM.closed j oj hoj hl e he hbd)
    · by_cases hji : j = i
      · subst hji; exact hp
      · rw [getD_set_ne false (Ne.symm hji)] at hl
        have hold := hM.done j hj hl
        have hne : ∀ d, o.dst = some d → srcOf l alt j ≠ d := by
          intro d hd
          obtain ⟨oj, hoj⟩ : ∃ o, l[j]? = some o := ⟨l[j], List.getElem?_eq_getElem hj⟩
          cases hdj : oj.dst with
          | some dj =>
            have esrc : srcOf l alt j = dj := by unfold srcOf; simp [hoj, hdj]
            rw [esrc]
            intro e
            exact (hdist d hd).2 j oj hoj hji (by rw [hdj]; exact congrArg some e)
          | none =>
            obtain ⟨⟨oa, da, hoa, hda⟩, e, he, hbd, hon⟩ := (slots2_at hB hoj).2.1 hdj
            have hlk := hM.closed j oj hoj hl e he hbd
            rw [hon] at hlk
            have hki : alt j ≠ i := fun e2 => by rw [e2, hun'] at hlk; cases hlk
            have ed : dstOf l (alt j) = da := by unfold dstOf; rw [hoa]; simp [hda]
            have esrc : srcOf l alt j = dstOf l (alt j) := by unfold srcOf; simp [hoj, hdj]
            rw [esrc, ed]
            intro e2
            exact (hdist d hd).2 (alt j) oa hoa hki (by rw [hda, e2])
        have e1 : (a.put o.dst v).tmps.getD (srcOf l alt j) undef = a.tmps.getD (srcOf l alt j) undef := by
          cases hd : o.dst with
          | none => rfl
          | some d => rw [put_get (by rw [hM.size]; exact (hdist d hd).1), if_neg (hne d hd)]
        rw [e1]
        exact hkeep j hj hold

/-- A REGION THAT DRAWS ITS ORDER, BY AN INVARIANT; some of its operations write. -/
theorem region_inv3 {id : Nat} {a0 : Act} {w0 : World} {l : List Oper} (alt : Nat → Nat) (Pr : Nat → World → Value → Prop) (X : Act → World → Prop) (hx0 : ∀ w, Below w0.heap.size w0 w → X a0 w) (hm : P.follows .mixedOrders = true) (hB : slots2B l a0.tmps.size alt = true)
    (hstep : ∀ i o, l[i]? = some o → ∀ a w, a.tmps.size = a0.tmps.size → (∀ s, (∀ (j : Nat) o, l[j]? = some o → o.dst ≠ some s) → a.tmps.getD s undef = a0.tmps.getD s undef) → Below w0.heap.size w0 w → X a w →
      (∀ e ∈ o.after, Region.binds .any e = true → Pr e.on w (a.tmps.getD (srcOf l alt e.on) undef)) →
      wpList P l.toArray (Exit.then (fun a' w' => ∃ v, a' = a.put o.dst v ∧ Below w0.heap.size w0 w' ∧ (∀ j, j < l.length → Pr j w (a.tmps.getD (srcOf l alt j) undef) → Pr j w' (a.tmps.getD (srcOf l alt j) undef)) ∧ X a' w' ∧ Pr i w' (a'.tmps.getD (srcOf l alt i) undef)) (NoPanic Q)) [o] a w)
    (hfin : ∀ a w, a.tmps.size = a0.tmps.size → a.defers = a0.defers → Below w0.heap.size w0 w → X a w → (∀ s, (∀ (j : Nat) o, l[j]? = some o → o.dst ≠ some s) → a.tmps.getD s undef = a0.tmps.getD s undef) → (∀ j, j < l.length → Pr j w (a.tmps.getD (srcOf l alt j) undef)) → Q .normal a w) :
    (Code.region id l.toArray true).wp P Q a0 w0 := by
  refine wp_region_any hm ?_
  have hs : l.toArray.size = l.length := by simp
  refine midst3_any (w0 := w0) hB hstep hfin _ _ _ _ (by simp) ?_ ⟨rfl, rfl, ⟨rfl, rfl, rfl, Nat.le_refl _, fun _ _ => rfl⟩, fun _ _ => rfl, fun j o _ h => ?_, hx0 _ ⟨rfl, rfl, rfl, Nat.le_refl _, fun _ _ => rfl⟩, fun j _ h => ?_⟩
  · simp
  · rw [getD_replicate_false] at h; cases h
  · rw [getD_replicate_false] at h; cases h
end


/-- two slots point to blocks that are there, and to two -/
def Apart2 (s t : Tmp) (a : Act) (w : World) : Prop :=
  (∀ g, a.tmps.getD s undef = .pointer (some ⟨g, 0, none⟩) → g < w.heap.size) ∧ (∀ g, a.tmps.getD t undef = .pointer (some ⟨g, 0, none⟩) → g < w.heap.size) ∧ ∀ g, a.tmps.getD s undef = .pointer (some ⟨g, 0, none⟩) → a.tmps.getD t undef = .pointer (some ⟨g, 0, none⟩) → False
theorem apart2_start {s t : Tmp} {a : Act} {w : World} (hs : a.tmps.getD s undef = undef) (ht : a.tmps.getD t undef = undef) : Apart2 s t a w :=
  ⟨fun g h => (by rw [hs] at h; cases h), fun g h => (by rw [ht] at h; cases h), fun g h => (by rw [hs] at h; cases h)⟩
theorem Apart2.step {s t : Tmp} {a a' : Act} {w w' : World} (h : Apart2 s t a w) (hs : a'.tmps.getD s undef = a.tmps.getD s undef) (ht : a'.tmps.getD t undef = a.tmps.getD t undef) (hz : w.heap.size ≤ w'.heap.size) : Apart2 s t a' w' := by
  obtain ⟨h1, h2, h3⟩ := h
  refine ⟨fun g hg => ?_, fun g hg => ?_, fun g hg hg2 => ?_⟩
  · rw [hs] at hg; exact Nat.lt_of_lt_of_le (h1 g hg) hz
  · rw [ht] at hg; exact Nat.lt_of_lt_of_le (h2 g hg) hz
  · rw [hs] at hg; rw [ht] at hg2; exact h3 g hg hg2
theorem Apart2.newL {s t : Tmp} {a a' : Act} {w w' : World} (h : Apart2 s t a w) (hs : a'.tmps.getD s undef = .pointer (some ⟨w.heap.size, 0, none⟩)) (ht : a'.tmps.getD t undef = a.tmps.getD t undef) (hz : w.heap.size < w'.heap.size) : Apart2 s t a' w' := by
  obtain ⟨h1, h2, h3⟩ := h
  refine ⟨fun g hg => ?_, fun g hg => ?_, fun g hg hg2 => ?_⟩
  · rw [hs] at hg; simp at hg; omega
  · rw [ht] at hg; exact Nat.lt_trans (h2 g hg) hz
  · rw [hs] at hg; rw [ht] at hg2; cases hg; exact Nat.lt_irrefl _ (h2 _ hg2)
theorem Apart2.newR {s t : Tmp} {a a' : Act} {w w' : World} (h : Apart2 s t a w) (hs : a'.tmps.getD s undef = a.tmps.getD s undef) (ht : a'.tmps.getD t undef = .pointer (some ⟨w.heap.size, 0, none⟩)) (hz : w.heap.size < w'.heap.size) : Apart2 s t a' w' := by
  obtain ⟨h1, h2, h3⟩ := h
  refine ⟨fun g hg => ?_, fun g hg => ?_, fun g hg hg2 => ?_⟩
  · rw [hs] at hg; exact Nat.lt_trans (h1 g hg) hz
  · rw [ht] at hg; simp at hg; omega
  · rw [hs] at hg; rw [ht] at hg2; cases hg2; exact Nat.lt_irrefl _ (h1 _ hg)
/-- the end of a step that yields a value into its own slot, which is none of the two -/
theorem stepX {l : List Oper} {alt : Nat → Nat} {Pr : Nat → World → Value → Prop} {s t : Tmp} {a0 a : Act} {w0 w w' : World} {o : Oper} {i d : Nat} {v : Value} {Q : Exit → Act → World → Prop} {P : Program} (hmono : ∀ j w w' u, Below w.heap.size w w' → Pr j w u → Pr j w' u) (hbel : Below w0.heap.size w0 w) (hX : Apart2 s t a w) (hsz : a.tmps.size = a0.tmps.size) (hd : o.dst = some d) (hs : srcOf l alt i = d) (hdn : d < a0.tmps.size) (hds : s ≠ d) (hdt : t ≠ d) (hB : Below w.heap.size w w') (hp : Pr i w' v) :
    wpList P l.toArray (Exit.then (fun a' w' => ∃ v, a' = a.put o.dst v ∧ Below w0.heap.size w0 w' ∧ (∀ j, j < l.length → Pr j w (a.tmps.getD (srcOf l alt j) undef) → Pr j w' (a.tmps.getD (srcOf l alt j) undef)) ∧ Apart2 s t a' w' ∧ Pr i w' (a'.tmps.getD (srcOf l alt i) undef)) (NoPanic Q)) [] (a.put o.dst v) w' := by
  refine mixOn ⟨v, rfl, hbel.trans (hB.mono hbel.size), fun j _ h => hmono j w w' _ hB h, hX.step ?_ ?_ hB.size, ?_⟩
  · rw [hd, put_get (by rw [hsz]; exact hdn), if_neg hds]
  · rw [hd, put_get (by rw [hsz]; exact hdn), if_neg hdt]
  · rw [hd, put_get (by rw [hsz]; exact hdn), hs, if_pos rfl]; exact hp
end Go.Proofs.Ytdeggdmoijfhdaa

/-
  My kit: general laws of steps (a call that yields here and now, new variables of whose place no equation is told, arrays and slices in drawn regions), over whatever program.
-/
namespace Go.Proofs.Ytdeggdmoijfhdaa
open Go Go.RowKit

section
variable {P : Program} {ops : Array Oper} {S : World → Prop} {Q : Exit → Act → World → Prop} {L : Act → World → Prop} {bs : List Bool} {o : Oper} {rest : List Oper} {a : Act} {w : World}
/-- a call that yields its value here and now -/
theorem exec_call3 {f : FuncId} {x y z : Operand} {Ts : Array TypeId} {u v t r : Value} (ho : o.op = .call { callee := .value (.func f), args := #[x, y, z], argTypes := Ts }) (hx : a.eval x = u) (hy : a.eval y = v) (hz : a.eval z = t)
    (hr : (callFunc f #[u, v, t]).run P w = .ok (.value r) w) : (execOp a.eval o).run P w = .ok (.value r) w := by
  have hff : a.eval (.func f) = .func (.func f) #[] #[] := rfl
  unfold execOp
  simp only [ho, resolve, List.map_toArray, List.map_cons, List.map_nil, hx, hy, hz, hff, Deferred.ofValue, Sem.run_bind, Sem.run_pure, Result.andThen_ok, invoke]
  simpa using hr
theorem kCallV3 (f : FuncId) (x y z : Operand) (Ts : Array TypeId) (u v t r : Value) (ho : o.op = .call { callee := .value (.func f), args := #[x, y, z], argTypes := Ts }) (hg : Region.wanted o (yielded ops a.tmps) = true) (hx : a.eval x = u) (hy : a.eval y = v) (hz : a.eval z = t)
    (hr : (callFunc f #[u, v, t]).run P w = .ok (.value r) w) (h : wpList P ops Q rest (a.put o.dst r) w) : wpList P ops Q (o :: rest) a w := by
  refine BigFrame.wpList_want hg fun K hK => ?_
  unfold Oper.wp
  rw [exec_call3 ho hx hy hz hr]
  exact hK _ _ h
theorem mixCallV3 (f : FuncId) (x y z : Operand) (Ts : Array TypeId) (u v t r : Value) (hS : S w) (ho : o.op = .call { callee := .value (.func f), args := #[x, y, z], argTypes := Ts }) (hg : Region.wanted o (yielded ops a.tmps) = true) (hx : a.eval x = u) (hy : a.eval y = v) (hz : a.eval z = t)
    (hr : ∀ w, (callFunc f #[u, v, t]).run P w = .ok (.value r) w) (h : wpMix P ops Q S L bs rest (a.put o.dst r) w) : wpMix P ops Q S L (true :: bs) (o :: rest) a w :=
  mixQuiet _ hS hg (fun w _ => exec_call3 ho hx hy hz (hr w)) h
theorem mixIndexAddr1 (T elem : TypeId) (x y : Operand) (k : IntKind) (g : Nat) (i : Int) (j len : Nat) (hS : S w) (ho : o.op = .indexAddr T x y) (hg : Region.wanted o (yielded ops a.tmps) = true)
    (hx : a.eval x = .pointer (some ⟨g, 0, none⟩)) (hy : a.eval y = .int k i) (hu : P.underlying T = some (.array len elem))
    (hs : (P.info? elem).map (·.size) = some 1) (hi : i = (j : Int)) (hj : j < len)
    (h : wpMix P ops Q S L bs rest (a.put o.dst (.pointer (some ⟨g, j, none⟩))) w) : wpMix P ops Q S L (true :: bs) (o :: rest) a w := by
  refine mixQuiet _ hS hg (fun w _ => ?_) h
  subst hi
  unfold execOp
  cases hq : P.info? elem with
  | none => simp [hq] at hs
  | some t =>
    have hs' : t.size = 1 := by simpa [hq] using hs
    have hc : (0 : Int) ≤ (j : Int) ∧ (j : Int) < (len : Int) := by omega
    simp only [ho, hx, hy]
    simp [Instr.indexAt, asIntOf, run_underlying hu, hc, Instr.sureAddr, sizeOf, typeInfo, hq, hs', add_none]
    omega
theorem mixLoad1 (T U : TypeId) (x : Operand) (g off : Nat) (cs : Array Value) (v : Value) (d : TypeDesc) (hS : S w) (ho : o.op = .load T x) (hg : Region.wanted o (yielded ops a.tmps) = true)
    (hx : a.eval x = .pointer (some ⟨g, off, none⟩)) (hr : ∀ w, S w → Row w g U cs) (hu : P.underlying T = some d) (hd : aggDesc d = false) (hv : cs[off]? = some v)
    (h : wpMix P ops Q S L bs rest (a.put o.dst v) w) : wpMix P ops Q S L (true :: bs) (o :: rest) a w := by
  refine mixQuiet _ hS hg (fun w hw => ?_) h
  unfold execOp
  simp only [ho, hx, Instr.loadAt, Instr.sureAddr, Sem.run_bind, Sem.run_pure, Result.andThen_ok, run_load1 (hr w hw) hu hd hv]
theorem mixExtract (x : Operand) (i : Nat) (vs : Array Value) (v : Value) (hS : S w) (ho : o.op = .extract x i) (hg : Region.wanted o (yielded ops a.tmps) = true) (hx : a.eval x = .tuple vs) (hv : vs[i]? = some v)
    (h : wpMix P ops Q S L bs rest (a.put o.dst v) w) : wpMix P ops Q S L (true :: bs) (o :: rest) a w := by
  refine mixQuiet _ hS hg (fun w _ => ?_) h
  unfold execOp
  simp [ho, hx, Instr.extract, hv]
end

section
variable {P : Program} {ops : Array Oper} {Q : Exit → Act → World → Prop} {rest : List Oper} {o : Oper} {a : Act} {w : World}
/-- a new variable, of whose place no equation is told -/
theorem kAllocL (T : TypeId) (Z : Array Value) (ho : o.op = .alloc T) (hg : Region.wanted o (yielded ops a.tmps) = true) (hz : ((P.info? T).bind (·.zero)).map Value.cells = some Z)
    (h : ∀ w1, Row w1 w.heap.size T Z → w.heap.size < w1.heap.size → Below w.heap.size w w1 → wpList P ops Q rest (a.put o.dst (.pointer (some ⟨w.heap.size, 0, none⟩))) w1) : wpList P ops Q (o :: rest) a w :=
  kAlloc T Z ho hg hz fun w1 hr hs hb => h w1 hr (by omega) hb
theorem kBoxL (T : TypeId) (x : Operand) (cs : Array Value) (ho : o.op = .box T x) (hg : Region.wanted o (yielded ops a.tmps) = true) (hx : a.eval x = .agg cs)
    (h : ∀ w1, Row w1 w.heap.size T cs → w.heap.size < w1.heap.size → Below w.heap.size w w1 → wpList P ops Q rest (a.put o.dst (.pointer (some ⟨w.heap.size, 0, none⟩))) w1) : wpList P ops Q (o :: rest) a w :=
  kBox T x cs ho hg hx fun w1 hr hs hb => h w1 hr (by omega) hb
end

/-- what a function hands back: a row of its own and a value; two rows of its own -/
theorem result_row_tmp {P : Program} {a : Act} {w : World} {fn : Func} {R : Ending → World → Prop} {p u : Tmp} {T U : TypeId} {d : TypeDesc} {g : Nat} {cs : Array Value} {v : Value} (h : fn.results = #[.cell p T, .tmp u])
    (hp : a.tmps.getD p undef = .pointer (some ⟨g, 0, none⟩)) (hv : a.tmps.getD u undef = v) (hr : Row w g U cs) (hu : P.underlying T = some d) (hd : aggDesc d = true)
    (hi : (P.info? T).map (·.size) = some cs.size) (hdf : a.defers = []) (hR : R (.returned (.tuple #[.agg cs, v])) w) : bodyPost P fn R .ret a w := by
  refine bodyPost_ret (v := .tuple #[.agg cs, v]) ?_ hdf hR
  have hp' : a.tmps[p]?.getD undef = .pointer (some ⟨g, 0, none⟩) := by simpa using hp
  have hv' : a.tmps[u]?.getD undef = v := by simpa using hv
  simp [results, h, hp', hv', asAddr, run_loadVar_row w g U T cs _ d hr hu (by cases d <;> first | rfl | cases hd) hi]
theorem result_row2 {P : Program} {a : Act} {w : World} {fn : Func} {R : Ending → World → Prop} {p q : Tmp} {T T2 U U2 : TypeId} {d d2 : TypeDesc} {g g2 : Nat} {cs cs2 : Array Value} (h : fn.results = #[.cell p T, .cell q T2])
    (hp : a.tmps.getD p undef = .pointer (some ⟨g, 0, none⟩)) (hq : a.tmps.getD q undef = .pointer (some ⟨g2, 0, none⟩)) (hr : Row w g U cs) (hu : P.underlying T = some d) (hd : aggDesc d = true)
    (hi : (P.info? T).map (·.size) = some cs.size) (hr2 : Row w g2 U2 cs2) (hu2 : P.underlying T2 = some d2) (hd2 : aggDesc d2 = true)
    (hi2 : (P.info? T2).map (·.size) = some cs2.size) (hdf : a.defers = []) (hR : R (.returned (.tuple #[.agg cs, .agg cs2])) w) : bodyPost P fn R .ret a w := by
  refine bodyPost_ret (v := .tuple #[.agg cs, .agg cs2]) ?_ hdf hR
  have hp' : a.tmps[p]?.getD undef = .pointer (some ⟨g, 0, none⟩) := by simpa using hp
  have hq' : a.tmps[q]?.getD undef = .pointer (some ⟨g2, 0, none⟩) := by simpa using hq
  simp [results, h, hp', hq', asAddr, run_loadVar_row w g U T cs _ d hr hu (by cases d <;> first | rfl | cases hd) hi, run_loadVar_row w g2 U2 T2 cs2 _ d2 hr2 hu2 (by cases d2 <;> first | rfl | cases hd2) hi2]

section
variable {P : Program} {ops : Array Oper} {S : World → Prop} {Q : Exit → Act → World → Prop} {L : Act → World → Prop} {bs : List Bool} {o : Oper} {rest : List Oper} {a : Act} {w : World}
theorem mixArrayAt (T E : TypeId) (x : Operand) (n len cap : Nat) (p : Option Addr) (hS : S w) (ho : o.op = .sliceToArrayPointer T x) (hg : Region.wanted o (yielded ops a.tmps) = true) (hx : a.eval x = .slice p len cap) (ht : P.underlying T = some (.array n E)) (hn : n ≤ len)
    (h : wpMix P ops Q S L bs rest (a.put o.dst (.pointer p)) w) : wpMix P ops Q S L (true :: bs) (o :: rest) a w :=
  mixQuiet _ hS hg (fun w _ => by
    have : ¬ len < n := by omega
    unfold execOp; simp [ho, hx, Instr.arrayAt, run_underlying ht, this]) h
theorem mixSliceArrFrom (T E : TypeId) (x y : Operand) (len g n : Nat) (k : IntKind) (i : Int) (hS : S w) (ho : o.op = .slice T x (some y) none none) (hg : Region.wanted o (yielded ops a.tmps) = true) (hx : a.eval x = .pointer (some ⟨g, 0, none⟩)) (hy : a.eval y = .int k i) (ht : P.underlying T = some (.array len E)) (hsz : (P.info? E).map (·.size) = some 1) (hi : i = (n : Int)) (hn : n < len)
    (h : wpMix P ops Q S L bs rest (a.put o.dst (.slice (some ⟨g, n, none⟩) (len - n) (len - n))) w) : wpMix P ops Q S L (true :: bs) (o :: rest) a w := by
  refine mixQuiet _ hS hg (fun w _ => ?_) h
  subst hi
  have hrun : (Instr.sliceAt T (.pointer (some ⟨g, 0, none⟩)) (some (.int k (n : Int))) none none).run P w = .ok (.slice (some ⟨g, n, none⟩) (len - n) (len - n)) w := by
    cases hq : P.info? E with
    | none => simp [hq] at hsz
    | some t =>
      have hs' : t.size = 1 := by simpa [hq] using hsz
      have hb : (Instr.sliceBound (.int k (n : Int)) len .sliceB).run P w = .ok n w := by
        have := run_sliceBound (P := P) (w := w) k (n : Int) len .sliceB (by omega) (by omega)
        simpa using this
      have hne : ¬ len = n := by omega
      simp [Instr.sliceAt, run_underlying ht, Instr.sureAddr, Instr.sliceBounds, hb, sizeOf, typeInfo, hq, hs', hne, add_none]
  unfold execOp
  simp only [ho, hx, hy, Option.map_some, Option.map_none, Sem.run_bind, hrun, Result.andThen_ok, Sem.run_pure]
theorem mixLoadAs (T U : TypeId) (x : Operand) (g off n : Nat) (cs vs : Array Value) (d : TypeDesc) (hS : S w) (ho : o.op = .load T x) (hg : Region.wanted o (yielded ops a.tmps) = true)
    (hx : a.eval x = .pointer (some ⟨g, off, none⟩)) (hr : ∀ w, S w → Row w g U cs) (hu : P.underlying T = some d) (hd : aggDesc d = true) (hi : (P.info? T).map (·.size) = some n) (hn : off + n ≤ cs.size) (hv : cs.extract off (off + n) = vs)
    (h : wpMix P ops Q S L bs rest (a.put o.dst (.agg vs)) w) : wpMix P ops Q S L (true :: bs) (o :: rest) a w := by
  subst hv
  refine mixQuiet _ hS hg (fun w hw => ?_) h
  unfold execOp
  simp only [ho, hx, Instr.loadAt, Instr.sureAddr, Sem.run_bind, Sem.run_pure, Result.andThen_ok, run_loadPart (hr w hw) hu hd hi hn]
end

theorem isVals_addr {w : World} {v : Value} {l : List Value} {j : Nat} {u : Value} (h : IsVals w v l) (hj : l[j]? = some u) : ∃ b : Addr, w.cell? b = some u ∧ ∀ (P : Program) (T E : TypeId) (k : IntKind) (w' : World), P.underlying T = some (.slice E) → (P.info? E).map (·.size) = some 1 → (Instr.indexAt T v (.int k (j : Int))).run P w' = .ok (.pointer (some b)) w' := by
  obtain ⟨ao, c, rfl, hc, hnone, hcells⟩ := h
  obtain ⟨b, rfl, hcell⟩ := hcells j u hj
  have hjl := (List.getElem?_eq_some_iff.1 hj).1
  refine ⟨b.add j, hcell, fun P T E k w' ht hs => ?_⟩
  cases hq : P.info? E with
  | none => simp [hq] at hs
  | some t =>
    have hs' : t.size = 1 := by simpa [hq] using hs
    have hc : (0 : Int) ≤ (j : Int) ∧ (j : Int) < (l.length : Int) := by omega
    simp [Instr.indexAt, asIntOf, run_underlying ht, hc, sizeOf, typeInfo, hq, hs']
    intro hle; omega

section
variable {P : Program} {ops : Array Oper} {C : World → Prop} {Q : Act → Prop} {rest : List Oper} {o : Oper} {a : Act}
theorem qIndexAddrB (T E : TypeId) (x y : Operand) (k : IntKind) (v : Value) (i : Int) (j : Nat) (b : Addr) (ho : o.op = .indexAddr T x y) (hg : Region.wanted o (yielded ops a.tmps) = true) (hx : a.eval x = v) (hy : a.eval y = .int k i) (hi : i = (j : Int)) (ht : P.underlying T = some (.slice E)) (hs : (P.info? E).map (·.size) = some 1)
    (hrun : ∀ (P : Program) (T E : TypeId) (k : IntKind) (w' : World), P.underlying T = some (.slice E) → (P.info? E).map (·.size) = some 1 → (Instr.indexAt T v (.int k (j : Int))).run P w' = .ok (.pointer (some b)) w')
    (h : wpQuiet P ops C Q rest (a.put o.dst (.pointer (some b)))) : wpQuiet P ops C Q (o :: rest) a := by
  subst hi
  refine qStep _ hg (fun w _ => ?_) h
  unfold execOp
  simp only [ho, hx, hy, Sem.run_bind, hrun P T E k w ht hs, Result.andThen_ok, Sem.run_pure]
theorem qLoadB (T : TypeId) (x : Operand) (b : Addr) (v : Value) (d : TypeDesc) (ho : o.op = .load T x) (hg : Region.wanted o (yielded ops a.tmps) = true) (hx : a.eval x = .pointer (some b)) (hr : ∀ w, C w → w.cell? b = some v) (hu : P.underlying T = some d) (hd : aggDesc d = false)
    (h : wpQuiet P ops C Q rest (a.put o.dst v)) : wpQuiet P ops C Q (o :: rest) a := by
  refine qStep _ hg (fun w hw => ?_) h
  unfold execOp
  have hcell := hr w hw
  have hl : (loadVar T b).run P w = .ok v w := by simp [loadVar, Sem.run_bind, run_isAgg hu, hd, load, Sem.run, hcell]
  simp only [ho, hx, Instr.loadAt, Instr.sureAddr, Sem.run_bind, Sem.run_pure, Result.andThen_ok, hl]
end

theorem qEqlBool {P : Program} {ops : Array Oper} {C : World → Prop} {Q : Act → Prop} {rest : List Oper} {o : Oper} {a : Act} (T T2 : TypeId) (x y : Operand) (b c d : Bool) (ho : o.op = .binOp .eql T x y T2) (hg : Region.wanted o (yielded ops a.tmps) = true) (hx : a.eval x = .bool b) (hy : a.eval y = .bool c) (ht : P.underlying T = some .bool) (hd : (b == c) = d)
    (h : wpQuiet P ops C Q rest (a.put o.dst (.bool d))) : wpQuiet P ops C Q (o :: rest) a := by
  subst hd
  refine qStep _ hg (fun w _ => ?_) h
  have hr := run_eqlBool (P := P) (w := w) T b c x y ht
  unfold execOp
  simp only [ho, hx, hy]
  rw [Sem.run_bind, hr]; rfl
theorem qLeqInt {P : Program} {ops : Array Oper} {C : World → Prop} {Q : Act → Prop} {rest : List Oper} {o : Oper} {a : Act} (T2 : TypeId) (x y : Operand) (b c : Int) (d : Bool) {T : TypeId} (ho : o.op = .binOp .leq T x y T2) (hg : Region.wanted o (yielded ops a.tmps) = true) (hx : a.eval x = .int .i64 b) (hy : a.eval y = .int .i64 c) (hd : decide (b ≤ c) = d)
    (h : wpQuiet P ops C Q rest (a.put o.dst (.bool d))) : wpQuiet P ops C Q (o :: rest) a := by
  subst hd
  refine qStep _ hg (fun w _ => ?_) h
  unfold execOp
  simp only [ho, hx, hy]
  simp [eqGuard, binOp, Op.intCmp]

section
variable {P : Program} {ops : Array Oper} {C : World → Prop} {Q : Act → Prop} {rest : List Oper} {o : Oper} {a : Act}
theorem qSliceArrAll (T E : TypeId) (x : Operand) (len g : Nat) (ho : o.op = .slice T x none none none) (hg : Region.wanted o (yielded ops a.tmps) = true) (hx : a.eval x = .pointer (some ⟨g, 0, none⟩)) (ht : P.underlying T = some (.array len E)) (hsz : (P.info? E).map (·.size) = some 1)
    (h : wpQuiet P ops C Q rest (a.put o.dst (.slice (some ⟨g, 0, none⟩) len len))) : wpQuiet P ops C Q (o :: rest) a :=
  qStep _ hg (fun w _ => by unfold execOp; simp only [ho, hx, Option.map_none, Sem.run_bind, run_sliceArrAll ht hsz, Result.andThen_ok, Sem.run_pure]) h
theorem qToString (src dst E : TypeId) (x : Operand) (v : Value) (l : List UInt8) (ho : o.op = .convert src dst x) (hg : Region.wanted o (yielded ops a.tmps) = true) (hx : a.eval x = v) (hv : ∀ w, C w → IsVals w v (l.map VB)) (hs : P.underlying src = some (.slice E)) (he : P.underlying E = some (.int .u8)) (hd : P.underlying dst = some .string)
    (h : wpQuiet P ops C Q rest (a.put o.dst (textV l))) : wpQuiet P ops C Q (o :: rest) a :=
  qStep _ hg (fun w hw => by unfold execOp; simp only [ho, hx, Sem.run_bind, run_toString (hv w hw) hs he hd, Result.andThen_ok, Sem.run_pure]) h
theorem qLssStr (T T2 : TypeId) (x y : Operand) (l m : List UInt8) (b : Bool) (ho : o.op = .binOp .lss T x y T2) (hg : Region.wanted o (yielded ops a.tmps) = true) (hx : a.eval x = textV l) (hy : a.eval y = textV m) (hb : Op.bytesLess l m = b)
    (h : wpQuiet P ops C Q rest (a.put o.dst (.bool b))) : wpQuiet P ops C Q (o :: rest) a := by
  subst hb
  refine qStep _ hg (fun w _ => ?_) h
  unfold execOp
  simp only [ho, hx, hy]
  simp [eqGuard, textV, binOp_string_lss]
end

section
variable {P : Program} {ops : Array Oper} {S : World → Prop} {Q : Exit → Act → World → Prop} {L : Act → World → Prop} {bs : List Bool} {o : Oper} {rest : List Oper} {a : Act} {w : World}
theorem mixPick (c x y : Operand) (b : Bool) (v : Value) (hS : S w) (ho : o.op = .pick c x y) (hg : Region.wanted o (yielded ops a.tmps) = true) (hc : a.eval c = .bool b) (hv : (if b = true then a.eval x else a.eval y) = v)
    (h : wpMix P ops Q S L bs rest (a.put o.dst v) w) : wpMix P ops Q S L (true :: bs) (o :: rest) a w := by
  subst hv
  refine mixQuiet _ hS hg (fun w _ => ?_) h
  unfold execOp
  simp only [ho, hc, asBool, Sem.run_bind, Sem.run_pure, Result.andThen_ok]
theorem mixEqlBool (T T2 : TypeId) (x y : Operand) (b c d : Bool) (hS : S w) (ho : o.op = .binOp .eql T x y T2) (hg : Region.wanted o (yielded ops a.tmps) = true) (hx : a.eval x = .bool b) (hy : a.eval y = .bool c) (ht : P.underlying T = some .bool) (hd : (b == c) = d)
    (h : wpMix P ops Q S L bs rest (a.put o.dst (.bool d)) w) : wpMix P ops Q S L (true :: bs) (o :: rest) a w := by
  subst hd
  refine mixQuiet _ hS hg (fun w _ => ?_) h
  have hr := run_eqlBool (P := P) (w := w) T b c x y ht
  unfold execOp
  simp only [ho, hx, hy]
  rw [Sem.run_bind, hr]; rfl
theorem exec_geq {T T2 : TypeId} {x y : Operand} {z c : Int} {d : Bool} (ho : o.op = .binOp .geq T x y T2) (hx : a.eval x = .int .i64 z) (hy : a.eval y = .int .i64 c) (hd : decide (z ≥ c) = d) (w : World) : (execOp a.eval o).run P w = .ok (.value (.bool d)) w := by
  subst hd
  unfold execOp
  simp only [ho, hx, hy]
  simp [eqGuard, binOp, Op.intCmp]
end

end Go.Proofs.Ytdeggdmoijfhdaa

/-
  My kit, eighth part: a drawn region by a list of what its operations yield; behind it the frame is as if they had been done in their written order.
-/
namespace Go.Proofs.Ytdeggdmoijfhdaa
open Go Go.RowKit

/-- what an operation yields: a value; a pointer to a new row of so many cells; (of a store) that row with these cells; or what a predicate says that later worlds keep -/
inductive Spec
  | val (v : Value)
  | fresh (B : Nat) (T : TypeId) (n : Nat)
  | hold (B : Nat) (T : TypeId) (cs : Array Value)
  | prop (p : World → Value → Prop) (mono : ∀ w w' v, Below w.heap.size w w' → p w v → p w' v)
def Spec.at : Spec → World → Value → Prop
  | .val u, _, v => v = u
  | .fresh B T n, w, v => ∃ g cs, v = .pointer (some ⟨g, 0, none⟩) ∧ B ≤ g ∧ cs.size = n ∧ Row w g T cs
  | .hold B T cs, w, v => ∃ g, v = .pointer (some ⟨g, 0, none⟩) ∧ B ≤ g ∧ Row w g T cs
  | .prop p _, w, v => p w v
theorem Spec.mono {s : Spec} {w w' : World} {v : Value} (hb : Below w.heap.size w w') (h : s.at w v) : s.at w' v := by
  cases s with
  | val u => exact h
  | fresh B T n => obtain ⟨g, cs, h1, h2, h3, h4⟩ := h; exact ⟨g, cs, h1, h2, h3, h4.below hb h4.lt⟩
  | hold B T cs => obtain ⟨g, h1, h2, h4⟩ := h; exact ⟨g, h1, h2, h4.below hb h4.lt⟩
  | prop p m => exact m _ _ _ hb h
def specAt (ss : List Spec) (i : Nat) (w : World) (v : Value) : Prop := match ss[i]? with
  | some s => s.at w v
  | none => True
theorem specAt_mono {ss : List Spec} : ∀ i w w' v, Below w.heap.size w w' → specAt ss i w v → specAt ss i w' v := by
  intro i w w' v hb h
  unfold specAt at *
  split at h
  · exact Spec.mono hb h
  · trivial
/-- all rows that are spoken of may be the one that is written -/
def Singles (T : TypeId) (cs : Array Value) : List Spec → Prop
  | [] => True
  | .val _ :: ss => Singles T cs ss
  | .fresh _ T' n :: ss => (T' = T ∧ cs.size = n) ∧ Singles T cs ss
  | .hold _ T' cs' :: ss => (T' = T ∧ cs' = cs) ∧ Singles T cs ss
  | .prop _ _ :: _ => False
theorem singles_wrote {T : TypeId} {cs : Array Value} {g : Nat} {w w' : World} (hw : Wrote g w w') (hr : Row w' g T cs) : ∀ (ss : List Spec), Singles T cs ss → ∀ i v, specAt ss i w v → specAt ss i w' v := by
  intro ss
  induction ss with
  | nil => intro _ i v _; simp [specAt]
  | cons s ss ih =>
    intro hs i v h
    cases i with
    | succ i =>
      have hs' : Singles T cs ss := by cases s with
        | val _ => exact hs
        | fresh _ _ _ => exact hs.2
        | hold _ _ _ => exact hs.2
        | prop _ _ => exact hs.elim
      exact ih hs' i v h
    | zero =>
      show s.at w' v
      have h : s.at w v := h
      cases s with
      | val u => exact h
      | fresh B T' n =>
        obtain ⟨⟨e1, e2⟩, _⟩ := hs
        obtain ⟨g', cs', h1, h2, h3, h4⟩ := h
        by_cases e : g' = g
        · subst e; subst e1; exact ⟨g', cs, h1, h2, e2, hr⟩
        · exact ⟨g', cs', h1, h2, h3, hw.row h4 e⟩
      | hold B T' cs' =>
        obtain ⟨⟨e1, e2⟩, _⟩ := hs
        obtain ⟨g', h1, h2, h4⟩ := h
        by_cases e : g' = g
        · subst e; subst e1; subst e2; exact ⟨g', h1, h2, hr⟩
        · exact ⟨g', h1, h2, hw.row h4 e⟩
      | prop p m => exact hs.elim

/-- for all values that meet the list -/
def AllV (w : World) : List Spec → (List Value → Prop) → Prop
  | [], k => k []
  | .val u :: ss, k => AllV w ss (fun vs => k (u :: vs))
  | .fresh B T n :: ss, k => ∀ v, (Spec.fresh B T n).at w v → AllV w ss (fun vs => k (v :: vs))
  | .hold B T cs :: ss, k => ∀ g, B ≤ g → Row w g T cs → AllV w ss (fun vs => k (.pointer (some ⟨g, 0, none⟩) :: vs))
  | .prop p _ :: ss, k => ∀ v, p w v → AllV w ss (fun vs => k (v :: vs))
theorem allV_at {w : World} : ∀ (ss : List Spec) (k : List Value → Prop) (vs : List Value), vs.length = ss.length → (∀ i, i < ss.length → specAt ss i w (vs.getD i undef)) → AllV w ss k → k vs
  | [], k, [], _, _, h => h
  | [], k, _ :: _, hl, _, _ => by simp at hl
  | _ :: _, k, [], hl, _, _ => by simp at hl
  | s :: ss, k, v :: vs, hl, hall, h => by
    have h0 : s.at w v := hall 0 (by simp)
    have ht : ∀ i, i < ss.length → specAt ss i w (vs.getD i undef) := fun i hi => hall (i + 1) (by simpa using hi)
    have hl' : vs.length = ss.length := by simpa using hl
    cases s with
    | val u => obtain rfl : v = u := h0; exact allV_at ss _ vs hl' ht h
    | fresh B T n => exact allV_at ss _ vs hl' ht (h v h0)
    | hold B T cs => obtain ⟨g, rfl, h1, h2⟩ := h0; exact allV_at ss _ vs hl' ht (h g h1 h2)
    | prop p m => exact allV_at ss _ vs hl' ht (h v h0)
/-- the frame behind all operations -/
def putAll (a : Act) : List Oper → List Value → Act
  | o :: l, v :: vs => putAll (a.put o.dst v) l vs
  | _, _ => a
theorem putAll_size : ∀ (l : List Oper) (vs : List Value) (a : Act), (putAll a l vs).tmps.size = a.tmps.size
  | [], _, _ => rfl
  | _ :: _, [], _ => rfl
  | o :: l, v :: vs, a => by
    rw [putAll, putAll_size l vs]
    cases hd : o.dst <;> simp [Act.put]
theorem putAll_defers : ∀ (l : List Oper) (vs : List Value) (a : Act), (putAll a l vs).defers = a.defers
  | [], _, _ => rfl
  | _ :: _, [], _ => rfl
  | o :: l, v :: vs, a => by
    rw [putAll, putAll_defers l vs]
    cases hd : o.dst <;> simp [Act.put]
theorem putAll_out {s : Tmp} : ∀ (l : List Oper) (vs : List Value) (a : Act), (∀ (j : Nat) o, l[j]? = some o → o.dst ≠ some s) → (putAll a l vs).tmps.getD s undef = a.tmps.getD s undef
  | [], _, _, _ => rfl
  | _ :: _, [], _, _ => rfl
  | o :: l, v :: vs, a, h => by
    rw [putAll, putAll_out l vs _ fun j o' hj => h (j + 1) o' (by simpa using hj)]
    have h0 := h 0 o rfl
    cases hd : o.dst with
    | none => rfl
    | some d =>
      have hne : d ≠ s := fun e => h0 (by rw [hd, e])
      simp [Act.put, Array.getElem?_setIfInBounds_ne hne]
theorem putAll_in {s : Tmp} : ∀ (l : List Oper) (vs : List Value) (a : Act) (i : Nat) (o : Oper), s < a.tmps.size → l.length = vs.length → l[i]? = some o → o.dst = some s → (∀ (j : Nat) o', l[j]? = some o' → j ≠ i → o'.dst ≠ some s) → (putAll a l vs).tmps.getD s undef = vs.getD i undef
  | [], _, _, _, _, _, _, h, _, _ => by simp at h
  | _ :: _, [], _, _, _, _, hl, _, _, _ => by simp at hl
  | o :: l, v :: vs, a, 0, o', hs, hl, hi, hd, hall => by
    obtain rfl : o = o' := by simpa using hi
    rw [putAll, putAll_out l vs _ fun j o' hj => hall (j + 1) o' (by simpa using hj) (by omega)]
    rw [hd, put_get hs]; simp
  | o :: l, v :: vs, a, i + 1, o', hs, hl, hi, hd, hall => by
    rw [putAll, putAll_in l vs _ i o' (by cases hq : o.dst <;> simpa [Act.put] using hs) (by simpa using hl) (by simpa using hi) hd fun j o2 hj hne => hall (j + 1) o2 (by simpa using hj) (by omega)]
    simp

/-- what is known of an operation's value at the end: of a new variable, what the store says that is done to it -/
def finAt (l : List Oper) (alt : Nat → Nat) (ss : List Spec) (j : Nat) : Spec :=
  match (l[j]?).bind (·.dst) with
  | none => .val undef
  | some _ => match (List.range l.length).find? (fun i => alt i == j && ((l[i]?).bind (·.dst)).isNone) with
    | some i => ss.getD i (.val undef)
    | none => ss.getD j (.val undef)
def finList (l : List Oper) (alt : Nat → Nat) (ss : List Spec) : List Spec := (List.range l.length).map (finAt l alt ss)

section
variable {P : Program} {Q : Exit → Act → World → Prop}
/-- what a step must show -/
def SymStep (P : Program) (Q : Exit → Act → World → Prop) (l : List Oper) (alt : Nat → Nat) (ss : List Spec) (a0 : Act) (w0 : World) (i : Nat) (o : Oper) : Prop :=
  ∀ a w, a.tmps.size = a0.tmps.size → (∀ s, (∀ (j : Nat) o, l[j]? = some o → o.dst ≠ some s) → a.tmps.getD s undef = a0.tmps.getD s undef) → Below w0.heap.size w0 w →
      (∀ e ∈ o.after, Region.binds .any e = true → specAt ss e.on w (a.tmps.getD (srcOf l alt e.on) undef)) →
      wpList P l.toArray (Exit.then (fun a' w' => ∃ v, a' = a.put o.dst v ∧ Below w0.heap.size w0 w' ∧ (∀ j u, specAt ss j w u → specAt ss j w' u) ∧ specAt ss i w' (a'.tmps.getD (srcOf l alt i) undef)) (NoPanic Q)) [o] a w

theorem region_sym {id : Nat} {a0 : Act} {w0 : World} {l : List Oper} (alt : Nat → Nat) (ss fs : List Spec) (hm : P.follows .mixedOrders = true) (hB : slots2B l a0.tmps.size alt = true) (hl : ss.length = l.length) (hfs : finList l alt ss = fs)
    (hstep : ∀ i o, l[i]? = some o → SymStep P Q l alt ss a0 w0 i o)
    (hfin : ∀ w, Below w0.heap.size w0 w → AllV w fs (fun vs => Q .normal (putAll a0 l vs) w)) :
    (Code.region id l.toArray true).wp P Q a0 w0 := by
  refine region_inv2 alt (specAt ss) hm hB hstep ?_
  intro a w hsz hdf hbel hoth hall
  have hf := hfin w hbel
  obtain ⟨vs, hvs⟩ : ∃ vs : List Value, vs = (List.range l.length).map fun j => match (l[j]?).bind (·.dst) with | some d => a.tmps.getD d undef | none => undef := ⟨_, rfl⟩
  have hvl : vs.length = l.length := by rw [hvs]; simp
  have hva : ∀ j, j < l.length → vs.getD j undef = match (l[j]?).bind (·.dst) with | some d => a.tmps.getD d undef | none => undef := fun j hj => by
    rw [hvs]; simp [List.getD_eq_getElem?_getD, hj]
  have key := allV_at fs _ vs (by rw [← hfs, hvl]; simp [finList]) (fun j hj => by
    rw [← hfs] at hj ⊢
    have hjl : j < l.length := by simpa [finList] using hj
    have e1 : (finList l alt ss)[j]? = some (finAt l alt ss j) := by simp [finList, hjl]
    unfold specAt
    rw [e1]
    show (finAt l alt ss j).at w (vs.getD j undef)
    rw [hva j hjl]
    obtain ⟨o, ho⟩ : ∃ o, l[j]? = some o := ⟨l[j], List.getElem?_eq_getElem hjl⟩
    have hss : ∀ i, i < l.length → ss[i]? = some (ss.getD i (.val undef)) := fun i hi => by
      rw [List.getD_eq_getElem?_getD, List.getElem?_eq_getElem (by omega)]; simp
    unfold finAt
    cases hd : o.dst with
    | none => simp [ho, hd, Spec.at]
    | some d =>
      have ho2 : (l[j]?).bind (·.dst) = some d := by rw [ho]; simp [hd]
      rw [ho2]
      show Spec.at (match (List.range l.length).find? (fun i => alt i == j && ((l[i]?).bind (·.dst)).isNone) with | some i => ss.getD i (.val undef) | none => ss.getD j (.val undef)) w (a.tmps.getD d undef)
      cases hq : (List.range l.length).find? (fun i => alt i == j && ((l[i]?).bind (·.dst)).isNone) with
      | none =>
        have h1 := hall j hjl
        unfold specAt at h1
        rw [hss j hjl] at h1
        have es : srcOf l alt j = d := by unfold srcOf; simp [ho, hd]
        rw [es] at h1
        exact h1
      | some i =>
        have h2 := List.find?_some hq
        have hil : i < l.length := by simpa using List.mem_of_find?_eq_some hq
        simp only [Bool.and_eq_true, beq_iff_eq] at h2
        obtain ⟨h3, h4⟩ := h2
        obtain ⟨oi, hoi⟩ : ∃ o, l[i]? = some o := ⟨l[i], List.getElem?_eq_getElem hil⟩
        rw [hoi] at h4
        have h5 : oi.dst = none := by simpa using h4
        have h1 := hall i hil
        unfold specAt at h1
        rw [hss i hil] at h1
        have es : srcOf l alt i = d := by unfold srcOf; simp [hoi, h5, h3, dstOf, ho, hd]
        rw [es] at h1
        exact h1) hf
  have ea : a = putAll a0 l vs := by
    have hs2 := putAll_size l vs a0
    have hd2 := putAll_defers l vs a0
    obtain ⟨tm, df⟩ := a
    generalize hpa : putAll a0 l vs = pa at *
    obtain ⟨tm2, df2⟩ := pa
    have e1 : tm = tm2 := by
      have hn : tm.size = a0.tmps.size := hsz
      have hn2 : tm2.size = a0.tmps.size := hs2
      apply Array.ext (by omega)
      intro s h1 h2
      have hg : tm.getD s undef = tm2.getD s undef := by
        by_cases hin : ∃ (j : Nat) (o : Oper), l[j]? = some o ∧ o.dst = some s
        · obtain ⟨j, o, ho, hd⟩ := hin
          have hjl : j < l.length := (List.getElem?_eq_some_iff.1 ho).1
          have h3 := putAll_in l vs a0 j o (Nat.lt_of_lt_of_eq h1 hn) hvl.symm ho hd ((slots2_at hB ho).1 s hd).2
          rw [hpa] at h3
          rw [show tm2.getD s undef = vs.getD j undef from h3, hva j hjl, ho]
          simp [hd]
        · have hno : ∀ (j : Nat) o, l[j]? = some o → o.dst ≠ some s := fun j o hj hd => hin ⟨j, o, hj, hd⟩
          have h3 := putAll_out l vs a0 hno
          rw [hpa] at h3
          exact (hoth s hno).trans h3.symm
      simpa [h1, h2] using hg
    have e2 : df = df2 := hdf.trans hd2.symm
    rw [e1, e2]
  rw [ea]; exact key

/-- the end of a step that yields a value -/
theorem symV {l : List Oper} {alt : Nat → Nat} {ss : List Spec} {a0 a : Act} {w0 w w' : World} {o : Oper} {i d : Nat} {v : Value} (hbel : Below w0.heap.size w0 w) (hsz : a.tmps.size = a0.tmps.size) (hd : o.dst = some d) (hs : srcOf l alt i = d) (hdn : d < a0.tmps.size) (hB : Below w.heap.size w w') (hp : specAt ss i w' v) :
    wpList P l.toArray (Exit.then (fun a' w' => ∃ v, a' = a.put o.dst v ∧ Below w0.heap.size w0 w' ∧ (∀ j u, specAt ss j w u → specAt ss j w' u) ∧ specAt ss i w' (a'.tmps.getD (srcOf l alt i) undef)) (NoPanic Q)) [] (a.put o.dst v) w' :=
  stepV specAt_mono hbel hsz hd hs hdn hB hp
/-- the end of a step that writes a new variable -/
theorem symW {l : List Oper} {alt : Nat → Nat} {ss : List Spec} {a a' : Act} {w0 w w' : World} {o : Oper} {i g : Nat} {T : TypeId} {cs : Array Value} {v : Value} (hbel : Below w0.heap.size w0 w) (ha : a' = a.put o.dst v) (hW : Wrote g w w') (hg : w0.heap.size ≤ g) (hr : Row w' g T cs) (hs : Singles T cs ss) (hp : specAt ss i w' (a'.tmps.getD (srcOf l alt i) undef)) :
    wpList P l.toArray (Exit.then (fun a' w' => ∃ v, a' = a.put o.dst v ∧ Below w0.heap.size w0 w' ∧ (∀ j u, specAt ss j w u → specAt ss j w' u) ∧ specAt ss i w' (a'.tmps.getD (srcOf l alt i) undef)) (NoPanic Q)) [] a' w' :=
  mixOn ⟨v, ha, hbel.trans (hW.below hg), singles_wrote hW hr ss hs, hp⟩

theorem kCall3 {ops : Array Oper} {rest : List Oper} {o : Oper} {a : Act} {w : World} (f : FuncId) (Ts : Array TypeId) (x y z : Operand) (u t s : Value) (ho : o.op = .call { callee := .value (.func f), args := #[x, y, z], argTypes := Ts }) (hg : Region.wanted o (yielded ops a.tmps) = true) (hf : bodied P f = true) (hx : a.eval x = u) (hy : a.eval y = t) (hz : a.eval z = s)
    (hc : Calls P f #[u, t, s] w fun e w' => ∃ v, e = .returned v ∧ wpList P ops Q rest (a.put o.dst v) w') : wpList P ops Q (o :: rest) a w := by
  refine BigFrame.wpList_want hg fun K hK => ?_
  have hrun : (execOp a.eval o).run P w = .ok (.enter f #[u, t, s]) w := by
    have hff : a.eval (.func f) = .func (.func f) #[] #[] := rfl
    unfold execOp
    simp only [ho, resolve, List.map_toArray, List.map_cons, List.map_nil, hx, hy, hz, hff, Deferred.ofValue, Sem.run_bind, Sem.run_pure, Result.andThen_ok, invoke]
    simpa using run_callFunc_bodied hf #[u, t, s] w
  unfold Oper.wp
  rw [hrun, Oper.upon_enter]
  exact hc.mono fun e w' ⟨v, he, h⟩ => by subst he; exact hK _ _ h
theorem kCall0 {ops : Array Oper} {rest : List Oper} {o : Oper} {a : Act} {w : World} (f : FuncId) (Ts : Array TypeId) (ho : o.op = .call { callee := .value (.func f), args := #[], argTypes := Ts }) (hg : Region.wanted o (yielded ops a.tmps) = true) (hf : bodied P f = true)
    (hc : Calls P f #[] w fun e w' => ∃ v, e = .returned v ∧ wpList P ops Q rest (a.put o.dst v) w') : wpList P ops Q (o :: rest) a w := by
  refine BigFrame.wpList_want hg fun K hK => ?_
  have hrun : (execOp a.eval o).run P w = .ok (.enter f #[]) w := by
    have hff : a.eval (.func f) = .func (.func f) #[] #[] := rfl
    unfold execOp
    simp only [ho, resolve, List.map_toArray, List.map_nil, hff, Deferred.ofValue, Sem.run_bind, Sem.run_pure, Result.andThen_ok, invoke]
    simpa using run_callFunc_bodied hf #[] w
  unfold Oper.wp
  rw [hrun, Oper.upon_enter]
  exact hc.mono fun e w' ⟨v, he, h⟩ => by subst he; exact hK _ _ h
end
end Go.Proofs.Ytdeggdmoijfhdaa

/-
  My kit, ninth part: the plan of a drawn region in an order of one's own that holds all of its operations: what yields the same value in whatever world may float past the last write too.
-/
namespace Go.Proofs.Ytdeggdmoijfhdaa
open Go Go.RowKit

section
variable {P : Program} {ops : Array Oper} {md : Region.Mode} {S : World → Prop} {Q : Exit → Act → World → Prop}

theorem headMix_takeA {i : Nat} {oi : Oper} {v : Value} {L : Array Bool → Act → World → Prop} (hi : ops[i]? = some oi) (hsel : ∀ (j : Nat) (o : Oper) cs b, ops[j]? = some o → o.op ≠ .select cs b)
    (hQ : ∀ c a w, Q (.panic c) (a.put oi.dst v) w → Q (.panic c) a w)
    (hdone : ∀ listed a w, L listed a w → Region.ready md ops listed = []) (f : Nat) :
    ∀ (listed : Array Bool) (a : Act) (w : World), HeadInv md ops ops.size listed →
      (∀ j oj, ops[j]? = some oj → j ≠ i → listed.getD j true = false → (∀ e ∈ oj.after, Region.binds md e = true → e.on ≠ i) → oi.apart ops oj = true) →
      i ∈ Region.ready md ops listed → YieldsIf P ops S oi v a → S w →
      headMix P md ops Q S ops.size L f (listed.setIfInBounds i true) (a.put oi.dst v) w → headMix P md ops Q S ops.size L (f + 1) listed a w := by
  have early : ∀ (listed : Array Bool), ∀ j ∈ Region.ready md ops listed, j < ops.size := fun listed j hj => by
    obtain ⟨_, oj, hoj, _⟩ := mem_ready.1 hj
    exact (Array.getElem?_eq_some_iff.1 hoj).1
  induction f with
  | zero =>
    intro listed a w inv _ hr hy hS H
    refine ⟨fun h => (by rw [h] at hr; cases hr), fun j hj => ⟨early _ j hj, ?_⟩⟩
    by_cases hji : j = i
    · subst hji; exact hy.wpOp hi hS ⟨hS, H⟩
    · have h1 := hdone _ _ _ H
      have h2 := ready_mono hj hji
      rw [h1] at h2; cases h2
  | succ f ih =>
    intro listed a w inv hfree hr hy hS H
    have hun := (mem_ready.1 hr).1
    refine ⟨fun h => (by rw [h] at hr; cases hr), fun j hj => ⟨early _ j hj, ?_⟩⟩
    by_cases hji : j = i
    · subst hji; exact hy.wpOp hi hS ⟨hS, H⟩
    · obtain ⟨hjun, oj, hoj, hall⟩ := mem_ready.1 hj
      have hnot : ∀ e ∈ oj.after, Region.binds md e = true → e.on ≠ i := fun e he hb heq => by
        have h1 := hall e he hb
        rw [heq, getD_both hun] at h1
        cases h1
      have h2 := wpOp_putIf hoj (hfree j oj hoj hji hjun hnot) (fun cs b => hsel i oi cs b hi) (fun cs b => hsel j oj cs b hoj) hQ hy (H.2 j (ready_mono hj hji)).2
      refine wpOp_mono (fun a' w' h3 => ⟨h3.2.1, ih (listed.setIfInBounds j true) a' w' (inv.set hj (early _ j hj)) (fun k ok hk hki hu hno => ?_) (ready_mono hr (Ne.symm hji)) h3.1 h3.2.1 ?_⟩) h2
      · refine hfree k ok hk hki ?_ hno
        by_cases hjk : j = k
        · subst hjk; exact hjun
        · rw [getD_set_ne true hjk] at hu; exact hu
      · rw [Array.setIfInBounds_comm _ _ hji]; exact h3.2.2

def mixAllP (md : Region.Mode) (ops : Array Oper) : List (Nat × Bool) → Array Bool → Bool
  | [], listed => decide (Region.ready md ops listed = [])
  | (k, true) :: bs, listed => decide (k < ops.size) && (Region.ready md ops listed).contains k && Region.free md ops listed k && mixAllP md ops bs (listed.setIfInBounds k true)
  | (k, false) :: bs, listed => decide (k < ops.size) && decide (Region.ready md ops listed = [k]) && mixAllP md ops bs (listed.setIfInBounds k true)

theorem headMix_of_wpMixA {Lq : Act → World → Prop} (hsel : Region.noSelect ops = true) :
    ∀ (plan : List (Nat × Bool)) (l : List Oper) (listed : Array Bool) (a : Act) (w : World), plan.map (fun p => ops[p.1]?) = l.map some → HeadInv md ops ops.size listed →
    mixAllP md ops plan listed = true → wpMix P ops Q S Lq (plan.map (·.2)) l a w →
    headMix P md ops (NoPanic Q) S ops.size (fun listed' a' w' => Region.ready md ops listed' = [] ∧ Lq a' w') plan.length listed a w
  | [], [], listed, a, w, _, _, hB, h => ⟨by simpa [mixAllP] using hB, h⟩
  | [], _ :: _, _, _, _, hl, _, _, _ => by simp at hl
  | _ :: _, [], _, _, _, hl, _, _, _ => by simp at hl
  | (k, true) :: bs, o :: l, listed, a, w, hl, inv, hB, h => by
    simp only [List.map_cons, List.cons.injEq] at hl
    obtain ⟨h0, hl'⟩ := hl
    simp only [mixAllP, Bool.and_eq_true, decide_eq_true_eq] at hB
    obtain ⟨⟨⟨hkn, hr⟩, hf⟩, hB'⟩ := hB
    have hr' : k ∈ Region.ready md ops listed := by simpa using hr
    obtain ⟨hS, v, hy, hK⟩ := h
    exact headMix_takeA h0 (Region.noSelect_spec hsel) (fun _ _ _ hx => hx) (fun _ _ _ hL => hL.1) bs.length listed a w inv (Region.free_spec h0 hf) hr' hy hS
      (headMix_of_wpMixA hsel bs l _ _ _ hl' (inv.set hr' hkn) hB' hK)
  | (k, false) :: bs, o :: l, listed, a, w, hl, inv, hB, h => by
    simp only [List.map_cons, List.cons.injEq] at hl
    obtain ⟨h0, hl'⟩ := hl
    simp only [mixAllP, Bool.and_eq_true, decide_eq_true_eq] at hB
    obtain ⟨⟨hkn, hr⟩, hB'⟩ := hB
    have hr' : k ∈ Region.ready md ops listed := by rw [hr]; simp
    refine ⟨by rw [hr]; simp, fun i hi => ?_⟩
    rw [hr] at hi
    obtain rfl : i = k := by simpa using hi
    refine ⟨hkn, wpOp_mono (fun a' w' h' => ⟨h'.1, ?_⟩) (wpOp_of_list h0 h)⟩
    exact headMix_of_wpMixA hsel bs l _ _ _ hl' (inv.set hr' hkn) hB' h'.2

/-- A REGION THAT DRAWS ITS ORDER, by a plan of all of it. -/
theorem region_mixA {id : Nat} {a : Act} {w : World} {l : List Oper} (plan : List (Nat × Bool)) (S : World → Prop) (hm : P.follows .mixedOrders = true) (hB : (Region.noSelect l.toArray && decide (plan.length = l.length) && mixAllP .any l.toArray plan (Array.replicate l.length false)) = true) (hlp : plan.map (fun p => l.toArray[p.1]?) = (plan.filterMap fun p => l[p.1]?).map some)
    (h : ∀ w1, Below w.heap.size w w1 → w1.heap.size = w.heap.size → wpMix P l.toArray Q S (fun a' w' => Q .normal a' w') (plan.map (·.2)) (plan.filterMap fun p => l[p.1]?) a w1) : (Code.region id l.toArray true).wp P Q a w := by
  have h := h { w with drawn := w.drawn + 1 } ⟨rfl, rfl, rfl, Nat.le_refl _, fun _ _ => rfl⟩ rfl
  simp only [Bool.and_eq_true, decide_eq_true_eq] at hB
  obtain ⟨⟨hsel, hlen⟩, hlex⟩ := hB
  have hsz : l.toArray.size = l.length := by simp
  have inv0 : HeadInv .any l.toArray l.toArray.size (Array.replicate l.toArray.size false) :=
    ⟨by simp, fun j oj _ hl => (by rw [getD_replicate_false] at hl; cases hl), fun t h1 h2 => absurd h2 (by omega)⟩
  rw [← hsz] at hlex
  have H := headMix_of_wpMixA (md := .any) hsel plan _ _ a _ hlp inv0 hlex h
  refine wp_region_any hm ?_
  have := any_of_headMix (g := 0) (fun listed a' w' hL => (⟨hL.1, hL.2⟩ : wpAny P .any l.toArray Q 0 listed a' w')) _ _ _ _ H
  rw [Nat.add_zero, hlen, ← hsz] at this
  exact this
theorem mixDone {a : Act} {w : World} (h : Q .normal a w) : wpMix P ops Q S (fun a' w' => Q .normal a' w') [] [] a w := h
end
end Go.Proofs.Ytdeggdmoijfhdaa

/-
  My kit, tenth part: a statement's own variables of whatever type as one fact; a drawn region with several new variables.
-/
namespace Go.Proofs.Ytdeggdmoijfhdaa
open Go Go.RowKit

/-- the blocks hold these rows; what was there before is as it was -/
structure Mm (w0 w : World) (l : List (Nat × TypeId × Array Value)) : Prop where
  rows : ∀ (i g : Nat) (T : TypeId) (cs : Array Value), l[i]? = some (g, T, cs) → Row w g T cs
  apart : l.Pairwise (fun a b => a.1 ≠ b.1)
  ge : ∀ (i g : Nat) (T : TypeId) (cs : Array Value), l[i]? = some (g, T, cs) → w0.heap.size ≤ g
  below : Below w0.heap.size w0 w
theorem mm_nil (w : World) : Mm w w [] := ⟨fun i g T cs h => by simp at h, List.Pairwise.nil, fun i g T cs h => by simp at h, Below.refl _ _⟩
theorem Mm.get {w0 w : World} {l : List (Nat × TypeId × Array Value)} (h : Mm w0 w l) (i : Nat) {g : Nat} {T : TypeId} {cs : Array Value} (hi : l[i]? = some (g, T, cs)) : Row w g T cs := h.rows i g T cs hi
theorem Mm.on {w0 w w' : World} {l : List (Nat × TypeId × Array Value)} (h : Mm w0 w l) (hb : Below w.heap.size w w') : Mm w0 w' l :=
  ⟨fun i g T cs hi => (h.rows i g T cs hi).below hb (h.rows i g T cs hi).lt, h.apart, h.ge, h.below.trans (hb.mono h.below.size)⟩
theorem Mm.size {w0 w : World} {l : List (Nat × TypeId × Array Value)} (h : Mm w0 w l) : w0.heap.size ≤ w.heap.size := h.below.size
theorem Mm.cons {w0 w : World} {l : List (Nat × TypeId × Array Value)} {g : Nat} {T : TypeId} {cs : Array Value} (h : Mm w0 w l) (hr : Row w g T cs) (hge : w0.heap.size ≤ g) (hne : ∀ p ∈ l, g ≠ p.1) : Mm w0 w ((g, T, cs) :: l) := by
  refine ⟨fun i k U ds hi => ?_, List.Pairwise.cons hne h.apart, fun i k U ds hi => ?_, h.below⟩
  · cases i with
    | zero => simp at hi; obtain ⟨rfl, rfl, rfl⟩ := hi; exact hr
    | succ i => exact h.rows i k U ds (by simpa using hi)
  · cases i with
    | zero => simp at hi; obtain ⟨rfl, rfl, rfl⟩ := hi; exact hge
    | succ i => exact h.ge i k U ds (by simpa using hi)
theorem Mm.lt {w0 w : World} {l : List (Nat × TypeId × Array Value)} (h : Mm w0 w l) {p : Nat × TypeId × Array Value} (hp : p ∈ l) : p.1 < w.heap.size := by
  obtain ⟨i, hi⟩ := List.getElem?_of_mem hp
  exact (h.rows i p.1 p.2.1 p.2.2 hi).lt
/-- a new block, whatever its number above the old ones -/
theorem Mm.add {w0 w w' : World} {l : List (Nat × TypeId × Array Value)} {g : Nat} {T : TypeId} {cs : Array Value} (h : Mm w0 w l) (hb : Below w.heap.size w w') (hg : w.heap.size ≤ g) (hr : Row w' g T cs) : Mm w0 w' ((g, T, cs) :: l) :=
  (h.on hb).cons hr (Nat.le_trans h.size hg) fun p hp => by have := h.lt hp; omega
theorem Mm.new {w0 w w' : World} {l : List (Nat × TypeId × Array Value)} {T : TypeId} {cs : Array Value} (h : Mm w0 w l) (hr : Row w' w.heap.size T cs) (hb : Below w.heap.size w w') : Mm w0 w' ((w.heap.size, T, cs) :: l) := h.add hb (Nat.le_refl _) hr
theorem Mm.drop {w0 w : World} {l : List (Nat × TypeId × Array Value)} {p : Nat × TypeId × Array Value} (h : Mm w0 w (p :: l)) : Mm w0 w l :=
  ⟨fun i g T cs hi => h.rows (i + 1) g T cs (by simpa using hi), (List.pairwise_cons.1 h.apart).2, fun i g T cs hi => h.ge (i + 1) g T cs (by simpa using hi), h.below⟩
theorem apart_set {l : List (Nat × TypeId × Array Value)} (h : l.Pairwise (fun a b => a.1 ≠ b.1)) (i : Nat) {g : Nat} {T : TypeId} {cs ds : Array Value} (hi : l[i]? = some (g, T, cs)) : (l.set i (g, T, ds)).Pairwise (fun a b => a.1 ≠ b.1) := by
  rw [List.pairwise_iff_getElem] at h ⊢
  intro p q hp hq hpq
  have e : ∀ (k : Nat) (hk : k < (l.set i (g, T, ds)).length), ((l.set i (g, T, ds))[k]).1 = (l[k]'(by simpa using hk)).1 := fun k hk => by
    rw [List.getElem_set]
    split
    · rename_i h'; subst h'
      have hil : i < l.length := (List.getElem?_eq_some_iff.1 hi).1
      rw [List.getElem?_eq_getElem hil] at hi
      have := Option.some.inj hi
      rw [this]
    · rfl
  rw [e p hp, e q hq]
  exact h p q (by simpa using hp) (by simpa using hq) hpq
theorem Mm.putAt {w0 w w' : World} {l : List (Nat × TypeId × Array Value)} {g : Nat} {T : TypeId} {cs ds : Array Value} (h : Mm w0 w l) (i : Nat) (hi : l[i]? = some (g, T, cs)) (hw : Wrote g w w') (hr : Row w' g T ds) : Mm w0 w' (l.set i (g, T, ds)) := by
  have hil : i < l.length := (List.getElem?_eq_some_iff.1 hi).1
  refine ⟨fun j k U es hj => ?_, apart_set h.apart i hi, fun j k U es hj => ?_, h.below.trans (hw.below (h.ge i g T cs hi))⟩
  · by_cases e : i = j
    · subst e
      rw [List.getElem?_set_self hil] at hj
      simp at hj; obtain ⟨rfl, rfl, rfl⟩ := hj; exact hr
    · rw [List.getElem?_set_ne e] at hj
      refine hw.row (h.rows j k U es hj) ?_
      have hd := List.pairwise_iff_getElem.1 h.apart
      obtain ⟨_, e1⟩ := List.getElem?_eq_some_iff.1 hi
      obtain ⟨hjl, e2⟩ := List.getElem?_eq_some_iff.1 hj
      rcases Nat.lt_or_gt_of_ne e with h' | h'
      · have := hd i j hil hjl h'; rw [e1, e2] at this; exact Ne.symm this
      · have := hd j i hjl hil h'; rw [e1, e2] at this; exact this
  · by_cases e : i = j
    · subst e
      rw [List.getElem?_set_self hil] at hj
      simp at hj; obtain ⟨rfl, rfl, rfl⟩ := hj; exact h.ge i g T cs hi
    · rw [List.getElem?_set_ne e] at hj; exact h.ge j k U es hj

section
variable {P : Program} {ops : Array Oper} {Q : Exit → Act → World → Prop} {rest : List Oper} {o : Oper} {a : Act} {w0 w : World} {l : List (Nat × TypeId × Array Value)}
/-- steps over Mm -/
theorem mmBox (hM : Mm w0 w l) (T : TypeId) (x : Operand) (cs : Array Value) (ho : o.op = .box T x) (hg : Region.wanted o (yielded ops a.tmps) = true) (hx : a.eval x = .agg cs)
    (h : ∀ w1, Mm w0 w1 ((w.heap.size, T, cs) :: l) → wpList P ops Q rest (a.put o.dst (.pointer (some ⟨w.heap.size, 0, none⟩))) w1) : wpList P ops Q (o :: rest) a w :=
  kBoxL _ x _ ho hg hx fun w1 hr _ hb => h w1 (hM.new hr hb)
theorem mmAlloc (hM : Mm w0 w l) (T : TypeId) (Z : Array Value) (ho : o.op = .alloc T) (hg : Region.wanted o (yielded ops a.tmps) = true) (hz : ((P.info? T).bind (·.zero)).map Value.cells = some Z)
    (h : ∀ w1, Mm w0 w1 ((w.heap.size, T, Z) :: l) → wpList P ops Q rest (a.put o.dst (.pointer (some ⟨w.heap.size, 0, none⟩))) w1) : wpList P ops Q (o :: rest) a w :=
  kAllocL _ _ ho hg hz fun w1 hr _ hb => h w1 (hM.new hr hb)
theorem mmLoad (hM : Mm w0 w l) (i : Nat) (x : Operand) (T U : TypeId) (g : Nat) (cs : Array Value) (d : TypeDesc) (hi : l[i]? = some (g, U, cs)) (ho : o.op = .load T x) (hg : Region.wanted o (yielded ops a.tmps) = true) (hx : a.eval x = .pointer (some ⟨g, 0, none⟩)) (hu : P.underlying T = some d) (hd : aggDesc d = true) (hs : (P.info? T).map (·.size) = some cs.size)
    (h : wpList P ops Q rest (a.put o.dst (.agg cs)) w) : wpList P ops Q (o :: rest) a w :=
  kLoadRow _ _ x g _ _ ho hg hx (hM.get i hi) hu hd hs h
theorem mmStoreAt (hM : Mm w0 w l) (i : Nat) (T U : TypeId) (g : Nat) (x y : Operand) (cs ds : Array Value) (hi : l[i]? = some (g, U, cs)) (ho : o.op = .store T x y) (hg : Region.wanted o (yielded ops a.tmps) = true) (hx : a.eval x = .pointer (some ⟨g, 0, none⟩)) (hy : a.eval y = .agg ds) (hs : (P.info? T).map (·.size) = some ds.size) (hn : ds.size = cs.size) (h1 : ∀ v ∈ ds, v.oneCell' = true)
    (h : ∀ w1, Mm w0 w1 (l.set i (g, U, ds)) → wpList P ops Q rest (a.put o.dst undef) w1) : wpList P ops Q (o :: rest) a w :=
  kStoreRow _ _ x y g _ _ ho hg hx hy (hM.get i hi) hs hn h1 fun w1 hr hw => h w1 (hM.putAt i hi hw hr)
end

/-! ### several new variables -/
/-- the slots point to blocks that are there, each to another one -/
def ApartAll (A : List Tmp) (a : Act) (w : World) : Prop :=
  (∀ s ∈ A, ∀ g, a.tmps.getD s undef = .pointer (some ⟨g, 0, none⟩) → g < w.heap.size) ∧ ∀ s ∈ A, ∀ t ∈ A, s ≠ t → ∀ g, a.tmps.getD s undef = .pointer (some ⟨g, 0, none⟩) → a.tmps.getD t undef = .pointer (some ⟨g, 0, none⟩) → False
theorem apartAll_start {A : List Tmp} {a : Act} {w : World} (h : ∀ s ∈ A, a.tmps.getD s undef = undef) : ApartAll A a w :=
  ⟨fun s hs g e => (by rw [h s hs] at e; cases e), fun s hs _ _ _ g e => (by rw [h s hs] at e; cases e)⟩
theorem ApartAll.step {A : List Tmp} {a a' : Act} {w w' : World} (h : ApartAll A a w) (he : ∀ s ∈ A, a'.tmps.getD s undef = a.tmps.getD s undef) (hz : w.heap.size ≤ w'.heap.size) : ApartAll A a' w' := by
  refine ⟨fun s hs g e => ?_, fun s hs t ht hne g e1 e2 => ?_⟩
  · rw [he s hs] at e; exact Nat.lt_of_lt_of_le (h.1 s hs g e) hz
  · rw [he s hs] at e1; rw [he t ht] at e2; exact h.2 s hs t ht hne g e1 e2
theorem ApartAll.new {A : List Tmp} {a : Act} {w w' : World} {d : Tmp} (h : ApartAll A a w) (hd : d < a.tmps.size) (hz : w.heap.size < w'.heap.size) : ApartAll A (a.put (some d) (.pointer (some ⟨w.heap.size, 0, none⟩))) w' := by
  refine ⟨fun s hs g e => ?_, fun s hs t ht hne g e1 e2 => ?_⟩
  · rw [put_get hd] at e
    split at e
    · injection e with e; injection e with e; injection e with e; omega
    · exact Nat.lt_trans (h.1 s hs g e) hz
  · rw [put_get hd] at e1 e2
    split at e1 <;> split at e2
    · rename_i h1 h2; exact hne (h1.trans h2.symm)
    · injection e1 with e1; injection e1 with e1; injection e1 with e1
      have := h.1 t ht g e2; omega
    · injection e2 with e2; injection e2 with e2; injection e2 with e2
      have := h.1 s hs g e1; omega
    · exact h.2 s hs t ht hne g e1 e2

section
variable {P : Program} {Q : Exit → Act → World → Prop}
def SymStepN (P : Program) (Q : Exit → Act → World → Prop) (A : List Tmp) (l : List Oper) (alt : Nat → Nat) (ss : List Spec) (a0 : Act) (w0 : World) (i : Nat) (o : Oper) : Prop :=
  ∀ a w, a.tmps.size = a0.tmps.size → (∀ s, (∀ (j : Nat) o, l[j]? = some o → o.dst ≠ some s) → a.tmps.getD s undef = a0.tmps.getD s undef) → Below w0.heap.size w0 w → ApartAll A a w →
      (∀ e ∈ o.after, Region.binds .any e = true → specAt ss e.on w (a.tmps.getD (srcOf l alt e.on) undef)) →
      wpList P l.toArray (Exit.then (fun a' w' => ∃ v, a' = a.put o.dst v ∧ Below w0.heap.size w0 w' ∧ (∀ j, j < l.length → specAt ss j w (a.tmps.getD (srcOf l alt j) undef) → specAt ss j w' (a.tmps.getD (srcOf l alt j) undef)) ∧ ApartAll A a' w' ∧ specAt ss i w' (a'.tmps.getD (srcOf l alt i) undef)) (NoPanic Q)) [o] a w

/-- new variables are apart, by the list of the values -/
def ApartV (is : List Nat) (vs : List Value) : Prop := ∀ i ∈ is, ∀ j ∈ is, i ≠ j → ∀ g, vs.getD i undef = .pointer (some ⟨g, 0, none⟩) → vs.getD j undef = .pointer (some ⟨g, 0, none⟩) → False
theorem region_symN {id : Nat} {a0 : Act} {w0 : World} {l : List Oper} (is : List Nat) (A : List Tmp) (hAI : (is.all fun i => ((l[i]?).bind (·.dst)).isSome && A.contains (dstOf l i)) = true) (alt : Nat → Nat) (ss fs : List Spec) (hm : P.follows .mixedOrders = true) (hB : slots2B l a0.tmps.size alt = true) (hl : ss.length = l.length) (hfs : finList l alt ss = fs) (hA : ∀ s ∈ A, a0.tmps.getD s undef = undef)
    (hstep : ∀ i o, l[i]? = some o → SymStepN P Q A l alt ss a0 w0 i o)
    (hfin : ∀ w, Below w0.heap.size w0 w → AllV w fs (fun vs => ApartV is vs → Q .normal (putAll a0 l vs) w)) :
    (Code.region id l.toArray true).wp P Q a0 w0 := by
  refine region_inv3 alt (specAt ss) (ApartAll A) (fun w _ => apartAll_start hA) hm hB hstep ?_
  intro a w hsz hdf hbel hX hoth hall
  have hf := hfin w hbel
  obtain ⟨vs, hvs⟩ : ∃ vs : List Value, vs = (List.range l.length).map fun j => match (l[j]?).bind (·.dst) with | some d => a.tmps.getD d undef | none => undef := ⟨_, rfl⟩
  have hvl : vs.length = l.length := by rw [hvs]; simp
  have hva : ∀ j, j < l.length → vs.getD j undef = match (l[j]?).bind (·.dst) with | some d => a.tmps.getD d undef | none => undef := fun j hj => by
    rw [hvs]; simp [List.getD_eq_getElem?_getD, hj]
  have key := allV_at fs _ vs (by rw [← hfs, hvl]; simp [finList]) (fun j hj => by
    rw [← hfs] at hj ⊢
    have hjl : j < l.length := by simpa [finList] using hj
    have e1 : (finList l alt ss)[j]? = some (finAt l alt ss j) := by simp [finList, hjl]
    unfold specAt
    rw [e1]
    show (finAt l alt ss j).at w (vs.getD j undef)
    rw [hva j hjl]
    obtain ⟨o, ho⟩ : ∃ o, l[j]? = some o := ⟨l[j], List.getElem?_eq_getElem hjl⟩
    have hss : ∀ i, i < l.length → ss[i]? = some (ss.getD i (.val undef)) := fun i hi => by
      rw [List.getD_eq_getElem?_getD, List.getElem?_eq_getElem (by omega)]; simp
    unfold finAt
    cases hd : o.dst with
    | none => simp [ho, hd, Spec.at]
    | some d =>
      have ho2 : (l[j]?).bind (·.dst) = some d := by rw [ho]; simp [hd]
      rw [ho2]
      show Spec.at (match (List.range l.length).find? (fun i => alt i == j && ((l[i]?).bind (·.dst)).isNone) with | some i => ss.getD i (.val undef) | none => ss.getD j (.val undef)) w (a.tmps.getD d undef)
      cases hq : (List.range l.length).find? (fun i => alt i == j && ((l[i]?).bind (·.dst)).isNone) with
      | none =>
        have h1 := hall j hjl
        unfold specAt at h1
        rw [hss j hjl] at h1
        have es : srcOf l alt j = d := by unfold srcOf; simp [ho, hd]
        rw [es] at h1
        exact h1
      | some i =>
        have h2 := List.find?_some hq
        have hil : i < l.length := by simpa using List.mem_of_find?_eq_some hq
        simp only [Bool.and_eq_true, beq_iff_eq] at h2
        obtain ⟨h3, h4⟩ := h2
        obtain ⟨oi, hoi⟩ : ∃ o, l[i]? = some o := ⟨l[i], List.getElem?_eq_getElem hil⟩
        rw [hoi] at h4
        have h5 : oi.dst = none := by simpa using h4
        have h1 := hall i hil
        unfold specAt at h1
        rw [hss i hil] at h1
        have es : srcOf l alt i = d := by unfold srcOf; simp [hoi, h5, h3, dstOf, ho, hd]
        rw [es] at h1
        exact h1) hf
  have ea : a = putAll a0 l vs := by
    have hs2 := putAll_size l vs a0
    have hd2 := putAll_defers l vs a0
    clear hX key hf hall
    obtain ⟨tm, df⟩ := a
    generalize hpa : putAll a0 l vs = pa at *
    obtain ⟨tm2, df2⟩ := pa
    have e1 : tm = tm2 := by
      have hn : tm.size = a0.tmps.size := hsz
      have hn2 : tm2.size = a0.tmps.size := hs2
      apply Array.ext (by omega)
      intro s h1 h2
      have hg : tm.getD s undef = tm2.getD s undef := by
        by_cases hin : ∃ (j : Nat) (o : Oper), l[j]? = some o ∧ o.dst = some s
        · obtain ⟨j, o, ho, hd⟩ := hin
          have hjl : j < l.length := (List.getElem?_eq_some_iff.1 ho).1
          have h3 := putAll_in l vs a0 j o (Nat.lt_of_lt_of_eq h1 hn) hvl.symm ho hd ((slots2_at hB ho).1 s hd).2
          rw [hpa] at h3
          rw [show tm2.getD s undef = vs.getD j undef from h3, hva j hjl, ho]
          simp [hd]
        · have hno : ∀ (j : Nat) o, l[j]? = some o → o.dst ≠ some s := fun j o hj hd => hin ⟨j, o, hj, hd⟩
          have h3 := putAll_out l vs a0 hno
          rw [hpa] at h3
          exact (hoth s hno).trans h3.symm
      simpa [h1, h2] using hg
    have e2 : df = df2 := hdf.trans hd2.symm
    rw [e1, e2]
  have hV : ApartV is vs := fun i hi j hj hne g e1 e2 => by
    have hq : ∀ i ∈ is, ∃ o d, l[i]? = some o ∧ o.dst = some d ∧ d ∈ A ∧ i < l.length := fun i hi => by
      have h1 := List.all_eq_true.1 hAI i hi
      simp only [Bool.and_eq_true] at h1
      cases ho : l[i]? with
      | none => rw [ho] at h1; simp at h1
      | some o =>
        cases hd : o.dst with
        | none => rw [ho] at h1; simp [hd] at h1
        | some d =>
          have h2 := h1.2
          have e : dstOf l i = d := by unfold dstOf; simp [ho, hd]
          rw [e] at h2
          exact ⟨o, d, rfl, hd, by simpa using h2, (List.getElem?_eq_some_iff.1 ho).1⟩
    obtain ⟨oi, di, h1, h2, h3, h4⟩ := hq i hi
    obtain ⟨oj, dj, k1, k2, k3, k4⟩ := hq j hj
    rw [hva i h4, h1] at e1
    rw [hva j k4, k1] at e2
    simp only [Option.bind_some, h2] at e1
    simp only [Option.bind_some, k2] at e2
    have hdd : di ≠ dj := fun e => ((slots2_at hB h1).1 di h2).2 j oj k1 (Ne.symm hne) (by rw [k2, e])
    exact hX.2 di h3 dj k3 hdd g e1 e2
  rw [ea]; exact key hV

/-- the end of a step that yields a value, none of the new variables -/
theorem symVN {A : List Tmp} {l : List Oper} {alt : Nat → Nat} {ss : List Spec} {a0 a : Act} {w0 w w' : World} {o : Oper} {i d : Nat} {v : Value} (hbel : Below w0.heap.size w0 w) (hX : ApartAll A a w) (hsz : a.tmps.size = a0.tmps.size) (hd : o.dst = some d) (hs : srcOf l alt i = d) (hdn : d < a0.tmps.size) (hnA : A.contains d = false) (hB : Below w.heap.size w w') (hp : specAt ss i w' v) :
    wpList P l.toArray (Exit.then (fun a' w' => ∃ v, a' = a.put o.dst v ∧ Below w0.heap.size w0 w' ∧ (∀ j, j < l.length → specAt ss j w (a.tmps.getD (srcOf l alt j) undef) → specAt ss j w' (a.tmps.getD (srcOf l alt j) undef)) ∧ ApartAll A a' w' ∧ specAt ss i w' (a'.tmps.getD (srcOf l alt i) undef)) (NoPanic Q)) [] (a.put o.dst v) w' := by
  refine mixOn ⟨v, rfl, hbel.trans (hB.mono hbel.size), fun j _ h => specAt_mono j w w' _ hB h, hX.step (fun t ht => ?_) hB.size, ?_⟩
  · rw [hd, put_get (by rw [hsz]; exact hdn), if_neg]
    intro e; subst e
    have : A.contains t = true := by simpa using ht
    rw [hnA] at this; cases this
  · rw [hd, put_get (by rw [hsz]; exact hdn), hs, if_pos rfl]; exact hp
/-- the end of a step that makes a new variable -/
theorem symAN {A : List Tmp} {l : List Oper} {alt : Nat → Nat} {ss : List Spec} {a0 a : Act} {w0 w w' : World} {o : Oper} {i d : Nat} (hbel : Below w0.heap.size w0 w) (hX : ApartAll A a w) (hsz : a.tmps.size = a0.tmps.size) (hd : o.dst = some d) (hs : srcOf l alt i = d) (hdn : d < a0.tmps.size) (hz : w.heap.size < w'.heap.size) (hB : Below w.heap.size w w') (hp : specAt ss i w' (.pointer (some ⟨w.heap.size, 0, none⟩))) :
    wpList P l.toArray (Exit.then (fun a' w' => ∃ v, a' = a.put o.dst v ∧ Below w0.heap.size w0 w' ∧ (∀ j, j < l.length → specAt ss j w (a.tmps.getD (srcOf l alt j) undef) → specAt ss j w' (a.tmps.getD (srcOf l alt j) undef)) ∧ ApartAll A a' w' ∧ specAt ss i w' (a'.tmps.getD (srcOf l alt i) undef)) (NoPanic Q)) [] (a.put o.dst (.pointer (some ⟨w.heap.size, 0, none⟩))) w' := by
  refine mixOn ⟨_, rfl, hbel.trans (hB.mono hbel.size), fun j _ h => specAt_mono j w w' _ hB h, ?_, ?_⟩
  · rw [hd]; exact hX.new (by rw [hsz]; exact hdn) hz
  · rw [hd, put_get (by rw [hsz]; exact hdn), hs, if_pos rfl]; exact hp
/-- what is spoken of: of the variable of the slot s only that it has n cells; all other new variables have slots of the list -/
def OnlyAt (A : List Tmp) (l : List Oper) (alt : Nat → Nat) (i : Nat) (s : Tmp) (n : Nat) : Nat → List Spec → Prop
  | _, [] => True
  | k, .val _ :: ss => OnlyAt A l alt i s n (k + 1) ss
  | k, .fresh _ _ n' :: ss => (A.contains (srcOf l alt k) = true ∧ (srcOf l alt k = s → n' = n)) ∧ OnlyAt A l alt i s n (k + 1) ss
  | k, .hold _ _ _ :: ss => (k = i ∨ (A.contains (srcOf l alt k) = true ∧ srcOf l alt k ≠ s)) ∧ OnlyAt A l alt i s n (k + 1) ss
  | _, .prop _ _ :: _ => False
theorem onlyAt_wrote {A : List Tmp} {l : List Oper} {alt : Nat → Nat} {i : Nat} {s : Tmp} {T : TypeId} {cs : Array Value} {g : Nat} {a : Act} {w w' : World} (hX : ApartAll A a w) (hsA : A.contains s = true) (hs : a.tmps.getD s undef = .pointer (some ⟨g, 0, none⟩)) (hw : Wrote g w w') (hr : Row w' g T cs) (hTT : ∀ T' cs', Row w g T' cs' → T' = T) :
    ∀ (ss : List Spec) (k : Nat), OnlyAt A l alt i s cs.size k ss → ∀ j, k + j ≠ i → specAt ss j w (a.tmps.getD (srcOf l alt (k + j)) undef) → specAt ss j w' (a.tmps.getD (srcOf l alt (k + j)) undef) := by
  intro ss
  induction ss with
  | nil => intro k _ j _ _; simp [specAt]
  | cons sp ss ih =>
    intro k ho j hji h
    cases j with
    | succ j =>
      have ho' : OnlyAt A l alt i s cs.size (k + 1) ss := by cases sp with
        | val _ => exact ho
        | fresh _ _ _ => exact ho.2
        | hold _ _ _ => exact ho.2
        | prop _ _ => exact ho.elim
      have := ih (k + 1) ho' j (by omega) (by rw [show k + 1 + j = k + (j + 1) by omega]; exact h)
      rw [show k + 1 + j = k + (j + 1) by omega] at this; exact this
    | zero =>
      show sp.at w' _
      have h : sp.at w _ := h
      rw [Nat.add_zero] at *
      cases sp with
      | val u => exact h
      | fresh B T' n =>
        obtain ⟨⟨e1, e2⟩, _⟩ := ho
        obtain ⟨g', cs', h1, h2, h3, h4⟩ := h
        by_cases e : srcOf l alt k = s
        · rw [e, hs] at h1
          injection h1 with h1; injection h1 with h1; injection h1 with h1
          subst h1
          have := hTT _ _ h4
          subst this
          refine ⟨g, cs, by rw [e]; exact hs, h2, (e2 e).symm, hr⟩
        · have hne : g' ≠ g := fun e3 => hX.2 _ (by simpa using e1) s (by simpa using hsA) e g (by rw [h1, e3]) hs
          exact ⟨g', cs', h1, h2, h3, hw.row h4 hne⟩
      | hold B T' cs' =>
        obtain ⟨e1, _⟩ := ho
        obtain ⟨g', h1, h2, h4⟩ := h
        rcases e1 with e1 | ⟨e1, e2⟩
        · exact absurd e1 hji
        · have hne : g' ≠ g := fun e3 => hX.2 _ (by simpa using e1) s (by simpa using hsA) e2 g (by rw [h1, e3]) hs
          exact ⟨g', h1, h2, hw.row h4 hne⟩
      | prop p m => exact ho.elim
/-- the end of a step that writes a new variable -/
theorem symWN {A : List Tmp} {l : List Oper} {alt : Nat → Nat} {ss : List Spec} {a a' : Act} {w0 w w' : World} {o : Oper} {i g : Nat} {s : Tmp} {T : TypeId} {cs old : Array Value} {v : Value} (hbel : Below w0.heap.size w0 w) (hX : ApartAll A a w) (ha : a' = a.put o.dst v) (hd : o.dst = none) (hsA : A.contains s = true) (hs : a.tmps.getD s undef = .pointer (some ⟨g, 0, none⟩)) (hold : Row w g T old) (hW : Wrote g w w') (hg : w0.heap.size ≤ g) (hr : Row w' g T cs) (ho : OnlyAt A l alt i s cs.size 0 ss) (hp : specAt ss i w' (a.tmps.getD (srcOf l alt i) undef)) :
    wpList P l.toArray (Exit.then (fun a' w' => ∃ v, a' = a.put o.dst v ∧ Below w0.heap.size w0 w' ∧ (∀ j, j < l.length → specAt ss j w (a.tmps.getD (srcOf l alt j) undef) → specAt ss j w' (a.tmps.getD (srcOf l alt j) undef)) ∧ ApartAll A a' w' ∧ specAt ss i w' (a'.tmps.getD (srcOf l alt i) undef)) (NoPanic Q)) [] a' w' := by
  have e : a' = a := by rw [ha, hd]; rfl
  refine mixOn ⟨v, ha, hbel.trans (hW.below hg), fun j _ h => ?_, ?_, by rw [e]; exact hp⟩
  · by_cases hji : j = i
    · subst hji; exact hp
    · have := onlyAt_wrote (i := i) hX hsA hs hW hr (fun T' cs' h' => by unfold Row at h' hold; rw [hold] at h'; injection h' with h'; injection h' with h1 h2 h3; exact h2.symm) ss 0 ho j (by omega) (by rw [Nat.zero_add]; exact h)
      rw [Nat.zero_add] at this; exact this
  · rw [e]; exact hX.step (fun _ _ => rfl) (Nat.le_of_eq hW.size.symm)
end
end Go.Proofs.Ytdeggdmoijfhdaa

/-
  Single operations on fields, flags and integers, in any program.
-/
namespace Go.Proofs.Ytdeggdmoijfhdaa
open Go Go.RowKit

section
variable {P : Program} {ops : Array Oper} {Q : Exit → Act → World → Prop} {rest : List Oper} {o : Oper} {a : Act} {w : World}
/-- at the operation that fills this slot -/
theorem At (n : Nat) {c : Op} {t : TypeId} {d : String} {e : Array Edge} {g : Option (Nat × Bool)} (h : wpList P ops Q (Oper.mk (some n) c t d e g :: rest) a w) : wpList P ops Q (Oper.mk (some n) c t d e g :: rest) a w := h
/-- at the store of one slot to another's variable -/
theorem AtS (m n : Nat) {T t : TypeId} {d : String} {e : Array Edge} {g : Option (Nat × Bool)} (h : wpList P ops Q (Oper.mk none (Op.store T (.tmp m) (.tmp n)) t d e g :: rest) a w) : wpList P ops Q (Oper.mk none (Op.store T (.tmp m) (.tmp n)) t d e g :: rest) a w := h
theorem kNilCheck (x : Operand) (b : Addr) (ho : o.op = .nilCheck x) (hg : Region.wanted o (yielded ops a.tmps) = true) (hx : a.eval x = .pointer (some b)) (h : wpList P ops Q rest (a.put o.dst (.pointer (some b))) w) : wpList P ops Q (o :: rest) a w :=
  kPure _ hg (by unfold execOp; simp only [ho, hx, Sem.run_pure]) h
theorem run_fieldAt (T : TypeId) (k n fo : Nat) (fs : Array Field) (f : Field) (b off : Nat) (hu : P.underlying T = some (.struct fs)) (hf : fs[k]? = some f) (h0 : f.offset = fo) (hn : (P.info? f.type).map (·.size) = some (n + 1)) (w : World) : (Instr.fieldAt T (.pointer (some ⟨b, off, none⟩)) k).run P w = .ok (.pointer (some ⟨b, off + fo, none⟩)) w := by
  unfold Instr.fieldAt
  rw [Sem.run_bind, run_underlying hu w]
  cases hq : P.info? f.type with
  | none => simp [hq] at hn
  | some i =>
    have hs : i.size = n + 1 := by simpa [hq] using hn
    simp [hf, Instr.sureAddr, fieldPlace, h0, sizeOf, typeInfo, hq, hs, add_none]
theorem kFieldAt (T : TypeId) (x : Operand) (k n fo : Nat) (fs : Array Field) (f : Field) (b off : Nat) (ho : o.op = .fieldAddr T x k) (hg : Region.wanted o (yielded ops a.tmps) = true) (hx : a.eval x = .pointer (some ⟨b, off, none⟩)) (hu : P.underlying T = some (.struct fs)) (hf : fs[k]? = some f) (h0 : f.offset = fo) (hn : (P.info? f.type).map (·.size) = some (n + 1)) (h : wpList P ops Q rest (a.put o.dst (.pointer (some ⟨b, off + fo, none⟩))) w) : wpList P ops Q (o :: rest) a w :=
  kPure _ hg (by unfold execOp; simp only [ho, hx, Sem.run_bind, run_fieldAt T k n fo fs f b off hu hf h0 hn, Result.andThen_ok, Sem.run_pure]) h
theorem kNot (T : TypeId) (x : Operand) (b : Bool) (ho : o.op = .unOp .not T x) (hg : Region.wanted o (yielded ops a.tmps) = true) (hx : a.eval x = .bool b) (h : wpList P ops Q rest (a.put o.dst (.bool (!b))) w) : wpList P ops Q (o :: rest) a w :=
  kPure _ hg (by unfold execOp; simp [ho, hx, Op.unary]) h
theorem kEqlI (T T2 : TypeId) (x y : Operand) (k : IntKind) (m n : Int) (b : Bool) (ho : o.op = .binOp .eql T x y T2) (hg : Region.wanted o (yielded ops a.tmps) = true) (hx : a.eval x = .int k m) (hy : a.eval y = .int k n) (hb : decide (m = n) = b) (h : wpList P ops Q rest (a.put o.dst (.bool b)) w) : wpList P ops Q (o :: rest) a w := by
  subst hb
  refine kPure _ hg ?_ h
  unfold execOp
  simp only [ho, hx, hy]
  simp [eqGuard, binOp, Op.intCmp]
  rfl
theorem kNeqI (T T2 : TypeId) (x y : Operand) (k : IntKind) (m n : Int) (b : Bool) (ho : o.op = .binOp .neq T x y T2) (hg : Region.wanted o (yielded ops a.tmps) = true) (hx : a.eval x = .int k m) (hy : a.eval y = .int k n) (hb : (!decide (m = n)) = b) (h : wpList P ops Q rest (a.put o.dst (.bool b)) w) : wpList P ops Q (o :: rest) a w := by
  subst hb
  refine kPure _ hg ?_ h
  unfold execOp
  simp only [ho, hx, hy]
  simp [eqGuard, binOp, Op.intCmp]
  rfl
theorem kGtrI (T T2 : TypeId) (x y : Operand) (k : IntKind) (m n : Int) (b : Bool) (ho : o.op = .binOp .gtr T x y T2) (hg : Region.wanted o (yielded ops a.tmps) = true) (hx : a.eval x = .int k m) (hy : a.eval y = .int k n) (hb : decide (m > n) = b) (h : wpList P ops Q rest (a.put o.dst (.bool b)) w) : wpList P ops Q (o :: rest) a w := by
  subst hb
  refine kPure _ hg ?_ h
  unfold execOp
  simp only [ho, hx, hy]
  simp [eqGuard, binOp, Op.intCmp]
theorem kGeqI (T T2 : TypeId) (x y : Operand) (k : IntKind) (m n : Int) (b : Bool) (ho : o.op = .binOp .geq T x y T2) (hg : Region.wanted o (yielded ops a.tmps) = true) (hx : a.eval x = .int k m) (hy : a.eval y = .int k n) (hb : decide (m ≥ n) = b) (h : wpList P ops Q rest (a.put o.dst (.bool b)) w) : wpList P ops Q (o :: rest) a w := by
  subst hb
  refine kPure _ hg ?_ h
  unfold execOp
  simp only [ho, hx, hy]
  simp [eqGuard, binOp, Op.intCmp]
theorem kLssI (T T2 : TypeId) (x y : Operand) (k : IntKind) (m n : Int) (b : Bool) (ho : o.op = .binOp .lss T x y T2) (hg : Region.wanted o (yielded ops a.tmps) = true) (hx : a.eval x = .int k m) (hy : a.eval y = .int k n) (hb : decide (m < n) = b) (h : wpList P ops Q rest (a.put o.dst (.bool b)) w) : wpList P ops Q (o :: rest) a w := by
  subst hb
  refine kPure _ hg ?_ h
  unfold execOp
  simp only [ho, hx, hy]
  simp [eqGuard, binOp, Op.intCmp]
theorem kLeqI (T T2 : TypeId) (x y : Operand) (k : IntKind) (m n : Int) (b : Bool) (ho : o.op = .binOp .leq T x y T2) (hg : Region.wanted o (yielded ops a.tmps) = true) (hx : a.eval x = .int k m) (hy : a.eval y = .int k n) (hb : decide (m ≤ n) = b) (h : wpList P ops Q rest (a.put o.dst (.bool b)) w) : wpList P ops Q (o :: rest) a w := by
  subst hb
  refine kPure _ hg ?_ h
  unfold execOp
  simp only [ho, hx, hy]
  simp [eqGuard, binOp, Op.intCmp]
end
end Go.Proofs.Ytdeggdmoijfhdaa

/-
  A region that draws its order, by a plan of all of it, in which each operation that is not quiet may add to what the later worlds keep.
-/
namespace Go.Proofs.Ytdeggdmoijfhdaa
open Go Go.RowKit

section
variable {P : Program} {ops : Array Oper} {md : Region.Mode} {Q : Exit → Act → World → Prop}

theorem yLess {S S' : World → Prop} {o : Oper} {v : Value} {a : Act} (hS : ∀ w, S' w → S w) (h : YieldsIf P ops S o v a) : YieldsIf P ops S' o v a := by
  unfold YieldsIf at *
  exact h.imp (fun h => ⟨h.1, fun w hw => h.2 w (hS w hw)⟩) id

def headMixD (P : Program) (md : Region.Mode) (ops : Array Oper) (Q : Exit → Act → World → Prop) (L : Array Bool → Act → World → Prop) : Nat → (World → Prop) → Array Bool → Act → World → Prop
  | 0, _, listed, a, w => L listed a w
  | f + 1, S, listed, a, w => Region.ready md ops listed ≠ [] ∧ ∀ i ∈ Region.ready md ops listed, wpOp P ops Q i (fun a' w' => ∃ S' : World → Prop, (∀ w, S' w → S w) ∧ S' w' ∧ headMixD P md ops Q L f S' (listed.setIfInBounds i true) a' w') a w
theorem any_of_headMixD {g : Nat} {L : Array Bool → Act → World → Prop} (hL : ∀ listed a w, L listed a w → wpAny P md ops Q g listed a w) :
    ∀ (f : Nat) (S : World → Prop) (listed : Array Bool) (a : Act) (w : World), headMixD P md ops (NoPanic Q) L f S listed a w → wpAny P md ops Q (f + g) listed a w
  | 0, _, listed, a, w, h => by rw [Nat.zero_add]; exact hL _ _ _ h
  | f + 1, S, listed, a, w, h => by
    rw [show f + 1 + g = (f + g) + 1 by omega]
    exact ⟨fun h0 => absurd h0 h.1, fun i hi => wpOp_noPanic (wpOp_mono (fun a' w' ⟨S', _, _, h'⟩ => any_of_headMixD hL f S' _ a' w' h') (h.2 i hi))⟩
theorem headMixD_take {i : Nat} {oi : Oper} {v : Value} {L : Array Bool → Act → World → Prop} (hi : ops[i]? = some oi) (hsel : ∀ (j : Nat) (o : Oper) cs b, ops[j]? = some o → o.op ≠ .select cs b)
    (hQ : ∀ c a w, Q (.panic c) (a.put oi.dst v) w → Q (.panic c) a w)
    (hdone : ∀ listed a w, L listed a w → Region.ready md ops listed = []) (f : Nat) :
    ∀ (S : World → Prop) (listed : Array Bool) (a : Act) (w : World),
      (∀ j oj, ops[j]? = some oj → j ≠ i → listed.getD j true = false → (∀ e ∈ oj.after, Region.binds md e = true → e.on ≠ i) → oi.apart ops oj = true) →
      i ∈ Region.ready md ops listed → YieldsIf P ops S oi v a → S w →
      headMixD P md ops Q L f S (listed.setIfInBounds i true) (a.put oi.dst v) w → headMixD P md ops Q L (f + 1) S listed a w := by
  induction f with
  | zero =>
    intro S listed a w _ hr hy hS H
    refine ⟨fun h => (by rw [h] at hr; cases hr), fun j hj => ?_⟩
    by_cases hji : j = i
    · subst hji; exact hy.wpOp hi hS ⟨S, fun _ h => h, hS, H⟩
    · have h1 := hdone _ _ _ H
      have h2 := ready_mono hj hji
      rw [h1] at h2; cases h2
  | succ f ih =>
    intro S listed a w hfree hr hy hS H
    have hun := (mem_ready.1 hr).1
    refine ⟨fun h => (by rw [h] at hr; cases hr), fun j hj => ?_⟩
    by_cases hji : j = i
    · subst hji; exact hy.wpOp hi hS ⟨S, fun _ h => h, hS, H⟩
    · obtain ⟨hjun, oj, hoj, hall⟩ := mem_ready.1 hj
      have hnot : ∀ e ∈ oj.after, Region.binds md e = true → e.on ≠ i := fun e he hb heq => by
        have h1 := hall e he hb
        rw [heq, getD_both hun] at h1
        cases h1
      have h2 := wpOp_putIf hoj (hfree j oj hoj hji hjun hnot) (fun cs b => hsel i oi cs b hi) (fun cs b => hsel j oj cs b hoj) hQ hy (H.2 j (ready_mono hj hji))
      refine wpOp_mono (fun a' w' h3 => ?_) h2
      obtain ⟨hya, S', hle, hS', H'⟩ := h3
      refine ⟨S', hle, hS', ih S' (listed.setIfInBounds j true) a' w' (fun k ok hk hki hu hno => ?_) (ready_mono hr (Ne.symm hji)) (yLess hle hya) hS' ?_⟩
      · refine hfree k ok hk hki ?_ hno
        by_cases hjk : j = k
        · subst hjk; exact hjun
        · rw [getD_set_ne true hjk] at hu; exact hu
      · rw [Array.setIfInBounds_comm _ _ hji]; exact H'

def wpMixD (P : Program) (ops : Array Oper) (Q : Exit → Act → World → Prop) (L : Act → World → Prop) : List Bool → List Oper → (World → Prop) → Act → World → Prop
  | true :: bs, o :: rest, S, a, w => S w ∧ ∃ v, YieldsIf P ops S o v a ∧ wpMixD P ops Q L bs rest S (a.put o.dst v) w
  | false :: bs, o :: rest, S, a, w => wpList P ops (Exit.then (fun a' w' => ∃ S' : World → Prop, (∀ w, S' w → S w) ∧ S' w' ∧ wpMixD P ops Q L bs rest S' a' w') (NoPanic Q)) [o] a w
  | _, _, _, a, w => L a w
theorem headMixD_of {Lq : Act → World → Prop} (hsel : Region.noSelect ops = true) :
    ∀ (plan : List (Nat × Bool)) (l : List Oper) (S : World → Prop) (listed : Array Bool) (a : Act) (w : World), plan.map (fun p => ops[p.1]?) = l.map some →
    mixAllP md ops plan listed = true → wpMixD P ops Q Lq (plan.map (·.2)) l S a w →
    headMixD P md ops (NoPanic Q) (fun listed' a' w' => Region.ready md ops listed' = [] ∧ Lq a' w') plan.length S listed a w
  | [], [], _, listed, a, w, _, hB, h => ⟨by simpa [mixAllP] using hB, h⟩
  | [], _ :: _, _, _, _, _, hl, _, _ => by simp at hl
  | _ :: _, [], _, _, _, _, hl, _, _ => by simp at hl
  | (k, true) :: bs, o :: l, S, listed, a, w, hl, hB, h => by
    simp only [List.map_cons, List.cons.injEq] at hl
    obtain ⟨h0, hl'⟩ := hl
    simp only [mixAllP, Bool.and_eq_true, decide_eq_true_eq] at hB
    obtain ⟨⟨⟨hkn, hr⟩, hf⟩, hB'⟩ := hB
    have hr' : k ∈ Region.ready md ops listed := by simpa using hr
    obtain ⟨hS, v, hy, hK⟩ := h
    exact headMixD_take h0 (Region.noSelect_spec hsel) (fun _ _ _ hx => hx) (fun _ _ _ hL => hL.1) bs.length S listed a w (Region.free_spec h0 hf) hr' hy hS
      (headMixD_of hsel bs l S _ _ _ hl' hB' hK)
  | (k, false) :: bs, o :: l, S, listed, a, w, hl, hB, h => by
    simp only [List.map_cons, List.cons.injEq] at hl
    obtain ⟨h0, hl'⟩ := hl
    simp only [mixAllP, Bool.and_eq_true, decide_eq_true_eq] at hB
    obtain ⟨⟨hkn, hr⟩, hB'⟩ := hB
    refine ⟨by rw [hr]; simp, fun i hi => ?_⟩
    rw [hr] at hi
    obtain rfl : i = k := by simpa using hi
    exact wpOp_mono (fun a' w' ⟨S', hle, hS', h'⟩ => ⟨S', hle, hS', headMixD_of hsel bs l S' _ _ _ hl' hB' h'⟩) (wpOp_of_list h0 h)
/-- a region that draws its order, by a plan of all of it -/
theorem region_mixD {id : Nat} {a : Act} {w : World} {l : List Oper} (plan : List (Nat × Bool)) (S : World → Prop) (hm : P.follows .mixedOrders = true) (hB : (Region.noSelect l.toArray && decide (plan.length = l.length) && mixAllP .any l.toArray plan (Array.replicate l.length false)) = true) (hlp : plan.map (fun p => l.toArray[p.1]?) = (plan.filterMap fun p => l[p.1]?).map some)
    (h : ∀ w1, Below w.heap.size w w1 → w1.heap.size = w.heap.size → wpMixD P l.toArray Q (fun a' w' => Q .normal a' w') (plan.map (·.2)) (plan.filterMap fun p => l[p.1]?) S a w1) : (Code.region id l.toArray true).wp P Q a w := by
  have h := h { w with drawn := w.drawn + 1 } ⟨rfl, rfl, rfl, Nat.le_refl _, fun _ _ => rfl⟩ rfl
  simp only [Bool.and_eq_true, decide_eq_true_eq] at hB
  obtain ⟨⟨hsel, hlen⟩, hlex⟩ := hB
  have hsz : l.toArray.size = l.length := by simp
  rw [← hsz] at hlex
  have H := headMixD_of (md := .any) hsel plan _ S _ a _ hlp hlex h
  refine wp_region_any hm ?_
  have := any_of_headMixD (g := 0) (fun listed a' w' hL => (⟨hL.1, hL.2⟩ : wpAny P .any l.toArray Q 0 listed a' w')) _ _ _ _ _ H
  rw [Nat.add_zero, hlen, ← hsz] at this
  exact this
variable {L : Act → World → Prop} {bs : List Bool} {o : Oper} {rest : List Oper} {a : Act} {w : World} {S : World → Prop}
theorem dLoud (h : wpList P ops (Exit.then (fun a' w' => ∃ S' : World → Prop, (∀ w, S' w → S w) ∧ S' w' ∧ wpMixD P ops Q L bs rest S' a' w') (NoPanic Q)) [o] a w) : wpMixD P ops Q L (false :: bs) (o :: rest) S a w := h
theorem dY (v : Value) (hS : S w) (hy : YieldsIf P ops S o v a) (h : wpMixD P ops Q L bs rest S (a.put o.dst v) w) : wpMixD P ops Q L (true :: bs) (o :: rest) S a w := ⟨hS, v, hy, h⟩
theorem yOf {v : Value} (hg : Region.wanted o (yielded ops a.tmps) = true) (hv : ∀ w, S w → (execOp a.eval o).run P w = .ok (.value v) w) : YieldsIf P ops S o v a := .inl ⟨hg, hv⟩
theorem ySkip (hg : Region.wanted o (yielded ops a.tmps) = false) : YieldsIf P ops S o undef a := .inr ⟨hg, rfl⟩
theorem yMove (x : Operand) (v : Value) (ho : o.op = .move x) (hg : Region.wanted o (yielded ops a.tmps) = true) (hx : a.eval x = v) : YieldsIf P ops S o v a :=
  yOf hg fun w _ => by unfold execOp; simp only [ho, hx, Sem.run_pure]
theorem yAssign (x : Operand) (v : Value) (ho : o.op = .assign x) (hg : Region.wanted o (yielded ops a.tmps) = true) (hx : a.eval x = v) : YieldsIf P ops S o v a :=
  yOf hg fun w _ => by unfold execOp; simp only [ho, hx, Sem.run_pure]
theorem yNil (x : Operand) (b : Addr) (ho : o.op = .nilCheck x) (hg : Region.wanted o (yielded ops a.tmps) = true) (hx : a.eval x = .pointer (some b)) : YieldsIf P ops S o (.pointer (some b)) a :=
  yOf hg fun w _ => by unfold execOp; simp only [ho, hx, Sem.run_pure]
theorem yField (T : TypeId) (x : Operand) (k n fo : Nat) (fs : Array Field) (f : Field) (b off : Nat) (ho : o.op = .fieldAddr T x k) (hg : Region.wanted o (yielded ops a.tmps) = true) (hx : a.eval x = .pointer (some ⟨b, off, none⟩)) (hu : P.underlying T = some (.struct fs)) (hf : fs[k]? = some f) (h0 : f.offset = fo) (hn : (P.info? f.type).map (·.size) = some (n + 1)) : YieldsIf P ops S o (.pointer (some ⟨b, off + fo, none⟩)) a :=
  yOf hg fun w _ => by unfold execOp; simp only [ho, hx, Sem.run_bind, run_fieldAt T k n fo fs f b off hu hf h0 hn, Result.andThen_ok, Sem.run_pure]
theorem yLoad1 (T U : TypeId) (x : Operand) (g off : Nat) (cs : Array Value) (v : Value) (d : TypeDesc) (ho : o.op = .load T x) (hg : Region.wanted o (yielded ops a.tmps) = true) (hx : a.eval x = .pointer (some ⟨g, off, none⟩)) (hr : ∀ w, S w → Row w g U cs) (hu : P.underlying T = some d) (hd : aggDesc d = false) (hv : cs[off]? = some v) : YieldsIf P ops S o v a :=
  yOf hg fun w hS => by unfold execOp; simp only [ho, hx, Instr.loadAt, Instr.sureAddr, Sem.run_bind, Sem.run_pure, Result.andThen_ok, run_load1 (hr w hS) hu hd hv]
theorem yStr (src dst E : TypeId) (x : Operand) (v : Value) (l : List UInt8) (ho : o.op = .convert src dst x) (hg : Region.wanted o (yielded ops a.tmps) = true) (hx : a.eval x = v) (hv : ∀ w, S w → IsVals w v (l.map VB)) (hs : P.underlying src = some (.slice E)) (he : P.underlying E = some (.int .u8)) (hd : P.underlying dst = some .string) : YieldsIf P ops S o (textV l) a :=
  yOf hg fun w hS => by unfold execOp; simp only [ho, hx, Sem.run_bind, run_toString (hv w hS) hs he hd, Result.andThen_ok, Sem.run_pure]
theorem yNeqStr (T T2 : TypeId) (x y : Operand) (l m : List UInt8) (b : Bool) (ho : o.op = .binOp .neq T x y T2) (hg : Region.wanted o (yielded ops a.tmps) = true) (hx : a.eval x = textV l) (hy : a.eval y = textV m) (hb : (l != m) = b) : YieldsIf P ops S o (.bool b) a :=
  yOf hg fun w _ => by
    subst hb
    have hr := run_neqStr (P := P) (w := w) T l m x y
    unfold execOp; simp only [ho, hx, hy]; rw [Sem.run_bind, hr]; rfl
theorem yEqlStr (T T2 : TypeId) (x y : Operand) (l m : List UInt8) (b : Bool) (ho : o.op = .binOp .eql T x y T2) (hg : Region.wanted o (yielded ops a.tmps) = true) (hx : a.eval x = textV l) (hy : a.eval y = textV m) (hb : (l == m) = b) : YieldsIf P ops S o (.bool b) a :=
  yOf hg fun w _ => by
    subst hb
    have hr := run_eqlStr (P := P) (w := w) T l m x y
    unfold execOp; simp only [ho, hx, hy]; rw [Sem.run_bind, hr]; rfl
theorem yNeqI (T T2 : TypeId) (x y : Operand) (k : IntKind) (m n : Int) (b : Bool) (ho : o.op = .binOp .neq T x y T2) (hg : Region.wanted o (yielded ops a.tmps) = true) (hx : a.eval x = .int k m) (hy : a.eval y = .int k n) (hb : (!decide (m = n)) = b) : YieldsIf P ops S o (.bool b) a :=
  yOf hg fun w _ => by
    subst hb
    unfold execOp; simp only [ho, hx, hy]; simp [eqGuard, binOp, Op.intCmp]; rfl
theorem yLeqI (T T2 : TypeId) (x y : Operand) (k : IntKind) (m n : Int) (b : Bool) (ho : o.op = .binOp .leq T x y T2) (hg : Region.wanted o (yielded ops a.tmps) = true) (hx : a.eval x = .int k m) (hy : a.eval y = .int k n) (hb : decide (m ≤ n) = b) : YieldsIf P ops S o (.bool b) a :=
  yOf hg fun w _ => by
    subst hb
    unfold execOp; simp only [ho, hx, hy]; simp [eqGuard, binOp, Op.intCmp]
theorem ySubI (T T2 : TypeId) (x y : Operand) (m n z : Int) (hz : m - n = z ∧ 0 ≤ z ∧ z < 9223372036854775808) (ho : o.op = .binOp .sub T x y T2) (hg : Region.wanted o (yielded ops a.tmps) = true) (hx : a.eval x = .int .i64 m) (hy : a.eval y = .int .i64 n) : YieldsIf P ops S o (.int .i64 z) a :=
  yOf hg fun w _ => by
    obtain ⟨rfl, h1, h2⟩ := hz
    have e : IntKind.i64.wrap (m - n) = m - n := by rw [IntKind.wrap_i64]; omega
    unfold execOp; simp only [ho, hx, hy]; simp [eqGuard, binOp, Op.intArith, e]
theorem yPick (c x y : Operand) (b : Bool) (v : Value) (ho : o.op = .pick c x y) (hg : Region.wanted o (yielded ops a.tmps) = true) (hc : a.eval c = .bool b) (hv : (if b = true then a.eval x else a.eval y) = v) : YieldsIf P ops S o v a :=
  yOf hg fun w _ => by subst hv; unfold execOp; simp only [ho, hc, asBool, Sem.run_bind, Sem.run_pure, Result.andThen_ok]
theorem yLen (T : TypeId) (x : Operand) (E : TypeId) (v : Value) (l : List Value) (n : Nat) (ho : o.op = .call { callee := .builtin .len, args := #[x], argTypes := #[T] }) (hg : Region.wanted o (yielded ops a.tmps) = true) (hx : a.eval x = v) (hv : ∀ w, S w → IsVals w v l) (hn : l.length = n) (ht : P.underlying T = some (.slice E)) : YieldsIf P ops S o (.int .i64 (n : Int)) a :=
  yOf hg fun w hS => by
    obtain ⟨ao, c, rfl, _⟩ := hv w hS
    subst hn
    unfold execOp
    simp [ho, hx, resolve, invoke, builtin, Builtin.len_, run_underlying ht, goInt]
theorem dDone {a : Act} {w : World} (h : L a w) : wpMixD P ops Q L [] [] S a w := h
end
end Go.Proofs.Ytdeggdmoijfhdaa
