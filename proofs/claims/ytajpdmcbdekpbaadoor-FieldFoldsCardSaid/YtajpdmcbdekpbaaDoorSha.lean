/-
  SHA-256 as a plain function over bytes, and how the model's integers carry numbers of 32 and of 8 bits. No walk here, no program.
-/
import Derived.Laws.BitsAllLaws
import Derived.Laws.Sem
namespace Go.Proofs.YtajpdmcbdekpbaaDoor
open Go

/-- a number of 32 bits as the model's integer -/
def I (a : UInt32) : Int := (a.toNat : Int)
/-- a byte as the model's integer -/
def B (a : UInt8) : Int := (a.toNat : Int)

theorem I_lo (a : UInt32) : 0 ≤ I a := by unfold I; omega
theorem I_hi (a : UInt32) : I a < 4294967296 := by unfold I; have := a.toNat_lt; omega
theorem B_lo (a : UInt8) : 0 ≤ B a := by unfold B; omega
theorem B_hi (a : UInt8) : B a < 256 := by unfold B; have := a.toNat_lt; omega

theorem wrap_add (a b : UInt32) : IntKind.u32.wrap (I a + I b) = I (a + b) := by
  rw [IntKind.wrap_u32']; unfold I; rw [UInt32.toNat_add]; omega
theorem mod_add (a b : UInt32) : (I a + I b) % 4294967296 = I (a + b) := by
  rw [← wrap_add, IntKind.wrap_u32']
theorem bxor (a b : UInt32) : bits .xor .u32 (I a) (I b) = I (a ^^^ b) := by
  unfold I; rw [u32_xor_nat _ _ a.toNat_lt b.toNat_lt, UInt32.toNat_xor]
theorem band (a b : UInt32) : bits .and .u32 (I a) (I b) = I (a &&& b) := by
  unfold I; rw [u32_and_nat _ _ a.toNat_lt b.toNat_lt, UInt32.toNat_and]
theorem bor (a b : UInt32) : bits .or .u32 (I a) (I b) = I (a ||| b) := by
  unfold I; rw [u32_or_nat _ _ a.toNat_lt b.toNat_lt, UInt32.toNat_or]

/-- turned right -/
def rotr (x : UInt32) (n : Nat) : UInt32 := UInt32.ofNat (x.toNat / 2 ^ n ||| x.toNat * 2 ^ (32 - n))
/-- shifted right -/
def shr (x : UInt32) (n : Nat) : UInt32 := UInt32.ofNat (x.toNat / 2 ^ n)

theorem rotr_toNat (x : UInt32) (n : Nat) : (rotr x n).toNat = (x.toNat / 2 ^ n ||| x.toNat * 2 ^ (32 - n)) % 4294967296 := by
  unfold rotr; rw [UInt32.toNat_ofNat']
theorem shr_toNat (x : UInt32) (n : Nat) : (shr x n).toNat = x.toNat / 2 ^ n := by
  unfold shr; rw [UInt32.toNat_ofNat', Nat.mod_eq_of_lt]
  exact Nat.lt_of_le_of_lt (Nat.div_le_self _ _) x.toNat_lt

theorem rot_code (x : UInt32) (n : Nat) :
    bits .or .u32 (IntKind.u32.wrap (I x * 2 ^ (32 - n))) (I x / 2 ^ n) = I (rotr x n) := by
  have hx := x.toNat_lt
  have e1 : IntKind.u32.wrap (I x * 2 ^ (32 - n)) = ((x.toNat * 2 ^ (32 - n) % 4294967296 : Nat) : Int) := by
    rw [IntKind.wrap_u32']; unfold I; rw [Int.natCast_emod, Int.natCast_mul, Int.natCast_pow]; rfl
  have e2 : I x / 2 ^ n = ((x.toNat / 2 ^ n : Nat) : Int) := by unfold I; rw [Int.natCast_ediv, Int.natCast_pow]; rfl
  have l2 : x.toNat / 2 ^ n < 4294967296 := Nat.lt_of_le_of_lt (Nat.div_le_self _ _) hx
  rw [e1, e2, u32_or_nat _ _ (Nat.mod_lt _ (by decide)) l2]
  unfold I
  rw [rotr_toNat, show (4294967296 : Nat) = 2 ^ 32 from rfl, Nat.or_mod_two_pow, Nat.mod_eq_of_lt (a := x.toNat / 2 ^ n) (by simpa using l2), Nat.or_comm]

def bS1 (x : UInt32) : UInt32 := rotr x 6 ^^^ rotr x 11 ^^^ rotr x 25
def bS0 (x : UInt32) : UInt32 := rotr x 2 ^^^ rotr x 13 ^^^ rotr x 22
def sS0 (x : UInt32) : UInt32 := rotr x 7 ^^^ rotr x 18 ^^^ shr x 3
def sS1 (x : UInt32) : UInt32 := rotr x 17 ^^^ rotr x 19 ^^^ shr x 10

theorem not_eq_xor (a : UInt32) : (4294967295 : UInt32) ^^^ a = ~~~a := by
  apply UInt32.eq_of_toBitVec_eq
  rw [UInt32.toBitVec_xor, UInt32.toBitVec_not]
  exact BitVec.allOnes_xor
theorem bnot (a : UInt32) : bits .xor .u32 4294967295 (I a) = I (~~~a) := by
  rw [← not_eq_xor, ← bxor]; rfl

/-- one byte more behind a number -/
def push8 (n : UInt32) (b : UInt8) : UInt32 := n * 256 + b.toUInt32
theorem push8_code (n : UInt32) (b : UInt8) : bits .or .u32 (IntKind.u32.wrap (I n * 256)) (B b) = I (push8 n b) := by
  have hb := b.toNat_lt
  have e1 : IntKind.u32.wrap (I n * 256) = ((n.toNat * 256 % 4294967296 : Nat) : Int) := by
    rw [IntKind.wrap_u32']; unfold I; rw [Int.natCast_emod, Int.natCast_mul]; rfl
  unfold B
  rw [e1, u32_or_nat _ _ (Nat.mod_lt _ (by decide)) (by omega), nat_join 8 _ _ (by omega) (by simpa using hb)]
  unfold I push8
  rw [UInt32.toNat_add, UInt32.toNat_mul]
  have : (UInt8.toUInt32 b).toNat = b.toNat := by simp
  rw [this, show (256 : UInt32).toNat = 256 from rfl]
  omega

theorem push8_walk (n : UInt32) (b : UInt8) : bits .or .u32 (I n * 256 % 4294967296) (B b % 4294967296) = I (push8 n b) := by
  rw [← push8_code, IntKind.wrap_u32']
  congr 1
  have := B_lo b; have := B_hi b
  omega

/-- the j-th number of some bytes, of which the first k have come -/
def part (bs : List UInt8) (k j : Nat) : UInt32 := (((bs.take k).drop (4 * j)).take 4).foldl push8 0
theorem part_zero (bs : List UInt8) (j : Nat) : part bs 0 j = 0 := by simp [part]
theorem take_drop_take_append {α : Type} (xs : List α) (k j : Nat) (x : α) (hj : xs.length = k) : (((xs ++ [x]).drop (4 * j)).take 4) = if k / 4 = j then ((xs.drop (4 * j)).take 4) ++ [x] else ((xs.drop (4 * j)).take 4) := by
  by_cases h : 4 * j ≤ k
  · rw [List.drop_append_of_le_length (by omega)]
    by_cases h2 : k / 4 = j
    · have hl : (xs.drop (4 * j)).length = k - 4 * j := by simp [hj]
      rw [if_pos h2, List.take_append, hl]
      have e : 4 - (k - 4 * j) ≠ 0 := by omega
      obtain ⟨m, hm⟩ := Nat.exists_eq_succ_of_ne_zero e
      rw [hm]; simp
    · rw [if_neg h2, List.take_append_of_le_length (by simp; omega)]
  · rw [if_neg (by omega), List.drop_eq_nil_of_le (by simp; omega), List.drop_eq_nil_of_le (by omega)]
theorem part_succ (bs : List UInt8) (k j : Nat) (hk : k < bs.length) : part bs (k + 1) j = if j = k / 4 then push8 (part bs k j) bs[k] else part bs k j := by
  unfold part
  rw [List.take_succ_eq_append_getElem hk, take_drop_take_append _ k j _ (by simp; omega)]
  by_cases h : k / 4 = j
  · rw [if_pos h, if_pos h.symm, List.foldl_append]; rfl
  · rw [if_neg h, if_neg (Ne.symm h)]

/-- the sixteen numbers of 64 bytes -/
def words (bs : List UInt8) : List UInt32 := (List.range 16).map (fun j => part bs 64 j)
/-- the next number of the row -/
def nextW (l : List UInt32) : UInt32 := l.getD (l.length - 16) 0 + l.getD (l.length - 7) 0 + sS0 (l.getD (l.length - 15) 0) + sS1 (l.getD (l.length - 2) 0)
def extW (l : List UInt32) : Nat → List UInt32
  | 0 => l
  | n + 1 => extW l n ++ [nextW (extW l n)]
theorem extW_length (l : List UInt32) (n : Nat) : (extW l n).length = l.length + n := by
  induction n with
  | zero => rfl
  | succ n ih => simp [extW, ih]; omega
def sched (bs : List UInt8) : List UInt32 := extW (words bs) 48

structure St where
  a : UInt32
  b : UInt32
  c : UInt32
  d : UInt32
  e : UInt32
  f : UInt32
  g : UInt32
  h : UInt32
def St.list (s : St) : List UInt32 := [s.a, s.b, s.c, s.d, s.e, s.f, s.g, s.h]
def St.add (s t : St) : St := ⟨s.a + t.a, s.b + t.b, s.c + t.c, s.d + t.d, s.e + t.e, s.f + t.f, s.g + t.g, s.h + t.h⟩
def tOf (s : St) (k w : UInt32) : UInt32 := s.h + bS1 s.e + ((s.e &&& s.f) ^^^ (~~~s.e &&& s.g)) + k + w
def uOf (s : St) : UInt32 := bS0 s.a + ((s.a &&& s.b) ^^^ (s.a &&& s.c) ^^^ (s.b &&& s.c))
def rnd (s : St) (k w : UInt32) : St := ⟨tOf s k w + uOf s, s.a, s.b, s.c, s.d + tOf s k w, s.e, s.f, s.g⟩
def kTab : List UInt32 := [1116352408, 1899447441, 3049323471, 3921009573, 961987163, 1508970993, 2453635748, 2870763221, 3624381080, 310598401, 607225278, 1426881987, 1925078388, 2162078206, 2614888103, 3248222580, 3835390401, 4022224774, 264347078, 604807628, 770255983, 1249150122, 1555081692, 1996064986, 2554220882, 2821834349, 2952996808, 3210313671, 3336571891, 3584528711, 113926993, 338241895, 666307205, 773529912, 1294757372, 1396182291, 1695183700, 1986661051, 2177026350, 2456956037, 2730485921, 2820302411, 3259730800, 3345764771, 3516065817, 3600352804, 4094571909, 275423344, 430227734, 506948616, 659060556, 883997877, 958139571, 1322822218, 1537002063, 1747873779, 1955562222, 2024104815, 2227730452, 2361852424, 2428436474, 2756734187, 3204031479, 3329325298]
def rnds (ws : List UInt32) (s : St) : Nat → St
  | 0 => s
  | n + 1 => rnd (rnds ws s n) (kTab.getD n 0) (ws.getD n 0)
def comp (s : St) (bs : List UInt8) : St := s.add (rnds (sched bs) s 64)
def st0 : St := ⟨1779033703, 3144134277, 1013904242, 2773480762, 1359893119, 2600822924, 528734635, 1541459225⟩
/-- the state behind the first n blocks of these bytes -/
def absorb (l : List UInt8) : Nat → St
  | 0 => st0
  | n + 1 => comp (absorb l n) ((l.drop (64 * n)).take 64)
/-- the element at a place, nought beyond the end -/
def at8 (l : List UInt8) (j : Nat) : UInt8 := l.getD j 0
def at32 (l : List UInt32) (j : Nat) : UInt32 := l.getD j 0
/-- the p-th byte of a row of numbers, each the highest byte first -/
def hbyte (l : List UInt32) (p : Nat) : UInt8 := UInt8.ofNat ((at32 l (p / 4)).toNat / 2 ^ (24 - 8 * (p % 4)))
def St.bytes (s : St) : List UInt8 := (List.range 32).map (hbyte s.list)
def be64 (n : Nat) : List UInt8 := (List.range 8).map fun i => UInt8.ofNat (n / 2 ^ (56 - 8 * i))
/-- what comes behind n bytes -/
def tailOf (n : Nat) : List UInt8 := 128 :: (List.replicate ((119 - n % 64) % 64) 0 ++ be64 (n * 8))
def padded (l : List UInt8) : List UInt8 := l ++ tailOf l.length
def sha (l : List UInt8) : List UInt8 := (absorb (padded l) ((padded l).length / 64)).bytes

theorem absorb_append (l m : List UInt8) (n : Nat) (h : 64 * n ≤ l.length) : absorb (l ++ m) n = absorb l n := by
  induction n with
  | zero => rfl
  | succ n ih =>
    unfold absorb
    rw [ih (by omega), List.drop_append_of_le_length (by omega), List.take_append_of_le_length (by simp; omega)]

theorem at8_lt (l : List UInt8) (j : Nat) (h : j < l.length) : at8 l j = l[j] := by simp [at8, h]

/-! ### rows of cells by a function of the place -/
abbrev V32 (a : UInt32) : Value := .int .u32 (I a)
abbrev VB (a : UInt8) : Value := .int .u8 (B a)
def tab (n : Nat) (f : Nat → Value) : Array Value := ((List.range n).map f).toArray
theorem tab_size (n : Nat) (f : Nat → Value) : (tab n f).size = n := by simp [tab]
theorem tab_get (n : Nat) (f : Nat → Value) (i : Nat) (h : i < n) : (tab n f)[i]? = some (f i) := by simp [tab, h]
theorem tab_congr {n : Nat} {f g : Nat → Value} (h : ∀ j, j < n → f j = g j) : tab n f = tab n g := by
  unfold tab; congr 1; exact List.map_congr_left (fun j hj => h j (List.mem_range.1 hj))
theorem tab_set {n : Nat} {f g : Nat → Value} {i : Nat} {v : Value} (h : ∀ j, j < n → g j = if j = i then v else f j) : (tab n f).setIfInBounds i v = tab n g := by
  apply Array.ext_getElem?
  intro j
  rw [Array.getElem?_setIfInBounds]
  by_cases hj : j < n
  · rw [tab_get n g j hj, h j hj, tab_size]
    by_cases hij : i = j
    · subst hij; simp [hj]
    · rw [if_neg hij, if_neg (Ne.symm hij), tab_get n f j hj]
  · have h1 : (tab n g)[j]? = none := Array.getElem?_eq_none (by rw [tab_size]; omega)
    have h2 : (tab n f)[j]? = none := Array.getElem?_eq_none (by rw [tab_size]; omega)
    rw [h1, tab_size]
    split
    · rw [if_neg (by omega)]
    · exact h2
theorem tab_one (n : Nat) (f : Nat → Value) (h : ∀ j, j < n → (f j).oneCell' = true) : ∀ v ∈ tab n f, v.oneCell' = true := by
  intro v hv
  simp [tab] at hv
  obtain ⟨j, hj, rfl⟩ := hv
  exact h j hj
theorem V32_one (a : UInt32) : (V32 a).oneCell' = true := rfl
theorem VB_one (a : UInt8) : (VB a).oneCell' = true := rfl

theorem words_length (bs : List UInt8) : (words bs).length = 16 := by simp [words]
theorem words_at (bs : List UInt8) (hbs : bs.length = 64) (j : Nat) : part bs 64 j = at32 (words bs) j := by
  by_cases h : j < 16
  · simp [at32, words, h]
  · have e : at32 (words bs) j = 0 := by simp [at32, words, h]
    rw [e]; unfold part
    rw [List.drop_eq_nil_of_le (by simp; omega)]; rfl
theorem extW_at (l : List UInt32) (n j : Nat) : at32 (extW l (n + 1)) j = if j = l.length + n then nextW (extW l n) else at32 (extW l n) j := by
  have hl := extW_length l n
  show at32 (extW l n ++ [nextW (extW l n)]) j = _
  unfold at32
  rw [List.getD_eq_getElem?_getD, List.getD_eq_getElem?_getD, List.getElem?_append, hl]
  by_cases h : j = l.length + n
  · subst h; simp
  · by_cases h2 : j < l.length + n
    · rw [if_neg h, if_pos h2]
    · rw [if_neg h, if_neg h2, List.getElem?_eq_none (by simp; omega), List.getElem?_eq_none (by omega)]
theorem nextW_at (l : List UInt32) (i : Nat) (h : l.length = i) : nextW l = at32 l (i - 16) + at32 l (i - 7) + sS0 (at32 l (i - 15)) + sS1 (at32 l (i - 2)) := by
  subst h; rfl

theorem nextW_n (l : List UInt32) (n : Nat) (h : l.length = 16 + n) : nextW l = at32 l n + at32 l (n + 9) + sS0 (at32 l (n + 1)) + sS1 (at32 l (n + 14)) := by
  rw [nextW_at l (16 + n) h, show 16 + n - 16 = n by omega, show 16 + n - 7 = n + 9 by omega, show 16 + n - 15 = n + 1 by omega, show 16 + n - 2 = n + 14 by omega]

theorem byte_shr (x : UInt32) (n : Nat) : I x / 2 ^ n % 256 = B (UInt8.ofNat (x.toNat / 2 ^ n)) := by
  unfold I B
  rw [UInt8.toNat_ofNat', Int.natCast_emod, Int.natCast_ediv, Int.natCast_pow]; rfl
theorem hbyte_bytes (s : St) (p : Nat) (h : p < 32) : hbyte s.list p = at8 s.bytes p := by
  simp [St.bytes, at8, h]
theorem bytes_length (s : St) : s.bytes.length = 32 := by simp [St.bytes]

end Go.Proofs.YtajpdmcbdekpbaaDoor
