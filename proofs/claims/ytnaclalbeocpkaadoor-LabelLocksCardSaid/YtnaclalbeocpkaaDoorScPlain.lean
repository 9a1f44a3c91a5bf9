/-
  Layer 7, plainly: scripts' words, and what they do, after the reference. No walk here, no program. What sums and signatures are is left open (Env); where one is not given, nothing is said.
-/
import Derived.Test.YtnaclalbeocpkaaDoorLawBase
namespace Go.Proofs.YtnaclalbeocpkaaDoor

/-- does a code push? -/
def pushesB (c : UInt8) : Bool := decide (c.toNat < 78) || (decide (80 < c.toNat) && decide (c.toNat < 97))
/-- is it a word of branches? -/
def isBr (c : UInt8) : Bool := c == 99 || c == 100 || c == 103 || c == 104
/-- the first word: its code, what it pushes, how many bytes it has -/
def nextS (b : List UInt8) : Option (UInt8 × List UInt8 × Nat) :=
  match b with
  | [] => none
  | c :: r =>
    if 80 < c.toNat ∧ c.toNat < 97 then some (c, [c - 80], 1)
    else if c.toNat = 76 then
      match r with
      | [] => none
      | x :: t => if t.length < x.toNat then none else some (c, t.take x.toNat, 2 + x.toNat)
    else if c.toNat = 77 then
      match r with
      | x :: y :: t => if t.length < x.toNat + 256 * y.toNat then none else some (c, t.take (x.toNat + 256 * y.toNat), 3 + (x.toNat + 256 * y.toNat))
      | _ => none
    else if c.toNat < 76 then (if r.length < c.toNat then none else some (c, r.take c.toNat, 1 + c.toNat))
    else some (c, [], 1)
/-- a word that pushes -/
def pushL (x : List UInt8) : List UInt8 :=
  if x.length < 76 then UInt8.ofNat x.length :: x
  else if x.length < 256 then 76 :: UInt8.ofNat x.length :: x
  else 77 :: UInt8.ofNat (x.length % 256) :: UInt8.ofNat (x.length / 256) :: x
def trueB (x : List UInt8) : Bool := x.any (· != 0)
def truthL (b : Bool) : List UInt8 := if b then [1] else []
def sizeL (n : Nat) : List UInt8 := if n = 0 then [] else if n ≤ 255 then [UInt8.ofNat (n % 256)] else [UInt8.ofNat (n % 256), UInt8.ofNat (n / 256)]
/-- sums and signatures, where they are given -/
structure Env where
  sum : List UInt8 → Option (List UInt8)
  short : List UInt8 → Option (List UInt8)
  sig : List UInt8 → List UInt8 → Option Bool
/-- none is given -/
def calm : Env := ⟨fun _ => none, fun _ => none, fun _ _ => none⟩
/-- a word that is no push, nor of a branch: the stack (its upmost piece first), and the error's number -/
def opS (E : Env) (c : UInt8) (l : List (List UInt8)) : Option (List (List UInt8) × Nat) :=
  if c = 97 then some (l, 0)
  else if c = 106 then some (l, 74)
  else if c = 105 ∨ c = 117 ∨ c = 118 ∨ c = 130 ∨ c = 168 ∨ c = 169 then
    match l with
    | [] => some (l, 72)
    | x :: r =>
      if c = 105 then some (r, if trueB x then 0 else 74)
      else if c = 117 then some (r, 0)
      else if c = 118 then some (x :: x :: r, 0)
      else if c = 130 then some (sizeL x.length :: x :: r, 0)
      else if c = 168 then (E.sum x).map fun s => (s :: r, 0)
      else (E.short x).map fun s => (s :: r, 0)
  else if c = 109 ∨ c = 120 ∨ c = 124 ∨ c = 135 ∨ c = 136 ∨ c = 172 ∨ c = 173 then
    match l with
    | x :: y :: r =>
      if c = 109 then some (r, 0)
      else if c = 120 then some (y :: x :: y :: r, 0)
      else if c = 124 then some (y :: x :: r, 0)
      else if c = 135 then some (truthL (x == y) :: r, 0)
      else if c = 136 then some (r, if x == y then 0 else 74)
      else if c = 172 then (E.sig x y).map fun b => (truthL b :: r, 0)
      else (E.sig x y).map fun b => (r, if b then 0 else 74)
    | _ => some (l, 72)
  else some (l, 71)
/-- a script that is done: the stack, its upmost piece first, and of each branch, the innermost first, whether it is gone -/
structure SSt where
  stack : List (List UInt8)
  ways : List Bool
def goesB (s : SSt) : Bool := s.ways.all id
/-- a word of branches: the state, and the error's number -/
def branchS (s : SSt) (c : UInt8) : SSt × Nat :=
  if c = 99 ∨ c = 100 then
    if goesB s then
      match s.stack with
      | [] => (s, 72)
      | x :: r => (⟨r, (trueB x == decide (c = 99)) :: s.ways⟩, 0)
    else (⟨s.stack, false :: s.ways⟩, 0)
  else match s.ways with
    | [] => (s, 71)
    | w :: ws => if c = 103 then (⟨s.stack, (!w) :: ws⟩, 0) else (⟨s.stack, ws⟩, 0)
/-- at a script's end -/
def endS (s : SSt) : SSt × Nat := if s.ways = [] then (s, 0) else (s, 71)
/-- what a word does, but for branches: the state, and the error's number -/
def doS (E : Env) (c : UInt8) (d : List UInt8) (s : SSt) : Option (SSt × Nat) :=
  if isBr c then some (branchS s c)
  else if goesB s then
    (if pushesB c then some (d :: s.stack, 0) else opS E c s.stack).map fun q =>
      (⟨q.1, s.ways⟩, if q.2 ≠ 0 then q.2 else if 100 < q.1.length then 73 else 0)
  else some (s, 0)
/-- is a word refused ahead of all that it does? the error's number -/
def wordE (p : Bool) (ops : Nat) (c : UInt8) (d : List UInt8) : Nat :=
  if p && !pushesB c then 71 else if 520 < d.length then 73 else if !pushesB c && decide (100 ≤ ops) then 73 else 0
/-- a script's words (k: no fewer than its bytes) -/
def allF (E : Env) (p : Bool) : Nat → Nat → List UInt8 → SSt → Option (SSt × Nat)
  | 0, _, _, s => some (endS s)
  | k + 1, ops, b, s =>
    if b = [] then some (endS s)
    else match nextS b with
      | none => some (s, 71)
      | some (c, d, u) =>
        if wordE p ops c d ≠ 0 then some (s, wordE p ops c d)
        else match doS E c d s with
          | none => none
          | some (t, e) => if e ≠ 0 then some (t, e) else allF E p k (if pushesB c then ops else ops + 1) (b.drop u) t
def allS (E : Env) (p : Bool) (b : List UInt8) (s : SSt) : Option (SSt × Nat) := allF E p b.length 0 b s
/-- is what is left at the end true? -/
def lastS (s : SSt) : Nat := match s.stack with
  | [] => 74
  | x :: _ => if trueB x then 0 else 74
def runS (E : Env) (u l : List UInt8) : Option Nat :=
  if 2000 < u.length ∨ 2000 < l.length then some 73
  else match allS E true u ⟨[], []⟩ with
    | none => none
    | some (s, e) => if e ≠ 0 then some e else match allS E false l s with
      | none => none
      | some (t, f) => if f ≠ 0 then some f else some (lastS t)

/-! ### words that push -/
theorem u8n {k : Nat} (h : k < 256) : (UInt8.ofNat k).toNat = k := by rw [UInt8.toNat_ofNat']; exact Nat.mod_eq_of_lt h
theorem pushL_len (x : List UInt8) : (pushL x).length = x.length + (if x.length < 76 then 1 else if x.length < 256 then 2 else 3) := by
  unfold pushL; split
  · rfl
  · split <;> rfl
theorem next_push {x : List UInt8} (hx : x.length ≤ 65535) (r : List UInt8) : ∃ c, nextS (pushL x ++ r) = some (c, x, (pushL x).length) ∧ pushesB c = true ∧ isBr c = false := by
  unfold pushL
  by_cases h1 : x.length < 76
  · rw [if_pos h1]
    refine ⟨UInt8.ofNat x.length, ?_, ?_, ?_⟩
    · unfold nextS
      rw [List.cons_append]
      dsimp only
      rw [u8n (by omega), if_neg (by omega), if_neg (by omega), if_neg (by omega), if_pos h1, if_neg (by rw [List.length_append]; omega), List.take_left, List.length_cons, Nat.add_comm]
    · unfold pushesB; rw [u8n (by omega)]; simp; omega
    · unfold isBr
      have hne : ∀ k : Nat, 76 ≤ k → k < 256 → (UInt8.ofNat x.length == UInt8.ofNat k) = false := fun k h1' h2' => by
        simp only [beq_eq_false_iff_ne, ne_eq]
        intro e
        have := congrArg UInt8.toNat e
        rw [u8n (by omega), u8n h2'] at this; omega
      have a := hne 99 (by decide) (by decide)
      have b := hne 100 (by decide) (by decide)
      have c := hne 103 (by decide) (by decide)
      have d := hne 104 (by decide) (by decide)
      have e1 : (UInt8.ofNat 99) = 99 := rfl
      have e2 : (UInt8.ofNat 100) = 100 := rfl
      have e3 : (UInt8.ofNat 103) = 103 := rfl
      have e4 : (UInt8.ofNat 104) = 104 := rfl
      rw [e1] at a; rw [e2] at b; rw [e3] at c; rw [e4] at d
      rw [a, b, c, d]; rfl
  · rw [if_neg h1]
    by_cases h2 : x.length < 256
    · rw [if_pos h2]
      refine ⟨76, ?_, by decide, by decide⟩
      unfold nextS
      rw [List.cons_append, List.cons_append]
      dsimp only
      rw [if_neg (by decide), if_pos (by decide), u8n h2, if_neg (by rw [List.length_append]; omega), List.take_left, List.length_cons, List.length_cons, Nat.add_comm 2]
    · rw [if_neg h2]
      refine ⟨77, ?_, by decide, by decide⟩
      have e : x.length % 256 + 256 * (x.length / 256) = x.length := by omega
      unfold nextS
      rw [List.cons_append, List.cons_append, List.cons_append]
      dsimp only
      rw [if_neg (by decide), if_neg (by decide), if_pos (by decide), u8n (by omega), u8n (by omega), e, if_neg (by rw [List.length_append]; omega), List.take_left]
      simp only [List.length_cons]
      rw [Nat.add_comm 3]
theorem next_used {b : List UInt8} {c : UInt8} {d : List UInt8} {u : Nat} (h : nextS b = some (c, d, u)) : 0 < u ∧ u ≤ b.length := by
  unfold nextS at h
  cases b with
  | nil => cases h
  | cons x r =>
    dsimp only at h
    split at h
    · simp only [Option.some.injEq, Prod.mk.injEq] at h; rw [← h.2.2, List.length_cons]; omega
    · split at h
      · cases r with
        | nil => cases h
        | cons y t =>
          dsimp only at h
          split at h
          · cases h
          · simp only [Option.some.injEq, Prod.mk.injEq] at h; rw [← h.2.2, List.length_cons, List.length_cons]; omega
      · split at h
        · match r, h with
          | [], h => cases h
          | [y], h => cases h
          | y :: z :: t, h =>
            dsimp only at h
            split at h
            · cases h
            · simp only [Option.some.injEq, Prod.mk.injEq] at h; rw [← h.2.2]; simp only [List.length_cons]; omega
        · split at h
          · split at h
            · cases h
            · simp only [Option.some.injEq, Prod.mk.injEq] at h; rw [← h.2.2, List.length_cons]; omega
          · simp only [Option.some.injEq, Prod.mk.injEq] at h; rw [← h.2.2, List.length_cons]; omega

/-! ### a script word by word -/
theorem all_end (E : Env) (p : Bool) (k ops : Nat) (s : SSt) : allF E p k ops [] s = some (endS s) := by cases k <;> rfl
theorem all_push (E : Env) (p : Bool) (k ops : Nat) {x : List UInt8} (hx : x.length ≤ 520) (r : List UInt8) (s : SSt) :
    allF E p (k + 1) ops (pushL x ++ r) s = if goesB s then (if 100 < s.stack.length + 1 then some (⟨x :: s.stack, s.ways⟩, 73) else allF E p k ops r ⟨x :: s.stack, s.ways⟩) else allF E p k ops r s := by
  obtain ⟨c, h1, h2, h3⟩ := next_push (x := x) (by omega) r
  have hne : pushL x ++ r ≠ [] := by
    have := pushL_len x
    intro e
    have := congrArg List.length e
    rw [List.length_append, List.length_nil] at this
    split at * <;> omega
  have hw : wordE p ops c x = 0 := by unfold wordE; rw [h2]; simp; omega
  show (if pushL x ++ r = [] then _ else _) = _
  rw [if_neg hne, h1]
  dsimp only
  rw [hw, if_neg (by simp), h2, if_pos rfl, List.drop_left]
  unfold doS
  rw [h3, h2]
  simp only [Bool.false_eq_true, if_false, if_true]
  by_cases hg : goesB s = true
  · rw [if_pos hg, if_pos hg]
    simp only [Option.map_some, List.length_cons, ne_eq, not_true_eq_false, if_false]
    by_cases h100 : 100 < s.stack.length + 1
    · rw [if_pos h100, if_pos h100]; simp
    · rw [if_neg h100, if_neg h100]; simp
  · rw [if_neg hg, if_neg hg]; simp
/-- a word of one byte that is no push -/
theorem next_word (c : UInt8) (hc : 96 < c.toNat) (r : List UInt8) : nextS (c :: r) = some (c, [], 1) := by
  unfold nextS
  dsimp only
  rw [if_neg (by omega), if_neg (by omega), if_neg (by omega), if_neg (by omega)]
theorem all_word (E : Env) (k ops : Nat) (c : UInt8) (hc : 96 < c.toNat) (ho : ops < 100) (r : List UInt8) (s : SSt) :
    allF E false (k + 1) ops (c :: r) s = match doS E c [] s with
      | none => none
      | some (t, e) => if e ≠ 0 then some (t, e) else allF E false k (ops + 1) r t := by
  have hp : pushesB c = false := by unfold pushesB; simp; omega
  have hw : wordE false ops c [] = 0 := by unfold wordE; rw [hp]; simp; omega
  show (if c :: r = [] then _ else _) = _
  rw [if_neg (by simp), next_word c hc r]
  dsimp only
  rw [hw, if_neg (by simp), hp]
  rfl
/-- 81 to 96, and 0 -/
theorem all_small (E : Env) (p : Bool) (k ops : Nat) (n : Nat) (h1 : 1 ≤ n) (h2 : n ≤ 16) (r : List UInt8) (s : SSt) :
    allF E p (k + 1) ops (UInt8.ofNat (80 + n) :: r) s = if goesB s then (if 100 < s.stack.length + 1 then some (⟨[UInt8.ofNat n] :: s.stack, s.ways⟩, 73) else allF E p k ops r ⟨[UInt8.ofNat n] :: s.stack, s.ways⟩) else allF E p k ops r s := by
  have hn : n = 1 ∨ n = 2 ∨ n = 3 ∨ n = 4 ∨ n = 5 ∨ n = 6 ∨ n = 7 ∨ n = 8 ∨ n = 9 ∨ n = 10 ∨ n = 11 ∨ n = 12 ∨ n = 13 ∨ n = 14 ∨ n = 15 ∨ n = 16 := by omega
  have key : ∀ (c y : UInt8), 80 < c.toNat → c.toNat < 97 → c - 80 = y → allF E p (k + 1) ops (c :: r) s = if goesB s then (if 100 < s.stack.length + 1 then some (⟨[y] :: s.stack, s.ways⟩, 73) else allF E p k ops r ⟨[y] :: s.stack, s.ways⟩) else allF E p k ops r s := by
    rintro c y ha hb rfl
    have hp : pushesB c = true := by unfold pushesB; simp; omega
    have hbr : isBr c = false := by
      unfold isBr
      have hne : ∀ d : UInt8, 97 ≤ d.toNat → (c == d) = false := fun d hd => by
        simp only [beq_eq_false_iff_ne, ne_eq]; rintro rfl; omega
      rw [hne 99 (by decide), hne 100 (by decide), hne 103 (by decide), hne 104 (by decide)]; rfl
    have hw : wordE p ops c [c - 80] = 0 := by unfold wordE; rw [hp]; simp
    show (if c :: r = [] then _ else _) = _
    rw [if_neg (by simp)]
    have hx : nextS (c :: r) = some (c, [c - 80], 1) := by unfold nextS; dsimp only; rw [if_pos ⟨ha, hb⟩]
    rw [hx]
    dsimp only
    rw [hw, if_neg (by simp), hp, if_pos rfl]
    unfold doS
    rw [hbr, hp]
    simp only [Bool.false_eq_true, if_false, if_true]
    by_cases hg : goesB s = true
    · rw [if_pos hg, if_pos hg]
      simp only [Option.map_some, List.length_cons, ne_eq, not_true_eq_false, if_false]
      by_cases h100 : 100 < s.stack.length + 1
      · rw [if_pos h100, if_pos h100]; simp
      · rw [if_neg h100, if_neg h100]; simp
    · rw [if_neg hg, if_neg hg]; simp
  rcases hn with rfl | rfl | rfl | rfl | rfl | rfl | rfl | rfl | rfl | rfl | rfl | rfl | rfl | rfl | rfl | rfl <;> exact key _ _ (by decide) (by decide) (by decide)
/-! ### the chapter's examples, and each error once -/
theorem ex_one : runS calm [] [81] = some 0 := rfl
theorem ex_none : runS calm [] [0] = some 74 := rfl
theorem ex_same : runS calm [1, 7] [1, 7, 135] = some 0 := rfl
theorem ex_code : runS calm [] [255] = some 71 := rfl
theorem ex_stack : runS calm [] [118] = some 72 := rfl
theorem ex_false : runS calm [] [81, 106] = some 74 := rfl
theorem ex_unlock : runS calm [97] [81] = some 71 := rfl
/-! ### branches: what is not gone is skipped -/
theorem run_nil (E : Env) (l : List UInt8) (hl : l.length ≤ 2000) : runS E [] l = match allS E false l ⟨[], []⟩ with
    | none => none
    | some (t, f) => if f ≠ 0 then some f else some (lastS t) := by
  unfold runS
  rw [if_neg (by simp; omega)]
  rfl
theorem do_skip (E : Env) (c : UInt8) (d : List UInt8) (st : List (List UInt8)) (ws : List Bool) (hb : isBr c = false) : doS E c d ⟨st, false :: ws⟩ = some (⟨st, false :: ws⟩, 0) := by
  unfold doS; rw [hb]; rfl
theorem do_if {E : Env} {x : List UInt8} {st : List (List UInt8)} {ws : List Bool} (hg : ws.all id = true) : doS E 99 [] ⟨x :: st, ws⟩ = some (⟨st, trueB x :: ws⟩, 0) := by
  have h : goesB ⟨x :: st, ws⟩ = true := hg
  show some (branchS ⟨x :: st, ws⟩ 99) = _
  unfold branchS
  rw [if_pos (.inl rfl), if_pos h]
  simp
theorem do_ifnot {E : Env} {x : List UInt8} {st : List (List UInt8)} {ws : List Bool} (hg : ws.all id = true) : doS E 100 [] ⟨x :: st, ws⟩ = some (⟨st, (!trueB x) :: ws⟩, 0) := by
  have h : goesB ⟨x :: st, ws⟩ = true := hg
  show some (branchS ⟨x :: st, ws⟩ 100) = _
  unfold branchS
  rw [if_pos (.inr rfl), if_pos h]
  simp
theorem do_else {E : Env} {st : List (List UInt8)} {w : Bool} {ws : List Bool} : doS E 103 [] ⟨st, w :: ws⟩ = some (⟨st, (!w) :: ws⟩, 0) := rfl
theorem do_fi {E : Env} {st : List (List UInt8)} {w : Bool} {ws : List Bool} : doS E 104 [] ⟨st, w :: ws⟩ = some (⟨st, ws⟩, 0) := rfl
def flagL (yes : Bool) : List UInt8 := if yes then [81] else [0]
theorem all_flag (E : Env) (k ops : Nat) (yes : Bool) (r : List UInt8) (st : List (List UInt8)) (ws : List Bool) (hg : ws.all id = true) (hl : st.length < 100) : ∃ x, trueB x = yes ∧ allF E false (k + 1) ops (flagL yes ++ r) ⟨st, ws⟩ = allF E false k ops r ⟨x :: st, ws⟩ := by
  have h : goesB ⟨st, ws⟩ = true := hg
  cases yes with
  | true =>
    refine ⟨[1], rfl, ?_⟩
    have := all_small E false k ops 1 (by decide) (by decide) r ⟨st, ws⟩
    rw [if_pos h, if_neg (by show ¬ 100 < st.length + 1; omega)] at this
    exact this
  | false =>
    refine ⟨[], rfl, ?_⟩
    have := all_push E false k ops (x := []) (by simp) r ⟨st, ws⟩
    rw [if_pos h, if_neg (by show ¬ 100 < st.length + 1; omega)] at this
    exact this
theorem push_gone (E : Env) (p : Bool) (k ops : Nat) {x : List UInt8} (hx : x.length ≤ 520) (r : List UInt8) (st : List (List UInt8)) (ws : List Bool) (hg : ws.all id = true) (hl : st.length < 100) : allF E p (k + 1) ops (pushL x ++ r) ⟨st, ws⟩ = allF E p k ops r ⟨x :: st, ws⟩ := by
  have h : goesB ⟨st, ws⟩ = true := hg
  rw [all_push E p k ops hx, if_pos h, if_neg (by show ¬ 100 < st.length + 1; omega)]
theorem push_skip (E : Env) (p : Bool) (k ops : Nat) {x : List UInt8} (hx : x.length ≤ 520) (r : List UInt8) (st : List (List UInt8)) (ws : List Bool) : allF E p (k + 1) ops (pushL x ++ r) ⟨st, false :: ws⟩ = allF E p k ops r ⟨st, false :: ws⟩ := by
  rw [all_push E p k ops hx, if_neg (by simp [goesB])]
theorem word_go (E : Env) (k ops : Nat) (c : UInt8) (hc : 96 < c.toNat) (ho : ops < 100) (r : List UInt8) (s t : SSt) (h : doS E c [] s = some (t, 0)) : allF E false (k + 1) ops (c :: r) s = allF E false k (ops + 1) r t := by
  rw [all_word E k ops c hc ho, h]; rfl
/-- of two branches the one that is gone: (n: 99, or 100) -/
theorem branch_one (E : Env) (k ops : Nat) (yes turned : Bool) {a b : List UInt8} (ha : a.length ≤ 520) (hb : b.length ≤ 520) (r : List UInt8) (st : List (List UInt8)) (hl : st.length < 100) (ho : ops + 3 ≤ 100) :
    allF E false (k + 6) ops (flagL yes ++ (if turned then 100 else 99) :: (pushL a ++ 103 :: (pushL b ++ 104 :: r))) ⟨st, []⟩ = allF E false k (ops + 3) r ⟨(if yes != turned then a else b) :: st, []⟩ := by
  obtain ⟨x, hx, e⟩ := all_flag E (k + 5) ops yes ((if turned then 100 else 99) :: (pushL a ++ 103 :: (pushL b ++ 104 :: r))) st [] rfl hl
  rw [show k + 6 = k + 5 + 1 by omega, e]
  have e2 : allF E false (k + 5) ops ((if turned then 100 else 99) :: (pushL a ++ 103 :: (pushL b ++ 104 :: r))) ⟨x :: st, []⟩ = allF E false (k + 4) (ops + 1) (pushL a ++ 103 :: (pushL b ++ 104 :: r)) ⟨st, [yes != turned]⟩ := by
    cases turned with
    | true =>
      rw [if_pos rfl]
      rw [show k + 5 = k + 4 + 1 by omega, word_go E (k + 4) ops 100 (by decide) (by omega) _ _ _ (do_ifnot rfl), hx]
      cases yes <;> rfl
    | false =>
      rw [if_neg (by simp)]
      rw [show k + 5 = k + 4 + 1 by omega, word_go E (k + 4) ops 99 (by decide) (by omega) _ _ _ (do_if rfl), hx]
      cases yes <;> rfl
  rw [e2]
  cases yes != turned with
  | true =>
    rw [show k + 4 = k + 3 + 1 by omega, push_gone E false (k + 3) (ops + 1) ha _ st [true] rfl hl,
      show k + 3 = k + 2 + 1 by omega, word_go E (k + 2) (ops + 1) 103 (by decide) (by omega) _ _ _ do_else,
      show k + 2 = k + 1 + 1 by omega]
    show allF E false (k + 1 + 1) (ops + 1 + 1) (pushL b ++ 104 :: r) ⟨a :: st, [false]⟩ = _
    rw [push_skip E false (k + 1) (ops + 1 + 1) hb _ (a :: st) [], word_go E k (ops + 1 + 1) 104 (by decide) (by omega) _ _ _ do_fi]
    rfl
  | false =>
    rw [show k + 4 = k + 3 + 1 by omega, push_skip E false (k + 3) (ops + 1) ha _ st [],
      show k + 3 = k + 2 + 1 by omega, word_go E (k + 2) (ops + 1) 103 (by decide) (by omega) _ _ _ do_else,
      show k + 2 = k + 1 + 1 by omega]
    show allF E false (k + 1 + 1) (ops + 1 + 1) (pushL b ++ 104 :: r) ⟨st, [true]⟩ = _
    rw [push_gone E false (k + 1) (ops + 1 + 1) hb _ st [true] rfl hl, word_go E k (ops + 1 + 1) 104 (by decide) (by omega) _ _ _ do_fi]
    rfl
theorem skip_word (E : Env) (k ops : Nat) (c : UInt8) (hc : 96 < c.toNat) (hb : isBr c = false) (ho : ops < 100) (r : List UInt8) (st : List (List UInt8)) (ws : List Bool) : allF E false (k + 1) ops (c :: r) ⟨st, false :: ws⟩ = allF E false k (ops + 1) r ⟨st, false :: ws⟩ :=
  word_go E k ops c hc ho r _ _ (do_skip E c [] st ws hb)
/-- whatever stands in a branch that is not gone does nothing -/
theorem dead_one (E : Env) (k : Nat) {a : List UInt8} (ha : a.length ≤ 520) (r : List UInt8) :
    allF E false (k + 8) 0 (0 :: 99 :: 255 :: 172 :: 118 :: 106 :: (pushL a ++ 104 :: r)) ⟨[], []⟩ = allF E false k 6 r ⟨[], []⟩ := by
  have h0 := push_gone E false (k + 7) 0 (x := []) (by simp) (99 :: 255 :: 172 :: 118 :: 106 :: (pushL a ++ 104 :: r)) [] [] rfl (by decide)
  have e0 : pushL [] ++ (99 :: 255 :: 172 :: 118 :: 106 :: (pushL a ++ 104 :: r)) = 0 :: 99 :: 255 :: 172 :: 118 :: 106 :: (pushL a ++ 104 :: r) := rfl
  rw [e0] at h0
  rw [show k + 8 = k + 7 + 1 by omega, h0, show k + 7 = k + 6 + 1 by omega, word_go E (k + 6) 0 99 (by decide) (by decide) _ _ _ (do_if rfl)]
  show allF E false (k + 6) 1 (255 :: 172 :: 118 :: 106 :: (pushL a ++ 104 :: r)) ⟨[], [false]⟩ = _
  rw [show k + 6 = k + 5 + 1 by omega, skip_word E (k + 5) 1 255 (by decide) (by decide) (by decide), show k + 5 = k + 4 + 1 by omega, skip_word E (k + 4) 2 172 (by decide) (by decide) (by decide),
    show k + 4 = k + 3 + 1 by omega, skip_word E (k + 3) 3 118 (by decide) (by decide) (by decide), show k + 3 = k + 2 + 1 by omega, skip_word E (k + 2) 4 106 (by decide) (by decide) (by decide),
    show k + 2 = k + 1 + 1 by omega, push_skip E false (k + 1) 5 ha, word_go E k 5 104 (by decide) (by decide) _ _ _ do_fi]
/-- the answer that ScriptSkips asks of a lock -/
theorem skips_lock (yes turned : Bool) {a b : List UInt8} (ha : a.length ≤ 70) (hb : b.length ≤ 70) :
    runS calm [] (flagL yes ++ (if turned then 100 else 99) :: (pushL a ++ 103 :: (pushL b ++ [104]))) = some (if trueB (if yes != turned then a else b) then 0 else 74) := by
  have h1 := pushL_len a
  have h2 := pushL_len b
  rw [if_pos (show a.length < 76 by omega)] at h1
  rw [if_pos (show b.length < 76 by omega)] at h2
  have hlen : (flagL yes ++ (if turned then 100 else 99) :: (pushL a ++ 103 :: (pushL b ++ [104]))).length = a.length + b.length + 6 := by
    have : (flagL yes).length = 1 := by cases yes <;> rfl
    simp only [List.length_append, List.length_cons, List.length_nil]; omega
  rw [run_nil calm _ (by omega)]
  unfold allS
  rw [hlen, branch_one calm (a.length + b.length) 0 yes turned (by omega) (by omega) [] [] (by decide) (by decide), all_end]
  rfl
theorem skips_dead (yes : Bool) {a b : List UInt8} (ha : a.length ≤ 70) (hb : b.length ≤ 70) :
    runS calm [] (0 :: 99 :: 255 :: 172 :: 118 :: 106 :: (pushL a ++ 104 :: (flagL yes ++ 99 :: (pushL a ++ 103 :: (pushL b ++ [104]))))) = some (if trueB (if yes then a else b) then 0 else 74) := by
  have h1 := pushL_len a
  have h2 := pushL_len b
  rw [if_pos (show a.length < 76 by omega)] at h1
  rw [if_pos (show b.length < 76 by omega)] at h2
  have hlen : (0 :: 99 :: 255 :: 172 :: 118 :: 106 :: (pushL a ++ 104 :: (flagL yes ++ 99 :: (pushL a ++ 103 :: (pushL b ++ [104])))) : List UInt8).length = (2 * a.length + b.length + 6) + 8 := by
    have : (flagL yes).length = 1 := by cases yes <;> rfl
    simp only [List.length_append, List.length_cons, List.length_nil]; omega
  rw [run_nil calm _ (by omega)]
  unfold allS
  rw [hlen, dead_one calm _ (by omega)]
  have hb1 := branch_one calm (2 * a.length + b.length) 6 yes false (a := a) (b := b) (by omega) (by omega) [] [] (by decide) (by decide)
  rw [if_neg (by simp)] at hb1
  rw [hb1, all_end]
  cases yes <;> rfl

/-! ### words that move pieces -/
theorem two_pushed {a b : List UInt8} (ha : a.length ≤ 200) (hb : b.length ≤ 200) : allS calm true (pushL a ++ pushL b) ⟨[], []⟩ = some (⟨[b, a], []⟩, 0) := by
  unfold allS
  have h1 := pushL_len a
  have h2 := pushL_len b
  obtain ⟨k, hk⟩ : ∃ k, (pushL a ++ pushL b).length = k + 2 := ⟨(pushL a ++ pushL b).length - 2, by rw [List.length_append]; split at h1 <;> split at h2 <;> (try split at h1) <;> (try split at h2) <;> omega⟩
  have e : pushL b = pushL b ++ [] := (List.append_nil _).symm
  rw [hk, show k + 2 = k + 1 + 1 by omega, e, push_gone calm true (k + 1) 0 (by omega) _ [] [] rfl (by decide), push_gone calm true k 0 (by omega) _ [a] [] rfl (by simp), all_end]
  rfl
theorem pushL_le {x : List UInt8} (h : x.length ≤ 200) : (pushL x).length ≤ 202 := by have := pushL_len x; split at this <;> (try split at this) <;> omega
theorem moves {a b : List UInt8} (ha : a.length ≤ 200) (hb : b.length ≤ 200) (l : List UInt8) (hl : l.length ≤ 2000) {r : Option Nat} (h : (match allS calm false l ⟨[b, a], []⟩ with
    | none => none
    | some (t, f) => if f ≠ 0 then some f else some (lastS t)) = r) : runS calm (pushL a ++ pushL b) l = r := by
  unfold runS
  have h1 := pushL_le ha
  have h2 := pushL_le hb
  rw [if_neg (by rw [List.length_append]; omega), two_pushed ha hb]
  exact h
theorem true_truth (e : Bool) : trueB (truthL e) = e := by cases e <;> rfl
theorem lock_135 (a b : List UInt8) : lastS ⟨[truthL (b == a)], []⟩ = if b == a then 0 else 74 := by show (if trueB (truthL (b == a)) then 0 else 74) = _; rw [true_truth]
theorem moves_1 {a b : List UInt8} (ha : a.length ≤ 200) (hb : b.length ≤ 200) : runS calm (pushL a ++ pushL b) [135] = some (if b == a then 0 else 74) := moves ha hb _ (by decide) (congrArg some (lock_135 a b))
theorem moves_2 {a b : List UInt8} (ha : a.length ≤ 200) (hb : b.length ≤ 200) : runS calm (pushL a ++ pushL b) [124, 135] = some (if a == b then 0 else 74) := moves ha hb _ (by decide) (congrArg some (lock_135 b a))
theorem moves_3 {a b : List UInt8} (ha : a.length ≤ 200) (hb : b.length ≤ 200) : runS calm (pushL a ++ pushL b) [118, 135] = some 0 := by
  refine moves ha hb _ (by decide) ?_
  show some (if trueB (truthL (b == b)) then 0 else 74) = some 0
  rw [true_truth, beq_self_eq_true, if_pos rfl]
theorem moves_4 {a b : List UInt8} (ha : a.length ≤ 200) (hb : b.length ≤ 200) : runS calm (pushL a ++ pushL b) [124, 124, 135] = some (if b == a then 0 else 74) := moves ha hb _ (by decide) (congrArg some (lock_135 a b))
theorem moves_5 {a b : List UInt8} (ha : a.length ≤ 200) (hb : b.length ≤ 200) : runS calm (pushL a ++ pushL b) [120, 124, 117, 135] = some 0 := by
  refine moves ha hb _ (by decide) ?_
  show some (if trueB (truthL (a == a)) then 0 else 74) = some 0
  rw [true_truth, beq_self_eq_true, if_pos rfl]
theorem moves_6 {a b : List UInt8} (ha : a.length ≤ 200) (hb : b.length ≤ 200) : runS calm (pushL a ++ pushL b) [109, 81] = some 0 := moves ha hb _ (by decide) rfl
theorem moves_7 {a b : List UInt8} (ha : a.length ≤ 200) (hb : b.length ≤ 200) : runS calm (pushL a ++ pushL b) [109] = some 74 := moves ha hb _ (by decide) rfl
end Go.Proofs.YtnaclalbeocpkaaDoor
