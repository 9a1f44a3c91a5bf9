/-
  Joined: LbCells, LbBase, LbRight, LbWords, LbLock, LbDeed, LbRead, LbSplit.
-/
import Derived.Test.YtnaclalbeocpkaaDoorTwice
import Derived.Test.YtnaclalbeocpkaaDoorScWord2
import Derived.Test.YtnaclalbeocpkaaDoorKitSt
import Derived.Test.YtnaclalbeocpkaaDoorKitT
import Derived.Test.YtnaclalbeocpkaaDoorScMem
/-
  Layer 8, plain: deeds, and what a lock says of a name; deeds as cells, their fields, '==' of two.
-/
namespace Go.Proofs.YtnaclalbeocpkaaDoor
open Go Go.RowKit

structure Deed where
  kind : Int
  name : List UInt8
  value : List UInt8
  rand : List UInt8
  commit : List UInt8
def z20 : List UInt8 := List.replicate 20 0
def noDeed : Deed := ⟨0, [], [], [], z20⟩
def Deed.Is (d : Deed) : Prop := d.commit.length = 20
/-- can it be? -/
def rightB (d : Deed) : Bool :=
  if d.kind = 0 then decide (d.name = [] ∧ d.value = [] ∧ d.rand = [] ∧ d.commit = z20)
  else if d.kind = 1 then decide (d.name = [] ∧ d.value = [] ∧ d.rand = [])
  else if d.kind = 2 then decide (d.commit = z20 ∧ (1 ≤ d.name.length ∧ d.name.length ≤ 64) ∧ d.value.length ≤ 200 ∧ (1 ≤ d.rand.length ∧ d.rand.length ≤ 32))
  else if d.kind = 3 then decide (d.commit = z20 ∧ d.rand = [] ∧ (1 ≤ d.name.length ∧ d.name.length ≤ 64) ∧ d.value.length ≤ 200)
  else false
/-- what a lock's first byte tells -/
def kindL (l : List UInt8) : Nat := if l = [] then 0 else if at8 l 0 = 81 then 1 else if at8 l 0 = 82 then 2 else if at8 l 0 = 83 then 3 else 0
/-- the words of a deed -/
def wordsL (d : Deed) : List UInt8 :=
  if d.kind = 1 then 81 :: (pushL d.commit ++ [109])
  else if d.kind = 2 then 82 :: (pushL d.name ++ (pushL d.rand ++ (pushL d.value ++ [109, 109])))
  else if d.kind = 3 then 83 :: (pushL d.name ++ (pushL d.value ++ [109, 117]))
  else []
def lockS (d : Deed) (r : List UInt8) : Option (List UInt8) := if rightB d = false ∨ (d.kind = 0 ∧ kindL r ≠ 0) then none else some (wordsL d ++ r)
def dtab (k n v r : Value) (c : Nat → Value) : Array Value := (k :: n :: v :: r :: (List.range 20).map c).toArray
def dcells (d : Deed) : Array Value := dtab (.int .i64 d.kind) (textV d.name) (textV d.value) (textV d.rand) fun p => VB (at8 d.commit p)
def deedV (d : Deed) : Value := .agg (dcells d)
theorem dcells_0 (d : Deed) : (dcells d)[0]? = some (.int .i64 d.kind) := by simp [dcells, dtab]
theorem dcells_1 (d : Deed) : (dcells d)[1]? = some (textV d.name) := by simp [dcells, dtab]
theorem dcells_2 (d : Deed) : (dcells d)[2]? = some (textV d.value) := by simp [dcells, dtab]
theorem dcells_3 (d : Deed) : (dcells d)[3]? = some (textV d.rand) := by simp [dcells, dtab]
theorem dcells_size (d : Deed) : (dcells d).size = 24 := by simp [dcells, dtab]
theorem dcells_4 (d : Deed) : (dcells d).extract 4 (4 + 20) = tab 20 fun p => VB (at8 d.commit p) := by
  simp only [dcells, dtab, tab, List.extract_toArray, List.extract_eq_take_drop]
  rw [List.take_of_length_le (by simp)]
  rfl
theorem dcells_one (d : Deed) : ∀ v ∈ dcells d, v.oneCell' = true := by
  intro v hv
  simp only [dcells, dtab, List.mem_toArray, List.mem_cons, List.mem_map] at hv
  rcases hv with rfl | rfl | rfl | rfl | ⟨j, -, rfl⟩ <;> rfl
theorem info_Deed : (Tryd.prog.info? 29).map (·.size) = some 24 := by kernel_rfl
theorem info_DeedC (d : Deed) : (Tryd.prog.info? 29).map (·.size) = some (dcells d).size := by rw [dcells_size]; exact info_Deed
theorem zero_Deed0 : ((Tryd.prog.info? 29).bind (·.zero)).map Value.cells = some (dtab (.int .i64 0) (textV []) (textV []) (textV []) fun _ => VB 0) := by kernel_rfl
theorem at_z20 : ∀ j, j < 20 → at8 z20 j = 0 := by decide
theorem dtab_z (k n v r : Value) : (dtab k n v r fun p => VB (at8 z20 p)) = dtab k n v r fun _ => VB 0 := by
  unfold dtab
  rw [List.map_congr_left (g := fun _ => VB 0) fun j hj => by rw [at_z20 j (List.mem_range.1 hj)]]
theorem zero_Deed : ((Tryd.prog.info? 29).bind (·.zero)).map Value.cells = some (dcells noDeed) := by
  rw [zero_Deed0]; unfold dcells noDeed; rw [dtab_z]
theorem built_deed0L : Tryd.prog.built 29 [] = some (dtab (.int .i64 0) (textV []) (textV []) (textV []) fun _ => VB 0) := by kernel_rfl
theorem built_deed0 : Tryd.prog.built 29 [] = some (dcells noDeed) := by rw [built_deed0L]; unfold dcells noDeed; rw [dtab_z]
theorem built_deedKL (k : Int) : Tryd.prog.built 29 [(0, .int .i64 k)] = some (dtab (.int .i64 k) (textV []) (textV []) (textV []) fun _ => VB 0) := by kernel_rfl
theorem built_deedK (k : Int) : Tryd.prog.built 29 [(0, .int .i64 k)] = some (dcells ⟨k, [], [], [], z20⟩) := by rw [built_deedKL]; unfold dcells; rw [dtab_z]
theorem built_deed1L (k : Int) (c : Nat → Value) : Tryd.prog.built 29 [(0, .int .i64 k), (4, .agg (tab 20 c))] = some (dtab (.int .i64 k) (textV []) (textV []) (textV []) c) := by kernel_rfl
theorem built_deed1 (k : Int) (c : List UInt8) : Tryd.prog.built 29 [(0, .int .i64 k), (4, .agg (tab 20 fun p => VB (at8 c p)))] = some (dcells ⟨k, [], [], [], c⟩) := built_deed1L _ _
theorem built_deed2L (k : Int) (n r v : List UInt8) : Tryd.prog.built 29 [(0, .int .i64 k), (1, textV n), (3, textV r), (2, textV v)] = some (dtab (.int .i64 k) (textV n) (textV v) (textV r) fun _ => VB 0) := by kernel_rfl
theorem built_deed2 (k : Int) (n r v : List UInt8) : Tryd.prog.built 29 [(0, .int .i64 k), (1, textV n), (3, textV r), (2, textV v)] = some (dcells ⟨k, n, v, r, z20⟩) := by rw [built_deed2L]; unfold dcells; rw [dtab_z]
theorem built_deed3L (k : Int) (n v : List UInt8) : Tryd.prog.built 29 [(0, .int .i64 k), (1, textV n), (2, textV v)] = some (dtab (.int .i64 k) (textV n) (textV v) (textV []) fun _ => VB 0) := by kernel_rfl
theorem built_deed3 (k : Int) (n v : List UInt8) : Tryd.prog.built 29 [(0, .int .i64 k), (1, textV n), (2, textV v)] = some (dcells ⟨k, n, v, [], z20⟩) := by rw [built_deed3L]; unfold dcells; rw [dtab_z]
theorem deedF0 : ∃ f fs, Tryd.prog.underlying 29 = some (.struct fs) ∧ fs[0]? = some f ∧ f.offset = 0 ∧ (Tryd.prog.info? f.type).map (·.size) = some (0 + 1) := ⟨_, _, Tryd.underlying29, rfl, rfl, by kernel_rfl⟩
theorem deedF1 : ∃ f fs, Tryd.prog.underlying 29 = some (.struct fs) ∧ fs[1]? = some f ∧ f.offset = 1 ∧ (Tryd.prog.info? f.type).map (·.size) = some (0 + 1) := ⟨_, _, Tryd.underlying29, rfl, rfl, by kernel_rfl⟩
theorem deedF2 : ∃ f fs, Tryd.prog.underlying 29 = some (.struct fs) ∧ fs[2]? = some f ∧ f.offset = 2 ∧ (Tryd.prog.info? f.type).map (·.size) = some (0 + 1) := ⟨_, _, Tryd.underlying29, rfl, rfl, by kernel_rfl⟩
theorem deedF3 : ∃ f fs, Tryd.prog.underlying 29 = some (.struct fs) ∧ fs[3]? = some f ∧ f.offset = 3 ∧ (Tryd.prog.info? f.type).map (·.size) = some (0 + 1) := ⟨_, _, Tryd.underlying29, rfl, rfl, by kernel_rfl⟩
theorem deedF4 : ∃ f fs, Tryd.prog.underlying 29 = some (.struct fs) ∧ fs[4]? = some f ∧ f.offset = 4 ∧ (Tryd.prog.info? f.type).map (·.size) = some (19 + 1) := ⟨_, _, Tryd.underlying29, rfl, rfl, by kernel_rfl⟩
section
variable {ops : Array Oper} {Q : Exit → Act → World → Prop} {rest : List Oper} {o : Oper} {a : Act} {w : World} {S : World → Prop}
theorem kDeed0 (x : Operand) (b : Nat) (ho : o.op = .fieldAddr 29 x 0) (hg : Region.wanted o (yielded ops a.tmps) = true) (hx : a.eval x = .pointer (some ⟨b, 0, none⟩)) (h : wpList Tryd.prog ops Q rest (a.put o.dst (.pointer (some ⟨b, 0, none⟩))) w) : wpList Tryd.prog ops Q (o :: rest) a w := by
  obtain ⟨f, fs, h1, h2, h3, h4⟩ := deedF0
  have := kFieldAt (Q := Q) (rest := rest) (w := w) _ x 0 0 0 fs f b 0 ho hg hx h1 h2 h3 h4
  rw [Nat.zero_add] at this
  exact this h
theorem kDeed1 (x : Operand) (b : Nat) (ho : o.op = .fieldAddr 29 x 1) (hg : Region.wanted o (yielded ops a.tmps) = true) (hx : a.eval x = .pointer (some ⟨b, 0, none⟩)) (h : wpList Tryd.prog ops Q rest (a.put o.dst (.pointer (some ⟨b, 1, none⟩))) w) : wpList Tryd.prog ops Q (o :: rest) a w := by
  obtain ⟨f, fs, h1, h2, h3, h4⟩ := deedF1
  have := kFieldAt (Q := Q) (rest := rest) (w := w) _ x 1 0 1 fs f b 0 ho hg hx h1 h2 h3 h4
  rw [Nat.zero_add] at this
  exact this h
theorem kDeed2 (x : Operand) (b : Nat) (ho : o.op = .fieldAddr 29 x 2) (hg : Region.wanted o (yielded ops a.tmps) = true) (hx : a.eval x = .pointer (some ⟨b, 0, none⟩)) (h : wpList Tryd.prog ops Q rest (a.put o.dst (.pointer (some ⟨b, 2, none⟩))) w) : wpList Tryd.prog ops Q (o :: rest) a w := by
  obtain ⟨f, fs, h1, h2, h3, h4⟩ := deedF2
  have := kFieldAt (Q := Q) (rest := rest) (w := w) _ x 2 0 2 fs f b 0 ho hg hx h1 h2 h3 h4
  rw [Nat.zero_add] at this
  exact this h
theorem kDeed3 (x : Operand) (b : Nat) (ho : o.op = .fieldAddr 29 x 3) (hg : Region.wanted o (yielded ops a.tmps) = true) (hx : a.eval x = .pointer (some ⟨b, 0, none⟩)) (h : wpList Tryd.prog ops Q rest (a.put o.dst (.pointer (some ⟨b, 3, none⟩))) w) : wpList Tryd.prog ops Q (o :: rest) a w := by
  obtain ⟨f, fs, h1, h2, h3, h4⟩ := deedF3
  have := kFieldAt (Q := Q) (rest := rest) (w := w) _ x 3 0 3 fs f b 0 ho hg hx h1 h2 h3 h4
  rw [Nat.zero_add] at this
  exact this h
theorem kDeed4 (x : Operand) (b : Nat) (ho : o.op = .fieldAddr 29 x 4) (hg : Region.wanted o (yielded ops a.tmps) = true) (hx : a.eval x = .pointer (some ⟨b, 0, none⟩)) (h : wpList Tryd.prog ops Q rest (a.put o.dst (.pointer (some ⟨b, 4, none⟩))) w) : wpList Tryd.prog ops Q (o :: rest) a w := by
  obtain ⟨f, fs, h1, h2, h3, h4⟩ := deedF4
  have := kFieldAt (Q := Q) (rest := rest) (w := w) _ x 4 19 4 fs f b 0 ho hg hx h1 h2 h3 h4
  rw [Nat.zero_add] at this
  exact this h
/-- a deed as it lies in a row -/
def RowD (w : World) (g : Nat) (d : Deed) : Prop := Row w g 29 (dcells d)
theorem kLoadD (x : Operand) (g : Nat) (d : Deed) (hr : Row w g 29 (dcells d)) (ho : o.op = .load 29 x) (hg : Region.wanted o (yielded ops a.tmps) = true) (hx : a.eval x = .pointer (some ⟨g, 0, none⟩)) (h : wpList Tryd.prog ops Q rest (a.put o.dst (deedV d)) w) : wpList Tryd.prog ops Q (o :: rest) a w :=
  kLoadRow _ _ _ g _ _ ho hg hx hr Tryd.underlying29 rfl (info_DeedC d) h
theorem kLoadK (x : Operand) (g : Nat) (d : Deed) (hr : Row w g 29 (dcells d)) (ho : o.op = .load 3 x) (hg : Region.wanted o (yielded ops a.tmps) = true) (hx : a.eval x = .pointer (some ⟨g, 0, none⟩)) (h : wpList Tryd.prog ops Q rest (a.put o.dst (.int .i64 d.kind)) w) : wpList Tryd.prog ops Q (o :: rest) a w :=
  kLoad1 _ _ _ g 0 _ _ _ ho hg hx hr Tryd.underlying3 rfl (dcells_0 d) h
theorem kLoadN1 (x : Operand) (g : Nat) (d : Deed) (hr : Row w g 29 (dcells d)) (ho : o.op = .load 9 x) (hg : Region.wanted o (yielded ops a.tmps) = true) (hx : a.eval x = .pointer (some ⟨g, 1, none⟩)) (h : wpList Tryd.prog ops Q rest (a.put o.dst (textV d.name)) w) : wpList Tryd.prog ops Q (o :: rest) a w :=
  kLoad1 _ _ _ g 1 _ _ _ ho hg hx hr Tryd.underlying9 rfl (dcells_1 d) h
theorem kLoadN2 (x : Operand) (g : Nat) (d : Deed) (hr : Row w g 29 (dcells d)) (ho : o.op = .load 9 x) (hg : Region.wanted o (yielded ops a.tmps) = true) (hx : a.eval x = .pointer (some ⟨g, 2, none⟩)) (h : wpList Tryd.prog ops Q rest (a.put o.dst (textV d.value)) w) : wpList Tryd.prog ops Q (o :: rest) a w :=
  kLoad1 _ _ _ g 2 _ _ _ ho hg hx hr Tryd.underlying9 rfl (dcells_2 d) h
theorem kLoadN3 (x : Operand) (g : Nat) (d : Deed) (hr : Row w g 29 (dcells d)) (ho : o.op = .load 9 x) (hg : Region.wanted o (yielded ops a.tmps) = true) (hx : a.eval x = .pointer (some ⟨g, 3, none⟩)) (h : wpList Tryd.prog ops Q rest (a.put o.dst (textV d.rand)) w) : wpList Tryd.prog ops Q (o :: rest) a w :=
  kLoad1 _ _ _ g 3 _ _ _ ho hg hx hr Tryd.underlying9 rfl (dcells_3 d) h
theorem kLoadC4 (x : Operand) (g : Nat) (d : Deed) (hr : Row w g 29 (dcells d)) (ho : o.op = .load 27 x) (hg : Region.wanted o (yielded ops a.tmps) = true) (hx : a.eval x = .pointer (some ⟨g, 4, none⟩)) (h : wpList Tryd.prog ops Q rest (a.put o.dst (.agg (tab 20 fun p => VB (at8 d.commit p)))) w) : wpList Tryd.prog ops Q (o :: rest) a w :=
  kLoadAs _ _ _ g 4 20 _ _ _ ho hg hx hr Tryd.underlying27 rfl info_Short (by rw [dcells_size]; omega) (dcells_4 d) h
theorem commit_vals {g : Nat} {d : Deed} (hd : d.Is) (hr : Row w g 29 (dcells d)) : IsVals w (.slice (some ⟨g, 4, none⟩) 20 20) (d.commit.map VB) := by
  have h := isVals_row hr 4 20 20 (by rw [dcells_size]; omega) (Nat.le_refl _)
  rw [dcells_4, tab_list _ _ hd] at h
  simpa using h
/-- '==' of deeds -/
theorem eqGuard_Deed : Tryd.prog.eqGuardType Tryd.prog.depth 29 = false := by kernel_rfl
theorem stood_Deed : Tryd.prog.stoodInHeld 29 = false := by kernel_rfl
theorem fields_Deed : Tryd.prog.underlying 29 = some (.struct (Tryd.prog.fieldsOf 29)) := by kernel_rfl
theorem listed_Deed : (Tryd.prog.fieldsOf 29).toList.map (fun f => (f.type, f.offset, decide (f.name = "_"))) = [(3, 0, false), (9, 1, false), (9, 2, false), (9, 3, false), (27, 4, false)] := by kernel_rfl
def sameD (d e : Deed) : Bool := decide (d.kind = e.kind) && decide (d.name = e.name) && decide (d.value = e.value) && decide (d.rand = e.rand) && decide (d.commit = e.commit)
theorem sameD_iff (d e : Deed) : sameD d e = true ↔ d = e := by
  obtain ⟨a, b, c, x, y⟩ := d; obtain ⟨a', b', c', x', y'⟩ := e
  simp [sameD, and_assoc]
theorem run_equalD {d e : Deed} (hd : d.Is) (he : e.Is) (w : World) : (Op.equalIn 10000 29 (deedV d) (deedV e)).run Tryd.prog w = .ok (sameD d e) w := by
  have h := run_eqStruct (P := Tryd.prog) (w := w) (xs := dcells d) (ys := dcells e) _ [decide (d.kind = e.kind), decide (d.name = e.name), decide (d.value = e.value), decide (d.rand = e.rand), decide (d.commit = e.commit)] fields_Deed stood_Deed listed_Deed
    ⟨rfl, ⟨_, _, part1 Tryd.underlying3 rfl _ _ _ (dcells_0 d) w, part1 Tryd.underlying3 rfl _ _ _ (dcells_0 e) w, run_equalZ Tryd.underlying3 9998 _ _ w⟩,
     rfl, ⟨_, _, part1 Tryd.underlying9 rfl _ _ _ (dcells_1 d) w, part1 Tryd.underlying9 rfl _ _ _ (dcells_1 e) w, run_equalStr Tryd.underlying9 9998 _ _ w⟩,
     rfl, ⟨_, _, part1 Tryd.underlying9 rfl _ _ _ (dcells_2 d) w, part1 Tryd.underlying9 rfl _ _ _ (dcells_2 e) w, run_equalStr Tryd.underlying9 9998 _ _ w⟩,
     rfl, ⟨_, _, part1 Tryd.underlying9 rfl _ _ _ (dcells_3 d) w, part1 Tryd.underlying9 rfl _ _ _ (dcells_3 e) w, run_equalStr Tryd.underlying9 9998 _ _ w⟩,
     rfl, ⟨_, _, partA Tryd.underlying27 rfl info_Short _ _ _ (dcells_4 d) w, partA Tryd.underlying27 rfl info_Short _ _ _ (dcells_4 e) w, run_equalBytes Tryd.underlying27 Tryd.underlying5 info_b8P 9997 hd he⟩, trivial⟩
  have e2 : [decide (d.kind = e.kind), decide (d.name = e.name), decide (d.value = e.value), decide (d.rand = e.rand), decide (d.commit = e.commit)].all id = sameD d e := by simp [sameD, Bool.and_assoc]
  rw [e2] at h
  exact h
theorem kEqlD (T2 : TypeId) (u v : Operand) {d e : Deed} (hd : d.Is) (he : e.Is) (b : Bool) (ho : o.op = .binOp .eql 29 u v T2) (hg : Region.wanted o (yielded ops a.tmps) = true) (hx : a.eval u = deedV d) (hy : a.eval v = deedV e) (hb : sameD d e = b)
    (h : wpList Tryd.prog ops Q rest (a.put o.dst (.bool b)) w) : wpList Tryd.prog ops Q (o :: rest) a w :=
  kEqlSt T2 u v b eqGuard_Deed (fun w => by rw [← hb]; exact run_equalD hd he w) ho hg hx hy h
theorem kBuildD0 (ho : o.op = .build 29 #[]) (hg : Region.wanted o (yielded ops a.tmps) = true) (h : wpList Tryd.prog ops Q rest (a.put o.dst (deedV noDeed)) w) : wpList Tryd.prog ops Q (o :: rest) a w :=
  kBuildAny _ _ #[] _ ho hg (by simp) built_deed0 h
theorem kBuildDK (x : Operand) (k : Int) (ho : o.op = .build 29 #[(0, x)]) (hg : Region.wanted o (yielded ops a.tmps) = true) (hx : a.eval x = .int .i64 k) (h : wpList Tryd.prog ops Q rest (a.put o.dst (deedV ⟨k, [], [], [], z20⟩)) w) : wpList Tryd.prog ops Q (o :: rest) a w :=
  kBuildAny _ _ #[(0, .int .i64 k)] _ ho hg (by simp [hx]) (built_deedK k) h
theorem kBuildD1 (x y : Operand) (k : Int) (c : List UInt8) (ho : o.op = .build 29 #[(0, x), (4, y)]) (hg : Region.wanted o (yielded ops a.tmps) = true) (hx : a.eval x = .int .i64 k) (hy : a.eval y = .agg (tab 20 fun p => VB (at8 c p))) (h : wpList Tryd.prog ops Q rest (a.put o.dst (deedV ⟨k, [], [], [], c⟩)) w) : wpList Tryd.prog ops Q (o :: rest) a w :=
  kBuildAny _ _ #[(0, .int .i64 k), (4, .agg (tab 20 fun p => VB (at8 c p)))] _ ho hg (by simp [hx, hy]) (built_deed1 k c) h
theorem kBuildD2 (x n r v : Operand) (k : Int) (N R V : List UInt8) (ho : o.op = .build 29 #[(0, x), (1, n), (3, r), (2, v)]) (hg : Region.wanted o (yielded ops a.tmps) = true) (hx : a.eval x = .int .i64 k) (hn : a.eval n = textV N) (hr : a.eval r = textV R) (hv : a.eval v = textV V) (h : wpList Tryd.prog ops Q rest (a.put o.dst (deedV ⟨k, N, V, R, z20⟩)) w) : wpList Tryd.prog ops Q (o :: rest) a w :=
  kBuildAny _ _ #[(0, .int .i64 k), (1, textV N), (3, textV R), (2, textV V)] _ ho hg (by simp [hx, hn, hr, hv]) (built_deed2 k N R V) h
theorem kBuildD3 (x n v : Operand) (k : Int) (N V : List UInt8) (ho : o.op = .build 29 #[(0, x), (1, n), (2, v)]) (hg : Region.wanted o (yielded ops a.tmps) = true) (hx : a.eval x = .int .i64 k) (hn : a.eval n = textV N) (hv : a.eval v = textV V) (h : wpList Tryd.prog ops Q rest (a.put o.dst (deedV ⟨k, N, V, [], z20⟩)) w) : wpList Tryd.prog ops Q (o :: rest) a w :=
  kBuildAny _ _ #[(0, .int .i64 k), (1, textV N), (2, textV V)] _ ho hg (by simp [hx, hn, hv]) (built_deed3 k N V) h
theorem kBoxD (x : Operand) (d : Deed) (ho : o.op = .box 29 x) (hg : Region.wanted o (yielded ops a.tmps) = true) (hx : a.eval x = deedV d) (h : ∀ w1, Row w1 w.heap.size 29 (dcells d) → w.heap.size < w1.heap.size → Below w.heap.size w w1 → wpList Tryd.prog ops Q rest (a.put o.dst (.pointer (some ⟨w.heap.size, 0, none⟩))) w1) : wpList Tryd.prog ops Q (o :: rest) a w :=
  kBoxL _ _ _ ho hg hx h
theorem kStoreD (x y : Operand) (g : Nat) (d e : Deed) (hr : Row w g 29 (dcells d)) (ho : o.op = .store 29 x y) (hg : Region.wanted o (yielded ops a.tmps) = true) (hx : a.eval x = .pointer (some ⟨g, 0, none⟩)) (hy : a.eval y = deedV e) (h : ∀ w1, Row w1 g 29 (dcells e) → Wrote g w w1 → wpList Tryd.prog ops Q rest (a.put o.dst undef) w1) : wpList Tryd.prog ops Q (o :: rest) a w :=
  kStoreRow _ _ _ _ g _ _ ho hg hx hy hr (info_DeedC _) (by rw [dcells_size, dcells_size]) (dcells_one _) h
end
end Go.Proofs.YtnaclalbeocpkaaDoor

/-
  Layer 8: the walks of the program's kindOf, isWithin, tells, Right, Named, dropped, and of bytes.HasPrefix and bytes.CutPrefix.
-/
namespace Go.Proofs.YtnaclalbeocpkaaDoor
open Go Go.RowKit

theorem B_eqL {c d : UInt8} : decide (B c = B d) = decide (c = d) := by
  by_cases h : c = d
  · subst h; simp
  · have := B_neS h; rw [this]; simp [h]
set_option maxRecDepth 100000 in
set_option maxHeartbeats 8000000 in
theorem lbKindOf_any {l : List UInt8} {v : Value} (w : World) (hv : IsVals w v (l.map VB)) : Calls Tryd.prog 16 #[v] w fun e w' => e = .returned (.int .i64 (kindL l : Int)) ∧ w' = w := by
  obtain ⟨m, hm⟩ : ∃ m, l.length = m := ⟨_, rfl⟩
  cases l with
  | nil =>
    have hm0 : decide ((m : Int) = 0) = true := by simp at hm; simp; omega
    rw [show kindL [] = 0 from rfl]
    go_enter Tryd.func16, Tryd.ntmps16
    go_wp2_with (first
      | ((with_reducible change wpList _ _ _ (Oper.mk (some 4) _ _ _ _ _ :: _) _ _); refine kLenN _ _ _ v _ m rfl rfl rfl hv (by rw [List.length_map, hm]) Tryd.underlying22 ?_; go_frame)
      | ((with_reducible change wpList _ _ _ (Oper.mk (some 5) _ _ _ _ _ :: _) _ _); refine kEqlI _ _ _ _ .i64 (m : Int) 0 true rfl rfl rfl rfl hm0 ?_; go_frame))
    go_ret
    exact ⟨rfl, rfl⟩
  | cons c r =>
    have hm0 : decide ((m : Int) = 0) = false := by simp at hm; simp; omega
    have hk : kindL (c :: r) = if c = 81 then 1 else if c = 82 then 2 else if c = 83 then 3 else 0 := rfl
    by_cases k81 : c = 81
    · have h81 : decide (B c = 81) = true := by subst k81; rfl
      rw [show kindL (c :: r) = 1 by rw [hk]; simp [k81]]
      go_enter Tryd.func16, Tryd.ntmps16
      go_wp2_with (first
        | ((with_reducible change wpList _ _ _ (Oper.mk (some 4) _ _ _ _ _ :: _) _ _); refine kLenN _ _ _ v _ m rfl rfl rfl hv (by rw [List.length_map, hm]) Tryd.underlying22 ?_; go_frame)
        | ((with_reducible change wpList _ _ _ (Oper.mk (some 5) _ _ _ _ _ :: _) _ _); refine kEqlI _ _ _ _ .i64 (m : Int) 0 false rfl rfl rfl rfl hm0 ?_; go_frame)
        | ((with_reducible change wpList _ _ _ (Oper.mk (some 7) _ _ _ _ _ :: _) _ _); refine kIndexAddrV _ _ _ _ .i64 v _ 0 0 (VB c) rfl rfl rfl hv rfl Tryd.underlying22 info_b8P rfl rfl ?_; intro b hb; go_frame)
        | ((with_reducible change wpList _ _ _ (Oper.mk (some 8) _ _ _ _ _ :: _) _ _); refine kLoadCell _ _ b (VB c) _ rfl rfl rfl hb Tryd.underlying5 rfl ?_; clear hb; go_frame)
        | ((with_reducible change wpList _ _ _ (Oper.mk (some 10) _ _ _ _ _ :: _) _ _); refine kEqlI _ _ _ _ .u8 (B c) 81 true rfl rfl rfl rfl h81 ?_; go_frame))
      go_ret
      exact ⟨rfl, rfl⟩
    have h81 : decide (B c = 81) = false := by rw [show (81 : Int) = B 81 from rfl, B_eqL]; simp [k81]
    by_cases k82 : c = 82
    · have h82 : decide (B c = 82) = true := by subst k82; rfl
      rw [show kindL (c :: r) = 2 by rw [hk]; simp [k82]]
      go_enter Tryd.func16, Tryd.ntmps16
      go_wp2_with (first
        | ((with_reducible change wpList _ _ _ (Oper.mk (some 4) _ _ _ _ _ :: _) _ _); refine kLenN _ _ _ v _ m rfl rfl rfl hv (by rw [List.length_map, hm]) Tryd.underlying22 ?_; go_frame)
        | ((with_reducible change wpList _ _ _ (Oper.mk (some 5) _ _ _ _ _ :: _) _ _); refine kEqlI _ _ _ _ .i64 (m : Int) 0 false rfl rfl rfl rfl hm0 ?_; go_frame)
        | ((with_reducible change wpList _ _ _ (Oper.mk (some 7) _ _ _ _ _ :: _) _ _); refine kIndexAddrV _ _ _ _ .i64 v _ 0 0 (VB c) rfl rfl rfl hv rfl Tryd.underlying22 info_b8P rfl rfl ?_; intro b hb; go_frame)
        | ((with_reducible change wpList _ _ _ (Oper.mk (some 8) _ _ _ _ _ :: _) _ _); refine kLoadCell _ _ b (VB c) _ rfl rfl rfl hb Tryd.underlying5 rfl ?_; clear hb; go_frame)
        | ((with_reducible change wpList _ _ _ (Oper.mk (some 10) _ _ _ _ _ :: _) _ _); refine kEqlI _ _ _ _ .u8 (B c) 81 false rfl rfl rfl rfl h81 ?_; go_frame)
        | ((with_reducible change wpList _ _ _ (Oper.mk (some 12) _ _ _ _ _ :: _) _ _); refine kEqlI _ _ _ _ .u8 (B c) 82 true rfl rfl rfl rfl h82 ?_; go_frame))
      go_ret
      exact ⟨rfl, rfl⟩
    have h82 : decide (B c = 82) = false := by rw [show (82 : Int) = B 82 from rfl, B_eqL]; simp [k82]
    by_cases k83 : c = 83
    · have h83 : decide (B c = 83) = true := by subst k83; rfl
      rw [show kindL (c :: r) = 3 by rw [hk]; simp [k83]]
      go_enter Tryd.func16, Tryd.ntmps16
      go_wp2_with (first
        | ((with_reducible change wpList _ _ _ (Oper.mk (some 4) _ _ _ _ _ :: _) _ _); refine kLenN _ _ _ v _ m rfl rfl rfl hv (by rw [List.length_map, hm]) Tryd.underlying22 ?_; go_frame)
        | ((with_reducible change wpList _ _ _ (Oper.mk (some 5) _ _ _ _ _ :: _) _ _); refine kEqlI _ _ _ _ .i64 (m : Int) 0 false rfl rfl rfl rfl hm0 ?_; go_frame)
        | ((with_reducible change wpList _ _ _ (Oper.mk (some 7) _ _ _ _ _ :: _) _ _); refine kIndexAddrV _ _ _ _ .i64 v _ 0 0 (VB c) rfl rfl rfl hv rfl Tryd.underlying22 info_b8P rfl rfl ?_; intro b hb; go_frame)
        | ((with_reducible change wpList _ _ _ (Oper.mk (some 8) _ _ _ _ _ :: _) _ _); refine kLoadCell _ _ b (VB c) _ rfl rfl rfl hb Tryd.underlying5 rfl ?_; clear hb; go_frame)
        | ((with_reducible change wpList _ _ _ (Oper.mk (some 10) _ _ _ _ _ :: _) _ _); refine kEqlI _ _ _ _ .u8 (B c) 81 false rfl rfl rfl rfl h81 ?_; go_frame)
        | ((with_reducible change wpList _ _ _ (Oper.mk (some 12) _ _ _ _ _ :: _) _ _); refine kEqlI _ _ _ _ .u8 (B c) 82 false rfl rfl rfl rfl h82 ?_; go_frame)
        | ((with_reducible change wpList _ _ _ (Oper.mk (some 14) _ _ _ _ _ :: _) _ _); refine kEqlI _ _ _ _ .u8 (B c) 83 true rfl rfl rfl rfl h83 ?_; go_frame))
      go_ret
      exact ⟨rfl, rfl⟩
    have h83 : decide (B c = 83) = false := by rw [show (83 : Int) = B 83 from rfl, B_eqL]; simp [k83]
    rw [show kindL (c :: r) = 0 by rw [hk]; simp [k81, k82, k83]]
    go_enter Tryd.func16, Tryd.ntmps16
    go_wp2_with (first
      | ((with_reducible change wpList _ _ _ (Oper.mk (some 4) _ _ _ _ _ :: _) _ _); refine kLenN _ _ _ v _ m rfl rfl rfl hv (by rw [List.length_map, hm]) Tryd.underlying22 ?_; go_frame)
      | ((with_reducible change wpList _ _ _ (Oper.mk (some 5) _ _ _ _ _ :: _) _ _); refine kEqlI _ _ _ _ .i64 (m : Int) 0 false rfl rfl rfl rfl hm0 ?_; go_frame)
      | ((with_reducible change wpList _ _ _ (Oper.mk (some 7) _ _ _ _ _ :: _) _ _); refine kIndexAddrV _ _ _ _ .i64 v _ 0 0 (VB c) rfl rfl rfl hv rfl Tryd.underlying22 info_b8P rfl rfl ?_; intro b hb; go_frame)
      | ((with_reducible change wpList _ _ _ (Oper.mk (some 8) _ _ _ _ _ :: _) _ _); refine kLoadCell _ _ b (VB c) _ rfl rfl rfl hb Tryd.underlying5 rfl ?_; clear hb; go_frame)
      | ((with_reducible change wpList _ _ _ (Oper.mk (some 10) _ _ _ _ _ :: _) _ _); refine kEqlI _ _ _ _ .u8 (B c) 81 false rfl rfl rfl rfl h81 ?_; go_frame)
      | ((with_reducible change wpList _ _ _ (Oper.mk (some 12) _ _ _ _ _ :: _) _ _); refine kEqlI _ _ _ _ .u8 (B c) 82 false rfl rfl rfl rfl h82 ?_; go_frame)
      | ((with_reducible change wpList _ _ _ (Oper.mk (some 14) _ _ _ _ _ :: _) _ _); refine kEqlI _ _ _ _ .u8 (B c) 83 false rfl rfl rfl rfl h83 ?_; go_frame))
    go_ret
    exact ⟨rfl, rfl⟩
set_option maxRecDepth 100000 in
set_option maxHeartbeats 8000000 in
theorem lbWithin_any (l : List UInt8) (p q : Nat) (w : World) : Calls Tryd.prog 20 #[textV l, .int .i64 (p : Int), .int .i64 (q : Int)] w fun e w' => e = .returned (.bool (decide (p ≤ l.length ∧ l.length ≤ q))) ∧ w' = w := by
  obtain ⟨n, hn⟩ : ∃ n, l.length = n := ⟨_, rfl⟩
  rw [hn]
  by_cases h1 : p ≤ n
  · have k1 : decide ((n : Int) ≥ (p : Int)) = true := by simp; omega
    obtain ⟨b, hb⟩ : ∃ b, decide (p ≤ n ∧ n ≤ q) = b := ⟨_, rfl⟩
    have k2 : decide ((n : Int) ≤ (q : Int)) = b := by rw [← hb]; simp [h1]
    rw [hb]
    clear hb h1
    go_enter Tryd.func20, Tryd.ntmps20
    go_wp2_with (first
      | ((with_reducible change wpList _ _ _ (Oper.mk (some 8) _ _ _ _ _ :: _) _ _); refine kLenStr _ _ l rfl rfl rfl Tryd.underlying9 ?_; rw [hn]; go_frame)
      | ((with_reducible change wpList _ _ _ (Oper.mk (some 10) _ _ _ _ _ :: _) _ _); refine kGeqI _ _ _ _ .i64 (n : Int) (p : Int) true rfl rfl rfl rfl k1 ?_; go_frame)
      | ((with_reducible change wpList _ _ _ (Oper.mk (some 13) _ _ _ _ _ :: _) _ _); refine kLenStr _ _ l rfl rfl rfl Tryd.underlying9 ?_; rw [hn]; go_frame)
      | ((with_reducible change wpList _ _ _ (Oper.mk (some 15) _ _ _ _ _ :: _) _ _); refine kLeqI _ _ _ _ .i64 (n : Int) (q : Int) b rfl rfl rfl rfl k2 ?_; go_frame))
    go_ret
    exact ⟨rfl, rfl⟩
  · have k1 : decide ((n : Int) ≥ (p : Int)) = false := by simp; omega
    rw [show decide (p ≤ n ∧ n ≤ q) = false by simp [h1]]
    go_enter Tryd.func20, Tryd.ntmps20
    go_wp2_with (first
      | ((with_reducible change wpList _ _ _ (Oper.mk (some 8) _ _ _ _ _ :: _) _ _); refine kLenStr _ _ l rfl rfl rfl Tryd.underlying9 ?_; rw [hn]; go_frame)
      | ((with_reducible change wpList _ _ _ (Oper.mk (some 10) _ _ _ _ _ :: _) _ _); refine kGeqI _ _ _ _ .i64 (n : Int) (p : Int) false rfl rfl rfl rfl k1 ?_; go_frame))
    go_ret
    exact ⟨rfl, rfl⟩
set_option maxRecDepth 100000 in
set_option maxHeartbeats 8000000 in
theorem lbTells_any (d : Deed) (w : World) : Calls Tryd.prog 19 #[deedV d] w fun e w' => e = .returned (.bool (decide ((1 ≤ d.name.length ∧ d.name.length ≤ 64) ∧ d.value.length ≤ 200))) ∧ Below w.heap.size w w' := by
  obtain ⟨b1, hb1⟩ : ∃ b, decide (1 ≤ d.name.length ∧ d.name.length ≤ 64) = b := ⟨_, rfl⟩
  obtain ⟨b2, hb2⟩ : ∃ b, decide (0 ≤ d.value.length ∧ d.value.length ≤ 200) = b := ⟨_, rfl⟩
  have e1 := fun w => lbWithin_any d.name 1 64 w
  have e2 := fun w => lbWithin_any d.value 0 200 w
  rw [hb1] at e1
  rw [hb2] at e2
  have hr : decide ((1 ≤ d.name.length ∧ d.name.length ≤ 64) ∧ d.value.length ≤ 200) = (b1 && b2) := by
    rw [← hb1, ← hb2]; simp
  rw [hr]
  clear hr hb1 hb2
  cases b1
  · go_enter Tryd.func19, Tryd.ntmps19
    go_wp2_with (first
      | ((with_reducible change wpList _ _ _ (Oper.mk (some 1) _ _ _ _ _ :: _) _ _); refine kBoxD _ _ rfl rfl rfl ?_; intro w1 hR hz hB; clear hz; go_frame)
      | ((with_reducible change wpList _ _ _ (Oper.mk (some 3) _ _ _ _ _ :: _) _ _); refine kDeed1 _ _ rfl rfl rfl ?_; go_frame)
      | ((with_reducible change wpList _ _ _ (Oper.mk (some 4) _ _ _ _ _ :: _) _ _); refine kLoadN1 _ _ _ hR rfl rfl rfl ?_; go_frame)
      | ((with_reducible change wpList _ _ _ (Oper.mk (some 7) _ _ _ _ _ :: _) _ _); refine kDeed2 _ _ rfl rfl rfl ?_; go_frame)
      | ((with_reducible change wpList _ _ _ (Oper.mk (some 8) _ _ _ _ _ :: _) _ _); refine kLoadN2 _ _ _ hR rfl rfl rfl ?_; go_frame)
      | (go_at_call 20; (with_reducible change Calls _ _ #[textV d.name, _, _] _ _); refine (e1 _).mono ?_; rintro e w2 ⟨rfl, rfl⟩; go_frame)
      | (go_at_call 20; (with_reducible change Calls _ _ #[textV d.value, _, _] _ _); refine (e2 _).mono ?_; rintro e w2 ⟨rfl, rfl⟩; go_frame))
    go_ret
    exact ⟨rfl, hB⟩
  · go_enter Tryd.func19, Tryd.ntmps19
    go_wp2_with (first
      | ((with_reducible change wpList _ _ _ (Oper.mk (some 1) _ _ _ _ _ :: _) _ _); refine kBoxD _ _ rfl rfl rfl ?_; intro w1 hR hz hB; clear hz; go_frame)
      | ((with_reducible change wpList _ _ _ (Oper.mk (some 3) _ _ _ _ _ :: _) _ _); refine kDeed1 _ _ rfl rfl rfl ?_; go_frame)
      | ((with_reducible change wpList _ _ _ (Oper.mk (some 4) _ _ _ _ _ :: _) _ _); refine kLoadN1 _ _ _ hR rfl rfl rfl ?_; go_frame)
      | ((with_reducible change wpList _ _ _ (Oper.mk (some 7) _ _ _ _ _ :: _) _ _); refine kDeed2 _ _ rfl rfl rfl ?_; go_frame)
      | ((with_reducible change wpList _ _ _ (Oper.mk (some 8) _ _ _ _ _ :: _) _ _); refine kLoadN2 _ _ _ hR rfl rfl rfl ?_; go_frame)
      | (go_at_call 20; (with_reducible change Calls _ _ #[textV d.name, _, _] _ _); refine (e1 _).mono ?_; rintro e w2 ⟨rfl, rfl⟩; go_frame)
      | (go_at_call 20; (with_reducible change Calls _ _ #[textV d.value, _, _] _ _); refine (e2 _).mono ?_; rintro e w2 ⟨rfl, rfl⟩; go_frame))
    go_ret
    exact ⟨rfl, hB⟩
end Go.Proofs.YtnaclalbeocpkaaDoor

/-
  Layer 8: the walks of the program's Right and Named.
-/
namespace Go.Proofs.YtnaclalbeocpkaaDoor
open Go Go.RowKit

theorem right_0 {d : Deed} (hk : d.kind = 0) : rightB d = sameD d noDeed := by
  rw [Bool.eq_iff_iff, sameD_iff]
  obtain ⟨k, n, v, r, c⟩ := d
  simp only at hk
  subst hk
  simp [rightB, noDeed]
theorem right_1 {d : Deed} (hk : d.kind = 1) : rightB d = sameD d ⟨1, [], [], [], d.commit⟩ := by simp [rightB, sameD, hk, Bool.decide_and, Bool.and_assoc]
theorem right_2 {d : Deed} (hk : d.kind = 2) : rightB d = (sameD d ⟨2, d.name, d.value, d.rand, z20⟩ && decide ((1 ≤ d.name.length ∧ d.name.length ≤ 64) ∧ d.value.length ≤ 200) && decide (1 ≤ d.rand.length ∧ d.rand.length ≤ 32)) := by
  simp [rightB, sameD, hk, Bool.decide_and, Bool.and_assoc]
theorem right_3 {d : Deed} (hk : d.kind = 3) : rightB d = (sameD d ⟨3, d.name, d.value, [], z20⟩ && decide ((1 ≤ d.name.length ∧ d.name.length ≤ 64) ∧ d.value.length ≤ 200)) := by
  simp only [rightB, sameD, hk, Bool.decide_and, Bool.and_assoc]
  cases decide (d.commit = z20) <;> simp
theorem right_x {d : Deed} (h0 : d.kind ≠ 0) (h1 : d.kind ≠ 1) (h2 : d.kind ≠ 2) (h3 : d.kind ≠ 3) : rightB d = false := by simp [rightB, h0, h1, h2, h3]
set_option maxRecDepth 100000 in
set_option maxHeartbeats 8000000 in
theorem lbRight_any {d : Deed} (hd : d.Is) (w : World) : Calls Tryd.prog 9 #[deedV d] w fun e w' => e = .returned (.bool (rightB d)) ∧ Below w.heap.size w w' := by
  have hz20 : z20.length = 20 := rfl
  by_cases k0 : d.kind = 0
  · have hk := k0
    rw [right_0 hk]
    obtain ⟨b, hb⟩ : ∃ b, sameD d noDeed = b := ⟨_, rfl⟩
    rw [hb]
    go_enter Tryd.func9, Tryd.ntmps9
    go_wp2_with (first
      | ((with_reducible change wpList _ _ _ (Oper.mk (some 1) _ _ _ _ _ :: _) _ _); refine kBoxD _ _ rfl rfl rfl ?_; intro w1 hR hz hB; clear hz; go_frame)
      | ((with_reducible change wpList _ _ _ (Oper.mk (some 4) _ _ _ _ _ :: _) _ _); refine kDeed0 _ _ rfl rfl rfl ?_; go_frame)
      | ((with_reducible change wpList _ _ _ (Oper.mk (some 5) _ _ _ _ _ :: _) _ _); refine kLoadK _ _ _ hR rfl rfl rfl ?_; rw [hk]; go_frame)
      | ((with_reducible change wpList _ _ _ (Oper.mk (some 8) _ _ _ _ _ :: _) _ _); refine kLoadD _ _ _ hR rfl rfl rfl ?_; go_frame)
      | ((with_reducible change wpList _ _ _ (Oper.mk (some 9) _ _ _ _ _ :: _) _ _); refine kBuildD0 rfl rfl ?_; go_frame)
      | ((with_reducible change wpList _ _ _ (Oper.mk (some 10) _ _ _ _ _ :: _) _ _); refine kEqlD _ _ _ hd (by exact hz20) b rfl rfl rfl rfl hb ?_; go_frame))
    go_ret
    exact ⟨rfl, hB⟩
  by_cases k1 : d.kind = 1
  · have hk := k1
    rw [right_1 hk]
    obtain ⟨b, hb⟩ : ∃ b, sameD d ⟨1, [], [], [], d.commit⟩ = b := ⟨_, rfl⟩
    rw [hb]
    go_enter Tryd.func9, Tryd.ntmps9
    go_wp2_with (first
      | ((with_reducible change wpList _ _ _ (Oper.mk (some 1) _ _ _ _ _ :: _) _ _); refine kBoxD _ _ rfl rfl rfl ?_; intro w1 hR hz hB; clear hz; go_frame)
      | ((with_reducible change wpList _ _ _ (Oper.mk (some 4) _ _ _ _ _ :: _) _ _); refine kDeed0 _ _ rfl rfl rfl ?_; go_frame)
      | ((with_reducible change wpList _ _ _ (Oper.mk (some 5) _ _ _ _ _ :: _) _ _); refine kLoadK _ _ _ hR rfl rfl rfl ?_; rw [hk]; go_frame)
      | ((with_reducible change wpList _ _ _ (Oper.mk (some 13) _ _ _ _ _ :: _) _ _); refine kLoadD _ _ _ hR rfl rfl rfl ?_; go_frame)
      | ((with_reducible change wpList _ _ _ (Oper.mk (some 14) _ _ _ _ _ :: _) _ _); refine kDeed0 _ _ rfl rfl rfl ?_; go_frame)
      | ((with_reducible change wpList _ _ _ (Oper.mk (some 15) _ _ _ _ _ :: _) _ _); refine kLoadK _ _ _ hR rfl rfl rfl ?_; rw [hk]; go_frame)
      | ((with_reducible change wpList _ _ _ (Oper.mk (some 16) _ _ _ _ _ :: _) _ _); refine kDeed4 _ _ rfl rfl rfl ?_; go_frame)
      | ((with_reducible change wpList _ _ _ (Oper.mk (some 17) _ _ _ _ _ :: _) _ _); refine kLoadC4 _ _ _ hR rfl rfl rfl ?_; go_frame)
      | ((with_reducible change wpList _ _ _ (Oper.mk (some 18) _ _ _ _ _ :: _) _ _); refine kBuildD1 _ _ 1 d.commit rfl rfl rfl rfl ?_; go_frame)
      | ((with_reducible change wpList _ _ _ (Oper.mk (some 19) _ _ _ _ _ :: _) _ _); refine kEqlD _ _ _ hd (by exact hd) b rfl rfl rfl rfl hb ?_; go_frame))
    go_ret
    exact ⟨rfl, hB⟩
  by_cases k2 : d.kind = 2
  · have hk := k2
    rw [right_2 hk]
    have e1 := fun w => lbTells_any d w
    have e2 := fun w => lbWithin_any d.rand 1 32 w
    obtain ⟨b1, hb1⟩ : ∃ b, decide ((1 ≤ d.name.length ∧ d.name.length ≤ 64) ∧ d.value.length ≤ 200) = b := ⟨_, rfl⟩
    obtain ⟨b2, hb2⟩ : ∃ b, decide (1 ≤ d.rand.length ∧ d.rand.length ≤ 32) = b := ⟨_, rfl⟩
    rw [hb1] at e1 ⊢
    rw [hb2] at e2 ⊢
    clear hb1 hb2
    obtain ⟨b0, hb0⟩ : ∃ b, sameD d ⟨2, d.name, d.value, d.rand, z20⟩ = b := ⟨_, rfl⟩
    rw [hb0]
    cases b0
    · rw [Bool.false_and, Bool.false_and]
      go_enter Tryd.func9, Tryd.ntmps9
      go_wp2_with (first
        | ((with_reducible change wpList _ _ _ (Oper.mk (some 1) _ _ _ _ _ :: _) _ _); refine kBoxD _ _ rfl rfl rfl ?_; intro w1 hR hz1 hB; go_frame)
        | ((with_reducible change wpList _ _ _ (Oper.mk (some 4) _ _ _ _ _ :: _) _ _); refine kDeed0 _ _ rfl rfl rfl ?_; go_frame)
        | ((with_reducible change wpList _ _ _ (Oper.mk (some 5) _ _ _ _ _ :: _) _ _); refine kLoadK _ _ _ hR rfl rfl rfl ?_; rw [hk]; go_frame)
        | ((with_reducible change wpList _ _ _ (Oper.mk (some 22) _ _ _ _ _ :: _) _ _); refine kDeed0 _ _ rfl rfl rfl ?_; go_frame)
        | ((with_reducible change wpList _ _ _ (Oper.mk (some 23) _ _ _ _ _ :: _) _ _); refine kLoadK _ _ _ hR rfl rfl rfl ?_; rw [hk]; go_frame)
        | ((with_reducible change wpList _ _ _ (Oper.mk (some 24) _ _ _ _ _ :: _) _ _); refine kDeed1 _ _ rfl rfl rfl ?_; go_frame)
        | ((with_reducible change wpList _ _ _ (Oper.mk (some 25) _ _ _ _ _ :: _) _ _); refine kLoadN1 _ _ _ hR rfl rfl rfl ?_; go_frame)
        | ((with_reducible change wpList _ _ _ (Oper.mk (some 26) _ _ _ _ _ :: _) _ _); refine kDeed3 _ _ rfl rfl rfl ?_; go_frame)
        | ((with_reducible change wpList _ _ _ (Oper.mk (some 27) _ _ _ _ _ :: _) _ _); refine kLoadN3 _ _ _ hR rfl rfl rfl ?_; go_frame)
        | ((with_reducible change wpList _ _ _ (Oper.mk (some 28) _ _ _ _ _ :: _) _ _); refine kDeed2 _ _ rfl rfl rfl ?_; go_frame)
        | ((with_reducible change wpList _ _ _ (Oper.mk (some 29) _ _ _ _ _ :: _) _ _); refine kLoadN2 _ _ _ hR rfl rfl rfl ?_; go_frame)
        | ((with_reducible change wpList _ _ _ (Oper.mk (some 30) _ _ _ _ _ :: _) _ _); refine kBuildD2 _ _ _ _ 2 d.name d.rand d.value rfl rfl rfl rfl rfl rfl ?_; go_frame)
        | ((with_reducible change wpList _ _ _ (Oper.mk (some 3) _ _ _ _ _ :: _) _ _); refine kAllocL _ _ rfl rfl zero_Deed ?_; intro w2 hR2 hz2 hB2; clear hz2; go_frame)
        | ((with_reducible change wpList _ _ _ (Oper.mk none _ _ _ _ _ :: _) _ _); refine kStoreD _ _ _ noDeed _ hR2 rfl rfl rfl rfl ?_; intro w3 hR3 hW3; have hR4 := hW3.row (hR.below hB2 hR.lt) (Nat.ne_of_lt hz1); have hB4 := (hB.trans (hB2.mono (Nat.le_of_lt hz1))).trans (hW3.below (Nat.le_of_lt hz1)); clear hR hR2 hB hB2 hW3; go_frame)
        | ((with_reducible change wpList _ _ _ (Oper.mk (some 31) _ _ _ _ _ :: _) _ _); refine kLoadD _ _ _ hR4 rfl rfl rfl ?_; go_frame)
        | ((with_reducible change wpList _ _ _ (Oper.mk (some 32) _ _ _ _ _ :: _) _ _); refine kLoadD _ _ _ hR3 rfl rfl rfl ?_; go_frame)
        | ((with_reducible change wpList _ _ _ (Oper.mk (some 33) _ _ _ _ _ :: _) _ _); refine kEqlD _ _ _ hd (by exact hz20) _ rfl rfl rfl rfl hb0 ?_; go_frame)
        | ((with_reducible change wpList _ _ _ (Oper.mk (some 35) _ _ _ _ _ :: _) _ _); refine kLoadD _ _ _ hR4 rfl rfl rfl ?_; go_frame)
        | (go_at_call 19; refine (e1 _).mono ?_; rintro e w5 ⟨rfl, hB5⟩; have hR5 := hR4.below hB5 hR4.lt; have hB6 := hB4.trans (hB5.mono hB4.size); clear hR4 hB4 hB5; go_frame)
        | ((with_reducible change wpList _ _ _ (Oper.mk (some 39) _ _ _ _ _ :: _) _ _); refine kDeed3 _ _ rfl rfl rfl ?_; go_frame)
        | ((with_reducible change wpList _ _ _ (Oper.mk (some 40) _ _ _ _ _ :: _) _ _); refine kLoadN3 _ _ _ hR5 rfl rfl rfl ?_; go_frame)
        | (go_at_call 20; refine (e2 _).mono ?_; rintro e w6 ⟨rfl, rfl⟩; go_frame))
      go_ret
      exact ⟨rfl, hB4⟩
    cases b1
    · rw [Bool.and_false, Bool.false_and]
      go_enter Tryd.func9, Tryd.ntmps9
      go_wp2_with (first
        | ((with_reducible change wpList _ _ _ (Oper.mk (some 1) _ _ _ _ _ :: _) _ _); refine kBoxD _ _ rfl rfl rfl ?_; intro w1 hR hz1 hB; go_frame)
        | ((with_reducible change wpList _ _ _ (Oper.mk (some 4) _ _ _ _ _ :: _) _ _); refine kDeed0 _ _ rfl rfl rfl ?_; go_frame)
        | ((with_reducible change wpList _ _ _ (Oper.mk (some 5) _ _ _ _ _ :: _) _ _); refine kLoadK _ _ _ hR rfl rfl rfl ?_; rw [hk]; go_frame)
        | ((with_reducible change wpList _ _ _ (Oper.mk (some 22) _ _ _ _ _ :: _) _ _); refine kDeed0 _ _ rfl rfl rfl ?_; go_frame)
        | ((with_reducible change wpList _ _ _ (Oper.mk (some 23) _ _ _ _ _ :: _) _ _); refine kLoadK _ _ _ hR rfl rfl rfl ?_; rw [hk]; go_frame)
        | ((with_reducible change wpList _ _ _ (Oper.mk (some 24) _ _ _ _ _ :: _) _ _); refine kDeed1 _ _ rfl rfl rfl ?_; go_frame)
        | ((with_reducible change wpList _ _ _ (Oper.mk (some 25) _ _ _ _ _ :: _) _ _); refine kLoadN1 _ _ _ hR rfl rfl rfl ?_; go_frame)
        | ((with_reducible change wpList _ _ _ (Oper.mk (some 26) _ _ _ _ _ :: _) _ _); refine kDeed3 _ _ rfl rfl rfl ?_; go_frame)
        | ((with_reducible change wpList _ _ _ (Oper.mk (some 27) _ _ _ _ _ :: _) _ _); refine kLoadN3 _ _ _ hR rfl rfl rfl ?_; go_frame)
        | ((with_reducible change wpList _ _ _ (Oper.mk (some 28) _ _ _ _ _ :: _) _ _); refine kDeed2 _ _ rfl rfl rfl ?_; go_frame)
        | ((with_reducible change wpList _ _ _ (Oper.mk (some 29) _ _ _ _ _ :: _) _ _); refine kLoadN2 _ _ _ hR rfl rfl rfl ?_; go_frame)
        | ((with_reducible change wpList _ _ _ (Oper.mk (some 30) _ _ _ _ _ :: _) _ _); refine kBuildD2 _ _ _ _ 2 d.name d.rand d.value rfl rfl rfl rfl rfl rfl ?_; go_frame)
        | ((with_reducible change wpList _ _ _ (Oper.mk (some 3) _ _ _ _ _ :: _) _ _); refine kAllocL _ _ rfl rfl zero_Deed ?_; intro w2 hR2 hz2 hB2; clear hz2; go_frame)
        | ((with_reducible change wpList _ _ _ (Oper.mk none _ _ _ _ _ :: _) _ _); refine kStoreD _ _ _ noDeed _ hR2 rfl rfl rfl rfl ?_; intro w3 hR3 hW3; have hR4 := hW3.row (hR.below hB2 hR.lt) (Nat.ne_of_lt hz1); have hB4 := (hB.trans (hB2.mono (Nat.le_of_lt hz1))).trans (hW3.below (Nat.le_of_lt hz1)); clear hR hR2 hB hB2 hW3; go_frame)
        | ((with_reducible change wpList _ _ _ (Oper.mk (some 31) _ _ _ _ _ :: _) _ _); refine kLoadD _ _ _ hR4 rfl rfl rfl ?_; go_frame)
        | ((with_reducible change wpList _ _ _ (Oper.mk (some 32) _ _ _ _ _ :: _) _ _); refine kLoadD _ _ _ hR3 rfl rfl rfl ?_; go_frame)
        | ((with_reducible change wpList _ _ _ (Oper.mk (some 33) _ _ _ _ _ :: _) _ _); refine kEqlD _ _ _ hd (by exact hz20) _ rfl rfl rfl rfl hb0 ?_; go_frame)
        | ((with_reducible change wpList _ _ _ (Oper.mk (some 35) _ _ _ _ _ :: _) _ _); refine kLoadD _ _ _ hR4 rfl rfl rfl ?_; go_frame)
        | (go_at_call 19; refine (e1 _).mono ?_; rintro e w5 ⟨rfl, hB5⟩; have hR5 := hR4.below hB5 hR4.lt; have hB6 := hB4.trans (hB5.mono hB4.size); clear hR4 hB4 hB5; go_frame)
        | ((with_reducible change wpList _ _ _ (Oper.mk (some 39) _ _ _ _ _ :: _) _ _); refine kDeed3 _ _ rfl rfl rfl ?_; go_frame)
        | ((with_reducible change wpList _ _ _ (Oper.mk (some 40) _ _ _ _ _ :: _) _ _); refine kLoadN3 _ _ _ hR5 rfl rfl rfl ?_; go_frame)
        | (go_at_call 20; refine (e2 _).mono ?_; rintro e w6 ⟨rfl, rfl⟩; go_frame))
      go_ret
      exact ⟨rfl, hB6⟩
    rw [Bool.true_and, Bool.true_and]
    go_enter Tryd.func9, Tryd.ntmps9
    go_wp2_with (first
      | ((with_reducible change wpList _ _ _ (Oper.mk (some 1) _ _ _ _ _ :: _) _ _); refine kBoxD _ _ rfl rfl rfl ?_; intro w1 hR hz1 hB; go_frame)
      | ((with_reducible change wpList _ _ _ (Oper.mk (some 4) _ _ _ _ _ :: _) _ _); refine kDeed0 _ _ rfl rfl rfl ?_; go_frame)
      | ((with_reducible change wpList _ _ _ (Oper.mk (some 5) _ _ _ _ _ :: _) _ _); refine kLoadK _ _ _ hR rfl rfl rfl ?_; rw [hk]; go_frame)
      | ((with_reducible change wpList _ _ _ (Oper.mk (some 22) _ _ _ _ _ :: _) _ _); refine kDeed0 _ _ rfl rfl rfl ?_; go_frame)
      | ((with_reducible change wpList _ _ _ (Oper.mk (some 23) _ _ _ _ _ :: _) _ _); refine kLoadK _ _ _ hR rfl rfl rfl ?_; rw [hk]; go_frame)
      | ((with_reducible change wpList _ _ _ (Oper.mk (some 24) _ _ _ _ _ :: _) _ _); refine kDeed1 _ _ rfl rfl rfl ?_; go_frame)
      | ((with_reducible change wpList _ _ _ (Oper.mk (some 25) _ _ _ _ _ :: _) _ _); refine kLoadN1 _ _ _ hR rfl rfl rfl ?_; go_frame)
      | ((with_reducible change wpList _ _ _ (Oper.mk (some 26) _ _ _ _ _ :: _) _ _); refine kDeed3 _ _ rfl rfl rfl ?_; go_frame)
      | ((with_reducible change wpList _ _ _ (Oper.mk (some 27) _ _ _ _ _ :: _) _ _); refine kLoadN3 _ _ _ hR rfl rfl rfl ?_; go_frame)
      | ((with_reducible change wpList _ _ _ (Oper.mk (some 28) _ _ _ _ _ :: _) _ _); refine kDeed2 _ _ rfl rfl rfl ?_; go_frame)
      | ((with_reducible change wpList _ _ _ (Oper.mk (some 29) _ _ _ _ _ :: _) _ _); refine kLoadN2 _ _ _ hR rfl rfl rfl ?_; go_frame)
      | ((with_reducible change wpList _ _ _ (Oper.mk (some 30) _ _ _ _ _ :: _) _ _); refine kBuildD2 _ _ _ _ 2 d.name d.rand d.value rfl rfl rfl rfl rfl rfl ?_; go_frame)
      | ((with_reducible change wpList _ _ _ (Oper.mk (some 3) _ _ _ _ _ :: _) _ _); refine kAllocL _ _ rfl rfl zero_Deed ?_; intro w2 hR2 hz2 hB2; clear hz2; go_frame)
      | ((with_reducible change wpList _ _ _ (Oper.mk none _ _ _ _ _ :: _) _ _); refine kStoreD _ _ _ noDeed _ hR2 rfl rfl rfl rfl ?_; intro w3 hR3 hW3; have hR4 := hW3.row (hR.below hB2 hR.lt) (Nat.ne_of_lt hz1); have hB4 := (hB.trans (hB2.mono (Nat.le_of_lt hz1))).trans (hW3.below (Nat.le_of_lt hz1)); clear hR hR2 hB hB2 hW3; go_frame)
      | ((with_reducible change wpList _ _ _ (Oper.mk (some 31) _ _ _ _ _ :: _) _ _); refine kLoadD _ _ _ hR4 rfl rfl rfl ?_; go_frame)
      | ((with_reducible change wpList _ _ _ (Oper.mk (some 32) _ _ _ _ _ :: _) _ _); refine kLoadD _ _ _ hR3 rfl rfl rfl ?_; go_frame)
      | ((with_reducible change wpList _ _ _ (Oper.mk (some 33) _ _ _ _ _ :: _) _ _); refine kEqlD _ _ _ hd (by exact hz20) _ rfl rfl rfl rfl hb0 ?_; go_frame)
      | ((with_reducible change wpList _ _ _ (Oper.mk (some 35) _ _ _ _ _ :: _) _ _); refine kLoadD _ _ _ hR4 rfl rfl rfl ?_; go_frame)
      | (go_at_call 19; refine (e1 _).mono ?_; rintro e w5 ⟨rfl, hB5⟩; have hR5 := hR4.below hB5 hR4.lt; have hB6 := hB4.trans (hB5.mono hB4.size); clear hR4 hB4 hB5; go_frame)
      | ((with_reducible change wpList _ _ _ (Oper.mk (some 39) _ _ _ _ _ :: _) _ _); refine kDeed3 _ _ rfl rfl rfl ?_; go_frame)
      | ((with_reducible change wpList _ _ _ (Oper.mk (some 40) _ _ _ _ _ :: _) _ _); refine kLoadN3 _ _ _ hR5 rfl rfl rfl ?_; go_frame)
      | (go_at_call 20; refine (e2 _).mono ?_; rintro e w6 ⟨rfl, rfl⟩; go_frame))
    go_ret
    exact ⟨rfl, hB6⟩
  by_cases k3 : d.kind = 3
  · have hk := k3
    rw [right_3 hk]
    have e1 := fun w => lbTells_any d w
    obtain ⟨b1, hb1⟩ : ∃ b, decide ((1 ≤ d.name.length ∧ d.name.length ≤ 64) ∧ d.value.length ≤ 200) = b := ⟨_, rfl⟩
    rw [hb1] at e1 ⊢
    clear hb1
    obtain ⟨b0, hb0⟩ : ∃ b, sameD d ⟨3, d.name, d.value, [], z20⟩ = b := ⟨_, rfl⟩
    rw [hb0]
    cases b0
    · rw [Bool.false_and]
      go_enter Tryd.func9, Tryd.ntmps9
      go_wp2_with (first
        | ((with_reducible change wpList _ _ _ (Oper.mk (some 1) _ _ _ _ _ :: _) _ _); refine kBoxD _ _ rfl rfl rfl ?_; intro w1 hR hz1 hB; go_frame)
        | ((with_reducible change wpList _ _ _ (Oper.mk (some 4) _ _ _ _ _ :: _) _ _); refine kDeed0 _ _ rfl rfl rfl ?_; go_frame)
        | ((with_reducible change wpList _ _ _ (Oper.mk (some 5) _ _ _ _ _ :: _) _ _); refine kLoadK _ _ _ hR rfl rfl rfl ?_; rw [hk]; go_frame)
        | ((with_reducible change wpList _ _ _ (Oper.mk (some 45) _ _ _ _ _ :: _) _ _); refine kLoadD _ _ _ hR rfl rfl rfl ?_; go_frame)
        | ((with_reducible change wpList _ _ _ (Oper.mk (some 46) _ _ _ _ _ :: _) _ _); refine kDeed0 _ _ rfl rfl rfl ?_; go_frame)
        | ((with_reducible change wpList _ _ _ (Oper.mk (some 47) _ _ _ _ _ :: _) _ _); refine kLoadK _ _ _ hR rfl rfl rfl ?_; rw [hk]; go_frame)
        | ((with_reducible change wpList _ _ _ (Oper.mk (some 48) _ _ _ _ _ :: _) _ _); refine kDeed1 _ _ rfl rfl rfl ?_; go_frame)
        | ((with_reducible change wpList _ _ _ (Oper.mk (some 49) _ _ _ _ _ :: _) _ _); refine kLoadN1 _ _ _ hR rfl rfl rfl ?_; go_frame)
        | ((with_reducible change wpList _ _ _ (Oper.mk (some 50) _ _ _ _ _ :: _) _ _); refine kDeed2 _ _ rfl rfl rfl ?_; go_frame)
        | ((with_reducible change wpList _ _ _ (Oper.mk (some 51) _ _ _ _ _ :: _) _ _); refine kLoadN2 _ _ _ hR rfl rfl rfl ?_; go_frame)
        | ((with_reducible change wpList _ _ _ (Oper.mk (some 52) _ _ _ _ _ :: _) _ _); refine kBuildD3 _ _ _ 3 d.name d.value rfl rfl rfl rfl rfl ?_; go_frame)
        | ((with_reducible change wpList _ _ _ (Oper.mk (some 53) _ _ _ _ _ :: _) _ _); refine kEqlD _ _ _ hd (by exact hz20) _ rfl rfl rfl rfl hb0 ?_; go_frame)
        | ((with_reducible change wpList _ _ _ (Oper.mk (some 55) _ _ _ _ _ :: _) _ _); refine kLoadD _ _ _ hR rfl rfl rfl ?_; go_frame)
        | (go_at_call 19; refine (e1 _).mono ?_; rintro e w5 ⟨rfl, hB5⟩; have hB6 := hB.trans (hB5.mono hB.size); clear hB hB5; go_frame))
      go_ret
      exact ⟨rfl, hB⟩
    rw [Bool.true_and]
    go_enter Tryd.func9, Tryd.ntmps9
    go_wp2_with (first
      | ((with_reducible change wpList _ _ _ (Oper.mk (some 1) _ _ _ _ _ :: _) _ _); refine kBoxD _ _ rfl rfl rfl ?_; intro w1 hR hz1 hB; go_frame)
      | ((with_reducible change wpList _ _ _ (Oper.mk (some 4) _ _ _ _ _ :: _) _ _); refine kDeed0 _ _ rfl rfl rfl ?_; go_frame)
      | ((with_reducible change wpList _ _ _ (Oper.mk (some 5) _ _ _ _ _ :: _) _ _); refine kLoadK _ _ _ hR rfl rfl rfl ?_; rw [hk]; go_frame)
      | ((with_reducible change wpList _ _ _ (Oper.mk (some 45) _ _ _ _ _ :: _) _ _); refine kLoadD _ _ _ hR rfl rfl rfl ?_; go_frame)
      | ((with_reducible change wpList _ _ _ (Oper.mk (some 46) _ _ _ _ _ :: _) _ _); refine kDeed0 _ _ rfl rfl rfl ?_; go_frame)
      | ((with_reducible change wpList _ _ _ (Oper.mk (some 47) _ _ _ _ _ :: _) _ _); refine kLoadK _ _ _ hR rfl rfl rfl ?_; rw [hk]; go_frame)
      | ((with_reducible change wpList _ _ _ (Oper.mk (some 48) _ _ _ _ _ :: _) _ _); refine kDeed1 _ _ rfl rfl rfl ?_; go_frame)
      | ((with_reducible change wpList _ _ _ (Oper.mk (some 49) _ _ _ _ _ :: _) _ _); refine kLoadN1 _ _ _ hR rfl rfl rfl ?_; go_frame)
      | ((with_reducible change wpList _ _ _ (Oper.mk (some 50) _ _ _ _ _ :: _) _ _); refine kDeed2 _ _ rfl rfl rfl ?_; go_frame)
      | ((with_reducible change wpList _ _ _ (Oper.mk (some 51) _ _ _ _ _ :: _) _ _); refine kLoadN2 _ _ _ hR rfl rfl rfl ?_; go_frame)
      | ((with_reducible change wpList _ _ _ (Oper.mk (some 52) _ _ _ _ _ :: _) _ _); refine kBuildD3 _ _ _ 3 d.name d.value rfl rfl rfl rfl rfl ?_; go_frame)
      | ((with_reducible change wpList _ _ _ (Oper.mk (some 53) _ _ _ _ _ :: _) _ _); refine kEqlD _ _ _ hd (by exact hz20) _ rfl rfl rfl rfl hb0 ?_; go_frame)
      | ((with_reducible change wpList _ _ _ (Oper.mk (some 55) _ _ _ _ _ :: _) _ _); refine kLoadD _ _ _ hR rfl rfl rfl ?_; go_frame)
      | (go_at_call 19; refine (e1 _).mono ?_; rintro e w5 ⟨rfl, hB5⟩; have hB6 := hB.trans (hB5.mono hB.size); clear hB hB5; go_frame))
    go_ret
    exact ⟨rfl, hB6⟩
  rw [right_x k0 k1 k2 k3]
  have g0 : decide (d.kind = 0) = false := by simp [k0]
  have g1 : decide (d.kind = 1) = false := by simp [k1]
  have g2 : decide (d.kind = 2) = false := by simp [k2]
  have g3 : decide (d.kind = 3) = false := by simp [k3]
  go_enter Tryd.func9, Tryd.ntmps9
  go_wp2_with (first
    | ((with_reducible change wpList _ _ _ (Oper.mk (some 1) _ _ _ _ _ :: _) _ _); refine kBoxD _ _ rfl rfl rfl ?_; intro w1 hR hz hB; clear hz; go_frame)
    | ((with_reducible change wpList _ _ _ (Oper.mk (some 4) _ _ _ _ _ :: _) _ _); refine kDeed0 _ _ rfl rfl rfl ?_; go_frame)
    | ((with_reducible change wpList _ _ _ (Oper.mk (some 5) _ _ _ _ _ :: _) _ _); refine kLoadK _ _ _ hR rfl rfl rfl ?_; go_frame)
    | ((with_reducible change wpList _ _ _ (Oper.mk (some 7) _ _ _ _ _ :: _) _ _); refine kEqlI _ _ _ _ .i64 d.kind 0 false rfl rfl rfl rfl g0 ?_; go_frame)
    | ((with_reducible change wpList _ _ _ (Oper.mk (some 12) _ _ _ _ _ :: _) _ _); refine kEqlI _ _ _ _ .i64 d.kind 1 false rfl rfl rfl rfl g1 ?_; go_frame)
    | ((with_reducible change wpList _ _ _ (Oper.mk (some 21) _ _ _ _ _ :: _) _ _); refine kEqlI _ _ _ _ .i64 d.kind 2 false rfl rfl rfl rfl g2 ?_; go_frame)
    | ((with_reducible change wpList _ _ _ (Oper.mk (some 44) _ _ _ _ _ :: _) _ _); refine kEqlI _ _ _ _ .i64 d.kind 3 false rfl rfl rfl rfl g3 ?_; go_frame))
  go_ret
  exact ⟨rfl, hB⟩
set_option maxRecDepth 100000 in
set_option maxHeartbeats 8000000 in
theorem lbNamed_any (d : Deed) (w : World) : Calls Tryd.prog 11 #[deedV d] w fun e w' => e = .returned (.bool (decide (d.kind = 2 ∨ d.kind = 3))) ∧ Below w.heap.size w w' := by
  rw [show decide (d.kind = 2 ∨ d.kind = 3) = (decide (d.kind = 2) || decide (d.kind = 3)) by simp]
  obtain ⟨b, hb⟩ : ∃ b, decide (d.kind = 2) = b := ⟨_, rfl⟩
  rw [hb]
  cases b
  · rw [Bool.false_or]
    go_enter Tryd.func11, Tryd.ntmps11
    go_wp2_with (first
      | ((with_reducible change wpList _ _ _ (Oper.mk (some 1) _ _ _ _ _ :: _) _ _); refine kBoxD _ _ rfl rfl rfl ?_; intro w1 hR hz hB; clear hz; go_frame)
      | ((with_reducible change wpList _ _ _ (Oper.mk (some 3) _ _ _ _ _ :: _) _ _); refine kDeed0 _ _ rfl rfl rfl ?_; go_frame)
      | ((with_reducible change wpList _ _ _ (Oper.mk (some 4) _ _ _ _ _ :: _) _ _); refine kLoadK _ _ _ hR rfl rfl rfl ?_; go_frame)
      | ((with_reducible change wpList _ _ _ (Oper.mk (some 5) _ _ _ _ _ :: _) _ _); refine kEqlI _ _ _ _ .i64 d.kind 2 _ rfl rfl rfl rfl hb ?_; go_frame)
      | ((with_reducible change wpList _ _ _ (Oper.mk (some 7) _ _ _ _ _ :: _) _ _); refine kDeed0 _ _ rfl rfl rfl ?_; go_frame)
      | ((with_reducible change wpList _ _ _ (Oper.mk (some 8) _ _ _ _ _ :: _) _ _); refine kLoadK _ _ _ hR rfl rfl rfl ?_; go_frame)
      | ((with_reducible change wpList _ _ _ (Oper.mk (some 9) _ _ _ _ _ :: _) _ _); refine kEqlI _ _ _ _ .i64 d.kind 3 (decide (d.kind = 3)) rfl rfl rfl rfl rfl ?_; go_frame))
    go_ret
    exact ⟨rfl, hB⟩
  · rw [Bool.true_or]
    go_enter Tryd.func11, Tryd.ntmps11
    go_wp2_with (first
      | ((with_reducible change wpList _ _ _ (Oper.mk (some 1) _ _ _ _ _ :: _) _ _); refine kBoxD _ _ rfl rfl rfl ?_; intro w1 hR hz hB; clear hz; go_frame)
      | ((with_reducible change wpList _ _ _ (Oper.mk (some 3) _ _ _ _ _ :: _) _ _); refine kDeed0 _ _ rfl rfl rfl ?_; go_frame)
      | ((with_reducible change wpList _ _ _ (Oper.mk (some 4) _ _ _ _ _ :: _) _ _); refine kLoadK _ _ _ hR rfl rfl rfl ?_; go_frame)
      | ((with_reducible change wpList _ _ _ (Oper.mk (some 5) _ _ _ _ _ :: _) _ _); refine kEqlI _ _ _ _ .i64 d.kind 2 _ rfl rfl rfl rfl hb ?_; go_frame)
      | ((with_reducible change wpList _ _ _ (Oper.mk (some 7) _ _ _ _ _ :: _) _ _); refine kDeed0 _ _ rfl rfl rfl ?_; go_frame)
      | ((with_reducible change wpList _ _ _ (Oper.mk (some 8) _ _ _ _ _ :: _) _ _); refine kLoadK _ _ _ hR rfl rfl rfl ?_; go_frame)
      | ((with_reducible change wpList _ _ _ (Oper.mk (some 9) _ _ _ _ _ :: _) _ _); refine kEqlI _ _ _ _ .i64 d.kind 3 (decide (d.kind = 3)) rfl rfl rfl rfl rfl ?_; go_frame))
    go_ret
    exact ⟨rfl, hB⟩
end Go.Proofs.YtnaclalbeocpkaaDoor

/-
  Layer 8: the walks of the program's dropped, words and Lock.
-/
namespace Go.Proofs.YtnaclalbeocpkaaDoor
open Go Go.RowKit

theorem bysInfo0L : (Tryd.prog.info? 22).map (fun i => (i.zero, i.size, i.bytes)) = some (some (.slice none 0 0), 1, 24) := by kernel_rfl
theorem bysInfoL : ∃ i, Tryd.prog.info? 22 = some i ∧ i.zero = some (.slice none 0 0) ∧ i.size = 1 ∧ i.bytes = 24 := by
  have h := bysInfo0L
  cases hi : Tryd.prog.info? 22 with
  | none => rw [hi] at h; cases h
  | some i =>
    rw [hi] at h
    simp only [Option.map_some, Option.some.injEq, Prod.mk.injEq] at h
    exact ⟨i, rfl, h⟩
/-- how many pieces a kind pushes -/
def cntN (k : Nat) : Nat := if k = 1 then 1 else if k = 2 then 3 else if k = 3 then 2 else 0
/-- the variable pieceCounts holds them -/
def Counts (w : World) : Prop := ∀ j, j < 4 → w.cell? ⟨0, j, none⟩ = some (.int .i64 (cntN j : Int))
theorem Counts.below {w w' : World} (h : Counts w) (hb : Below w.heap.size w w') : Counts w' := fun i hi => by
  have := h i hi
  rw [hb.cell (block_lt_of_cell this)]; exact this
def dropL (k : Nat) : List UInt8 := List.replicate ((1 + cntN k) / 2) 109 ++ if (1 + cntN k) % 2 = 1 then [117] else []
theorem info_int8L : (Tryd.prog.info? 3).map (·.size) = some 1 := by kernel_rfl
theorem cntN_le (k : Nat) : cntN k ≤ 3 := by unfold cntN; split <;> (try split) <;> (try split) <;> omega
def CallsD (k : Nat) (v : Value) (l : List UInt8) (base : Nat) (w : World) : Prop := Calls Tryd.prog 27 #[v, .int .i64 (k : Int)] w fun e w' => ∃ v', e = .returned v' ∧ OwnB w' base v' (l ++ dropL k) ∧ Below base w w'
set_option maxRecDepth 100000 in
set_option maxHeartbeats 8000000 in
theorem lbDropped_any {k : Nat} (hk : k < 4) {l : List UInt8} {v : Value} {base : Nat} (w : World) (hG : Counts w) (hv : OwnB w base v l) (hb : base ≤ w.heap.size) (hl : l.length ≤ 1000000) : CallsD k v l base w := by
  unfold CallsD
  obtain ⟨i, hi, hz, hs1, hby⟩ := b8Info
  obtain ⟨c, hc⟩ : ∃ c, cntN k = c := ⟨_, rfl⟩
  have hc3 : c ≤ 3 := by rw [← hc]; exact cntN_le k
  have hcell : w.cell? ⟨0, k, none⟩ = some (.int .i64 (c : Int)) := by rw [← hc]; exact hG k hk
  have hD : dropL k = List.replicate ((1 + c) / 2) 109 ++ if (1 + c) % 2 = 1 then [117] else [] := by unfold dropL; rw [hc]
  rw [hD]
  obtain ⟨N, hN⟩ : ∃ N, (1 + c) / 2 = N := ⟨_, rfl⟩
  rw [hN]
  obtain ⟨p, hp⟩ : ∃ p, 1 + c = p := ⟨_, rfl⟩
  have hp4 : p ≤ 4 := by omega
  rw [hp]
  have hNp : p / 2 = N := by rw [← hp]; exact hN
  obtain ⟨T, hT⟩ : ∃ T : List UInt8, (if p % 2 = 1 then [117] else []) = T := ⟨_, rfl⟩
  rw [hT]
  clear hD
  go_enter Tryd.func27, Tryd.ntmps27
  go_wp2_with (first
    | ((with_reducible change wpList _ _ _ (Oper.mk (some 7) _ _ _ _ _ :: _) _ _); refine kIndexAddr1 _ _ _ _ .i64 _ (k : Int) k 4 rfl rfl rfl rfl Tryd.underlying64 info_int8L rfl hk ?_; go_frame)
    | ((with_reducible change wpList _ _ _ (Oper.mk (some 8) _ _ _ _ _ :: _) _ _); refine kLoadCell _ _ _ (.int .i64 (c : Int)) _ rfl rfl rfl hcell Tryd.underlying3 rfl ?_; go_frame)
    | ((with_reducible change wpList _ _ _ (Oper.mk (some 9) _ _ _ _ _ :: _) _ _); refine kAddI _ _ _ _ 1 (c : Int) (p : Int) (by omega) rfl rfl rfl rfl ?_; go_frame)
    | ((with_reducible change wpList _ _ _ (Oper.mk (some 11) _ _ _ _ _ :: _) _ _); refine kQuoI _ _ _ _ p 2 (by decide) (by omega) rfl rfl rfl rfl ?_; rw [hNp]; go_frame))
  go_loopw [12, 0] (fun i t wr => ∃ j : Nat, j ≤ N ∧ i = .int .i64 j ∧ OwnB wr base t (l ++ List.replicate j 109) ∧ Below base w wr) (fun i _ _ => N - (intOf i).toNat)
  case atStart => exact ⟨0, by omega, rfl, by rw [List.replicate_zero, List.append_nil]; exact hv, Below.refl _ _⟩
  case round =>
    clear hv
    obtain ⟨j, hj, rfl, hO, hB⟩ := hrel
    have hbs : base ≤ wr.heap.size := Nat.le_trans hb hB.size
    by_cases hlt : j < N
    · have hd : decide ((j : Int) < (N : Int)) = true := by simp; omega
      go_wp2_with (first
        | ((with_reducible change wpList _ _ _ (Oper.mk (some 13) _ _ _ _ _ :: _) _ _); refine kLssI _ _ _ _ .i64 (j : Int) (N : Int) true rfl rfl rfl rfl hd ?_; go_frame)
        | ((with_reducible change wpList _ _ _ (Oper.mk (some 15) _ _ _ _ _ :: _) _ _); refine kBuildSlice1 _ _ _ (VB 109) rfl rfl Tryd.underlying22 i _ hi hz hs1 rfl rfl ?_; intro w2 hR hz2 hB2; clear hz2; have hO2 := hO.below hB2; have hB3 := hB.trans (hB2.mono hbs); have hbs2 := Nat.le_trans hb hB3.size; have hV2 : IsVals w2 _ (([109] : List UInt8).map VB) := isVals_lit (l := [VB 109]) hR; clear hR hO hB hB2; go_frame)
        | ((with_reducible change wpList _ _ _ (Oper.mk (some 16) _ _ _ _ _ :: _) _ _); refine kAppB _ _ rfl rfl base _ _ (l ++ List.replicate j 109) [109] hO2 hV2 rfl rfl (by simp; omega) hbs2 ?_; intro v4 w4 hO4 hB4; have hB5 := hB3.trans hB4; clear hO2 hV2 hB3 hB4; go_frame)
        | ((with_reducible change wpList _ _ _ (Oper.mk (some 17) _ _ _ _ _ :: _) _ _); refine kAddI _ _ _ _ (j : Int) 1 ((j + 1 : Nat) : Int) (by omega) rfl rfl rfl rfl ?_; go_frame))
      go_roundw
      case rel => exact ⟨j + 1, by omega, rfl, by rw [List.replicate_succ', ← List.append_assoc]; exact hO4, hB5⟩
      case measure => simp [intOf]; omega
    · have hd : decide ((j : Int) < (N : Int)) = false := by simp; omega
      obtain rfl : j = N := by omega
      by_cases h1 : p % 2 = 1
      · rw [if_pos h1] at hT
        subst hT
        have he : decide (((p % 2 : Nat) : Int) = 1) = true := by rw [h1]; rfl
        go_wp2_with (first
          | ((with_reducible change wpList _ _ _ (Oper.mk (some 13) _ _ _ _ _ :: _) _ _); refine kLssI _ _ _ _ .i64 (j : Int) (j : Int) false rfl rfl rfl rfl hd ?_; go_frame)
          | ((with_reducible change wpList _ _ _ (Oper.mk (some 19) _ _ _ _ _ :: _) _ _); refine kRemI _ _ _ _ p 2 (by decide) rfl rfl rfl rfl ?_; go_frame)
          | ((with_reducible change wpList _ _ _ (Oper.mk (some 20) _ _ _ _ _ :: _) _ _); refine kEqlI _ _ _ _ .i64 ((p % 2 : Nat) : Int) 1 true rfl rfl rfl rfl he ?_; go_frame)
          | ((with_reducible change wpList _ _ _ (Oper.mk (some 22) _ _ _ _ _ :: _) _ _); refine kBuildSlice1 _ _ _ (VB 117) rfl rfl Tryd.underlying22 i _ hi hz hs1 rfl rfl ?_; intro w2 hR hz2 hB2; clear hz2; have hO2 := hO.below hB2; have hB3 := hB.trans (hB2.mono hbs); have hbs2 := Nat.le_trans hb hB3.size; have hV2 : IsVals w2 _ (([117] : List UInt8).map VB) := isVals_lit (l := [VB 117]) hR; clear hR hO hB hB2; go_frame)
          | ((with_reducible change wpList _ _ _ (Oper.mk (some 23) _ _ _ _ _ :: _) _ _); refine kAppB _ _ rfl rfl base _ _ (l ++ List.replicate j 109) [117] hO2 hV2 rfl rfl (by simp; omega) hbs2 ?_; intro v4 w4 hO4 hB4; have hB5 := hB3.trans hB4; clear hO2 hV2 hB3 hB4; go_frame))
        go_ret
        exact ⟨_, rfl, by rw [← List.append_assoc]; exact hO4, hB5⟩
      · rw [if_neg h1] at hT
        subst hT
        have he : decide (((p % 2 : Nat) : Int) = 1) = false := by simp; omega
        go_wp2_with (first
          | ((with_reducible change wpList _ _ _ (Oper.mk (some 13) _ _ _ _ _ :: _) _ _); refine kLssI _ _ _ _ .i64 (j : Int) (j : Int) false rfl rfl rfl rfl hd ?_; go_frame)
          | ((with_reducible change wpList _ _ _ (Oper.mk (some 19) _ _ _ _ _ :: _) _ _); refine kRemI _ _ _ _ p 2 (by decide) rfl rfl rfl rfl ?_; go_frame)
          | ((with_reducible change wpList _ _ _ (Oper.mk (some 20) _ _ _ _ _ :: _) _ _); refine kEqlI _ _ _ _ .i64 ((p % 2 : Nat) : Int) 1 false rfl rfl rfl rfl he ?_; go_frame))
        go_ret
        exact ⟨_, rfl, by rw [List.append_nil]; exact hO, hB⟩
theorem Row.onL {w w' : World} {g : Nat} {T : TypeId} {cs : Array Value} (h : Row w g T cs) (hb : Below w.heap.size w w') : Row w' g T cs := h.below hb h.lt
theorem vals_oneS8 {w : World} {v : Value} {l : List Value} (h : IsVals w v l) : v.oneCell' = true := by
  obtain ⟨ao, c, rfl, -⟩ := h; rfl
theorem areLists_twoL {w : World} {g : Nat} {E : TypeId} {x y : Value} {l m : List UInt8} (h : Row w g E #[x, y]) (hx : IsVals w x (l.map VB)) (hy : IsVals w y (m.map VB)) : AreLists w (.slice (some ⟨g, 0, none⟩) 2 2) [l, m] :=
  ⟨[x, y], rfl, isVals_lit (l := [x, y]) h, fun i z L hz hL => by
    match i, hz, hL with
    | 0, hz, hL => cases hz; cases hL; exact hx
    | 1, hz, hL => cases hz; cases hL; exact hy
    | i + 2, hz, _ => simp at hz⟩
theorem areLists_threeL {w : World} {g : Nat} {E : TypeId} {x y z : Value} {l m n : List UInt8} (h : Row w g E #[x, y, z]) (hx : IsVals w x (l.map VB)) (hy : IsVals w y (m.map VB)) (hz : IsVals w z (n.map VB)) : AreLists w (.slice (some ⟨g, 0, none⟩) 3 3) [l, m, n] :=
  ⟨[x, y, z], rfl, isVals_lit (l := [x, y, z]) h, fun i u L hu hL => by
    match i, hu, hL with
    | 0, hu, hL => cases hu; cases hL; exact hx
    | 1, hu, hL => cases hu; cases hL; exact hy
    | 2, hu, hL => cases hu; cases hL; exact hz
    | i + 3, hu, _ => simp at hu⟩
set_option maxRecDepth 100000 in
set_option maxHeartbeats 8000000 in
theorem lbWords_any {d : Deed} (hd : d.Is) (hn : d.name.length ≤ 1000 ∧ d.value.length ≤ 1000 ∧ d.rand.length ≤ 1000) (w : World) (hG : Counts w) : Calls Tryd.prog 17 #[deedV d] w (POwnPost w (wordsL d)) := by
  obtain ⟨i, hi, hz, hs1, hby⟩ := b8Info
  obtain ⟨iy, hiy, hzy, hsy, hbyy⟩ := bysInfoL
  have hd20 : d.commit.length = 20 := hd
  by_cases k1 : d.kind = 1
  · have hk := k1
    have hW : wordsL d = [81] ++ pushesL [d.commit] ++ dropL 1 := by simp [wordsL, hk, pushesL, dropL, cntN]
    rw [hW]
    have hsm : ∀ L ∈ [d.commit], L.length ≤ 1000 := by intro L hL; simp at hL; subst hL; omega
    have hpl : (pushesL [d.commit]).length ≤ 4000 := by have := pushesL_le [d.commit] 1000 hsm; simp at this ⊢; omega
    go_enter Tryd.func17, Tryd.ntmps17
    go_wp2_with (first
      | ((with_reducible change wpList _ _ _ (Oper.mk (some 1) _ _ _ _ _ :: _) _ _); refine kBoxD _ _ rfl rfl rfl ?_; intro w1 hR hz hB; clear hz; go_frame)
      | ((with_reducible change wpList _ _ _ (Oper.mk (some 3) _ _ _ _ _ :: _) _ _); refine kDeed0 _ _ rfl rfl rfl ?_; go_frame)
      | ((with_reducible change wpList _ _ _ (Oper.mk (some 4) _ _ _ _ _ :: _) _ _); refine kLoadK _ _ _ hR rfl rfl rfl ?_; rw [hk]; go_frame))
    refine region_symT 7 _ [] [] [.prop (fun w v => IsVals w v (([81] : List UInt8).map VB)) (fun _ _ _ hb h => h.below hb), .val (.pointer (some ⟨w.heap.size, 4, none⟩)), .val (.slice (some ⟨w.heap.size, 4, none⟩) 20 20), .prop (fun w v => AreLists w v [d.commit]) (fun _ _ _ hb h => h.below hb), .prop (fun w v => OwnB w w1.heap.size v ([81] ++ pushesL [d.commit])) (fun _ _ _ hb h => h.below hb), .val (.pointer (some ⟨w.heap.size, 0, none⟩)), .val (.int .i64 d.kind)] rfl (by kernel_rfl) (by kernel_rfl) (by kernel_rfl) (by kernel_rfl) rfl (by intro s hs; cases hs) (steps_all ⟨?_, ?_, ?_, ?_, ?_, ?_, ?_, trivial⟩) ?_
    · exact fun A W sz ot hbel ap dp => kBuildSlice1 _ _ _ (VB 81) rfl rfl Tryd.underlying22 i _ hi hz hs1 rfl rfl (fun W1 hR _ hB' => tV ap sz hB' (isVals_lit (l := [VB 81]) hR))
    · exact fun A W sz ot hbel ap dp => kDeed4 _ _ rfl rfl (tO ot 1) (tV ap sz (Below.refl _ _) rfl)
    · exact fun A W sz ot hbel ap dp => kSliceArr _ _ _ 20 _ 4 rfl rfl (tD dp 1 .data) Tryd.underlying27 info_b8P (tV ap sz (Below.refl _ _) rfl)
    · exact fun A W sz ot hbel ap dp => kBuildSlice1 _ _ _ (.slice (some ⟨w.heap.size, 4, none⟩) 20 20) rfl rfl Tryd.underlying57 iy _ hiy hzy hsy (tD dp 2 .data) rfl (fun W1 hR1 _ hB' => tV ap sz hB' (areLists_one hR1 (commit_vals hd ((hR.onL hbel).onL hB'))))
    · exact fun A W sz ot hbel ap dp => kCall2 28 _ _ _ _ _ rfl rfl (by kernel_rfl) rfl rfl ((scPush_any _ (tD dp 0 .data) (tD dp 3 .data) (by simp) (by simp) hsm).mono (fun e W1 ⟨v, he, hO, hB'⟩ => ⟨v, he, tV ap sz hB' (own_less hbel.size hO)⟩))
    · exact fun A W sz ot hbel ap dp => kDeed0 _ _ rfl rfl (tO ot 1) (tV ap sz (Below.refl _ _) rfl)
    · exact fun A W sz ot hbel ap dp => kLoadK _ _ _ (hR.onL hbel) rfl rfl (tD dp 5 .data) (tV ap sz (Below.refl _ _) rfl)
    intro w2 hB2
    dsimp only [AllV]
    rintro u0 hu0 u3 hu3 u4 hu4 hap
    dsimp only [putAll, List.take, List.drop]
    go_frame
    clear hap
    have hB4 := hB.trans (hB2.mono hB.size)
    rw [hk] at *
    go_wp2_with (first
      | (go_at_call 27; refine (lbDropped_any (k := 1) (by decide) _ (hG.below hB4) hu4 (hB2.size) (by simp; omega)).mono ?_; rintro e w3 ⟨v3, rfl, hO3, hB3⟩; go_frame))
    go_ret
    exact ⟨_, rfl, own_less hB.size hO3, (hB4.trans (hB3.mono hB.size))⟩
  by_cases k2 : d.kind = 2
  · have hk := k2
    have hW : wordsL d = [82] ++ pushesL [d.name, d.rand, d.value] ++ dropL 2 := by simp [wordsL, hk, pushesL, dropL, cntN]
    rw [hW]
    have hsm : ∀ L ∈ [d.name, d.rand, d.value], L.length ≤ 1000 := by intro L hL; simp at hL; rcases hL with rfl | rfl | rfl <;> omega
    have hpl : (pushesL [d.name, d.rand, d.value]).length ≤ 4000 := by have := pushesL_le [d.name, d.rand, d.value] 1000 hsm; simp at this ⊢; omega
    go_enter Tryd.func17, Tryd.ntmps17
    go_wp2_with (first
      | ((with_reducible change wpList _ _ _ (Oper.mk (some 1) _ _ _ _ _ :: _) _ _); refine kBoxD _ _ rfl rfl rfl ?_; intro w1 hR hz hB; clear hz; go_frame)
      | ((with_reducible change wpList _ _ _ (Oper.mk (some 3) _ _ _ _ _ :: _) _ _); refine kDeed0 _ _ rfl rfl rfl ?_; go_frame)
      | ((with_reducible change wpList _ _ _ (Oper.mk (some 4) _ _ _ _ _ :: _) _ _); refine kLoadK _ _ _ hR rfl rfl rfl ?_; rw [hk]; go_frame))
    refine region_symT 14 _ [] [] [.prop (fun w v => IsVals w v (([82] : List UInt8).map VB)) (fun _ _ _ hb h => h.below hb), .val (.pointer (some ⟨w.heap.size, 1, none⟩)), .val (textV d.name), .prop (fun w v => IsVals w v (d.name.map VB)) (fun _ _ _ hb h => h.below hb), .val (.pointer (some ⟨w.heap.size, 3, none⟩)), .val (textV d.rand), .prop (fun w v => IsVals w v (d.rand.map VB)) (fun _ _ _ hb h => h.below hb), .val (.pointer (some ⟨w.heap.size, 2, none⟩)), .val (textV d.value), .prop (fun w v => IsVals w v (d.value.map VB)) (fun _ _ _ hb h => h.below hb), .prop (fun w v => AreLists w v [d.name, d.rand, d.value]) (fun _ _ _ hb h => h.below hb), .prop (fun w v => OwnB w w1.heap.size v ([82] ++ pushesL [d.name, d.rand, d.value])) (fun _ _ _ hb h => h.below hb), .val (.pointer (some ⟨w.heap.size, 0, none⟩)), .val (.int .i64 d.kind)] rfl (by kernel_rfl) (by kernel_rfl) (by kernel_rfl) (by kernel_rfl) rfl (by intro s hs; cases hs) (steps_all ⟨?_, ?_, ?_, ?_, ?_, ?_, ?_, ?_, ?_, ?_, ?_, ?_, ?_, ?_, trivial⟩) ?_
    · exact fun A W sz ot hbel ap dp => kBuildSlice1 _ _ _ (VB 82) rfl rfl Tryd.underlying22 i _ hi hz hs1 rfl rfl (fun W1 hR _ hB' => tV ap sz hB' (isVals_lit (l := [VB 82]) hR))
    · exact fun A W sz ot hbel ap dp => kDeed1 _ _ rfl rfl (tO ot 1) (tV ap sz (Below.refl _ _) rfl)
    · exact fun A W sz ot hbel ap dp => kLoadN1 _ _ _ (hR.onL hbel) rfl rfl (tD dp 1 .data) (tV ap sz (Below.refl _ _) rfl)
    · exact fun A W sz ot hbel ap dp => kToBytes _ _ _ _ d.name rfl rfl (tD dp 2 .data) Tryd.underlying9 Tryd.underlying22 Tryd.underlying5 (fun v W1 hB' hV => tV ap sz hB' hV)
    · exact fun A W sz ot hbel ap dp => kDeed3 _ _ rfl rfl (tO ot 1) (tV ap sz (Below.refl _ _) rfl)
    · exact fun A W sz ot hbel ap dp => kLoadN3 _ _ _ (hR.onL hbel) rfl rfl (tD dp 4 .data) (tV ap sz (Below.refl _ _) rfl)
    · exact fun A W sz ot hbel ap dp => kToBytes _ _ _ _ d.rand rfl rfl (tD dp 5 .data) Tryd.underlying9 Tryd.underlying22 Tryd.underlying5 (fun v W1 hB' hV => tV ap sz hB' hV)
    · exact fun A W sz ot hbel ap dp => kDeed2 _ _ rfl rfl (tO ot 1) (tV ap sz (Below.refl _ _) rfl)
    · exact fun A W sz ot hbel ap dp => kLoadN2 _ _ _ (hR.onL hbel) rfl rfl (tD dp 7 .data) (tV ap sz (Below.refl _ _) rfl)
    · exact fun A W sz ot hbel ap dp => kToBytes _ _ _ _ d.value rfl rfl (tD dp 8 .data) Tryd.underlying9 Tryd.underlying22 Tryd.underlying5 (fun v W1 hB' hV => tV ap sz hB' hV)
    · exact fun A W sz ot hbel ap dp => kBuildSlice3 _ _ _ _ _ _ _ _ rfl rfl Tryd.underlying57 iy _ hiy hzy hsy rfl (vals_oneS8 (tD dp 3 .data)) rfl (vals_oneS8 (tD dp 6 .data)) rfl (vals_oneS8 (tD dp 9 .data)) (fun W1 hR1 _ hB' => tV ap sz hB' (areLists_threeL hR1 ((tD dp 3 .data : IsVals W _ _).below hB') ((tD dp 6 .data : IsVals W _ _).below hB') ((tD dp 9 .data : IsVals W _ _).below hB')))
    · exact fun A W sz ot hbel ap dp => kCall2 28 _ _ _ _ _ rfl rfl (by kernel_rfl) rfl rfl ((scPush_any _ (tD dp 0 .data) (tD dp 10 .data) (by simp) (by simp) hsm).mono (fun e W1 ⟨v, he, hO, hB'⟩ => ⟨v, he, tV ap sz hB' (own_less hbel.size hO)⟩))
    · exact fun A W sz ot hbel ap dp => kDeed0 _ _ rfl rfl (tO ot 1) (tV ap sz (Below.refl _ _) rfl)
    · exact fun A W sz ot hbel ap dp => kLoadK _ _ _ (hR.onL hbel) rfl rfl (tD dp 12 .data) (tV ap sz (Below.refl _ _) rfl)
    intro w2 hB2
    dsimp only [AllV]
    rintro u0 hu0 u3 hu3 u6 hu6 u9 hu9 u10 hu10 u11 hu11 hap
    dsimp only [putAll, List.take, List.drop]
    go_frame
    clear hap
    have hB4 := hB.trans (hB2.mono hB.size)
    rw [hk] at *
    go_wp2_with (first
      | (go_at_call 27; refine (lbDropped_any (k := 2) (by decide) _ (hG.below hB4) hu11 (hB2.size) (by simp; omega)).mono ?_; rintro e w3 ⟨v3, rfl, hO3, hB3⟩; go_frame))
    go_ret
    exact ⟨_, rfl, own_less hB.size hO3, (hB4.trans (hB3.mono hB.size))⟩
  by_cases k3 : d.kind = 3
  · have hk := k3
    have hW : wordsL d = [83] ++ pushesL [d.name, d.value] ++ dropL 3 := by simp [wordsL, hk, pushesL, dropL, cntN]
    rw [hW]
    have hsm : ∀ L ∈ [d.name, d.value], L.length ≤ 1000 := by intro L hL; simp at hL; rcases hL with rfl | rfl <;> omega
    have hpl : (pushesL [d.name, d.value]).length ≤ 4000 := by have := pushesL_le [d.name, d.value] 1000 hsm; simp at this ⊢; omega
    go_enter Tryd.func17, Tryd.ntmps17
    go_wp2_with (first
      | ((with_reducible change wpList _ _ _ (Oper.mk (some 1) _ _ _ _ _ :: _) _ _); refine kBoxD _ _ rfl rfl rfl ?_; intro w1 hR hz hB; clear hz; go_frame)
      | ((with_reducible change wpList _ _ _ (Oper.mk (some 3) _ _ _ _ _ :: _) _ _); refine kDeed0 _ _ rfl rfl rfl ?_; go_frame)
      | ((with_reducible change wpList _ _ _ (Oper.mk (some 4) _ _ _ _ _ :: _) _ _); refine kLoadK _ _ _ hR rfl rfl rfl ?_; rw [hk]; go_frame))
    refine region_symT 11 _ [] [] [.prop (fun w v => IsVals w v (([83] : List UInt8).map VB)) (fun _ _ _ hb h => h.below hb), .val (.pointer (some ⟨w.heap.size, 1, none⟩)), .val (textV d.name), .prop (fun w v => IsVals w v (d.name.map VB)) (fun _ _ _ hb h => h.below hb), .val (.pointer (some ⟨w.heap.size, 2, none⟩)), .val (textV d.value), .prop (fun w v => IsVals w v (d.value.map VB)) (fun _ _ _ hb h => h.below hb), .prop (fun w v => AreLists w v [d.name, d.value]) (fun _ _ _ hb h => h.below hb), .prop (fun w v => OwnB w w1.heap.size v ([83] ++ pushesL [d.name, d.value])) (fun _ _ _ hb h => h.below hb), .val (.pointer (some ⟨w.heap.size, 0, none⟩)), .val (.int .i64 d.kind)] rfl (by kernel_rfl) (by kernel_rfl) (by kernel_rfl) (by kernel_rfl) rfl (by intro s hs; cases hs) (steps_all ⟨?_, ?_, ?_, ?_, ?_, ?_, ?_, ?_, ?_, ?_, ?_, trivial⟩) ?_
    · exact fun A W sz ot hbel ap dp => kBuildSlice1 _ _ _ (VB 83) rfl rfl Tryd.underlying22 i _ hi hz hs1 rfl rfl (fun W1 hR _ hB' => tV ap sz hB' (isVals_lit (l := [VB 83]) hR))
    · exact fun A W sz ot hbel ap dp => kDeed1 _ _ rfl rfl (tO ot 1) (tV ap sz (Below.refl _ _) rfl)
    · exact fun A W sz ot hbel ap dp => kLoadN1 _ _ _ (hR.onL hbel) rfl rfl (tD dp 1 .data) (tV ap sz (Below.refl _ _) rfl)
    · exact fun A W sz ot hbel ap dp => kToBytes _ _ _ _ d.name rfl rfl (tD dp 2 .data) Tryd.underlying9 Tryd.underlying22 Tryd.underlying5 (fun v W1 hB' hV => tV ap sz hB' hV)
    · exact fun A W sz ot hbel ap dp => kDeed2 _ _ rfl rfl (tO ot 1) (tV ap sz (Below.refl _ _) rfl)
    · exact fun A W sz ot hbel ap dp => kLoadN2 _ _ _ (hR.onL hbel) rfl rfl (tD dp 4 .data) (tV ap sz (Below.refl _ _) rfl)
    · exact fun A W sz ot hbel ap dp => kToBytes _ _ _ _ d.value rfl rfl (tD dp 5 .data) Tryd.underlying9 Tryd.underlying22 Tryd.underlying5 (fun v W1 hB' hV => tV ap sz hB' hV)
    · exact fun A W sz ot hbel ap dp => kBuildSlice2 _ _ _ _ _ _ rfl rfl Tryd.underlying57 iy _ hiy hzy hsy rfl (vals_oneS8 (tD dp 3 .data)) rfl (vals_oneS8 (tD dp 6 .data)) (fun W1 hR1 _ hB' => tV ap sz hB' (areLists_twoL hR1 ((tD dp 3 .data : IsVals W _ _).below hB') ((tD dp 6 .data : IsVals W _ _).below hB')))
    · exact fun A W sz ot hbel ap dp => kCall2 28 _ _ _ _ _ rfl rfl (by kernel_rfl) rfl rfl ((scPush_any _ (tD dp 0 .data) (tD dp 7 .data) (by simp) (by simp) hsm).mono (fun e W1 ⟨v, he, hO, hB'⟩ => ⟨v, he, tV ap sz hB' (own_less hbel.size hO)⟩))
    · exact fun A W sz ot hbel ap dp => kDeed0 _ _ rfl rfl (tO ot 1) (tV ap sz (Below.refl _ _) rfl)
    · exact fun A W sz ot hbel ap dp => kLoadK _ _ _ (hR.onL hbel) rfl rfl (tD dp 9 .data) (tV ap sz (Below.refl _ _) rfl)
    intro w2 hB2
    dsimp only [AllV]
    rintro u0 hu0 u3 hu3 u6 hu6 u7 hu7 u8 hu8 hap
    dsimp only [putAll, List.take, List.drop]
    go_frame
    clear hap
    have hB4 := hB.trans (hB2.mono hB.size)
    rw [hk] at *
    go_wp2_with (first
      | (go_at_call 27; refine (lbDropped_any (k := 3) (by decide) _ (hG.below hB4) hu8 (hB2.size) (by simp; omega)).mono ?_; rintro e w3 ⟨v3, rfl, hO3, hB3⟩; go_frame))
    go_ret
    exact ⟨_, rfl, own_less hB.size hO3, (hB4.trans (hB3.mono hB.size))⟩
  rw [show wordsL d = [] by simp [wordsL, k1, k2, k3]]
  have g1 : decide (d.kind = 1) = false := by simp [k1]
  have g2 : decide (d.kind = 2) = false := by simp [k2]
  have g3 : decide (d.kind = 3) = false := by simp [k3]
  go_enter Tryd.func17, Tryd.ntmps17
  go_wp2_with (first
    | ((with_reducible change wpList _ _ _ (Oper.mk (some 1) _ _ _ _ _ :: _) _ _); refine kBoxD _ _ rfl rfl rfl ?_; intro w1 hR hz hB; clear hz; go_frame)
    | ((with_reducible change wpList _ _ _ (Oper.mk (some 3) _ _ _ _ _ :: _) _ _); refine kDeed0 _ _ rfl rfl rfl ?_; go_frame)
    | ((with_reducible change wpList _ _ _ (Oper.mk (some 4) _ _ _ _ _ :: _) _ _); refine kLoadK _ _ _ hR rfl rfl rfl ?_; go_frame)
    | ((with_reducible change wpList _ _ _ (Oper.mk (some 6) _ _ _ _ _ :: _) _ _); refine kEqlI _ _ _ _ .i64 d.kind 1 false rfl rfl rfl rfl g1 ?_; go_frame)
    | ((with_reducible change wpList _ _ _ (Oper.mk (some 16) _ _ _ _ _ :: _) _ _); refine kEqlI _ _ _ _ .i64 d.kind 2 false rfl rfl rfl rfl g2 ?_; go_frame)
    | ((with_reducible change wpList _ _ _ (Oper.mk (some 33) _ _ _ _ _ :: _) _ _); refine kEqlI _ _ _ _ .i64 d.kind 3 false rfl rfl rfl rfl g3 ?_; go_frame))
  go_ret
  exact ⟨_, rfl, ownB_nil _ _, hB⟩
end Go.Proofs.YtnaclalbeocpkaaDoor

/-
  Layer 8: the walks of the program's Lock, readPieces and deedOf, and of bytes.HasPrefix and bytes.CutPrefix.
-/
namespace Go.Proofs.YtnaclalbeocpkaaDoor
open Go Go.RowKit

theorem ret2 {fn : Func} {R : Ending → World → Prop} {P : Program} {a : Act} {w : World} {t u : Tmp} (h : fn.results = #[.tmp t, .tmp u]) (hd : a.defers = []) (hR : R (.returned (.tuple #[a.tmps.getD t undef, a.tmps.getD u undef])) w) : bodyPost P fn R .ret a w :=
  bodyPost_ret (by simp [results, h]) hd hR
def ansL (r : Option (List UInt8)) : List UInt8 := r.getD []
def errL (r : Option (List UInt8)) : Int := if r.isNone then 81 else 0
def LockPost (w : World) (r : Option (List UInt8)) (e : Ending) (w' : World) : Prop := ∃ v, e = .returned (.tuple #[v, .int .i64 (errL r)]) ∧ OwnB w' w.heap.size v (ansL r) ∧ Below w.heap.size w w'
def Deed.Fits (d : Deed) : Prop := d.name.length ≤ 1000 ∧ d.value.length ≤ 1000 ∧ d.rand.length ≤ 1000
theorem right_fits {d : Deed} (h : rightB d = true) : d.Fits := by
  unfold rightB at h
  unfold Deed.Fits
  split at h
  · obtain ⟨a, b, c, -⟩ := of_decide_eq_true h; rw [a, b, c]; simp
  · split at h
    · obtain ⟨a, b, c⟩ := of_decide_eq_true h; rw [a, b, c]; simp
    · split at h
      · obtain ⟨-, a, b, c⟩ := of_decide_eq_true h; omega
      · split at h
        · obtain ⟨-, a, b, c⟩ := of_decide_eq_true h; rw [a]; simp; omega
        · cases h
theorem wordsL_le {d : Deed} (hd : d.Is) (h : d.Fits) : (wordsL d).length ≤ 4000 := by
  obtain ⟨h1, h2, h3⟩ := h
  have a1 := pushL_le' h1
  have a2 := pushL_le' h2
  have a3 := pushL_le' h3
  have a4 := pushL_le' (m := 20) (x := d.commit) (by rw [hd]; omega)
  unfold wordsL
  split <;> (try split) <;> (try split) <;> simp <;> omega
set_option maxRecDepth 100000 in
set_option maxHeartbeats 8000000 in
theorem lbLock_any {d : Deed} (hd : d.Is) {r : List UInt8} {vr : Value} (w : World) (hG : Counts w) (hr : IsVals w vr (r.map VB)) (hl : r.length ≤ 1000000) : Calls Tryd.prog 6 #[deedV d, vr] w (LockPost w (lockS d r)) := by
  have e1 := fun w => lbRight_any hd w
  have e2 := fun w (h : IsVals w vr (r.map VB)) => lbKindOf_any w h
  obtain ⟨b, hb⟩ : ∃ b, rightB d = b := ⟨_, rfl⟩
  obtain ⟨K, hK⟩ : ∃ K, kindL r = K := ⟨_, rfl⟩
  rw [hb] at e1
  rw [hK] at e2
  unfold lockS
  rw [hb, hK]
  cases b
  · rw [if_pos (.inl rfl)]
    go_enter Tryd.func6, Tryd.ntmps6
    go_wp2_with (first
      | ((with_reducible change wpList _ _ _ (Oper.mk (some 2) _ _ _ _ _ :: _) _ _); refine kBoxD _ _ rfl rfl rfl ?_; intro w1 hR hz1 hB; go_frame)
      | ((with_reducible change wpList _ _ _ (Oper.mk (some 6) _ _ _ _ _ :: _) _ _); refine kLoadD _ _ _ hR rfl rfl rfl ?_; go_frame)
      | (go_at_call 9; refine (e1 _).mono ?_; rintro e w2 ⟨rfl, hB2⟩; have hR2 := hR.below hB2 hR.lt; have hB3 := hB.trans (hB2.mono hB.size); have hr2 := hr.below hB3; have hG2 := hG.below hB3; have hs3 := hB3.size; clear hR hB hB2 hz1 hr hG; go_frame))
    (try simp only [Exit.inBlock, Exit.then])
    refine ret2 rfl rfl ?_
    exact ⟨_, rfl, ownB_nil _ _, hB3⟩
  have hf := right_fits hb
  have hwl := wordsL_le hd hf
  by_cases k0 : d.kind = 0
  · have hk0 : decide (d.kind = 0) = true := by simp [k0]
    by_cases hK1 : K = 0
    · have hK0 : (!decide ((K : Int) = 0)) = false := by simp [hK1]
      rw [if_neg (by simp [hK1])]
      go_enter Tryd.func6, Tryd.ntmps6
      go_wp2_with (first
        | ((with_reducible change wpList _ _ _ (Oper.mk (some 2) _ _ _ _ _ :: _) _ _); refine kBoxD _ _ rfl rfl rfl ?_; intro w1 hR hz1 hB; go_frame)
        | ((with_reducible change wpList _ _ _ (Oper.mk (some 6) _ _ _ _ _ :: _) _ _); refine kLoadD _ _ _ hR rfl rfl rfl ?_; go_frame)
        | (go_at_call 9; refine (e1 _).mono ?_; rintro e w2 ⟨rfl, hB2⟩; have hR2 := hR.below hB2 hR.lt; have hB3 := hB.trans (hB2.mono hB.size); have hr2 := hr.below hB3; have hG2 := hG.below hB3; have hs3 := hB3.size; clear hR hB hB2 hz1 hr hG; go_frame)
        | ((with_reducible change wpList _ _ _ (Oper.mk (some 10) _ _ _ _ _ :: _) _ _); refine kDeed0 _ _ rfl rfl rfl ?_; go_frame)
        | ((with_reducible change wpList _ _ _ (Oper.mk (some 11) _ _ _ _ _ :: _) _ _); refine kLoadK _ _ _ hR2 rfl rfl rfl ?_; go_frame)
        | ((with_reducible change wpList _ _ _ (Oper.mk (some 12) _ _ _ _ _ :: _) _ _); refine kEqlI _ _ _ _ .i64 d.kind 0 _ rfl rfl rfl rfl hk0 ?_; go_frame)
        | (go_at_call 16; refine (e2 _ hr2).mono ?_; rintro e w4 ⟨rfl, rfl⟩; go_frame)
        | ((with_reducible change wpList _ _ _ (Oper.mk (some 16) _ _ _ _ _ :: _) _ _); refine kNeqI _ _ _ _ .i64 (K : Int) 0 _ rfl rfl rfl rfl hK0 ?_; go_frame)
        | ((with_reducible change wpList _ _ _ (Oper.mk (some 19) _ _ _ _ _ :: _) _ _); refine kLoadD _ _ _ hR2 rfl rfl rfl ?_; go_frame)
        | (go_at_call 17; refine (lbWords_any hd hf _ hG2).mono ?_; rintro e w5 ⟨v5, rfl, hO5, hB5⟩; have hr5 := hr2.below hB5; have hB6 := hB3.trans (hB5.mono hs3); have hs6 := hB6.size; have hO6 := own_less hs3 hO5; clear hO5 hr2 hB3 hB5; go_frame)
        | ((with_reducible change wpList _ _ _ (Oper.mk (some 22) _ _ _ _ _ :: _) _ _); refine kAppB _ _ rfl rfl w.heap.size _ _ (wordsL d) r hO6 hr5 rfl rfl (by omega) hs6 ?_; intro v7 w7 hO7 hB7; have hB8 := hB6.trans hB7; clear hr5 hB6 hB7 hO6; go_frame))
      (try simp only [Exit.inBlock, Exit.then])
      refine ret2 rfl rfl ?_
      exact ⟨_, rfl, hO7, hB8⟩
    have hK0 : (!decide ((K : Int) = 0)) = true := by simp; omega
    rw [if_pos (.inr ⟨k0, hK1⟩)]
    go_enter Tryd.func6, Tryd.ntmps6
    go_wp2_with (first
      | ((with_reducible change wpList _ _ _ (Oper.mk (some 2) _ _ _ _ _ :: _) _ _); refine kBoxD _ _ rfl rfl rfl ?_; intro w1 hR hz1 hB; go_frame)
      | ((with_reducible change wpList _ _ _ (Oper.mk (some 6) _ _ _ _ _ :: _) _ _); refine kLoadD _ _ _ hR rfl rfl rfl ?_; go_frame)
      | (go_at_call 9; refine (e1 _).mono ?_; rintro e w2 ⟨rfl, hB2⟩; have hR2 := hR.below hB2 hR.lt; have hB3 := hB.trans (hB2.mono hB.size); have hr2 := hr.below hB3; have hG2 := hG.below hB3; have hs3 := hB3.size; clear hR hB hB2 hz1 hr hG; go_frame)
      | ((with_reducible change wpList _ _ _ (Oper.mk (some 10) _ _ _ _ _ :: _) _ _); refine kDeed0 _ _ rfl rfl rfl ?_; go_frame)
      | ((with_reducible change wpList _ _ _ (Oper.mk (some 11) _ _ _ _ _ :: _) _ _); refine kLoadK _ _ _ hR2 rfl rfl rfl ?_; go_frame)
      | ((with_reducible change wpList _ _ _ (Oper.mk (some 12) _ _ _ _ _ :: _) _ _); refine kEqlI _ _ _ _ .i64 d.kind 0 _ rfl rfl rfl rfl hk0 ?_; go_frame)
      | (go_at_call 16; refine (e2 _ hr2).mono ?_; rintro e w4 ⟨rfl, rfl⟩; go_frame)
      | ((with_reducible change wpList _ _ _ (Oper.mk (some 16) _ _ _ _ _ :: _) _ _); refine kNeqI _ _ _ _ .i64 (K : Int) 0 _ rfl rfl rfl rfl hK0 ?_; go_frame))
    (try simp only [Exit.inBlock, Exit.then])
    refine ret2 rfl rfl ?_
    exact ⟨_, rfl, ownB_nil _ _, hB3⟩
  have hk0 : decide (d.kind = 0) = false := by simp [k0]
  rw [if_neg (by simp [k0])]
  go_enter Tryd.func6, Tryd.ntmps6
  go_wp2_with (first
    | ((with_reducible change wpList _ _ _ (Oper.mk (some 2) _ _ _ _ _ :: _) _ _); refine kBoxD _ _ rfl rfl rfl ?_; intro w1 hR hz1 hB; go_frame)
    | ((with_reducible change wpList _ _ _ (Oper.mk (some 6) _ _ _ _ _ :: _) _ _); refine kLoadD _ _ _ hR rfl rfl rfl ?_; go_frame)
    | (go_at_call 9; refine (e1 _).mono ?_; rintro e w2 ⟨rfl, hB2⟩; have hR2 := hR.below hB2 hR.lt; have hB3 := hB.trans (hB2.mono hB.size); have hr2 := hr.below hB3; have hG2 := hG.below hB3; have hs3 := hB3.size; clear hR hB hB2 hz1 hr hG; go_frame)
    | ((with_reducible change wpList _ _ _ (Oper.mk (some 10) _ _ _ _ _ :: _) _ _); refine kDeed0 _ _ rfl rfl rfl ?_; go_frame)
    | ((with_reducible change wpList _ _ _ (Oper.mk (some 11) _ _ _ _ _ :: _) _ _); refine kLoadK _ _ _ hR2 rfl rfl rfl ?_; go_frame)
    | ((with_reducible change wpList _ _ _ (Oper.mk (some 12) _ _ _ _ _ :: _) _ _); refine kEqlI _ _ _ _ .i64 d.kind 0 _ rfl rfl rfl rfl hk0 ?_; go_frame)
    | (go_at_call 16; refine (e2 _ hr2).mono ?_; rintro e w4 ⟨rfl, rfl⟩; go_frame)
    | ((with_reducible change wpList _ _ _ (Oper.mk (some 16) _ _ _ _ _ :: _) _ _); refine kNeqI _ _ _ _ .i64 (K : Int) 0 _ rfl rfl rfl rfl hK0 ?_; go_frame)
    | ((with_reducible change wpList _ _ _ (Oper.mk (some 19) _ _ _ _ _ :: _) _ _); refine kLoadD _ _ _ hR2 rfl rfl rfl ?_; go_frame)
    | (go_at_call 17; refine (lbWords_any hd hf _ hG2).mono ?_; rintro e w5 ⟨v5, rfl, hO5, hB5⟩; have hr5 := hr2.below hB5; have hB6 := hB3.trans (hB5.mono hs3); have hs6 := hB6.size; have hO6 := own_less hs3 hO5; clear hO5 hr2 hB3 hB5; go_frame)
    | ((with_reducible change wpList _ _ _ (Oper.mk (some 22) _ _ _ _ _ :: _) _ _); refine kAppB _ _ rfl rfl w.heap.size _ _ (wordsL d) r hO6 hr5 rfl rfl (by omega) hs6 ?_; intro v7 w7 hO7 hB7; have hB8 := hB6.trans hB7; clear hr5 hB6 hB7 hO6; go_frame))
  (try simp only [Exit.inBlock, Exit.then])
  refine ret2 rfl rfl ?_
  exact ⟨_, rfl, hO7, hB8⟩
def hasP (l m : List UInt8) : Bool := decide (m.length ≤ l.length) && (l.take m.length == m)
theorem hasP_iff {l m : List UInt8} : hasP l m = true ↔ ∃ t, l = m ++ t := by
  unfold hasP
  simp only [Bool.and_eq_true, decide_eq_true_eq, beq_iff_eq]
  constructor
  · rintro ⟨h1, h2⟩; exact ⟨l.drop m.length, by rw [← h2]; simp [Nat.min_eq_left h1]⟩
  · rintro ⟨t, rfl⟩; simp
set_option maxRecDepth 100000 in
set_option maxHeartbeats 8000000 in
theorem bHas_any {l m : List UInt8} {v u : Value} (w : World) (hv : IsVals w v (l.map VB)) (hu : IsVals w u (m.map VB)) : Calls Tryd.prog 34 #[v, u] w fun e w' => e = .returned (.bool (hasP l m)) ∧ w' = w := by
  unfold hasP
  generalize hk : m = M at hu ⊢
  clear hk m
  obtain ⟨n, hn⟩ : ∃ n, l.length = n := ⟨_, rfl⟩
  obtain ⟨m, hm⟩ : ∃ m, M.length = m := ⟨_, rfl⟩
  rw [hn, hm]
  by_cases h : m ≤ n
  · have hg : decide ((n : Int) ≥ (m : Int)) = true := by simp; omega
    rw [show decide (m ≤ n) = true by simp [h], Bool.true_and]
    have e1 := fun w (h1 : IsVals w (toV v m) ((l.take m).map VB)) => fun (h2 : IsVals w u (M.map VB)) => bEqual_any w h1 h2
    go_enter Tryd.func34, Tryd.ntmps34
    go_wp2_with (first
      | ((with_reducible change wpList _ _ _ (Oper.mk (some 6) _ _ _ _ _ :: _) _ _); refine kLenN _ _ _ v _ n rfl rfl rfl hv (by rw [List.length_map, hn]) Tryd.underlying22 ?_; go_frame)
      | ((with_reducible change wpList _ _ _ (Oper.mk (some 8) _ _ _ _ _ :: _) _ _); refine kLenN _ _ _ u _ m rfl rfl rfl hu (by rw [List.length_map, hm]) Tryd.underlying22 ?_; go_frame)
      | ((with_reducible change wpList _ _ _ (Oper.mk (some 10) _ _ _ _ _ :: _) _ _); refine kGeqI _ _ _ _ .i64 (n : Int) (m : Int) _ rfl rfl rfl rfl hg ?_; go_frame)
      | ((with_reducible change wpList _ _ _ (Oper.mk (some 13) _ _ _ _ _ :: _) _ _); refine kLenN _ _ _ u _ m rfl rfl rfl hu (by rw [List.length_map, hm]) Tryd.underlying22 ?_; go_frame)
      | ((with_reducible change wpList _ _ _ (Oper.mk (some 14) _ _ _ _ _ :: _) _ _); refine kSliceTo _ _ v l m hv (by omega) rfl rfl rfl rfl ?_; intro hT; go_frame)
      | (go_at_call 39; refine (e1 _ hT hu).mono ?_; rintro e w1 ⟨rfl, rfl⟩; go_frame))
    (try simp only [Exit.inBlock, Exit.then])
    go_ret
    exact ⟨rfl, rfl⟩
  have hg : decide ((n : Int) ≥ (m : Int)) = false := by simp; omega
  rw [show decide (m ≤ n) = false by simp; omega, Bool.false_and]
  go_enter Tryd.func34, Tryd.ntmps34
  go_wp2_with (first
    | ((with_reducible change wpList _ _ _ (Oper.mk (some 6) _ _ _ _ _ :: _) _ _); refine kLenN _ _ _ v _ n rfl rfl rfl hv (by rw [List.length_map, hn]) Tryd.underlying22 ?_; go_frame)
    | ((with_reducible change wpList _ _ _ (Oper.mk (some 8) _ _ _ _ _ :: _) _ _); refine kLenN _ _ _ u _ m rfl rfl rfl hu (by rw [List.length_map, hm]) Tryd.underlying22 ?_; go_frame)
    | ((with_reducible change wpList _ _ _ (Oper.mk (some 10) _ _ _ _ _ :: _) _ _); refine kGeqI _ _ _ _ .i64 (n : Int) (m : Int) _ rfl rfl rfl rfl hg ?_; go_frame))
  (try simp only [Exit.inBlock, Exit.then])
  go_ret
  exact ⟨rfl, rfl⟩
set_option maxRecDepth 100000 in
set_option maxHeartbeats 8000000 in
theorem bCut_any {l m : List UInt8} {v u : Value} (w : World) (hv : IsVals w v (l.map VB)) (hu : IsVals w u (m.map VB)) : Calls Tryd.prog 24 #[v, u] w fun e w' => ∃ x, e = .returned (.tuple #[x, .bool (hasP l m)]) ∧ IsVals w' x ((if hasP l m then l.drop m.length else l).map VB) ∧ w' = w := by
  have e1 := fun w (h1 : IsVals w v (l.map VB)) (h2 : IsVals w u (m.map VB)) => bHas_any w h1 h2
  obtain ⟨b, hb⟩ : ∃ b, hasP l m = b := ⟨_, rfl⟩
  have hle : b = true → m.length ≤ l.length := by
    intro h; rw [h] at hb; unfold hasP at hb; simp at hb; exact hb.1
  rw [hb] at e1 ⊢
  obtain ⟨n, hn⟩ : ∃ n, m.length = n := ⟨_, rfl⟩
  rw [hn] at hle
  rw [hn]
  clear hb
  cases b
  · rw [if_neg (by simp)]
    go_enter Tryd.func24, Tryd.ntmps24
    go_wp2_with (first
      | (go_at_call 34; refine (e1 _ hv hu).mono ?_; rintro e w1 ⟨rfl, rfl⟩; go_frame))
    (try simp only [Exit.inBlock, Exit.then])
    refine ret2 rfl rfl ?_
    exact ⟨_, rfl, hv, rfl⟩
  have hle := hle rfl
  rw [if_pos rfl]
  go_enter Tryd.func24, Tryd.ntmps24
  go_wp2_with (first
    | (go_at_call 34; refine (e1 _ hv hu).mono ?_; rintro e w1 ⟨rfl, rfl⟩; go_frame)
    | ((with_reducible change wpList _ _ _ (Oper.mk (some 13) _ _ _ _ _ :: _) _ _); refine kLenN _ _ _ u _ n rfl rfl rfl hu (by rw [List.length_map, hn]) Tryd.underlying22 ?_; go_frame)
    | ((with_reducible change wpList _ _ _ (Oper.mk (some 14) _ _ _ _ _ :: _) _ _); refine kSliceFromB _ _ v l n hv (by omega) rfl rfl rfl rfl ?_; intro hT; go_frame))
  (try simp only [Exit.inBlock, Exit.then])
  refine ret2 rfl rfl ?_
  exact ⟨_, rfl, (by rw [List.map_drop] at hT; exact hT), rfl⟩
/-- what the first words push -/
def piecesS : Nat → List UInt8 → Option (List (List UInt8))
  | 0, _ => some []
  | n + 1, b => match nextS b with
    | none => none
    | some (_, d, u) => (piecesS n (b.drop u)).map (d :: ·)
/-- bytes in a block of another kind than T -/
def PV (T : TypeId) (w : World) (v : Value) (l : List UInt8) : Prop := IsVals w v (l.map VB) ∧ ∀ a n c, v = .slice (some a) n c → l ≠ [] → ∃ (cs : Array Value) (U : TypeId) (fz : Nat × Nat), w.heap[a.block]? = some (.cells cs U fz) ∧ U ≠ T
theorem PV.keep {T : TypeId} {w w' : World} {v : Value} {l : List UInt8} (h : PV T w v l) (hk : Kp T w w') : PV T w' v l := by
  obtain ⟨⟨ao, c, rfl, hc, hn, hj⟩, ht⟩ := h
  refine ⟨⟨ao, c, rfl, hc, hn, fun j u hu => ?_⟩, fun a n c' e hl => ?_⟩
  · obtain ⟨a, rfl, hcell⟩ := hj j u hu
    have hne : l ≠ [] := by rintro rfl; simp at hu
    obtain ⟨cs, U, fz, hb, ho⟩ := ht a _ _ rfl hne
    have hblk : (a.add j).block = a.block := by unfold Addr.add; split <;> rfl
    exact ⟨a, rfl, by rw [World.cell?_of_block (w := w) (by rw [hblk, hk _ _ _ _ hb ho, hb])]; exact hcell⟩
  · obtain ⟨cs, U, fz, hb, ho⟩ := ht a n c' e hl
    exact ⟨cs, U, fz, hk _ _ _ _ hb ho, ho⟩
theorem OwnB.pv {T : TypeId} (hT : 5 ≠ T) {w : World} {b : Nat} {v : Value} {l : List UInt8} (h : OwnB w b v l) : PV T w v l := by
  refine ⟨h.vals, fun a n c e hl => ?_⟩
  rcases h.2 with ⟨rfl, _⟩ | ⟨g, cap, cur, rfl, _, hg, _⟩
  · cases e
  · simp only [Value.slice.injEq, Option.some.injEq] at e
    rw [← e.1]
    exact ⟨cur, _, _, hg, hT⟩
/-- a slice of one's own that holds pieces -/
def OwnPs (w : World) (base : Nat) (t : Value) (Ls : List (List UInt8)) : Prop := ∃ vs : List Value, vs.length = Ls.length ∧ w.ownsRow base 22 1 t vs.length vs ∧ ∀ (j : Nat) (v : Value) (l : List UInt8), vs[j]? = some v → Ls[j]? = some l → PV 22 w v l
theorem OwnPs.lists {w : World} {base : Nat} {t : Value} {Ls : List (List UInt8)} (h : OwnPs w base t Ls) : AreLists w t Ls := by
  obtain ⟨vs, h1, h2, h3⟩ := h
  exact ⟨vs, h1, isVals_own h2, fun j v l hv hl => (h3 j v l hv hl).1⟩
theorem ownPs_nil {w : World} {g base m : Nat} {zv : Value} (hb : base ≤ g) (h : Row w g 22 (Array.replicate m zv)) (hz : zv = .slice none 0 0) (hm : m ≤ 1000) : OwnPs w base (.slice (some ⟨g, 0, none⟩) 0 m) [] := by
  subst hz
  exact ⟨[], rfl, ⟨rfl, .inr ⟨g, m, _, rfl, hb, h, Nat.zero_le _, by simp only [maxLen]; omega, by simp, by simp⟩⟩, by simp⟩
theorem pieces_next {n : Nat} {b : List UInt8} {c : UInt8} {d : List UInt8} {u : Nat} (h : nextS b = some (c, d, u)) (Ls : List (List UInt8)) : (piecesS (n + 1) b).map (Ls ++ ·) = (piecesS n (b.drop u)).map ((Ls ++ [d]) ++ ·) := by
  simp only [piecesS, h, Option.map_map]
  congr 1
  funext x
  simp
theorem ownPs_push {w w3 w5 : World} {base b' : Nat} {t v5 vd : Value} {vs : List Value} {Ls : List (List UInt8)} {d : List UInt8} (hl : vs.length = Ls.length) (hp : ∀ (j : Nat) (v : Value) (l : List UInt8), vs[j]? = some v → Ls[j]? = some l → PV 22 w v l) (hb : Below w.heap.size w w3) (hd : OwnB w3 b' vd d) (h3 : w3.ownsRow base 22 1 t vs.length vs) (hO : w5.ownsRow base 22 1 v5 (vs ++ [vd]).length (vs ++ [vd])) (hG : w3.grownBy w5 t.ownBlock) : OwnPs w5 base v5 (Ls ++ [d]) := by
  have hk := kp_grown h3 hG
  refine ⟨vs ++ [vd], by simp [hl], hO, fun j v l hv hl' => ?_⟩
  rcases Nat.lt_trichotomy j vs.length with h | h | h
  · rw [List.getElem?_append_left h] at hv
    rw [List.getElem?_append_left (by omega)] at hl'
    exact ((hp j v l hv hl').keep (kp_below _ hb)).keep hk
  · subst h
    rw [List.getElem?_append_right (Nat.le_refl _), Nat.sub_self] at hv
    rw [List.getElem?_append_right (by omega), hl, Nat.sub_self] at hl'
    cases hv; cases hl'
    exact (hd.pv (by decide)).keep hk
  · rw [List.getElem?_eq_none (by simp; omega)] at hv; cases hv
set_option maxRecDepth 100000 in
set_option maxHeartbeats 8000000 in
theorem lbPieces_any {n : Nat} (hn : n ≤ 100) {b : List UInt8} {v : Value} (w : World) (hv : IsVals w v (b.map VB)) (hl : b.length ≤ 1000000) : Calls Tryd.prog 32 #[v, .int .i64 (n : Int)] w fun e w' => ∃ t, e = .returned (.tuple #[t, .bool (piecesS n b).isSome]) ∧ AreLists w' t ((piecesS n b).getD []) ∧ Below w.heap.size w w' := by
  obtain ⟨i, hi, hz, hs1, hby⟩ := bysInfoL
  obtain ⟨R, hR0⟩ : ∃ R, piecesS n b = R := ⟨_, rfl⟩
  rw [hR0]
  go_enter Tryd.func32, Tryd.ntmps32
  go_wp2_with (first
    | ((with_reducible change wpList _ _ _ (Oper.mk (some 12) _ _ _ _ _ :: _) _ _); refine kMake _ _ _ _ rfl rfl i _ Tryd.underlying57 hi hz hs1 _ rfl .i64 .i64 0 (n : Int) 0 n rfl rfl rfl rfl (by omega) (by rw [hby]; omega) (by omega) ?_; intro w1 hM hz1 hB1; clear hz1; have hP1 := ownPs_nil (base := w.heap.size) (Nat.le_refl _) hM rfl (by omega); clear hM; go_frame))
  go_loopw [14, 6, 0] (fun i t x wr => ∃ (j : Nat) (Ls : List (List UInt8)) (c : List UInt8), j ≤ n ∧ Ls.length = j ∧ i = .int .i64 j ∧ OwnPs wr w.heap.size t Ls ∧ IsVals w x (c.map VB) ∧ c.length ≤ 1000000 ∧ (piecesS (n - j) c).map (Ls ++ ·) = R ∧ Below w.heap.size w wr) (fun i _ _ _ => n - (intOf i).toNat)
  case atStart => exact ⟨0, [], b, by omega, rfl, rfl, hP1, hv, hl, by rw [Nat.sub_zero, hR0]; simp, hB1⟩
  case round =>
    clear hP1 hB1 hv hl hR0
    obtain ⟨j, Ls, c, hj, hLj, rfl, ⟨vs, hvl, hown, hpc⟩, hXw, hcl, hrec, hB⟩ := hrel
    have hX := hXw.below hB
    have hsz := hB.size
    by_cases hlt : j < n
    · have hd : decide ((j : Int) < (n : Int)) = true := by simp; omega
      obtain ⟨m, hm⟩ : ∃ m, n - j = m + 1 := ⟨n - j - 1, by omega⟩
      rw [hm] at hrec
      have hnx := fun w (x : Value) (h : IsVals w x (c.map VB)) => scNext_any w h hcl
      cases hne : nextS c with
      | none =>
        rw [hne] at hnx
        have hRn : R = none := by rw [← hrec]; simp [piecesS, hne]
        subst hRn
        go_wp2_with (first
          | ((with_reducible change wpList _ _ _ (Oper.mk (some 15) _ _ _ _ _ :: _) _ _); refine kLssI _ _ _ _ .i64 (j : Int) (n : Int) true rfl rfl rfl rfl hd ?_; go_frame)
          | (go_at_call 38; refine (hnx _ _ hX).mono ?_; rintro e w2 ⟨rfl, hB2⟩; have hB3 := hB.trans (hB2.mono hsz); clear hB hB2; go_frame))
        (try simp only [Exit.inBlock, Exit.then])
        refine ret2 rfl rfl ?_
        exact ⟨_, rfl, areLists_nil _, hB3⟩
      | some p =>
        obtain ⟨c0, d, u⟩ := p
        rw [hne] at hnx
        have hul := (next_used hne).2
        rw [pieces_next hne] at hrec
        clear hne
        have hXd := isVals_from hXw (n := u) (by simpa using hul)
        rw [← List.map_drop] at hXd
        go_wp2_with (first
          | ((with_reducible change wpList _ _ _ (Oper.mk (some 15) _ _ _ _ _ :: _) _ _); refine kLssI _ _ _ _ .i64 (j : Int) (n : Int) true rfl rfl rfl rfl hd ?_; go_frame)
          | (go_at_call 38; refine (hnx _ _ hX).mono ?_; rintro e w2 ⟨vd, rfl, hD2, hB2⟩; have hB3 := hB.trans (hB2.mono hsz); have hX3 := hX.below hB2; clear hX hB; go_frame)
          | ((with_reducible change wpList _ _ _ (Oper.mk (some 27) _ _ _ _ _ :: _) _ _); refine kBuildSlice1 _ _ _ vd rfl rfl Tryd.underlying57 i _ hi hz hs1 rfl (vals_oneS8 hD2.vals) ?_; intro w3 hR3 hz3 hB4; clear hz3; have hV3 : IsVals w3 _ [vd] := isVals_lit (l := [vd]) hR3; have hsz2 := hB2.size; have hB24 := hB2.trans (hB4.mono hsz2); have hD3 := hD2.below hB4; have hown3 := ownsRow_below hown hB24; have hX4 := hX3.below hB4; have hB5 := hB3.trans (hB4.mono hB3.size); have hle := hB5.size; have hv1 := vals_oneS8 hD2.vals; clear hR3 hD2 hX3 hB3 hB2 hB4; go_frame)
          | ((with_reducible change wpList _ _ _ (Oper.mk (some 28) _ _ _ _ _ :: _) _ _); refine kAppend _ _ _ _ rfl rfl w.heap.size i _ Tryd.underlying57 hi hz hs1 rfl _ _ vs [vd] rfl hown3 rfl hV3 (by simp; exact hv1) (by simp [maxLen]; omega) (by rw [hby]; simp; omega) hle ?_; intro v5 w5 hO5 hG5; have hPs := ownPs_push hvl hpc hB24 hD3 hown3 hO5 hG5; have hB6 := hB5.trans (below_grown hown3 hG5 hle); have hX5 := hXw.below hB6; clear hD3 hO5 hG5 hown3 hV3 hX4 hB5 hle hB24; go_frame)
          | ((with_reducible change wpList _ _ _ (Oper.mk (some 31) _ _ _ _ _ :: _) _ _); refine kSliceFromB _ _ _ c u hX5 (by omega) rfl rfl rfl rfl ?_; intro hXX; clear hXX hX5; go_frame)
          | ((with_reducible change wpList _ _ _ (Oper.mk (some 32) _ _ _ _ _ :: _) _ _); refine kAddI _ _ _ _ (j : Int) 1 ((j + 1 : Nat) : Int) (by omega) rfl rfl rfl rfl ?_; go_frame))
        go_roundw
        case rel => exact ⟨j + 1, Ls ++ [d], c.drop u, by omega, by simp [hLj], rfl, hPs, hXd, by simp; omega, by rw [show n - (j + 1) = m by omega]; exact hrec, hB6⟩
        case measure => simp [intOf]; omega
    · have hd : decide ((j : Int) < (n : Int)) = false := by simp; omega
      have hRn : R = some Ls := by rw [← hrec, show n - j = 0 by omega]; simp [piecesS]
      subst hRn
      have hA : AreLists wr _ Ls := OwnPs.lists ⟨vs, hvl, hown, hpc⟩
      go_wp2_with (first
        | ((with_reducible change wpList _ _ _ (Oper.mk (some 15) _ _ _ _ _ :: _) _ _); refine kLssI _ _ _ _ .i64 (j : Int) (n : Int) false rfl rfl rfl rfl hd ?_; go_frame))
      (try simp only [Exit.inBlock, Exit.then])
      refine ret2 rfl rfl ?_
      exact ⟨_, rfl, hA, hB⟩
end Go.Proofs.YtnaclalbeocpkaaDoor

/-
  Layer 8: the walks of the program's deedOf and read.
-/
namespace Go.Proofs.YtnaclalbeocpkaaDoor
open Go Go.RowKit

def put20 (x : List UInt8) : List UInt8 := x.take 20 ++ List.replicate (20 - x.length) 0
theorem put20_len (x : List UInt8) : (put20 x).length = 20 := by unfold put20; simp; omega
theorem put20_id {x : List UInt8} (h : x.length = 20) : put20 x = x := by unfold put20; rw [h]; simp [List.take_of_length_le (Nat.le_of_eq h)]
def deedOfL (k : Nat) (Ls : List (List UInt8)) : Deed :=
  if k = 1 then ⟨1, [], [], [], put20 (Ls[0]?.getD [])⟩
  else if k = 2 then ⟨2, Ls[0]?.getD [], Ls[2]?.getD [], Ls[1]?.getD [], z20⟩
  else if k = 3 then ⟨3, Ls[0]?.getD [], Ls[1]?.getD [], [], z20⟩
  else noDeed
theorem info_stringL : (Tryd.prog.info? 9).map (·.size) = some 1 := by kernel_rfl
theorem set_1 (d : Deed) (x : List UInt8) : (dcells d).setIfInBounds 1 (textV x) = dcells ⟨d.kind, x, d.value, d.rand, d.commit⟩ := by simp [dcells, dtab]
theorem set_2 (d : Deed) (x : List UInt8) : (dcells d).setIfInBounds 2 (textV x) = dcells ⟨d.kind, d.name, x, d.rand, d.commit⟩ := by simp [dcells, dtab]
theorem set_3 (d : Deed) (x : List UInt8) : (dcells d).setIfInBounds 3 (textV x) = dcells ⟨d.kind, d.name, d.value, x, d.commit⟩ := by simp [dcells, dtab]
theorem list_at9 {l : List UInt8} {n : Nat} (h : l.length = n) : (List.range n).map (fun p => VB (at8 l p)) = l.map VB := by
  have := tab_list l n h
  unfold tab at this
  exact List.toArray_inj this
theorem put_4 (k : Int) (x : List UInt8) : splice (dcells ⟨k, [], [], [], z20⟩) 4 ((x.map VB).take 20) = dcells ⟨k, [], [], [], put20 x⟩ := by
  have e1 := list_at9 (l := z20) (n := 20) rfl
  have e2 := list_at9 (put20_len x)
  unfold splice dcells dtab
  dsimp only
  rw [e1, e2]
  unfold put20 z20
  rw [List.map_append, List.map_take, List.map_replicate, List.map_replicate]
  congr 1
  have hxl : (x.map VB).length = x.length := by simp
  generalize x.map VB = m at *
  have hl : (List.take 20 m).length = min 20 m.length := List.length_take
  rw [hl, ← hxl, show 4 + min 20 m.length = min 20 m.length + 1 + 1 + 1 + 1 by omega]
  simp only [List.take_succ_cons, List.take_zero, List.drop_succ_cons, List.drop_replicate, List.cons_append, List.nil_append]
  rw [show 20 - min 20 m.length = 20 - m.length by omega]
section
variable {ops : Array Oper} {Q : Exit → Act → World → Prop} {rest : List Oper} {o : Oper} {a : Act} {w : World} {S : World → Prop}
theorem kStoreN1 (x y : Operand) (g : Nat) (d : Deed) (X : List UInt8) (hr : Row w g 29 (dcells d)) (ho : o.op = .store 9 x y) (hg : Region.wanted o (yielded ops a.tmps) = true) (hx : a.eval x = .pointer (some ⟨g, 1, none⟩)) (hy : a.eval y = textV X) (h : ∀ w1, Row w1 g 29 (dcells ⟨d.kind, X, d.value, d.rand, d.commit⟩) → Wrote g w w1 → wpList Tryd.prog ops Q rest (a.put o.dst undef) w1) : wpList Tryd.prog ops Q (o :: rest) a w :=
  kStore1 _ _ _ _ g 1 _ (textV X) ho hg hx hy hr info_stringL (by rw [dcells_size]; decide) rfl (fun w1 h1 => h w1 (by rw [← set_1]; exact h1))
theorem kStoreN2 (x y : Operand) (g : Nat) (d : Deed) (X : List UInt8) (hr : Row w g 29 (dcells d)) (ho : o.op = .store 9 x y) (hg : Region.wanted o (yielded ops a.tmps) = true) (hx : a.eval x = .pointer (some ⟨g, 2, none⟩)) (hy : a.eval y = textV X) (h : ∀ w1, Row w1 g 29 (dcells ⟨d.kind, d.name, X, d.rand, d.commit⟩) → Wrote g w w1 → wpList Tryd.prog ops Q rest (a.put o.dst undef) w1) : wpList Tryd.prog ops Q (o :: rest) a w :=
  kStore1 _ _ _ _ g 2 _ (textV X) ho hg hx hy hr info_stringL (by rw [dcells_size]; decide) rfl (fun w1 h1 => h w1 (by rw [← set_2]; exact h1))
theorem kStoreN3 (x y : Operand) (g : Nat) (d : Deed) (X : List UInt8) (hr : Row w g 29 (dcells d)) (ho : o.op = .store 9 x y) (hg : Region.wanted o (yielded ops a.tmps) = true) (hx : a.eval x = .pointer (some ⟨g, 3, none⟩)) (hy : a.eval y = textV X) (h : ∀ w1, Row w1 g 29 (dcells ⟨d.kind, d.name, d.value, X, d.commit⟩) → Wrote g w w1 → wpList Tryd.prog ops Q rest (a.put o.dst undef) w1) : wpList Tryd.prog ops Q (o :: rest) a w :=
  kStore1 _ _ _ _ g 3 _ (textV X) ho hg hx hy hr info_stringL (by rw [dcells_size]; decide) rfl (fun w1 h1 => h w1 (by rw [← set_3]; exact h1))
end
theorem at_get {Ls : List (List UInt8)} {k : Nat} (hk : k < Ls.length) : Ls[k]?.getD [] = Ls[k] := by simp [hk]
set_option maxRecDepth 100000 in
set_option maxHeartbeats 8000000 in
theorem lbDeedOf_any {k : Nat} (hk : k = 1 ∨ k = 2 ∨ k = 3) {u : Value} {Ls : List (List UInt8)} (w : World) (hu : AreLists w u Ls) (hlen : Ls.length = cntN k) (hsm : ∀ L ∈ Ls, L.length ≤ 1000000) : Calls Tryd.prog 33 #[.int .i64 (k : Int), u] w fun e w' => e = .returned (deedV (deedOfL k Ls)) ∧ Below w.heap.size w w' := by
  rcases hk with k1 | k2 | k3
  · subst k1
    have hlt0 : 0 < Ls.length := by rw [hlen]; decide
    obtain ⟨vs0, x0, -, hV0, hx0, hX0⟩ := lists_at hu hlt0
    rw [← at_get hlt0] at hX0
    have hm0 := hsm _ (List.getElem_mem hlt0)
    rw [← at_get hlt0] at hm0
    unfold deedOfL
    rw [if_pos rfl]
    obtain ⟨L0, hL0⟩ : ∃ L, Ls[0]?.getD [] = L := ⟨_, rfl⟩
    rw [hL0] at hX0 hm0
    rw [hL0]
    go_enter Tryd.func33, Tryd.ntmps33
    go_wp2_with (first
      | ((with_reducible change wpList _ _ _ (Oper.mk (some 4) _ _ _ _ _ :: _) _ _); refine kAllocL _ _ rfl rfl zero_Deed ?_; intro w1 hR4 hz1 hB1; go_frame)
      | ((with_reducible change wpList _ _ _ (Oper.mk (some 7) _ _ _ _ _ :: _) _ _); refine kBuildDK _ 1 rfl rfl rfl ?_; go_frame)
      | ((with_reducible change wpList _ _ _ (Oper.mk (some 5) _ _ _ _ _ :: _) _ _); refine kAllocL _ _ rfl rfl zero_Deed ?_; intro w2 hR5 hz2 hB2; clear hz2; have hR4b := hR4.below hB2 hR4.lt; go_frame)
      | ((with_reducible change wpList _ _ _ (Oper.mk none _ _ _ _ _ :: _) _ _); refine kStoreD _ _ _ noDeed _ hR5 rfl rfl rfl rfl ?_; intro w3 hR5b hW3; have hR4c := hW3.row hR4b (Nat.ne_of_lt hz1); have hB3 := (hB1.trans (hB2.mono (Nat.le_of_lt hz1))).trans (hW3.below (Nat.le_of_lt hz1)); clear hR4 hR4b hR5 hB1 hB2 hW3; go_frame))
    refine region_symT 5 _ [] [] [.val (.pointer (some ⟨w1.heap.size, 4, none⟩)), .val (.slice (some ⟨w1.heap.size, 4, none⟩) 20 20), .val (u), .prop (fun w v => ∃ b, v = .pointer (some b) ∧ w.cell? b = some x0) (fun _ _ _ hb h => h.imp fun b h => ⟨h.1, by rw [hb.cell (block_lt_of_cell h.2)]; exact h.2⟩), .val (x0)] rfl (by kernel_rfl) (by kernel_rfl) (by kernel_rfl) (by kernel_rfl) rfl (by intro s hs; cases hs) (steps_all ⟨?_, ?_, ?_, ?_, ?_, trivial⟩) ?_
    · exact fun A W sz ot hbel ap dp => kDeed4 _ _ rfl rfl (tO ot 5) (tV ap sz (Below.refl _ _) rfl)
    · exact fun A W sz ot hbel ap dp => kSliceArr _ _ _ 20 _ 4 rfl rfl (tD dp 0 .data) Tryd.underlying27 info_b8P (tV ap sz (Below.refl _ _) rfl)
    · exact fun A W sz ot hbel ap dp => kMoveV _ _ rfl rfl (tO ot 1) (tV ap sz (Below.refl _ _) rfl)
    · intro A W sz ot hbel ap dp
      exact kIndexAddrV _ _ _ _ .i64 u vs0 0 0 x0 rfl rfl (by exact tD dp 2 .data) ((hV0.below hB3).below hbel) rfl Tryd.underlying57 info_bytesS rfl hx0 (fun b hb => tV ap sz (Below.refl _ _) ⟨b, rfl, hb⟩)
    · intro A W sz ot hbel ap dp
      obtain ⟨b, e, hb⟩ := tD dp 3 .data
      exact kLoadCell _ _ b x0 _ rfl rfl e hb Tryd.underlying22 rfl (tV ap sz (Below.refl _ _) rfl)
    intro w4 hB4
    dsimp only [AllV]
    rintro u3 hu3 hap
    dsimp only [putAll, List.take, List.drop]
    go_frame
    clear hap
    have hR4d := hR4c.below hB4 hR4c.lt
    have hR5c := hR5b.below hB4 hR5b.lt
    have hB5 := hB3.trans (hB4.mono hB3.size)
    have hX5 := (hX0.below hB3).below hB4
    clear hR4c hR5b hB3 hB4
    go_wp2_with (first
      | ((with_reducible change wpList _ _ _ (Oper.mk (some 16) _ _ _ _ _ :: _) _ _); refine kCopy _ _ _ _ _ _ rfl rfl Tryd.underlying22 info_b8P _ 4 20 20 rfl x0 rfl (L0.map VB) hX5 (vbs_one _) _ hR5c (by rw [dcells_size]; decide) ?_; intro w6 hR6 hW6; rw [put_4] at hR6; have hR4e := hW6.row hR4d (Nat.ne_of_lt hz1); have hB6 := hB5.trans (hW6.below (Nat.le_of_lt hz1)); go_frame)
      | ((with_reducible change wpList _ _ _ (Oper.mk (some 46) _ _ _ _ _ :: _) _ _); refine kLoadD _ _ _ hR6 rfl rfl rfl ?_; go_frame)
      | ((with_reducible change wpList _ _ _ (Oper.mk none _ _ _ _ _ :: _) _ _); refine kStoreD _ _ _ noDeed _ hR4e rfl rfl rfl rfl ?_; intro w9 hR9 hW9; have hB9 := hB6.trans (hW9.below (Nat.le_refl _)); go_frame))
    (try simp only [Exit.inBlock, Exit.then])
    exact result_row rfl rfl hR9 Tryd.underlying29 rfl (info_DeedC _) rfl ⟨rfl, hB9⟩
  · subst k2
    have hlt0 : 0 < Ls.length := by rw [hlen]; decide
    obtain ⟨vs0, x0, -, hV0, hx0, hX0⟩ := lists_at hu hlt0
    rw [← at_get hlt0] at hX0
    have hm0 := hsm _ (List.getElem_mem hlt0)
    rw [← at_get hlt0] at hm0
    have hlt1 : 1 < Ls.length := by rw [hlen]; decide
    obtain ⟨vs1, x1, -, hV1, hx1, hX1⟩ := lists_at hu hlt1
    rw [← at_get hlt1] at hX1
    have hm1 := hsm _ (List.getElem_mem hlt1)
    rw [← at_get hlt1] at hm1
    have hlt2 : 2 < Ls.length := by rw [hlen]; decide
    obtain ⟨vs2, x2, -, hV2, hx2, hX2⟩ := lists_at hu hlt2
    rw [← at_get hlt2] at hX2
    have hm2 := hsm _ (List.getElem_mem hlt2)
    rw [← at_get hlt2] at hm2
    unfold deedOfL
    rw [if_neg (by decide)]; rw [if_pos rfl]
    obtain ⟨L0, hL0⟩ : ∃ L, Ls[0]?.getD [] = L := ⟨_, rfl⟩
    rw [hL0] at hX0 hm0
    obtain ⟨L1, hL1⟩ : ∃ L, Ls[1]?.getD [] = L := ⟨_, rfl⟩
    rw [hL1] at hX1 hm1
    obtain ⟨L2, hL2⟩ : ∃ L, Ls[2]?.getD [] = L := ⟨_, rfl⟩
    rw [hL2] at hX2 hm2
    rw [hL0, hL1, hL2]
    go_enter Tryd.func33, Tryd.ntmps33
    go_wp2_with (first
      | ((with_reducible change wpList _ _ _ (Oper.mk (some 4) _ _ _ _ _ :: _) _ _); refine kAllocL _ _ rfl rfl zero_Deed ?_; intro w1 hR4 hz1 hB1; go_frame)
      | ((with_reducible change wpList _ _ _ (Oper.mk (some 7) _ _ _ _ _ :: _) _ _); refine kBuildDK _ 2 rfl rfl rfl ?_; go_frame)
      | ((with_reducible change wpList _ _ _ (Oper.mk (some 5) _ _ _ _ _ :: _) _ _); refine kAllocL _ _ rfl rfl zero_Deed ?_; intro w2 hR5 hz2 hB2; clear hz2; have hR4b := hR4.below hB2 hR4.lt; go_frame)
      | ((with_reducible change wpList _ _ _ (Oper.mk none _ _ _ _ _ :: _) _ _); refine kStoreD _ _ _ noDeed _ hR5 rfl rfl rfl rfl ?_; intro w3 hR5b hW3; have hR4c := hW3.row hR4b (Nat.ne_of_lt hz1); have hB3 := (hB1.trans (hB2.mono (Nat.le_of_lt hz1))).trans (hW3.below (Nat.le_of_lt hz1)); clear hR4 hR4b hR5 hB1 hB2 hW3; go_frame))
    refine region_symT 12 _ [] [] [.val (u), .prop (fun w v => ∃ b, v = .pointer (some b) ∧ w.cell? b = some x0) (fun _ _ _ hb h => h.imp fun b h => ⟨h.1, by rw [hb.cell (block_lt_of_cell h.2)]; exact h.2⟩), .val (x0), .val (textV L0), .val (u), .prop (fun w v => ∃ b, v = .pointer (some b) ∧ w.cell? b = some x1) (fun _ _ _ hb h => h.imp fun b h => ⟨h.1, by rw [hb.cell (block_lt_of_cell h.2)]; exact h.2⟩), .val (x1), .val (textV L1), .val (u), .prop (fun w v => ∃ b, v = .pointer (some b) ∧ w.cell? b = some x2) (fun _ _ _ hb h => h.imp fun b h => ⟨h.1, by rw [hb.cell (block_lt_of_cell h.2)]; exact h.2⟩), .val (x2), .val (textV L2)] rfl (by kernel_rfl) (by kernel_rfl) (by kernel_rfl) (by kernel_rfl) rfl (by intro s hs; cases hs) (steps_all ⟨?_, ?_, ?_, ?_, ?_, ?_, ?_, ?_, ?_, ?_, ?_, ?_, trivial⟩) ?_
    · exact fun A W sz ot hbel ap dp => kMoveV _ _ rfl rfl (tO ot 1) (tV ap sz (Below.refl _ _) rfl)
    · intro A W sz ot hbel ap dp
      exact kIndexAddrV _ _ _ _ .i64 u vs0 0 0 x0 rfl rfl (by exact tD dp 0 .data) ((hV0.below hB3).below hbel) rfl Tryd.underlying57 info_bytesS rfl hx0 (fun b hb => tV ap sz (Below.refl _ _) ⟨b, rfl, hb⟩)
    · intro A W sz ot hbel ap dp
      obtain ⟨b, e, hb⟩ := tD dp 1 .data
      exact kLoadCell _ _ b x0 _ rfl rfl e hb Tryd.underlying22 rfl (tV ap sz (Below.refl _ _) rfl)
    · exact fun A W sz ot hbel ap dp => kToString _ _ _ _ x0 L0 rfl rfl (tD dp 2 .data) ((hX0.below hB3).below hbel) Tryd.underlying22 Tryd.underlying5 Tryd.underlying9 (tV ap sz (Below.refl _ _) rfl)
    · exact fun A W sz ot hbel ap dp => kMoveV _ _ rfl rfl (tO ot 1) (tV ap sz (Below.refl _ _) rfl)
    · intro A W sz ot hbel ap dp
      exact kIndexAddrV _ _ _ _ .i64 u vs1 1 1 x1 rfl rfl (by exact tD dp 4 .data) ((hV1.below hB3).below hbel) rfl Tryd.underlying57 info_bytesS rfl hx1 (fun b hb => tV ap sz (Below.refl _ _) ⟨b, rfl, hb⟩)
    · intro A W sz ot hbel ap dp
      obtain ⟨b, e, hb⟩ := tD dp 5 .data
      exact kLoadCell _ _ b x1 _ rfl rfl e hb Tryd.underlying22 rfl (tV ap sz (Below.refl _ _) rfl)
    · exact fun A W sz ot hbel ap dp => kToString _ _ _ _ x1 L1 rfl rfl (tD dp 6 .data) ((hX1.below hB3).below hbel) Tryd.underlying22 Tryd.underlying5 Tryd.underlying9 (tV ap sz (Below.refl _ _) rfl)
    · exact fun A W sz ot hbel ap dp => kMoveV _ _ rfl rfl (tO ot 1) (tV ap sz (Below.refl _ _) rfl)
    · intro A W sz ot hbel ap dp
      exact kIndexAddrV _ _ _ _ .i64 u vs2 2 2 x2 rfl rfl (by exact tD dp 8 .data) ((hV2.below hB3).below hbel) rfl Tryd.underlying57 info_bytesS rfl hx2 (fun b hb => tV ap sz (Below.refl _ _) ⟨b, rfl, hb⟩)
    · intro A W sz ot hbel ap dp
      obtain ⟨b, e, hb⟩ := tD dp 9 .data
      exact kLoadCell _ _ b x2 _ rfl rfl e hb Tryd.underlying22 rfl (tV ap sz (Below.refl _ _) rfl)
    · exact fun A W sz ot hbel ap dp => kToString _ _ _ _ x2 L2 rfl rfl (tD dp 10 .data) ((hX2.below hB3).below hbel) Tryd.underlying22 Tryd.underlying5 Tryd.underlying9 (tV ap sz (Below.refl _ _) rfl)
    intro w4 hB4
    dsimp only [AllV]
    rintro u1 hu1 u5 hu5 u9 hu9 hap
    dsimp only [putAll, List.take, List.drop]
    go_frame
    clear hap
    have hR4d := hR4c.below hB4 hR4c.lt
    have hR5c := hR5b.below hB4 hR5b.lt
    have hB5 := hB3.trans (hB4.mono hB3.size)
    clear hR4c hR5b hB3 hB4
    go_wp2_with (first
      | ((with_reducible change wpList _ _ _ (Oper.mk (some 31) _ _ _ _ _ :: _) _ _); refine kDeed1 _ _ rfl rfl rfl ?_; go_frame)
      | ((with_reducible change wpList _ _ _ (Oper.mk none _ _ _ _ _ :: _) _ _); refine kStoreN1 _ _ _ _ L0 hR5c rfl rfl rfl rfl ?_; intro z0 hS0 hW0; have hT0 := hW0.row hR4d (Nat.ne_of_lt hz1); have hC0 := hB5.trans (hW0.below (Nat.le_of_lt hz1)); clear hR5c hR4d hB5 hW0; go_frame)
      | ((with_reducible change wpList _ _ _ (Oper.mk (some 32) _ _ _ _ _ :: _) _ _); refine kDeed3 _ _ rfl rfl rfl ?_; go_frame)
      | ((with_reducible change wpList _ _ _ (Oper.mk none _ _ _ _ _ :: _) _ _); refine kStoreN3 _ _ _ _ L1 hS0 rfl rfl rfl rfl ?_; intro z1 hS1 hW1; have hT1 := hW1.row hT0 (Nat.ne_of_lt hz1); have hC1 := hC0.trans (hW1.below (Nat.le_of_lt hz1)); clear hS0 hT0 hC0 hW1; go_frame)
      | ((with_reducible change wpList _ _ _ (Oper.mk (some 33) _ _ _ _ _ :: _) _ _); refine kDeed2 _ _ rfl rfl rfl ?_; go_frame)
      | ((with_reducible change wpList _ _ _ (Oper.mk none _ _ _ _ _ :: _) _ _); refine kStoreN2 _ _ _ _ L2 hS1 rfl rfl rfl rfl ?_; intro z2 hS2 hW2; have hT2 := hW2.row hT1 (Nat.ne_of_lt hz1); have hC2 := hC1.trans (hW2.below (Nat.le_of_lt hz1)); clear hS1 hT1 hC1 hW2; go_frame)
      | ((with_reducible change wpList _ _ _ (Oper.mk (some 46) _ _ _ _ _ :: _) _ _); refine kLoadD _ _ _ hS2 rfl rfl rfl ?_; go_frame)
      | ((with_reducible change wpList _ _ _ (Oper.mk none _ _ _ _ _ :: _) _ _); refine kStoreD _ _ _ noDeed _ hT2 rfl rfl rfl rfl ?_; intro w9 hR9 hW9; have hB9 := hC2.trans (hW9.below (Nat.le_refl _)); go_frame))
    (try simp only [Exit.inBlock, Exit.then])
    exact result_row rfl rfl hR9 Tryd.underlying29 rfl (info_DeedC _) rfl ⟨rfl, hB9⟩
  · subst k3
    have hlt0 : 0 < Ls.length := by rw [hlen]; decide
    obtain ⟨vs0, x0, -, hV0, hx0, hX0⟩ := lists_at hu hlt0
    rw [← at_get hlt0] at hX0
    have hm0 := hsm _ (List.getElem_mem hlt0)
    rw [← at_get hlt0] at hm0
    have hlt1 : 1 < Ls.length := by rw [hlen]; decide
    obtain ⟨vs1, x1, -, hV1, hx1, hX1⟩ := lists_at hu hlt1
    rw [← at_get hlt1] at hX1
    have hm1 := hsm _ (List.getElem_mem hlt1)
    rw [← at_get hlt1] at hm1
    unfold deedOfL
    rw [if_neg (by decide)]; rw [if_neg (by decide)]; rw [if_pos rfl]
    obtain ⟨L0, hL0⟩ : ∃ L, Ls[0]?.getD [] = L := ⟨_, rfl⟩
    rw [hL0] at hX0 hm0
    obtain ⟨L1, hL1⟩ : ∃ L, Ls[1]?.getD [] = L := ⟨_, rfl⟩
    rw [hL1] at hX1 hm1
    rw [hL0, hL1]
    go_enter Tryd.func33, Tryd.ntmps33
    go_wp2_with (first
      | ((with_reducible change wpList _ _ _ (Oper.mk (some 4) _ _ _ _ _ :: _) _ _); refine kAllocL _ _ rfl rfl zero_Deed ?_; intro w1 hR4 hz1 hB1; go_frame)
      | ((with_reducible change wpList _ _ _ (Oper.mk (some 7) _ _ _ _ _ :: _) _ _); refine kBuildDK _ 3 rfl rfl rfl ?_; go_frame)
      | ((with_reducible change wpList _ _ _ (Oper.mk (some 5) _ _ _ _ _ :: _) _ _); refine kAllocL _ _ rfl rfl zero_Deed ?_; intro w2 hR5 hz2 hB2; clear hz2; have hR4b := hR4.below hB2 hR4.lt; go_frame)
      | ((with_reducible change wpList _ _ _ (Oper.mk none _ _ _ _ _ :: _) _ _); refine kStoreD _ _ _ noDeed _ hR5 rfl rfl rfl rfl ?_; intro w3 hR5b hW3; have hR4c := hW3.row hR4b (Nat.ne_of_lt hz1); have hB3 := (hB1.trans (hB2.mono (Nat.le_of_lt hz1))).trans (hW3.below (Nat.le_of_lt hz1)); clear hR4 hR4b hR5 hB1 hB2 hW3; go_frame))
    refine region_symT 8 _ [] [] [.val (u), .prop (fun w v => ∃ b, v = .pointer (some b) ∧ w.cell? b = some x0) (fun _ _ _ hb h => h.imp fun b h => ⟨h.1, by rw [hb.cell (block_lt_of_cell h.2)]; exact h.2⟩), .val (x0), .val (textV L0), .val (u), .prop (fun w v => ∃ b, v = .pointer (some b) ∧ w.cell? b = some x1) (fun _ _ _ hb h => h.imp fun b h => ⟨h.1, by rw [hb.cell (block_lt_of_cell h.2)]; exact h.2⟩), .val (x1), .val (textV L1)] rfl (by kernel_rfl) (by kernel_rfl) (by kernel_rfl) (by kernel_rfl) rfl (by intro s hs; cases hs) (steps_all ⟨?_, ?_, ?_, ?_, ?_, ?_, ?_, ?_, trivial⟩) ?_
    · exact fun A W sz ot hbel ap dp => kMoveV _ _ rfl rfl (tO ot 1) (tV ap sz (Below.refl _ _) rfl)
    · intro A W sz ot hbel ap dp
      exact kIndexAddrV _ _ _ _ .i64 u vs0 0 0 x0 rfl rfl (by exact tD dp 0 .data) ((hV0.below hB3).below hbel) rfl Tryd.underlying57 info_bytesS rfl hx0 (fun b hb => tV ap sz (Below.refl _ _) ⟨b, rfl, hb⟩)
    · intro A W sz ot hbel ap dp
      obtain ⟨b, e, hb⟩ := tD dp 1 .data
      exact kLoadCell _ _ b x0 _ rfl rfl e hb Tryd.underlying22 rfl (tV ap sz (Below.refl _ _) rfl)
    · exact fun A W sz ot hbel ap dp => kToString _ _ _ _ x0 L0 rfl rfl (tD dp 2 .data) ((hX0.below hB3).below hbel) Tryd.underlying22 Tryd.underlying5 Tryd.underlying9 (tV ap sz (Below.refl _ _) rfl)
    · exact fun A W sz ot hbel ap dp => kMoveV _ _ rfl rfl (tO ot 1) (tV ap sz (Below.refl _ _) rfl)
    · intro A W sz ot hbel ap dp
      exact kIndexAddrV _ _ _ _ .i64 u vs1 1 1 x1 rfl rfl (by exact tD dp 4 .data) ((hV1.below hB3).below hbel) rfl Tryd.underlying57 info_bytesS rfl hx1 (fun b hb => tV ap sz (Below.refl _ _) ⟨b, rfl, hb⟩)
    · intro A W sz ot hbel ap dp
      obtain ⟨b, e, hb⟩ := tD dp 5 .data
      exact kLoadCell _ _ b x1 _ rfl rfl e hb Tryd.underlying22 rfl (tV ap sz (Below.refl _ _) rfl)
    · exact fun A W sz ot hbel ap dp => kToString _ _ _ _ x1 L1 rfl rfl (tD dp 6 .data) ((hX1.below hB3).below hbel) Tryd.underlying22 Tryd.underlying5 Tryd.underlying9 (tV ap sz (Below.refl _ _) rfl)
    intro w4 hB4
    dsimp only [AllV]
    rintro u1 hu1 u5 hu5 hap
    dsimp only [putAll, List.take, List.drop]
    go_frame
    clear hap
    have hR4d := hR4c.below hB4 hR4c.lt
    have hR5c := hR5b.below hB4 hR5b.lt
    have hB5 := hB3.trans (hB4.mono hB3.size)
    clear hR4c hR5b hB3 hB4
    go_wp2_with (first
      | ((with_reducible change wpList _ _ _ (Oper.mk (some 44) _ _ _ _ _ :: _) _ _); refine kDeed1 _ _ rfl rfl rfl ?_; go_frame)
      | ((with_reducible change wpList _ _ _ (Oper.mk none _ _ _ _ _ :: _) _ _); refine kStoreN1 _ _ _ _ L0 hR5c rfl rfl rfl rfl ?_; intro z0 hS0 hW0; have hT0 := hW0.row hR4d (Nat.ne_of_lt hz1); have hC0 := hB5.trans (hW0.below (Nat.le_of_lt hz1)); clear hR5c hR4d hB5 hW0; go_frame)
      | ((with_reducible change wpList _ _ _ (Oper.mk (some 45) _ _ _ _ _ :: _) _ _); refine kDeed2 _ _ rfl rfl rfl ?_; go_frame)
      | ((with_reducible change wpList _ _ _ (Oper.mk none _ _ _ _ _ :: _) _ _); refine kStoreN2 _ _ _ _ L1 hS0 rfl rfl rfl rfl ?_; intro z1 hS1 hW1; have hT1 := hW1.row hT0 (Nat.ne_of_lt hz1); have hC1 := hC0.trans (hW1.below (Nat.le_of_lt hz1)); clear hS0 hT0 hC0 hW1; go_frame)
      | ((with_reducible change wpList _ _ _ (Oper.mk (some 46) _ _ _ _ _ :: _) _ _); refine kLoadD _ _ _ hS1 rfl rfl rfl ?_; go_frame)
      | ((with_reducible change wpList _ _ _ (Oper.mk none _ _ _ _ _ :: _) _ _); refine kStoreD _ _ _ noDeed _ hT1 rfl rfl rfl rfl ?_; intro w9 hR9 hW9; have hB9 := hC1.trans (hW9.below (Nat.le_refl _)); go_frame))
    (try simp only [Exit.inBlock, Exit.then])
    exact result_row rfl rfl hR9 Tryd.underlying29 rfl (info_DeedC _) rfl ⟨rfl, hB9⟩
end Go.Proofs.YtnaclalbeocpkaaDoor

/-
  Layer 8: the walks of the program's read and Split.
-/
namespace Go.Proofs.YtnaclalbeocpkaaDoor
open Go Go.RowKit

def readS (l : List UInt8) : Deed × Bool := if kindL l = 0 then (noDeed, true) else match piecesS (cntN (kindL l)) (l.drop 1) with
  | none => (noDeed, false)
  | some Ls => (deedOfL (kindL l) Ls, true)
theorem next_len8 {b : List UInt8} {c : UInt8} {d : List UInt8} {u : Nat} (h : nextS b = some (c, d, u)) : d.length ≤ b.length := by
  rw [next_split] at h
  cases hs : splitS b with
  | none => rw [hs] at h; cases h
  | some p =>
    obtain ⟨hd, x⟩ := p
    rw [hs] at h
    obtain ⟨h1, h2, h3⟩ := split_head hs
    simp only [Option.map_some, Option.some.injEq, Prod.mk.injEq] at h
    obtain ⟨-, rfl, -⟩ := h
    split
    · simp; omega
    · exact h3
theorem pieces_len : ∀ (n : Nat) (b : List UInt8) (Ls : List (List UInt8)), piecesS n b = some Ls → Ls.length = n ∧ ∀ L ∈ Ls, L.length ≤ b.length
  | 0, b, Ls, h => by simp [piecesS] at h; subst h; exact ⟨rfl, by simp⟩
  | n + 1, b, Ls, h => by
    simp only [piecesS] at h
    cases hn : nextS b with
    | none => rw [hn] at h; cases h
    | some p =>
      obtain ⟨c, d, u⟩ := p
      rw [hn] at h
      cases hp : piecesS n (b.drop u) with
      | none => simp [hp] at h
      | some Ms =>
        simp [hp] at h
        subst h
        obtain ⟨h1, h2⟩ := pieces_len n _ Ms hp
        refine ⟨by simp [h1], fun L hL => ?_⟩
        rcases List.mem_cons.1 hL with rfl | hL
        · exact next_len8 hn
        · have := h2 L hL; simp at this; omega
theorem kindL_lt (l : List UInt8) : kindL l < 4 := by unfold kindL; split <;> (try split) <;> (try split) <;> (try split) <;> omega
theorem deedOfL_is (k : Nat) (Ls : List (List UInt8)) : (deedOfL k Ls).Is := by
  unfold deedOfL
  split
  · exact put20_len _
  · split
    · rfl
    · split <;> rfl
theorem readS_is (l : List UInt8) : (readS l).1.Is := by
  unfold readS
  split
  · rfl
  · cases piecesS (cntN (kindL l)) (l.drop 1) with
    | none => rfl
    | some Ls => exact deedOfL_is _ _
set_option maxRecDepth 100000 in
set_option maxHeartbeats 8000000 in
theorem lbRead_any {l : List UInt8} {v : Value} (w : World) (hG : Counts w) (hv : IsVals w v (l.map VB)) (hl : l.length ≤ 1000000) : Calls Tryd.prog 23 #[v] w fun e w' => e = .returned (.tuple #[deedV (readS l).1, .bool (readS l).2]) ∧ Below w.heap.size w w' := by
  have e1 := fun w (h : IsVals w v (l.map VB)) => lbKindOf_any w h
  obtain ⟨K, hK⟩ : ∃ K, kindL l = K := ⟨_, rfl⟩
  have hK4 : K < 4 := by rw [← hK]; exact kindL_lt l
  unfold readS
  rw [hK] at e1 ⊢
  by_cases k0 : K = 0
  · have hk0 : decide ((K : Int) = 0) = true := by simp [k0]
    rw [if_pos k0]
    go_enter Tryd.func23, Tryd.ntmps23
    go_wp2_with (first
      | ((with_reducible change wpList _ _ _ (Oper.mk (some 2) _ _ _ _ _ :: _) _ _); refine kAllocL _ _ rfl rfl zero_Deed ?_; intro w1 hR hz1 hB; have hv1 := hv.below hB; go_frame)
      | (go_at_call 16; refine (e1 _ hv1).mono ?_; rintro e w2 ⟨rfl, rfl⟩; go_frame)
      | ((with_reducible change wpList _ _ _ (Oper.mk (some 10) _ _ _ _ _ :: _) _ _); refine kEqlI _ _ _ _ .i64 (K : Int) 0 true rfl rfl rfl rfl hk0 ?_; go_frame)
      | ((with_reducible change wpList _ _ _ (Oper.mk (some 11) _ _ _ _ _ :: _) _ _); refine kBuildD0 rfl rfl ?_; go_frame)
      | ((with_reducible change wpList _ _ _ (Oper.mk none _ _ _ _ _ :: _) _ _); refine kStoreD _ _ _ noDeed _ hR rfl rfl rfl rfl ?_; intro w9 hR9 hW9; have hB9 := hB.trans (hW9.below (Nat.le_refl _)); go_frame))
    (try simp only [Exit.inBlock, Exit.then])
    exact result_row_tmp rfl rfl rfl hR9 Tryd.underlying29 rfl (info_DeedC _) rfl ⟨rfl, hB9⟩
  have hk0 : decide ((K : Int) = 0) = false := by simp; omega
  rw [if_neg k0]
  have h1 : 1 ≤ l.length := by
    cases l with
    | nil => exact absurd hK.symm k0
    | cons c r => simp
  obtain ⟨c, hc⟩ : ∃ c, cntN K = c := ⟨_, rfl⟩
  have hc3 : c ≤ 3 := by rw [← hc]; exact cntN_le K
  have hK3 : K = 1 ∨ K = 2 ∨ K = 3 := by omega
  have hG1 : ∀ w' : World, Below w.heap.size w w' → ∀ j, j < 4 → w'.cell? ⟨0, j, none⟩ = some (.int .i64 (cntN j : Int)) := fun w' h => hG.below h
  have hp := fun Ls => pieces_len c (l.drop 1) Ls
  have e2 := fun w x (h : IsVals w x ((l.drop 1).map VB)) => lbPieces_any (n := c) (by omega) w h (by simp; omega)
  have e3 := fun (Ls : List (List UInt8)) (u : Value) w (h : AreLists w u Ls) h1 h2 => lbDeedOf_any hK3 w h h1 h2
  rw [hc] at e3
  rw [hc]
  obtain ⟨P, hP⟩ : ∃ P, piecesS c (l.drop 1) = P := ⟨_, rfl⟩
  rw [hP] at e2 hp ⊢
  clear hP
  go_enter Tryd.func23, Tryd.ntmps23
  go_wp2_with (first
    | ((with_reducible change wpList _ _ _ (Oper.mk (some 2) _ _ _ _ _ :: _) _ _); refine kAllocL _ _ rfl rfl zero_Deed ?_; intro w1 hR hz1 hB; have hv1 := hv.below hB; go_frame)
    | (go_at_call 16; refine (e1 _ hv1).mono ?_; rintro e w2 ⟨rfl, rfl⟩; go_frame)
    | ((with_reducible change wpList _ _ _ (Oper.mk (some 10) _ _ _ _ _ :: _) _ _); refine kEqlI _ _ _ _ .i64 (K : Int) 0 false rfl rfl rfl rfl hk0 ?_; go_frame))
  have hvd : IsVals w2 (fromV v 1) ((l.drop 1).map VB) := by
    have := isVals_from hv1 (n := 1) (by simpa using h1)
    rwa [← List.map_drop] at this
  refine region_symT 10 _ [] [] [.val (v), .val (fromV v 1), .val (.int .i64 (K : Int)), .val (.pointer (some ⟨0, K, none⟩)), .val (.int .i64 (c : Int)), .prop (fun w v => ∃ t, v = .tuple #[t, .bool P.isSome] ∧ AreLists w t (P.getD [])) (fun _ _ _ hb h => h.imp fun _ h => ⟨h.1, h.2.below hb⟩), .prop (fun w v => ∃ t, v = .tuple #[t, .bool P.isSome] ∧ AreLists w t (P.getD [])) (fun _ _ _ hb h => h.imp fun _ h => ⟨h.1, h.2.below hb⟩), .prop (fun w v => AreLists w v (P.getD [])) (fun _ _ _ hb h => h.below hb), .val (.bool P.isSome), .prop (fun w v => AreLists w v (P.getD [])) (fun _ _ _ hb h => h.below hb)] rfl (by kernel_rfl) (by kernel_rfl) (by kernel_rfl) (by kernel_rfl) rfl (by intro s hs; cases hs) (steps_all ⟨?_, ?_, ?_, ?_, ?_, ?_, ?_, ?_, ?_, ?_, trivial⟩) ?_
  · exact fun A W sz ot hbel ap dp => kMoveV _ _ rfl rfl (tO ot 0) (tV ap sz (Below.refl _ _) rfl)
  · exact fun A W sz ot hbel ap dp => kSliceFromB _ _ v l 1 (hv1.below hbel) h1 rfl rfl (tD dp 0 .data) rfl (fun _ => (tV ap sz (Below.refl _ _) rfl))
  · exact fun A W sz ot hbel ap dp => kMoveV _ _ rfl rfl (tO ot 4) (tV ap sz (Below.refl _ _) rfl)
  · exact fun A W sz ot hbel ap dp => kIndexAddr1 _ _ _ _ .i64 _ (K : Int) K 4 rfl rfl rfl (tD dp 2 .data) Tryd.underlying64 info_int8L rfl hK4 (tV ap sz (Below.refl _ _) rfl)
  · exact fun A W sz ot hbel ap dp => kLoadCell _ _ _ (.int .i64 (c : Int)) _ rfl rfl (tD dp 3 .data) (by rw [← hc]; exact hG1 _ (hB.trans (hbel.mono hB.size)) K hK4) Tryd.underlying3 rfl (tV ap sz (Below.refl _ _) rfl)
  · exact fun A W sz ot hbel ap dp => kCall2 32 _ _ _ _ _ rfl rfl (by kernel_rfl) (tD dp 1 .data) (tD dp 4 .data) ((e2 _ _ (hvd.below hbel)).mono (fun e W1 ⟨t, he, hA, hB'⟩ => ⟨_, he, tV ap sz hB' ⟨t, rfl, hA⟩⟩))
  · intro A W sz ot hbel ap dp
    obtain ⟨t, e, hA⟩ := tD dp 5 .data
    exact kMoveV _ _ rfl rfl e (tV ap sz (Below.refl _ _) ⟨t, rfl, hA⟩)
  · intro A W sz ot hbel ap dp
    obtain ⟨t, e, hA⟩ := tD dp 6 .data
    exact kExtract _ 0 _ t rfl rfl e rfl (tV ap sz (Below.refl _ _) hA)
  · intro A W sz ot hbel ap dp
    obtain ⟨t, e, hA⟩ := tD dp 6 .data
    exact kExtract _ 1 _ (.bool P.isSome) rfl rfl e rfl (tV ap sz (Below.refl _ _) rfl)
  · exact fun A W sz ot hbel ap dp => kAssignV _ _ rfl rfl rfl (tV ap sz (Below.refl _ _) (tD dp 7 .data))
  intro w4 hB4
  dsimp only [AllV]
  rintro u5 hu5 u6 hu6 u7 hu7 u9 hu9 hap
  dsimp only [putAll, List.take, List.drop]
  go_frame
  clear hap
  clear hu5 hu6 hu7
  have hR4 := hR.below hB4 hR.lt
  have hB5 := hB.trans (hB4.mono hB.size)
  clear hR hB hB4 hvd hv1 hz1
  cases P with
  | none =>
    dsimp only [Option.isSome]
    go_wp2_with (first
      | ((with_reducible change wpList _ _ _ (Oper.mk (some 23) _ _ _ _ _ :: _) _ _); refine kBuildD0 rfl rfl ?_; go_frame)
      | ((with_reducible change wpList _ _ _ (Oper.mk none _ _ _ _ _ :: _) _ _); refine kStoreD _ _ _ noDeed _ hR4 rfl rfl rfl rfl ?_; intro w9 hR9 hW9; have hB9 := hB5.trans (hW9.below (Nat.le_refl _)); go_frame))
    (try simp only [Exit.inBlock, Exit.then])
    exact result_row_tmp rfl rfl rfl hR9 Tryd.underlying29 rfl (info_DeedC _) rfl ⟨rfl, hB9⟩
  | some Ls =>
    obtain ⟨hp1, hp2⟩ := hp Ls rfl
    have hp3 : ∀ L ∈ Ls, L.length ≤ 1000000 := fun L hL => by have := hp2 L hL; simp at this; omega
    dsimp only [Option.isSome, Option.getD] at hu9 ⊢
    go_wp2_with (first
      | (go_at_call 33; refine (e3 Ls _ _ hu9 hp1 hp3).mono ?_; rintro e w6 ⟨rfl, hB6⟩; have hR6 := hR4.below hB6 hR4.lt; have hB7 := hB5.trans (hB6.mono hB5.size); clear hR4 hB5 hB6; go_frame)
      | ((with_reducible change wpList _ _ _ (Oper.mk none _ _ _ _ _ :: _) _ _); refine kStoreD _ _ _ noDeed _ hR6 rfl rfl rfl rfl ?_; intro w9 hR9 hW9; have hB9 := hB7.trans (hW9.below (Nat.le_refl _)); go_frame))
    (try simp only [Exit.inBlock, Exit.then])
    exact result_row_tmp rfl rfl rfl hR9 Tryd.underlying29 rfl (info_DeedC _) rfl ⟨rfl, hB9⟩
end Go.Proofs.YtnaclalbeocpkaaDoor

/-
  Layer 8: the walk of the program's Split.
-/
namespace Go.Proofs.YtnaclalbeocpkaaDoor
open Go Go.RowKit

def splitS8 (l : List UInt8) : Option (Deed × List UInt8) := if (readS l).2 = true ∧ rightB (readS l).1 = true ∧ hasP l (wordsL (readS l).1) = true then some ((readS l).1, l.drop (wordsL (readS l).1).length) else none
def dOf (r : Option (Deed × List UInt8)) : Deed := match r with
  | none => noDeed
  | some p => p.1
def rOf8 (r : Option (Deed × List UInt8)) : List UInt8 := match r with
  | none => []
  | some p => p.2
def eOf (r : Option (Deed × List UInt8)) : Int := match r with
  | none => 81
  | some _ => 0
def SplitPost8 (w : World) (r : Option (Deed × List UInt8)) (e : Ending) (w' : World) : Prop := ∃ v, e = .returned (.tuple #[deedV (dOf r), v, .int .i64 (eOf r)]) ∧ OwnB w' w.heap.size v (rOf8 r) ∧ Below w.heap.size w w'
theorem result_row_tmp2 {P : Program} {a : Act} {w : World} {fn : Func} {R : Ending → World → Prop} {p u x : Tmp} {T U : TypeId} {d : TypeDesc} {g : Nat} {cs : Array Value} {v y : Value} (h : fn.results = #[.cell p T, .tmp u, .tmp x])
    (hp : a.tmps.getD p undef = .pointer (some ⟨g, 0, none⟩)) (hv : a.tmps.getD u undef = v) (hy : a.tmps.getD x undef = y) (hr : Row w g U cs) (hu : P.underlying T = some d) (hd : aggDesc d = true)
    (hi : (P.info? T).map (·.size) = some cs.size) (hdf : a.defers = []) (hR : R (.returned (.tuple #[.agg cs, v, y])) w) : bodyPost P fn R .ret a w := by
  refine bodyPost_ret (v := .tuple #[.agg cs, v, y]) ?_ hdf hR
  have hp' : a.tmps[p]?.getD undef = .pointer (some ⟨g, 0, none⟩) := by simpa using hp
  have hv' : a.tmps[u]?.getD undef = v := by simpa using hv
  have hy' : a.tmps[x]?.getD undef = y := by simpa using hy
  simp [results, h, hp', hv', hy', asAddr, run_loadVar_row w g U T cs _ d hr hu (by cases d <;> first | rfl | cases hd) hi]
theorem own_keepW {w w' : World} {g b : Nat} {v : Value} {l : List UInt8} {cs : Array Value} (h : OwnB w b v l) (hW : Wrote g w w') (hR : Row w g 29 cs) : OwnB w' b v l := (kp_wrote hR hW).own h (by decide)
set_option maxRecDepth 100000 in
set_option maxHeartbeats 8000000 in
theorem lbSplit_any {l : List UInt8} {v : Value} (w : World) (hG : Counts w) (hv : IsVals w v (l.map VB)) (hl : l.length ≤ 1000000) : Calls Tryd.prog 14 #[v] w (SplitPost8 w (splitS8 l)) := by
  have e0 := fun w (h : Counts w) (h1 : IsVals w v (l.map VB)) => lbRead_any w h h1 hl
  have hi := readS_is l
  unfold splitS8
  obtain ⟨D, hD⟩ : ∃ D, (readS l).1 = D := ⟨_, rfl⟩
  obtain ⟨ok, hok⟩ : ∃ ok, (readS l).2 = ok := ⟨_, rfl⟩
  rw [hD] at e0 hi ⊢
  rw [hok] at e0 ⊢
  clear hD hok
  cases ok
  · rw [if_neg (by simp)]
    go_enter Tryd.func14, Tryd.ntmps14
    go_wp2_with (first
      | ((with_reducible change wpList _ _ _ (Oper.mk (some 2) _ _ _ _ _ :: _) _ _); refine kAllocL _ _ rfl rfl zero_Deed ?_; intro w1 hR hz1 hB; have hv1 := hv.below hB; have hG1 := hG.below hB; go_frame)
      | (go_at_call 23; refine (e0 _ hG1 hv1).mono ?_; rintro e w2 ⟨rfl, hB2⟩; have hR2 := hR.below hB2 hR.lt; have hz2 := Nat.lt_of_lt_of_le hz1 hB2.size; have hB3 := hB.trans (hB2.mono hB.size); clear hR hB hB2 hv1 hG1 hz1; go_frame)
      | ((with_reducible change wpList _ _ _ (Oper.mk (some 5) _ _ _ _ _ :: _) _ _); refine kAllocL _ _ rfl rfl zero_Deed ?_; intro w3 hR5 hz5 hB5; clear hz5; have hR3 := hR2.below hB5 hR2.lt; have hB6 := hB3.trans (hB5.mono hB3.size); clear hR2 hB5; go_frame)
      | ((with_reducible change wpList _ _ _ (Oper.mk none (Op.store _ (Operand.tmp 5) (Operand.tmp 11)) _ _ _ _ :: _) _ _); refine kStoreD _ _ _ noDeed _ hR5 rfl rfl rfl rfl ?_; intro w4 hS hW; have hR4 := hW.row hR3 (Nat.ne_of_lt hz2); have hB7 := hB6.trans (hW.below (Nat.le_of_lt hz2)); have hv4 := hv.below hB7; have hG4 := hG.below hB7; clear hR5 hR3 hB6 hW hB3; go_frame)
      | ((with_reducible change wpList _ _ _ (Oper.mk (some 20) _ _ _ _ _ :: _) _ _); refine kBuildD0 rfl rfl ?_; go_frame)
      | ((with_reducible change wpList _ _ _ (Oper.mk none (Op.store _ (Operand.tmp 2) (Operand.tmp 20)) _ _ _ _ :: _) _ _); refine kStoreD _ _ _ noDeed _ hR4 rfl rfl rfl rfl ?_; intro w9 hR9 hW9; have hBB := hB7.trans (hW9.below (Nat.le_refl _)); go_frame))
    (try simp only [Exit.inBlock, Exit.then])
    exact result_row_tmp2 rfl rfl rfl rfl hR9 Tryd.underlying29 rfl (info_DeedC _) rfl ⟨_, rfl, ownB_nil _ _, hBB⟩
  have e1 := fun w => lbRight_any hi w
  obtain ⟨b, hb⟩ : ∃ b, rightB D = b := ⟨_, rfl⟩
  rw [hb] at e1 ⊢
  cases b
  · rw [if_neg (by simp)]
    go_enter Tryd.func14, Tryd.ntmps14
    go_wp2_with (first
      | ((with_reducible change wpList _ _ _ (Oper.mk (some 2) _ _ _ _ _ :: _) _ _); refine kAllocL _ _ rfl rfl zero_Deed ?_; intro w1 hR hz1 hB; have hv1 := hv.below hB; have hG1 := hG.below hB; go_frame)
      | (go_at_call 23; refine (e0 _ hG1 hv1).mono ?_; rintro e w2 ⟨rfl, hB2⟩; have hR2 := hR.below hB2 hR.lt; have hz2 := Nat.lt_of_lt_of_le hz1 hB2.size; have hB3 := hB.trans (hB2.mono hB.size); clear hR hB hB2 hv1 hG1 hz1; go_frame)
      | ((with_reducible change wpList _ _ _ (Oper.mk (some 5) _ _ _ _ _ :: _) _ _); refine kAllocL _ _ rfl rfl zero_Deed ?_; intro w3 hR5 hz5 hB5; clear hz5; have hR3 := hR2.below hB5 hR2.lt; have hB6 := hB3.trans (hB5.mono hB3.size); clear hR2 hB5; go_frame)
      | ((with_reducible change wpList _ _ _ (Oper.mk none (Op.store _ (Operand.tmp 5) (Operand.tmp 11)) _ _ _ _ :: _) _ _); refine kStoreD _ _ _ noDeed _ hR5 rfl rfl rfl rfl ?_; intro w4 hS hW; have hR4 := hW.row hR3 (Nat.ne_of_lt hz2); have hB7 := hB6.trans (hW.below (Nat.le_of_lt hz2)); have hv4 := hv.below hB7; have hG4 := hG.below hB7; clear hR5 hR3 hB6 hW hB3; go_frame)
      | ((with_reducible change wpList _ _ _ (Oper.mk (some 16) _ _ _ _ _ :: _) _ _); refine kLoadD _ _ _ hS rfl rfl rfl ?_; go_frame)
      | (go_at_call 9; refine (e1 _).mono ?_; rintro e w5 ⟨rfl, hB8⟩; have hR6 := hR4.below hB8 hR4.lt; have hS6 := hS.below hB8 hS.lt; have hB9 := hB7.trans (hB8.mono hB7.size); have hv6 := hv4.below hB8; have hG6 := hG4.below hB8; clear hR4 hS hB7 hB8 hv4 hG4; go_frame)
      | ((with_reducible change wpList _ _ _ (Oper.mk (some 20) _ _ _ _ _ :: _) _ _); refine kBuildD0 rfl rfl ?_; go_frame)
      | ((with_reducible change wpList _ _ _ (Oper.mk none (Op.store _ (Operand.tmp 2) (Operand.tmp 20)) _ _ _ _ :: _) _ _); refine kStoreD _ _ _ noDeed _ hR6 rfl rfl rfl rfl ?_; intro w9 hR9 hW9; have hBB := hB9.trans (hW9.below (Nat.le_refl _)); go_frame))
    (try simp only [Exit.inBlock, Exit.then])
    exact result_row_tmp2 rfl rfl rfl rfl hR9 Tryd.underlying29 rfl (info_DeedC _) rfl ⟨_, rfl, ownB_nil _ _, hBB⟩
  have hf := right_fits hb
  have e2 := fun w u (h1 : IsVals w v (l.map VB)) (h2 : IsVals w u ((wordsL D).map VB)) => bCut_any w h1 h2
  obtain ⟨p, hp⟩ : ∃ p, hasP l (wordsL D) = p := ⟨_, rfl⟩
  rw [hp] at e2 ⊢
  cases p
  · rw [if_neg (by simp)]
    go_enter Tryd.func14, Tryd.ntmps14
    go_wp2_with (first
      | ((with_reducible change wpList _ _ _ (Oper.mk (some 2) _ _ _ _ _ :: _) _ _); refine kAllocL _ _ rfl rfl zero_Deed ?_; intro w1 hR hz1 hB; have hv1 := hv.below hB; have hG1 := hG.below hB; go_frame)
      | (go_at_call 23; refine (e0 _ hG1 hv1).mono ?_; rintro e w2 ⟨rfl, hB2⟩; have hR2 := hR.below hB2 hR.lt; have hz2 := Nat.lt_of_lt_of_le hz1 hB2.size; have hB3 := hB.trans (hB2.mono hB.size); clear hR hB hB2 hv1 hG1 hz1; go_frame)
      | ((with_reducible change wpList _ _ _ (Oper.mk (some 5) _ _ _ _ _ :: _) _ _); refine kAllocL _ _ rfl rfl zero_Deed ?_; intro w3 hR5 hz5 hB5; clear hz5; have hR3 := hR2.below hB5 hR2.lt; have hB6 := hB3.trans (hB5.mono hB3.size); clear hR2 hB5; go_frame)
      | ((with_reducible change wpList _ _ _ (Oper.mk none (Op.store _ (Operand.tmp 5) (Operand.tmp 11)) _ _ _ _ :: _) _ _); refine kStoreD _ _ _ noDeed _ hR5 rfl rfl rfl rfl ?_; intro w4 hS hW; have hR4 := hW.row hR3 (Nat.ne_of_lt hz2); have hB7 := hB6.trans (hW.below (Nat.le_of_lt hz2)); have hv4 := hv.below hB7; have hG4 := hG.below hB7; clear hR5 hR3 hB6 hW hB3; go_frame)
      | ((with_reducible change wpList _ _ _ (Oper.mk (some 16) _ _ _ _ _ :: _) _ _); refine kLoadD _ _ _ hS rfl rfl rfl ?_; go_frame)
      | (go_at_call 9; refine (e1 _).mono ?_; rintro e w5 ⟨rfl, hB8⟩; have hR6 := hR4.below hB8 hR4.lt; have hS6 := hS.below hB8 hS.lt; have hB9 := hB7.trans (hB8.mono hB7.size); have hv6 := hv4.below hB8; have hG6 := hG4.below hB8; clear hR4 hS hB7 hB8 hv4 hG4; go_frame)
      | ((with_reducible change wpList _ _ _ (Oper.mk (some 23) _ _ _ _ _ :: _) _ _); refine kLoadD _ _ _ hS6 rfl rfl rfl ?_; go_frame)
      | (go_at_call 17; refine (lbWords_any hi hf _ hG6).mono ?_; rintro e w7 ⟨v7, rfl, hO7, hB10⟩; have hR8 := hR6.below hB10 hR6.lt; have hS8 := hS6.below hB10 hS6.lt; have hB11 := hB9.trans (hB10.mono hB9.size); have hv8 := hv6.below hB10; clear hR6 hS6 hB9 hB10 hv6 hG6; go_frame)
      | (go_at_call 24; refine (e2 _ _ hv8 hO7.vals).mono ?_; rintro e w8 ⟨v8, rfl, hX8, rfl⟩; clear hv8 hO7; go_frame)
      | ((with_reducible change wpList _ _ _ (Oper.mk (some 30) _ _ _ _ _ :: _) _ _); refine kBuildD0 rfl rfl ?_; go_frame)
      | ((with_reducible change wpList _ _ _ (Oper.mk none (Op.store _ (Operand.tmp 2) (Operand.tmp 30)) _ _ _ _ :: _) _ _); refine kStoreD _ _ _ noDeed _ hR8 rfl rfl rfl rfl ?_; intro w9 hR9 hW9; have hBB := hB11.trans (hW9.below (Nat.le_refl _)); go_frame))
    (try simp only [Exit.inBlock, Exit.then])
    exact result_row_tmp2 rfl rfl rfl rfl hR9 Tryd.underlying29 rfl (info_DeedC _) rfl ⟨_, rfl, ownB_nil _ _, hBB⟩
  rw [if_pos ⟨rfl, rfl, rfl⟩]
  rw [if_pos rfl] at e2
  obtain ⟨T, hTe⟩ : ∃ T, l.drop (wordsL D).length = T := ⟨_, rfl⟩
  have hT : T.length ≤ 1000000 := by rw [← hTe]; simp; omega
  rw [hTe] at e2 ⊢
  go_enter Tryd.func14, Tryd.ntmps14
  go_wp2_with (first
    | ((with_reducible change wpList _ _ _ (Oper.mk (some 2) _ _ _ _ _ :: _) _ _); refine kAllocL _ _ rfl rfl zero_Deed ?_; intro w1 hR hz1 hB; have hv1 := hv.below hB; have hG1 := hG.below hB; go_frame)
    | (go_at_call 23; refine (e0 _ hG1 hv1).mono ?_; rintro e w2 ⟨rfl, hB2⟩; have hR2 := hR.below hB2 hR.lt; have hz2 := Nat.lt_of_lt_of_le hz1 hB2.size; have hB3 := hB.trans (hB2.mono hB.size); clear hR hB hB2 hv1 hG1 hz1; go_frame)
    | ((with_reducible change wpList _ _ _ (Oper.mk (some 5) _ _ _ _ _ :: _) _ _); refine kAllocL _ _ rfl rfl zero_Deed ?_; intro w3 hR5 hz5 hB5; clear hz5; have hR3 := hR2.below hB5 hR2.lt; have hB6 := hB3.trans (hB5.mono hB3.size); clear hR2 hB5; go_frame)
    | ((with_reducible change wpList _ _ _ (Oper.mk none (Op.store _ (Operand.tmp 5) (Operand.tmp 11)) _ _ _ _ :: _) _ _); refine kStoreD _ _ _ noDeed _ hR5 rfl rfl rfl rfl ?_; intro w4 hS hW; have hR4 := hW.row hR3 (Nat.ne_of_lt hz2); have hB7 := hB6.trans (hW.below (Nat.le_of_lt hz2)); have hv4 := hv.below hB7; have hG4 := hG.below hB7; clear hR5 hR3 hB6 hW hB3; go_frame)
    | ((with_reducible change wpList _ _ _ (Oper.mk (some 16) _ _ _ _ _ :: _) _ _); refine kLoadD _ _ _ hS rfl rfl rfl ?_; go_frame)
    | (go_at_call 9; refine (e1 _).mono ?_; rintro e w5 ⟨rfl, hB8⟩; have hR6 := hR4.below hB8 hR4.lt; have hS6 := hS.below hB8 hS.lt; have hB9 := hB7.trans (hB8.mono hB7.size); have hv6 := hv4.below hB8; have hG6 := hG4.below hB8; clear hR4 hS hB7 hB8 hv4 hG4; go_frame)
    | ((with_reducible change wpList _ _ _ (Oper.mk (some 23) _ _ _ _ _ :: _) _ _); refine kLoadD _ _ _ hS6 rfl rfl rfl ?_; go_frame)
    | (go_at_call 17; refine (lbWords_any hi hf _ hG6).mono ?_; rintro e w7 ⟨v7, rfl, hO7, hB10⟩; have hR8 := hR6.below hB10 hR6.lt; have hS8 := hS6.below hB10 hS6.lt; have hB11 := hB9.trans (hB10.mono hB9.size); have hv8 := hv6.below hB10; clear hR6 hS6 hB9 hB10 hv6 hG6; go_frame)
    | (go_at_call 24; refine (e2 _ _ hv8 hO7.vals).mono ?_; rintro e w8 ⟨v8, rfl, hX8, rfl⟩; clear hv8 hO7; go_frame))
  refine region_symT 3 _ [] [] [.val (deedV D), .val (v8), .prop (fun w v => OwnB w w8.heap.size v T) (fun _ _ _ hb h => h.below hb)] rfl (by kernel_rfl) (by kernel_rfl) (by kernel_rfl) (by kernel_rfl) rfl (by intro s hs; cases hs) (steps_all ⟨?_, ?_, ?_, trivial⟩) ?_
  · exact fun A W sz ot hbel ap dp => kLoadD _ _ _ (hS8.below hbel hS8.lt) rfl rfl (tO ot 5) (tV ap sz (Below.refl _ _) rfl)
  · exact fun A W sz ot hbel ap dp => kMoveV _ _ rfl rfl (tO ot 7) (tV ap sz (Below.refl _ _) rfl)
  · exact fun A W sz ot hbel ap dp => kCall1 25 _ _ _ rfl rfl (by kernel_rfl) (tD dp 1 .data) ((bClone_any _ (hX8.below hbel) hT).mono (fun e W1 ⟨v, he, hO, hB'⟩ => ⟨v, he, tV ap sz hB' (own_less hbel.size hO)⟩))
  intro w10 hB12
  dsimp only [AllV]
  rintro u2 hu2 hap
  dsimp only [putAll, List.take, List.drop]
  go_frame
  clear hap
  have hR10 := hR8.below hB12 hR8.lt
  have hB13 := hB11.trans (hB12.mono hB11.size)
  have hO10 := own_less hB11.size hu2
  go_wp2_with (first
    | ((with_reducible change wpList _ _ _ (Oper.mk none (Op.store _ (Operand.tmp 2) (Operand.tmp 31)) _ _ _ _ :: _) _ _); refine kStoreD _ _ _ noDeed _ hR10 rfl rfl rfl rfl ?_; intro w9 hR9 hW9; have hBB := hB13.trans (hW9.below (Nat.le_refl _)); have hO9 := own_keepW hO10 hW9 hR10; go_frame))
  (try simp only [Exit.inBlock, Exit.then])
  exact result_row_tmp2 rfl rfl rfl rfl hR9 Tryd.underlying29 rfl (info_DeedC _) rfl ⟨_, rfl, hO9, hBB⟩
end Go.Proofs.YtnaclalbeocpkaaDoor
