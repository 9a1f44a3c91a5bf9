/-
  Layer 8, plain: deeds, and what a lock says of a name; deeds as cells, their fields, '==' of two.
-/
import Derived.Test.YtnaclalbeocpkaaDoorTwice
import Derived.Test.YtnaclalbeocpkaaDoorScWord2
import Derived.Test.YtnaclalbeocpkaaDoorKitSt
namespace Go.Proofs.YtnaclalbeocpkaaDoor
open Go Go.RowKit

structure Deed where
  kind : Int
  name : List UInt8
  value : List UInt8
  rand : List UInt8
  commit : List UInt8
def z20 : List UInt8 := List.replicate 20 0
def noDeed : Deed := ⟨0, [], [], [], z20⟩
def Deed.Is (d : Deed) : Prop := d.commit.length = 20
/-- can it be? -/
def rightB (d : Deed) : Bool :=
  if d.kind = 0 then decide (d.name = [] ∧ d.value = [] ∧ d.rand = [] ∧ d.commit = z20)
  else if d.kind = 1 then decide (d.name = [] ∧ d.value = [] ∧ d.rand = [])
  else if d.kind = 2 then decide (d.commit = z20 ∧ (1 ≤ d.name.length ∧ d.name.length ≤ 64) ∧ d.value.length ≤ 200 ∧ (1 ≤ d.rand.length ∧ d.rand.length ≤ 32))
  else if d.kind = 3 then decide (d.commit = z20 ∧ d.rand = [] ∧ (1 ≤ d.name.length ∧ d.name.length ≤ 64) ∧ d.value.length ≤ 200)
  else false
/-- what a lock's first byte tells -/
def kindL (l : List UInt8) : Nat := if l = [] then 0 else if at8 l 0 = 81 then 1 else if at8 l 0 = 82 then 2 else if at8 l 0 = 83 then 3 else 0
/-- the words of a deed -/
def wordsL (d : Deed) : List UInt8 :=
  if d.kind = 1 then 81 :: (pushL d.commit ++ [109])
  else if d.kind = 2 then 82 :: (pushL d.name ++ (pushL d.rand ++ (pushL d.value ++ [109, 109])))
  else if d.kind = 3 then 83 :: (pushL d.name ++ (pushL d.value ++ [109, 117]))
  else []
def lockS (d : Deed) (r : List UInt8) : Option (List UInt8) := if rightB d = false ∨ (d.kind = 0 ∧ kindL r ≠ 0) then none else some (wordsL d ++ r)
def dtab (k n v r : Value) (c : Nat → Value) : Array Value := (k :: n :: v :: r :: (List.range 20).map c).toArray
def dcells (d : Deed) : Array Value := dtab (.int .i64 d.kind) (textV d.name) (textV d.value) (textV d.rand) fun p => VB (at8 d.commit p)
def deedV (d : Deed) : Value := .agg (dcells d)
theorem dcells_0 (d : Deed) : (dcells d)[0]? = some (.int .i64 d.kind) := by simp [dcells, dtab]
theorem dcells_1 (d : Deed) : (dcells d)[1]? = some (textV d.name) := by simp [dcells, dtab]
theorem dcells_2 (d : Deed) : (dcells d)[2]? = some (textV d.value) := by simp [dcells, dtab]
theorem dcells_3 (d : Deed) : (dcells d)[3]? = some (textV d.rand) := by simp [dcells, dtab]
theorem dcells_size (d : Deed) : (dcells d).size = 24 := by simp [dcells, dtab]
theorem dcells_4 (d : Deed) : (dcells d).extract 4 (4 + 20) = tab 20 fun p => VB (at8 d.commit p) := by
  simp only [dcells, dtab, tab, List.extract_toArray, List.extract_eq_take_drop]
  rw [List.take_of_length_le (by simp)]
  rfl
theorem dcells_one (d : Deed) : ∀ v ∈ dcells d, v.oneCell' = true := by
  intro v hv
  simp only [dcells, dtab, List.mem_toArray, List.mem_cons, List.mem_map] at hv
  rcases hv with rfl | rfl | rfl | rfl | ⟨j, -, rfl⟩ <;> rfl
theorem info_Deed : (Tryd.prog.info? 29).map (·.size) = some 24 := by kernel_rfl
theorem info_DeedC (d : Deed) : (Tryd.prog.info? 29).map (·.size) = some (dcells d).size := by rw [dcells_size]; exact info_Deed
theorem zero_Deed0 : ((Tryd.prog.info? 29).bind (·.zero)).map Value.cells = some (dtab (.int .i64 0) (textV []) (textV []) (textV []) fun _ => VB 0) := by kernel_rfl
theorem at_z20 : ∀ j, j < 20 → at8 z20 j = 0 := by decide
theorem dtab_z (k n v r : Value) : (dtab k n v r fun p => VB (at8 z20 p)) = dtab k n v r fun _ => VB 0 := by
  unfold dtab
  rw [List.map_congr_left (g := fun _ => VB 0) fun j hj => by rw [at_z20 j (List.mem_range.1 hj)]]
theorem zero_Deed : ((Tryd.prog.info? 29).bind (·.zero)).map Value.cells = some (dcells noDeed) := by
  rw [zero_Deed0]; unfold dcells noDeed; rw [dtab_z]
theorem built_deed0L : Tryd.prog.built 29 [] = some (dtab (.int .i64 0) (textV []) (textV []) (textV []) fun _ => VB 0) := by kernel_rfl
theorem built_deed0 : Tryd.prog.built 29 [] = some (dcells noDeed) := by rw [built_deed0L]; unfold dcells noDeed; rw [dtab_z]
theorem built_deedKL (k : Int) : Tryd.prog.built 29 [(0, .int .i64 k)] = some (dtab (.int .i64 k) (textV []) (textV []) (textV []) fun _ => VB 0) := by kernel_rfl
theorem built_deedK (k : Int) : Tryd.prog.built 29 [(0, .int .i64 k)] = some (dcells ⟨k, [], [], [], z20⟩) := by rw [built_deedKL]; unfold dcells; rw [dtab_z]
theorem built_deed1L (k : Int) (c : Nat → Value) : Tryd.prog.built 29 [(0, .int .i64 k), (4, .agg (tab 20 c))] = some (dtab (.int .i64 k) (textV []) (textV []) (textV []) c) := by kernel_rfl
theorem built_deed1 (k : Int) (c : List UInt8) : Tryd.prog.built 29 [(0, .int .i64 k), (4, .agg (tab 20 fun p => VB (at8 c p)))] = some (dcells ⟨k, [], [], [], c⟩) := built_deed1L _ _
theorem built_deed2L (k : Int) (n r v : List UInt8) : Tryd.prog.built 29 [(0, .int .i64 k), (1, textV n), (3, textV r), (2, textV v)] = some (dtab (.int .i64 k) (textV n) (textV v) (textV r) fun _ => VB 0) := by kernel_rfl
theorem built_deed2 (k : Int) (n r v : List UInt8) : Tryd.prog.built 29 [(0, .int .i64 k), (1, textV n), (3, textV r), (2, textV v)] = some (dcells ⟨k, n, v, r, z20⟩) := by rw [built_deed2L]; unfold dcells; rw [dtab_z]
theorem built_deed3L (k : Int) (n v : List UInt8) : Tryd.prog.built 29 [(0, .int .i64 k), (1, textV n), (2, textV v)] = some (dtab (.int .i64 k) (textV n) (textV v) (textV []) fun _ => VB 0) := by kernel_rfl
theorem built_deed3 (k : Int) (n v : List UInt8) : Tryd.prog.built 29 [(0, .int .i64 k), (1, textV n), (2, textV v)] = some (dcells ⟨k, n, v, [], z20⟩) := by rw [built_deed3L]; unfold dcells; rw [dtab_z]
theorem deedF0 : ∃ f fs, Tryd.prog.underlying 29 = some (.struct fs) ∧ fs[0]? = some f ∧ f.offset = 0 ∧ (Tryd.prog.info? f.type).map (·.size) = some (0 + 1) := ⟨_, _, Tryd.underlying29, rfl, rfl, by kernel_rfl⟩
theorem deedF1 : ∃ f fs, Tryd.prog.underlying 29 = some (.struct fs) ∧ fs[1]? = some f ∧ f.offset = 1 ∧ (Tryd.prog.info? f.type).map (·.size) = some (0 + 1) := ⟨_, _, Tryd.underlying29, rfl, rfl, by kernel_rfl⟩
theorem deedF2 : ∃ f fs, Tryd.prog.underlying 29 = some (.struct fs) ∧ fs[2]? = some f ∧ f.offset = 2 ∧ (Tryd.prog.info? f.type).map (·.size) = some (0 + 1) := ⟨_, _, Tryd.underlying29, rfl, rfl, by kernel_rfl⟩
theorem deedF3 : ∃ f fs, Tryd.prog.underlying 29 = some (.struct fs) ∧ fs[3]? = some f ∧ f.offset = 3 ∧ (Tryd.prog.info? f.type).map (·.size) = some (0 + 1) := ⟨_, _, Tryd.underlying29, rfl, rfl, by kernel_rfl⟩
theorem deedF4 : ∃ f fs, Tryd.prog.underlying 29 = some (.struct fs) ∧ fs[4]? = some f ∧ f.offset = 4 ∧ (Tryd.prog.info? f.type).map (·.size) = some (19 + 1) := ⟨_, _, Tryd.underlying29, rfl, rfl, by kernel_rfl⟩
section
variable {ops : Array Oper} {Q : Exit → Act → World → Prop} {rest : List Oper} {o : Oper} {a : Act} {w : World} {S : World → Prop}
theorem kDeed0 (x : Operand) (b : Nat) (ho : o.op = .fieldAddr 29 x 0) (hg : Region.wanted o (yielded ops a.tmps) = true) (hx : a.eval x = .pointer (some ⟨b, 0, none⟩)) (h : wpList Tryd.prog ops Q rest (a.put o.dst (.pointer (some ⟨b, 0, none⟩))) w) : wpList Tryd.prog ops Q (o :: rest) a w := by
  obtain ⟨f, fs, h1, h2, h3, h4⟩ := deedF0
  have := kFieldAt (Q := Q) (rest := rest) (w := w) _ x 0 0 0 fs f b 0 ho hg hx h1 h2 h3 h4
  rw [Nat.zero_add] at this
  exact this h
theorem kDeed1 (x : Operand) (b : Nat) (ho : o.op = .fieldAddr 29 x 1) (hg : Region.wanted o (yielded ops a.tmps) = true) (hx : a.eval x = .pointer (some ⟨b, 0, none⟩)) (h : wpList Tryd.prog ops Q rest (a.put o.dst (.pointer (some ⟨b, 1, none⟩))) w) : wpList Tryd.prog ops Q (o :: rest) a w := by
  obtain ⟨f, fs, h1, h2, h3, h4⟩ := deedF1
  have := kFieldAt (Q := Q) (rest := rest) (w := w) _ x 1 0 1 fs f b 0 ho hg hx h1 h2 h3 h4
  rw [Nat.zero_add] at this
  exact this h
theorem kDeed2 (x : Operand) (b : Nat) (ho : o.op = .fieldAddr 29 x 2) (hg : Region.wanted o (yielded ops a.tmps) = true) (hx : a.eval x = .pointer (some ⟨b, 0, none⟩)) (h : wpList Tryd.prog ops Q rest (a.put o.dst (.pointer (some ⟨b, 2, none⟩))) w) : wpList Tryd.prog ops Q (o :: rest) a w := by
  obtain ⟨f, fs, h1, h2, h3, h4⟩ := deedF2
  have := kFieldAt (Q := Q) (rest := rest) (w := w) _ x 2 0 2 fs f b 0 ho hg hx h1 h2 h3 h4
  rw [Nat.zero_add] at this
  exact this h
theorem kDeed3 (x : Operand) (b : Nat) (ho : o.op = .fieldAddr 29 x 3) (hg : Region.wanted o (yielded ops a.tmps) = true) (hx : a.eval x = .pointer (some ⟨b, 0, none⟩)) (h : wpList Tryd.prog ops Q rest (a.put o.dst (.pointer (some ⟨b, 3, none⟩))) w) : wpList Tryd.prog ops Q (o :: rest) a w := by
  obtain ⟨f, fs, h1, h2, h3, h4⟩ := deedF3
  have := kFieldAt (Q := Q) (rest := rest) (w := w) _ x 3 0 3 fs f b 0 ho hg hx h1 h2 h3 h4
  rw [Nat.zero_add] at this
  exact this h
theorem kDeed4 (x : Operand) (b : Nat) (ho : o.op = .fieldAddr 29 x 4) (hg : Region.wanted o (yielded ops a.tmps) = true) (hx : a.eval x = .pointer (some ⟨b, 0, none⟩)) (h : wpList Tryd.prog ops Q rest (a.put o.dst (.pointer (some ⟨b, 4, none⟩))) w) : wpList Tryd.prog ops Q (o :: rest) a w := by
  obtain ⟨f, fs, h1, h2, h3, h4⟩ := deedF4
  have := kFieldAt (Q := Q) (rest := rest) (w := w) _ x 4 19 4 fs f b 0 ho hg hx h1 h2 h3 h4
  rw [Nat.zero_add] at this
  exact this h
/-- a deed as it lies in a row -/
def RowD (w : World) (g : Nat) (d : Deed) : Prop := Row w g 29 (dcells d)
theorem kLoadD (x : Operand) (g : Nat) (d : Deed) (hr : Row w g 29 (dcells d)) (ho : o.op = .load 29 x) (hg : Region.wanted o (yielded ops a.tmps) = true) (hx : a.eval x = .pointer (some ⟨g, 0, none⟩)) (h : wpList Tryd.prog ops Q rest (a.put o.dst (deedV d)) w) : wpList Tryd.prog ops Q (o :: rest) a w :=
  kLoadRow _ _ _ g _ _ ho hg hx hr Tryd.underlying29 rfl (info_DeedC d) h
theorem kLoadK (x : Operand) (g : Nat) (d : Deed) (hr : Row w g 29 (dcells d)) (ho : o.op = .load 3 x) (hg : Region.wanted o (yielded ops a.tmps) = true) (hx : a.eval x = .pointer (some ⟨g, 0, none⟩)) (h : wpList Tryd.prog ops Q rest (a.put o.dst (.int .i64 d.kind)) w) : wpList Tryd.prog ops Q (o :: rest) a w :=
  kLoad1 _ _ _ g 0 _ _ _ ho hg hx hr Tryd.underlying3 rfl (dcells_0 d) h
theorem kLoadN1 (x : Operand) (g : Nat) (d : Deed) (hr : Row w g 29 (dcells d)) (ho : o.op = .load 9 x) (hg : Region.wanted o (yielded ops a.tmps) = true) (hx : a.eval x = .pointer (some ⟨g, 1, none⟩)) (h : wpList Tryd.prog ops Q rest (a.put o.dst (textV d.name)) w) : wpList Tryd.prog ops Q (o :: rest) a w :=
  kLoad1 _ _ _ g 1 _ _ _ ho hg hx hr Tryd.underlying9 rfl (dcells_1 d) h
theorem kLoadN2 (x : Operand) (g : Nat) (d : Deed) (hr : Row w g 29 (dcells d)) (ho : o.op = .load 9 x) (hg : Region.wanted o (yielded ops a.tmps) = true) (hx : a.eval x = .pointer (some ⟨g, 2, none⟩)) (h : wpList Tryd.prog ops Q rest (a.put o.dst (textV d.value)) w) : wpList Tryd.prog ops Q (o :: rest) a w :=
  kLoad1 _ _ _ g 2 _ _ _ ho hg hx hr Tryd.underlying9 rfl (dcells_2 d) h
theorem kLoadN3 (x : Operand) (g : Nat) (d : Deed) (hr : Row w g 29 (dcells d)) (ho : o.op = .load 9 x) (hg : Region.wanted o (yielded ops a.tmps) = true) (hx : a.eval x = .pointer (some ⟨g, 3, none⟩)) (h : wpList Tryd.prog ops Q rest (a.put o.dst (textV d.rand)) w) : wpList Tryd.prog ops Q (o :: rest) a w :=
  kLoad1 _ _ _ g 3 _ _ _ ho hg hx hr Tryd.underlying9 rfl (dcells_3 d) h
theorem kLoadC4 (x : Operand) (g : Nat) (d : Deed) (hr : Row w g 29 (dcells d)) (ho : o.op = .load 27 x) (hg : Region.wanted o (yielded ops a.tmps) = true) (hx : a.eval x = .pointer (some ⟨g, 4, none⟩)) (h : wpList Tryd.prog ops Q rest (a.put o.dst (.agg (tab 20 fun p => VB (at8 d.commit p)))) w) : wpList Tryd.prog ops Q (o :: rest) a w :=
  kLoadAs _ _ _ g 4 20 _ _ _ ho hg hx hr Tryd.underlying27 rfl info_Short (by rw [dcells_size]; omega) (dcells_4 d) h
theorem commit_vals {g : Nat} {d : Deed} (hd : d.Is) (hr : Row w g 29 (dcells d)) : IsVals w (.slice (some ⟨g, 4, none⟩) 20 20) (d.commit.map VB) := by
  have h := isVals_row hr 4 20 20 (by rw [dcells_size]; omega) (Nat.le_refl _)
  rw [dcells_4, tab_list _ _ hd] at h
  simpa using h
/-- '==' of deeds -/
theorem eqGuard_Deed : Tryd.prog.eqGuardType Tryd.prog.depth 29 = false := by kernel_rfl
theorem stood_Deed : Tryd.prog.stoodInHeld 29 = false := by kernel_rfl
theorem fields_Deed : Tryd.prog.underlying 29 = some (.struct (Tryd.prog.fieldsOf 29)) := by kernel_rfl
theorem listed_Deed : (Tryd.prog.fieldsOf 29).toList.map (fun f => (f.type, f.offset, decide (f.name = "_"))) = [(3, 0, false), (9, 1, false), (9, 2, false), (9, 3, false), (27, 4, false)] := by kernel_rfl
def sameD (d e : Deed) : Bool := decide (d.kind = e.kind) && decide (d.name = e.name) && decide (d.value = e.value) && decide (d.rand = e.rand) && decide (d.commit = e.commit)
theorem sameD_iff (d e : Deed) : sameD d e = true ↔ d = e := by
  obtain ⟨a, b, c, x, y⟩ := d; obtain ⟨a', b', c', x', y'⟩ := e
  simp [sameD, and_assoc]
theorem run_equalD {d e : Deed} (hd : d.Is) (he : e.Is) (w : World) : (Op.equalIn 10000 29 (deedV d) (deedV e)).run Tryd.prog w = .ok (sameD d e) w := by
  have h := run_eqStruct (P := Tryd.prog) (w := w) (xs := dcells d) (ys := dcells e) _ [decide (d.kind = e.kind), decide (d.name = e.name), decide (d.value = e.value), decide (d.rand = e.rand), decide (d.commit = e.commit)] fields_Deed stood_Deed listed_Deed
    ⟨rfl, ⟨_, _, part1 Tryd.underlying3 rfl _ _ _ (dcells_0 d) w, part1 Tryd.underlying3 rfl _ _ _ (dcells_0 e) w, run_equalZ Tryd.underlying3 9998 _ _ w⟩,
     rfl, ⟨_, _, part1 Tryd.underlying9 rfl _ _ _ (dcells_1 d) w, part1 Tryd.underlying9 rfl _ _ _ (dcells_1 e) w, run_equalStr Tryd.underlying9 9998 _ _ w⟩,
     rfl, ⟨_, _, part1 Tryd.underlying9 rfl _ _ _ (dcells_2 d) w, part1 Tryd.underlying9 rfl _ _ _ (dcells_2 e) w, run_equalStr Tryd.underlying9 9998 _ _ w⟩,
     rfl, ⟨_, _, part1 Tryd.underlying9 rfl _ _ _ (dcells_3 d) w, part1 Tryd.underlying9 rfl _ _ _ (dcells_3 e) w, run_equalStr Tryd.underlying9 9998 _ _ w⟩,
     rfl, ⟨_, _, partA Tryd.underlying27 rfl info_Short _ _ _ (dcells_4 d) w, partA Tryd.underlying27 rfl info_Short _ _ _ (dcells_4 e) w, run_equalBytes Tryd.underlying27 Tryd.underlying5 info_b8P 9997 hd he⟩, trivial⟩
  have e2 : [decide (d.kind = e.kind), decide (d.name = e.name), decide (d.value = e.value), decide (d.rand = e.rand), decide (d.commit = e.commit)].all id = sameD d e := by simp [sameD, Bool.and_assoc]
  rw [e2] at h
  exact h
theorem kEqlD (T2 : TypeId) (u v : Operand) {d e : Deed} (hd : d.Is) (he : e.Is) (b : Bool) (ho : o.op = .binOp .eql 29 u v T2) (hg : Region.wanted o (yielded ops a.tmps) = true) (hx : a.eval u = deedV d) (hy : a.eval v = deedV e) (hb : sameD d e = b)
    (h : wpList Tryd.prog ops Q rest (a.put o.dst (.bool b)) w) : wpList Tryd.prog ops Q (o :: rest) a w :=
  kEqlSt T2 u v b eqGuard_Deed (fun w => by rw [← hb]; exact run_equalD hd he w) ho hg hx hy h
theorem kBuildD0 (ho : o.op = .build 29 #[]) (hg : Region.wanted o (yielded ops a.tmps) = true) (h : wpList Tryd.prog ops Q rest (a.put o.dst (deedV noDeed)) w) : wpList Tryd.prog ops Q (o :: rest) a w :=
  kBuildAny _ _ #[] _ ho hg (by simp) built_deed0 h
theorem kBuildDK (x : Operand) (k : Int) (ho : o.op = .build 29 #[(0, x)]) (hg : Region.wanted o (yielded ops a.tmps) = true) (hx : a.eval x = .int .i64 k) (h : wpList Tryd.prog ops Q rest (a.put o.dst (deedV ⟨k, [], [], [], z20⟩)) w) : wpList Tryd.prog ops Q (o :: rest) a w :=
  kBuildAny _ _ #[(0, .int .i64 k)] _ ho hg (by simp [hx]) (built_deedK k) h
theorem kBuildD1 (x y : Operand) (k : Int) (c : List UInt8) (ho : o.op = .build 29 #[(0, x), (4, y)]) (hg : Region.wanted o (yielded ops a.tmps) = true) (hx : a.eval x = .int .i64 k) (hy : a.eval y = .agg (tab 20 fun p => VB (at8 c p))) (h : wpList Tryd.prog ops Q rest (a.put o.dst (deedV ⟨k, [], [], [], c⟩)) w) : wpList Tryd.prog ops Q (o :: rest) a w :=
  kBuildAny _ _ #[(0, .int .i64 k), (4, .agg (tab 20 fun p => VB (at8 c p)))] _ ho hg (by simp [hx, hy]) (built_deed1 k c) h
theorem kBuildD2 (x n r v : Operand) (k : Int) (N R V : List UInt8) (ho : o.op = .build 29 #[(0, x), (1, n), (3, r), (2, v)]) (hg : Region.wanted o (yielded ops a.tmps) = true) (hx : a.eval x = .int .i64 k) (hn : a.eval n = textV N) (hr : a.eval r = textV R) (hv : a.eval v = textV V) (h : wpList Tryd.prog ops Q rest (a.put o.dst (deedV ⟨k, N, V, R, z20⟩)) w) : wpList Tryd.prog ops Q (o :: rest) a w :=
  kBuildAny _ _ #[(0, .int .i64 k), (1, textV N), (3, textV R), (2, textV V)] _ ho hg (by simp [hx, hn, hr, hv]) (built_deed2 k N R V) h
theorem kBuildD3 (x n v : Operand) (k : Int) (N V : List UInt8) (ho : o.op = .build 29 #[(0, x), (1, n), (2, v)]) (hg : Region.wanted o (yielded ops a.tmps) = true) (hx : a.eval x = .int .i64 k) (hn : a.eval n = textV N) (hv : a.eval v = textV V) (h : wpList Tryd.prog ops Q rest (a.put o.dst (deedV ⟨k, N, V, [], z20⟩)) w) : wpList Tryd.prog ops Q (o :: rest) a w :=
  kBuildAny _ _ #[(0, .int .i64 k), (1, textV N), (2, textV V)] _ ho hg (by simp [hx, hn, hv]) (built_deed3 k N V) h
theorem kBoxD (x : Operand) (d : Deed) (ho : o.op = .box 29 x) (hg : Region.wanted o (yielded ops a.tmps) = true) (hx : a.eval x = deedV d) (h : ∀ w1, Row w1 w.heap.size 29 (dcells d) → w.heap.size < w1.heap.size → Below w.heap.size w w1 → wpList Tryd.prog ops Q rest (a.put o.dst (.pointer (some ⟨w.heap.size, 0, none⟩))) w1) : wpList Tryd.prog ops Q (o :: rest) a w :=
  kBoxL _ _ _ ho hg hx h
theorem kStoreD (x y : Operand) (g : Nat) (d e : Deed) (hr : Row w g 29 (dcells d)) (ho : o.op = .store 29 x y) (hg : Region.wanted o (yielded ops a.tmps) = true) (hx : a.eval x = .pointer (some ⟨g, 0, none⟩)) (hy : a.eval y = deedV e) (h : ∀ w1, Row w1 g 29 (dcells e) → Wrote g w w1 → wpList Tryd.prog ops Q rest (a.put o.dst undef) w1) : wpList Tryd.prog ops Q (o :: rest) a w :=
  kStoreRow _ _ _ _ g _ _ ho hg hx hy hr (info_DeedC _) (by rw [dcells_size, dcells_size]) (dcells_one _) h
end
end Go.Proofs.YtnaclalbeocpkaaDoor
