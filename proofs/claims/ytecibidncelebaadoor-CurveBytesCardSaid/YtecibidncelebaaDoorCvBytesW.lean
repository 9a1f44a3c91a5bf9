/-
  The walk of the statement CurveBytes.
-/
import Derived.Test.YtecibidncelebaaDoorCvLaw1
import Derived.Test.YtecibidncelebaaDoorCvParse
import Derived.Test.YtecibidncelebaaDoorCvBytes1
namespace Go.Proofs.YtecibidncelebaaDoor
open Go Go.RowKit

open Cv
theorem cParse_some {l : List UInt8} {p : Pt PP} {v : Value} (h : parseL l = some p) (w : World) (hG : Glob 2 PP w) (hO : GlobP 0 0 0 true w) (hv : IsVals w v (l.map VB)) :
    Calls Tryd.prog 12 #[v] w fun e w' => e = .returned (.tuple #[.agg (ptc p), .int .i64 0]) ∧ Below w.heap.size w w' := by
  have := cParse_any w hG hO hv
  unfold parseV at this; rw [h] at this; exact this
theorem cParse_no {l : List UInt8} {v : Value} (h : parseL l = none) (w : World) (hG : Glob 2 PP w) (hO : GlobP 0 0 0 true w) (hv : IsVals w v (l.map VB)) :
    Calls Tryd.prog 12 #[v] w fun e w' => e = .returned (.tuple #[.agg (pcells 0 0 false), .int .i64 41]) ∧ Below w.heap.size w w' := by
  have := cParse_any w hG hO hv
  unfold parseV at this; rw [h] at this; exact this
structure AtCell (w : World) (b : Addr) (c : UInt8) : Prop where
  out : w.cell? b = some (VB c)
theorem AtCell.below {w w' : World} {b : Addr} {c : UInt8} (h : AtCell w b c) (hb : Below w.heap.size w w') : AtCell w' b c := ⟨by rw [hb.cell (block_lt_of_cell h.out)]; exact h.out⟩
/-- all rows that are spoken of may be the one that is written; what else is said stays -/
def SinglesQ (w w' : World) (T : TypeId) (cs : Array Value) : List Spec → Prop
  | [] => True
  | .val _ :: ss => SinglesQ w w' T cs ss
  | .fresh _ T' n :: ss => (T' = T ∧ cs.size = n) ∧ SinglesQ w w' T cs ss
  | .hold _ T' cs' :: ss => (T' = T ∧ cs' = cs) ∧ SinglesQ w w' T cs ss
  | .prop p _ :: ss => (∀ v, p w v → p w' v) ∧ SinglesQ w w' T cs ss
theorem singlesQ_wrote {T : TypeId} {cs : Array Value} {g : Nat} {w w' : World} (hw : Wrote g w w') (hr : Row w' g T cs) : ∀ (ss : List Spec), SinglesQ w w' T cs ss → ∀ i v, specAt ss i w v → specAt ss i w' v := by
  intro ss
  induction ss with
  | nil => intro _ i v _; simp [specAt]
  | cons s ss ih =>
    intro hs i v h
    cases i with
    | succ i =>
      have hs' : SinglesQ w w' T cs ss := by cases s with
        | val _ => exact hs
        | fresh _ _ _ => exact hs.2
        | hold _ _ _ => exact hs.2
        | prop _ _ => exact hs.2
      exact ih hs' i v h
    | zero =>
      show s.at w' v
      have h : s.at w v := h
      cases s with
      | val u => exact h
      | fresh B T' n =>
        obtain ⟨⟨e1, e2⟩, _⟩ := hs
        obtain ⟨g', cs', h1, h2, h3, h4⟩ := h
        by_cases e : g' = g
        · subst e; subst e1; exact ⟨g', cs, h1, h2, e2, hr⟩
        · exact ⟨g', cs', h1, h2, h3, hw.row h4 e⟩
      | hold B T' cs' =>
        obtain ⟨⟨e1, e2⟩, _⟩ := hs
        obtain ⟨g', h1, h2, h4⟩ := h
        by_cases e : g' = g
        · subst e; subst e1; subst e2; exact ⟨g', h1, h2, hr⟩
        · exact ⟨g', h1, h2, hw.row h4 e⟩
      | prop p m => exact hs.1 v h
theorem symWQ {P : Program} {Q : Exit → Act → World → Prop} {l : List Oper} {alt : Nat → Nat} {ss : List Spec} {a a' : Act} {w0 w w' : World} {o : Oper} {i g : Nat} {T : TypeId} {cs : Array Value} {v : Value} (hbel : Below w0.heap.size w0 w) (ha : a' = a.put o.dst v) (hW : Wrote g w w') (hg : w0.heap.size ≤ g) (hr : Row w' g T cs) (hs : SinglesQ w w' T cs ss) (hp : specAt ss i w' (a'.tmps.getD (srcOf l alt i) undef)) :
    wpList P l.toArray (Exit.then (fun a' w' => ∃ v, a' = a.put o.dst v ∧ Below w0.heap.size w0 w' ∧ (∀ j u, specAt ss j w u → specAt ss j w' u) ∧ specAt ss i w' (a'.tmps.getD (srcOf l alt i) undef)) (NoPanic Q)) [] a' w' :=
  mixOn ⟨v, ha, hbel.trans (hW.below hg), singlesQ_wrote hW hr ss hs, hp⟩
/-- a slice of one byte, full -/
def SliceOne (w : World) (v : Value) (c : UInt8) : Prop := ∃ g, v = .slice (some ⟨g, 0, none⟩) 1 1 ∧ Row w g 5 #[VB c]
theorem SliceOne.below {w w' : World} {v : Value} {c : UInt8} (h : SliceOne w v c) (hb : Below w.heap.size w w') : SliceOne w' v c := by
  obtain ⟨g, e, hr⟩ := h; exact ⟨g, e, hr.below hb hr.lt⟩
theorem row_types {w : World} {g : Nat} {T U : TypeId} {cs ds : Array Value} (h : Row w g T cs) (k : Row w g U ds) : T = U := by
  unfold Row at h k; rw [h] at k; injection k with k; injection k with k1 k2 k3
theorem SliceOne.wrote {w w' : World} {v : Value} {c : UInt8} {g : Nat} {cs : Array Value} (h : SliceOne w v c) (hr : Row w g 30 cs) (hw : Wrote g w w') : SliceOne w' v c := by
  obtain ⟨g', e, hr'⟩ := h
  refine ⟨g', e, hw.row hr' fun e2 => ?_⟩
  subst e2
  exact absurd (row_types hr' hr) (by decide)
/-- bytes in a row of their own -/
def RowBytes (w : World) (v : Value) (l : List UInt8) : Prop := ∃ g n cap cur, v = .slice (some ⟨g, 0, none⟩) n cap ∧ Row w g 5 cur ∧ IsVals w v (l.map VB)
theorem RowBytes.below {w w' : World} {v : Value} {l : List UInt8} (h : RowBytes w v l) (hb : Below w.heap.size w w') : RowBytes w' v l := by
  obtain ⟨g, n, cap, cur, e, hr, hv⟩ := h; exact ⟨g, n, cap, cur, e, hr.below hb hr.lt, hv.below hb⟩
theorem RowBytes.wrote {w w' : World} {v : Value} {l : List UInt8} {g : Nat} {cs : Array Value} (h : RowBytes w v l) (hr : Row w g 30 cs) (hw : Wrote g w w') : RowBytes w' v l := by
  obtain ⟨g', n, cap, cur, rfl, hr', hv⟩ := h
  have hne : g' ≠ g := fun e2 => by subst e2; exact absurd (row_types hr' hr) (by decide)
  refine ⟨g', n, cap, cur, rfl, hw.row hr' hne, hv.wrote hw fun j u _ a ha => ?_⟩
  have : g' = a := by simpa [Value.ownBlock] using ha
  rw [← this]; exact hne
section
variable {ops : Array Oper} {Q : Exit → Act → World → Prop} {rest : List Oper} {o : Oper} {a : Act} {w : World}
theorem kIndexHead (x y : Operand) (v : Value) (b : Addr) (n cap : Nat) (hv : v = .slice (some b) (n + 1) cap) (ho : o.op = .indexAddr 48 x y) (hg : Region.wanted o (yielded ops a.tmps) = true) (hx : a.eval x = v) (hy : a.eval y = .int .i64 0)
    (h : wpList Tryd.prog ops Q rest (a.put o.dst (.pointer (some b))) w) : wpList Tryd.prog ops Q (o :: rest) a w := by
  subst hv
  refine kPure _ hg ?_ h
  have hrun : (Instr.indexAt 48 (.slice (some b) (n + 1) cap) (.int .i64 0)).run Tryd.prog w = .ok (.pointer (some b)) w := by
    have hs := info_b8
    cases hq : Tryd.prog.info? 5 with
    | none => simp [hq] at hs
    | some t =>
      have e : b.add 0 = b := rfl
      simp [Instr.indexAt, asIntOf, run_underlying Tryd.underlying48, sizeOf, typeInfo, hq, e]
  unfold execOp
  simp only [ho, hx, hy, Sem.run_bind, hrun, Result.andThen_ok, Sem.run_pure]
theorem kSubB (T T2 : TypeId) (x y : Operand) (c d : UInt8) (hd : (5 : Int) - B c = B d) (ho : o.op = .binOp .sub T x y T2) (hg : Region.wanted o (yielded ops a.tmps) = true) (hx : a.eval x = .int .u8 5) (hy : a.eval y = .int .u8 (B c)) (h : wpList Tryd.prog ops Q rest (a.put o.dst (.int .u8 (B d))) w) : wpList Tryd.prog ops Q (o :: rest) a w := by
  refine kPure _ hg ?_ h
  unfold execOp
  simp only [ho, hx, hy]
  have hb : 0 ≤ B d ∧ B d < 256 := by unfold B; have := UInt8.toNat_lt d; omega
  have e : IntKind.u8.wrap (5 - B c) = B d := by rw [hd, IntKind.wrap_u8]; omega
  simp [eqGuard, binOp, Op.intArith, e]
/-- append to a slice of one byte that is full: the new row is bytes -/
theorem kAppendRow (s x : Operand) (ho : o.op = .call { callee := .builtin .append, args := #[s, x], argTypes := #[48, 48] }) (hg : Region.wanted o (yielded ops a.tmps) = true)
    (c : UInt8) (y : Value) (news : List UInt8) (hs : SliceOne w (a.eval s) c) (hx : a.eval x = y) (hy : IsVals w y (news.map VB)) (hnn : news ≠ []) (hlen : news.length ≤ 1000)
    (h : ∀ v' w', RowBytes w' v' (c :: news) → Below w.heap.size w w' → wpList Tryd.prog ops Q rest (a.put o.dst v') w') : wpList Tryd.prog ops Q (o :: rest) a w := by
  obtain ⟨g, e, hr⟩ := hs
  exact kAppendFullR s x ho hg g c y news e hr hx hy hnn hlen fun v' w' g' n cap cur e hr hv hb => h v' w' ⟨g', n, cap, cur, e, hr, hv⟩ hb
end
set_option maxRecDepth 100000 in
set_option maxHeartbeats 8000000 in
theorem CurveBytes_long {k1 : Nat} (_hk1 : k1 < 65536) (b1 : Bool) {l : List UInt8} {v : Value} (hl : 100 < l.length) (w : World) (hG : Glob 2 PP w) (hO : GlobP 0 0 0 true w) (hB : GlobPt 1 gPt w) (hv : IsVals w v (l.map VB)) :
    Calls Tryd.prog 7 #[.agg #[.int .u16 (k1 : Int), .bool b1], v] w fun e w' => e = .returned (.bool true) ∧ Below w.heap.size w w' := by
  obtain ⟨L, HL⟩ : ∃ n, Hid ((l.map VB).length = n) := ⟨_, Lib.hid rfl⟩
  have hL : L = l.length := by rw [← HL.out, List.length_map]
  have F17 := Lib.hid (show decide ((L : Int) > 100) = true from decide_eq_true (by omega))
  have hM0 := mm_nil w
  (try unfold WV)
  go_enter Tryd.func7, Tryd.ntmps7
  go_wp2_with (first
    | ((with_reducible change wpList _ _ _ (Oper.mk (some 2) _ _ _ _ _ :: _) _ _); refine mmBox hM0 _ _ (#[.int .u16 ((k1 : Int)), .bool b1]) rfl rfl rfl ?_; intro w1 hM1; clear hM0; go_frame)
    | (go_at_call 15; refine (curveAlive_pt _ (hG.below hM1.below) (hO.below hM1.below) (hB.below hM1.below)).mono ?_; rintro e w2 ⟨rfl, hB2⟩; have hM2 := hM1.on hB2; clear hB2 hM1; (try unfold WV); go_frame)
    | ((with_reducible change wpList _ _ _ (Oper.mk (some 16) _ _ _ _ _ :: _) _ _); refine kLenN _ _ _ _ _ L rfl rfl rfl ((hv.below hM2.below)) HL.out Tryd.underlying48 ?_; go_frame)
    | ((with_reducible change wpList _ _ _ (Oper.mk (some 17) _ _ _ _ _ :: _) _ _); refine kGtrI _ _ _ _ .i64 _ _ true rfl rfl rfl rfl (F17.out) ?_; go_frame))
  go_ret
  exact ⟨rfl, hM2.below⟩
set_option maxRecDepth 100000 in
set_option maxHeartbeats 8000000 in
theorem CurveBytes_some {k1 : Nat} (hk1 : k1 < 65536) (b1 : Bool) {l : List UInt8} {v : Value} (hl : l.length ≤ 100) {pc : Pt PP} (hp : parseL l = some pc) (w : World) (hG : Glob 2 PP w) (hO : GlobP 0 0 0 true w) (hB : GlobPt 1 gPt w) (hv : IsVals w v (l.map VB)) :
    Calls Tryd.prog 7 #[.agg #[.int .u16 (k1 : Int), .bool b1], v] w fun e w' => e = .returned (.bool true) ∧ Below w.heap.size w w' := by
  obtain ⟨pa, HP1⟩ : ∃ q, Hid (pick k1 b1 = q) := ⟨_, Lib.hid rfl⟩
  have opa : pa.On := by rw [← HP1.out]; exact pick_on _ _
  obtain ⟨L, HL⟩ : ∃ n, Hid ((l.map VB).length = n) := ⟨_, Lib.hid rfl⟩
  have hL : L = l.length := by rw [← HL.out, List.length_map]
  have F17 := Lib.hid (show decide ((L : Int) > 100) = false from decide_eq_false (by omega))
  have hpa := Lib.hid (parse_bytes opa)
  have hpl := Lib.hid hp
  have opc : pc.On := (parse_some hp).1
  have h57 := Lib.hid (show (ptBytes pc == l) = true by rw [(parse_some hp).2]; simp)
  clear hp
  have hM0 := mm_nil w
  (try unfold WV)
  go_enter Tryd.func7, Tryd.ntmps7
  go_wp2_with (first
    | ((with_reducible change wpList _ _ _ (Oper.mk (some 2) _ _ _ _ _ :: _) _ _); refine mmBox hM0 _ _ (#[.int .u16 ((k1 : Int)), .bool b1]) rfl rfl rfl ?_; intro w1 hM1; clear hM0; go_frame)
    | (go_at_call 15; refine (curveAlive_pt _ (hG.below hM1.below) (hO.below hM1.below) (hB.below hM1.below)).mono ?_; rintro e w2 ⟨rfl, hB2⟩; have hM2 := hM1.on hB2; clear hB2 hM1; (try unfold WV); go_frame)
    | ((with_reducible change wpList _ _ _ (Oper.mk (some 16) _ _ _ _ _ :: _) _ _); refine kLenN _ _ _ _ _ L rfl rfl rfl ((hv.below hM2.below)) HL.out Tryd.underlying48 ?_; go_frame)
    | ((with_reducible change wpList _ _ _ (Oper.mk (some 17) _ _ _ _ _ :: _) _ _); refine kGtrI _ _ _ _ .i64 _ _ false rfl rfl rfl rfl (F17.out) ?_; go_frame)
    | ((with_reducible change wpList _ _ _ (Oper.mk (some 18) _ _ _ _ _ :: _) _ _); refine kLoadRow _ _ _ _ _ _ rfl rfl rfl (hM2.get 0 rfl) Tryd.underlying41 rfl (info_PickC _ _) ?_; go_frame)
    | (go_at_call 19; (with_reducible change Calls _ _ #[Value.agg (#[.int .u16 ((k1 : Int)), .bool b1])] _ _); refine (pickOf_q hk1 b1 HP1.out _).mono ?_; rintro e w3 ⟨rfl, hB3⟩; have hM3 := hM2.on hB3; clear hB3 hM2; (try unfold WV); go_frame)
    | ((with_reducible change wpList _ _ _ (Oper.mk (some 5) _ _ _ _ _ :: _) _ _); refine mmAlloc hM3 _ _ rfl rfl zero_Point ?_; intro w4 hM4; clear hM3; go_frame)
    | ((with_reducible change wpList _ _ _ (Oper.mk none (Op.store _ (Operand.tmp 5) (Operand.tmp 19)) _ _ _ _ :: _) _ _); refine mmStoreAt hM4 0 _ _ _ _ _ _ (ptc pa) rfl rfl rfl rfl rfl (info_ptc _) (by simp only [pcells_size, ptc_size]) (ptc_one _) ?_; intro w5 hM5; dsimp only [List.set] at hM5; clear hM4; go_frame)
    | ((with_reducible change wpList _ _ _ (Oper.mk (some 20) _ _ _ _ _ :: _) _ _); refine kLoadRow _ _ _ _ _ _ rfl rfl rfl (hM5.get 0 rfl) Tryd.underlying30 rfl (info_ptc _) ?_; go_frame)
    | (go_at_call 28; (with_reducible change Calls _ _ #[Value.agg (ptc pa)] _ _); refine (cBytes_any pa _ (hO.below hM5.below)).mono ?_; rintro e w6 ⟨x6, rfl, hN6, hB6⟩; have hM6 := hM5.on hB6; clear hB6 hM5; have hM7 := mm_nil w6; go_frame)
    | (go_at_call 12; (with_reducible change Calls _ _ #[x6] _ _); refine (cParse_some hpa.out _ ((hG.below hM6.below).below hM7.below) ((hO.below hM6.below).below hM7.below) (hN6.below hM7.below)).mono ?_; rintro e w8 ⟨rfl, hB8⟩; have hM8 := hM7.on hB8; clear hB8 hM7; (try unfold WV); go_frame)
    | ((with_reducible change wpList _ _ _ (Oper.mk (some 7) _ _ _ _ _ :: _) _ _); refine mmAlloc hM8 _ _ rfl rfl zero_Point ?_; intro w9 hM9; clear hM8; go_frame)
    | ((with_reducible change wpList _ _ _ (Oper.mk none (Op.store _ (Operand.tmp 7) (Operand.tmp 25)) _ _ _ _ :: _) _ _); refine mmStoreAt hM9 0 _ _ _ _ _ _ (ptc pa) rfl rfl rfl rfl rfl (info_ptc _) (by simp only [pcells_size, ptc_size]) (ptc_one _) ?_; intro w10 hM10; dsimp only [List.set] at hM10; clear hM9; go_frame))
  refine region_symT 15 _ [] [] [.val (x6), .val (textV (ptBytes pa)), .val (.agg (ptc pa)), .prop (fun w v => IsVals w v ((ptBytes pa).map VB)) (fun _ _ _ hb h => h.below hb), .val (textV (ptBytes pa)), .val (.bool false), .val (.bool false), .val (.int .i64 (0)), .val (.bool false), .val (.bool false), .val (.bool false), .val (.agg (ptc pa)), .val (.agg (ptc pa)), .val (.bool false), .val (.bool false)] rfl (by kernel_rfl) (by kernel_rfl) (by kernel_rfl) (by kernel_rfl) rfl (by intro s hs; cases hs) (steps_all ⟨?_, ?_, ?_, ?_, ?_, ?_, ?_, ?_, ?_, ?_, ?_, ?_, ?_, ?_, ?_, trivial⟩) ?_
  · intro A W hsz hoth hbel hX hdep
    exact kMoveV _ (x6) rfl rfl ((hoth 6 (free2_of (by kernel_rfl))).trans rfl) (symVT hX hsz rfl (show 27 < 109 by decide) rfl (Below.refl _ _) rfl)
  · intro A W hsz hoth hbel hX hdep
    exact kToString _ _ _ _ _ (ptBytes pa) rfl rfl (by have h := hdep ⟨0, .data⟩ (by simp) rfl; exact h) (((hN6.below hM10.below).below hbel)) Tryd.underlying48 Tryd.underlying5 Tryd.underlying9 (symVT hX hsz rfl (show 28 < 109 by decide) rfl (Below.refl _ _) rfl)
  · intro A W hsz hoth hbel hX hdep
    exact kLoadRow _ _ _ _ _ _ rfl rfl ((hoth 5 (free2_of (by kernel_rfl))).trans rfl) (((hM6.get 0 rfl).on hM10.below).on hbel) Tryd.underlying30 rfl (info_ptc _) (symVT hX hsz rfl (show 29 < 109 by decide) rfl (Below.refl _ _) rfl)
  · intro A W hsz hoth hbel hX hdep
    refine kCall1 29 _ _ _ rfl rfl (by kernel_rfl) (by have h := hdep ⟨2, .data⟩ (by simp) rfl; exact h) ?_
    refine (eBytes_any pa W).mono ?_
    rintro e r ⟨xx, rfl, hNx, hBc⟩
    exact ⟨_, rfl, (symVT hX hsz rfl (show 30 < 109 by decide) rfl hBc hNx)⟩
  · intro A W hsz hoth hbel hX hdep
    have hS30 := (show IsVals W (A.tmps.getD 30 undef) ((ptBytes pa).map VB) from (by have h := hdep ⟨3, .data⟩ (by simp) rfl; exact h))
    exact kToString _ _ _ _ (A.tmps.getD 30 undef) (ptBytes pa) rfl rfl rfl hS30 Tryd.underlying48 Tryd.underlying5 Tryd.underlying9 (symVT hX hsz rfl (show 31 < 109 by decide) rfl (Below.refl _ _) rfl)
  · intro A W hsz hoth hbel hX hdep
    exact kNeqStr _ _ _ _ (ptBytes pa) (ptBytes pa) false rfl rfl (by have h := hdep ⟨1, .data⟩ (by simp) rfl; exact h) (by have h := hdep ⟨4, .data⟩ (by simp) rfl; exact h) (by simp) (symVT hX hsz rfl (show 32 < 109 by decide) rfl (Below.refl _ _) rfl)
  · intro A W hsz hoth hbel hX hdep
    exact kMoveV _ (.bool false) rfl rfl (by have h := hdep ⟨5, .data⟩ (by simp) rfl; exact h) (symVT hX hsz rfl (show 33 < 109 by decide) rfl (Below.refl _ _) rfl)
  · intro A W hsz hoth hbel hX hdep
    exact kMoveV _ (.int .i64 (0)) rfl (wanted_of rfl rfl (by have h := hdep ⟨6, .guard⟩ (by simp) rfl; exact h)) ((hoth 8 (free2_of (by kernel_rfl))).trans rfl) (symVT hX hsz rfl (show 34 < 109 by decide) rfl (Below.refl _ _) rfl)
  · intro A W hsz hoth hbel hX hdep
    exact kNeqI _ _ _ _ .i64 (0) (0) false rfl (wanted_of rfl rfl (by have h := hdep ⟨6, .guard⟩ (by simp) rfl; exact h)) (by have h := hdep ⟨7, .data⟩ (by simp) rfl; exact h) rfl (by decide) (symVT hX hsz rfl (show 35 < 109 by decide) rfl (Below.refl _ _) rfl)
  · intro A W hsz hoth hbel hX hdep
    exact kPick _ _ _ false (.bool false) rfl rfl (by have h := hdep ⟨6, .data⟩ (by simp) rfl; exact h) (by have h := hdep ⟨8, .data⟩ (by simp) rfl; exact h) (symVT hX hsz rfl (show 36 < 109 by decide) rfl (Below.refl _ _) rfl)
  · intro A W hsz hoth hbel hX hdep
    exact kMoveV _ (.bool false) rfl rfl (by have h := hdep ⟨9, .data⟩ (by simp) rfl; exact h) (symVT hX hsz rfl (show 37 < 109 by decide) rfl (Below.refl _ _) rfl)
  · intro A W hsz hoth hbel hX hdep
    exact kLoadRow _ _ _ _ _ _ rfl (wanted_of rfl rfl (by have h := hdep ⟨10, .guard⟩ (by simp) rfl; exact h)) ((hoth 7 (free2_of (by kernel_rfl))).trans rfl) ((hM10.get 0 rfl).on hbel) Tryd.underlying30 rfl (info_ptc _) (symVT hX hsz rfl (show 38 < 109 by decide) rfl (Below.refl _ _) rfl)
  · intro A W hsz hoth hbel hX hdep
    exact kLoadRow _ _ _ _ _ _ rfl (wanted_of rfl rfl (by have h := hdep ⟨10, .guard⟩ (by simp) rfl; exact h)) ((hoth 5 (free2_of (by kernel_rfl))).trans rfl) (((hM6.get 0 rfl).on hM10.below).on hbel) Tryd.underlying30 rfl (info_ptc _) (symVT hX hsz rfl (show 39 < 109 by decide) rfl (Below.refl _ _) rfl)
  · intro A W hsz hoth hbel hX hdep
    exact kNeqPt _ _ _ pa pa false rfl (wanted_of rfl rfl (by have h := hdep ⟨10, .guard⟩ (by simp) rfl; exact h)) (by have h := hdep ⟨11, .data⟩ (by simp) rfl; exact h) (by have h := hdep ⟨12, .data⟩ (by simp) rfl; exact h) (ne_no rfl) (symVT hX hsz rfl (show 40 < 109 by decide) rfl (Below.refl _ _) rfl)
  · intro A W hsz hoth hbel hX hdep
    exact kPick _ _ _ false (.bool false) rfl rfl (by have h := hdep ⟨10, .data⟩ (by simp) rfl; exact h) (by have h := hdep ⟨13, .data⟩ (by simp) rfl; exact h) (symVT hX hsz rfl (show 41 < 109 by decide) rfl (Below.refl _ _) rfl)
  intro w11 hB11
  dsimp only [AllV]
  intro x11_30 hN11_30
  intro hap
  dsimp only [putAll, List.take, List.drop]
  go_frame
  have hM11 := hM10.on hB11
  clear hB11 hM10 hap
  have hM12 := mm_nil w11
  go_wp2_with (first
    | (go_at_call 12; (with_reducible change Calls _ _ #[v] _ _); refine (cParse_some hpl.out _ (((hG.below hM6.below).below hM11.below).below hM12.below) (((hO.below hM6.below).below hM11.below).below hM12.below) (((hv.below hM6.below).below hM11.below).below hM12.below)).mono ?_; rintro e w13 ⟨rfl, hB13⟩; have hM13 := hM12.on hB13; clear hB13 hM12; (try unfold WV); go_frame)
    | ((with_reducible change wpList _ _ _ (Oper.mk (some 9) _ _ _ _ _ :: _) _ _); refine mmAlloc hM13 _ _ rfl rfl zero_Point ?_; intro w14 hM14; clear hM13; go_frame)
    | ((with_reducible change wpList _ _ _ (Oper.mk none (Op.store _ (Operand.tmp 9) (Operand.tmp 45)) _ _ _ _ :: _) _ _); refine mmStoreAt hM14 0 _ _ _ _ _ _ (ptc pc) rfl rfl rfl rfl rfl (info_ptc _) (by simp only [pcells_size, ptc_size]) (ptc_one _) ?_; intro w15 hM15; dsimp only [List.set] at hM15; clear hM14; go_frame)
    | ((with_reducible change wpList _ _ _ (Oper.mk (some 48) _ _ _ _ _ :: _) _ _); refine kEqlI _ _ _ _ .i64 (0) (0) true rfl rfl rfl rfl (by decide) ?_; go_frame))
  refine region_symT 11 _ [] [] [.val (.agg (ptc pc)), .val (.bool true), .val (.bool true), .val (.agg (ptc pc)), .prop (fun w v => IsVals w v ((ptBytes pc).map VB)) (fun _ _ _ hb h => h.below hb), .val (textV (ptBytes pc)), .val (v), .val (textV (l)), .val (.bool true), .val (.bool true), .val (.bool true)] rfl (by kernel_rfl) (by kernel_rfl) (by kernel_rfl) (by kernel_rfl) rfl (by intro s hs; cases hs) (steps_all ⟨?_, ?_, ?_, ?_, ?_, ?_, ?_, ?_, ?_, ?_, ?_, trivial⟩) ?_
  · intro A W hsz hoth hbel hX hdep
    exact kLoadRow _ _ _ _ _ _ rfl rfl ((hoth 9 (free2_of (by kernel_rfl))).trans rfl) ((hM15.get 0 rfl).on hbel) Tryd.underlying30 rfl (info_ptc _) (symVT hX hsz rfl (show 49 < 109 by decide) rfl (Below.refl _ _) rfl)
  · intro A W hsz hoth hbel hX hdep
    refine kCall1 24 _ _ _ rfl rfl (by kernel_rfl) (by have h := hdep ⟨0, .data⟩ (by simp) rfl; exact h) ?_
    refine (eOn_pt opc W).mono ?_
    rintro e r ⟨rfl, hBc⟩
    exact ⟨_, rfl, (symVT hX hsz rfl (show 50 < 109 by decide) rfl hBc rfl)⟩
  · intro A W hsz hoth hbel hX hdep
    exact kMoveV _ (.bool true) rfl rfl (by have h := hdep ⟨1, .data⟩ (by simp) rfl; exact h) (symVT hX hsz rfl (show 51 < 109 by decide) rfl (Below.refl _ _) rfl)
  · intro A W hsz hoth hbel hX hdep
    exact kLoadRow _ _ _ _ _ _ rfl (wanted_of rfl rfl (by have h := hdep ⟨2, .guard⟩ (by simp) rfl; exact h)) ((hoth 9 (free2_of (by kernel_rfl))).trans rfl) ((hM15.get 0 rfl).on hbel) Tryd.underlying30 rfl (info_ptc _) (symVT hX hsz rfl (show 52 < 109 by decide) rfl (Below.refl _ _) rfl)
  · intro A W hsz hoth hbel hX hdep
    refine kCall1 29 _ _ _ rfl (wanted_of rfl rfl (by have h := hdep ⟨2, .chain⟩ (by simp) rfl; exact h)) (by kernel_rfl) (by have h := hdep ⟨3, .data⟩ (by simp) rfl; exact h) ?_
    refine (eBytes_any pc W).mono ?_
    rintro e r ⟨xx, rfl, hNx, hBc⟩
    exact ⟨_, rfl, (symVT hX hsz rfl (show 53 < 109 by decide) rfl hBc hNx)⟩
  · intro A W hsz hoth hbel hX hdep
    have hS53 := (show IsVals W (A.tmps.getD 53 undef) ((ptBytes pc).map VB) from (by have h := hdep ⟨4, .data⟩ (by simp) rfl; exact h))
    exact kToString _ _ _ _ (A.tmps.getD 53 undef) (ptBytes pc) rfl (wanted_of rfl rfl (by have h := hdep ⟨2, .guard⟩ (by simp) rfl; exact h)) rfl hS53 Tryd.underlying48 Tryd.underlying5 Tryd.underlying9 (symVT hX hsz rfl (show 54 < 109 by decide) rfl (Below.refl _ _) rfl)
  · intro A W hsz hoth hbel hX hdep
    exact kMoveV _ (v) rfl (wanted_of rfl rfl (by have h := hdep ⟨2, .guard⟩ (by simp) rfl; exact h)) ((hoth 1 (free2_of (by kernel_rfl))).trans rfl) (symVT hX hsz rfl (show 55 < 109 by decide) rfl (Below.refl _ _) rfl)
  · intro A W hsz hoth hbel hX hdep
    exact kToString _ _ _ _ _ (l) rfl (wanted_of rfl rfl (by have h := hdep ⟨2, .guard⟩ (by simp) rfl; exact h)) (by have h := hdep ⟨6, .data⟩ (by simp) rfl; exact h) (((((hv.below hM6.below).below hM11.below).below hM15.below).below hbel)) Tryd.underlying48 Tryd.underlying5 Tryd.underlying9 (symVT hX hsz rfl (show 56 < 109 by decide) rfl (Below.refl _ _) rfl)
  · intro A W hsz hoth hbel hX hdep
    exact kEqlStr _ _ _ _ (ptBytes pc) (l) true rfl (wanted_of rfl rfl (by have h := hdep ⟨2, .guard⟩ (by simp) rfl; exact h)) (by have h := hdep ⟨5, .data⟩ (by simp) rfl; exact h) (by have h := hdep ⟨7, .data⟩ (by simp) rfl; exact h) (h57.out) (symVT hX hsz rfl (show 57 < 109 by decide) rfl (Below.refl _ _) rfl)
  · intro A W hsz hoth hbel hX hdep
    exact kPick _ _ _ true (.bool true) rfl rfl (by have h := hdep ⟨2, .data⟩ (by simp) rfl; exact h) (by have h := hdep ⟨8, .data⟩ (by simp) rfl; exact h) (symVT hX hsz rfl (show 58 < 109 by decide) rfl (Below.refl _ _) rfl)
  · intro A W hsz hoth hbel hX hdep
    exact kAssignV _ (.bool true) rfl rfl (by have h := hdep ⟨9, .data⟩ (by simp) rfl; exact h) (symVT hX hsz rfl (show 4 < 109 by decide) rfl (Below.refl _ _) rfl)
  intro w16 hB16
  dsimp only [AllV]
  intro x16_53 hN16_53
  intro hap
  dsimp only [putAll, List.take, List.drop]
  go_frame
  have hM16 := hM15.on hB16
  clear hB16 hM15 hap
  have hM17 := mm_nil w16
  go_wp2_with fail
  go_ret
  exact ⟨rfl, ((((((hM6.below).trans (hM11.below.mono (hM6.below).size))).trans (hM16.below.mono (((hM6.below).trans (hM11.below.mono (hM6.below).size))).size))).trans (hM17.below.mono (((((hM6.below).trans (hM11.below.mono (hM6.below).size))).trans (hM16.below.mono (((hM6.below).trans (hM11.below.mono (hM6.below).size))).size))).size))⟩
set_option maxRecDepth 100000 in
set_option maxHeartbeats 8000000 in
theorem CurveBytes_len {k1 : Nat} (hk1 : k1 < 65536) (b1 : Bool) {l : List UInt8} {v : Value} (h33 : l.length ≠ 33) (hl : l.length ≤ 100) (hp : parseL l = none) (w : World) (hG : Glob 2 PP w) (hO : GlobP 0 0 0 true w) (hB : GlobPt 1 gPt w) (hv : IsVals w v (l.map VB)) :
    Calls Tryd.prog 7 #[.agg #[.int .u16 (k1 : Int), .bool b1], v] w fun e w' => e = .returned (.bool true) ∧ Below w.heap.size w w' := by
  obtain ⟨pa, HP1⟩ : ∃ q, Hid (pick k1 b1 = q) := ⟨_, Lib.hid rfl⟩
  have opa : pa.On := by rw [← HP1.out]; exact pick_on _ _
  obtain ⟨L, HL⟩ : ∃ n, Hid ((l.map VB).length = n) := ⟨_, Lib.hid rfl⟩
  have hL : L = l.length := by rw [← HL.out, List.length_map]
  have F17 := Lib.hid (show decide ((L : Int) > 100) = false from decide_eq_false (by omega))
  have hpa := Lib.hid (parse_bytes opa)
  have hpl := Lib.hid hp
  have h107 := Lib.hid (show (l != [0]) = true by simpa using parse_zero hp)
  have F61 := Lib.hid (show decide ((L : Int) = 33) = false from decide_eq_false (by omega))
  clear hp h33
  have hM0 := mm_nil w
  (try unfold WV)
  go_enter Tryd.func7, Tryd.ntmps7
  go_wp2_with (first
    | ((with_reducible change wpList _ _ _ (Oper.mk (some 2) _ _ _ _ _ :: _) _ _); refine mmBox hM0 _ _ (#[.int .u16 ((k1 : Int)), .bool b1]) rfl rfl rfl ?_; intro w1 hM1; clear hM0; go_frame)
    | (go_at_call 15; refine (curveAlive_pt _ (hG.below hM1.below) (hO.below hM1.below) (hB.below hM1.below)).mono ?_; rintro e w2 ⟨rfl, hB2⟩; have hM2 := hM1.on hB2; clear hB2 hM1; (try unfold WV); go_frame)
    | ((with_reducible change wpList _ _ _ (Oper.mk (some 16) _ _ _ _ _ :: _) _ _); refine kLenN _ _ _ _ _ L rfl rfl rfl ((hv.below hM2.below)) HL.out Tryd.underlying48 ?_; go_frame)
    | ((with_reducible change wpList _ _ _ (Oper.mk (some 17) _ _ _ _ _ :: _) _ _); refine kGtrI _ _ _ _ .i64 _ _ false rfl rfl rfl rfl (F17.out) ?_; go_frame)
    | ((with_reducible change wpList _ _ _ (Oper.mk (some 18) _ _ _ _ _ :: _) _ _); refine kLoadRow _ _ _ _ _ _ rfl rfl rfl (hM2.get 0 rfl) Tryd.underlying41 rfl (info_PickC _ _) ?_; go_frame)
    | (go_at_call 19; (with_reducible change Calls _ _ #[Value.agg (#[.int .u16 ((k1 : Int)), .bool b1])] _ _); refine (pickOf_q hk1 b1 HP1.out _).mono ?_; rintro e w3 ⟨rfl, hB3⟩; have hM3 := hM2.on hB3; clear hB3 hM2; (try unfold WV); go_frame)
    | ((with_reducible change wpList _ _ _ (Oper.mk (some 5) _ _ _ _ _ :: _) _ _); refine mmAlloc hM3 _ _ rfl rfl zero_Point ?_; intro w4 hM4; clear hM3; go_frame)
    | ((with_reducible change wpList _ _ _ (Oper.mk none (Op.store _ (Operand.tmp 5) (Operand.tmp 19)) _ _ _ _ :: _) _ _); refine mmStoreAt hM4 0 _ _ _ _ _ _ (ptc pa) rfl rfl rfl rfl rfl (info_ptc _) (by simp only [pcells_size, ptc_size]) (ptc_one _) ?_; intro w5 hM5; dsimp only [List.set] at hM5; clear hM4; go_frame)
    | ((with_reducible change wpList _ _ _ (Oper.mk (some 20) _ _ _ _ _ :: _) _ _); refine kLoadRow _ _ _ _ _ _ rfl rfl rfl (hM5.get 0 rfl) Tryd.underlying30 rfl (info_ptc _) ?_; go_frame)
    | (go_at_call 28; (with_reducible change Calls _ _ #[Value.agg (ptc pa)] _ _); refine (cBytes_any pa _ (hO.below hM5.below)).mono ?_; rintro e w6 ⟨x6, rfl, hN6, hB6⟩; have hM6 := hM5.on hB6; clear hB6 hM5; have hM7 := mm_nil w6; go_frame)
    | (go_at_call 12; (with_reducible change Calls _ _ #[x6] _ _); refine (cParse_some hpa.out _ ((hG.below hM6.below).below hM7.below) ((hO.below hM6.below).below hM7.below) (hN6.below hM7.below)).mono ?_; rintro e w8 ⟨rfl, hB8⟩; have hM8 := hM7.on hB8; clear hB8 hM7; (try unfold WV); go_frame)
    | ((with_reducible change wpList _ _ _ (Oper.mk (some 7) _ _ _ _ _ :: _) _ _); refine mmAlloc hM8 _ _ rfl rfl zero_Point ?_; intro w9 hM9; clear hM8; go_frame)
    | ((with_reducible change wpList _ _ _ (Oper.mk none (Op.store _ (Operand.tmp 7) (Operand.tmp 25)) _ _ _ _ :: _) _ _); refine mmStoreAt hM9 0 _ _ _ _ _ _ (ptc pa) rfl rfl rfl rfl rfl (info_ptc _) (by simp only [pcells_size, ptc_size]) (ptc_one _) ?_; intro w10 hM10; dsimp only [List.set] at hM10; clear hM9; go_frame))
  refine region_symT 15 _ [] [] [.val (x6), .val (textV (ptBytes pa)), .val (.agg (ptc pa)), .prop (fun w v => IsVals w v ((ptBytes pa).map VB)) (fun _ _ _ hb h => h.below hb), .val (textV (ptBytes pa)), .val (.bool false), .val (.bool false), .val (.int .i64 (0)), .val (.bool false), .val (.bool false), .val (.bool false), .val (.agg (ptc pa)), .val (.agg (ptc pa)), .val (.bool false), .val (.bool false)] rfl (by kernel_rfl) (by kernel_rfl) (by kernel_rfl) (by kernel_rfl) rfl (by intro s hs; cases hs) (steps_all ⟨?_, ?_, ?_, ?_, ?_, ?_, ?_, ?_, ?_, ?_, ?_, ?_, ?_, ?_, ?_, trivial⟩) ?_
  · intro A W hsz hoth hbel hX hdep
    exact kMoveV _ (x6) rfl rfl ((hoth 6 (free2_of (by kernel_rfl))).trans rfl) (symVT hX hsz rfl (show 27 < 109 by decide) rfl (Below.refl _ _) rfl)
  · intro A W hsz hoth hbel hX hdep
    exact kToString _ _ _ _ _ (ptBytes pa) rfl rfl (by have h := hdep ⟨0, .data⟩ (by simp) rfl; exact h) (((hN6.below hM10.below).below hbel)) Tryd.underlying48 Tryd.underlying5 Tryd.underlying9 (symVT hX hsz rfl (show 28 < 109 by decide) rfl (Below.refl _ _) rfl)
  · intro A W hsz hoth hbel hX hdep
    exact kLoadRow _ _ _ _ _ _ rfl rfl ((hoth 5 (free2_of (by kernel_rfl))).trans rfl) (((hM6.get 0 rfl).on hM10.below).on hbel) Tryd.underlying30 rfl (info_ptc _) (symVT hX hsz rfl (show 29 < 109 by decide) rfl (Below.refl _ _) rfl)
  · intro A W hsz hoth hbel hX hdep
    refine kCall1 29 _ _ _ rfl rfl (by kernel_rfl) (by have h := hdep ⟨2, .data⟩ (by simp) rfl; exact h) ?_
    refine (eBytes_any pa W).mono ?_
    rintro e r ⟨xx, rfl, hNx, hBc⟩
    exact ⟨_, rfl, (symVT hX hsz rfl (show 30 < 109 by decide) rfl hBc hNx)⟩
  · intro A W hsz hoth hbel hX hdep
    have hS30 := (show IsVals W (A.tmps.getD 30 undef) ((ptBytes pa).map VB) from (by have h := hdep ⟨3, .data⟩ (by simp) rfl; exact h))
    exact kToString _ _ _ _ (A.tmps.getD 30 undef) (ptBytes pa) rfl rfl rfl hS30 Tryd.underlying48 Tryd.underlying5 Tryd.underlying9 (symVT hX hsz rfl (show 31 < 109 by decide) rfl (Below.refl _ _) rfl)
  · intro A W hsz hoth hbel hX hdep
    exact kNeqStr _ _ _ _ (ptBytes pa) (ptBytes pa) false rfl rfl (by have h := hdep ⟨1, .data⟩ (by simp) rfl; exact h) (by have h := hdep ⟨4, .data⟩ (by simp) rfl; exact h) (by simp) (symVT hX hsz rfl (show 32 < 109 by decide) rfl (Below.refl _ _) rfl)
  · intro A W hsz hoth hbel hX hdep
    exact kMoveV _ (.bool false) rfl rfl (by have h := hdep ⟨5, .data⟩ (by simp) rfl; exact h) (symVT hX hsz rfl (show 33 < 109 by decide) rfl (Below.refl _ _) rfl)
  · intro A W hsz hoth hbel hX hdep
    exact kMoveV _ (.int .i64 (0)) rfl (wanted_of rfl rfl (by have h := hdep ⟨6, .guard⟩ (by simp) rfl; exact h)) ((hoth 8 (free2_of (by kernel_rfl))).trans rfl) (symVT hX hsz rfl (show 34 < 109 by decide) rfl (Below.refl _ _) rfl)
  · intro A W hsz hoth hbel hX hdep
    exact kNeqI _ _ _ _ .i64 (0) (0) false rfl (wanted_of rfl rfl (by have h := hdep ⟨6, .guard⟩ (by simp) rfl; exact h)) (by have h := hdep ⟨7, .data⟩ (by simp) rfl; exact h) rfl (by decide) (symVT hX hsz rfl (show 35 < 109 by decide) rfl (Below.refl _ _) rfl)
  · intro A W hsz hoth hbel hX hdep
    exact kPick _ _ _ false (.bool false) rfl rfl (by have h := hdep ⟨6, .data⟩ (by simp) rfl; exact h) (by have h := hdep ⟨8, .data⟩ (by simp) rfl; exact h) (symVT hX hsz rfl (show 36 < 109 by decide) rfl (Below.refl _ _) rfl)
  · intro A W hsz hoth hbel hX hdep
    exact kMoveV _ (.bool false) rfl rfl (by have h := hdep ⟨9, .data⟩ (by simp) rfl; exact h) (symVT hX hsz rfl (show 37 < 109 by decide) rfl (Below.refl _ _) rfl)
  · intro A W hsz hoth hbel hX hdep
    exact kLoadRow _ _ _ _ _ _ rfl (wanted_of rfl rfl (by have h := hdep ⟨10, .guard⟩ (by simp) rfl; exact h)) ((hoth 7 (free2_of (by kernel_rfl))).trans rfl) ((hM10.get 0 rfl).on hbel) Tryd.underlying30 rfl (info_ptc _) (symVT hX hsz rfl (show 38 < 109 by decide) rfl (Below.refl _ _) rfl)
  · intro A W hsz hoth hbel hX hdep
    exact kLoadRow _ _ _ _ _ _ rfl (wanted_of rfl rfl (by have h := hdep ⟨10, .guard⟩ (by simp) rfl; exact h)) ((hoth 5 (free2_of (by kernel_rfl))).trans rfl) (((hM6.get 0 rfl).on hM10.below).on hbel) Tryd.underlying30 rfl (info_ptc _) (symVT hX hsz rfl (show 39 < 109 by decide) rfl (Below.refl _ _) rfl)
  · intro A W hsz hoth hbel hX hdep
    exact kNeqPt _ _ _ pa pa false rfl (wanted_of rfl rfl (by have h := hdep ⟨10, .guard⟩ (by simp) rfl; exact h)) (by have h := hdep ⟨11, .data⟩ (by simp) rfl; exact h) (by have h := hdep ⟨12, .data⟩ (by simp) rfl; exact h) (ne_no rfl) (symVT hX hsz rfl (show 40 < 109 by decide) rfl (Below.refl _ _) rfl)
  · intro A W hsz hoth hbel hX hdep
    exact kPick _ _ _ false (.bool false) rfl rfl (by have h := hdep ⟨10, .data⟩ (by simp) rfl; exact h) (by have h := hdep ⟨13, .data⟩ (by simp) rfl; exact h) (symVT hX hsz rfl (show 41 < 109 by decide) rfl (Below.refl _ _) rfl)
  intro w11 hB11
  dsimp only [AllV]
  intro x11_30 hN11_30
  intro hap
  dsimp only [putAll, List.take, List.drop]
  go_frame
  have hM11 := hM10.on hB11
  clear hB11 hM10 hap
  have hM12 := mm_nil w11
  go_wp2_with (first
    | (go_at_call 12; (with_reducible change Calls _ _ #[v] _ _); refine (cParse_no hpl.out _ (((hG.below hM6.below).below hM11.below).below hM12.below) (((hO.below hM6.below).below hM11.below).below hM12.below) (((hv.below hM6.below).below hM11.below).below hM12.below)).mono ?_; rintro e w13 ⟨rfl, hB13⟩; have hM13 := hM12.on hB13; clear hB13 hM12; (try unfold WV); go_frame)
    | ((with_reducible change wpList _ _ _ (Oper.mk (some 9) _ _ _ _ _ :: _) _ _); refine mmAlloc hM13 _ _ rfl rfl zero_Point ?_; intro w14 hM14; clear hM13; go_frame)
    | ((with_reducible change wpList _ _ _ (Oper.mk none (Op.store _ (Operand.tmp 9) (Operand.tmp 45)) _ _ _ _ :: _) _ _); refine mmStoreAt hM14 0 _ _ _ _ _ _ (pcells 0 0 false) rfl rfl rfl rfl rfl (info_PointC _ _ _) (by simp only [pcells_size]) (pcells_one _ _ _) ?_; intro w15 hM15; dsimp only [List.set] at hM15; clear hM14; go_frame)
    | ((with_reducible change wpList _ _ _ (Oper.mk (some 48) _ _ _ _ _ :: _) _ _); refine kEqlI _ _ _ _ .i64 (41) (0) false rfl rfl rfl rfl (by decide) ?_; go_frame)
    | ((with_reducible change wpList _ _ _ (Oper.mk (some 60) _ _ _ _ _ :: _) _ _); refine kLenN _ _ _ _ _ L rfl rfl rfl ((((hv.below hM6.below).below hM11.below).below hM15.below)) HL.out Tryd.underlying48 ?_; go_frame)
    | ((with_reducible change wpList _ _ _ (Oper.mk (some 61) _ _ _ _ _ :: _) _ _); refine kEqlI _ _ _ _ .i64 ((L : Int)) (33) false rfl rfl rfl rfl (F61.out) ?_; go_frame)
    | ((with_reducible change wpList _ _ _ (Oper.mk (some 98) _ _ _ _ _ :: _) _ _); refine kEqlI _ _ _ _ .i64 (41) (41) true rfl rfl rfl rfl (by decide) ?_; go_frame)
    | ((with_reducible change wpList _ _ _ (Oper.mk (some 100) _ _ _ _ _ :: _) _ _); refine kLoadRow _ _ _ _ _ _ rfl rfl rfl (hM15.get 0 rfl) Tryd.underlying30 rfl (info_PointC _ _ _) ?_; go_frame)
    | ((with_reducible change wpList _ _ _ (Oper.mk (some 101) _ _ _ _ _ :: _) _ _); refine kBuildPoint0 rfl rfl ?_; go_frame)
    | ((with_reducible change wpList _ _ _ (Oper.mk (some 102) _ _ _ _ _ :: _) _ _); refine kEqlP _ _ _ 0 0 false 0 0 false true rfl rfl rfl rfl (eqP_yes ⟨rfl, rfl, rfl⟩) ?_; go_frame)
    | ((with_reducible change wpList _ _ _ (Oper.mk (some 106) _ _ _ _ _ :: _) _ _); refine kToString _ _ _ _ _ (l) rfl rfl rfl ((((hv.below hM6.below).below hM11.below).below hM15.below)) Tryd.underlying48 Tryd.underlying5 Tryd.underlying9 ?_; go_frame)
    | ((with_reducible change wpList _ _ _ (Oper.mk (some 107) _ _ _ _ _ :: _) _ _); refine kNeqStr _ _ _ _ (l) ([0]) true rfl rfl rfl rfl (h107.out) ?_; go_frame))
  go_ret
  exact ⟨rfl, ((((hM6.below).trans (hM11.below.mono (hM6.below).size))).trans (hM15.below.mono (((hM6.below).trans (hM11.below.mono (hM6.below).size))).size))⟩
set_option maxRecDepth 100000 in
set_option maxHeartbeats 8000000 in
theorem CurveBytes_first {k1 : Nat} (hk1 : k1 < 65536) (b1 : Bool) {l : List UInt8} {v : Value} {c0 : UInt8} {r : List UInt8} (hlc : l = c0 :: r) (hr : r.length = 32) (h2 : c0 ≠ 2) (h3 : c0 ≠ 3) (hl : l.length ≤ 100) (hp : parseL l = none) (w : World) (hG : Glob 2 PP w) (hO : GlobP 0 0 0 true w) (hB : GlobPt 1 gPt w) (hv : IsVals w v (l.map VB)) :
    Calls Tryd.prog 7 #[.agg #[.int .u16 (k1 : Int), .bool b1], v] w fun e w' => e = .returned (.bool true) ∧ Below w.heap.size w w' := by
  obtain ⟨pa, HP1⟩ : ∃ q, Hid (pick k1 b1 = q) := ⟨_, Lib.hid rfl⟩
  have opa : pa.On := by rw [← HP1.out]; exact pick_on _ _
  obtain ⟨L, HL⟩ : ∃ n, Hid ((l.map VB).length = n) := ⟨_, Lib.hid rfl⟩
  have hL : L = l.length := by rw [← HL.out, List.length_map]
  have F17 := Lib.hid (show decide ((L : Int) > 100) = false from decide_eq_false (by omega))
  have hpa := Lib.hid (parse_bytes opa)
  have hpl := Lib.hid hp
  have h107 := Lib.hid (show (l != [0]) = true by simpa using parse_zero hp)
  have hL1 : L = 33 := by rw [hL, hlc]; simp [hr]
  have F61 := Lib.hid (show decide ((L : Int) = 33) = true from decide_eq_true (by omega))
  obtain ⟨b0, cap0, hv0, hcell⟩ : ∃ b0 cap0, v = .slice (some b0) (32 + 1) cap0 ∧ w.cell? b0 = some (VB c0) := by
    have hv1 := hv
    rw [hlc] at hv1
    obtain ⟨ao, cp, e, _, _, hj⟩ := hv1
    obtain ⟨b, rfl, hcl⟩ := hj 0 (VB c0) rfl
    refine ⟨b, cp, ?_, hcl⟩
    rw [e]; simp [hr]
  have Hv0 := Lib.hid hv0
  have hc0 : AtCell w b0 c0 := ⟨hcell⟩
  clear hv0 hcell
  have Hc2 := Lib.hid (show decide (c0 = UInt8.ofNat 2) = false from decide_eq_false h2)
  have Hc3 := Lib.hid (show decide (c0 = UInt8.ofNat 3) = false from decide_eq_false h3)
  clear hp h2 h3 hlc hr
  have hM0 := mm_nil w
  (try unfold WV)
  go_enter Tryd.func7, Tryd.ntmps7
  go_wp2_with (first
    | ((with_reducible change wpList _ _ _ (Oper.mk (some 2) _ _ _ _ _ :: _) _ _); refine mmBox hM0 _ _ (#[.int .u16 ((k1 : Int)), .bool b1]) rfl rfl rfl ?_; intro w1 hM1; clear hM0; go_frame)
    | (go_at_call 15; refine (curveAlive_pt _ (hG.below hM1.below) (hO.below hM1.below) (hB.below hM1.below)).mono ?_; rintro e w2 ⟨rfl, hB2⟩; have hM2 := hM1.on hB2; clear hB2 hM1; (try unfold WV); go_frame)
    | ((with_reducible change wpList _ _ _ (Oper.mk (some 16) _ _ _ _ _ :: _) _ _); refine kLenN _ _ _ _ _ L rfl rfl rfl ((hv.below hM2.below)) HL.out Tryd.underlying48 ?_; go_frame)
    | ((with_reducible change wpList _ _ _ (Oper.mk (some 17) _ _ _ _ _ :: _) _ _); refine kGtrI _ _ _ _ .i64 _ _ false rfl rfl rfl rfl (F17.out) ?_; go_frame)
    | ((with_reducible change wpList _ _ _ (Oper.mk (some 18) _ _ _ _ _ :: _) _ _); refine kLoadRow _ _ _ _ _ _ rfl rfl rfl (hM2.get 0 rfl) Tryd.underlying41 rfl (info_PickC _ _) ?_; go_frame)
    | (go_at_call 19; (with_reducible change Calls _ _ #[Value.agg (#[.int .u16 ((k1 : Int)), .bool b1])] _ _); refine (pickOf_q hk1 b1 HP1.out _).mono ?_; rintro e w3 ⟨rfl, hB3⟩; have hM3 := hM2.on hB3; clear hB3 hM2; (try unfold WV); go_frame)
    | ((with_reducible change wpList _ _ _ (Oper.mk (some 5) _ _ _ _ _ :: _) _ _); refine mmAlloc hM3 _ _ rfl rfl zero_Point ?_; intro w4 hM4; clear hM3; go_frame)
    | ((with_reducible change wpList _ _ _ (Oper.mk none (Op.store _ (Operand.tmp 5) (Operand.tmp 19)) _ _ _ _ :: _) _ _); refine mmStoreAt hM4 0 _ _ _ _ _ _ (ptc pa) rfl rfl rfl rfl rfl (info_ptc _) (by simp only [pcells_size, ptc_size]) (ptc_one _) ?_; intro w5 hM5; dsimp only [List.set] at hM5; clear hM4; go_frame)
    | ((with_reducible change wpList _ _ _ (Oper.mk (some 20) _ _ _ _ _ :: _) _ _); refine kLoadRow _ _ _ _ _ _ rfl rfl rfl (hM5.get 0 rfl) Tryd.underlying30 rfl (info_ptc _) ?_; go_frame)
    | (go_at_call 28; (with_reducible change Calls _ _ #[Value.agg (ptc pa)] _ _); refine (cBytes_any pa _ (hO.below hM5.below)).mono ?_; rintro e w6 ⟨x6, rfl, hN6, hB6⟩; have hM6 := hM5.on hB6; clear hB6 hM5; have hM7 := mm_nil w6; go_frame)
    | (go_at_call 12; (with_reducible change Calls _ _ #[x6] _ _); refine (cParse_some hpa.out _ ((hG.below hM6.below).below hM7.below) ((hO.below hM6.below).below hM7.below) (hN6.below hM7.below)).mono ?_; rintro e w8 ⟨rfl, hB8⟩; have hM8 := hM7.on hB8; clear hB8 hM7; (try unfold WV); go_frame)
    | ((with_reducible change wpList _ _ _ (Oper.mk (some 7) _ _ _ _ _ :: _) _ _); refine mmAlloc hM8 _ _ rfl rfl zero_Point ?_; intro w9 hM9; clear hM8; go_frame)
    | ((with_reducible change wpList _ _ _ (Oper.mk none (Op.store _ (Operand.tmp 7) (Operand.tmp 25)) _ _ _ _ :: _) _ _); refine mmStoreAt hM9 0 _ _ _ _ _ _ (ptc pa) rfl rfl rfl rfl rfl (info_ptc _) (by simp only [pcells_size, ptc_size]) (ptc_one _) ?_; intro w10 hM10; dsimp only [List.set] at hM10; clear hM9; go_frame))
  refine region_symT 15 _ [] [] [.val (x6), .val (textV (ptBytes pa)), .val (.agg (ptc pa)), .prop (fun w v => IsVals w v ((ptBytes pa).map VB)) (fun _ _ _ hb h => h.below hb), .val (textV (ptBytes pa)), .val (.bool false), .val (.bool false), .val (.int .i64 (0)), .val (.bool false), .val (.bool false), .val (.bool false), .val (.agg (ptc pa)), .val (.agg (ptc pa)), .val (.bool false), .val (.bool false)] rfl (by kernel_rfl) (by kernel_rfl) (by kernel_rfl) (by kernel_rfl) rfl (by intro s hs; cases hs) (steps_all ⟨?_, ?_, ?_, ?_, ?_, ?_, ?_, ?_, ?_, ?_, ?_, ?_, ?_, ?_, ?_, trivial⟩) ?_
  · intro A W hsz hoth hbel hX hdep
    exact kMoveV _ (x6) rfl rfl ((hoth 6 (free2_of (by kernel_rfl))).trans rfl) (symVT hX hsz rfl (show 27 < 109 by decide) rfl (Below.refl _ _) rfl)
  · intro A W hsz hoth hbel hX hdep
    exact kToString _ _ _ _ _ (ptBytes pa) rfl rfl (by have h := hdep ⟨0, .data⟩ (by simp) rfl; exact h) (((hN6.below hM10.below).below hbel)) Tryd.underlying48 Tryd.underlying5 Tryd.underlying9 (symVT hX hsz rfl (show 28 < 109 by decide) rfl (Below.refl _ _) rfl)
  · intro A W hsz hoth hbel hX hdep
    exact kLoadRow _ _ _ _ _ _ rfl rfl ((hoth 5 (free2_of (by kernel_rfl))).trans rfl) (((hM6.get 0 rfl).on hM10.below).on hbel) Tryd.underlying30 rfl (info_ptc _) (symVT hX hsz rfl (show 29 < 109 by decide) rfl (Below.refl _ _) rfl)
  · intro A W hsz hoth hbel hX hdep
    refine kCall1 29 _ _ _ rfl rfl (by kernel_rfl) (by have h := hdep ⟨2, .data⟩ (by simp) rfl; exact h) ?_
    refine (eBytes_any pa W).mono ?_
    rintro e r ⟨xx, rfl, hNx, hBc⟩
    exact ⟨_, rfl, (symVT hX hsz rfl (show 30 < 109 by decide) rfl hBc hNx)⟩
  · intro A W hsz hoth hbel hX hdep
    have hS30 := (show IsVals W (A.tmps.getD 30 undef) ((ptBytes pa).map VB) from (by have h := hdep ⟨3, .data⟩ (by simp) rfl; exact h))
    exact kToString _ _ _ _ (A.tmps.getD 30 undef) (ptBytes pa) rfl rfl rfl hS30 Tryd.underlying48 Tryd.underlying5 Tryd.underlying9 (symVT hX hsz rfl (show 31 < 109 by decide) rfl (Below.refl _ _) rfl)
  · intro A W hsz hoth hbel hX hdep
    exact kNeqStr _ _ _ _ (ptBytes pa) (ptBytes pa) false rfl rfl (by have h := hdep ⟨1, .data⟩ (by simp) rfl; exact h) (by have h := hdep ⟨4, .data⟩ (by simp) rfl; exact h) (by simp) (symVT hX hsz rfl (show 32 < 109 by decide) rfl (Below.refl _ _) rfl)
  · intro A W hsz hoth hbel hX hdep
    exact kMoveV _ (.bool false) rfl rfl (by have h := hdep ⟨5, .data⟩ (by simp) rfl; exact h) (symVT hX hsz rfl (show 33 < 109 by decide) rfl (Below.refl _ _) rfl)
  · intro A W hsz hoth hbel hX hdep
    exact kMoveV _ (.int .i64 (0)) rfl (wanted_of rfl rfl (by have h := hdep ⟨6, .guard⟩ (by simp) rfl; exact h)) ((hoth 8 (free2_of (by kernel_rfl))).trans rfl) (symVT hX hsz rfl (show 34 < 109 by decide) rfl (Below.refl _ _) rfl)
  · intro A W hsz hoth hbel hX hdep
    exact kNeqI _ _ _ _ .i64 (0) (0) false rfl (wanted_of rfl rfl (by have h := hdep ⟨6, .guard⟩ (by simp) rfl; exact h)) (by have h := hdep ⟨7, .data⟩ (by simp) rfl; exact h) rfl (by decide) (symVT hX hsz rfl (show 35 < 109 by decide) rfl (Below.refl _ _) rfl)
  · intro A W hsz hoth hbel hX hdep
    exact kPick _ _ _ false (.bool false) rfl rfl (by have h := hdep ⟨6, .data⟩ (by simp) rfl; exact h) (by have h := hdep ⟨8, .data⟩ (by simp) rfl; exact h) (symVT hX hsz rfl (show 36 < 109 by decide) rfl (Below.refl _ _) rfl)
  · intro A W hsz hoth hbel hX hdep
    exact kMoveV _ (.bool false) rfl rfl (by have h := hdep ⟨9, .data⟩ (by simp) rfl; exact h) (symVT hX hsz rfl (show 37 < 109 by decide) rfl (Below.refl _ _) rfl)
  · intro A W hsz hoth hbel hX hdep
    exact kLoadRow _ _ _ _ _ _ rfl (wanted_of rfl rfl (by have h := hdep ⟨10, .guard⟩ (by simp) rfl; exact h)) ((hoth 7 (free2_of (by kernel_rfl))).trans rfl) ((hM10.get 0 rfl).on hbel) Tryd.underlying30 rfl (info_ptc _) (symVT hX hsz rfl (show 38 < 109 by decide) rfl (Below.refl _ _) rfl)
  · intro A W hsz hoth hbel hX hdep
    exact kLoadRow _ _ _ _ _ _ rfl (wanted_of rfl rfl (by have h := hdep ⟨10, .guard⟩ (by simp) rfl; exact h)) ((hoth 5 (free2_of (by kernel_rfl))).trans rfl) (((hM6.get 0 rfl).on hM10.below).on hbel) Tryd.underlying30 rfl (info_ptc _) (symVT hX hsz rfl (show 39 < 109 by decide) rfl (Below.refl _ _) rfl)
  · intro A W hsz hoth hbel hX hdep
    exact kNeqPt _ _ _ pa pa false rfl (wanted_of rfl rfl (by have h := hdep ⟨10, .guard⟩ (by simp) rfl; exact h)) (by have h := hdep ⟨11, .data⟩ (by simp) rfl; exact h) (by have h := hdep ⟨12, .data⟩ (by simp) rfl; exact h) (ne_no rfl) (symVT hX hsz rfl (show 40 < 109 by decide) rfl (Below.refl _ _) rfl)
  · intro A W hsz hoth hbel hX hdep
    exact kPick _ _ _ false (.bool false) rfl rfl (by have h := hdep ⟨10, .data⟩ (by simp) rfl; exact h) (by have h := hdep ⟨13, .data⟩ (by simp) rfl; exact h) (symVT hX hsz rfl (show 41 < 109 by decide) rfl (Below.refl _ _) rfl)
  intro w11 hB11
  dsimp only [AllV]
  intro x11_30 hN11_30
  intro hap
  dsimp only [putAll, List.take, List.drop]
  go_frame
  have hM11 := hM10.on hB11
  clear hB11 hM10 hap
  have hM12 := mm_nil w11
  go_wp2_with (first
    | (go_at_call 12; (with_reducible change Calls _ _ #[v] _ _); refine (cParse_no hpl.out _ (((hG.below hM6.below).below hM11.below).below hM12.below) (((hO.below hM6.below).below hM11.below).below hM12.below) (((hv.below hM6.below).below hM11.below).below hM12.below)).mono ?_; rintro e w13 ⟨rfl, hB13⟩; have hM13 := hM12.on hB13; clear hB13 hM12; (try unfold WV); go_frame)
    | ((with_reducible change wpList _ _ _ (Oper.mk (some 9) _ _ _ _ _ :: _) _ _); refine mmAlloc hM13 _ _ rfl rfl zero_Point ?_; intro w14 hM14; clear hM13; go_frame)
    | ((with_reducible change wpList _ _ _ (Oper.mk none (Op.store _ (Operand.tmp 9) (Operand.tmp 45)) _ _ _ _ :: _) _ _); refine mmStoreAt hM14 0 _ _ _ _ _ _ (pcells 0 0 false) rfl rfl rfl rfl rfl (info_PointC _ _ _) (by simp only [pcells_size]) (pcells_one _ _ _) ?_; intro w15 hM15; dsimp only [List.set] at hM15; clear hM14; go_frame)
    | ((with_reducible change wpList _ _ _ (Oper.mk (some 48) _ _ _ _ _ :: _) _ _); refine kEqlI _ _ _ _ .i64 (41) (0) false rfl rfl rfl rfl (by decide) ?_; go_frame)
    | ((with_reducible change wpList _ _ _ (Oper.mk (some 60) _ _ _ _ _ :: _) _ _); refine kLenN _ _ _ _ _ L rfl rfl rfl ((((hv.below hM6.below).below hM11.below).below hM15.below)) HL.out Tryd.underlying48 ?_; go_frame)
    | ((with_reducible change wpList _ _ _ (Oper.mk (some 61) _ _ _ _ _ :: _) _ _); refine kEqlI _ _ _ _ .i64 ((L : Int)) (33) true rfl rfl rfl rfl (F61.out) ?_; go_frame)
    | ((with_reducible change wpList _ _ _ (Oper.mk (some 64) _ _ _ _ _ :: _) _ _); refine kIndexHead _ _ _ b0 32 cap0 Hv0.out rfl rfl rfl rfl ?_; go_frame)
    | ((with_reducible change wpList _ _ _ (Oper.mk (some 65) _ _ _ _ _ :: _) _ _); refine kLoadCell _ _ _ (VB c0) _ rfl rfl rfl ((((hc0.below hM6.below).below hM11.below).below hM15.below).out) Tryd.underlying5 rfl ?_; go_frame)
    | ((with_reducible change wpList _ _ _ (Oper.mk (some 66) _ _ _ _ _ :: _) _ _); refine kEqlI _ _ _ _ .u8 (B c0) (2) false rfl rfl rfl rfl (B_eq (k := 2) (by decide) Hc2.out) ?_; go_frame)
    | ((with_reducible change wpList _ _ _ (Oper.mk (some 69) _ _ _ _ _ :: _) _ _); refine kIndexHead _ _ _ b0 32 cap0 Hv0.out rfl rfl rfl rfl ?_; go_frame)
    | ((with_reducible change wpList _ _ _ (Oper.mk (some 70) _ _ _ _ _ :: _) _ _); refine kLoadCell _ _ _ (VB c0) _ rfl rfl rfl ((((hc0.below hM6.below).below hM11.below).below hM15.below).out) Tryd.underlying5 rfl ?_; go_frame)
    | ((with_reducible change wpList _ _ _ (Oper.mk (some 71) _ _ _ _ _ :: _) _ _); refine kEqlI _ _ _ _ .u8 (B c0) (3) false rfl rfl rfl rfl (B_eq (k := 3) (by decide) Hc3.out) ?_; go_frame)
    | ((with_reducible change wpList _ _ _ (Oper.mk (some 98) _ _ _ _ _ :: _) _ _); refine kEqlI _ _ _ _ .i64 (41) (41) true rfl rfl rfl rfl (by decide) ?_; go_frame)
    | ((with_reducible change wpList _ _ _ (Oper.mk (some 100) _ _ _ _ _ :: _) _ _); refine kLoadRow _ _ _ _ _ _ rfl rfl rfl (hM15.get 0 rfl) Tryd.underlying30 rfl (info_PointC _ _ _) ?_; go_frame)
    | ((with_reducible change wpList _ _ _ (Oper.mk (some 101) _ _ _ _ _ :: _) _ _); refine kBuildPoint0 rfl rfl ?_; go_frame)
    | ((with_reducible change wpList _ _ _ (Oper.mk (some 102) _ _ _ _ _ :: _) _ _); refine kEqlP _ _ _ 0 0 false 0 0 false true rfl rfl rfl rfl (eqP_yes ⟨rfl, rfl, rfl⟩) ?_; go_frame)
    | ((with_reducible change wpList _ _ _ (Oper.mk (some 106) _ _ _ _ _ :: _) _ _); refine kToString _ _ _ _ _ (l) rfl rfl rfl ((((hv.below hM6.below).below hM11.below).below hM15.below)) Tryd.underlying48 Tryd.underlying5 Tryd.underlying9 ?_; go_frame)
    | ((with_reducible change wpList _ _ _ (Oper.mk (some 107) _ _ _ _ _ :: _) _ _); refine kNeqStr _ _ _ _ (l) ([0]) true rfl rfl rfl rfl (h107.out) ?_; go_frame))
  go_ret
  exact ⟨rfl, ((((hM6.below).trans (hM11.below.mono (hM6.below).size))).trans (hM15.below.mono (((hM6.below).trans (hM11.below.mono (hM6.below).size))).size))⟩
set_option maxRecDepth 100000 in
set_option maxHeartbeats 8000000 in
theorem CurveBytes_two {k1 : Nat} (hk1 : k1 < 65536) (b1 : Bool) {l : List UInt8} {v : Value} {r : List UInt8} (hlc0 : l = 2 :: r) (hr : r.length = 32) (hl : l.length ≤ 100) (hp : parseL l = none) (w : World) (hG : Glob 2 PP w) (hO : GlobP 0 0 0 true w) (hB : GlobPt 1 gPt w) (hv : IsVals w v (l.map VB)) :
    Calls Tryd.prog 7 #[.agg #[.int .u16 (k1 : Int), .bool b1], v] w fun e w' => e = .returned (.bool true) ∧ Below w.heap.size w w' := by
  obtain ⟨pa, HP1⟩ : ∃ q, Hid (pick k1 b1 = q) := ⟨_, Lib.hid rfl⟩
  have opa : pa.On := by rw [← HP1.out]; exact pick_on _ _
  obtain ⟨L, HL⟩ : ∃ n, Hid ((l.map VB).length = n) := ⟨_, Lib.hid rfl⟩
  have hL : L = l.length := by rw [← HL.out, List.length_map]
  have F17 := Lib.hid (show decide ((L : Int) > 100) = false from decide_eq_false (by omega))
  have hpa := Lib.hid (parse_bytes opa)
  have hpl := Lib.hid hp
  have h107 := Lib.hid (show (l != [0]) = true by simpa using parse_zero hp)
  obtain ⟨c0, hc⟩ : ∃ c : UInt8, c = 2 := ⟨_, rfl⟩
  obtain ⟨d0, hd⟩ : ∃ c : UInt8, c = 3 := ⟨_, rfl⟩
  have hlc : l = c0 :: r := by rw [hc]; exact hlc0
  have Hd0 := Lib.hid (show (5 : Int) - B c0 = B d0 by rw [hc, hd]; rfl)
  have hpd := Lib.hid (show parseL (d0 :: r) = none from parse_other hr (c := c0) (by rw [hc]; exact .inl rfl) (by rw [hd]; exact .inr rfl) (by rw [← hlc]; exact hp))
  have hL1 : L = 33 := by rw [hL, hlc]; simp [hr]
  have F61 := Lib.hid (show decide ((L : Int) = 33) = true from decide_eq_true (by omega))
  obtain ⟨b0, cap0, hv0, hcell⟩ : ∃ b0 cap0, v = .slice (some b0) (32 + 1) cap0 ∧ w.cell? b0 = some (VB c0) := by
    have hv1 := hv
    rw [hlc] at hv1
    obtain ⟨ao, cp, e, _, _, hj⟩ := hv1
    obtain ⟨b, rfl, hcl⟩ := hj 0 (VB c0) rfl
    refine ⟨b, cp, ?_, hcl⟩
    rw [e]; simp [hr]
  have Hv0 := Lib.hid hv0
  have hc0 : AtCell w b0 c0 := ⟨hcell⟩
  clear hv0 hcell
  have Hc2 := Lib.hid (show decide (c0 = UInt8.ofNat 2) = true by rw [hc]; rfl)
  have hrn := Lib.hid (show r ≠ [] from fun e => by rw [e] at hr; cases hr)
  obtain ⟨ad, cap, hfrom, -⟩ := from_one (hlc ▸ hv) hr
  have hrv : IsVals w (.slice (some ad) 32 cap) (r.map VB) := by
    have h := isVals_from (n := 1) (hlc ▸ hv : IsVals w v ((c0 :: r).map VB)) (by simp)
    rw [hfrom] at h; exact h
  have Hfrom := Lib.hid hfrom
  clear hfrom hp hlc0 hlc hc hd
  have hM0 := mm_nil w
  (try unfold WV)
  go_enter Tryd.func7, Tryd.ntmps7
  go_wp2_with (first
    | ((with_reducible change wpList _ _ _ (Oper.mk (some 2) _ _ _ _ _ :: _) _ _); refine mmBox hM0 _ _ (#[.int .u16 ((k1 : Int)), .bool b1]) rfl rfl rfl ?_; intro w1 hM1; clear hM0; go_frame)
    | (go_at_call 15; refine (curveAlive_pt _ (hG.below hM1.below) (hO.below hM1.below) (hB.below hM1.below)).mono ?_; rintro e w2 ⟨rfl, hB2⟩; have hM2 := hM1.on hB2; clear hB2 hM1; (try unfold WV); go_frame)
    | ((with_reducible change wpList _ _ _ (Oper.mk (some 16) _ _ _ _ _ :: _) _ _); refine kLenN _ _ _ _ _ L rfl rfl rfl ((hv.below hM2.below)) HL.out Tryd.underlying48 ?_; go_frame)
    | ((with_reducible change wpList _ _ _ (Oper.mk (some 17) _ _ _ _ _ :: _) _ _); refine kGtrI _ _ _ _ .i64 _ _ false rfl rfl rfl rfl (F17.out) ?_; go_frame)
    | ((with_reducible change wpList _ _ _ (Oper.mk (some 18) _ _ _ _ _ :: _) _ _); refine kLoadRow _ _ _ _ _ _ rfl rfl rfl (hM2.get 0 rfl) Tryd.underlying41 rfl (info_PickC _ _) ?_; go_frame)
    | (go_at_call 19; (with_reducible change Calls _ _ #[Value.agg (#[.int .u16 ((k1 : Int)), .bool b1])] _ _); refine (pickOf_q hk1 b1 HP1.out _).mono ?_; rintro e w3 ⟨rfl, hB3⟩; have hM3 := hM2.on hB3; clear hB3 hM2; (try unfold WV); go_frame)
    | ((with_reducible change wpList _ _ _ (Oper.mk (some 5) _ _ _ _ _ :: _) _ _); refine mmAlloc hM3 _ _ rfl rfl zero_Point ?_; intro w4 hM4; clear hM3; go_frame)
    | ((with_reducible change wpList _ _ _ (Oper.mk none (Op.store _ (Operand.tmp 5) (Operand.tmp 19)) _ _ _ _ :: _) _ _); refine mmStoreAt hM4 0 _ _ _ _ _ _ (ptc pa) rfl rfl rfl rfl rfl (info_ptc _) (by simp only [pcells_size, ptc_size]) (ptc_one _) ?_; intro w5 hM5; dsimp only [List.set] at hM5; clear hM4; go_frame)
    | ((with_reducible change wpList _ _ _ (Oper.mk (some 20) _ _ _ _ _ :: _) _ _); refine kLoadRow _ _ _ _ _ _ rfl rfl rfl (hM5.get 0 rfl) Tryd.underlying30 rfl (info_ptc _) ?_; go_frame)
    | (go_at_call 28; (with_reducible change Calls _ _ #[Value.agg (ptc pa)] _ _); refine (cBytes_any pa _ (hO.below hM5.below)).mono ?_; rintro e w6 ⟨x6, rfl, hN6, hB6⟩; have hM6 := hM5.on hB6; clear hB6 hM5; have hM7 := mm_nil w6; go_frame)
    | (go_at_call 12; (with_reducible change Calls _ _ #[x6] _ _); refine (cParse_some hpa.out _ ((hG.below hM6.below).below hM7.below) ((hO.below hM6.below).below hM7.below) (hN6.below hM7.below)).mono ?_; rintro e w8 ⟨rfl, hB8⟩; have hM8 := hM7.on hB8; clear hB8 hM7; (try unfold WV); go_frame)
    | ((with_reducible change wpList _ _ _ (Oper.mk (some 7) _ _ _ _ _ :: _) _ _); refine mmAlloc hM8 _ _ rfl rfl zero_Point ?_; intro w9 hM9; clear hM8; go_frame)
    | ((with_reducible change wpList _ _ _ (Oper.mk none (Op.store _ (Operand.tmp 7) (Operand.tmp 25)) _ _ _ _ :: _) _ _); refine mmStoreAt hM9 0 _ _ _ _ _ _ (ptc pa) rfl rfl rfl rfl rfl (info_ptc _) (by simp only [pcells_size, ptc_size]) (ptc_one _) ?_; intro w10 hM10; dsimp only [List.set] at hM10; clear hM9; go_frame))
  refine region_symT 15 _ [] [] [.val (x6), .val (textV (ptBytes pa)), .val (.agg (ptc pa)), .prop (fun w v => IsVals w v ((ptBytes pa).map VB)) (fun _ _ _ hb h => h.below hb), .val (textV (ptBytes pa)), .val (.bool false), .val (.bool false), .val (.int .i64 (0)), .val (.bool false), .val (.bool false), .val (.bool false), .val (.agg (ptc pa)), .val (.agg (ptc pa)), .val (.bool false), .val (.bool false)] rfl (by kernel_rfl) (by kernel_rfl) (by kernel_rfl) (by kernel_rfl) rfl (by intro s hs; cases hs) (steps_all ⟨?_, ?_, ?_, ?_, ?_, ?_, ?_, ?_, ?_, ?_, ?_, ?_, ?_, ?_, ?_, trivial⟩) ?_
  · intro A W hsz hoth hbel hX hdep
    exact kMoveV _ (x6) rfl rfl ((hoth 6 (free2_of (by kernel_rfl))).trans rfl) (symVT hX hsz rfl (show 27 < 109 by decide) rfl (Below.refl _ _) rfl)
  · intro A W hsz hoth hbel hX hdep
    exact kToString _ _ _ _ _ (ptBytes pa) rfl rfl (by have h := hdep ⟨0, .data⟩ (by simp) rfl; exact h) (((hN6.below hM10.below).below hbel)) Tryd.underlying48 Tryd.underlying5 Tryd.underlying9 (symVT hX hsz rfl (show 28 < 109 by decide) rfl (Below.refl _ _) rfl)
  · intro A W hsz hoth hbel hX hdep
    exact kLoadRow _ _ _ _ _ _ rfl rfl ((hoth 5 (free2_of (by kernel_rfl))).trans rfl) (((hM6.get 0 rfl).on hM10.below).on hbel) Tryd.underlying30 rfl (info_ptc _) (symVT hX hsz rfl (show 29 < 109 by decide) rfl (Below.refl _ _) rfl)
  · intro A W hsz hoth hbel hX hdep
    refine kCall1 29 _ _ _ rfl rfl (by kernel_rfl) (by have h := hdep ⟨2, .data⟩ (by simp) rfl; exact h) ?_
    refine (eBytes_any pa W).mono ?_
    rintro e r ⟨xx, rfl, hNx, hBc⟩
    exact ⟨_, rfl, (symVT hX hsz rfl (show 30 < 109 by decide) rfl hBc hNx)⟩
  · intro A W hsz hoth hbel hX hdep
    have hS30 := (show IsVals W (A.tmps.getD 30 undef) ((ptBytes pa).map VB) from (by have h := hdep ⟨3, .data⟩ (by simp) rfl; exact h))
    exact kToString _ _ _ _ (A.tmps.getD 30 undef) (ptBytes pa) rfl rfl rfl hS30 Tryd.underlying48 Tryd.underlying5 Tryd.underlying9 (symVT hX hsz rfl (show 31 < 109 by decide) rfl (Below.refl _ _) rfl)
  · intro A W hsz hoth hbel hX hdep
    exact kNeqStr _ _ _ _ (ptBytes pa) (ptBytes pa) false rfl rfl (by have h := hdep ⟨1, .data⟩ (by simp) rfl; exact h) (by have h := hdep ⟨4, .data⟩ (by simp) rfl; exact h) (by simp) (symVT hX hsz rfl (show 32 < 109 by decide) rfl (Below.refl _ _) rfl)
  · intro A W hsz hoth hbel hX hdep
    exact kMoveV _ (.bool false) rfl rfl (by have h := hdep ⟨5, .data⟩ (by simp) rfl; exact h) (symVT hX hsz rfl (show 33 < 109 by decide) rfl (Below.refl _ _) rfl)
  · intro A W hsz hoth hbel hX hdep
    exact kMoveV _ (.int .i64 (0)) rfl (wanted_of rfl rfl (by have h := hdep ⟨6, .guard⟩ (by simp) rfl; exact h)) ((hoth 8 (free2_of (by kernel_rfl))).trans rfl) (symVT hX hsz rfl (show 34 < 109 by decide) rfl (Below.refl _ _) rfl)
  · intro A W hsz hoth hbel hX hdep
    exact kNeqI _ _ _ _ .i64 (0) (0) false rfl (wanted_of rfl rfl (by have h := hdep ⟨6, .guard⟩ (by simp) rfl; exact h)) (by have h := hdep ⟨7, .data⟩ (by simp) rfl; exact h) rfl (by decide) (symVT hX hsz rfl (show 35 < 109 by decide) rfl (Below.refl _ _) rfl)
  · intro A W hsz hoth hbel hX hdep
    exact kPick _ _ _ false (.bool false) rfl rfl (by have h := hdep ⟨6, .data⟩ (by simp) rfl; exact h) (by have h := hdep ⟨8, .data⟩ (by simp) rfl; exact h) (symVT hX hsz rfl (show 36 < 109 by decide) rfl (Below.refl _ _) rfl)
  · intro A W hsz hoth hbel hX hdep
    exact kMoveV _ (.bool false) rfl rfl (by have h := hdep ⟨9, .data⟩ (by simp) rfl; exact h) (symVT hX hsz rfl (show 37 < 109 by decide) rfl (Below.refl _ _) rfl)
  · intro A W hsz hoth hbel hX hdep
    exact kLoadRow _ _ _ _ _ _ rfl (wanted_of rfl rfl (by have h := hdep ⟨10, .guard⟩ (by simp) rfl; exact h)) ((hoth 7 (free2_of (by kernel_rfl))).trans rfl) ((hM10.get 0 rfl).on hbel) Tryd.underlying30 rfl (info_ptc _) (symVT hX hsz rfl (show 38 < 109 by decide) rfl (Below.refl _ _) rfl)
  · intro A W hsz hoth hbel hX hdep
    exact kLoadRow _ _ _ _ _ _ rfl (wanted_of rfl rfl (by have h := hdep ⟨10, .guard⟩ (by simp) rfl; exact h)) ((hoth 5 (free2_of (by kernel_rfl))).trans rfl) (((hM6.get 0 rfl).on hM10.below).on hbel) Tryd.underlying30 rfl (info_ptc _) (symVT hX hsz rfl (show 39 < 109 by decide) rfl (Below.refl _ _) rfl)
  · intro A W hsz hoth hbel hX hdep
    exact kNeqPt _ _ _ pa pa false rfl (wanted_of rfl rfl (by have h := hdep ⟨10, .guard⟩ (by simp) rfl; exact h)) (by have h := hdep ⟨11, .data⟩ (by simp) rfl; exact h) (by have h := hdep ⟨12, .data⟩ (by simp) rfl; exact h) (ne_no rfl) (symVT hX hsz rfl (show 40 < 109 by decide) rfl (Below.refl _ _) rfl)
  · intro A W hsz hoth hbel hX hdep
    exact kPick _ _ _ false (.bool false) rfl rfl (by have h := hdep ⟨10, .data⟩ (by simp) rfl; exact h) (by have h := hdep ⟨13, .data⟩ (by simp) rfl; exact h) (symVT hX hsz rfl (show 41 < 109 by decide) rfl (Below.refl _ _) rfl)
  intro w11 hB11
  dsimp only [AllV]
  intro x11_30 hN11_30
  intro hap
  dsimp only [putAll, List.take, List.drop]
  go_frame
  have hM11 := hM10.on hB11
  clear hB11 hM10 hap
  have hM12 := mm_nil w11
  go_wp2_with (first
    | (go_at_call 12; (with_reducible change Calls _ _ #[v] _ _); refine (cParse_no hpl.out _ (((hG.below hM6.below).below hM11.below).below hM12.below) (((hO.below hM6.below).below hM11.below).below hM12.below) (((hv.below hM6.below).below hM11.below).below hM12.below)).mono ?_; rintro e w13 ⟨rfl, hB13⟩; have hM13 := hM12.on hB13; clear hB13 hM12; (try unfold WV); go_frame)
    | ((with_reducible change wpList _ _ _ (Oper.mk (some 9) _ _ _ _ _ :: _) _ _); refine mmAlloc hM13 _ _ rfl rfl zero_Point ?_; intro w14 hM14; clear hM13; go_frame)
    | ((with_reducible change wpList _ _ _ (Oper.mk none (Op.store _ (Operand.tmp 9) (Operand.tmp 45)) _ _ _ _ :: _) _ _); refine mmStoreAt hM14 0 _ _ _ _ _ _ (pcells 0 0 false) rfl rfl rfl rfl rfl (info_PointC _ _ _) (by simp only [pcells_size]) (pcells_one _ _ _) ?_; intro w15 hM15; dsimp only [List.set] at hM15; clear hM14; go_frame)
    | ((with_reducible change wpList _ _ _ (Oper.mk (some 48) _ _ _ _ _ :: _) _ _); refine kEqlI _ _ _ _ .i64 (41) (0) false rfl rfl rfl rfl (by decide) ?_; go_frame)
    | ((with_reducible change wpList _ _ _ (Oper.mk (some 60) _ _ _ _ _ :: _) _ _); refine kLenN _ _ _ _ _ L rfl rfl rfl ((((hv.below hM6.below).below hM11.below).below hM15.below)) HL.out Tryd.underlying48 ?_; go_frame)
    | ((with_reducible change wpList _ _ _ (Oper.mk (some 61) _ _ _ _ _ :: _) _ _); refine kEqlI _ _ _ _ .i64 ((L : Int)) (33) true rfl rfl rfl rfl (F61.out) ?_; go_frame)
    | ((with_reducible change wpList _ _ _ (Oper.mk (some 64) _ _ _ _ _ :: _) _ _); refine kIndexHead _ _ _ b0 32 cap0 Hv0.out rfl rfl rfl rfl ?_; go_frame)
    | ((with_reducible change wpList _ _ _ (Oper.mk (some 65) _ _ _ _ _ :: _) _ _); refine kLoadCell _ _ _ (VB c0) _ rfl rfl rfl ((((hc0.below hM6.below).below hM11.below).below hM15.below).out) Tryd.underlying5 rfl ?_; go_frame)
    | ((with_reducible change wpList _ _ _ (Oper.mk (some 66) _ _ _ _ _ :: _) _ _); refine kEqlI _ _ _ _ .u8 (B c0) (2) true rfl rfl rfl rfl (B_eq (k := 2) (by decide) Hc2.out) ?_; go_frame))
  refine region_sym (fun _ => 12) [.val v, .val (.pointer (some b0)), .val (.int .u8 (B c0)), .val (.int .u8 (B d0)), .prop (fun w v => SliceOne w v d0) (fun _ _ _ hb h => h.below hb), .val v, .val (.slice (some ad) 32 cap), .prop (fun w v => RowBytes w v (d0 :: r)) (fun _ _ _ hb h => h.below hb), .val (.tuple #[.agg (pcells 0 0 false), .int .i64 41]), .val (.tuple #[.agg (pcells 0 0 false), .int .i64 41]), .val (.agg (pcells 0 0 false)), .val (.int .i64 41), .fresh w15.heap.size 30 9, .hold w15.heap.size 30 (pcells 0 0 false), .val (.int .i64 41)] [.val v, .val (.pointer (some b0)), .val (.int .u8 (B c0)), .val (.int .u8 (B d0)), .prop (fun w v => SliceOne w v d0) (fun _ _ _ hb h => h.below hb), .val v, .val (.slice (some ad) 32 cap), .prop (fun w v => RowBytes w v (d0 :: r)) (fun _ _ _ hb h => h.below hb), .val (.tuple #[.agg (pcells 0 0 false), .int .i64 41]), .val (.tuple #[.agg (pcells 0 0 false), .int .i64 41]), .val (.agg (pcells 0 0 false)), .val (.int .i64 41), .hold w15.heap.size 30 (pcells 0 0 false), .val undef, .val (.int .i64 41)] (by kernel_rfl) (by kernel_rfl) rfl rfl (steps_all ⟨?_, ?_, ?_, ?_, ?_, ?_, ?_, ?_, ?_, ?_, ?_, ?_, ?_, ?_, ?_, trivial⟩) ?_
  · intro A W hsz hoth hbel hdep
    exact kMoveV _ (v) rfl rfl ((hoth 1 (free2_of (by kernel_rfl))).trans rfl) (symV hbel hsz rfl rfl (show 75 < 109 by decide) (Below.refl _ _) rfl)
  · intro A W hsz hoth hbel hdep
    exact kIndexHead _ _ _ b0 32 cap0 Hv0.out rfl rfl (by have h := hdep ⟨0, .data⟩ (by simp) rfl; exact h) rfl (symV hbel hsz rfl rfl (show 76 < 109 by decide) (Below.refl _ _) rfl)
  · intro A W hsz hoth hbel hdep
    exact kLoadCell _ _ _ (VB c0) _ rfl rfl (by have h := hdep ⟨1, .data⟩ (by simp) rfl; exact h) (((((hc0.below hM6.below).below hM11.below).below hM15.below).below hbel).out) Tryd.underlying5 rfl (symV hbel hsz rfl rfl (show 77 < 109 by decide) (Below.refl _ _) rfl)
  · intro A W hsz hoth hbel hdep
    exact kSubB _ _ _ _ c0 d0 Hd0.out rfl rfl rfl (by have h := hdep ⟨2, .data⟩ (by simp) rfl; exact h) (symV hbel hsz rfl rfl (show 78 < 109 by decide) (Below.refl _ _) rfl)
  · intro A W hsz hoth hbel hdep
    obtain ⟨i, hi, hz, hs1, hby⟩ := b8Info
    refine kBuildSlice1 _ _ _ (VB d0) rfl rfl Tryd.underlying48 i _ hi hz hs1 (by have h := hdep ⟨3, .data⟩ (by simp) rfl; exact h) rfl ?_
    intro r1 hR hz5 hBc
    exact (symV hbel hsz rfl rfl (show 79 < 109 by decide) hBc ⟨_, rfl, hR⟩)
  · intro A W hsz hoth hbel hdep
    exact kMoveV _ (v) rfl rfl ((hoth 1 (free2_of (by kernel_rfl))).trans rfl) (symV hbel hsz rfl rfl (show 80 < 109 by decide) (Below.refl _ _) rfl)
  · intro A W hsz hoth hbel hdep
    exact kSlice1 _ _ _ _ _ rfl rfl (by have h := hdep ⟨5, .data⟩ (by simp) rfl; exact h) rfl (((((hv.below hM6.below).below hM11.below).below hM15.below).below hbel)) (by rw [HL.out]; omega) Hfrom.out (symV hbel hsz rfl rfl (show 81 < 109 by decide) (Below.refl _ _) rfl)
  · intro A W hsz hoth hbel hdep
    refine kAppendRow _ _ rfl rfl d0 _ r (show SliceOne W (A.tmps.getD 79 undef) d0 from (by have h := hdep ⟨4, .data⟩ (by simp) rfl; exact h)) (by have h := hdep ⟨6, .data⟩ (by simp) rfl; exact h) (((((hrv.below hM6.below).below hM11.below).below hM15.below).below hbel)) hrn.out (by omega) ?_
    intro v2 w2 hV hBc
    exact (symV hbel hsz rfl rfl (show 82 < 109 by decide) hBc hV)
  · intro A W hsz hoth hbel hdep
    obtain ⟨g2, n2, cp2, cur2, e2, hr2, hN82⟩ := (show RowBytes W (A.tmps.getD 82 undef) (d0 :: r) from (by have h := hdep ⟨7, .data⟩ (by simp) rfl; exact h))
    refine kCall1 12 _ _ _ rfl rfl (by kernel_rfl) (rfl : A.eval (Operand.tmp 82) = A.tmps.getD 82 undef) ?_
    refine (cParse_no hpd.out W ((((hG.below hM6.below).below hM11.below).below hM15.below).below hbel) ((((hO.below hM6.below).below hM11.below).below hM15.below).below hbel) hN82).mono ?_
    rintro e r3 ⟨rfl, hBc⟩
    exact ⟨_, rfl, (symV hbel hsz rfl rfl (show 83 < 109 by decide) hBc rfl)⟩
  · intro A W hsz hoth hbel hdep
    exact kMoveV _ (.tuple #[.agg (pcells 0 0 false), .int .i64 41]) rfl rfl (by have h := hdep ⟨8, .data⟩ (by simp) rfl; exact h) (symV hbel hsz rfl rfl (show 74 < 109 by decide) (Below.refl _ _) rfl)
  · intro A W hsz hoth hbel hdep
    exact kExtract _ _ _ (.agg (pcells 0 0 false)) rfl rfl (by have h := hdep ⟨9, .data⟩ (by simp) rfl; exact h) rfl (symV hbel hsz rfl rfl (show 84 < 109 by decide) (Below.refl _ _) rfl)
  · intro A W hsz hoth hbel hdep
    exact kExtract _ _ _ (.int .i64 41) rfl rfl (by have h := hdep ⟨9, .data⟩ (by simp) rfl; exact h) rfl (symV hbel hsz rfl rfl (show 85 < 109 by decide) (Below.refl _ _) rfl)
  · intro A W hsz hoth hbel hdep
    refine kAllocL _ _ rfl rfl zero_Point ?_
    intro r4 hR hl hBc
    exact (symV hbel hsz rfl rfl (show 11 < 109 by decide) hBc ⟨_, _, rfl, hbel.size, pcells_size _ _ _, hR⟩)
  · intro A W hsz hoth hbel hdep
    obtain ⟨g, cs, d8, hg, hcs, hR⟩ : ∃ g cs, A.tmps.getD 11 undef = .pointer (some ⟨g, 0, none⟩) ∧ w15.heap.size ≤ g ∧ cs.size = 9 ∧ Row W g 30 cs := (by have h := hdep ⟨12, .data⟩ (by simp) rfl; exact h)
    refine kStoreRow _ _ _ _ _ _ (pcells 0 0 false) rfl rfl d8 (by have h := hdep ⟨10, .data⟩ (by simp) rfl; exact h) hR (info_PointC _ _ _) (by rw [pcells_size, hcs]) (pcells_one _ _ _) ?_
    intro r5 hR2 hW
    exact symWQ hbel rfl hW hg hR2 ⟨fun _ h => h.wrote hR hW, fun _ h => h.wrote hR hW, ⟨rfl, rfl⟩, ⟨rfl, rfl⟩, trivial⟩ ⟨g, d8, hg, hR2⟩
  · intro A W hsz hoth hbel hdep
    exact kAssignV _ (.int .i64 41) rfl rfl (by have h := hdep ⟨11, .data⟩ (by simp) rfl; exact h) (symV hbel hsz rfl rfl (show 12 < 109 by decide) (Below.refl _ _) rfl)
  intro w16 hB16
  dsimp only [AllV]
  intro x79 hx79
  intro x82 hx82
  intro g11 hg11 hR11
  dsimp only [putAll]
  go_frame
  clear hx79 hx82 hR11 hg11
  have hM16 := hM15.on hB16
  clear hB16 hM15
  go_wp2_with (first
    | ((with_reducible change wpList _ _ _ (Oper.mk (some 87) _ _ _ _ _ :: _) _ _); refine kEqlI _ _ _ _ .i64 (41) (41) true rfl rfl rfl rfl (by decide) ?_; go_frame)
    | ((with_reducible change wpList _ _ _ (Oper.mk (some 90) _ _ _ _ _ :: _) _ _); refine kEqlI _ _ _ _ .i64 (41) (41) true rfl rfl rfl rfl (by decide) ?_; go_frame)
    | ((with_reducible change wpList _ _ _ (Oper.mk (some 93) _ _ _ _ _ :: _) _ _); refine kLoadRow _ _ _ _ _ _ rfl rfl rfl (hM16.get 0 rfl) Tryd.underlying30 rfl (info_PointC _ _ _) ?_; go_frame)
    | ((with_reducible change wpList _ _ _ (Oper.mk (some 94) _ _ _ _ _ :: _) _ _); refine kBuildPoint0 rfl rfl ?_; go_frame)
    | ((with_reducible change wpList _ _ _ (Oper.mk (some 95) _ _ _ _ _ :: _) _ _); refine kEqlP _ _ _ 0 0 false 0 0 false true rfl rfl rfl rfl (eqP_yes ⟨rfl, rfl, rfl⟩) ?_; go_frame))
  go_ret
  exact ⟨rfl, ((((hM6.below).trans (hM11.below.mono (hM6.below).size))).trans (hM16.below.mono (((hM6.below).trans (hM11.below.mono (hM6.below).size))).size))⟩
set_option maxRecDepth 100000 in
set_option maxHeartbeats 8000000 in
theorem CurveBytes_three {k1 : Nat} (hk1 : k1 < 65536) (b1 : Bool) {l : List UInt8} {v : Value} {r : List UInt8} (hlc0 : l = 3 :: r) (hr : r.length = 32) (hl : l.length ≤ 100) (hp : parseL l = none) (w : World) (hG : Glob 2 PP w) (hO : GlobP 0 0 0 true w) (hB : GlobPt 1 gPt w) (hv : IsVals w v (l.map VB)) :
    Calls Tryd.prog 7 #[.agg #[.int .u16 (k1 : Int), .bool b1], v] w fun e w' => e = .returned (.bool true) ∧ Below w.heap.size w w' := by
  obtain ⟨pa, HP1⟩ : ∃ q, Hid (pick k1 b1 = q) := ⟨_, Lib.hid rfl⟩
  have opa : pa.On := by rw [← HP1.out]; exact pick_on _ _
  obtain ⟨L, HL⟩ : ∃ n, Hid ((l.map VB).length = n) := ⟨_, Lib.hid rfl⟩
  have hL : L = l.length := by rw [← HL.out, List.length_map]
  have F17 := Lib.hid (show decide ((L : Int) > 100) = false from decide_eq_false (by omega))
  have hpa := Lib.hid (parse_bytes opa)
  have hpl := Lib.hid hp
  have h107 := Lib.hid (show (l != [0]) = true by simpa using parse_zero hp)
  obtain ⟨c0, hc⟩ : ∃ c : UInt8, c = 3 := ⟨_, rfl⟩
  obtain ⟨d0, hd⟩ : ∃ c : UInt8, c = 2 := ⟨_, rfl⟩
  have hlc : l = c0 :: r := by rw [hc]; exact hlc0
  have Hd0 := Lib.hid (show (5 : Int) - B c0 = B d0 by rw [hc, hd]; rfl)
  have hpd := Lib.hid (show parseL (d0 :: r) = none from parse_other hr (c := c0) (by rw [hc]; exact .inr rfl) (by rw [hd]; exact .inl rfl) (by rw [← hlc]; exact hp))
  have hL1 : L = 33 := by rw [hL, hlc]; simp [hr]
  have F61 := Lib.hid (show decide ((L : Int) = 33) = true from decide_eq_true (by omega))
  obtain ⟨b0, cap0, hv0, hcell⟩ : ∃ b0 cap0, v = .slice (some b0) (32 + 1) cap0 ∧ w.cell? b0 = some (VB c0) := by
    have hv1 := hv
    rw [hlc] at hv1
    obtain ⟨ao, cp, e, _, _, hj⟩ := hv1
    obtain ⟨b, rfl, hcl⟩ := hj 0 (VB c0) rfl
    refine ⟨b, cp, ?_, hcl⟩
    rw [e]; simp [hr]
  have Hv0 := Lib.hid hv0
  have hc0 : AtCell w b0 c0 := ⟨hcell⟩
  clear hv0 hcell
  have Hc2 := Lib.hid (show decide (c0 = UInt8.ofNat 2) = false by rw [hc]; rfl)
  have Hc3 := Lib.hid (show decide (c0 = UInt8.ofNat 3) = true by rw [hc]; rfl)
  have hrn := Lib.hid (show r ≠ [] from fun e => by rw [e] at hr; cases hr)
  obtain ⟨ad, cap, hfrom, -⟩ := from_one (hlc ▸ hv) hr
  have hrv : IsVals w (.slice (some ad) 32 cap) (r.map VB) := by
    have h := isVals_from (n := 1) (hlc ▸ hv : IsVals w v ((c0 :: r).map VB)) (by simp)
    rw [hfrom] at h; exact h
  have Hfrom := Lib.hid hfrom
  clear hfrom hp hlc0 hlc hc hd
  have hM0 := mm_nil w
  (try unfold WV)
  go_enter Tryd.func7, Tryd.ntmps7
  go_wp2_with (first
    | ((with_reducible change wpList _ _ _ (Oper.mk (some 2) _ _ _ _ _ :: _) _ _); refine mmBox hM0 _ _ (#[.int .u16 ((k1 : Int)), .bool b1]) rfl rfl rfl ?_; intro w1 hM1; clear hM0; go_frame)
    | (go_at_call 15; refine (curveAlive_pt _ (hG.below hM1.below) (hO.below hM1.below) (hB.below hM1.below)).mono ?_; rintro e w2 ⟨rfl, hB2⟩; have hM2 := hM1.on hB2; clear hB2 hM1; (try unfold WV); go_frame)
    | ((with_reducible change wpList _ _ _ (Oper.mk (some 16) _ _ _ _ _ :: _) _ _); refine kLenN _ _ _ _ _ L rfl rfl rfl ((hv.below hM2.below)) HL.out Tryd.underlying48 ?_; go_frame)
    | ((with_reducible change wpList _ _ _ (Oper.mk (some 17) _ _ _ _ _ :: _) _ _); refine kGtrI _ _ _ _ .i64 _ _ false rfl rfl rfl rfl (F17.out) ?_; go_frame)
    | ((with_reducible change wpList _ _ _ (Oper.mk (some 18) _ _ _ _ _ :: _) _ _); refine kLoadRow _ _ _ _ _ _ rfl rfl rfl (hM2.get 0 rfl) Tryd.underlying41 rfl (info_PickC _ _) ?_; go_frame)
    | (go_at_call 19; (with_reducible change Calls _ _ #[Value.agg (#[.int .u16 ((k1 : Int)), .bool b1])] _ _); refine (pickOf_q hk1 b1 HP1.out _).mono ?_; rintro e w3 ⟨rfl, hB3⟩; have hM3 := hM2.on hB3; clear hB3 hM2; (try unfold WV); go_frame)
    | ((with_reducible change wpList _ _ _ (Oper.mk (some 5) _ _ _ _ _ :: _) _ _); refine mmAlloc hM3 _ _ rfl rfl zero_Point ?_; intro w4 hM4; clear hM3; go_frame)
    | ((with_reducible change wpList _ _ _ (Oper.mk none (Op.store _ (Operand.tmp 5) (Operand.tmp 19)) _ _ _ _ :: _) _ _); refine mmStoreAt hM4 0 _ _ _ _ _ _ (ptc pa) rfl rfl rfl rfl rfl (info_ptc _) (by simp only [pcells_size, ptc_size]) (ptc_one _) ?_; intro w5 hM5; dsimp only [List.set] at hM5; clear hM4; go_frame)
    | ((with_reducible change wpList _ _ _ (Oper.mk (some 20) _ _ _ _ _ :: _) _ _); refine kLoadRow _ _ _ _ _ _ rfl rfl rfl (hM5.get 0 rfl) Tryd.underlying30 rfl (info_ptc _) ?_; go_frame)
    | (go_at_call 28; (with_reducible change Calls _ _ #[Value.agg (ptc pa)] _ _); refine (cBytes_any pa _ (hO.below hM5.below)).mono ?_; rintro e w6 ⟨x6, rfl, hN6, hB6⟩; have hM6 := hM5.on hB6; clear hB6 hM5; have hM7 := mm_nil w6; go_frame)
    | (go_at_call 12; (with_reducible change Calls _ _ #[x6] _ _); refine (cParse_some hpa.out _ ((hG.below hM6.below).below hM7.below) ((hO.below hM6.below).below hM7.below) (hN6.below hM7.below)).mono ?_; rintro e w8 ⟨rfl, hB8⟩; have hM8 := hM7.on hB8; clear hB8 hM7; (try unfold WV); go_frame)
    | ((with_reducible change wpList _ _ _ (Oper.mk (some 7) _ _ _ _ _ :: _) _ _); refine mmAlloc hM8 _ _ rfl rfl zero_Point ?_; intro w9 hM9; clear hM8; go_frame)
    | ((with_reducible change wpList _ _ _ (Oper.mk none (Op.store _ (Operand.tmp 7) (Operand.tmp 25)) _ _ _ _ :: _) _ _); refine mmStoreAt hM9 0 _ _ _ _ _ _ (ptc pa) rfl rfl rfl rfl rfl (info_ptc _) (by simp only [pcells_size, ptc_size]) (ptc_one _) ?_; intro w10 hM10; dsimp only [List.set] at hM10; clear hM9; go_frame))
  refine region_symT 15 _ [] [] [.val (x6), .val (textV (ptBytes pa)), .val (.agg (ptc pa)), .prop (fun w v => IsVals w v ((ptBytes pa).map VB)) (fun _ _ _ hb h => h.below hb), .val (textV (ptBytes pa)), .val (.bool false), .val (.bool false), .val (.int .i64 (0)), .val (.bool false), .val (.bool false), .val (.bool false), .val (.agg (ptc pa)), .val (.agg (ptc pa)), .val (.bool false), .val (.bool false)] rfl (by kernel_rfl) (by kernel_rfl) (by kernel_rfl) (by kernel_rfl) rfl (by intro s hs; cases hs) (steps_all ⟨?_, ?_, ?_, ?_, ?_, ?_, ?_, ?_, ?_, ?_, ?_, ?_, ?_, ?_, ?_, trivial⟩) ?_
  · intro A W hsz hoth hbel hX hdep
    exact kMoveV _ (x6) rfl rfl ((hoth 6 (free2_of (by kernel_rfl))).trans rfl) (symVT hX hsz rfl (show 27 < 109 by decide) rfl (Below.refl _ _) rfl)
  · intro A W hsz hoth hbel hX hdep
    exact kToString _ _ _ _ _ (ptBytes pa) rfl rfl (by have h := hdep ⟨0, .data⟩ (by simp) rfl; exact h) (((hN6.below hM10.below).below hbel)) Tryd.underlying48 Tryd.underlying5 Tryd.underlying9 (symVT hX hsz rfl (show 28 < 109 by decide) rfl (Below.refl _ _) rfl)
  · intro A W hsz hoth hbel hX hdep
    exact kLoadRow _ _ _ _ _ _ rfl rfl ((hoth 5 (free2_of (by kernel_rfl))).trans rfl) (((hM6.get 0 rfl).on hM10.below).on hbel) Tryd.underlying30 rfl (info_ptc _) (symVT hX hsz rfl (show 29 < 109 by decide) rfl (Below.refl _ _) rfl)
  · intro A W hsz hoth hbel hX hdep
    refine kCall1 29 _ _ _ rfl rfl (by kernel_rfl) (by have h := hdep ⟨2, .data⟩ (by simp) rfl; exact h) ?_
    refine (eBytes_any pa W).mono ?_
    rintro e r ⟨xx, rfl, hNx, hBc⟩
    exact ⟨_, rfl, (symVT hX hsz rfl (show 30 < 109 by decide) rfl hBc hNx)⟩
  · intro A W hsz hoth hbel hX hdep
    have hS30 := (show IsVals W (A.tmps.getD 30 undef) ((ptBytes pa).map VB) from (by have h := hdep ⟨3, .data⟩ (by simp) rfl; exact h))
    exact kToString _ _ _ _ (A.tmps.getD 30 undef) (ptBytes pa) rfl rfl rfl hS30 Tryd.underlying48 Tryd.underlying5 Tryd.underlying9 (symVT hX hsz rfl (show 31 < 109 by decide) rfl (Below.refl _ _) rfl)
  · intro A W hsz hoth hbel hX hdep
    exact kNeqStr _ _ _ _ (ptBytes pa) (ptBytes pa) false rfl rfl (by have h := hdep ⟨1, .data⟩ (by simp) rfl; exact h) (by have h := hdep ⟨4, .data⟩ (by simp) rfl; exact h) (by simp) (symVT hX hsz rfl (show 32 < 109 by decide) rfl (Below.refl _ _) rfl)
  · intro A W hsz hoth hbel hX hdep
    exact kMoveV _ (.bool false) rfl rfl (by have h := hdep ⟨5, .data⟩ (by simp) rfl; exact h) (symVT hX hsz rfl (show 33 < 109 by decide) rfl (Below.refl _ _) rfl)
  · intro A W hsz hoth hbel hX hdep
    exact kMoveV _ (.int .i64 (0)) rfl (wanted_of rfl rfl (by have h := hdep ⟨6, .guard⟩ (by simp) rfl; exact h)) ((hoth 8 (free2_of (by kernel_rfl))).trans rfl) (symVT hX hsz rfl (show 34 < 109 by decide) rfl (Below.refl _ _) rfl)
  · intro A W hsz hoth hbel hX hdep
    exact kNeqI _ _ _ _ .i64 (0) (0) false rfl (wanted_of rfl rfl (by have h := hdep ⟨6, .guard⟩ (by simp) rfl; exact h)) (by have h := hdep ⟨7, .data⟩ (by simp) rfl; exact h) rfl (by decide) (symVT hX hsz rfl (show 35 < 109 by decide) rfl (Below.refl _ _) rfl)
  · intro A W hsz hoth hbel hX hdep
    exact kPick _ _ _ false (.bool false) rfl rfl (by have h := hdep ⟨6, .data⟩ (by simp) rfl; exact h) (by have h := hdep ⟨8, .data⟩ (by simp) rfl; exact h) (symVT hX hsz rfl (show 36 < 109 by decide) rfl (Below.refl _ _) rfl)
  · intro A W hsz hoth hbel hX hdep
    exact kMoveV _ (.bool false) rfl rfl (by have h := hdep ⟨9, .data⟩ (by simp) rfl; exact h) (symVT hX hsz rfl (show 37 < 109 by decide) rfl (Below.refl _ _) rfl)
  · intro A W hsz hoth hbel hX hdep
    exact kLoadRow _ _ _ _ _ _ rfl (wanted_of rfl rfl (by have h := hdep ⟨10, .guard⟩ (by simp) rfl; exact h)) ((hoth 7 (free2_of (by kernel_rfl))).trans rfl) ((hM10.get 0 rfl).on hbel) Tryd.underlying30 rfl (info_ptc _) (symVT hX hsz rfl (show 38 < 109 by decide) rfl (Below.refl _ _) rfl)
  · intro A W hsz hoth hbel hX hdep
    exact kLoadRow _ _ _ _ _ _ rfl (wanted_of rfl rfl (by have h := hdep ⟨10, .guard⟩ (by simp) rfl; exact h)) ((hoth 5 (free2_of (by kernel_rfl))).trans rfl) (((hM6.get 0 rfl).on hM10.below).on hbel) Tryd.underlying30 rfl (info_ptc _) (symVT hX hsz rfl (show 39 < 109 by decide) rfl (Below.refl _ _) rfl)
  · intro A W hsz hoth hbel hX hdep
    exact kNeqPt _ _ _ pa pa false rfl (wanted_of rfl rfl (by have h := hdep ⟨10, .guard⟩ (by simp) rfl; exact h)) (by have h := hdep ⟨11, .data⟩ (by simp) rfl; exact h) (by have h := hdep ⟨12, .data⟩ (by simp) rfl; exact h) (ne_no rfl) (symVT hX hsz rfl (show 40 < 109 by decide) rfl (Below.refl _ _) rfl)
  · intro A W hsz hoth hbel hX hdep
    exact kPick _ _ _ false (.bool false) rfl rfl (by have h := hdep ⟨10, .data⟩ (by simp) rfl; exact h) (by have h := hdep ⟨13, .data⟩ (by simp) rfl; exact h) (symVT hX hsz rfl (show 41 < 109 by decide) rfl (Below.refl _ _) rfl)
  intro w11 hB11
  dsimp only [AllV]
  intro x11_30 hN11_30
  intro hap
  dsimp only [putAll, List.take, List.drop]
  go_frame
  have hM11 := hM10.on hB11
  clear hB11 hM10 hap
  have hM12 := mm_nil w11
  go_wp2_with (first
    | (go_at_call 12; (with_reducible change Calls _ _ #[v] _ _); refine (cParse_no hpl.out _ (((hG.below hM6.below).below hM11.below).below hM12.below) (((hO.below hM6.below).below hM11.below).below hM12.below) (((hv.below hM6.below).below hM11.below).below hM12.below)).mono ?_; rintro e w13 ⟨rfl, hB13⟩; have hM13 := hM12.on hB13; clear hB13 hM12; (try unfold WV); go_frame)
    | ((with_reducible change wpList _ _ _ (Oper.mk (some 9) _ _ _ _ _ :: _) _ _); refine mmAlloc hM13 _ _ rfl rfl zero_Point ?_; intro w14 hM14; clear hM13; go_frame)
    | ((with_reducible change wpList _ _ _ (Oper.mk none (Op.store _ (Operand.tmp 9) (Operand.tmp 45)) _ _ _ _ :: _) _ _); refine mmStoreAt hM14 0 _ _ _ _ _ _ (pcells 0 0 false) rfl rfl rfl rfl rfl (info_PointC _ _ _) (by simp only [pcells_size]) (pcells_one _ _ _) ?_; intro w15 hM15; dsimp only [List.set] at hM15; clear hM14; go_frame)
    | ((with_reducible change wpList _ _ _ (Oper.mk (some 48) _ _ _ _ _ :: _) _ _); refine kEqlI _ _ _ _ .i64 (41) (0) false rfl rfl rfl rfl (by decide) ?_; go_frame)
    | ((with_reducible change wpList _ _ _ (Oper.mk (some 60) _ _ _ _ _ :: _) _ _); refine kLenN _ _ _ _ _ L rfl rfl rfl ((((hv.below hM6.below).below hM11.below).below hM15.below)) HL.out Tryd.underlying48 ?_; go_frame)
    | ((with_reducible change wpList _ _ _ (Oper.mk (some 61) _ _ _ _ _ :: _) _ _); refine kEqlI _ _ _ _ .i64 ((L : Int)) (33) true rfl rfl rfl rfl (F61.out) ?_; go_frame)
    | ((with_reducible change wpList _ _ _ (Oper.mk (some 64) _ _ _ _ _ :: _) _ _); refine kIndexHead _ _ _ b0 32 cap0 Hv0.out rfl rfl rfl rfl ?_; go_frame)
    | ((with_reducible change wpList _ _ _ (Oper.mk (some 65) _ _ _ _ _ :: _) _ _); refine kLoadCell _ _ _ (VB c0) _ rfl rfl rfl ((((hc0.below hM6.below).below hM11.below).below hM15.below).out) Tryd.underlying5 rfl ?_; go_frame)
    | ((with_reducible change wpList _ _ _ (Oper.mk (some 66) _ _ _ _ _ :: _) _ _); refine kEqlI _ _ _ _ .u8 (B c0) (2) false rfl rfl rfl rfl (B_eq (k := 2) (by decide) Hc2.out) ?_; go_frame)
    | ((with_reducible change wpList _ _ _ (Oper.mk (some 69) _ _ _ _ _ :: _) _ _); refine kIndexHead _ _ _ b0 32 cap0 Hv0.out rfl rfl rfl rfl ?_; go_frame)
    | ((with_reducible change wpList _ _ _ (Oper.mk (some 70) _ _ _ _ _ :: _) _ _); refine kLoadCell _ _ _ (VB c0) _ rfl rfl rfl ((((hc0.below hM6.below).below hM11.below).below hM15.below).out) Tryd.underlying5 rfl ?_; go_frame)
    | ((with_reducible change wpList _ _ _ (Oper.mk (some 71) _ _ _ _ _ :: _) _ _); refine kEqlI _ _ _ _ .u8 (B c0) (3) true rfl rfl rfl rfl (B_eq (k := 3) (by decide) Hc3.out) ?_; go_frame))
  refine region_sym (fun _ => 12) [.val v, .val (.pointer (some b0)), .val (.int .u8 (B c0)), .val (.int .u8 (B d0)), .prop (fun w v => SliceOne w v d0) (fun _ _ _ hb h => h.below hb), .val v, .val (.slice (some ad) 32 cap), .prop (fun w v => RowBytes w v (d0 :: r)) (fun _ _ _ hb h => h.below hb), .val (.tuple #[.agg (pcells 0 0 false), .int .i64 41]), .val (.tuple #[.agg (pcells 0 0 false), .int .i64 41]), .val (.agg (pcells 0 0 false)), .val (.int .i64 41), .fresh w15.heap.size 30 9, .hold w15.heap.size 30 (pcells 0 0 false), .val (.int .i64 41)] [.val v, .val (.pointer (some b0)), .val (.int .u8 (B c0)), .val (.int .u8 (B d0)), .prop (fun w v => SliceOne w v d0) (fun _ _ _ hb h => h.below hb), .val v, .val (.slice (some ad) 32 cap), .prop (fun w v => RowBytes w v (d0 :: r)) (fun _ _ _ hb h => h.below hb), .val (.tuple #[.agg (pcells 0 0 false), .int .i64 41]), .val (.tuple #[.agg (pcells 0 0 false), .int .i64 41]), .val (.agg (pcells 0 0 false)), .val (.int .i64 41), .hold w15.heap.size 30 (pcells 0 0 false), .val undef, .val (.int .i64 41)] (by kernel_rfl) (by kernel_rfl) rfl rfl (steps_all ⟨?_, ?_, ?_, ?_, ?_, ?_, ?_, ?_, ?_, ?_, ?_, ?_, ?_, ?_, ?_, trivial⟩) ?_
  · intro A W hsz hoth hbel hdep
    exact kMoveV _ (v) rfl rfl ((hoth 1 (free2_of (by kernel_rfl))).trans rfl) (symV hbel hsz rfl rfl (show 75 < 109 by decide) (Below.refl _ _) rfl)
  · intro A W hsz hoth hbel hdep
    exact kIndexHead _ _ _ b0 32 cap0 Hv0.out rfl rfl (by have h := hdep ⟨0, .data⟩ (by simp) rfl; exact h) rfl (symV hbel hsz rfl rfl (show 76 < 109 by decide) (Below.refl _ _) rfl)
  · intro A W hsz hoth hbel hdep
    exact kLoadCell _ _ _ (VB c0) _ rfl rfl (by have h := hdep ⟨1, .data⟩ (by simp) rfl; exact h) (((((hc0.below hM6.below).below hM11.below).below hM15.below).below hbel).out) Tryd.underlying5 rfl (symV hbel hsz rfl rfl (show 77 < 109 by decide) (Below.refl _ _) rfl)
  · intro A W hsz hoth hbel hdep
    exact kSubB _ _ _ _ c0 d0 Hd0.out rfl rfl rfl (by have h := hdep ⟨2, .data⟩ (by simp) rfl; exact h) (symV hbel hsz rfl rfl (show 78 < 109 by decide) (Below.refl _ _) rfl)
  · intro A W hsz hoth hbel hdep
    obtain ⟨i, hi, hz, hs1, hby⟩ := b8Info
    refine kBuildSlice1 _ _ _ (VB d0) rfl rfl Tryd.underlying48 i _ hi hz hs1 (by have h := hdep ⟨3, .data⟩ (by simp) rfl; exact h) rfl ?_
    intro r1 hR hz5 hBc
    exact (symV hbel hsz rfl rfl (show 79 < 109 by decide) hBc ⟨_, rfl, hR⟩)
  · intro A W hsz hoth hbel hdep
    exact kMoveV _ (v) rfl rfl ((hoth 1 (free2_of (by kernel_rfl))).trans rfl) (symV hbel hsz rfl rfl (show 80 < 109 by decide) (Below.refl _ _) rfl)
  · intro A W hsz hoth hbel hdep
    exact kSlice1 _ _ _ _ _ rfl rfl (by have h := hdep ⟨5, .data⟩ (by simp) rfl; exact h) rfl (((((hv.below hM6.below).below hM11.below).below hM15.below).below hbel)) (by rw [HL.out]; omega) Hfrom.out (symV hbel hsz rfl rfl (show 81 < 109 by decide) (Below.refl _ _) rfl)
  · intro A W hsz hoth hbel hdep
    refine kAppendRow _ _ rfl rfl d0 _ r (show SliceOne W (A.tmps.getD 79 undef) d0 from (by have h := hdep ⟨4, .data⟩ (by simp) rfl; exact h)) (by have h := hdep ⟨6, .data⟩ (by simp) rfl; exact h) (((((hrv.below hM6.below).below hM11.below).below hM15.below).below hbel)) hrn.out (by omega) ?_
    intro v2 w2 hV hBc
    exact (symV hbel hsz rfl rfl (show 82 < 109 by decide) hBc hV)
  · intro A W hsz hoth hbel hdep
    obtain ⟨g2, n2, cp2, cur2, e2, hr2, hN82⟩ := (show RowBytes W (A.tmps.getD 82 undef) (d0 :: r) from (by have h := hdep ⟨7, .data⟩ (by simp) rfl; exact h))
    refine kCall1 12 _ _ _ rfl rfl (by kernel_rfl) (rfl : A.eval (Operand.tmp 82) = A.tmps.getD 82 undef) ?_
    refine (cParse_no hpd.out W ((((hG.below hM6.below).below hM11.below).below hM15.below).below hbel) ((((hO.below hM6.below).below hM11.below).below hM15.below).below hbel) hN82).mono ?_
    rintro e r3 ⟨rfl, hBc⟩
    exact ⟨_, rfl, (symV hbel hsz rfl rfl (show 83 < 109 by decide) hBc rfl)⟩
  · intro A W hsz hoth hbel hdep
    exact kMoveV _ (.tuple #[.agg (pcells 0 0 false), .int .i64 41]) rfl rfl (by have h := hdep ⟨8, .data⟩ (by simp) rfl; exact h) (symV hbel hsz rfl rfl (show 74 < 109 by decide) (Below.refl _ _) rfl)
  · intro A W hsz hoth hbel hdep
    exact kExtract _ _ _ (.agg (pcells 0 0 false)) rfl rfl (by have h := hdep ⟨9, .data⟩ (by simp) rfl; exact h) rfl (symV hbel hsz rfl rfl (show 84 < 109 by decide) (Below.refl _ _) rfl)
  · intro A W hsz hoth hbel hdep
    exact kExtract _ _ _ (.int .i64 41) rfl rfl (by have h := hdep ⟨9, .data⟩ (by simp) rfl; exact h) rfl (symV hbel hsz rfl rfl (show 85 < 109 by decide) (Below.refl _ _) rfl)
  · intro A W hsz hoth hbel hdep
    refine kAllocL _ _ rfl rfl zero_Point ?_
    intro r4 hR hl hBc
    exact (symV hbel hsz rfl rfl (show 11 < 109 by decide) hBc ⟨_, _, rfl, hbel.size, pcells_size _ _ _, hR⟩)
  · intro A W hsz hoth hbel hdep
    obtain ⟨g, cs, d8, hg, hcs, hR⟩ : ∃ g cs, A.tmps.getD 11 undef = .pointer (some ⟨g, 0, none⟩) ∧ w15.heap.size ≤ g ∧ cs.size = 9 ∧ Row W g 30 cs := (by have h := hdep ⟨12, .data⟩ (by simp) rfl; exact h)
    refine kStoreRow _ _ _ _ _ _ (pcells 0 0 false) rfl rfl d8 (by have h := hdep ⟨10, .data⟩ (by simp) rfl; exact h) hR (info_PointC _ _ _) (by rw [pcells_size, hcs]) (pcells_one _ _ _) ?_
    intro r5 hR2 hW
    exact symWQ hbel rfl hW hg hR2 ⟨fun _ h => h.wrote hR hW, fun _ h => h.wrote hR hW, ⟨rfl, rfl⟩, ⟨rfl, rfl⟩, trivial⟩ ⟨g, d8, hg, hR2⟩
  · intro A W hsz hoth hbel hdep
    exact kAssignV _ (.int .i64 41) rfl rfl (by have h := hdep ⟨11, .data⟩ (by simp) rfl; exact h) (symV hbel hsz rfl rfl (show 12 < 109 by decide) (Below.refl _ _) rfl)
  intro w16 hB16
  dsimp only [AllV]
  intro x79 hx79
  intro x82 hx82
  intro g11 hg11 hR11
  dsimp only [putAll]
  go_frame
  clear hx79 hx82 hR11 hg11
  have hM16 := hM15.on hB16
  clear hB16 hM15
  go_wp2_with (first
    | ((with_reducible change wpList _ _ _ (Oper.mk (some 87) _ _ _ _ _ :: _) _ _); refine kEqlI _ _ _ _ .i64 (41) (41) true rfl rfl rfl rfl (by decide) ?_; go_frame)
    | ((with_reducible change wpList _ _ _ (Oper.mk (some 90) _ _ _ _ _ :: _) _ _); refine kEqlI _ _ _ _ .i64 (41) (41) true rfl rfl rfl rfl (by decide) ?_; go_frame)
    | ((with_reducible change wpList _ _ _ (Oper.mk (some 93) _ _ _ _ _ :: _) _ _); refine kLoadRow _ _ _ _ _ _ rfl rfl rfl (hM16.get 0 rfl) Tryd.underlying30 rfl (info_PointC _ _ _) ?_; go_frame)
    | ((with_reducible change wpList _ _ _ (Oper.mk (some 94) _ _ _ _ _ :: _) _ _); refine kBuildPoint0 rfl rfl ?_; go_frame)
    | ((with_reducible change wpList _ _ _ (Oper.mk (some 95) _ _ _ _ _ :: _) _ _); refine kEqlP _ _ _ 0 0 false 0 0 false true rfl rfl rfl rfl (eqP_yes ⟨rfl, rfl, rfl⟩) ?_; go_frame))
  go_ret
  exact ⟨rfl, ((((hM6.below).trans (hM11.below.mono (hM6.below).size))).trans (hM16.below.mono (((hM6.below).trans (hM11.below.mono (hM6.below).size))).size))⟩
theorem CurveBytes_any {k1 : Nat} (hk1 : k1 < 65536) (b1 : Bool) {l : List UInt8} {v : Value} (w : World) (hG : Glob 2 PP w) (hO : GlobP 0 0 0 true w) (hB : GlobPt 1 gPt w) (hv : IsVals w v (l.map VB)) :
    Calls Tryd.prog 7 #[.agg #[.int .u16 (k1 : Int), .bool b1], v] w fun e w' => e = .returned (.bool true) ∧ Below w.heap.size w w' := by
  by_cases hl : 100 < l.length
  · exact CurveBytes_long hk1 b1 hl w hG hO hB hv
  · have hl : l.length ≤ 100 := by omega
    cases hp : parseL l with
    | some p => exact CurveBytes_some hk1 b1 hl hp w hG hO hB hv
    | none =>
      by_cases h33 : l.length = 33
      · cases l with
        | nil => cases h33
        | cons c r =>
          have hr : r.length = 32 := by simpa using h33
          by_cases h2 : c = 2
          · subst h2; exact CurveBytes_two hk1 b1 rfl hr hl hp w hG hO hB hv
          · by_cases h3 : c = 3
            · subst h3; exact CurveBytes_three hk1 b1 rfl hr hl hp w hG hO hB hv
            · exact CurveBytes_first hk1 b1 rfl hr h2 h3 hl hp w hG hO hB hv
      · exact CurveBytes_len hk1 b1 h33 hl hp w hG hO hB hv
end Go.Proofs.YtecibidncelebaaDoor
