/-
  Layer 6: readers in memory, and the walks of New, Left, Err, take and Raw.
-/
import Derived.Test.YtgichipcmbnnhaaPcRef
namespace Go.Proofs.Ytgichipcmbnnhaa
open Go Go.RowKit
variable {Lm : Nat}

/-- the next n bytes, where there are so many -/
def takeS (s : Scn) (n : Nat) : List UInt8 × Scn :=
  if s.err ≠ 0 then ([], s) else if s.rest.length < n then ([], ⟨s.rest, 61⟩) else (s.rest.take n, ⟨s.rest.drop n, 0⟩)
theorem takeS_bad {s : Scn} (h : s.err ≠ 0) (n : Nat) : takeS s n = ([], s) := by unfold takeS; rw [if_pos h]
theorem takeS_short {s : Scn} {n : Nat} (h : s.err = 0) (hn : s.rest.length < n) : takeS s n = ([], ⟨s.rest, 61⟩) := by unfold takeS; rw [if_neg (by simp [h]), if_pos hn]
theorem takeS_some {s : Scn} {n : Nat} (h : s.err = 0) (hn : n ≤ s.rest.length) : takeS s n = (s.rest.take n, ⟨s.rest.drop n, 0⟩) := by unfold takeS; rw [if_neg (by simp [h]), if_neg (by omega)]
theorem rawS_take (s : Scn) (n : Nat) : rawS s (n : Int) = takeS s n := by
  unfold rawS takeS
  by_cases h : s.err ≠ 0
  · rw [if_pos (.inl h), if_pos h]
  · rw [if_neg h]
    have h0 : s.err = 0 := by omega
    by_cases hn : n = 0
    · subst hn
      rw [if_pos (.inr (by decide)), if_neg (by omega)]
      cases s; simp_all
    · rw [if_neg (by omega), Int.toNat_natCast]
      by_cases hl : s.rest.length < n
      · rw [if_pos (by omega), if_pos hl]
      · rw [if_neg (by omega), if_neg hl]
theorem rawS_low {s : Scn} {z : Int} (h : z < 1) : rawS s z = ([], s) := by unfold rawS; rw [if_pos (.inr h)]
theorem fixedS_take (s : Scn) (z : Int) : fixedS s z = (numL (takeS s (clampS z)).1, (takeS s (clampS z)).2) := by unfold fixedS; rw [rawS_take]
theorem takeS_len (s : Scn) (n : Nat) : (takeS s n).1.length ≤ n := by
  unfold takeS; split
  · exact Nat.zero_le _
  · split
    · exact Nat.zero_le _
    · rw [List.length_take]; omega

theorem readerF0 : ∃ f fs, Try.prog.underlying 73 = some (.struct fs) ∧ fs[0]? = some f ∧ f.offset = 0 ∧ (Try.prog.info? f.type).map (·.size) = some (0 + 1) := ⟨_, _, Try.underlying73, rfl, rfl, by kernel_rfl⟩
theorem readerF1 : ∃ f fs, Try.prog.underlying 73 = some (.struct fs) ∧ fs[1]? = some f ∧ f.offset = 1 ∧ (Try.prog.info? f.type).map (·.size) = some (0 + 1) := ⟨_, _, Try.underlying73, rfl, rfl, by kernel_rfl⟩
theorem scanF0 : ∃ f fs, Try.prog.underlying 51 = some (.struct fs) ∧ fs[0]? = some f ∧ f.offset = 0 ∧ (Try.prog.info? f.type).map (·.size) = some (0 + 1) := ⟨_, _, Try.underlying51, rfl, rfl, by kernel_rfl⟩
theorem scanF1 : ∃ f fs, Try.prog.underlying 51 = some (.struct fs) ∧ fs[1]? = some f ∧ f.offset = 1 ∧ (Try.prog.info? f.type).map (·.size) = some (0 + 1) := ⟨_, _, Try.underlying51, rfl, rfl, by kernel_rfl⟩
theorem info_errno : (Try.prog.info? 22).map (·.size) = some 1 := by kernel_rfl
theorem info_intP : (Try.prog.info? 3).map (·.size) = some 1 := by kernel_rfl
theorem built_reader0 (ao : Option Addr) (n c : Nat) : Try.prog.built 73 [(0, .slice ao n c)] = some #[.slice ao n c, .int .i64 0] := by kernel_rfl
theorem built_reader {w : World} {v : Value} {l : List Value} (h : IsVals w v l) : Try.prog.built 73 [(0, v)] = some #[v, .int .i64 0] := by obtain ⟨ao, c, rfl, _⟩ := h; exact built_reader0 _ _ _
section
variable {ops : Array Oper} {Q : Exit → Act → World → Prop} {rest : List Oper} {o : Oper} {a : Act} {w : World}
theorem kR0 (x : Operand) (b : Nat) (ho : o.op = .fieldAddr 73 x 0) (hg : Region.wanted o (yielded ops a.tmps) = true) (hx : a.eval x = .pointer (some ⟨b, 0, none⟩)) (h : wpList Try.prog ops Q rest (a.put o.dst (.pointer (some ⟨b, 0, none⟩))) w) : wpList Try.prog ops Q (o :: rest) a w := by
  obtain ⟨f, fs, h1, h2, h3, h4⟩ := readerF0
  have e : 0 + 0 = 0 := by decide
  exact kFieldAt _ x 0 0 0 fs f b 0 ho hg hx h1 h2 h3 h4 (by rw [e]; exact h)
theorem kR1 (x : Operand) (b : Nat) (ho : o.op = .fieldAddr 73 x 1) (hg : Region.wanted o (yielded ops a.tmps) = true) (hx : a.eval x = .pointer (some ⟨b, 0, none⟩)) (h : wpList Try.prog ops Q rest (a.put o.dst (.pointer (some ⟨b, 1, none⟩))) w) : wpList Try.prog ops Q (o :: rest) a w := by
  obtain ⟨f, fs, h1, h2, h3, h4⟩ := readerF1
  have e : 0 + 1 = 1 := by decide
  exact kFieldAt _ x 1 0 1 fs f b 0 ho hg hx h1 h2 h3 h4 (by rw [e]; exact h)
theorem kS0 (x : Operand) (b : Nat) (ho : o.op = .fieldAddr 51 x 0) (hg : Region.wanted o (yielded ops a.tmps) = true) (hx : a.eval x = .pointer (some ⟨b, 0, none⟩)) (h : wpList Try.prog ops Q rest (a.put o.dst (.pointer (some ⟨b, 0, none⟩))) w) : wpList Try.prog ops Q (o :: rest) a w := by
  obtain ⟨f, fs, h1, h2, h3, h4⟩ := scanF0
  have e : 0 + 0 = 0 := by decide
  exact kFieldAt _ x 0 0 0 fs f b 0 ho hg hx h1 h2 h3 h4 (by rw [e]; exact h)
theorem kS1 (x : Operand) (b : Nat) (ho : o.op = .fieldAddr 51 x 1) (hg : Region.wanted o (yielded ops a.tmps) = true) (hx : a.eval x = .pointer (some ⟨b, 0, none⟩)) (h : wpList Try.prog ops Q rest (a.put o.dst (.pointer (some ⟨b, 1, none⟩))) w) : wpList Try.prog ops Q (o :: rest) a w := by
  obtain ⟨f, fs, h1, h2, h3, h4⟩ := scanF1
  have e : 0 + 1 = 1 := by decide
  exact kFieldAt _ x 1 0 1 fs f b 0 ho hg hx h1 h2 h3 h4 (by rw [e]; exact h)
theorem kBuildReader (x : Operand) (v : Value) {l : List Value} (hv : IsVals w v l) (ho : o.op = .build 73 #[(0, x)]) (hg : Region.wanted o (yielded ops a.tmps) = true) (hx : a.eval x = v) (h : wpList Try.prog ops Q rest (a.put o.dst (.agg #[v, .int .i64 0])) w) : wpList Try.prog ops Q (o :: rest) a w :=
  kBuildAny _ _ #[(0, v)] _ ho hg (by simp [hx]) (built_reader hv) h
end
theorem vals_one {w : World} {v : Value} {l : List Value} (h : IsVals w v l) : v.oneCell' = true := by obtain ⟨ao, c, rfl, _⟩ := h; rfl
/-- a reader's row that is written -/
theorem rd_put {T : TypeId} {w w1 : World} {g : Nat} {s t : Scn} {v : Value} {e : Int} (h : Rd Lm T w g s) (hr : Row w1 g T #[v, .int .i64 e]) (hw : Wrote g w w1) (hv : IsVals w v (t.rest.map VB)) (he : e = (t.err : Int)) (hL : LimR Lm v t.rest) : Rd Lm T w1 g t :=
  ⟨v, by rw [← he]; exact hr, (exc_wrote hw).vals h hv, hL⟩
/-- an answer of bytes, and what became of the reader -/
def TakePost (Lm : Nat) (T : TypeId) (g : Nat) (w : World) (p : List UInt8 × Scn) (e : Ending) (w' : World) : Prop := ∃ v, e = .returned v ∧ IsVals w' v (p.1.map VB) ∧ Rd Lm T w' g p.2 ∧ Exc g w w'
/-- .. in new memory -/
def RawPost (Lm : Nat) (T : TypeId) (g : Nat) (w : World) (p : List UInt8 × Scn) (e : Ending) (w' : World) : Prop := ∃ v, e = .returned v ∧ OwnB w' w.heap.size v p.1 ∧ Rd Lm T w' g p.2 ∧ Exc g w w'
theorem RawPost.take {T : TypeId} {g : Nat} {w : World} {p : List UInt8 × Scn} (e : Ending) (w' : World) (h : RawPost Lm T g w p e w') : TakePost Lm T g w p e w' := by
  obtain ⟨v, h1, h2, h3⟩ := h
  exact ⟨v, h1, h2.vals, h3⟩
theorem Exc.size {g : Nat} {w w' : World} (h : Exc g w w') : w.heap.size ≤ w'.heap.size := by have h2 : w.grownBy w' (some g) := h; exact h2.size
theorem Exc.own {g b : Nat} {w w' : World} {v : Value} {l : List UInt8} (h : Exc g w w') (ho : OwnB w b v l) (hg : g < b) : OwnB w' b v l := by
  have h2 : w.grownBy w' (some g) := h
  refine World.ownsRow.kept ho h2 (.inr fun e => ?_)
  have := (ho.lt g e).1
  omega
/-- an answer of a number, and what became of the reader -/
def PNumPost (Lm : Nat) (T : TypeId) (g : Nat) (w : World) (p : Nat × Scn) (e : Ending) (w' : World) : Prop := e = .returned (.int .u64 (p.1 : Int)) ∧ Rd Lm T w' g p.2 ∧ Exc g w w'
/-- a new reader -/
def PNewPost (w : World) (l : List UInt8) (e : Ending) (w' : World) : Prop := ∃ g, e = .returned (.pointer (some ⟨g, 0, none⟩)) ∧ w.heap.size ≤ g ∧ Rd w'.heap.size 73 w' g ⟨l, 0⟩ ∧ Below w.heap.size w w'
set_option maxRecDepth 100000 in
set_option maxHeartbeats 8000000 in
theorem pcNew_any {l : List UInt8} {v : Value} (w : World) (hv : IsVals w v (l.map VB)) (hl : l.length ≤ 1000000) : Calls Try.prog 21 #[v] w (PNewPost w l) := by
  go_enter Try.func21, Try.ntmps21
  go_wp2_with (first
    | (go_at_call 41; refine (bClone_any _ hv hl).mono ?_; rintro e w1 ⟨v1, rfl, hO1, hB1⟩; have hV1 := hO1.vals; have hL1 : LimR w1.heap.size v1 l := (fun _ => lim_own hO1); clear hO1; go_frame)
    | ((with_reducible change wpList _ _ _ (Oper.mk (some 5) _ _ _ _ _ :: _) _ _); refine kBuildReader _ v1 hV1 rfl rfl rfl ?_; go_frame)
    | ((with_reducible change wpList _ _ _ (Oper.mk (some 6) _ _ _ _ _ :: _) _ _); refine kBox _ _ _ rfl rfl rfl ?_; intro w2 hR2 hz2 hB2; clear hz2; have hV2 := hV1.below hB2; have hL2 := hL1.mono hB2.size; have hsz := hB1.size; have hB3 := hB1.trans (hB2.mono hsz); clear hV1 hB1 hB2; go_frame))
  go_ret
  exact ⟨_, rfl, hsz, ⟨_, hR2, hV2, hL2⟩, hB3⟩
set_option maxRecDepth 100000 in
set_option maxHeartbeats 8000000 in
theorem rdLeft_any {s : Scn} {g n : Nat} (w : World) (h : Rd Lm 73 w g s) (hn : s.rest.length = n) : Calls Try.prog 24 #[.pointer (some ⟨g, 0, none⟩)] w fun e w' => e = .returned (.int .i64 (n : Int)) ∧ w' = w := by
  obtain ⟨v, hR, hV, hL⟩ := h
  go_enter Try.func24, Try.ntmps24
  go_wp2_with (first
    | ((with_reducible change wpList _ _ _ (Oper.mk (some 5) _ _ _ _ _ :: _) _ _); refine kR0 _ g rfl rfl rfl ?_; go_frame)
    | ((with_reducible change wpList _ _ _ (Oper.mk (some 6) _ _ _ _ _ :: _) _ _); refine kLoad1 _ _ _ g 0 _ v _ rfl rfl rfl hR Try.underlying25 rfl rfl ?_; go_frame)
    | ((with_reducible change wpList _ _ _ (Oper.mk (some 7) _ _ _ _ _ :: _) _ _); refine kLenN _ _ _ v _ n rfl rfl rfl hV (by rw [List.length_map, hn]) Try.underlying25 ?_; go_frame))
  go_ret
  exact ⟨rfl, rfl⟩
set_option maxRecDepth 100000 in
set_option maxHeartbeats 8000000 in
theorem rdErr_any {s : Scn} {g n : Nat} (w : World) (h : Rd Lm 73 w g s) (hn : s.err = n) : Calls Try.prog 25 #[.pointer (some ⟨g, 0, none⟩)] w fun e w' => e = .returned (.int .i64 (n : Int)) ∧ w' = w := by
  obtain ⟨v, hR, hV, hL⟩ := h
  rw [hn] at hR
  go_enter Try.func25, Try.ntmps25
  go_wp2_with (first
    | ((with_reducible change wpList _ _ _ (Oper.mk (some 5) _ _ _ _ _ :: _) _ _); refine kR1 _ g rfl rfl rfl ?_; go_frame)
    | ((with_reducible change wpList _ _ _ (Oper.mk (some 6) _ _ _ _ _ :: _) _ _); refine kLoad1 _ _ _ g 1 _ (.int .i64 (n : Int)) _ rfl rfl rfl hR Try.underlying22 rfl rfl ?_; go_frame))
  go_ret
  exact ⟨rfl, rfl⟩
set_option maxRecDepth 100000 in
set_option maxHeartbeats 8000000 in
theorem rdTake_any {s : Scn} {g n : Nat} (w : World) (h : Rd Lm 73 w g s) : Calls Try.prog 56 #[.pointer (some ⟨g, 0, none⟩), .int .i64 (n : Int)] w (TakePost Lm 73 g w (takeS s n)) := by
  have h0 := h
  obtain ⟨v, hR, hV, hL⟩ := h
  obtain ⟨m, hm⟩ : ∃ m, s.rest.length = m := ⟨_, rfl⟩
  obtain ⟨E, hE⟩ : ∃ E, s.err = E := ⟨_, rfl⟩
  rw [hE] at hR
  by_cases he : E ≠ 0
  · rw [takeS_bad (by rw [hE]; exact he)]
    have hd : (!decide ((E : Int) = 0)) = true := by simp; exact he
    go_enter Try.func56, Try.ntmps56
    go_wp2_with (first
      | ((with_reducible change wpList _ _ _ (Oper.mk (some 8) _ _ _ _ _ :: _) _ _); refine kR1 _ g rfl rfl rfl ?_; go_frame)
      | ((with_reducible change wpList _ _ _ (Oper.mk (some 9) _ _ _ _ _ :: _) _ _); refine kLoad1 _ _ _ g 1 _ (.int .i64 (E : Int)) _ rfl rfl rfl hR Try.underlying22 rfl rfl ?_; go_frame)
      | ((with_reducible change wpList _ _ _ (Oper.mk (some 10) _ _ _ _ _ :: _) _ _); refine kNeqI _ _ _ _ .i64 (E : Int) 0 true rfl rfl rfl rfl hd ?_; go_frame))
    go_ret
    exact ⟨_, rfl, isVals_nil _, h0, exc_refl _ _⟩
  have he0 : E = 0 := by omega
  have hd : (!decide ((E : Int) = 0)) = false := by simp; exact he0
  by_cases hn : m < n
  · rw [takeS_short (by rw [hE]; exact he0) (by omega)]
    have hg2 : decide ((n : Int) > (m : Int)) = true := by simp; omega
    clear he0 he
    go_enter Try.func56, Try.ntmps56
    go_wp2_with (first
      | ((with_reducible change wpList _ _ _ (Oper.mk (some 8) _ _ _ _ _ :: _) _ _); refine kR1 _ g rfl rfl rfl ?_; go_frame)
      | ((with_reducible change wpList _ _ _ (Oper.mk (some 9) _ _ _ _ _ :: _) _ _); refine kLoad1 _ _ _ g 1 _ (.int .i64 (E : Int)) _ rfl rfl rfl hR Try.underlying22 rfl rfl ?_; go_frame)
      | ((with_reducible change wpList _ _ _ (Oper.mk (some 10) _ _ _ _ _ :: _) _ _); refine kNeqI _ _ _ _ .i64 (E : Int) 0 false rfl rfl rfl rfl hd ?_; go_frame)
      | ((with_reducible change wpList _ _ _ (Oper.mk (some 14) _ _ _ _ _ :: _) _ _); refine kR0 _ g rfl rfl rfl ?_; go_frame)
      | ((with_reducible change wpList _ _ _ (Oper.mk (some 15) _ _ _ _ _ :: _) _ _); refine kLoad1 _ _ _ g 0 _ v _ rfl rfl rfl hR Try.underlying25 rfl rfl ?_; go_frame)
      | ((with_reducible change wpList _ _ _ (Oper.mk (some 16) _ _ _ _ _ :: _) _ _); refine kLenN _ _ _ v _ m rfl rfl rfl hV (by rw [List.length_map, hm]) Try.underlying25 ?_; go_frame)
      | ((with_reducible change wpList _ _ _ (Oper.mk (some 17) _ _ _ _ _ :: _) _ _); refine kGtrI _ _ _ _ .i64 (n : Int) (m : Int) true rfl rfl rfl rfl hg2 ?_; go_frame)
      | ((with_reducible change wpList _ _ _ (Oper.mk (some 20) _ _ _ _ _ :: _) _ _); refine kR1 _ g rfl rfl rfl ?_; go_frame)
      | ((with_reducible change wpList _ _ _ (Oper.mk none _ _ _ _ _ :: _) _ _); refine kStore1 _ _ _ _ g 1 _ (.int .i64 61) rfl rfl rfl rfl hR info_errno (show 1 < 2 by decide) rfl ?_; intro w1 hR1 hW1; go_frame))
    go_ret
    exact ⟨_, rfl, isVals_nil _, rd_put (t := ⟨s.rest, 61⟩) h0 hR1 hW1 hV rfl hL, exc_wrote hW1⟩
  · rw [takeS_some (by rw [hE]; exact he0) (by omega)]
    have hg2 : decide ((n : Int) > (m : Int)) = false := by simp; omega
    have hnl : n ≤ s.rest.length := by omega
    have HE := Lib.hid he0
    clear he0 he
    go_enter Try.func56, Try.ntmps56
    go_wp2_with (first
      | ((with_reducible change wpList _ _ _ (Oper.mk (some 8) _ _ _ _ _ :: _) _ _); refine kR1 _ g rfl rfl rfl ?_; go_frame)
      | ((with_reducible change wpList _ _ _ (Oper.mk (some 9) _ _ _ _ _ :: _) _ _); refine kLoad1 _ _ _ g 1 _ (.int .i64 (E : Int)) _ rfl rfl rfl hR Try.underlying22 rfl rfl ?_; go_frame)
      | ((with_reducible change wpList _ _ _ (Oper.mk (some 10) _ _ _ _ _ :: _) _ _); refine kNeqI _ _ _ _ .i64 (E : Int) 0 false rfl rfl rfl rfl hd ?_; go_frame)
      | ((with_reducible change wpList _ _ _ (Oper.mk (some 14) _ _ _ _ _ :: _) _ _); refine kR0 _ g rfl rfl rfl ?_; go_frame)
      | ((with_reducible change wpList _ _ _ (Oper.mk (some 15) _ _ _ _ _ :: _) _ _); refine kLoad1 _ _ _ g 0 _ v _ rfl rfl rfl hR Try.underlying25 rfl rfl ?_; go_frame)
      | ((with_reducible change wpList _ _ _ (Oper.mk (some 16) _ _ _ _ _ :: _) _ _); refine kLenN _ _ _ v _ m rfl rfl rfl hV (by rw [List.length_map, hm]) Try.underlying25 ?_; go_frame)
      | ((with_reducible change wpList _ _ _ (Oper.mk (some 17) _ _ _ _ _ :: _) _ _); refine kGtrI _ _ _ _ .i64 (n : Int) (m : Int) false rfl rfl rfl rfl hg2 ?_; go_frame)
      | ((with_reducible change wpList _ _ _ (Oper.mk (some 23) _ _ _ _ _ :: _) _ _); refine kR0 _ g rfl rfl rfl ?_; go_frame)
      | ((with_reducible change wpList _ _ _ (Oper.mk (some 24) _ _ _ _ _ :: _) _ _); refine kLoad1 _ _ _ g 0 _ v _ rfl rfl rfl hR Try.underlying25 rfl rfl ?_; go_frame)
      | ((with_reducible change wpList _ _ _ (Oper.mk (some 26) _ _ _ _ _ :: _) _ _); refine kSliceTo _ _ v s.rest n hV hnl rfl rfl rfl rfl ?_; intro hT; go_frame)
      | ((with_reducible change wpList _ _ _ (Oper.mk (some 30) _ _ _ _ _ :: _) _ _); refine kR0 _ g rfl rfl rfl ?_; go_frame)
      | ((with_reducible change wpList _ _ _ (Oper.mk (some 31) _ _ _ _ _ :: _) _ _); refine kLoad1 _ _ _ g 0 _ v _ rfl rfl rfl hR Try.underlying25 rfl rfl ?_; go_frame)
      | ((with_reducible change wpList _ _ _ (Oper.mk (some 33) _ _ _ _ _ :: _) _ _); refine kSliceFromB _ _ v s.rest n hV hnl rfl rfl rfl rfl ?_; intro hF; go_frame)
      | ((with_reducible change wpList _ _ _ (Oper.mk (some 35) _ _ _ _ _ :: _) _ _); refine kR0 _ g rfl rfl rfl ?_; go_frame)
      | ((with_reducible change wpList _ _ _ (Oper.mk none _ _ _ _ _ :: _) _ _); refine kStore1 _ _ _ _ g 0 _ (fromV v n) rfl rfl rfl rfl hR info_bytesP (show 0 < 2 by decide) (vals_one hF) ?_; intro w1 hR1 hW1; go_frame))
    go_ret
    exact ⟨_, rfl, (exc_wrote hW1).vals h0 hT, rd_put (t := ⟨s.rest.drop n, 0⟩) h0 hR1 hW1 hF (by rw [HE.out]) (hL.from n), exc_wrote hW1⟩
set_option maxRecDepth 100000 in
set_option maxHeartbeats 8000000 in
theorem rdRaw_own {s : Scn} {g : Nat} {z : Int} (w : World) (h : Rd Lm 73 w g s) (hs : s.rest.length ≤ 1000000) : Calls Try.prog 42 #[.pointer (some ⟨g, 0, none⟩), .int .i64 z] w (RawPost Lm 73 g w (rawS s z)) := by
  by_cases hz : z < 1
  · rw [rawS_low hz]
    have hd : decide (z < 1) = true := by simp; omega
    go_enter Try.func42, Try.ntmps42
    go_wp2_with (first
      | ((with_reducible change wpList _ _ _ (Oper.mk (some 6) _ _ _ _ _ :: _) _ _); refine kLssI _ _ _ _ .i64 z 1 true rfl rfl rfl rfl hd ?_; go_frame))
    go_ret
    exact ⟨_, rfl, ownB_nil _ _, h, exc_refl _ _⟩
  · have hd : decide (z < 1) = false := by simp; omega
    obtain ⟨n, rfl⟩ : ∃ n : Nat, z = (n : Int) := ⟨z.toNat, by omega⟩
    rw [rawS_take]
    have hlen : (takeS s n).1.length ≤ 1000000 := by
      unfold takeS; split
      · exact Nat.zero_le _
      · split
        · exact Nat.zero_le _
        · rw [List.length_take]; omega
    have htk := rdTake_any (n := n) w h
    generalize takeS s n = p at *
    go_enter Try.func42, Try.ntmps42
    go_wp2_with (first
      | ((with_reducible change wpList _ _ _ (Oper.mk (some 6) _ _ _ _ _ :: _) _ _); refine kLssI _ _ _ _ .i64 (n : Int) 1 false rfl rfl rfl rfl hd ?_; go_frame)
      | (go_at_call 56; refine (htk).mono ?_; rintro e w1 ⟨v1, rfl, hV1, hR1, hX1⟩; clear htk; go_frame)
      | (go_at_call 41; refine (bClone_any _ hV1 hlen).mono ?_; rintro e w2 ⟨v2, rfl, hO2, hB2⟩; go_frame))
    go_ret
    exact ⟨_, rfl, own_less hX1.size hO2, hR1.below hB2, hX1.trans (exc_below g hB2)⟩
theorem rdRaw_any {s : Scn} {g : Nat} {z : Int} (w : World) (h : Rd Lm 73 w g s) (hs : s.rest.length ≤ 1000000) : Calls Try.prog 42 #[.pointer (some ⟨g, 0, none⟩), .int .i64 z] w (TakePost Lm 73 g w (rawS s z)) := (rdRaw_own w h hs).mono RawPost.take
end Go.Proofs.Ytgichipcmbnnhaa
