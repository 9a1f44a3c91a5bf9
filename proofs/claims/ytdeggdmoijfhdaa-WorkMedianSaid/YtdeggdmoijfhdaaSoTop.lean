/-
  Layer 12: the sort: Collect, Sort, Sorted, and the middle one of what was sorted.
-/
import Derived.Test.YtdeggdmoijfhdaaSoSeq
namespace Go.Proofs.Ytdeggdmoijfhdaa
open Go Go.RowKit SoI

theorem fin_list {N : Nat} {d : Array Nat} (h : d.size = N) : ((List.finRange N).map fun x => dv d x.1) = d.toList := by
  subst h
  refine List.ext_getElem (by simp) fun i h1 h2 => ?_
  simp at h1
  simp [dv, getElem!_pos d i h1]
set_option maxRecDepth 100000 in
theorem sCollect_any {g N c Bs : Nat} {d : Array Nat} (W0 : World) (hD : Dat W0 g N c d) (hS : Row W0 Bs 45 #[.slice (some ⟨g, 0, none⟩) N c]) (hN : N ≤ 1000) : Calls Try.prog 48 #[.func (.func 50) #[] #[.pointer (some ⟨Bs, 0, none⟩)]] W0 (SeqPost W0 d.toList) := by
  have hl := fin_list hD.size
  go_enter Try.func48, Try.ntmps48
  go_wp2_with (first
    | (go_at_call 55; refine (sAppendSeq_any _ hD hS hN).mono ?_; rintro e w1 ⟨u, rfl, hO, hB⟩; go_frame))
  (try simp only [Exit.inBlock, Exit.then])
  refine ret1W rfl rfl ?_
  exact ⟨u, rfl, hl ▸ hO, hB⟩
set_option maxRecDepth 100000 in
set_option maxHeartbeats 16000000 in
theorem sSort_any {g n cap : Nat} {d : Array Nat} (w : World) (hD : Dat w g n cap d) (hn : n ≤ 50) : Calls Try.prog 49 #[.slice (some ⟨g, 0, none⟩) n cap] w (SoPost w g n cap fun d' => PermI 0 n d d' ∧ Srt 0 n d') := by
  obtain ⟨r, Hr⟩ : ∃ r, Hid (blen n = r) := ⟨_, Lib.hid rfl⟩
  have hr : r ≤ 64 := by rw [← Hr.out]; exact (blen_le n 64).2 (by omega)
  have f8 : Hid (IntKind.u64.wrap (n : Int) = (n : Int)) := Lib.hid (wrap_u64N (by omega))
  have hp := fun w hD => sPdq_any (cap := cap) (g := g) hn (n + 1) (a := 0) (b := n) (lim := r) (d := d) w (by omega) hD (Nat.zero_le _) (Nat.le_refl _) hr (.inl rfl)
  go_enter Try.func49, Try.ntmps49
  go_wp2_with (first
    | ((with_reducible change wpList _ _ _ (Oper.mk (some 4) _ _ _ _ _ :: _) _ _); refine kYw (yLenK _ _ _ (some ⟨g, 0, none⟩) n cap Try.underlying45 rfl rfl rfl) ?_; go_frame)
    | ((with_reducible change wpList _ _ _ (Oper.mk (some 8) _ _ _ _ _ :: _) _ _); refine kYw (yConvK Try.underlying3 Try.underlying55 _ (n : Int) (n : Int) f8.out rfl rfl rfl) ?_; go_frame)
    | (go_at_call 57; refine (bitsLen_as (by omega) Hr.out _).mono ?_; rintro e w1 ⟨rfl, rfl⟩; go_frame)
    | (go_at_call 56; refine (hp _ hD).mono ?_; rintro e w2 ⟨rfl, d1, hr1, hD1, hE1⟩; go_frame))
  go_end0
  exact ⟨rfl, d1, hr1, hD1, hE1⟩
def SortedPost (w : World) (N : Nat) (d : Array Nat) (e : Ending) (w' : World) : Prop := ∃ (g cap : Nat) (d' : Array Nat), e = .returned (.slice (some ⟨g, 0, none⟩) N cap) ∧ Dat w' g N cap d' ∧ PermI 0 N d d' ∧ Srt 0 N d' ∧ Below w.heap.size w w'
set_option maxRecDepth 100000 in
set_option maxHeartbeats 16000000 in
theorem sSorted_any {g N c Bs : Nat} {d : Array Nat} (W0 : World) (hD : Dat W0 g N c d) (hS : Row W0 Bs 45 #[.slice (some ⟨g, 0, none⟩) N c]) (h0 : 0 < N) (hN : N ≤ 50) : Calls Try.prog 31 #[.func (.func 50) #[] #[.pointer (some ⟨Bs, 0, none⟩)]] W0 (SortedPost W0 N d) := by
  have hl : d.toList.length = N := by rw [Array.length_toList]; exact hD.size
  go_enter Try.func31, Try.ntmps31
  go_wp2_with (first
    | (go_at_call 48; refine (sCollect_any _ hD hS (by omega)).mono ?_; rintro e w1 ⟨u, rfl, hO, hB⟩; obtain ⟨g2, cap, rfl, hg2, hD2⟩ := hO.dat (by omega); rw [hl, Array.toArray_toList] at hD2; rw [hl]; go_frame)
    | (go_at_call 49; refine (sSort_any _ hD2 hN).mono ?_; rintro e w2 ⟨rfl, d1, hr1, hD3, hE3⟩; go_frame))
  (try simp only [Exit.inBlock, Exit.then])
  refine ret1W rfl rfl ?_
  exact ⟨g2, cap, d1, rfl, hD3, hr1.1, hr1.2, hB.trans (hE3.below hg2 hB.size)⟩
set_option maxRecDepth 100000 in
set_option maxHeartbeats 16000000 in
theorem kMedian_any {g N c m : Nat} {d : Array Nat} (w : World) (hD : Dat w g N c d) (h0 : 0 < N) (hN : N ≤ 50) (hm : medianN d.toList = m) : Calls Try.prog 12 #[.slice (some ⟨g, 0, none⟩) N c] w fun e w' => e = .returned (VW m) ∧ Below w.heap.size w w' := by
  have hsz := hD.size
  obtain ⟨h, Hh⟩ : ∃ h, Hid (N / 2 = h) := ⟨_, Lib.hid rfl⟩
  have hh := Hh.out
  have d5 : decide ((N : Int) = 0) = false := by simp; omega
  have f11 : Hid (N / 2 = h ∧ 0 < 2 ∧ IntKind.i64.wrap (N / 2 : Nat) = (N / 2 : Nat)) := Lib.hid ⟨hh, by decide, wrap_i64N (by omega)⟩
  go_enter Try.func12, Try.ntmps12
  go_wp2_with (first
    | ((with_reducible change wpList _ _ _ (Oper.mk (some 4) _ _ _ _ _ :: _) _ _); refine kYw (yLenK _ _ _ (some ⟨g, 0, none⟩) N c Try.underlying45 rfl rfl rfl) ?_; go_frame)
    | ((with_reducible change wpList _ _ _ (Oper.mk (some 5) _ _ _ _ _ :: _) _ _); refine kYw (yEqlK _ _ _ _ .i64 (N : Int) 0 false d5 rfl rfl rfl rfl) ?_; go_frame)
    | (go_at_call 32; refine (values_any _ _ _ _).mono ?_; rintro e w1 ⟨rfl, rfl⟩; have hB1 : Below w.heap.size w (w.alloc (.cells #[.slice (some ⟨g, 0, none⟩) N c] 45)) := (Below.refl _ _).alloc (Nat.le_refl _) _; have hS1 : Row (w.alloc (.cells #[.slice (some ⟨g, 0, none⟩) N c] 45)) w.heap.size 45 #[.slice (some ⟨g, 0, none⟩) N c] := heap_alloc_new w _; generalize w.alloc (.cells #[.slice (some ⟨g, 0, none⟩) N c] 45) = w1 at *; have hD1 := hD.below hB1; go_frame)
    | (go_at_call 31; refine (sSorted_any _ hD1 hS1 h0 hN).mono ?_; rintro e w2 ⟨g2, cap2, d2, rfl, hD2, hP2, hS2, hB2⟩; have hB3 := hB1.trans (hB2.mono hB1.size); clear hB1 hB2 hS1 hD1; go_frame)
    | ((with_reducible change wpList _ _ _ (Oper.mk (some 10) _ _ _ _ _ :: _) _ _); refine kYw (yLenK _ _ _ (some ⟨g, 0, none⟩) N c Try.underlying45 rfl rfl rfl) ?_; go_frame)
    | ((with_reducible change wpList _ _ _ (Oper.mk (some 11) _ _ _ _ _ :: _) _ _); refine kYw (yQuoN .i64 _ _ _ _ N 2 h f11.out rfl rfl rfl rfl) ?_; go_frame)
    | ((with_reducible change wpList _ _ _ (Oper.mk (some 12) _ _ _ _ _ :: _) _ _); refine kYw (yIdxD _ _ g2 N cap2 h (by omega) rfl rfl rfl rfl) ?_; go_frame)
    | ((with_reducible change wpList _ _ _ (Oper.mk (some 13) _ _ _ _ _ :: _) _ _); refine kYw (yLoadD _ (fun _ e => by cases e; exact hD2) (by omega) rfl rfl rfl) ?_; go_frame))
  (try simp only [Exit.inBlock, Exit.then])
  refine ret1W rfl rfl ?_
  have hx := median_of (x := dv d2 h) (hsz ▸ hP2) (hsz ▸ hS2) (by omega) (by rw [hsz, hh])
  rw [hm] at hx
  exact ⟨by rw [hx]; rfl, hB3⟩
end Go.Proofs.Ytdeggdmoijfhdaa
