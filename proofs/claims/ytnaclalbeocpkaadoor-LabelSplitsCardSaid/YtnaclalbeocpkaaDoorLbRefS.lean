/-
  Layer 8: the walk of the reference's Split.
-/
import Derived.Test.YtnaclalbeocpkaaDoorLbRefL
import Derived.Test.YtnaclalbeocpkaaDoorLbNs
import Derived.Lib.Hide
namespace Go.Proofs.YtnaclalbeocpkaaDoor
open Go Go.RowKit

def OwnS (w : World) (base : Nat) (v : Value) (Ls : List (List UInt8)) : Prop := w.ownsRow base 9 1 v (Ls.map textV).length (Ls.map textV)
theorem OwnS.vals {w : World} {b : Nat} {v : Value} {Ls : List (List UInt8)} (h : OwnS w b v Ls) : IsVals w v (Ls.map textV) := isVals_own h
theorem OwnS.below {w w' : World} {b : Nat} {v : Value} {Ls : List (List UInt8)} (h : OwnS w b v Ls) (hb : Below w.heap.size w w') : OwnS w' b v Ls := ownsRow_below h hb
def lenV (v : Value) : Nat := match v with
  | .slice _ n _ => n
  | _ => 0
theorem OwnS.len {w : World} {b : Nat} {v : Value} {Ls : List (List UInt8)} (h : OwnS w b v Ls) : lenV v = Ls.length := by
  obtain ⟨ao, c, rfl, -⟩ := h.vals
  simp [lenV]
section
variable {ops : Array Oper} {Q : Exit → Act → World → Prop} {rest : List Oper} {o : Oper} {a : Act} {w : World} {S : World → Prop}
/-- append of one text to a slice of one's own -/
theorem kAppS (s x : Operand) (ho : o.op = .call { callee := .builtin .append, args := #[s, x], argTypes := #[52, 52] }) (hg : o.guard = none) (base : Nat) (v y : Value) (Ls : List (List UInt8)) (X : List UInt8) (hown : OwnS w base v Ls) (hy : IsVals w y [textV X]) (hs : a.eval s = v) (hx : a.eval x = y)
    (hlen : Ls.length ≤ 1000) (hbase : base ≤ w.heap.size)
    (h : ∀ v' w', OwnS w' base v' (Ls ++ [X]) → Below base w w' → wpList Tryd.prog ops Q rest (a.put o.dst v') w') : wpList Tryd.prog ops Q (o :: rest) a w := by
  obtain ⟨i, hi, hz, hsize, hby⟩ := strInfoL
  refine kAppend s x _ _ ho hg base i _ Tryd.underlying52 hi hz hsize rfl v y (Ls.map textV) [textV X] hs hown hx hy (by intro u hu; simp at hu; subst hu; rfl) (by simp [maxLen]; omega) (by rw [hby]; simp; omega) hbase fun v' w' h1 h2 => ?_
  have e : Ls.map textV ++ [textV X] = (Ls ++ [X]).map textV := by simp
  rw [e] at h1
  exact h v' w' h1 (below_grown hown h2 hbase)
theorem yBuildD0 (ho : o.op = .build 29 #[]) (hg : Region.wanted o (yielded ops a.tmps) = true) (h : wpList Tryd.prog ops Q rest (a.put o.dst (deedV noDeed)) w) : wpList Tryd.prog ops Q (o :: rest) a w := kBuildD0 ho hg h
theorem yLoadD8 (x : Operand) (g : Nat) (d : Deed) (hr : ∀ w, S w → Row w g 29 (dcells d)) (ho : o.op = .load 29 x) (hg : Region.wanted o (yielded ops a.tmps) = true) (hx : a.eval x = .pointer (some ⟨g, 0, none⟩)) : YieldsIf Tryd.prog ops S o (deedV d) a :=
  yOf hg fun w hS => by
    have hl := run_loadVar_row w g 29 29 (dcells d) _ _ (hr w hS) Tryd.underlying29 (by rfl) (info_DeedC d)
    unfold execOp
    simp only [ho, hx, Instr.loadAt, Instr.sureAddr, Sem.run_bind, Sem.run_pure, Result.andThen_ok, hl]
    rfl
theorem yGtrI8 {P : Program} (T T2 : TypeId) (x y : Operand) (k : IntKind) (m n : Int) (b : Bool) (ho : o.op = .binOp .gtr T x y T2) (hg : Region.wanted o (yielded ops a.tmps) = true) (hx : a.eval x = .int k m) (hy : a.eval y = .int k n) (hb : decide (m > n) = b) : YieldsIf P ops S o (.bool b) a :=
  yOf hg fun w _ => by
    subst hb
    unfold execOp; simp only [ho, hx, hy]; simp [eqGuard, binOp, Op.intCmp]
end
/-- cells of a deed of the kind NameNew whose Commit is being filled -/
def comF (L : List UInt8) (j : Nat) : Array Value := dtab (.int .i64 1) (textV []) (textV []) (textV []) fun p => VB (if p < j then at8 L p else 0)
theorem comF_0 (L : List UInt8) : comF L 0 = dcells ⟨1, [], [], [], z20⟩ := by
  unfold comF dcells
  rw [dtab_z]
  simp
theorem comF_20 {L : List UInt8} : comF L 20 = dcells ⟨1, [], [], [], L⟩ := by
  unfold comF dcells dtab
  rw [List.map_congr_left (g := fun p => VB (at8 L p)) fun p hp => by rw [if_pos (List.mem_range.1 hp)]]
theorem comF_size (L : List UInt8) (j : Nat) : (comF L j).size = 24 := by simp [comF, dtab]
theorem comF_set {L : List UInt8} {j : Nat} (_ : j < 20) : (comF L j).setIfInBounds (4 + j) (VB (at8 L j)) = comF L (j + 1) := by
  unfold comF dtab
  rw [show 4 + j = j + 1 + 1 + 1 + 1 by omega, List.setIfInBounds_toArray]
  simp only [List.set_cons_succ]
  congr 5
  apply List.ext_getElem (by simp)
  intro p h1 h2
  rw [List.getElem_set]
  simp only [List.getElem_map, List.getElem_range]
  by_cases e : j = p
  · subst e; simp
  · rw [if_neg e]
    congr 1
    by_cases h : p < j
    · rw [if_pos h, if_pos (by omega)]
    · rw [if_neg h, if_neg (by omega)]
set_option maxRecDepth 100000 in
set_option maxHeartbeats 8000000 in
theorem nSplit_0 {l : List UInt8} {v : Value} (w : World) (hv : IsVals w v (l.map VB)) (hl : l.length ≤ 1000000) (h0 : kindL l = 0) : Calls Tryd.prog 15 #[v] w (SplitPost8 w (some (noDeed, l))) := by
  obtain ⟨i, hi, hz, hs1, hby⟩ := b8Info
  obtain ⟨m, hm⟩ : ∃ m, l.length = m := ⟨_, rfl⟩
  cases l with
  | nil =>
    have hm0 : decide ((m : Int) = 0) = true := by simp at hm; simp; omega
    go_enter Tryd.func15, Tryd.ntmps15
    go_wp2_with (first
      | ((with_reducible change wpList _ _ _ (Oper.mk (some 2) _ _ _ _ _ :: _) _ _); refine kAllocL _ _ rfl rfl zero_Deed ?_; intro w1 hR2 hz1 hB1; have hv1 := hv.below hB1; go_frame)
      | ((with_reducible change wpList _ _ _ (Oper.mk (some 16) _ _ _ _ _ :: _) _ _); refine kLenN _ _ _ v _ m rfl rfl rfl hv1 (by rw [List.length_map, hm]) Tryd.underlying22 ?_; go_frame)
      | ((with_reducible change wpList _ _ _ (Oper.mk (some 17) _ _ _ _ _ :: _) _ _); refine kEqlI _ _ _ _ .i64 (m : Int) 0 true rfl rfl rfl rfl hm0 ?_; go_frame)
      | ((with_reducible change wpList _ _ _ (Oper.mk (some 30) _ _ _ _ _ :: _) _ _); refine kBuildD0 rfl rfl ?_; go_frame)
      | ((with_reducible change wpList _ _ _ (Oper.mk (some 31) _ _ _ _ _ :: _) _ _); refine kBuildSlice0 _ _ rfl rfl Tryd.underlying22 i hi ?_; intro w3 hRr hzz hB3; clear hzz; have hO3 : OwnB w3 w1.heap.size _ [] := own_empty (Nat.le_refl _) hRr; clear hRr; have hv3 := hv1.below hB3; have hs3 := hB3.size; go_frame)
      | ((with_reducible change wpList _ _ _ (Oper.mk (some 33) _ _ _ _ _ :: _) _ _); refine kAppB _ _ rfl rfl w1.heap.size _ _ [] ([]) hO3 hv3 rfl rfl (by first | (simp; done) | (simp at *; omega)) hs3 ?_; intro v4 w4 hO4 hB4; rw [List.nil_append] at hO4; have hB34 := hB3.trans hB4; have hR4 := hR2.below hB34 hR2.lt; have hB5 := hB1.trans (hB34.mono hB1.size); clear hO3 hv3 hB3 hB4; go_frame)
      | ((with_reducible change wpList _ _ _ (Oper.mk none (Op.store _ (Operand.tmp 2) (Operand.tmp 30)) _ _ _ _ :: _) _ _); refine kStoreD _ _ _ noDeed _ hR4 rfl rfl rfl rfl ?_; intro w6 hR6 hW6; have hO6 := own_keepW hO4 hW6 hR4; have hB7 := hB5.trans (hW6.below (Nat.le_refl _)); clear hW6 hB5 hO4; go_frame))
    (try simp only [Exit.inBlock, Exit.then])
    exact result_row_tmp2 rfl rfl rfl rfl hR6 Tryd.underlying29 rfl (info_DeedC _) rfl ⟨_, rfl, own_less (Nat.le_of_lt hz1) hO6, hB7⟩
  | cons c t =>
    have hm0 : decide ((m : Int) = 0) = false := by simp at hm; simp; omega
    by_cases k1 : c.toNat < 81
    · have g1 : decide (B c < 81) = true := by unfold B; simp; omega
      go_enter Tryd.func15, Tryd.ntmps15
      go_wp2_with (first
        | ((with_reducible change wpList _ _ _ (Oper.mk (some 2) _ _ _ _ _ :: _) _ _); refine kAllocL _ _ rfl rfl zero_Deed ?_; intro w1 hR2 hz1 hB1; have hv1 := hv.below hB1; go_frame)
        | ((with_reducible change wpList _ _ _ (Oper.mk (some 16) _ _ _ _ _ :: _) _ _); refine kLenN _ _ _ v _ m rfl rfl rfl hv1 (by rw [List.length_map, hm]) Tryd.underlying22 ?_; go_frame)
        | ((with_reducible change wpList _ _ _ (Oper.mk (some 17) _ _ _ _ _ :: _) _ _); refine kEqlI _ _ _ _ .i64 (m : Int) 0 false rfl rfl rfl rfl hm0 ?_; go_frame)
        | ((with_reducible change wpList _ _ _ (Oper.mk (some 20) _ _ _ _ _ :: _) _ _); refine kIndexAddrV _ _ _ _ .i64 v _ 0 0 (VB c) rfl rfl rfl hv1 rfl Tryd.underlying22 info_b8P rfl rfl ?_; intro b hb; go_frame)
        | ((with_reducible change wpList _ _ _ (Oper.mk (some 21) _ _ _ _ _ :: _) _ _); refine kLoadCell _ _ b (VB c) _ rfl rfl rfl hb Tryd.underlying5 rfl ?_; clear hb; go_frame)
        | ((with_reducible change wpList _ _ _ (Oper.mk (some 22) _ _ _ _ _ :: _) _ _); refine kLssI _ _ _ _ .u8 (B c) 81 true rfl rfl rfl rfl g1 ?_; go_frame)
        | ((with_reducible change wpList _ _ _ (Oper.mk (some 30) _ _ _ _ _ :: _) _ _); refine kBuildD0 rfl rfl ?_; go_frame)
        | ((with_reducible change wpList _ _ _ (Oper.mk (some 31) _ _ _ _ _ :: _) _ _); refine kBuildSlice0 _ _ rfl rfl Tryd.underlying22 i hi ?_; intro w3 hRr hzz hB3; clear hzz; have hO3 : OwnB w3 w1.heap.size _ [] := own_empty (Nat.le_refl _) hRr; clear hRr; have hv3 := hv1.below hB3; have hs3 := hB3.size; go_frame)
        | ((with_reducible change wpList _ _ _ (Oper.mk (some 33) _ _ _ _ _ :: _) _ _); refine kAppB _ _ rfl rfl w1.heap.size _ _ [] (c :: t) hO3 hv3 rfl rfl (by first | (simp; done) | (simp at *; omega)) hs3 ?_; intro v4 w4 hO4 hB4; rw [List.nil_append] at hO4; have hB34 := hB3.trans hB4; have hR4 := hR2.below hB34 hR2.lt; have hB5 := hB1.trans (hB34.mono hB1.size); clear hO3 hv3 hB3 hB4; go_frame)
        | ((with_reducible change wpList _ _ _ (Oper.mk none (Op.store _ (Operand.tmp 2) (Operand.tmp 30)) _ _ _ _ :: _) _ _); refine kStoreD _ _ _ noDeed _ hR4 rfl rfl rfl rfl ?_; intro w6 hR6 hW6; have hO6 := own_keepW hO4 hW6 hR4; have hB7 := hB5.trans (hW6.below (Nat.le_refl _)); clear hW6 hB5 hO4; go_frame))
      (try simp only [Exit.inBlock, Exit.then])
      exact result_row_tmp2 rfl rfl rfl rfl hR6 Tryd.underlying29 rfl (info_DeedC _) rfl ⟨_, rfl, own_less (Nat.le_of_lt hz1) hO6, hB7⟩
    have g1 : decide (B c < 81) = false := by unfold B; simp; omega
    have g2 : decide (B c > 83) = true := by
      have e1 : c ≠ 81 := by rintro rfl; simp [kindL, at8] at h0
      have e2 : c ≠ 82 := by rintro rfl; simp [kindL, at8] at h0
      have e3 : c ≠ 83 := by rintro rfl; simp [kindL, at8] at h0
      have f1 : c.toNat ≠ 81 := fun e => e1 (UInt8.toNat_inj.1 e)
      have f2 : c.toNat ≠ 82 := fun e => e2 (UInt8.toNat_inj.1 e)
      have f3 : c.toNat ≠ 83 := fun e => e3 (UInt8.toNat_inj.1 e)
      unfold B; simp; omega
    go_enter Tryd.func15, Tryd.ntmps15
    go_wp2_with (first
      | ((with_reducible change wpList _ _ _ (Oper.mk (some 2) _ _ _ _ _ :: _) _ _); refine kAllocL _ _ rfl rfl zero_Deed ?_; intro w1 hR2 hz1 hB1; have hv1 := hv.below hB1; go_frame)
      | ((with_reducible change wpList _ _ _ (Oper.mk (some 16) _ _ _ _ _ :: _) _ _); refine kLenN _ _ _ v _ m rfl rfl rfl hv1 (by rw [List.length_map, hm]) Tryd.underlying22 ?_; go_frame)
      | ((with_reducible change wpList _ _ _ (Oper.mk (some 17) _ _ _ _ _ :: _) _ _); refine kEqlI _ _ _ _ .i64 (m : Int) 0 false rfl rfl rfl rfl hm0 ?_; go_frame)
      | ((with_reducible change wpList _ _ _ (Oper.mk (some 20) _ _ _ _ _ :: _) _ _); refine kIndexAddrV _ _ _ _ .i64 v _ 0 0 (VB c) rfl rfl rfl hv1 rfl Tryd.underlying22 info_b8P rfl rfl ?_; intro b hb; go_frame)
      | ((with_reducible change wpList _ _ _ (Oper.mk (some 21) _ _ _ _ _ :: _) _ _); refine kLoadCell _ _ b (VB c) _ rfl rfl rfl hb Tryd.underlying5 rfl ?_; clear hb; go_frame)
      | ((with_reducible change wpList _ _ _ (Oper.mk (some 22) _ _ _ _ _ :: _) _ _); refine kLssI _ _ _ _ .u8 (B c) 81 false rfl rfl rfl rfl g1 ?_; go_frame)
      | ((with_reducible change wpList _ _ _ (Oper.mk (some 26) _ _ _ _ _ :: _) _ _); refine kIndexAddrV _ _ _ _ .i64 v _ 0 0 (VB c) rfl rfl rfl hv1 rfl Tryd.underlying22 info_b8P rfl rfl ?_; intro b hb; go_frame)
      | ((with_reducible change wpList _ _ _ (Oper.mk (some 27) _ _ _ _ _ :: _) _ _); refine kLoadCell _ _ b (VB c) _ rfl rfl rfl hb Tryd.underlying5 rfl ?_; clear hb; go_frame)
      | ((with_reducible change wpList _ _ _ (Oper.mk (some 28) _ _ _ _ _ :: _) _ _); refine kGtrI _ _ _ _ .u8 (B c) 83 true rfl rfl rfl rfl g2 ?_; go_frame)
      | ((with_reducible change wpList _ _ _ (Oper.mk (some 30) _ _ _ _ _ :: _) _ _); refine kBuildD0 rfl rfl ?_; go_frame)
      | ((with_reducible change wpList _ _ _ (Oper.mk (some 31) _ _ _ _ _ :: _) _ _); refine kBuildSlice0 _ _ rfl rfl Tryd.underlying22 i hi ?_; intro w3 hRr hzz hB3; clear hzz; have hO3 : OwnB w3 w1.heap.size _ [] := own_empty (Nat.le_refl _) hRr; clear hRr; have hv3 := hv1.below hB3; have hs3 := hB3.size; go_frame)
      | ((with_reducible change wpList _ _ _ (Oper.mk (some 33) _ _ _ _ _ :: _) _ _); refine kAppB _ _ rfl rfl w1.heap.size _ _ [] (c :: t) hO3 hv3 rfl rfl (by first | (simp; done) | (simp at *; omega)) hs3 ?_; intro v4 w4 hO4 hB4; rw [List.nil_append] at hO4; have hB34 := hB3.trans hB4; have hR4 := hR2.below hB34 hR2.lt; have hB5 := hB1.trans (hB34.mono hB1.size); clear hO3 hv3 hB3 hB4; go_frame)
      | ((with_reducible change wpList _ _ _ (Oper.mk none (Op.store _ (Operand.tmp 2) (Operand.tmp 30)) _ _ _ _ :: _) _ _); refine kStoreD _ _ _ noDeed _ hR4 rfl rfl rfl rfl ?_; intro w6 hR6 hW6; have hO6 := own_keepW hO4 hW6 hR4; have hB7 := hB5.trans (hW6.below (Nat.le_refl _)); clear hW6 hB5 hO4; go_frame))
    (try simp only [Exit.inBlock, Exit.then])
    exact result_row_tmp2 rfl rfl rfl rfl hR6 Tryd.underlying29 rfl (info_DeedC _) rfl ⟨_, rfl, own_less (Nat.le_of_lt hz1) hO6, hB7⟩
theorem isVals_take8 {w : World} {v : Value} {l : List UInt8} {n : Nat} (h : IsVals w v (l.map VB)) (hn : n ≤ l.length) : IsVals w (toV v n) ((l.take n).map VB) := by
  rw [List.map_take]; exact isVals_to h (by simpa using hn)
theorem isVals_drop8 {w : World} {v : Value} {l : List UInt8} {n : Nat} (h : IsVals w v (l.map VB)) (hn : n ≤ l.length) : IsVals w (fromV v n) ((l.drop n).map VB) := by
  rw [List.map_drop]; exact isVals_from h (by simpa using hn)
theorem own_strW {w w' : World} {g b : Nat} {v : Value} {Ls : List (List UInt8)} {cs : Array Value} (h : OwnS w b v Ls) (hW : Wrote g w w') (hR : Row w g 29 cs) : OwnS w' b v Ls := (kp_wrote hR hW).own h (by decide)
theorem info_byte8 : (Tryd.prog.info? 5).map (·.size) = some 1 := by kernel_rfl
set_option maxRecDepth 100000 in
set_option maxHeartbeats 8000000 in
theorem nSplit_pos {c : UInt8} {r : List UInt8} {v : Value} (w : World) (hv : IsVals w v ((c :: r).map VB)) (hl0 : (c :: r).length ≤ 1000) {K : Nat} (hK : K = 1 ∨ K = 2 ∨ K = 3) (hKk : kindL (c :: r) = K) (hc : c.toNat = 80 + K) : Calls Tryd.prog 15 #[v] w (SplitPost8 w (nsS (c :: r))) := by
  obtain ⟨i, hi, hz, hs1, hby⟩ := b8Info
  obtain ⟨is, his, hzs, hss, hbs⟩ := strInfoL
  obtain ⟨R, hRdef⟩ : ∃ R, nsS (c :: r) = R := ⟨_, rfl⟩
  rw [hRdef]
  unfold nsS at hRdef
  rw [hKk, if_neg (by omega)] at hRdef
  have hRdef := hRdef.symm
  have hcl : c.toNat < 256 := c.toNat_lt
  have g1 : decide (B c < 81) = false := by unfold B; simp; omega
  have g2 : decide (B c > 83) = false := by unfold B; simp; omega
  obtain ⟨m, hm⟩ : ∃ m, (c :: r).length = m := ⟨_, rfl⟩
  have hm0 : decide ((m : Int) = 0) = false := by simp at hm; simp; omega
  have hl1 : 1 ≤ (c :: r).length := by simp
  go_enter Tryd.func15, Tryd.ntmps15
  go_wp2_with (first
    | ((with_reducible change wpList _ _ _ (Oper.mk (some 2) _ _ _ _ _ :: _) _ _); refine kAllocL _ _ rfl rfl zero_Deed ?_; intro w1 hR2 hz1 hB1; have hv1 := hv.below hB1; go_frame)
    | ((with_reducible change wpList _ _ _ (Oper.mk (some 16) _ _ _ _ _ :: _) _ _); refine kLenN _ _ _ v _ m rfl rfl rfl hv1 (by rw [List.length_map, hm]) Tryd.underlying22 ?_; go_frame)
    | ((with_reducible change wpList _ _ _ (Oper.mk (some 17) _ _ _ _ _ :: _) _ _); refine kEqlI _ _ _ _ .i64 (m : Int) 0 false rfl rfl rfl rfl hm0 ?_; go_frame)
    | ((with_reducible change wpList _ _ _ (Oper.mk (some 20) _ _ _ _ _ :: _) _ _); refine kIndexAddrV _ _ _ _ .i64 v _ 0 0 (VB c) rfl rfl rfl hv1 rfl Tryd.underlying22 info_b8P rfl rfl ?_; intro b hb; go_frame)
    | ((with_reducible change wpList _ _ _ (Oper.mk (some 21) _ _ _ _ _ :: _) _ _); refine kLoadCell _ _ b (VB c) _ rfl rfl rfl hb Tryd.underlying5 rfl ?_; clear hb; go_frame)
    | ((with_reducible change wpList _ _ _ (Oper.mk (some 22) _ _ _ _ _ :: _) _ _); refine kLssI _ _ _ _ .u8 (B c) 81 false rfl rfl rfl rfl g1 ?_; go_frame)
    | ((with_reducible change wpList _ _ _ (Oper.mk (some 26) _ _ _ _ _ :: _) _ _); refine kIndexAddrV _ _ _ _ .i64 v _ 0 0 (VB c) rfl rfl rfl hv1 rfl Tryd.underlying22 info_b8P rfl rfl ?_; intro b hb; go_frame)
    | ((with_reducible change wpList _ _ _ (Oper.mk (some 27) _ _ _ _ _ :: _) _ _); refine kLoadCell _ _ b (VB c) _ rfl rfl rfl hb Tryd.underlying5 rfl ?_; clear hb; go_frame)
    | ((with_reducible change wpList _ _ _ (Oper.mk (some 28) _ _ _ _ _ :: _) _ _); refine kGtrI _ _ _ _ .u8 (B c) 83 false rfl rfl rfl rfl g2 ?_; go_frame)
    | ((with_reducible change wpList _ _ _ (Oper.mk (some 35) _ _ _ _ _ :: _) _ _); refine kIndexAddrV _ _ _ _ .i64 v _ 0 0 (VB c) rfl rfl rfl hv1 rfl Tryd.underlying22 info_b8P rfl rfl ?_; intro b hb; go_frame)
    | ((with_reducible change wpList _ _ _ (Oper.mk (some 36) _ _ _ _ _ :: _) _ _); refine kLoadCell _ _ b (VB c) _ rfl rfl rfl hb Tryd.underlying5 rfl ?_; clear hb; go_frame)
    | ((with_reducible change wpList _ _ _ (Oper.mk (some 37) _ _ _ _ _ :: _) _ _); refine kConv8I _ c.toNat hcl rfl rfl rfl ?_; go_frame)
    | ((with_reducible change wpList _ _ _ (Oper.mk (some 38) _ _ _ _ _ :: _) _ _); refine kSubJ _ _ _ _ (c.toNat : Int) 80 (K : Int) (by omega) rfl rfl rfl rfl ?_; go_frame)
    | ((with_reducible change wpList _ _ _ (Oper.mk (some 39) _ _ _ _ _ :: _) _ _); refine kBuildDK _ (K : Int) rfl rfl rfl ?_; go_frame)
    | ((with_reducible change wpList _ _ _ (Oper.mk (some 5) _ _ _ _ _ :: _) _ _); refine kAllocL _ _ rfl rfl zero_Deed ?_; intro w3 hR5 hz3 hB3; have hR3 := hR2.below hB3 hR2.lt; have hB4 := hB1.trans (hB3.mono hB1.size); go_frame)
    | ((with_reducible change wpList _ _ _ (Oper.mk none (Op.store _ (Operand.tmp 5) (Operand.tmp 39)) _ _ _ _ :: _) _ _); refine kStoreD _ _ _ noDeed _ hR5 rfl rfl rfl rfl ?_; intro w4 hR6 hW4; have hR4 := hW4.row hR3 (Nat.ne_of_lt hz1); have hB5 := hB4.trans (hW4.below (Nat.le_of_lt hz1)); have hv4 := hv.below hB5; have hlt := hR6.lt; clear hR5 hz3 hB3 hR3 hB4 hW4 hv1 hR2; go_frame)
    | ((with_reducible change wpList _ _ _ (Oper.mk (some 40) _ _ _ _ _ :: _) _ _); refine kBuildSlice0 _ _ rfl rfl Tryd.underlying52 is his ?_; intro w5 hRr hzz hB6; clear hzz; have hO5 : OwnS w5 w4.heap.size _ [] := own_empty (Nat.le_refl _) hRr; clear hRr; go_frame))
  obtain ⟨l, hle⟩ : ∃ l, c :: r = l := ⟨_, rfl⟩
  rw [hle] at hv hv4 hl0 hm hRdef hl1
  clear hle
  have hN := hm
  obtain ⟨S, hS⟩ : ∃ S, someS 3 (l.drop 1) = S := ⟨_, rfl⟩
  have hS3 : S.length ≤ 3 := by rw [← hS]; exact some_le _ _
  have hSm : ∀ L ∈ S, L.length ≤ 1000 := by
    rw [← hS]
    intro L hL
    have := some_len _ _ L hL
    simp at this; omega
  rw [hS] at hRdef
  go_loopw [6, 7] (fun t i wr => ∃ (Ls : List (List UInt8)) (a : Nat), i = .int .i64 a ∧ a ≤ m ∧ OwnS wr w4.heap.size t Ls ∧ Ls.length ≤ 3 ∧ Ls ++ someS (3 - Ls.length) (l.drop a) = S ∧ Below w4.heap.size w4 wr) (fun t _ _ => 3 - lenV t)
  case atStart => exact ⟨[], 1, rfl, by omega, hO5, by simp, by rw [List.nil_append]; exact hS, hB6⟩
  case round =>
    clear hO5 hB6 hS
    obtain ⟨Ls, a, rfl, ha, hO, hL3, hrec, hB⟩ := hrel
    have hV := hO.vals
    have hlv := hO.len
    have hvr := hv4.below hB
    have hsz := hB.size
    have hda : decide ((a : Int) ≤ (m : Int)) = true := by simp; omega
    obtain ⟨n, hn⟩ : ∃ n, Ls.length = n := ⟨_, rfl⟩
    rw [hn] at hL3 hrec hlv
    have hcase : (n < 3 ∧ ∃ p, nextS (l.drop a) = some p) ∨ (n < 3 ∧ nextS (l.drop a) = none) ∨ n = 3 := by
      by_cases h : n < 3
      · cases hne : nextS (l.drop a) with
        | none => exact .inr (.inl ⟨h, rfl⟩)
        | some p => exact .inl ⟨h, p, rfl⟩
      · exact .inr (.inr (by omega))
    rcases hcase with ⟨hlt3, ⟨c0, d, u⟩, hne⟩ | ⟨hlt3, hne⟩ | h3
    case inl =>
      have hd3 : decide ((n : Int) < 3) = true := by simp; omega
      have hul := (next_used hne).2
      have hdl := next_len8 hne
      simp at hul hdl
      obtain ⟨k, hk⟩ : ∃ k, 3 - n = k + 1 := ⟨2 - n, by omega⟩
      have hrec2 : (Ls ++ [d]) ++ someS (3 - (n + 1)) (l.drop (a + u)) = S := by
        rw [← hrec, hk, show 3 - (n + 1) = k by omega]
        simp [someS, hne, List.drop_drop]
      have hnx := fun w (h : IsVals w (fromV v a) ((l.drop a).map VB)) => mNext_any w h (by simp; omega)
      rw [hne] at hnx
      go_wp2_with (first
        | ((with_reducible change wpList _ _ _ (Oper.mk (some 42) _ _ _ _ _ :: _) _ _); refine kLenN _ _ _ _ _ n rfl rfl rfl hV (by rw [List.length_map, hn]) Tryd.underlying52 ?_; go_frame)
        | ((with_reducible change wpList _ _ _ (Oper.mk (some 43) _ _ _ _ _ :: _) _ _); refine kLssI _ _ _ _ .i64 (n : Int) 3 true rfl rfl rfl rfl hd3 ?_; go_frame)
        | ((with_reducible change wpList _ _ _ (Oper.mk (some 47) _ _ _ _ _ :: _) _ _); refine kLenN _ _ _ v _ m rfl rfl rfl hvr (by rw [List.length_map, hm]) Tryd.underlying22 ?_; go_frame)
        | ((with_reducible change wpList _ _ _ (Oper.mk (some 48) _ _ _ _ _ :: _) _ _); refine kLeqI _ _ _ _ .i64 (a : Int) (m : Int) true rfl rfl rfl rfl hda ?_; go_frame)
        | ((with_reducible change wpList _ _ _ (Oper.mk (some 53) _ _ _ _ _ :: _) _ _); refine kSliceFromB _ _ v l a hvr (by omega) rfl rfl rfl rfl ?_; intro hX; go_frame)
        | (go_at_call 26; refine (hnx _ hX).mono ?_; rintro e w6 ⟨vd, rfl, hD, hB2⟩; have hO2 := hO.below hB2; have hB7 := hB.trans (hB2.mono hsz); have hs7 := hB7.size; have hDv := hD.vals; clear hX hD hB2 hO hB hV hvr; go_frame)
        | ((with_reducible change wpList _ _ _ (Oper.mk (some 63) _ _ _ _ _ :: _) _ _); refine kToString _ _ _ _ vd d rfl rfl rfl hDv Tryd.underlying22 Tryd.underlying5 Tryd.underlying9 ?_; go_frame)
        | ((with_reducible change wpList _ _ _ (Oper.mk (some 64) _ _ _ _ _ :: _) _ _); refine kBuildSlice1 _ _ _ (textV d) rfl rfl Tryd.underlying52 is _ his hzs hss rfl rfl ?_; intro w7 hRr hzz hB3; clear hzz; have hO3 := hO2.below hB3; have hB8 := hB7.trans (hB3.mono hs7); have hs8 := hB8.size; have hY : IsVals w7 _ [textV d] := isVals_lit (l := [textV d]) hRr; clear hRr hB3 hO2 hB7 hDv; go_frame)
        | ((with_reducible change wpList _ _ _ (Oper.mk (some 65) _ _ _ _ _ :: _) _ _); refine kAppS _ _ rfl rfl w4.heap.size _ _ Ls d hO3 hY rfl rfl (by omega) hs8 ?_; intro v8 w8 hO4 hBB; have hB9 := hB8.trans hBB; clear hO3 hY hB8 hBB; go_frame)
        | ((with_reducible change wpList _ _ _ (Oper.mk (some 68) _ _ _ _ _ :: _) _ _); refine kAddI _ _ _ _ (a : Int) (u : Int) ((a + u : Nat) : Int) (by omega) rfl rfl rfl rfl ?_; go_frame))
      have hl4 := hO4.len
      go_roundw
      case rel => exact ⟨Ls ++ [d], a + u, rfl, by omega, hO4, by simp; omega, by simp only [List.length_append, List.length_singleton, hn]; exact hrec2, hB9⟩
      case measure => simp at hl4 ⊢; omega
    case' inr.inl =>
      have hd3 : decide ((n : Int) < 3) = true := by simp; omega
      have hnx := fun w (h : IsVals w (fromV v a) ((l.drop a).map VB)) => mNext_any w h (by simp; omega)
      rw [hne] at hnx
      obtain ⟨k, hk⟩ : ∃ k, 3 - n = k + 1 := ⟨2 - n, by omega⟩
      have hLS : Ls = S := by rw [← hrec, hk]; simp [someS, hne]
      subst hLS
      go_wp2_with (first
        | ((with_reducible change wpList _ _ _ (Oper.mk (some 42) _ _ _ _ _ :: _) _ _); refine kLenN _ _ _ _ _ n rfl rfl rfl hV (by rw [List.length_map, hn]) Tryd.underlying52 ?_; go_frame)
        | ((with_reducible change wpList _ _ _ (Oper.mk (some 43) _ _ _ _ _ :: _) _ _); refine kLssI _ _ _ _ .i64 (n : Int) 3 true rfl rfl rfl rfl hd3 ?_; go_frame)
        | ((with_reducible change wpList _ _ _ (Oper.mk (some 47) _ _ _ _ _ :: _) _ _); refine kLenN _ _ _ v _ m rfl rfl rfl hvr (by rw [List.length_map, hm]) Tryd.underlying22 ?_; go_frame)
        | ((with_reducible change wpList _ _ _ (Oper.mk (some 48) _ _ _ _ _ :: _) _ _); refine kLeqI _ _ _ _ .i64 (a : Int) (m : Int) true rfl rfl rfl rfl hda ?_; go_frame)
        | ((with_reducible change wpList _ _ _ (Oper.mk (some 53) _ _ _ _ _ :: _) _ _); refine kSliceFromB _ _ v l a hvr (by omega) rfl rfl rfl rfl ?_; intro hX; go_frame)
        | (go_at_call 26; refine (hnx _ hX).mono ?_; rintro e w6 ⟨rfl, hB2⟩; have hO9 := hO.below hB2; have hB9 := hB.trans (hB2.mono hsz); clear hX hB2 hO hB hV hvr; go_frame))
    case' inr.inr =>
      have hd3 : decide ((n : Int) < 3) = false := by simp; omega
      have hLS : Ls = S := by rw [← hrec, h3]; simp [someS]
      subst hLS
      have hO9 := hO
      have hB9 := hB
      go_wp2_with (first
        | ((with_reducible change wpList _ _ _ (Oper.mk (some 42) _ _ _ _ _ :: _) _ _); refine kLenN _ _ _ _ _ n rfl rfl rfl hV (by rw [List.length_map, hn]) Tryd.underlying52 ?_; go_frame)
        | ((with_reducible change wpList _ _ _ (Oper.mk (some 43) _ _ _ _ _ :: _) _ _); refine kLssI _ _ _ _ .i64 (n : Int) 3 false rfl rfl rfl rfl hd3 ?_; go_frame))
    all_goals
      go_loopw [6] (fun t wr => ∃ j, Ls.length + j ≤ 3 ∧ OwnS wr w4.heap.size t (Ls ++ List.replicate j []) ∧ Below w4.heap.size w4 wr) (fun t _ => 3 - lenV t)
      case atStart => exact ⟨0, by omega, by simpa using hO9, hB9⟩
      case round =>
        clear hO9 hB9
        obtain ⟨j, hj, hOt, hB⟩ := hrel
        have hV := hOt.vals
        have hlv2 := hOt.len
        have hlen : (Ls ++ List.replicate j []).length = n + j := by simp [hn]
        rw [hlen] at hlv2
        by_cases hlt3 : n + j < 3
        · have hd4 : decide (((n + j : Nat) : Int) < 3) = true := by simp; omega
          have hsz2 := hB.size
          go_wp2_with (first
            | ((with_reducible change wpList _ _ _ (Oper.mk (some 70) _ _ _ _ _ :: _) _ _); refine kLenN _ _ _ _ _ (n + j) rfl rfl rfl hV (by rw [List.length_map, hlen]) Tryd.underlying52 ?_; go_frame)
            | ((with_reducible change wpList _ _ _ (Oper.mk (some 71) _ _ _ _ _ :: _) _ _); refine kLssI _ _ _ _ .i64 ((n + j : Nat) : Int) 3 true rfl rfl rfl rfl hd4 ?_; go_frame)
            | ((with_reducible change wpList _ _ _ (Oper.mk (some 73) _ _ _ _ _ :: _) _ _); refine kBuildSlice1 _ _ _ (textV []) rfl rfl Tryd.underlying52 is _ his hzs hss rfl rfl ?_; intro w7 hRr hzz hB3; clear hzz; have hO3 := hOt.below hB3; have hB8 := hB.trans (hB3.mono hsz2); have hs8 := hB8.size; have hY : IsVals w7 _ [textV []] := isVals_lit (l := [textV []]) hRr; clear hRr hB3 hOt hB hV; go_frame)
            | ((with_reducible change wpList _ _ _ (Oper.mk (some 74) _ _ _ _ _ :: _) _ _); refine kAppS _ _ rfl rfl w4.heap.size _ _ (Ls ++ List.replicate j []) [] hO3 hY rfl rfl (by omega) hs8 ?_; intro v8 w8 hO4 hBB; have hB9 := hB8.trans hBB; clear hO3 hY hB8 hBB; go_frame))
          have hl4 := hO4.len
          go_roundw
          case rel => exact ⟨j + 1, by omega, by rw [List.replicate_succ', ← List.append_assoc]; exact hO4, hB9⟩
          case measure => simp at hl4 ⊢; omega
        · have hd4 : decide (((n + j : Nat) : Int) < 3) = false := by simp; omega
          have hjn : 3 - Ls.length = j := by omega
          unfold pad3 at hRdef
          rw [hjn] at hRdef
          have hPm : ∀ L ∈ Ls ++ List.replicate j [], L.length ≤ 1000 := by
            intro L hL
            rcases List.mem_append.1 hL with h | h
            · exact hSm L h
            · rw [List.eq_of_mem_replicate h]; simp
          obtain ⟨P, hP⟩ : ∃ P, Ls ++ List.replicate j [] = P := ⟨_, rfl⟩
          rw [hP] at hRdef hPm hOt hlen hV
          obtain ⟨x0, x1, x2, rfl⟩ : ∃ x0 x1 x2, P = [x0, x1, x2] := by
            match P, hlen with
            | [x0, x1, x2], _ => exact ⟨x0, x1, x2, rfl⟩
            | [], h => simp at h; omega
            | [_], h => simp at h; omega
            | [_, _], h => simp at h; omega
            | _ :: _ :: _ :: _ :: _, h => simp at h; omega
          have hx0 := hPm x0 (by simp)
          have hx1 := hPm x1 (by simp)
          have hx2 := hPm x2 (by simp)
          have hX0 := hR6.below hB hlt
          have hY0 := hR4.below hB hR4.lt
          have hQ0 := hB5.trans (hB.mono hB5.size)
          have hVt := hOt.vals
          clear hV hB hrec hPm hlv2 hlv hP
          try clear hO
          rcases hK with rfl | rfl | rfl
          · have hRh := Lib.hid hRdef
            clear hRdef
            have hX0 : Row _ w1.heap.size 29 (dcells ⟨1, [], [], [], z20⟩) := hX0
            by_cases h20 : x0.length = 20
            · have hne : (!decide ((x0.length : Int) = 20)) = false := by simp; omega
              have hRes0 : R = finS l ⟨1, [], [], [], x0⟩ := by
                rw [hRh.out, if_neg (fun h => h.2 h20)]
                simp [deedOfL, put20_id h20]
              have hRes := Lib.hid hRes0
              clear hRes0 hRh
              go_wp2_with (first
                | ((with_reducible change wpList _ _ _ (Oper.mk (some 70) _ _ _ _ _ :: _) _ _); refine kLenN _ _ _ _ _ (n + j) rfl rfl rfl hVt (by rw [List.length_map]; exact hlen) Tryd.underlying52 ?_; go_frame)
                | ((with_reducible change wpList _ _ _ (Oper.mk (some 71) _ _ _ _ _ :: _) _ _); refine kLssI _ _ _ _ .i64 ((n + j : Nat) : Int) 3 false rfl rfl rfl rfl hd4 ?_; go_frame)
                | ((with_reducible change wpList _ _ _ (Oper.mk (some 75) _ _ _ _ _ :: _) _ _); refine kDeed0 _ _ rfl rfl rfl ?_; go_frame)
                | ((with_reducible change wpList _ _ _ (Oper.mk (some 76) _ _ _ _ _ :: _) _ _); refine kLoadK _ _ _ hX0 rfl rfl rfl ?_; dsimp only; go_frame)
                | ((with_reducible change wpList _ _ _ (Oper.mk (some 80) _ _ _ _ _ :: _) _ _); refine kIndexAddrV _ _ _ _ .i64 _ ([x0, x1, x2].map textV) 0 0 (textV x0) rfl rfl rfl hVt rfl Tryd.underlying52 info_stringL rfl rfl ?_; intro b hb; go_frame)
                | ((with_reducible change wpList _ _ _ (Oper.mk (some 81) _ _ _ _ _ :: _) _ _); refine kLoadCell _ _ b (textV x0) _ rfl rfl rfl hb Tryd.underlying9 rfl ?_; clear hb; go_frame)
                | ((with_reducible change wpList _ _ _ (Oper.mk (some 82) _ _ _ _ _ :: _) _ _); refine kLenStr _ _ x0 rfl rfl rfl Tryd.underlying9 ?_; go_frame)
                | ((with_reducible change wpList _ _ _ (Oper.mk (some 83) _ _ _ _ _ :: _) _ _); refine kNeqI _ _ _ _ .i64 (x0.length : Int) 20 false rfl rfl rfl rfl hne ?_; go_frame))
              rw [← comF_0 x0] at hX0
              go_loopw [85, 12] (fun i u12 wr => ∃ j : Nat, j ≤ 20 ∧ i = .int .i64 j ∧ Row wr w1.heap.size 29 (comF x0 j) ∧ Row wr w.heap.size 29 (dcells noDeed) ∧ OwnS wr w4.heap.size u6 [x0, x1, x2] ∧ Below w.heap.size w wr) (fun i _ _ => 20 - (intOf i).toNat)
              case atStart => exact ⟨0, by omega, rfl, hX0, hY0, hOt, hQ0⟩
              case round =>
                clear hX0 hY0 hOt hVt hQ0
                obtain ⟨j, hj, rfl, hX0, hY0, hOt, hQ0⟩ := hrel
                have hVt := hOt.vals
                by_cases hlj : j < 20
                · have hd : decide ((j : Int) < 20) = true := by simp; omega
                  go_wp2_with (first
                    | ((with_reducible change wpList _ _ _ (Oper.mk (some 86) _ _ _ _ _ :: _) _ _); refine kLssI _ _ _ _ .i64 (j : Int) 20 true rfl rfl rfl rfl hd ?_; go_frame)
                    | ((with_reducible change wpList _ _ _ (Oper.mk (some 90) _ _ _ _ _ :: _) _ _); refine kIndexAddrV _ _ _ _ .i64 _ ([x0, x1, x2].map textV) 0 0 (textV x0) rfl rfl rfl hVt rfl Tryd.underlying52 info_stringL rfl rfl ?_; intro b hb; go_frame)
                    | ((with_reducible change wpList _ _ _ (Oper.mk (some 91) _ _ _ _ _ :: _) _ _); refine kLoadCell _ _ b (textV x0) _ rfl rfl rfl hb Tryd.underlying9 rfl ?_; clear hb; go_frame)
                    | ((with_reducible change wpList _ _ _ (Oper.mk (some 93) _ _ _ _ _ :: _) _ _); refine kIndexStr _ _ _ .i64 (j : Int) j x0 rfl rfl rfl rfl Tryd.underlying9 rfl (by omega) ?_; go_frame)
                    | ((with_reducible change wpList _ _ _ (Oper.mk (some 94) _ _ _ _ _ :: _) _ _); refine kDeed4 _ _ rfl rfl rfl ?_; go_frame)
                    | ((with_reducible change wpList _ _ _ (Oper.mk (some 95) _ _ _ _ _ :: _) _ _); refine kIndexAddr _ _ _ _ .i64 _ 4 (j : Int) j 20 1 rfl rfl rfl rfl Tryd.underlying27 info_byte8 rfl hlj ?_; rw [Nat.mul_one]; go_frame)
                    | ((with_reducible change wpList _ _ _ (Oper.mk none (Op.store _ (Operand.tmp 95) (Operand.tmp 93)) _ _ _ _ :: _) _ _); refine kStore1 _ _ _ _ _ (4 + j) _ (VB (at8 x0 j)) rfl rfl rfl rfl hX0 info_byte8 (by rw [comF_size]; omega) rfl ?_; intro z1 hX1 hW1; rw [comF_set hlj] at hX1; have hY1 := hW1.row hY0 (Nat.ne_of_lt hz1); have hQ1 := hQ0.trans (hW1.below (Nat.le_of_lt hz1)); have hOt1 := own_strW hOt hW1 hX0; clear hX0 hY0 hQ0 hOt hW1 hVt; go_frame)
                    | ((with_reducible change wpList _ _ _ (Oper.mk (some 96) _ _ _ _ _ :: _) _ _); refine kAddI _ _ _ _ (j : Int) 1 ((j + 1 : Nat) : Int) (by omega) rfl rfl rfl rfl ?_; go_frame))
                  go_roundw
                  case rel => exact ⟨j + 1, by omega, rfl, hX1, hY1, hOt1, hQ1⟩
                  case measure => simp [intOf]; omega
                · have hd : decide ((j : Int) < 20) = false := by simp; omega
                  obtain rfl : j = 20 := by omega
                  rw [comF_20] at hX0
                  obtain ⟨D, hD⟩ : ∃ D : Deed, D = ⟨1, [], [], [], x0⟩ := ⟨_, rfl⟩
                  have hRes1 := hRes.out
                  clear hRes
                  rw [← hD] at hX0 hRes1
                  have hRes := Lib.hid hRes1
                  clear hRes1
                  have hDi : D.Is := by rw [hD]; exact h20
                  have hDf : D.Fits := by rw [hD]; exact ⟨by simp, by simp, by simp⟩
                  have hDk : D.kind ≠ 0 := by rw [hD]; show (1 : Int) ≠ 0; decide
                  clear hD
                  obtain ⟨X, hXe⟩ : ∃ X, ansL (lockS D []) = X := ⟨_, rfl⟩
                  obtain ⟨Z, hZe⟩ : ∃ Z, errL (lockS D []) = Z := ⟨_, rfl⟩
                  have eL : ∀ w, IsVals w (.slice none 0 0) (([] : List UInt8).map VB) → Calls Tryd.prog 8 #[deedV D, .slice none 0 0] w fun e w' => ∃ v, e = .returned (.tuple #[v, .int .i64 Z]) ∧ OwnB w' w.heap.size v X ∧ Below w.heap.size w w' := fun w h => (nLock_any hDi hDf w h (by simp)).mono (by rintro e w' ⟨v, rfl, hO, hB⟩; rw [hZe, ← hXe]; exact ⟨v, rfl, hO, hB⟩)
                  go_wp2_with (first
                    | ((with_reducible change wpList _ _ _ (Oper.mk (some 86) _ _ _ _ _ :: _) _ _); refine kLssI _ _ _ _ .i64 (20 : Int) 20 false rfl rfl rfl rfl hd ?_; go_frame)
                    | ((with_reducible change wpList _ _ _ (Oper.mk (some 122) _ _ _ _ _ :: _) _ _); refine kLoadD _ _ _ hX0 rfl rfl rfl ?_; go_frame)
                    | (go_at_call 8; refine (eL _ (isVals_nil _)).mono ?_; rintro e y1 ⟨hd1, rfl, hH, hBB⟩; have hBl := Nat.le_of_lt hX0.lt; have hX1 := hX0.below hBB hX0.lt; have hY1 := hY0.below hBB hY0.lt; have hQ1 := hQ0.trans (hBB.mono hQ0.size); have hV1 := hv.below hQ1; go_frame))
                  have hH : OwnB _ w1.heap.size hd1 X := own_less hBl hH
                  clear eL
                  cases hb : rightB D
                  · have hRn : R = none := by rw [hRes.out]; unfold finS; rw [hb]; exact if_neg (by simp)
                    subst hRn
                    have hlk : lockS D [] = none := by unfold lockS; rw [if_pos (.inl hb)]
                    rw [hlk] at hZe
                    have hZ1 : Z = 81 := hZe.symm
                    subst hZ1
                    refine region_mixD [(0, true), (1, true), (2, true), (3, true), (4, true), (5, true), (6, true), (7, true), (8, true), (9, true), (10, true), (11, true), (12, true), (13, true), (14, true), (15, true), (16, true), (17, true), (18, true)] (fun w => (IsVals w v (l.map VB) ∧ OwnB w w1.heap.size hd1 X) ∧ Row w w1.heap.size 29 (dcells D)) (by kernel_rfl) (by kernel_rfl) rfl ?_
                    intro q1 hBd hsd
                    have hX2 := hX1.below hBd hX1.lt
                    have hY2 := hY1.below hBd hY1.lt
                    have hV2 := hV1.below hBd
                    have hH2 := hH.below hBd
                    have hQ2 := hQ1.trans (hBd.mono hQ1.size)
                    clear hBd hsd hX1 hY1 hV1 hH hQ1
                    simp only [List.map_cons, List.map_nil]
                    dsimp only [List.filterMap, List.getElem?_cons_zero, List.getElem?_cons_succ]
                    have hS := (⟨⟨hV2, hH2⟩, hX2⟩ : ((IsVals q1 v (l.map VB) ∧ OwnB q1 w1.heap.size hd1 X) ∧ Row q1 w1.heap.size 29 (dcells D)))
                    refine dY _ hS (yMove _ (.int .i64 81) rfl rfl rfl) ?_; go_frame
                    refine dY _ hS (yNeqI _ _ _ _ .i64 81 0 true rfl rfl rfl rfl rfl) ?_; go_frame
                    refine dY _ hS (yMove _ (.bool true) rfl rfl rfl) ?_; go_frame
                    refine dY undef hS (ySkip rfl) ?_; go_frame
                    refine dY undef hS (ySkip rfl) ?_; go_frame
                    refine dY undef hS (ySkip rfl) ?_; go_frame
                    refine dY undef hS (ySkip rfl) ?_; go_frame
                    refine dY undef hS (ySkip rfl) ?_; go_frame
                    refine dY _ hS (yPick _ _ _ true (.bool true) rfl rfl rfl rfl) ?_; go_frame
                    refine dY _ hS (yMove _ (.bool true) rfl rfl rfl) ?_; go_frame
                    refine dY undef hS (ySkip rfl) ?_; go_frame
                    refine dY undef hS (ySkip rfl) ?_; go_frame
                    refine dY undef hS (ySkip rfl) ?_; go_frame
                    refine dY undef hS (ySkip rfl) ?_; go_frame
                    refine dY undef hS (ySkip rfl) ?_; go_frame
                    refine dY undef hS (ySkip rfl) ?_; go_frame
                    refine dY undef hS (ySkip rfl) ?_; go_frame
                    refine dY undef hS (ySkip rfl) ?_; go_frame
                    refine dY _ hS (yPick _ _ _ true (.bool true) rfl rfl rfl rfl) ?_; go_frame
                    refine dDone ?_
                    go_wp2_with (first
                      | ((with_reducible change wpList _ _ _ (Oper.mk (some 145) _ _ _ _ _ :: _) _ _); refine kBuildD0 rfl rfl ?_; go_frame)
                      | ((with_reducible change wpList _ _ _ (Oper.mk none (Op.store _ (Operand.tmp 2) (Operand.tmp 145)) _ _ _ _ :: _) _ _); refine kStoreD _ _ _ noDeed _ hY2 rfl rfl rfl rfl ?_; intro q9 hR9 hW9; have hBB9 := hQ2.trans (hW9.below (Nat.le_refl _)); go_frame))
                    (try simp only [Exit.inBlock, Exit.then])
                    exact result_row_tmp2 rfl rfl rfl rfl hR9 Tryd.underlying29 rfl (info_DeedC _) rfl ⟨_, rfl, ownB_nil _ _, hBB9⟩
                  · have hlk : lockS D [] = some (wordsL D) := by unfold lockS; rw [if_neg (by rintro (e | e); rw [hb] at e; cases e; exact hDk e.1), List.append_nil]
                    rw [hlk] at hZe hXe
                    have hZ1 : Z = 0 := hZe.symm
                    subst hZ1
                    have hXe : wordsL D = X := hXe
                    obtain ⟨p, hp⟩ : ∃ p, X.length = p := ⟨_, rfl⟩
                    by_cases hpN : m < p
                    · have hg : decide ((p : Int) > (m : Int)) = true := by simp; omega
                      have hRn : R = none := by rw [hRes.out]; unfold finS; rw [hXe]; exact if_neg (by rintro ⟨-, h⟩; obtain ⟨t, ht⟩ := hasP_iff.1 h; rw [ht] at hN; simp at hN; omega)
                      subst hRn
                      refine region_mixD [(0, true), (1, true), (2, true), (3, true), (4, true), (5, true), (6, true), (7, true), (8, true), (9, true), (10, true), (11, true), (12, true), (13, true), (14, true), (15, true), (16, true), (17, true), (18, true)] (fun w => (IsVals w v (l.map VB) ∧ OwnB w w1.heap.size hd1 X) ∧ Row w w1.heap.size 29 (dcells D)) (by kernel_rfl) (by kernel_rfl) rfl ?_
                      intro q1 hBd hsd
                      have hX2 := hX1.below hBd hX1.lt
                      have hY2 := hY1.below hBd hY1.lt
                      have hV2 := hV1.below hBd
                      have hH2 := hH.below hBd
                      have hQ2 := hQ1.trans (hBd.mono hQ1.size)
                      clear hBd hsd hX1 hY1 hV1 hH hQ1
                      simp only [List.map_cons, List.map_nil]
                      dsimp only [List.filterMap, List.getElem?_cons_zero, List.getElem?_cons_succ]
                      have hS := (⟨⟨hV2, hH2⟩, hX2⟩ : ((IsVals q1 v (l.map VB) ∧ OwnB q1 w1.heap.size hd1 X) ∧ Row q1 w1.heap.size 29 (dcells D)))
                      refine dY _ hS (yMove _ (.int .i64 0) rfl rfl rfl) ?_; go_frame
                      refine dY _ hS (yNeqI _ _ _ _ .i64 0 0 false rfl rfl rfl rfl rfl) ?_; go_frame
                      refine dY _ hS (yMove _ (.bool false) rfl rfl rfl) ?_; go_frame
                      refine dY _ hS (yMove _ (hd1) rfl rfl rfl) ?_; go_frame
                      refine dY _ hS (yLen _ _ _ hd1 _ p rfl rfl rfl (fun _ h => h.1.2.vals) (by rw [List.length_map, hp]) Tryd.underlying22) ?_; go_frame
                      refine dY _ hS (yMove _ (v) rfl rfl rfl) ?_; go_frame
                      refine dY _ hS (yLen _ _ _ v _ m rfl rfl rfl (fun _ h => h.1.1) (by rw [List.length_map, hN]) Tryd.underlying22) ?_; go_frame
                      refine dY _ hS (yGtrI8 _ _ _ _ .i64 (p : Int) (m : Int) true rfl rfl rfl rfl hg) ?_; go_frame
                      refine dY _ hS (yPick _ _ _ false (.bool true) rfl rfl rfl rfl) ?_; go_frame
                      refine dY _ hS (yMove _ (.bool true) rfl rfl rfl) ?_; go_frame
                      refine dY undef hS (ySkip rfl) ?_; go_frame
                      refine dY undef hS (ySkip rfl) ?_; go_frame
                      refine dY undef hS (ySkip rfl) ?_; go_frame
                      refine dY undef hS (ySkip rfl) ?_; go_frame
                      refine dY undef hS (ySkip rfl) ?_; go_frame
                      refine dY undef hS (ySkip rfl) ?_; go_frame
                      refine dY undef hS (ySkip rfl) ?_; go_frame
                      refine dY undef hS (ySkip rfl) ?_; go_frame
                      refine dY _ hS (yPick _ _ _ true (.bool true) rfl rfl rfl rfl) ?_; go_frame
                      refine dDone ?_
                      go_wp2_with (first
                        | ((with_reducible change wpList _ _ _ (Oper.mk (some 145) _ _ _ _ _ :: _) _ _); refine kBuildD0 rfl rfl ?_; go_frame)
                        | ((with_reducible change wpList _ _ _ (Oper.mk none (Op.store _ (Operand.tmp 2) (Operand.tmp 145)) _ _ _ _ :: _) _ _); refine kStoreD _ _ _ noDeed _ hY2 rfl rfl rfl rfl ?_; intro q9 hR9 hW9; have hBB9 := hQ2.trans (hW9.below (Nat.le_refl _)); go_frame))
                      (try simp only [Exit.inBlock, Exit.then])
                      exact result_row_tmp2 rfl rfl rfl rfl hR9 Tryd.underlying29 rfl (info_DeedC _) rfl ⟨_, rfl, ownB_nil _ _, hBB9⟩
                    · have hg : decide ((p : Int) > (m : Int)) = false := by simp; omega
                      have hpl : p ≤ l.length := by omega
                      obtain ⟨e, he⟩ : ∃ e, (X != l.take p) = e := ⟨_, rfl⟩
                      have hpe : hasP l X = !e := by rw [← he]; unfold hasP; rw [hp, show decide (p ≤ l.length) = true by simp [hpl], Bool.true_and]; simp only [bne, Bool.not_not]; exact Bool.beq_comm
                      have hRes2 := hRes.out
                      clear hRes
                      unfold finS at hRes2
                      rw [hXe, hpe, hb, hp] at hRes2
                      have hRes := Lib.hid hRes2
                      clear hRes2
                      refine region_mixD [(0, true), (1, true), (2, true), (3, true), (4, true), (5, true), (6, true), (7, true), (8, true), (9, true), (10, true), (11, true), (12, true), (13, true), (14, true), (15, true), (16, true), (17, true), (18, true)] (fun w => (IsVals w v (l.map VB) ∧ OwnB w w1.heap.size hd1 X) ∧ Row w w1.heap.size 29 (dcells D)) (by kernel_rfl) (by kernel_rfl) rfl ?_
                      intro q1 hBd hsd
                      have hX2 := hX1.below hBd hX1.lt
                      have hY2 := hY1.below hBd hY1.lt
                      have hV2 := hV1.below hBd
                      have hH2 := hH.below hBd
                      have hQ2 := hQ1.trans (hBd.mono hQ1.size)
                      clear hBd hsd hX1 hY1 hV1 hH hQ1
                      simp only [List.map_cons, List.map_nil]
                      dsimp only [List.filterMap, List.getElem?_cons_zero, List.getElem?_cons_succ]
                      have hS := (⟨⟨hV2, hH2⟩, hX2⟩ : ((IsVals q1 v (l.map VB) ∧ OwnB q1 w1.heap.size hd1 X) ∧ Row q1 w1.heap.size 29 (dcells D)))
                      refine dY _ hS (yMove _ (.int .i64 0) rfl rfl rfl) ?_; go_frame
                      refine dY _ hS (yNeqI _ _ _ _ .i64 0 0 false rfl rfl rfl rfl rfl) ?_; go_frame
                      refine dY _ hS (yMove _ (.bool false) rfl rfl rfl) ?_; go_frame
                      refine dY _ hS (yMove _ (hd1) rfl rfl rfl) ?_; go_frame
                      refine dY _ hS (yLen _ _ _ hd1 _ p rfl rfl rfl (fun _ h => h.1.2.vals) (by rw [List.length_map, hp]) Tryd.underlying22) ?_; go_frame
                      refine dY _ hS (yMove _ (v) rfl rfl rfl) ?_; go_frame
                      refine dY _ hS (yLen _ _ _ v _ m rfl rfl rfl (fun _ h => h.1.1) (by rw [List.length_map, hN]) Tryd.underlying22) ?_; go_frame
                      refine dY _ hS (yGtrI8 _ _ _ _ .i64 (p : Int) (m : Int) false rfl rfl rfl rfl hg) ?_; go_frame
                      refine dY _ hS (yPick _ _ _ false (.bool false) rfl rfl rfl rfl) ?_; go_frame
                      refine dY _ hS (yMove _ (.bool false) rfl rfl rfl) ?_; go_frame
                      refine dY _ hS (yMove _ (hd1) rfl rfl rfl) ?_; go_frame
                      refine dY _ hS (yStr _ _ _ _ hd1 X rfl rfl rfl (fun _ h => h.1.2.vals) Tryd.underlying22 Tryd.underlying5 Tryd.underlying9) ?_; go_frame
                      refine dY _ hS (yMove _ (v) rfl rfl rfl) ?_; go_frame
                      refine dY _ hS (yMove _ (hd1) rfl rfl rfl) ?_; go_frame
                      refine dY _ hS (yLen _ _ _ hd1 _ p rfl rfl rfl (fun _ h => h.1.2.vals) (by rw [List.length_map, hp]) Tryd.underlying22) ?_; go_frame
                      refine dY _ hS (ySliceTo _ _ v l p (fun _ h => h.1.1) hpl rfl rfl rfl rfl) ?_; go_frame
                      refine dY _ hS (yStr _ _ _ _ (toV v p) (l.take p) rfl rfl rfl (fun _ h => isVals_take8 h.1.1 hpl) Tryd.underlying22 Tryd.underlying5 Tryd.underlying9) ?_; go_frame
                      refine dY _ hS (yNeqStr _ _ _ _ X (l.take p) e rfl rfl rfl rfl he) ?_; go_frame
                      refine dY _ hS (yPick _ _ _ false (.bool e) rfl rfl rfl rfl) ?_; go_frame
                      refine dDone ?_
                      cases e
                      · have hRes3 := hRes.out
                        rw [if_pos ⟨rfl, rfl⟩] at hRes3
                        subst hRes3
                        go_wp2
                        refine region_mixD [(0, true), (2, true), (3, true), (4, true), (5, true), (1, false), (6, false), (7, false), (8, true), (9, true)] (fun w => (IsVals w v (l.map VB) ∧ OwnB w w1.heap.size hd1 X) ∧ Row w w1.heap.size 29 (dcells D)) (by kernel_rfl) (by kernel_rfl) rfl ?_
                        intro q2 hBd hsd
                        have hX3 := hX2.below hBd hX2.lt
                        have hY3 := hY2.below hBd hY2.lt
                        have hV3 := hV2.below hBd
                        have hH3 := hH2.below hBd
                        have hQ3 := hQ2.trans (hBd.mono hQ2.size)
                        clear hS hBd hsd hX2 hY2 hV2 hH2 hQ2
                        simp only [List.map_cons, List.map_nil]
                        dsimp only [List.filterMap, List.getElem?_cons_zero, List.getElem?_cons_succ]
                        have hS := (⟨⟨hV3, hH3⟩, hX3⟩ : ((IsVals q2 v (l.map VB) ∧ OwnB q2 w1.heap.size hd1 X) ∧ Row q2 w1.heap.size 29 (dcells D)))
                        refine dY _ hS (yLoadD8 _ _ D (fun _ h => h.2) rfl rfl rfl) ?_; go_frame
                        refine dY _ hS (yMove _ (v) rfl rfl rfl) ?_; go_frame
                        refine dY _ hS (yMove _ (hd1) rfl rfl rfl) ?_; go_frame
                        refine dY _ hS (yLen _ _ _ hd1 _ p rfl rfl rfl (fun _ h => h.1.2.vals) (by rw [List.length_map, hp]) Tryd.underlying22) ?_; go_frame
                        refine dY _ hS (ySliceFrom _ _ v l p (fun _ h => h.1.1) hpl rfl rfl rfl rfl) ?_; go_frame
                        have hF := isVals_drop8 hV3 hpl
                        refine dLoud ?_
                        refine kBuildSlice0 _ _ rfl rfl Tryd.underlying22 i hi ?_
                        intro q3 hRr hzz hBB
                        clear hzz
                        have hO4 : OwnB q3 q2.heap.size _ [] := own_empty (Nat.le_refl _) hRr
                        have hF4 := hF.below hBB
                        have hs4 := hBB.size
                        refine mixOn ⟨(fun w => (IsVals w v (l.map VB) ∧ OwnB w w1.heap.size hd1 X) ∧ Row w w1.heap.size 29 (dcells D)), (fun _ h => h), ((⟨⟨hV3.below hBB, hH3.below hBB⟩, hX3.below hBB hX3.lt⟩ : ((IsVals q3 v (l.map VB) ∧ OwnB q3 w1.heap.size hd1 X) ∧ Row q3 w1.heap.size 29 (dcells D)))), ?_⟩
                        have hS2 := (⟨⟨hV3.below hBB, hH3.below hBB⟩, hX3.below hBB hX3.lt⟩ : ((IsVals q3 v (l.map VB) ∧ OwnB q3 w1.heap.size hd1 X) ∧ Row q3 w1.heap.size 29 (dcells D)))
                        clear hS
                        have hS := hS2
                        clear hS2
                        go_frame
                        refine dLoud ?_
                        refine kAppB _ _ rfl rfl q2.heap.size _ _ [] (l.drop p) hO4 hF4 rfl rfl (by simp; omega) hs4 ?_
                        intro v6 q4 hO5 hBC
                        rw [List.nil_append] at hO5
                        have hB24 := hBB.trans hBC
                        have hX4 := hX3.below hB24 hX3.lt
                        have hY4 := hY3.below hB24 hY3.lt
                        have hH4 := hH3.below hB24
                        have hQ4 := hQ3.trans (hB24.mono hQ3.size)
                        refine mixOn ⟨(fun w => (IsVals w v (l.map VB) ∧ OwnB w w1.heap.size hd1 X) ∧ Row w w1.heap.size 29 (dcells D)), (fun _ h => h), ((⟨⟨hV3.below hB24, hH4⟩, hX4⟩ : ((IsVals q4 v (l.map VB) ∧ OwnB q4 w1.heap.size hd1 X) ∧ Row q4 w1.heap.size 29 (dcells D)))), ?_⟩
                        have hS2 := (⟨⟨hV3.below hB24, hH4⟩, hX4⟩ : ((IsVals q4 v (l.map VB) ∧ OwnB q4 w1.heap.size hd1 X) ∧ Row q4 w1.heap.size 29 (dcells D)))
                        clear hS
                        have hS := hS2
                        clear hS2
                        go_frame
                        refine dLoud ?_
                        refine kStoreD _ _ _ noDeed _ hY4 rfl rfl rfl rfl ?_
                        intro q5 hR9 hW9
                        have hBB9 := hQ4.trans (hW9.below (Nat.le_refl _))
                        have hO6 := own_keepW hO5 hW9 hY4
                        refine mixOn ⟨(fun w => (IsVals w v (l.map VB) ∧ OwnB w w1.heap.size hd1 X) ∧ Row w w1.heap.size 29 (dcells D)), (fun _ h => h), ((⟨⟨hv.below hBB9, own_keepW hH4 hW9 hY4⟩, hW9.row hX4 (Nat.ne_of_gt hz1)⟩ : ((IsVals q5 v (l.map VB) ∧ OwnB q5 w1.heap.size hd1 X) ∧ Row q5 w1.heap.size 29 (dcells D)))), ?_⟩
                        have hS2 := (⟨⟨hv.below hBB9, own_keepW hH4 hW9 hY4⟩, hW9.row hX4 (Nat.ne_of_gt hz1)⟩ : ((IsVals q5 v (l.map VB) ∧ OwnB q5 w1.heap.size hd1 X) ∧ Row q5 w1.heap.size 29 (dcells D)))
                        clear hS
                        have hS := hS2
                        clear hS2
                        go_frame
                        refine dY _ hS (yAssign _ v6 rfl rfl rfl) ?_; go_frame
                        refine dY _ hS (yAssign _ (.int .i64 0) rfl rfl rfl) ?_; go_frame
                        refine dDone ?_
                        go_wp2
                        (try simp only [Exit.inBlock, Exit.then])
                        exact result_row_tmp2 rfl rfl rfl rfl hR9 Tryd.underlying29 rfl (info_DeedC _) rfl ⟨_, rfl, own_less hQ3.size hO6, hBB9⟩
                      · have hRes3 := hRes.out
                        rw [if_neg (by simp)] at hRes3
                        subst hRes3
                        go_wp2_with (first
                          | ((with_reducible change wpList _ _ _ (Oper.mk (some 145) _ _ _ _ _ :: _) _ _); refine kBuildD0 rfl rfl ?_; go_frame)
                          | ((with_reducible change wpList _ _ _ (Oper.mk none (Op.store _ (Operand.tmp 2) (Operand.tmp 145)) _ _ _ _ :: _) _ _); refine kStoreD _ _ _ noDeed _ hY2 rfl rfl rfl rfl ?_; intro q9 hR9 hW9; have hBB9 := hQ2.trans (hW9.below (Nat.le_refl _)); go_frame))
                        (try simp only [Exit.inBlock, Exit.then])
                        exact result_row_tmp2 rfl rfl rfl rfl hR9 Tryd.underlying29 rfl (info_DeedC _) rfl ⟨_, rfl, ownB_nil _ _, hBB9⟩
            · have hne : (!decide ((x0.length : Int) = 20)) = true := by simp; omega
              have hRes : R = none := by rw [hRh.out, if_pos ⟨rfl, h20⟩]
              subst hRes
              go_wp2_with (first
                | ((with_reducible change wpList _ _ _ (Oper.mk (some 70) _ _ _ _ _ :: _) _ _); refine kLenN _ _ _ _ _ (n + j) rfl rfl rfl hVt (by rw [List.length_map]; exact hlen) Tryd.underlying52 ?_; go_frame)
                | ((with_reducible change wpList _ _ _ (Oper.mk (some 71) _ _ _ _ _ :: _) _ _); refine kLssI _ _ _ _ .i64 ((n + j : Nat) : Int) 3 false rfl rfl rfl rfl hd4 ?_; go_frame)
                | ((with_reducible change wpList _ _ _ (Oper.mk (some 75) _ _ _ _ _ :: _) _ _); refine kDeed0 _ _ rfl rfl rfl ?_; go_frame)
                | ((with_reducible change wpList _ _ _ (Oper.mk (some 76) _ _ _ _ _ :: _) _ _); refine kLoadK _ _ _ hX0 rfl rfl rfl ?_; dsimp only; go_frame)
                | ((with_reducible change wpList _ _ _ (Oper.mk (some 80) _ _ _ _ _ :: _) _ _); refine kIndexAddrV _ _ _ _ .i64 _ ([x0, x1, x2].map textV) 0 0 (textV x0) rfl rfl rfl hVt rfl Tryd.underlying52 info_stringL rfl rfl ?_; intro b hb; go_frame)
                | ((with_reducible change wpList _ _ _ (Oper.mk (some 81) _ _ _ _ _ :: _) _ _); refine kLoadCell _ _ b (textV x0) _ rfl rfl rfl hb Tryd.underlying9 rfl ?_; clear hb; go_frame)
                | ((with_reducible change wpList _ _ _ (Oper.mk (some 82) _ _ _ _ _ :: _) _ _); refine kLenStr _ _ x0 rfl rfl rfl Tryd.underlying9 ?_; go_frame)
                | ((with_reducible change wpList _ _ _ (Oper.mk (some 83) _ _ _ _ _ :: _) _ _); refine kNeqI _ _ _ _ .i64 (x0.length : Int) 20 true rfl rfl rfl rfl hne ?_; go_frame)
                | ((with_reducible change wpList _ _ _ (Oper.mk (some 84) _ _ _ _ _ :: _) _ _); refine kBuildD0 rfl rfl ?_; go_frame)
                | ((with_reducible change wpList _ _ _ (Oper.mk none (Op.store _ (Operand.tmp 2) (Operand.tmp 84)) _ _ _ _ :: _) _ _); refine kStoreD _ _ _ noDeed _ hY0 rfl rfl rfl rfl ?_; intro q9 hR9 hW9; have hBB9 := hQ0.trans (hW9.below (Nat.le_refl _)); go_frame))
              (try simp only [Exit.inBlock, Exit.then])
              exact result_row_tmp2 rfl rfl rfl rfl hR9 Tryd.underlying29 rfl (info_DeedC _) rfl ⟨_, rfl, ownB_nil _ _, hBB9⟩
          · have hRh := Lib.hid hRdef
            clear hRdef
            have hX0 : Row _ w1.heap.size 29 (dcells ⟨2, [], [], [], z20⟩) := hX0
            have hRes1 : R = finS l ⟨2, x0, x2, x1, z20⟩ := by rw [hRh.out, if_neg (fun h => absurd h.1 (by decide))]; simp [deedOfL]
            obtain ⟨D, hD⟩ : ∃ D : Deed, D = ⟨2, x0, x2, x1, z20⟩ := ⟨_, rfl⟩
            rw [← hD] at hRes1
            have hRes := Lib.hid hRes1
            clear hRes1 hRh
            have hDi : D.Is := by rw [hD]; rfl
            have hDf : D.Fits := by rw [hD]; exact ⟨hx0, hx2, hx1⟩
            have hDk : D.kind ≠ 0 := by rw [hD]; show (2 : Int) ≠ 0; decide
            have hDh := Lib.hid hD
            clear hD
            obtain ⟨X, hXe⟩ : ∃ X, ansL (lockS D []) = X := ⟨_, rfl⟩
            obtain ⟨Z, hZe⟩ : ∃ Z, errL (lockS D []) = Z := ⟨_, rfl⟩
            have eL : ∀ w, IsVals w (.slice none 0 0) (([] : List UInt8).map VB) → Calls Tryd.prog 8 #[deedV D, .slice none 0 0] w fun e w' => ∃ v, e = .returned (.tuple #[v, .int .i64 Z]) ∧ OwnB w' w.heap.size v X ∧ Below w.heap.size w w' := fun w h => (nLock_any hDi hDf w h (by simp)).mono (by rintro e w' ⟨v, rfl, hO, hB⟩; rw [hZe, ← hXe]; exact ⟨v, rfl, hO, hB⟩)
            go_wp2_with (first
              | ((with_reducible change wpList _ _ _ (Oper.mk (some 70) _ _ _ _ _ :: _) _ _); refine kLenN _ _ _ _ _ (n + j) rfl rfl rfl hVt (by rw [List.length_map]; exact hlen) Tryd.underlying52 ?_; go_frame)
              | ((with_reducible change wpList _ _ _ (Oper.mk (some 71) _ _ _ _ _ :: _) _ _); refine kLssI _ _ _ _ .i64 ((n + j : Nat) : Int) 3 false rfl rfl rfl rfl hd4 ?_; go_frame)
              | ((with_reducible change wpList _ _ _ (Oper.mk (some 75) _ _ _ _ _ :: _) _ _); refine kDeed0 _ _ rfl rfl rfl ?_; go_frame)
              | ((with_reducible change wpList _ _ _ (Oper.mk (some 76) _ _ _ _ _ :: _) _ _); refine kLoadK _ _ _ hX0 rfl rfl rfl ?_; dsimp only; go_frame)
              | ((with_reducible change wpList _ _ _ (Oper.mk (some 100) _ _ _ _ _ :: _) _ _); refine kIndexAddrV _ _ _ _ .i64 _ ([x0, x1, x2].map textV) 0 0 (textV x0) rfl rfl rfl hVt rfl Tryd.underlying52 info_stringL rfl rfl ?_; intro b hb; go_frame)
              | ((with_reducible change wpList _ _ _ (Oper.mk (some 101) _ _ _ _ _ :: _) _ _); refine kLoadCell _ _ b (textV x0) _ rfl rfl rfl hb Tryd.underlying9 rfl ?_; clear hb; go_frame)
              | ((with_reducible change wpList _ _ _ (Oper.mk (some 102) _ _ _ _ _ :: _) _ _); refine kDeed1 _ _ rfl rfl rfl ?_; go_frame)
              | ((with_reducible change wpList _ _ _ (Oper.mk none (Op.store _ (Operand.tmp 102) (Operand.tmp 101)) _ _ _ _ :: _) _ _); refine kStoreN1 _ _ _ _ x0 hX0 rfl rfl rfl rfl ?_; intro z0 hX1 hW0; have hY1 := hW0.row hY0 (Nat.ne_of_lt hz1); have hQ1 := hQ0.trans (hW0.below (Nat.le_of_lt hz1)); have hOt1 := own_strW hOt hW0 hX0; have hVt := hOt1.vals; clear hX0 hY0 hQ0 hW0 hOt; go_frame)
              | ((with_reducible change wpList _ _ _ (Oper.mk (some 104) _ _ _ _ _ :: _) _ _); refine kIndexAddrV _ _ _ _ .i64 _ ([x0, x1, x2].map textV) 1 1 (textV x1) rfl rfl rfl hVt rfl Tryd.underlying52 info_stringL rfl rfl ?_; intro b hb; go_frame)
              | ((with_reducible change wpList _ _ _ (Oper.mk (some 105) _ _ _ _ _ :: _) _ _); refine kLoadCell _ _ b (textV x1) _ rfl rfl rfl hb Tryd.underlying9 rfl ?_; clear hb; go_frame)
              | ((with_reducible change wpList _ _ _ (Oper.mk (some 106) _ _ _ _ _ :: _) _ _); refine kDeed3 _ _ rfl rfl rfl ?_; go_frame)
              | ((with_reducible change wpList _ _ _ (Oper.mk none (Op.store _ (Operand.tmp 106) (Operand.tmp 105)) _ _ _ _ :: _) _ _); refine kStoreN3 _ _ _ _ x1 hX1 rfl rfl rfl rfl ?_; intro z1 hX2 hW1; have hY2 := hW1.row hY1 (Nat.ne_of_lt hz1); have hQ2 := hQ1.trans (hW1.below (Nat.le_of_lt hz1)); have hOt2 := own_strW hOt1 hW1 hX1; have hVt := hOt2.vals; clear hX1 hY1 hQ1 hW1 hOt1; go_frame)
              | ((with_reducible change wpList _ _ _ (Oper.mk (some 108) _ _ _ _ _ :: _) _ _); refine kIndexAddrV _ _ _ _ .i64 _ ([x0, x1, x2].map textV) 2 2 (textV x2) rfl rfl rfl hVt rfl Tryd.underlying52 info_stringL rfl rfl ?_; intro b hb; go_frame)
              | ((with_reducible change wpList _ _ _ (Oper.mk (some 109) _ _ _ _ _ :: _) _ _); refine kLoadCell _ _ b (textV x2) _ rfl rfl rfl hb Tryd.underlying9 rfl ?_; clear hb; go_frame)
              | ((with_reducible change wpList _ _ _ (Oper.mk (some 110) _ _ _ _ _ :: _) _ _); refine kDeed2 _ _ rfl rfl rfl ?_; go_frame)
              | ((with_reducible change wpList _ _ _ (Oper.mk none (Op.store _ (Operand.tmp 110) (Operand.tmp 109)) _ _ _ _ :: _) _ _); refine kStoreN2 _ _ _ _ x2 hX2 rfl rfl rfl rfl ?_; intro z2 hX3 hW2; have hY3 := hW2.row hY2 (Nat.ne_of_lt hz1); have hQ3 := hQ2.trans (hW2.below (Nat.le_of_lt hz1)); have hOt3 := own_strW hOt2 hW2 hX2; have hVt := hOt3.vals; clear hX2 hY2 hQ2 hW2 hOt2; have hX9 : Row z2 w1.heap.size 29 (dcells D) := (by rw [hDh.out]; exact hX3); clear hX3; go_frame)
              | ((with_reducible change wpList _ _ _ (Oper.mk (some 122) _ _ _ _ _ :: _) _ _); refine kLoadD _ _ _ hX9 rfl rfl rfl ?_; go_frame)
              | (go_at_call 8; refine (eL _ (isVals_nil _)).mono ?_; rintro e y1 ⟨hd1, rfl, hH, hBB⟩; have hBl := Nat.le_of_lt hX9.lt; have hX1 := hX9.below hBB hX9.lt; have hY1 := hY3.below hBB hY3.lt; have hQ1 := hQ3.trans (hBB.mono hQ3.size); have hV1 := hv.below hQ1; go_frame))
            have hH : OwnB _ w1.heap.size hd1 X := own_less hBl hH
            clear eL
            cases hb : rightB D
            · have hRn : R = none := by rw [hRes.out]; unfold finS; rw [hb]; exact if_neg (by simp)
              subst hRn
              have hlk : lockS D [] = none := by unfold lockS; rw [if_pos (.inl hb)]
              rw [hlk] at hZe
              have hZ1 : Z = 81 := hZe.symm
              subst hZ1
              refine region_mixD [(0, true), (1, true), (2, true), (3, true), (4, true), (5, true), (6, true), (7, true), (8, true), (9, true), (10, true), (11, true), (12, true), (13, true), (14, true), (15, true), (16, true), (17, true), (18, true)] (fun w => (IsVals w v (l.map VB) ∧ OwnB w w1.heap.size hd1 X) ∧ Row w w1.heap.size 29 (dcells D)) (by kernel_rfl) (by kernel_rfl) rfl ?_
              intro q1 hBd hsd
              have hX2 := hX1.below hBd hX1.lt
              have hY2 := hY1.below hBd hY1.lt
              have hV2 := hV1.below hBd
              have hH2 := hH.below hBd
              have hQ2 := hQ1.trans (hBd.mono hQ1.size)
              clear hBd hsd hX1 hY1 hV1 hH hQ1
              simp only [List.map_cons, List.map_nil]
              dsimp only [List.filterMap, List.getElem?_cons_zero, List.getElem?_cons_succ]
              have hS := (⟨⟨hV2, hH2⟩, hX2⟩ : ((IsVals q1 v (l.map VB) ∧ OwnB q1 w1.heap.size hd1 X) ∧ Row q1 w1.heap.size 29 (dcells D)))
              refine dY _ hS (yMove _ (.int .i64 81) rfl rfl rfl) ?_; go_frame
              refine dY _ hS (yNeqI _ _ _ _ .i64 81 0 true rfl rfl rfl rfl rfl) ?_; go_frame
              refine dY _ hS (yMove _ (.bool true) rfl rfl rfl) ?_; go_frame
              refine dY undef hS (ySkip rfl) ?_; go_frame
              refine dY undef hS (ySkip rfl) ?_; go_frame
              refine dY undef hS (ySkip rfl) ?_; go_frame
              refine dY undef hS (ySkip rfl) ?_; go_frame
              refine dY undef hS (ySkip rfl) ?_; go_frame
              refine dY _ hS (yPick _ _ _ true (.bool true) rfl rfl rfl rfl) ?_; go_frame
              refine dY _ hS (yMove _ (.bool true) rfl rfl rfl) ?_; go_frame
              refine dY undef hS (ySkip rfl) ?_; go_frame
              refine dY undef hS (ySkip rfl) ?_; go_frame
              refine dY undef hS (ySkip rfl) ?_; go_frame
              refine dY undef hS (ySkip rfl) ?_; go_frame
              refine dY undef hS (ySkip rfl) ?_; go_frame
              refine dY undef hS (ySkip rfl) ?_; go_frame
              refine dY undef hS (ySkip rfl) ?_; go_frame
              refine dY undef hS (ySkip rfl) ?_; go_frame
              refine dY _ hS (yPick _ _ _ true (.bool true) rfl rfl rfl rfl) ?_; go_frame
              refine dDone ?_
              go_wp2_with (first
                | ((with_reducible change wpList _ _ _ (Oper.mk (some 145) _ _ _ _ _ :: _) _ _); refine kBuildD0 rfl rfl ?_; go_frame)
                | ((with_reducible change wpList _ _ _ (Oper.mk none (Op.store _ (Operand.tmp 2) (Operand.tmp 145)) _ _ _ _ :: _) _ _); refine kStoreD _ _ _ noDeed _ hY2 rfl rfl rfl rfl ?_; intro q9 hR9 hW9; have hBB9 := hQ2.trans (hW9.below (Nat.le_refl _)); go_frame))
              (try simp only [Exit.inBlock, Exit.then])
              exact result_row_tmp2 rfl rfl rfl rfl hR9 Tryd.underlying29 rfl (info_DeedC _) rfl ⟨_, rfl, ownB_nil _ _, hBB9⟩
            · have hlk : lockS D [] = some (wordsL D) := by unfold lockS; rw [if_neg (by rintro (e | e); rw [hb] at e; cases e; exact hDk e.1), List.append_nil]
              rw [hlk] at hZe hXe
              have hZ1 : Z = 0 := hZe.symm
              subst hZ1
              have hXe : wordsL D = X := hXe
              obtain ⟨p, hp⟩ : ∃ p, X.length = p := ⟨_, rfl⟩
              by_cases hpN : m < p
              · have hg : decide ((p : Int) > (m : Int)) = true := by simp; omega
                have hRn : R = none := by rw [hRes.out]; unfold finS; rw [hXe]; exact if_neg (by rintro ⟨-, h⟩; obtain ⟨t, ht⟩ := hasP_iff.1 h; rw [ht] at hN; simp at hN; omega)
                subst hRn
                refine region_mixD [(0, true), (1, true), (2, true), (3, true), (4, true), (5, true), (6, true), (7, true), (8, true), (9, true), (10, true), (11, true), (12, true), (13, true), (14, true), (15, true), (16, true), (17, true), (18, true)] (fun w => (IsVals w v (l.map VB) ∧ OwnB w w1.heap.size hd1 X) ∧ Row w w1.heap.size 29 (dcells D)) (by kernel_rfl) (by kernel_rfl) rfl ?_
                intro q1 hBd hsd
                have hX2 := hX1.below hBd hX1.lt
                have hY2 := hY1.below hBd hY1.lt
                have hV2 := hV1.below hBd
                have hH2 := hH.below hBd
                have hQ2 := hQ1.trans (hBd.mono hQ1.size)
                clear hBd hsd hX1 hY1 hV1 hH hQ1
                simp only [List.map_cons, List.map_nil]
                dsimp only [List.filterMap, List.getElem?_cons_zero, List.getElem?_cons_succ]
                have hS := (⟨⟨hV2, hH2⟩, hX2⟩ : ((IsVals q1 v (l.map VB) ∧ OwnB q1 w1.heap.size hd1 X) ∧ Row q1 w1.heap.size 29 (dcells D)))
                refine dY _ hS (yMove _ (.int .i64 0) rfl rfl rfl) ?_; go_frame
                refine dY _ hS (yNeqI _ _ _ _ .i64 0 0 false rfl rfl rfl rfl rfl) ?_; go_frame
                refine dY _ hS (yMove _ (.bool false) rfl rfl rfl) ?_; go_frame
                refine dY _ hS (yMove _ (hd1) rfl rfl rfl) ?_; go_frame
                refine dY _ hS (yLen _ _ _ hd1 _ p rfl rfl rfl (fun _ h => h.1.2.vals) (by rw [List.length_map, hp]) Tryd.underlying22) ?_; go_frame
                refine dY _ hS (yMove _ (v) rfl rfl rfl) ?_; go_frame
                refine dY _ hS (yLen _ _ _ v _ m rfl rfl rfl (fun _ h => h.1.1) (by rw [List.length_map, hN]) Tryd.underlying22) ?_; go_frame
                refine dY _ hS (yGtrI8 _ _ _ _ .i64 (p : Int) (m : Int) true rfl rfl rfl rfl hg) ?_; go_frame
                refine dY _ hS (yPick _ _ _ false (.bool true) rfl rfl rfl rfl) ?_; go_frame
                refine dY _ hS (yMove _ (.bool true) rfl rfl rfl) ?_; go_frame
                refine dY undef hS (ySkip rfl) ?_; go_frame
                refine dY undef hS (ySkip rfl) ?_; go_frame
                refine dY undef hS (ySkip rfl) ?_; go_frame
                refine dY undef hS (ySkip rfl) ?_; go_frame
                refine dY undef hS (ySkip rfl) ?_; go_frame
                refine dY undef hS (ySkip rfl) ?_; go_frame
                refine dY undef hS (ySkip rfl) ?_; go_frame
                refine dY undef hS (ySkip rfl) ?_; go_frame
                refine dY _ hS (yPick _ _ _ true (.bool true) rfl rfl rfl rfl) ?_; go_frame
                refine dDone ?_
                go_wp2_with (first
                  | ((with_reducible change wpList _ _ _ (Oper.mk (some 145) _ _ _ _ _ :: _) _ _); refine kBuildD0 rfl rfl ?_; go_frame)
                  | ((with_reducible change wpList _ _ _ (Oper.mk none (Op.store _ (Operand.tmp 2) (Operand.tmp 145)) _ _ _ _ :: _) _ _); refine kStoreD _ _ _ noDeed _ hY2 rfl rfl rfl rfl ?_; intro q9 hR9 hW9; have hBB9 := hQ2.trans (hW9.below (Nat.le_refl _)); go_frame))
                (try simp only [Exit.inBlock, Exit.then])
                exact result_row_tmp2 rfl rfl rfl rfl hR9 Tryd.underlying29 rfl (info_DeedC _) rfl ⟨_, rfl, ownB_nil _ _, hBB9⟩
              · have hg : decide ((p : Int) > (m : Int)) = false := by simp; omega
                have hpl : p ≤ l.length := by omega
                obtain ⟨e, he⟩ : ∃ e, (X != l.take p) = e := ⟨_, rfl⟩
                have hpe : hasP l X = !e := by rw [← he]; unfold hasP; rw [hp, show decide (p ≤ l.length) = true by simp [hpl], Bool.true_and]; simp only [bne, Bool.not_not]; exact Bool.beq_comm
                have hRes2 := hRes.out
                clear hRes
                unfold finS at hRes2
                rw [hXe, hpe, hb, hp] at hRes2
                have hRes := Lib.hid hRes2
                clear hRes2
                refine region_mixD [(0, true), (1, true), (2, true), (3, true), (4, true), (5, true), (6, true), (7, true), (8, true), (9, true), (10, true), (11, true), (12, true), (13, true), (14, true), (15, true), (16, true), (17, true), (18, true)] (fun w => (IsVals w v (l.map VB) ∧ OwnB w w1.heap.size hd1 X) ∧ Row w w1.heap.size 29 (dcells D)) (by kernel_rfl) (by kernel_rfl) rfl ?_
                intro q1 hBd hsd
                have hX2 := hX1.below hBd hX1.lt
                have hY2 := hY1.below hBd hY1.lt
                have hV2 := hV1.below hBd
                have hH2 := hH.below hBd
                have hQ2 := hQ1.trans (hBd.mono hQ1.size)
                clear hBd hsd hX1 hY1 hV1 hH hQ1
                simp only [List.map_cons, List.map_nil]
                dsimp only [List.filterMap, List.getElem?_cons_zero, List.getElem?_cons_succ]
                have hS := (⟨⟨hV2, hH2⟩, hX2⟩ : ((IsVals q1 v (l.map VB) ∧ OwnB q1 w1.heap.size hd1 X) ∧ Row q1 w1.heap.size 29 (dcells D)))
                refine dY _ hS (yMove _ (.int .i64 0) rfl rfl rfl) ?_; go_frame
                refine dY _ hS (yNeqI _ _ _ _ .i64 0 0 false rfl rfl rfl rfl rfl) ?_; go_frame
                refine dY _ hS (yMove _ (.bool false) rfl rfl rfl) ?_; go_frame
                refine dY _ hS (yMove _ (hd1) rfl rfl rfl) ?_; go_frame
                refine dY _ hS (yLen _ _ _ hd1 _ p rfl rfl rfl (fun _ h => h.1.2.vals) (by rw [List.length_map, hp]) Tryd.underlying22) ?_; go_frame
                refine dY _ hS (yMove _ (v) rfl rfl rfl) ?_; go_frame
                refine dY _ hS (yLen _ _ _ v _ m rfl rfl rfl (fun _ h => h.1.1) (by rw [List.length_map, hN]) Tryd.underlying22) ?_; go_frame
                refine dY _ hS (yGtrI8 _ _ _ _ .i64 (p : Int) (m : Int) false rfl rfl rfl rfl hg) ?_; go_frame
                refine dY _ hS (yPick _ _ _ false (.bool false) rfl rfl rfl rfl) ?_; go_frame
                refine dY _ hS (yMove _ (.bool false) rfl rfl rfl) ?_; go_frame
                refine dY _ hS (yMove _ (hd1) rfl rfl rfl) ?_; go_frame
                refine dY _ hS (yStr _ _ _ _ hd1 X rfl rfl rfl (fun _ h => h.1.2.vals) Tryd.underlying22 Tryd.underlying5 Tryd.underlying9) ?_; go_frame
                refine dY _ hS (yMove _ (v) rfl rfl rfl) ?_; go_frame
                refine dY _ hS (yMove _ (hd1) rfl rfl rfl) ?_; go_frame
                refine dY _ hS (yLen _ _ _ hd1 _ p rfl rfl rfl (fun _ h => h.1.2.vals) (by rw [List.length_map, hp]) Tryd.underlying22) ?_; go_frame
                refine dY _ hS (ySliceTo _ _ v l p (fun _ h => h.1.1) hpl rfl rfl rfl rfl) ?_; go_frame
                refine dY _ hS (yStr _ _ _ _ (toV v p) (l.take p) rfl rfl rfl (fun _ h => isVals_take8 h.1.1 hpl) Tryd.underlying22 Tryd.underlying5 Tryd.underlying9) ?_; go_frame
                refine dY _ hS (yNeqStr _ _ _ _ X (l.take p) e rfl rfl rfl rfl he) ?_; go_frame
                refine dY _ hS (yPick _ _ _ false (.bool e) rfl rfl rfl rfl) ?_; go_frame
                refine dDone ?_
                cases e
                · have hRes3 := hRes.out
                  rw [if_pos ⟨rfl, rfl⟩] at hRes3
                  subst hRes3
                  go_wp2
                  refine region_mixD [(0, true), (2, true), (3, true), (4, true), (5, true), (1, false), (6, false), (7, false), (8, true), (9, true)] (fun w => (IsVals w v (l.map VB) ∧ OwnB w w1.heap.size hd1 X) ∧ Row w w1.heap.size 29 (dcells D)) (by kernel_rfl) (by kernel_rfl) rfl ?_
                  intro q2 hBd hsd
                  have hX3 := hX2.below hBd hX2.lt
                  have hY3 := hY2.below hBd hY2.lt
                  have hV3 := hV2.below hBd
                  have hH3 := hH2.below hBd
                  have hQ3 := hQ2.trans (hBd.mono hQ2.size)
                  clear hS hBd hsd hX2 hY2 hV2 hH2 hQ2
                  simp only [List.map_cons, List.map_nil]
                  dsimp only [List.filterMap, List.getElem?_cons_zero, List.getElem?_cons_succ]
                  have hS := (⟨⟨hV3, hH3⟩, hX3⟩ : ((IsVals q2 v (l.map VB) ∧ OwnB q2 w1.heap.size hd1 X) ∧ Row q2 w1.heap.size 29 (dcells D)))
                  refine dY _ hS (yLoadD8 _ _ D (fun _ h => h.2) rfl rfl rfl) ?_; go_frame
                  refine dY _ hS (yMove _ (v) rfl rfl rfl) ?_; go_frame
                  refine dY _ hS (yMove _ (hd1) rfl rfl rfl) ?_; go_frame
                  refine dY _ hS (yLen _ _ _ hd1 _ p rfl rfl rfl (fun _ h => h.1.2.vals) (by rw [List.length_map, hp]) Tryd.underlying22) ?_; go_frame
                  refine dY _ hS (ySliceFrom _ _ v l p (fun _ h => h.1.1) hpl rfl rfl rfl rfl) ?_; go_frame
                  have hF := isVals_drop8 hV3 hpl
                  refine dLoud ?_
                  refine kBuildSlice0 _ _ rfl rfl Tryd.underlying22 i hi ?_
                  intro q3 hRr hzz hBB
                  clear hzz
                  have hO4 : OwnB q3 q2.heap.size _ [] := own_empty (Nat.le_refl _) hRr
                  have hF4 := hF.below hBB
                  have hs4 := hBB.size
                  refine mixOn ⟨(fun w => (IsVals w v (l.map VB) ∧ OwnB w w1.heap.size hd1 X) ∧ Row w w1.heap.size 29 (dcells D)), (fun _ h => h), ((⟨⟨hV3.below hBB, hH3.below hBB⟩, hX3.below hBB hX3.lt⟩ : ((IsVals q3 v (l.map VB) ∧ OwnB q3 w1.heap.size hd1 X) ∧ Row q3 w1.heap.size 29 (dcells D)))), ?_⟩
                  have hS2 := (⟨⟨hV3.below hBB, hH3.below hBB⟩, hX3.below hBB hX3.lt⟩ : ((IsVals q3 v (l.map VB) ∧ OwnB q3 w1.heap.size hd1 X) ∧ Row q3 w1.heap.size 29 (dcells D)))
                  clear hS
                  have hS := hS2
                  clear hS2
                  go_frame
                  refine dLoud ?_
                  refine kAppB _ _ rfl rfl q2.heap.size _ _ [] (l.drop p) hO4 hF4 rfl rfl (by simp; omega) hs4 ?_
                  intro v6 q4 hO5 hBC
                  rw [List.nil_append] at hO5
                  have hB24 := hBB.trans hBC
                  have hX4 := hX3.below hB24 hX3.lt
                  have hY4 := hY3.below hB24 hY3.lt
                  have hH4 := hH3.below hB24
                  have hQ4 := hQ3.trans (hB24.mono hQ3.size)
                  refine mixOn ⟨(fun w => (IsVals w v (l.map VB) ∧ OwnB w w1.heap.size hd1 X) ∧ Row w w1.heap.size 29 (dcells D)), (fun _ h => h), ((⟨⟨hV3.below hB24, hH4⟩, hX4⟩ : ((IsVals q4 v (l.map VB) ∧ OwnB q4 w1.heap.size hd1 X) ∧ Row q4 w1.heap.size 29 (dcells D)))), ?_⟩
                  have hS2 := (⟨⟨hV3.below hB24, hH4⟩, hX4⟩ : ((IsVals q4 v (l.map VB) ∧ OwnB q4 w1.heap.size hd1 X) ∧ Row q4 w1.heap.size 29 (dcells D)))
                  clear hS
                  have hS := hS2
                  clear hS2
                  go_frame
                  refine dLoud ?_
                  refine kStoreD _ _ _ noDeed _ hY4 rfl rfl rfl rfl ?_
                  intro q5 hR9 hW9
                  have hBB9 := hQ4.trans (hW9.below (Nat.le_refl _))
                  have hO6 := own_keepW hO5 hW9 hY4
                  refine mixOn ⟨(fun w => (IsVals w v (l.map VB) ∧ OwnB w w1.heap.size hd1 X) ∧ Row w w1.heap.size 29 (dcells D)), (fun _ h => h), ((⟨⟨hv.below hBB9, own_keepW hH4 hW9 hY4⟩, hW9.row hX4 (Nat.ne_of_gt hz1)⟩ : ((IsVals q5 v (l.map VB) ∧ OwnB q5 w1.heap.size hd1 X) ∧ Row q5 w1.heap.size 29 (dcells D)))), ?_⟩
                  have hS2 := (⟨⟨hv.below hBB9, own_keepW hH4 hW9 hY4⟩, hW9.row hX4 (Nat.ne_of_gt hz1)⟩ : ((IsVals q5 v (l.map VB) ∧ OwnB q5 w1.heap.size hd1 X) ∧ Row q5 w1.heap.size 29 (dcells D)))
                  clear hS
                  have hS := hS2
                  clear hS2
                  go_frame
                  refine dY _ hS (yAssign _ v6 rfl rfl rfl) ?_; go_frame
                  refine dY _ hS (yAssign _ (.int .i64 0) rfl rfl rfl) ?_; go_frame
                  refine dDone ?_
                  go_wp2
                  (try simp only [Exit.inBlock, Exit.then])
                  exact result_row_tmp2 rfl rfl rfl rfl hR9 Tryd.underlying29 rfl (info_DeedC _) rfl ⟨_, rfl, own_less hQ3.size hO6, hBB9⟩
                · have hRes3 := hRes.out
                  rw [if_neg (by simp)] at hRes3
                  subst hRes3
                  go_wp2_with (first
                    | ((with_reducible change wpList _ _ _ (Oper.mk (some 145) _ _ _ _ _ :: _) _ _); refine kBuildD0 rfl rfl ?_; go_frame)
                    | ((with_reducible change wpList _ _ _ (Oper.mk none (Op.store _ (Operand.tmp 2) (Operand.tmp 145)) _ _ _ _ :: _) _ _); refine kStoreD _ _ _ noDeed _ hY2 rfl rfl rfl rfl ?_; intro q9 hR9 hW9; have hBB9 := hQ2.trans (hW9.below (Nat.le_refl _)); go_frame))
                  (try simp only [Exit.inBlock, Exit.then])
                  exact result_row_tmp2 rfl rfl rfl rfl hR9 Tryd.underlying29 rfl (info_DeedC _) rfl ⟨_, rfl, ownB_nil _ _, hBB9⟩
          · have hRh := Lib.hid hRdef
            clear hRdef
            have hX0 : Row _ w1.heap.size 29 (dcells ⟨3, [], [], [], z20⟩) := hX0
            have hRes1 : R = finS l ⟨3, x0, x1, [], z20⟩ := by rw [hRh.out, if_neg (fun h => absurd h.1 (by decide))]; simp [deedOfL]
            obtain ⟨D, hD⟩ : ∃ D : Deed, D = ⟨3, x0, x1, [], z20⟩ := ⟨_, rfl⟩
            rw [← hD] at hRes1
            have hRes := Lib.hid hRes1
            clear hRes1 hRh
            have hDi : D.Is := by rw [hD]; rfl
            have hDf : D.Fits := by rw [hD]; exact ⟨hx0, hx1, by simp⟩
            have hDk : D.kind ≠ 0 := by rw [hD]; show (3 : Int) ≠ 0; decide
            have hDh := Lib.hid hD
            clear hD
            obtain ⟨X, hXe⟩ : ∃ X, ansL (lockS D []) = X := ⟨_, rfl⟩
            obtain ⟨Z, hZe⟩ : ∃ Z, errL (lockS D []) = Z := ⟨_, rfl⟩
            have eL : ∀ w, IsVals w (.slice none 0 0) (([] : List UInt8).map VB) → Calls Tryd.prog 8 #[deedV D, .slice none 0 0] w fun e w' => ∃ v, e = .returned (.tuple #[v, .int .i64 Z]) ∧ OwnB w' w.heap.size v X ∧ Below w.heap.size w w' := fun w h => (nLock_any hDi hDf w h (by simp)).mono (by rintro e w' ⟨v, rfl, hO, hB⟩; rw [hZe, ← hXe]; exact ⟨v, rfl, hO, hB⟩)
            go_wp2_with (first
              | ((with_reducible change wpList _ _ _ (Oper.mk (some 70) _ _ _ _ _ :: _) _ _); refine kLenN _ _ _ _ _ (n + j) rfl rfl rfl hVt (by rw [List.length_map]; exact hlen) Tryd.underlying52 ?_; go_frame)
              | ((with_reducible change wpList _ _ _ (Oper.mk (some 71) _ _ _ _ _ :: _) _ _); refine kLssI _ _ _ _ .i64 ((n + j : Nat) : Int) 3 false rfl rfl rfl rfl hd4 ?_; go_frame)
              | ((with_reducible change wpList _ _ _ (Oper.mk (some 75) _ _ _ _ _ :: _) _ _); refine kDeed0 _ _ rfl rfl rfl ?_; go_frame)
              | ((with_reducible change wpList _ _ _ (Oper.mk (some 76) _ _ _ _ _ :: _) _ _); refine kLoadK _ _ _ hX0 rfl rfl rfl ?_; dsimp only; go_frame)
              | ((with_reducible change wpList _ _ _ (Oper.mk (some 114) _ _ _ _ _ :: _) _ _); refine kIndexAddrV _ _ _ _ .i64 _ ([x0, x1, x2].map textV) 0 0 (textV x0) rfl rfl rfl hVt rfl Tryd.underlying52 info_stringL rfl rfl ?_; intro b hb; go_frame)
              | ((with_reducible change wpList _ _ _ (Oper.mk (some 115) _ _ _ _ _ :: _) _ _); refine kLoadCell _ _ b (textV x0) _ rfl rfl rfl hb Tryd.underlying9 rfl ?_; clear hb; go_frame)
              | ((with_reducible change wpList _ _ _ (Oper.mk (some 116) _ _ _ _ _ :: _) _ _); refine kDeed1 _ _ rfl rfl rfl ?_; go_frame)
              | ((with_reducible change wpList _ _ _ (Oper.mk none (Op.store _ (Operand.tmp 116) (Operand.tmp 115)) _ _ _ _ :: _) _ _); refine kStoreN1 _ _ _ _ x0 hX0 rfl rfl rfl rfl ?_; intro z0 hX1 hW0; have hY1 := hW0.row hY0 (Nat.ne_of_lt hz1); have hQ1 := hQ0.trans (hW0.below (Nat.le_of_lt hz1)); have hOt1 := own_strW hOt hW0 hX0; have hVt := hOt1.vals; clear hX0 hY0 hQ0 hW0 hOt; go_frame)
              | ((with_reducible change wpList _ _ _ (Oper.mk (some 118) _ _ _ _ _ :: _) _ _); refine kIndexAddrV _ _ _ _ .i64 _ ([x0, x1, x2].map textV) 1 1 (textV x1) rfl rfl rfl hVt rfl Tryd.underlying52 info_stringL rfl rfl ?_; intro b hb; go_frame)
              | ((with_reducible change wpList _ _ _ (Oper.mk (some 119) _ _ _ _ _ :: _) _ _); refine kLoadCell _ _ b (textV x1) _ rfl rfl rfl hb Tryd.underlying9 rfl ?_; clear hb; go_frame)
              | ((with_reducible change wpList _ _ _ (Oper.mk (some 120) _ _ _ _ _ :: _) _ _); refine kDeed2 _ _ rfl rfl rfl ?_; go_frame)
              | ((with_reducible change wpList _ _ _ (Oper.mk none (Op.store _ (Operand.tmp 120) (Operand.tmp 119)) _ _ _ _ :: _) _ _); refine kStoreN2 _ _ _ _ x1 hX1 rfl rfl rfl rfl ?_; intro z1 hX2 hW1; have hY2 := hW1.row hY1 (Nat.ne_of_lt hz1); have hQ2 := hQ1.trans (hW1.below (Nat.le_of_lt hz1)); have hOt2 := own_strW hOt1 hW1 hX1; have hVt := hOt2.vals; clear hX1 hY1 hQ1 hW1 hOt1; have hX9 : Row z1 w1.heap.size 29 (dcells D) := (by rw [hDh.out]; exact hX2); clear hX2; go_frame)
              | ((with_reducible change wpList _ _ _ (Oper.mk (some 122) _ _ _ _ _ :: _) _ _); refine kLoadD _ _ _ hX9 rfl rfl rfl ?_; go_frame)
              | (go_at_call 8; refine (eL _ (isVals_nil _)).mono ?_; rintro e y1 ⟨hd1, rfl, hH, hBB⟩; have hBl := Nat.le_of_lt hX9.lt; have hX1 := hX9.below hBB hX9.lt; have hY1 := hY2.below hBB hY2.lt; have hQ1 := hQ2.trans (hBB.mono hQ2.size); have hV1 := hv.below hQ1; go_frame))
            have hH : OwnB _ w1.heap.size hd1 X := own_less hBl hH
            clear eL
            cases hb : rightB D
            · have hRn : R = none := by rw [hRes.out]; unfold finS; rw [hb]; exact if_neg (by simp)
              subst hRn
              have hlk : lockS D [] = none := by unfold lockS; rw [if_pos (.inl hb)]
              rw [hlk] at hZe
              have hZ1 : Z = 81 := hZe.symm
              subst hZ1
              refine region_mixD [(0, true), (1, true), (2, true), (3, true), (4, true), (5, true), (6, true), (7, true), (8, true), (9, true), (10, true), (11, true), (12, true), (13, true), (14, true), (15, true), (16, true), (17, true), (18, true)] (fun w => (IsVals w v (l.map VB) ∧ OwnB w w1.heap.size hd1 X) ∧ Row w w1.heap.size 29 (dcells D)) (by kernel_rfl) (by kernel_rfl) rfl ?_
              intro q1 hBd hsd
              have hX2 := hX1.below hBd hX1.lt
              have hY2 := hY1.below hBd hY1.lt
              have hV2 := hV1.below hBd
              have hH2 := hH.below hBd
              have hQ2 := hQ1.trans (hBd.mono hQ1.size)
              clear hBd hsd hX1 hY1 hV1 hH hQ1
              simp only [List.map_cons, List.map_nil]
              dsimp only [List.filterMap, List.getElem?_cons_zero, List.getElem?_cons_succ]
              have hS := (⟨⟨hV2, hH2⟩, hX2⟩ : ((IsVals q1 v (l.map VB) ∧ OwnB q1 w1.heap.size hd1 X) ∧ Row q1 w1.heap.size 29 (dcells D)))
              refine dY _ hS (yMove _ (.int .i64 81) rfl rfl rfl) ?_; go_frame
              refine dY _ hS (yNeqI _ _ _ _ .i64 81 0 true rfl rfl rfl rfl rfl) ?_; go_frame
              refine dY _ hS (yMove _ (.bool true) rfl rfl rfl) ?_; go_frame
              refine dY undef hS (ySkip rfl) ?_; go_frame
              refine dY undef hS (ySkip rfl) ?_; go_frame
              refine dY undef hS (ySkip rfl) ?_; go_frame
              refine dY undef hS (ySkip rfl) ?_; go_frame
              refine dY undef hS (ySkip rfl) ?_; go_frame
              refine dY _ hS (yPick _ _ _ true (.bool true) rfl rfl rfl rfl) ?_; go_frame
              refine dY _ hS (yMove _ (.bool true) rfl rfl rfl) ?_; go_frame
              refine dY undef hS (ySkip rfl) ?_; go_frame
              refine dY undef hS (ySkip rfl) ?_; go_frame
              refine dY undef hS (ySkip rfl) ?_; go_frame
              refine dY undef hS (ySkip rfl) ?_; go_frame
              refine dY undef hS (ySkip rfl) ?_; go_frame
              refine dY undef hS (ySkip rfl) ?_; go_frame
              refine dY undef hS (ySkip rfl) ?_; go_frame
              refine dY undef hS (ySkip rfl) ?_; go_frame
              refine dY _ hS (yPick _ _ _ true (.bool true) rfl rfl rfl rfl) ?_; go_frame
              refine dDone ?_
              go_wp2_with (first
                | ((with_reducible change wpList _ _ _ (Oper.mk (some 145) _ _ _ _ _ :: _) _ _); refine kBuildD0 rfl rfl ?_; go_frame)
                | ((with_reducible change wpList _ _ _ (Oper.mk none (Op.store _ (Operand.tmp 2) (Operand.tmp 145)) _ _ _ _ :: _) _ _); refine kStoreD _ _ _ noDeed _ hY2 rfl rfl rfl rfl ?_; intro q9 hR9 hW9; have hBB9 := hQ2.trans (hW9.below (Nat.le_refl _)); go_frame))
              (try simp only [Exit.inBlock, Exit.then])
              exact result_row_tmp2 rfl rfl rfl rfl hR9 Tryd.underlying29 rfl (info_DeedC _) rfl ⟨_, rfl, ownB_nil _ _, hBB9⟩
            · have hlk : lockS D [] = some (wordsL D) := by unfold lockS; rw [if_neg (by rintro (e | e); rw [hb] at e; cases e; exact hDk e.1), List.append_nil]
              rw [hlk] at hZe hXe
              have hZ1 : Z = 0 := hZe.symm
              subst hZ1
              have hXe : wordsL D = X := hXe
              obtain ⟨p, hp⟩ : ∃ p, X.length = p := ⟨_, rfl⟩
              by_cases hpN : m < p
              · have hg : decide ((p : Int) > (m : Int)) = true := by simp; omega
                have hRn : R = none := by rw [hRes.out]; unfold finS; rw [hXe]; exact if_neg (by rintro ⟨-, h⟩; obtain ⟨t, ht⟩ := hasP_iff.1 h; rw [ht] at hN; simp at hN; omega)
                subst hRn
                refine region_mixD [(0, true), (1, true), (2, true), (3, true), (4, true), (5, true), (6, true), (7, true), (8, true), (9, true), (10, true), (11, true), (12, true), (13, true), (14, true), (15, true), (16, true), (17, true), (18, true)] (fun w => (IsVals w v (l.map VB) ∧ OwnB w w1.heap.size hd1 X) ∧ Row w w1.heap.size 29 (dcells D)) (by kernel_rfl) (by kernel_rfl) rfl ?_
                intro q1 hBd hsd
                have hX2 := hX1.below hBd hX1.lt
                have hY2 := hY1.below hBd hY1.lt
                have hV2 := hV1.below hBd
                have hH2 := hH.below hBd
                have hQ2 := hQ1.trans (hBd.mono hQ1.size)
                clear hBd hsd hX1 hY1 hV1 hH hQ1
                simp only [List.map_cons, List.map_nil]
                dsimp only [List.filterMap, List.getElem?_cons_zero, List.getElem?_cons_succ]
                have hS := (⟨⟨hV2, hH2⟩, hX2⟩ : ((IsVals q1 v (l.map VB) ∧ OwnB q1 w1.heap.size hd1 X) ∧ Row q1 w1.heap.size 29 (dcells D)))
                refine dY _ hS (yMove _ (.int .i64 0) rfl rfl rfl) ?_; go_frame
                refine dY _ hS (yNeqI _ _ _ _ .i64 0 0 false rfl rfl rfl rfl rfl) ?_; go_frame
                refine dY _ hS (yMove _ (.bool false) rfl rfl rfl) ?_; go_frame
                refine dY _ hS (yMove _ (hd1) rfl rfl rfl) ?_; go_frame
                refine dY _ hS (yLen _ _ _ hd1 _ p rfl rfl rfl (fun _ h => h.1.2.vals) (by rw [List.length_map, hp]) Tryd.underlying22) ?_; go_frame
                refine dY _ hS (yMove _ (v) rfl rfl rfl) ?_; go_frame
                refine dY _ hS (yLen _ _ _ v _ m rfl rfl rfl (fun _ h => h.1.1) (by rw [List.length_map, hN]) Tryd.underlying22) ?_; go_frame
                refine dY _ hS (yGtrI8 _ _ _ _ .i64 (p : Int) (m : Int) true rfl rfl rfl rfl hg) ?_; go_frame
                refine dY _ hS (yPick _ _ _ false (.bool true) rfl rfl rfl rfl) ?_; go_frame
                refine dY _ hS (yMove _ (.bool true) rfl rfl rfl) ?_; go_frame
                refine dY undef hS (ySkip rfl) ?_; go_frame
                refine dY undef hS (ySkip rfl) ?_; go_frame
                refine dY undef hS (ySkip rfl) ?_; go_frame
                refine dY undef hS (ySkip rfl) ?_; go_frame
                refine dY undef hS (ySkip rfl) ?_; go_frame
                refine dY undef hS (ySkip rfl) ?_; go_frame
                refine dY undef hS (ySkip rfl) ?_; go_frame
                refine dY undef hS (ySkip rfl) ?_; go_frame
                refine dY _ hS (yPick _ _ _ true (.bool true) rfl rfl rfl rfl) ?_; go_frame
                refine dDone ?_
                go_wp2_with (first
                  | ((with_reducible change wpList _ _ _ (Oper.mk (some 145) _ _ _ _ _ :: _) _ _); refine kBuildD0 rfl rfl ?_; go_frame)
                  | ((with_reducible change wpList _ _ _ (Oper.mk none (Op.store _ (Operand.tmp 2) (Operand.tmp 145)) _ _ _ _ :: _) _ _); refine kStoreD _ _ _ noDeed _ hY2 rfl rfl rfl rfl ?_; intro q9 hR9 hW9; have hBB9 := hQ2.trans (hW9.below (Nat.le_refl _)); go_frame))
                (try simp only [Exit.inBlock, Exit.then])
                exact result_row_tmp2 rfl rfl rfl rfl hR9 Tryd.underlying29 rfl (info_DeedC _) rfl ⟨_, rfl, ownB_nil _ _, hBB9⟩
              · have hg : decide ((p : Int) > (m : Int)) = false := by simp; omega
                have hpl : p ≤ l.length := by omega
                obtain ⟨e, he⟩ : ∃ e, (X != l.take p) = e := ⟨_, rfl⟩
                have hpe : hasP l X = !e := by rw [← he]; unfold hasP; rw [hp, show decide (p ≤ l.length) = true by simp [hpl], Bool.true_and]; simp only [bne, Bool.not_not]; exact Bool.beq_comm
                have hRes2 := hRes.out
                clear hRes
                unfold finS at hRes2
                rw [hXe, hpe, hb, hp] at hRes2
                have hRes := Lib.hid hRes2
                clear hRes2
                refine region_mixD [(0, true), (1, true), (2, true), (3, true), (4, true), (5, true), (6, true), (7, true), (8, true), (9, true), (10, true), (11, true), (12, true), (13, true), (14, true), (15, true), (16, true), (17, true), (18, true)] (fun w => (IsVals w v (l.map VB) ∧ OwnB w w1.heap.size hd1 X) ∧ Row w w1.heap.size 29 (dcells D)) (by kernel_rfl) (by kernel_rfl) rfl ?_
                intro q1 hBd hsd
                have hX2 := hX1.below hBd hX1.lt
                have hY2 := hY1.below hBd hY1.lt
                have hV2 := hV1.below hBd
                have hH2 := hH.below hBd
                have hQ2 := hQ1.trans (hBd.mono hQ1.size)
                clear hBd hsd hX1 hY1 hV1 hH hQ1
                simp only [List.map_cons, List.map_nil]
                dsimp only [List.filterMap, List.getElem?_cons_zero, List.getElem?_cons_succ]
                have hS := (⟨⟨hV2, hH2⟩, hX2⟩ : ((IsVals q1 v (l.map VB) ∧ OwnB q1 w1.heap.size hd1 X) ∧ Row q1 w1.heap.size 29 (dcells D)))
                refine dY _ hS (yMove _ (.int .i64 0) rfl rfl rfl) ?_; go_frame
                refine dY _ hS (yNeqI _ _ _ _ .i64 0 0 false rfl rfl rfl rfl rfl) ?_; go_frame
                refine dY _ hS (yMove _ (.bool false) rfl rfl rfl) ?_; go_frame
                refine dY _ hS (yMove _ (hd1) rfl rfl rfl) ?_; go_frame
                refine dY _ hS (yLen _ _ _ hd1 _ p rfl rfl rfl (fun _ h => h.1.2.vals) (by rw [List.length_map, hp]) Tryd.underlying22) ?_; go_frame
                refine dY _ hS (yMove _ (v) rfl rfl rfl) ?_; go_frame
                refine dY _ hS (yLen _ _ _ v _ m rfl rfl rfl (fun _ h => h.1.1) (by rw [List.length_map, hN]) Tryd.underlying22) ?_; go_frame
                refine dY _ hS (yGtrI8 _ _ _ _ .i64 (p : Int) (m : Int) false rfl rfl rfl rfl hg) ?_; go_frame
                refine dY _ hS (yPick _ _ _ false (.bool false) rfl rfl rfl rfl) ?_; go_frame
                refine dY _ hS (yMove _ (.bool false) rfl rfl rfl) ?_; go_frame
                refine dY _ hS (yMove _ (hd1) rfl rfl rfl) ?_; go_frame
                refine dY _ hS (yStr _ _ _ _ hd1 X rfl rfl rfl (fun _ h => h.1.2.vals) Tryd.underlying22 Tryd.underlying5 Tryd.underlying9) ?_; go_frame
                refine dY _ hS (yMove _ (v) rfl rfl rfl) ?_; go_frame
                refine dY _ hS (yMove _ (hd1) rfl rfl rfl) ?_; go_frame
                refine dY _ hS (yLen _ _ _ hd1 _ p rfl rfl rfl (fun _ h => h.1.2.vals) (by rw [List.length_map, hp]) Tryd.underlying22) ?_; go_frame
                refine dY _ hS (ySliceTo _ _ v l p (fun _ h => h.1.1) hpl rfl rfl rfl rfl) ?_; go_frame
                refine dY _ hS (yStr _ _ _ _ (toV v p) (l.take p) rfl rfl rfl (fun _ h => isVals_take8 h.1.1 hpl) Tryd.underlying22 Tryd.underlying5 Tryd.underlying9) ?_; go_frame
                refine dY _ hS (yNeqStr _ _ _ _ X (l.take p) e rfl rfl rfl rfl he) ?_; go_frame
                refine dY _ hS (yPick _ _ _ false (.bool e) rfl rfl rfl rfl) ?_; go_frame
                refine dDone ?_
                cases e
                · have hRes3 := hRes.out
                  rw [if_pos ⟨rfl, rfl⟩] at hRes3
                  subst hRes3
                  go_wp2
                  refine region_mixD [(0, true), (2, true), (3, true), (4, true), (5, true), (1, false), (6, false), (7, false), (8, true), (9, true)] (fun w => (IsVals w v (l.map VB) ∧ OwnB w w1.heap.size hd1 X) ∧ Row w w1.heap.size 29 (dcells D)) (by kernel_rfl) (by kernel_rfl) rfl ?_
                  intro q2 hBd hsd
                  have hX3 := hX2.below hBd hX2.lt
                  have hY3 := hY2.below hBd hY2.lt
                  have hV3 := hV2.below hBd
                  have hH3 := hH2.below hBd
                  have hQ3 := hQ2.trans (hBd.mono hQ2.size)
                  clear hS hBd hsd hX2 hY2 hV2 hH2 hQ2
                  simp only [List.map_cons, List.map_nil]
                  dsimp only [List.filterMap, List.getElem?_cons_zero, List.getElem?_cons_succ]
                  have hS := (⟨⟨hV3, hH3⟩, hX3⟩ : ((IsVals q2 v (l.map VB) ∧ OwnB q2 w1.heap.size hd1 X) ∧ Row q2 w1.heap.size 29 (dcells D)))
                  refine dY _ hS (yLoadD8 _ _ D (fun _ h => h.2) rfl rfl rfl) ?_; go_frame
                  refine dY _ hS (yMove _ (v) rfl rfl rfl) ?_; go_frame
                  refine dY _ hS (yMove _ (hd1) rfl rfl rfl) ?_; go_frame
                  refine dY _ hS (yLen _ _ _ hd1 _ p rfl rfl rfl (fun _ h => h.1.2.vals) (by rw [List.length_map, hp]) Tryd.underlying22) ?_; go_frame
                  refine dY _ hS (ySliceFrom _ _ v l p (fun _ h => h.1.1) hpl rfl rfl rfl rfl) ?_; go_frame
                  have hF := isVals_drop8 hV3 hpl
                  refine dLoud ?_
                  refine kBuildSlice0 _ _ rfl rfl Tryd.underlying22 i hi ?_
                  intro q3 hRr hzz hBB
                  clear hzz
                  have hO4 : OwnB q3 q2.heap.size _ [] := own_empty (Nat.le_refl _) hRr
                  have hF4 := hF.below hBB
                  have hs4 := hBB.size
                  refine mixOn ⟨(fun w => (IsVals w v (l.map VB) ∧ OwnB w w1.heap.size hd1 X) ∧ Row w w1.heap.size 29 (dcells D)), (fun _ h => h), ((⟨⟨hV3.below hBB, hH3.below hBB⟩, hX3.below hBB hX3.lt⟩ : ((IsVals q3 v (l.map VB) ∧ OwnB q3 w1.heap.size hd1 X) ∧ Row q3 w1.heap.size 29 (dcells D)))), ?_⟩
                  have hS2 := (⟨⟨hV3.below hBB, hH3.below hBB⟩, hX3.below hBB hX3.lt⟩ : ((IsVals q3 v (l.map VB) ∧ OwnB q3 w1.heap.size hd1 X) ∧ Row q3 w1.heap.size 29 (dcells D)))
                  clear hS
                  have hS := hS2
                  clear hS2
                  go_frame
                  refine dLoud ?_
                  refine kAppB _ _ rfl rfl q2.heap.size _ _ [] (l.drop p) hO4 hF4 rfl rfl (by simp; omega) hs4 ?_
                  intro v6 q4 hO5 hBC
                  rw [List.nil_append] at hO5
                  have hB24 := hBB.trans hBC
                  have hX4 := hX3.below hB24 hX3.lt
                  have hY4 := hY3.below hB24 hY3.lt
                  have hH4 := hH3.below hB24
                  have hQ4 := hQ3.trans (hB24.mono hQ3.size)
                  refine mixOn ⟨(fun w => (IsVals w v (l.map VB) ∧ OwnB w w1.heap.size hd1 X) ∧ Row w w1.heap.size 29 (dcells D)), (fun _ h => h), ((⟨⟨hV3.below hB24, hH4⟩, hX4⟩ : ((IsVals q4 v (l.map VB) ∧ OwnB q4 w1.heap.size hd1 X) ∧ Row q4 w1.heap.size 29 (dcells D)))), ?_⟩
                  have hS2 := (⟨⟨hV3.below hB24, hH4⟩, hX4⟩ : ((IsVals q4 v (l.map VB) ∧ OwnB q4 w1.heap.size hd1 X) ∧ Row q4 w1.heap.size 29 (dcells D)))
                  clear hS
                  have hS := hS2
                  clear hS2
                  go_frame
                  refine dLoud ?_
                  refine kStoreD _ _ _ noDeed _ hY4 rfl rfl rfl rfl ?_
                  intro q5 hR9 hW9
                  have hBB9 := hQ4.trans (hW9.below (Nat.le_refl _))
                  have hO6 := own_keepW hO5 hW9 hY4
                  refine mixOn ⟨(fun w => (IsVals w v (l.map VB) ∧ OwnB w w1.heap.size hd1 X) ∧ Row w w1.heap.size 29 (dcells D)), (fun _ h => h), ((⟨⟨hv.below hBB9, own_keepW hH4 hW9 hY4⟩, hW9.row hX4 (Nat.ne_of_gt hz1)⟩ : ((IsVals q5 v (l.map VB) ∧ OwnB q5 w1.heap.size hd1 X) ∧ Row q5 w1.heap.size 29 (dcells D)))), ?_⟩
                  have hS2 := (⟨⟨hv.below hBB9, own_keepW hH4 hW9 hY4⟩, hW9.row hX4 (Nat.ne_of_gt hz1)⟩ : ((IsVals q5 v (l.map VB) ∧ OwnB q5 w1.heap.size hd1 X) ∧ Row q5 w1.heap.size 29 (dcells D)))
                  clear hS
                  have hS := hS2
                  clear hS2
                  go_frame
                  refine dY _ hS (yAssign _ v6 rfl rfl rfl) ?_; go_frame
                  refine dY _ hS (yAssign _ (.int .i64 0) rfl rfl rfl) ?_; go_frame
                  refine dDone ?_
                  go_wp2
                  (try simp only [Exit.inBlock, Exit.then])
                  exact result_row_tmp2 rfl rfl rfl rfl hR9 Tryd.underlying29 rfl (info_DeedC _) rfl ⟨_, rfl, own_less hQ3.size hO6, hBB9⟩
                · have hRes3 := hRes.out
                  rw [if_neg (by simp)] at hRes3
                  subst hRes3
                  go_wp2_with (first
                    | ((with_reducible change wpList _ _ _ (Oper.mk (some 145) _ _ _ _ _ :: _) _ _); refine kBuildD0 rfl rfl ?_; go_frame)
                    | ((with_reducible change wpList _ _ _ (Oper.mk none (Op.store _ (Operand.tmp 2) (Operand.tmp 145)) _ _ _ _ :: _) _ _); refine kStoreD _ _ _ noDeed _ hY2 rfl rfl rfl rfl ?_; intro q9 hR9 hW9; have hBB9 := hQ2.trans (hW9.below (Nat.le_refl _)); go_frame))
                  (try simp only [Exit.inBlock, Exit.then])
                  exact result_row_tmp2 rfl rfl rfl rfl hR9 Tryd.underlying29 rfl (info_DeedC _) rfl ⟨_, rfl, ownB_nil _ _, hBB9⟩
end Go.Proofs.YtnaclalbeocpkaaDoor
