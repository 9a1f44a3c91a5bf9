/-
  What the rows' list of variables gives the walks of layer 8 (the table of SHA-256, how many pieces a kind pushes), a world for the witness, and deeds that came in.
-/
import Derived.Test.YtnaclalbeocpkaaDoorLawStruct
import Derived.Test.YtnaclalbeocpkaaDoorLawFrame
import Derived.Test.YtnaclalbeocpkaaDoorLawOpen
import Derived.Test.YtnaclalbeocpkaaDoorLbAll
namespace Go.Proofs.YtnaclalbeocpkaaDoor
open Go.ChangeShapes Go.WideShapes Go.ChangeAt Go.RowKit Go

theorem gCnt : Tryd.prog.globalNamed "byname/label.pieceCounts" = some 0 := by kernel_rfl
theorem gCntType : (Tryd.prog.globals[0]?).map (·.type) = some 64 := by kernel_rfl
theorem cellsArr4 : Tryd.prog.cellsOf 64 = 4 := by kernel_rfl
theorem cellsIntL : Tryd.prog.cellsOf 3 = 1 := by kernel_rfl
theorem cellsStrL : Tryd.prog.cellsOf 9 = 1 := by kernel_rfl
theorem cellsByteL : Tryd.prog.cellsOf 5 = 1 := by kernel_rfl
theorem cellsShortL : Tryd.prog.cellsOf 27 = 20 := by kernel_rfl
theorem cellsDeed : Tryd.prog.cellsOf 29 = 24 := by kernel_rfl
def cInts : List Int := [0, 1, 3, 2]
theorem cInts_eq : ∀ j, j < 4 → cInts[j]? = some (cntN j : Int) := by decide
theorem counts {W : World} {rest : List (String × DataW Unit)} (h : laidMet Tryd.prog (("byname/label.pieceCounts", Rows.laid_byname_label_pieceCounts) :: rest) W) : Counts W := fun j hj => by
  have ht : Lib.TabIs Tryd.prog W "byname/label.pieceCounts" .i64 cInts :=
    Lib.tabIs_of_head (rest := rest) gCnt gCntType Tryd.underlying64 Tryd.underlying3 cellsIntL cellsArr4 h
  rw [ht.cell gCnt j (by simpa [cInts] using hj)]
  have e := cInts_eq j hj
  congr 2
  simp [e]
theorem keys8 {W : World} {rest : List (String × DataW Unit)} (h : laidMet Tryd.prog (("byname/digest.roundKeys", Rows.laid_byname_digest_roundKeys) :: rest) W) : Keys W := fun i hi => by
  have ht : Lib.TabIs Tryd.prog W "byname/digest.roundKeys" .u32 kInts :=
    Lib.tabIs_of_head (rest := rest) gTab gTabType Tryd.underlying97 Tryd.underlying84 cellsU32 cellsTab h
  have hc := ht.cell gTab i (by simpa [kInts] using hi)
  rw [hc]
  congr 1
  unfold V32
  congr 1
  simp only [← kInts_eq, at32]
  simp [show i < kTab.length from hi]
theorem laidMet_tail8 {P : Program} {W : World} {x : String × DataW Unit} {rest : List (String × DataW Unit)} (h : laidMet P (x :: rest) W) : laidMet P rest W := by
  obtain ⟨ps, ⟨g, t, cs, fuel, p, q, h1, h2, h3, h4, h5, h6⟩, hn, hc⟩ := h
  subst h6
  exact ⟨q, h5, (List.nodup_append.1 hn).2.1, fun b off hb => hc b off (List.mem_append.2 (.inr hb))⟩
def putCells8 (cs : Array Value) : Obj → Obj
  | .cells _ t frozen => .cells cs t frozen
  | o => o
def cntCells : Array Value := (cInts.map fun z => Value.int .i64 z).toArray
noncomputable def laidWorld8 (os : Os) : World :=
  { World.holding Tryd.prog os ⟨#[], #[], []⟩ with heap := ((World.holding Tryd.prog os ⟨#[], #[], []⟩).heap.modify 1 (putCells8 tabCells)).modify 0 (putCells8 cntCells) }
set_option maxRecDepth 100000 in
/-- a deed that came in -/
theorem open_deed {H : Type} {enc : TypeId × Value → H} {W : World} {base : Nat} {sp : Nat → Bool} {held : Bool} {r : Reach} {b0 : Nat} {v : Value} {d : DataW H} {ps : List MemPlace}
    (hv : Value.okWide Tryd.prog W r b0 29 v) (hd : DataW.Trod enc Tryd.prog W base sp held 29 v d ps) : ∃ D : Deed, D.Is ∧ v = deedV D := by
  obtain ⟨cs, m, rfl, hn, hf⟩ := open_struct fields_Deed cellsDeed listed_Deed hv hd
  obtain ⟨y0, t0⟩ := hf 0 _ _ _ rfl
  obtain ⟨y1, t1⟩ := hf 1 _ _ _ rfl
  obtain ⟨y2, t2⟩ := hf 2 _ _ _ rfl
  obtain ⟨y3, t3⟩ := hf 3 _ _ _ rfl
  obtain ⟨y4, t4⟩ := hf 4 _ _ _ rfl
  obtain ⟨z, c0, -, -⟩ := DataW.trod_int Tryd.underlying3 t0
  obtain ⟨n, c1⟩ := trod_text Tryd.underlying9 t1
  obtain ⟨x, c2⟩ := trod_text Tryd.underlying9 t2
  obtain ⟨s, c3⟩ := trod_text Tryd.underlying9 t3
  obtain ⟨c, hc, c4⟩ := trod_bytes Tryd.underlying27 Tryd.underlying5 cellsByteL cellsShortL t4
  rw [cellsIntL] at c0
  rw [cellsStrL] at c1 c2 c3
  rw [cellsShortL] at c4
  refine ⟨⟨z, n, x, s, c⟩, hc, ?_⟩
  unfold deedV dcells dtab
  congr 1
  apply Array.toList_inj.1
  rw [list_at9 hc]
  have hl : cs.toList.length = 24 := by simpa using hn
  rcases hcs : cs.toList with _ | ⟨v0, _ | ⟨v1, _ | ⟨v2, _ | ⟨v3, rest⟩⟩⟩⟩
  · rw [hcs] at hl; simp at hl
  · rw [hcs] at hl; simp at hl
  · rw [hcs] at hl; simp at hl
  · rw [hcs] at hl; simp at hl
  · rw [hcs] at c0 c1 c2 c3 c4 hl
    simp at c0 c1 c2 c3 c4 hl
    rw [List.take_of_length_le (by omega)] at c4
    rw [c0, c1, c2, c3, c4]
end Go.Proofs.YtnaclalbeocpkaaDoor
