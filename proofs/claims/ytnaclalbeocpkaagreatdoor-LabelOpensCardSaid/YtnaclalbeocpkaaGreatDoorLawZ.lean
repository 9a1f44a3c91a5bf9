/-
  Joined: LawFrameQ, LawFrameZ.
-/
import Derived.Test.YtnaclalbeocpkaaGreatDoorCards
import Derived.Test.YtnaclalbeocpkaaGreatDoorTie
import Derived.Test.YtnaclalbeocpkaaGreatDoorLawOpen
import Derived.ProofKit
import Derived.Lib.LaidTab
import Derived.WideKeyArr2
import Derived.Test.YtnaclalbeocpkaaGreatDoorLawFrame8
/-
  A world for the witness of layer 7's cards: the five variables as their texts lay them.
-/
namespace Go.Proofs.YtnaclalbeocpkaaGreatDoor
open Go.ChangeShapes Go.WideShapes Go.ChangeAt Go.RowKit Go

def putCellsQ (cs : Array Value) : Obj → Obj
  | .cells _ t frozen => .cells cs t frozen
  | o => o
def u64Q (l : List Int) : List Value := l.map fun z => Value.int .u64 z
def keysQ : Array Value := (([1116352408, 1899447441, 3049323471, 3921009573, 961987163, 1508970993, 2453635748, 2870763221, 3624381080, 310598401, 607225278, 1426881987, 1925078388, 2162078206, 2614888103, 3248222580, 3835390401, 4022224774, 264347078, 604807628, 770255983, 1249150122, 1555081692, 1996064986, 2554220882, 2821834349, 2952996808, 3210313671, 3336571891, 3584528711, 113926993, 338241895, 666307205, 773529912, 1294757372, 1396182291, 1695183700, 1986661051, 2177026350, 2456956037, 2730485921, 2820302411, 3259730800, 3345764771, 3516065817, 3600352804, 4094571909, 275423344, 430227734, 506948616, 659060556, 883997877, 958139571, 1322822218, 1537002063, 1747873779, 1955562222, 2024104815, 2227730452, 2361852424, 2428436474, 2756734187, 3204031479, 3329325298] : List Int).map fun z => Value.int .u32 z).toArray
def pQ : Array Value := (u64Q [18446744069414583343, 18446744073709551615, 18446744073709551615, 18446744073709551615]).toArray
def nQ : Array Value := (u64Q [13822214165235122497, 13451932020343611451, 18446744073709551614, 18446744073709551615]).toArray
def noneQ : Array Value := (u64Q [0, 0, 0, 0, 0, 0, 0, 0] ++ [Value.bool true]).toArray
def baseQ : Array Value := (u64Q [6481385041966929816, 188021827762530521, 6170039885052185351, 8772561819708210092, 11261198710074299576, 18237243440184513561, 6747795201694173352, 5204712524664259685] ++ [Value.bool false]).toArray
noncomputable def laidWorldQ (os : Os) : World :=
  { World.holding Tryz.prog os ⟨#[], #[], []⟩ with heap := (((((World.holding Tryz.prog os ⟨#[], #[], []⟩).heap.modify 5 (putCellsQ keysQ)).modify 2 (putCellsQ pQ)).modify 4 (putCellsQ nQ)).modify 1 (putCellsQ noneQ)).modify 3 (putCellsQ baseQ) }
end Go.Proofs.YtnaclalbeocpkaaGreatDoor

/-
  A world for the witness of LabelOpens' card: the six variables as their texts lay them.
-/
namespace Go.Proofs.YtnaclalbeocpkaaGreatDoor
open Go.ChangeShapes Go.WideShapes Go.ChangeAt Go.RowKit Go

noncomputable def laidWorldZ (os : Os) : World :=
  { World.holding Tryz.prog os ⟨#[], #[], []⟩ with heap := ((((((World.holding Tryz.prog os ⟨#[], #[], []⟩).heap.modify 5 (putCellsQ keysQ)).modify 2 (putCellsQ pQ)).modify 4 (putCellsQ nQ)).modify 1 (putCellsQ noneQ)).modify 3 (putCellsQ baseQ)).modify 0 (putCellsQ cntCells) }
theorem sixth {W : World} {x0 x1 x2 x3 x4 : String × DataW Unit} {rest : List (String × DataW Unit)} (h : laidMet Tryz.prog (x0 :: x1 :: x2 :: x3 :: x4 :: rest) W) : laidMet Tryz.prog rest W :=
  laidMet_tail8 (laidMet_tail8 (laidMet_tail8 (laidMet_tail8 (laidMet_tail8 h))))
end Go.Proofs.YtnaclalbeocpkaaGreatDoor
