/-
  Layer 10, plain: transactions as bytes, and how they are read: one undoes the other; cut off anywhere they are too short.
-/
import Derived.Test.YtdeggdmoijfhdaaDoorCoPlain
namespace Go.Proofs.YtdeggdmoijfhdaaDoor

/-- f reads x out of these bytes, says 61 where some are missing, and leaves a spoiled reader as it is -/
structure Good {α : Type} (f : Scn → α × Scn) (l : List UInt8) (x : α) : Prop where
  back : ∀ r, f ⟨l ++ r, 0⟩ = (x, ⟨r, 0⟩)
  cut : ∀ k, k < l.length → (f ⟨l.take k, 0⟩).2.err = 61
  bad : ∀ s : Scn, s.err ≠ 0 → (f s).2 = s
/-- one behind the other -/
def thenS {α β : Type} (f : Scn → α × Scn) (g : Scn → β × Scn) (s : Scn) : (α × β) × Scn := (((f s).1, (g (f s).2).1), (g (f s).2).2)
theorem Good.then {α β : Type} {f : Scn → α × Scn} {g : Scn → β × Scn} {l m : List UInt8} {x : α} {y : β} (hf : Good f l x) (hg : Good g m y) : Good (thenS f g) (l ++ m) (x, y) := by
  refine ⟨fun r => ?_, fun k hk => ?_, fun s hs => ?_⟩
  · unfold thenS
    rw [List.append_assoc, hf.back]; dsimp only; rw [hg.back]
  · unfold thenS
    dsimp only
    by_cases h : k < l.length
    · rw [take_under _ _ _ (Nat.le_of_lt h)]
      have h1 := hf.cut k h
      rw [hg.bad _ (by rw [h1]; decide)]; exact h1
    · rw [List.length_append] at hk
      rw [take_over _ _ _ (by omega), hf.back]
      exact hg.cut _ (by omega)
  · unfold thenS
    dsimp only
    rw [hf.bad s hs, hg.bad s hs]
/-- one behind the other, which may hang on what was read -/
def bindS {α β : Type} (f : Scn → α × Scn) (g : α → Scn → β × Scn) (s : Scn) : β × Scn := g (f s).1 (f s).2
theorem bind_bad {α β : Type} {f : Scn → α × Scn} {g : α → Scn → β × Scn} (hf : ∀ s : Scn, s.err ≠ 0 → (f s).2 = s) (hg : ∀ a (s : Scn), s.err ≠ 0 → (g a s).2 = s) (s : Scn) (hs : s.err ≠ 0) : (bindS f g s).2 = s := by
  unfold bindS
  rw [hf s hs]; exact hg _ s hs
theorem Good.bind {α β : Type} {f : Scn → α × Scn} {g : α → Scn → β × Scn} {l m : List UInt8} {x : α} {y : β} (hf : Good f l x) (hb : ∀ a (s : Scn), s.err ≠ 0 → (g a s).2 = s) (hg : Good (g x) m y) : Good (bindS f g) (l ++ m) y := by
  refine ⟨fun r => ?_, fun k hk => ?_, bind_bad hf.bad hb⟩
  · unfold bindS
    rw [List.append_assoc, hf.back]; exact hg.back r
  · unfold bindS
    by_cases h : k < l.length
    · rw [take_under _ _ _ (Nat.le_of_lt h)]
      have h1 := hf.cut k h
      rw [hb _ _ (by rw [h1]; decide)]; exact h1
    · rw [List.length_append] at hk
      rw [take_over _ _ _ (by omega), hf.back]
      exact hg.cut _ (by omega)
/-- as another value -/
theorem Good.map {α β : Type} {f : Scn → α × Scn} {l : List UInt8} {x : α} (hf : Good f l x) (h : α → β) : Good (fun s => (h (f s).1, (f s).2)) l (h x) :=
  ⟨fun r => by rw [hf.back], fun k hk => hf.cut k hk, fun s hs => hf.bad s hs⟩
theorem Good.of {α : Type} {f g : Scn → α × Scn} {l : List UInt8} {x : α} (hf : Good f l x) (h : ∀ s, g s = f s) : Good g l x := by
  have e : g = f := funext h
  rw [e]; exact hf
theorem good_fixed {n k : Nat} (hk : k ≤ 8) (hn : n < 256 ^ k) : Good (fun s => fixedS s (k : Int)) (fixedL n k) n :=
  ⟨fun r => by have := fixed_back n k hk r; rw [Nat.mod_eq_of_lt hn] at this; exact this, fun j hj => fixed_short hk (by rw [fixedL_len] at hj; exact hj), fun s hs => by rw [fixed_bad hs]⟩
theorem good_count {n most : Nat} (hn : n < 18446744073709551616) (hm : n ≤ most) : Good (fun s => countS s most) (countL n) n :=
  ⟨fun r => count_back hn hm r, fun _ hj => count_short hn hj, fun s hs => by rw [count_bad hs]⟩
theorem good_text {x : List UInt8} {most : Nat} (hx : x.length ≤ most) (hm : most < 18446744073709551616) : Good (fun s => textS s (most : Int)) (textL x) x :=
  ⟨fun r => text_back hx (by omega) r, fun _ hj => text_short hx (by omega) hj, fun s hs => by rw [text_bad hs]⟩
theorem good_raw {x : List UInt8} {n : Nat} (hx : x.length = n) : Good (fun s => rawS s (n : Int)) x x := by
  subst hx
  refine ⟨fun r => raw_back x r, fun k hk => ?_, fun s hs => by rw [raw_bad hs]⟩
  unfold rawS
  rw [if_neg (by simp; omega), if_pos (by rw [List.length_take]; omega)]
theorem good_ref {l : List UInt8} {n : Nat} (hl : l.length = 32) (hn : n < 4294967296) : Good refS (refL l n) (l, n) := by
  have h1 := good_raw (x := l) (n := 32) hl
  have h2 := good_fixed (n := n) (k := 4) (by decide) (by have e : (256 : Nat) ^ 4 = 4294967296 := by decide
                                                          omega)
  have h := h1.then h2
  refine ⟨fun r => ?_, fun k hk => ?_, fun s hs => ?_⟩
  · exact ref_back hl hn r
  · have hc := h.cut k hk
    unfold thenS at hc
    unfold refS
    rw [if_pos (by show (fixedS (rawS _ 32).2 4).2.err ≠ 0; exact fun e => by rw [show (fixedS (rawS ⟨(refL l n).take k, 0⟩ 32).2 4).2.err = 61 from hc] at e; cases e)]
    exact hc
  · unfold refS
    rw [raw_bad hs]; dsimp only; rw [fixed_bad hs, if_pos hs]
theorem good_out {z : Int} {l : List UInt8} (h1 : -9223372036854775808 ≤ z) (h2 : z < 9223372036854775808) (hl : l.length ≤ 2000) : Good outS (outL z l) (z, l) := by
  have e8 : (256 : Nat) ^ 8 = 18446744073709551616 := by decide
  have hv := good_fixed (n := u64N z) (k := 8) (by decide) (by have := u64_lt z; omega)
  have ht := good_text (x := l) (most := 2000) hl (by decide)
  have h := hv.then ht
  refine ⟨fun r => out_back h1 h2 hl r, fun k hk => ?_, fun s hs => ?_⟩
  · have hc := h.cut k hk
    unfold thenS at hc
    have hc2 : (textS (fixedS ⟨(outL z l).take k, 0⟩ 8).2 2000).2.err = 61 := hc
    unfold outS
    rw [if_pos (by rw [hc2]; decide)]
    exact hc2
  · unfold outS
    rw [fixed_bad hs]; dsimp only; rw [text_bad hs, if_pos hs]
/-- so many, one behind the other -/
def listS {α : Type} (f : Scn → α × Scn) : Nat → Scn → List α × Scn
  | 0, s => ([], s)
  | n + 1, s => ((f s).1 :: (listS f n (f s).2).1, (listS f n (f s).2).2)
theorem listS_bad {α : Type} {f : Scn → α × Scn} (hb : ∀ s : Scn, s.err ≠ 0 → (f s).2 = s) : ∀ (n : Nat) (s : Scn), s.err ≠ 0 → (listS f n s).2 = s
  | 0, _, _ => rfl
  | n + 1, s, hs => by
    show (listS f n (f s).2).2 = s
    rw [hb s hs]; exact listS_bad hb n s hs
theorem good_list {α : Type} {f : Scn → α × Scn} {e : α → List UInt8} (hb : ∀ s : Scn, s.err ≠ 0 → (f s).2 = s) : ∀ (L : List α), (∀ x ∈ L, Good f (e x) x) → Good (listS f L.length) (L.map e).flatten L
  | [], _ => ⟨fun r => rfl, fun k hk => by simp at hk, fun _ _ => rfl⟩
  | x :: L, h => by
    have h1 := h x (by simp)
    have h2 := good_list hb L fun y hy => h y (by simp [hy])
    have h3 := (h1.then h2).map fun p : α × List α => p.1 :: p.2
    have ee : ((x :: L).map e).flatten = e x ++ (L.map e).flatten := by simp
    rw [ee]
    exact h3
structure InP where
  id : List UInt8
  at' : Nat
  unlock : List UInt8
  order : Nat
structure TxP where
  version : Nat
  ins : List InP
  outs : List (Int × List UInt8)
  end' : Nat
def noTx : TxP := ⟨0, [], [], 0⟩
def InP.Is (i : InP) : Prop := i.id.length = 32 ∧ i.at' < 4294967296 ∧ i.order < 4294967296
def outOk (o : Int × List UInt8) : Prop := -9223372036854775808 ≤ o.1 ∧ o.1 < 9223372036854775808
def TxP.Is (t : TxP) : Prop := t.version < 4294967296 ∧ t.end' < 4294967296 ∧ (∀ i ∈ t.ins, i.Is) ∧ ∀ o ∈ t.outs, outOk o
/-- one that is read again as it was -/
def TxP.Fits (t : TxP) : Prop := t.ins.length ≤ 200 ∧ t.outs.length ≤ 200 ∧ (∀ i ∈ t.ins, i.unlock.length ≤ 2000) ∧ ∀ o ∈ t.outs, o.2.length ≤ 2000
def inL (i : InP) : List UInt8 := refL i.id i.at' ++ (textL i.unlock ++ fixedL i.order 4)
def outPL (o : Int × List UInt8) : List UInt8 := outL o.1 o.2
def txL (t : TxP) : List UInt8 := fixedL t.version 4 ++ (countL t.ins.length ++ ((t.ins.map inL).flatten ++ (countL t.outs.length ++ ((t.outs.map outPL).flatten ++ fixedL t.end' 4))))
def inS (s : Scn) : InP × Scn :=
  (⟨(refS s).1.1, (refS s).1.2, (textS (refS s).2 2000).1, (fixedS (textS (refS s).2 2000).2 4).1⟩, (fixedS (textS (refS s).2 2000).2 4).2)
/-- what is read, whatever became of the reader -/
def rawTx : Scn → TxP × Scn :=
  bindS (fun s => fixedS s 4) fun v => bindS (fun s => countS s 200) fun n => bindS (listS inS n) fun i => bindS (fun s => countS s 200) fun m => bindS (listS outS m) fun o s => (⟨v, i, o, (fixedS s 4).1⟩, (fixedS s 4).2)
def readS (s : Scn) : TxP × Scn := if (rawTx s).2.err ≠ 0 then (noTx, (rawTx s).2) else rawTx s
def parseT (b : List UInt8) : TxP × Nat :=
  if (readS ⟨b, 0⟩).2.err ≠ 0 then (noTx, (readS ⟨b, 0⟩).2.err) else if 0 < (readS ⟨b, 0⟩).2.rest.length then (noTx, 62) else ((readS ⟨b, 0⟩).1, 0)
theorem e4 : (256 : Nat) ^ 4 = 4294967296 := by decide
theorem in_bad (s : Scn) (hs : s.err ≠ 0) : (inS s).2 = s := by
  have h : (refS s).2 = s := by unfold refS; rw [raw_bad hs]; dsimp only; rw [fixed_bad hs, if_pos hs]
  unfold inS
  dsimp only
  rw [h, text_bad hs]; dsimp only; rw [fixed_bad hs]
theorem out_bad (s : Scn) (hs : s.err ≠ 0) : (outS s).2 = s := by
  unfold outS
  rw [fixed_bad hs]; dsimp only; rw [text_bad hs, if_pos hs]
theorem good_in {i : InP} (h : i.Is) (hu : i.unlock.length ≤ 2000) : Good inS (inL i) i := by
  have h1 := good_ref h.1 h.2.1
  have h2 := good_text (x := i.unlock) (most := 2000) hu (by decide)
  have h3 := good_fixed (n := i.order) (k := 4) (by decide) (by rw [e4]; exact h.2.2)
  have hh := (h1.then (h2.then h3)).map fun p : (List UInt8 × Nat) × (List UInt8 × Nat) => (⟨p.1.1, p.1.2, p.2.1, p.2.2⟩ : InP)
  exact hh
theorem last_bad (v : Nat) (i : List InP) (o : List (Int × List UInt8)) (s : Scn) (hs : s.err ≠ 0) : ((fun s => ((⟨v, i, o, (fixedS s 4).1⟩ : TxP), (fixedS s 4).2)) s).2 = s := by dsimp only; rw [fixed_bad hs]
theorem cnt_bad (s : Scn) (hs : s.err ≠ 0) : (countS s 200).2 = s := by rw [count_bad hs]
theorem good_raw_tx {t : TxP} (h : t.Is) (hf : t.Fits) : Good rawTx (txL t) t := by
  have h1 := good_fixed (n := t.version) (k := 4) (by decide) (by rw [e4]; exact h.1)
  have h6 := good_fixed (n := t.end') (k := 4) (by decide) (by rw [e4]; exact h.2.1)
  have h2 := good_count (n := t.ins.length) (most := 200) (by have := hf.1; omega) hf.1
  have h4 := good_count (n := t.outs.length) (most := 200) (by have := hf.2.1; omega) hf.2.1
  have h3 : Good (listS inS t.ins.length) (t.ins.map inL).flatten t.ins := good_list in_bad t.ins fun i hi => good_in (h.2.2.1 i hi) (hf.2.2.1 i hi)
  have h5 : Good (listS outS t.outs.length) (t.outs.map outPL).flatten t.outs := good_list out_bad t.outs fun o ho => good_out (h.2.2.2 o ho).1 (h.2.2.2 o ho).2 (hf.2.2.2 o ho)
  have b5 : ∀ v i m (s : Scn), s.err ≠ 0 → (bindS (listS outS m) (fun o s => ((⟨v, i, o, (fixedS s 4).1⟩ : TxP), (fixedS s 4).2)) s).2 = s := fun v i m s hs => bind_bad (listS_bad out_bad m) (last_bad v i) s hs
  have b4 : ∀ v i (s : Scn), s.err ≠ 0 → (bindS (fun s => countS s 200) (fun m => bindS (listS outS m) fun o s => ((⟨v, i, o, (fixedS s 4).1⟩ : TxP), (fixedS s 4).2)) s).2 = s := fun v i s hs => bind_bad cnt_bad (b5 v i) s hs
  have b3 : ∀ v n (s : Scn), s.err ≠ 0 → (bindS (listS inS n) (fun i => bindS (fun s => countS s 200) fun m => bindS (listS outS m) fun o s => ((⟨v, i, o, (fixedS s 4).1⟩ : TxP), (fixedS s 4).2)) s).2 = s := fun v n s hs => bind_bad (listS_bad in_bad n) (b4 v) s hs
  have b2 : ∀ v (s : Scn), s.err ≠ 0 → (bindS (fun s => countS s 200) (fun n => bindS (listS inS n) fun i => bindS (fun s => countS s 200) fun m => bindS (listS outS m) fun o s => ((⟨v, i, o, (fixedS s 4).1⟩ : TxP), (fixedS s 4).2)) s).2 = s := fun v s hs => bind_bad cnt_bad (b3 v) s hs
  exact h1.bind b2 (h2.bind (b3 t.version) (h3.bind (b4 t.version) (h4.bind (b5 t.version t.ins) (h5.bind (last_bad t.version t.ins) (h6.map fun u => (⟨t.version, t.ins, t.outs, u⟩ : TxP))))))
theorem tx_cut {t : TxP} (h : t.Is) (hf : t.Fits) {k : Nat} (hk : k < (txL t).length) : (readS ⟨(txL t).take k, 0⟩).2.err = 61 ∧ (readS ⟨(txL t).take k, 0⟩).1 = noTx := by
  have hc := (good_raw_tx h hf).cut k hk
  unfold readS
  rw [if_pos (by rw [hc]; decide)]
  exact ⟨hc, rfl⟩
theorem tx_back {t : TxP} (h : t.Is) (hf : t.Fits) (r : List UInt8) : readS ⟨txL t ++ r, 0⟩ = (t, ⟨r, 0⟩) := by
  unfold readS
  rw [(good_raw_tx h hf).back, if_neg (by simp)]
theorem tx_inj {t u : TxP} (h : t.Is) (hf : t.Fits) (k : u.Is) (kf : u.Fits) (e : txL t = txL u) : t = u := by
  have h1 := tx_back h hf []
  have h2 := tx_back k kf []
  rw [e, h2] at h1
  exact (Prod.mk.inj h1).1.symm
end Go.Proofs.YtdeggdmoijfhdaaDoor
