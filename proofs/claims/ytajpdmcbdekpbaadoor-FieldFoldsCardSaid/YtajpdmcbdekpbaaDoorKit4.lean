/-
  My kit, fourth part: the plan of a drawn region in an order of one's own; a call as one step; slices and texts in such a plan.
-/
import Derived.Test.YtajpdmcbdekpbaaDoorKitApp
namespace Go.Proofs.YtajpdmcbdekpbaaDoor
open Go Go.RowKit

section
variable {P : Program} {ops : Array Oper} {md : Region.Mode} {S : World → Prop} {Q : Exit → Act → World → Prop}

def mixHeadP (md : Region.Mode) (ops : Array Oper) (n g : Nat) : List (Nat × Bool) → Array Bool → Bool
  | [], listed => Region.seqB md ops g n listed
  | (k, true) :: bs, listed => decide (k < n) && (Region.ready md ops listed).contains k && Region.free md ops listed k && mixHeadP md ops n g bs (listed.setIfInBounds k true)
  | (k, false) :: bs, listed => decide (k < n) && decide (Region.ready md ops listed = [k]) && mixHeadP md ops n g bs (listed.setIfInBounds k true)
def mixBP (md : Region.Mode) (ops : Array Oper) (plan : List (Nat × Bool)) : Bool :=
  Region.noSelect ops && decide (plan.length < ops.size) && Region.sinkB md ops plan.length && Region.chainB md ops plan.length && mixHeadP md ops plan.length (ops.size - plan.length) plan (Array.replicate ops.size false)

theorem headMix_of_wpMixP {n g : Nat} {Lq : Act → World → Prop} (hsel : Region.noSelect ops = true) (hs : Region.sinkB md ops n = true) (hc : Region.chainB md ops n = true) (hn : n < ops.size) :
    ∀ (plan : List (Nat × Bool)) (l : List Oper) (listed : Array Bool) (a : Act) (w : World), plan.map (fun p => ops[p.1]?) = l.map some → HeadInv md ops n listed →
    mixHeadP md ops n g plan listed = true → wpMix P ops Q S Lq (plan.map (·.2)) l a w →
    headMix P md ops (NoPanic Q) S n (fun listed' a' w' => Region.seqB md ops g n listed' = true ∧ Lq a' w') plan.length listed a w
  | [], [], listed, a, w, _, _, hB, h => ⟨by simpa [mixHeadP] using hB, h⟩
  | [], _ :: _, _, _, _, hl, _, _, _ => by simp at hl
  | _ :: _, [], _, _, _, hl, _, _, _ => by simp at hl
  | (k, true) :: bs, o :: l, listed, a, w, hl, inv, hB, h => by
    simp only [List.map_cons, List.cons.injEq] at hl
    obtain ⟨h0, hl'⟩ := hl
    simp only [mixHeadP, Bool.and_eq_true, decide_eq_true_eq] at hB
    obtain ⟨⟨⟨hkn, hr⟩, hf⟩, hB'⟩ := hB
    have hr' : k ∈ Region.ready md ops listed := by simpa using hr
    obtain ⟨hS, v, hy, hK⟩ := h
    exact headMix_take h0 (Region.noSelect_spec hsel) (fun _ _ _ hx => hx) hs hc hn hkn (fun _ _ _ hL => seqB_ready hL.1) bs.length listed a w inv (Region.free_spec h0 hf) hr' hy hS
      (headMix_of_wpMixP hsel hs hc hn bs l _ _ _ hl' (inv.set hr' hkn) hB' hK)
  | (k, false) :: bs, o :: l, listed, a, w, hl, inv, hB, h => by
    simp only [List.map_cons, List.cons.injEq] at hl
    obtain ⟨h0, hl'⟩ := hl
    simp only [mixHeadP, Bool.and_eq_true, decide_eq_true_eq] at hB
    obtain ⟨⟨hkn, hr⟩, hB'⟩ := hB
    have hr' : k ∈ Region.ready md ops listed := by rw [hr]; simp
    refine ⟨by rw [hr]; simp, fun i hi => ?_⟩
    rw [hr] at hi
    obtain rfl : i = k := by simpa using hi
    refine ⟨hkn, wpOp_mono (fun a' w' h' => ⟨h'.1, ?_⟩) (wpOp_of_list h0 h)⟩
    exact headMix_of_wpMixP hsel hs hc hn bs l _ _ _ hl' (inv.set hr' hkn) hB' h'.2

/-- A REGION THAT DRAWS ITS ORDER, by a plan of its head in an order of one's own; the others follow in one forced order. -/
theorem region_mixP {id : Nat} {a : Act} {w : World} {l : List Oper} (plan : List (Nat × Bool)) (S : World → Prop) (hm : P.follows .mixedOrders = true) (hB : mixBP .any l.toArray plan = true) (hlp : plan.map (fun p => l.toArray[p.1]?) = (plan.filterMap fun p => l[p.1]?).map some)
    (h : ∀ w1, Below w.heap.size w w1 → w1.heap.size = w.heap.size → wpMix P l.toArray Q S (fun a' w' => wpList P l.toArray Q (l.drop plan.length) a' w') (plan.map (·.2)) (plan.filterMap fun p => l[p.1]?) a w1) : (Code.region id l.toArray true).wp P Q a w := by
  have h := h { w with drawn := w.drawn + 1 } ⟨rfl, rfl, rfl, Nat.le_refl _, fun _ _ => rfl⟩ rfl
  simp only [mixBP, Bool.and_eq_true, decide_eq_true_eq] at hB
  obtain ⟨⟨⟨⟨hsel, hn⟩, hs⟩, hc⟩, hlex⟩ := hB
  have hn' : plan.length < l.length := by simpa using hn
  have hdl : (l.drop plan.length).length = l.toArray.size - plan.length := by simp
  have inv0 : HeadInv .any l.toArray plan.length (Array.replicate l.toArray.size false) :=
    ⟨by simp, fun j oj _ hl => (by rw [getD_replicate_false] at hl; cases hl), fun t _ ht => getD_in (by simpa using ht) (getD_replicate_false _ _)⟩
  have H := headMix_of_wpMixP (md := .any) (g := l.toArray.size - plan.length) hsel hs hc hn plan _ _ a _ hlp inv0 hlex h
  refine wp_region_any hm ?_
  have := any_of_headMix (g := l.toArray.size - plan.length) (fun listed a' w' hL => by
    have := wpAny_of_seq (md := .any) (Q' := Q) (l.drop plan.length) plan.length listed a' w' (fun j => by simp [List.getElem?_drop]) (by rw [hdl]; exact hL.1) hL.2
    rwa [hdl] at this) _ _ _ _ H
  rw [show plan.length + (l.toArray.size - plan.length) = l.toArray.size by omega] at this
  exact this
end

/-- a function of the program's own, with a text -/
def bodied (P : Program) (f : FuncId) : Bool := match P.funcs[f]? with
  | some fn => !(fn.name == "runtime.NumGoroutine") && !fn.body.isNone
  | none => false
theorem run_callFunc_bodied {P : Program} {f : FuncId} (h : bodied P f = true) (args : Array Value) (w : World) : (callFunc f args).run P w = .ok (.enter f args) w := by
  unfold bodied at h
  split at h
  · rename_i fn hf
    simp only [Bool.and_eq_true, Bool.not_eq_true'] at h
    have h1 : fn.name ≠ "runtime.NumGoroutine" := by simpa using h.1
    have h2 : fn.body ≠ none := fun e => by rw [e] at h; simp at h
    simp [callFunc, program, Sem.run, hf]
    rw [if_neg h1, if_neg h2]
  · cases h

section
variable {P : Program} {ops : Array Oper} {Q : Exit → Act → World → Prop} {rest : List Oper} {o : Oper} {a : Act} {w : World}
theorem kCall1 (f : FuncId) (T : TypeId) (x : Operand) (u : Value) (ho : o.op = .call { callee := .value (.func f), args := #[x], argTypes := #[T] }) (hg : Region.wanted o (yielded ops a.tmps) = true) (hf : bodied P f = true) (hx : a.eval x = u)
    (hc : Calls P f #[u] w fun e w' => ∃ v, e = .returned v ∧ wpList P ops Q rest (a.put o.dst v) w') : wpList P ops Q (o :: rest) a w := by
  refine BigFrame.wpList_want hg fun K hK => ?_
  have hrun : (execOp a.eval o).run P w = .ok (.enter f #[u]) w := by
    have hff : a.eval (.func f) = .func (.func f) #[] #[] := rfl
    unfold execOp
    simp only [ho, resolve, List.map_toArray, List.map_cons, List.map_nil, hx, hff, Deferred.ofValue, Sem.run_bind, Sem.run_pure, Result.andThen_ok, invoke]
    simpa using run_callFunc_bodied hf #[u] w
  unfold Oper.wp
  rw [hrun, Oper.upon_enter]
  exact hc.mono fun e w' ⟨v, he, h⟩ => by subst he; exact hK _ _ h
end

/-! ### what a part of a slice is -/
/-- s[n:] and s[:n] of a slice -/
def fromV (v : Value) (n : Nat) : Value := match v with
  | .slice ao len c => .slice (if c = n then ao else ao.map (·.add n)) (len - n) (c - n)
  | v => v
def toV (v : Value) (n : Nat) : Value := match v with
  | .slice ao _ c => .slice ao n c
  | v => v
theorem addr_add (b : Addr) (n j : Nat) : (b.add n).add j = b.add (n + j) := by
  obtain ⟨bb, bo, bs⟩ := b
  unfold Addr.add
  by_cases hn0 : n = 0 <;> by_cases hj0 : j = 0 <;> simp [hn0, hj0, Nat.add_assoc]
theorem isVals_from {w : World} {v : Value} {l : List Value} {n : Nat} (hv : IsVals w v l) (hn : n ≤ l.length) : IsVals w (fromV v n) (l.drop n) := by
  obtain ⟨ao, c, rfl, hc, hnone, hj⟩ := hv
  refine ⟨if c = n then ao else ao.map (·.add n), c - n, by unfold fromV; rw [List.length_drop], by rw [List.length_drop]; omega, fun hno => ?_, fun j u hu => ?_⟩
  · by_cases e : c = n
    · omega
    · rw [if_neg e] at hno
      have : ao = none := by cases ao <;> simp_all
      have := hnone this; omega
  · rw [List.getElem?_drop] at hu
    obtain ⟨b, rfl, hcell⟩ := hj _ u hu
    have hlt := (List.getElem?_eq_some_iff.1 hu).1
    rw [if_neg (by omega)]
    exact ⟨b.add n, rfl, by rw [addr_add]; exact hcell⟩
theorem isVals_to {w : World} {v : Value} {l : List Value} {n : Nat} (hv : IsVals w v l) (hn : n ≤ l.length) : IsVals w (toV v n) (l.take n) := by
  obtain ⟨ao, c, rfl, hc, hnone, hj⟩ := hv
  have hl : (l.take n).length = n := by simp; omega
  refine ⟨ao, c, by unfold toV; rw [hl], by omega, hnone, fun j u hu => ?_⟩
  rw [List.getElem?_take] at hu
  split at hu
  · exact hj j u hu
  · cases hu
theorem run_sliceFromV {P : Program} {w : World} {T E : TypeId} {v : Value} {l : List Value} {k : IntKind} {i : Int} {n : Nat} (ht : P.underlying T = some (.slice E)) (hsz : (P.info? E).map (·.size) = some 1) (hv : IsVals w v l) (hi : i = (n : Int)) (hn : n ≤ l.length) :
    (Instr.sliceAt T v (some (.int k i)) none none).run P w = .ok (fromV v n) w := by
  obtain ⟨ao, c, rfl, hc, hnone, hj⟩ := hv
  subst hi
  cases hq : P.info? E with
  | none => simp [hq] at hsz
  | some t =>
    have hs' : t.size = 1 := by simpa [hq] using hsz
    have hb : (Instr.sliceBound (.int k (n : Int)) l.length .sliceB).run P w = .ok n w := by
      have := run_sliceBound (P := P) (w := w) k (n : Int) l.length .sliceB (by omega) (by omega)
      simpa using this
    simp [Instr.sliceAt, run_underlying ht, Instr.slice, Instr.sliceBounds, hb, sizeOf, typeInfo, hq, hs', fromV]
theorem run_sliceToV {P : Program} {w : World} {T E : TypeId} {v : Value} {l : List Value} {k : IntKind} {i : Int} {n : Nat} (ht : P.underlying T = some (.slice E)) (hsz : (P.info? E).map (·.size) = some 1) (hv : IsVals w v l) (hi : i = (n : Int)) (hn : n ≤ l.length) :
    (Instr.sliceAt T v none (some (.int k i)) none).run P w = .ok (toV v n) w := by
  obtain ⟨ao, c, rfl, hc, hnone, hj⟩ := hv
  subst hi
  cases hq : P.info? E with
  | none => simp [hq] at hsz
  | some t =>
    have hb : ∀ code, (Instr.sliceBound (.int k (n : Int)) c code).run P w = .ok n w := fun code => by
      have := run_sliceBound (P := P) (w := w) k (n : Int) c code (by omega) (by omega)
      simpa using this
    simp [Instr.sliceAt, run_underlying ht, Instr.slice, Instr.sliceBounds, hb, sizeOf, typeInfo, hq, toV]
    cases ao <;> simp [Addr.add]
theorem run_sliceArrAll {P : Program} {w : World} {T E : TypeId} {len g off : Nat} (ht : P.underlying T = some (.array len E)) (hsz : (P.info? E).map (·.size) = some 1) :
    (Instr.sliceAt T (.pointer (some ⟨g, off, none⟩)) none none none).run P w = .ok (.slice (some ⟨g, off, none⟩) len len) w := by
  cases hq : P.info? E with
  | none => simp [hq] at hsz
  | some t => simp [Instr.sliceAt, run_underlying ht, Instr.sureAddr, Instr.sliceBounds, sizeOf, typeInfo, hq, Addr.add]
theorem run_sliceArrTo {P : Program} {w : World} {T E : TypeId} {len g off n : Nat} {k : IntKind} {i : Int} (ht : P.underlying T = some (.array len E)) (hsz : (P.info? E).map (·.size) = some 1) (hi : i = (n : Int)) (hn : n ≤ len) :
    (Instr.sliceAt T (.pointer (some ⟨g, off, none⟩)) none (some (.int k i)) none).run P w = .ok (.slice (some ⟨g, off, none⟩) n len) w := by
  subst hi
  cases hq : P.info? E with
  | none => simp [hq] at hsz
  | some t =>
    have hb : (Instr.sliceBound (.int k (n : Int)) len .sliceAlen).run P w = .ok n w := by
      have := run_sliceBound (P := P) (w := w) k (n : Int) len .sliceAlen (by omega) (by omega)
      simpa using this
    simp [Instr.sliceAt, run_underlying ht, Instr.sureAddr, Instr.sliceBounds, hb, sizeOf, typeInfo, hq, Addr.add]

section
variable {P : Program} {ops : Array Oper} {S : World → Prop} {Q : Exit → Act → World → Prop} {L : Act → World → Prop} {bs : List Bool} {o : Oper} {rest : List Oper} {a : Act} {w : World}
theorem mixSliceFrom (T E : TypeId) (x y : Operand) (v : Value) (l : List Value) (k : IntKind) (i : Int) (n : Nat) (hS : S w) (ho : o.op = .slice T x (some y) none none) (hg : Region.wanted o (yielded ops a.tmps) = true) (hx : a.eval x = v) (hy : a.eval y = .int k i) (ht : P.underlying T = some (.slice E)) (hsz : (P.info? E).map (·.size) = some 1) (hv : ∀ w, S w → IsVals w v l) (hi : i = (n : Int)) (hn : n ≤ l.length)
    (h : wpMix P ops Q S L bs rest (a.put o.dst (fromV v n)) w) : wpMix P ops Q S L (true :: bs) (o :: rest) a w :=
  mixQuiet _ hS hg (fun w hw => by unfold execOp; simp only [ho, hx, hy, Option.map_some, Option.map_none, Sem.run_bind, run_sliceFromV ht hsz (hv w hw) hi hn, Result.andThen_ok, Sem.run_pure]) h
theorem mixSliceTo (T E : TypeId) (x y : Operand) (v : Value) (l : List Value) (k : IntKind) (i : Int) (n : Nat) (hS : S w) (ho : o.op = .slice T x none (some y) none) (hg : Region.wanted o (yielded ops a.tmps) = true) (hx : a.eval x = v) (hy : a.eval y = .int k i) (ht : P.underlying T = some (.slice E)) (hsz : (P.info? E).map (·.size) = some 1) (hv : ∀ w, S w → IsVals w v l) (hi : i = (n : Int)) (hn : n ≤ l.length)
    (h : wpMix P ops Q S L bs rest (a.put o.dst (toV v n)) w) : wpMix P ops Q S L (true :: bs) (o :: rest) a w :=
  mixQuiet _ hS hg (fun w hw => by unfold execOp; simp only [ho, hx, hy, Option.map_some, Option.map_none, Sem.run_bind, run_sliceToV ht hsz (hv w hw) hi hn, Result.andThen_ok, Sem.run_pure]) h
theorem mixSliceArrAll (T E : TypeId) (x : Operand) (len g : Nat) (hS : S w) (ho : o.op = .slice T x none none none) (hg : Region.wanted o (yielded ops a.tmps) = true) (hx : a.eval x = .pointer (some ⟨g, 0, none⟩)) (ht : P.underlying T = some (.array len E)) (hsz : (P.info? E).map (·.size) = some 1)
    (h : wpMix P ops Q S L bs rest (a.put o.dst (.slice (some ⟨g, 0, none⟩) len len)) w) : wpMix P ops Q S L (true :: bs) (o :: rest) a w :=
  mixQuiet _ hS hg (fun w _ => by unfold execOp; simp only [ho, hx, Option.map_none, Sem.run_bind, run_sliceArrAll ht hsz, Result.andThen_ok, Sem.run_pure]) h
theorem mixSliceArrTo (T E : TypeId) (x y : Operand) (len g n : Nat) (k : IntKind) (i : Int) (hS : S w) (ho : o.op = .slice T x none (some y) none) (hg : Region.wanted o (yielded ops a.tmps) = true) (hx : a.eval x = .pointer (some ⟨g, 0, none⟩)) (hy : a.eval y = .int k i) (ht : P.underlying T = some (.array len E)) (hsz : (P.info? E).map (·.size) = some 1) (hi : i = (n : Int)) (hn : n ≤ len)
    (h : wpMix P ops Q S L bs rest (a.put o.dst (.slice (some ⟨g, 0, none⟩) n len)) w) : wpMix P ops Q S L (true :: bs) (o :: rest) a w :=
  mixQuiet _ hS hg (fun w _ => by unfold execOp; simp only [ho, hx, hy, Option.map_some, Option.map_none, Sem.run_bind, run_sliceArrTo ht hsz hi hn, Result.andThen_ok, Sem.run_pure]) h
theorem mixToString (src dst E : TypeId) (x : Operand) (v : Value) (l : List UInt8) (hS : S w) (ho : o.op = .convert src dst x) (hg : Region.wanted o (yielded ops a.tmps) = true) (hx : a.eval x = v) (hv : ∀ w, S w → IsVals w v (l.map VB)) (hs : P.underlying src = some (.slice E)) (he : P.underlying E = some (.int .u8)) (hd : P.underlying dst = some .string)
    (h : wpMix P ops Q S L bs rest (a.put o.dst (textV l)) w) : wpMix P ops Q S L (true :: bs) (o :: rest) a w :=
  mixQuiet _ hS hg (fun w hw => by unfold execOp; simp only [ho, hx, Sem.run_bind, run_toString (hv w hw) hs he hd, Result.andThen_ok, Sem.run_pure]) h
theorem mixLoadRow (T U : TypeId) (x : Operand) (g : Nat) (cs : Array Value) (d : TypeDesc) (hS : S w) (ho : o.op = .load T x) (hg : Region.wanted o (yielded ops a.tmps) = true)
    (hx : a.eval x = .pointer (some ⟨g, 0, none⟩)) (hr : ∀ w, S w → Row w g U cs) (hu : P.underlying T = some d) (hd : aggDesc d = true) (hi : (P.info? T).map (·.size) = some cs.size)
    (h : wpMix P ops Q S L bs rest (a.put o.dst (.agg cs)) w) : wpMix P ops Q S L (true :: bs) (o :: rest) a w := by
  refine mixQuiet _ hS hg (fun w hw => ?_) h
  unfold execOp
  have e := run_loadPart (P := P) (T := T) (n := cs.size) (hr w hw) hu hd hi (by omega : 0 + cs.size ≤ cs.size)
  have e2 : cs.extract 0 (0 + cs.size) = cs := by simp
  rw [e2] at e
  simp only [ho, hx, Instr.loadAt, Instr.sureAddr, Sem.run_bind, Sem.run_pure, Result.andThen_ok, e]
theorem mixNeqStr (T T2 : TypeId) (x y : Operand) (l m : List UInt8) (b : Bool) (hS : S w) (ho : o.op = .binOp .neq T x y T2) (hg : Region.wanted o (yielded ops a.tmps) = true) (hx : a.eval x = textV l) (hy : a.eval y = textV m) (hb : (l != m) = b)
    (h : wpMix P ops Q S L bs rest (a.put o.dst (.bool b)) w) : wpMix P ops Q S L (true :: bs) (o :: rest) a w := by
  subst hb
  refine mixQuiet _ hS hg (fun w _ => ?_) h
  unfold execOp
  have hr := run_neqStr (P := P) (w := w) T l m x y
  simp only [ho, hx, hy]
  rw [Sem.run_bind, hr]; rfl
theorem mixEqlArr (T T2 elem : TypeId) (x y : Operand) (len : Nat) (k k' : IntKind) (f g : Nat → Int) (b : Bool) (hS : S w) (ho : o.op = .binOp .eql T x y T2) (hg : Region.wanted o (yielded ops a.tmps) = true) (hx : a.eval x = .agg (tab len fun j => .int k (f j))) (hy : a.eval y = .agg (tab len fun j => .int k (g j)))
    (hu : P.underlying T = some (.array len elem)) (he : P.underlying elem = some (.int k')) (hs : (P.info? elem).map (·.size) = some 1) (hq : P.eqGuardType P.depth T = false) (hb : ((List.range len).all fun j => f j == g j) = b)
    (h : wpMix P ops Q S L bs rest (a.put o.dst (.bool b)) w) : wpMix P ops Q S L (true :: bs) (o :: rest) a w := by
  subst hb
  refine mixQuiet _ hS hg (fun w _ => ?_) h
  unfold execOp
  have hr := run_eqlArr (P := P) (w := w) (k := k) hu he hs hq f g x y
  simp only [ho, hx, hy]
  rw [Sem.run_bind, hr]; rfl
theorem mixNeqArr (T T2 elem : TypeId) (x y : Operand) (len : Nat) (k k' : IntKind) (f g : Nat → Int) (b : Bool) (hS : S w) (ho : o.op = .binOp .neq T x y T2) (hg : Region.wanted o (yielded ops a.tmps) = true) (hx : a.eval x = .agg (tab len fun j => .int k (f j))) (hy : a.eval y = .agg (tab len fun j => .int k (g j)))
    (hu : P.underlying T = some (.array len elem)) (he : P.underlying elem = some (.int k')) (hs : (P.info? elem).map (·.size) = some 1) (hq : P.eqGuardType P.depth T = false) (hb : (!(List.range len).all fun j => f j == g j) = b)
    (h : wpMix P ops Q S L bs rest (a.put o.dst (.bool b)) w) : wpMix P ops Q S L (true :: bs) (o :: rest) a w := by
  subst hb
  refine mixQuiet _ hS hg (fun w _ => ?_) h
  unfold execOp
  have hr := run_neqArr (P := P) (w := w) (k := k) hu he hs hq f g x y
  simp only [ho, hx, hy]
  rw [Sem.run_bind, hr]; rfl
end
end Go.Proofs.YtajpdmcbdekpbaaDoor
