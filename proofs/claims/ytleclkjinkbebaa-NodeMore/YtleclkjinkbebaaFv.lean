/- Function values that ask something of a list of numbers, and lists of them in memory. -/
import Derived.Test.YtleclkjinkbebaaLeaf
import Derived.Laws.MakeOwn
import Derived.Laws.EntriesVeiled
namespace Go.Proofs.Ytleclkjinkbebaa
open Num Go.RowKit
set_option linter.unusedVariables false
set_option linter.unusedSimpArgs false

theorem cell_new (w : World) (v : Value) (t : TypeId) : (w.alloc (.cells #[v] t)).cell? ⟨w.heap.size, 0, none⟩ = some v := by simp
theorem cell_but {b : Nat} {w w' : World} (hb : But b w w') {k o : Nat} {v : Value} (h : w.cell? ⟨k, o, none⟩ = some v) (hk : k ≠ b) : w'.cell? ⟨k, o, none⟩ = some v :=
  (World.cell?_of_block (a := ⟨k, o, none⟩) (hb.block k (World.block_lt_of_cell? _ _ h) hk)).trans h
/-- a function value that answers f of each list of n numbers, as long as all blocks but b stand -/
structure Fv (n b : Nat) (w : World) (q : Nat) (caps : Array Value) (f : Fn1) : Prop where
  ent : ∀ (args : Array Value) (w : World), (callFunc q args).run Try.prog w = .ok (.enter q args) w
  call : ∀ W', But b w W' → ∀ ao c b' off l, Vi W' ao n c b' off l → Calls Try.prog q (#[.slice ao n c] ++ caps) W' fun e w' => e = .returned (.bool (f l)) ∧ Below W'.heap.size W' w'
def fvV (q : Nat) (caps : Array Value) : Value := .func (.func q) #[] caps
theorem Fv.but {n b : Nat} {w w' : World} {q : Nat} {caps : Array Value} {f : Fn1} (h : Fv n b w q caps f) (hb : But b w w') : Fv n b w' q caps f := ⟨h.ent, fun W' hW => h.call W' (hb.trans hW)⟩
/-- .. when a new block takes b's place -/
theorem Fv.turn {n b b2 : Nat} {w w' : World} {q : Nat} {caps : Array Value} {f : Fn1} (h : Fv n b w q caps f) (hb : Below w.heap.size w w') (h2 : w.heap.size ≤ b2) : Fv n b2 w' q caps f :=
  ⟨h.ent, fun W' hW => h.call W' ⟨hW.os.trans hb.os, hW.tape.trans hb.tape, hW.output.trans hb.output, Nat.le_trans hb.size hW.size, fun k hk hkb => (hW.block k (Nat.lt_of_lt_of_le hk hb.size) (by omega)).trans (hb.block k hk)⟩⟩
/-- a list of such -/
structure Fl (n b : Nat) (w : World) (vs : List Value) (fs : List Fn1) : Prop where
  len : vs.length = fs.length
  each : ∀ (i : Nat) (v : Value) (f : Fn1), vs[i]? = some v → fs[i]? = some f → ∃ q caps, v = fvV q caps ∧ Fv n b w q caps f
theorem Fl.but {n b : Nat} {w w' : World} {vs : List Value} {fs : List Fn1} (h : Fl n b w vs fs) (hb : But b w w') : Fl n b w' vs fs :=
  ⟨h.len, fun i v f h1 h2 => by obtain ⟨q, caps, e, hf⟩ := h.each i v f h1 h2; exact ⟨q, caps, e, hf.but hb⟩⟩
theorem Fl.turn {n b b2 : Nat} {w w' : World} {vs : List Value} {fs : List Fn1} (h : Fl n b w vs fs) (hb : Below w.heap.size w w') (h2 : w.heap.size ≤ b2) : Fl n b2 w' vs fs :=
  ⟨h.len, fun i v f h1 hf => by obtain ⟨q, caps, e, hv⟩ := h.each i v f h1 hf; exact ⟨q, caps, e, hv.turn hb h2⟩⟩
theorem fl_nil (n b : Nat) (w : World) : Fl n b w [] [] := ⟨rfl, fun i v f h1 _ => by simp at h1⟩
theorem fl_app {n b : Nat} {w : World} {vs us : List Value} {fs gs : List Fn1} (h : Fl n b w vs fs) (k : Fl n b w us gs) : Fl n b w (vs ++ us) (fs ++ gs) := by
  refine ⟨by rw [List.length_append, List.length_append, h.len, k.len], fun i v f h1 h2 => ?_⟩
  by_cases hi : i < vs.length
  · rw [List.getElem?_append_left hi] at h1
    rw [List.getElem?_append_left (by rw [← h.len]; exact hi)] at h2
    exact h.each i v f h1 h2
  · rw [List.getElem?_append_right (by omega)] at h1
    rw [List.getElem?_append_right (by rw [← h.len]; omega), ← h.len] at h2
    exact k.each _ v f h1 h2
theorem fl_one {n b : Nat} {w : World} {q : Nat} {caps : Array Value} {f : Fn1} (h : Fv n b w q caps f) : Fl n b w [fvV q caps] [f] :=
  ⟨rfl, fun i v g h1 h2 => by
    have hi : i = 0 := by have := (List.getElem?_eq_some_iff.1 h1).1; simp at this; exact this
    subst hi
    simp at h1 h2
    exact ⟨q, caps, h1.symm, h2 ▸ h⟩⟩
theorem fl_cell {n b : Nat} {w : World} {vs : List Value} {fs : List Fn1} (h : Fl n b w vs fs) : ∀ v ∈ vs, v.oneCell' = true := by
  intro v hv
  obtain ⟨i, hi⟩ := List.getElem?_of_mem hv
  have hlt : i < fs.length := by rw [← h.len]; exact (List.getElem?_eq_some_iff.1 hi).1
  obtain ⟨q, caps, rfl, -⟩ := h.each i v _ hi (List.getElem?_eq_getElem hlt)
  rfl
theorem fl_take {n b : Nat} {w : World} {vs : List Value} {fs : List Fn1} (h : Fl n b w vs fs) (k : Nat) : Fl n b w (vs.take k) (fs.take k) := by
  refine ⟨by rw [List.length_take, List.length_take, h.len], fun i v f h1 h2 => ?_⟩
  rw [List.getElem?_take] at h1 h2
  split at h1
  · rename_i hi
    rw [if_pos hi] at h2
    exact h.each i v f h1 h2
  · cases h1
/-- a list of function values is answered, in memory of one's own -/
def RetF (n B : Nat) (w : World) (e : Ending) (fs : List Fn1) : Prop := ∃ ao m c b off vs, e = .returned (.slice ao m c) ∧ Oz 1 B w ao m c b off vs ∧ Fl n b w vs fs
theorem retF {n B : Nat} {w : World} {e : Ending} {fs : List Fn1} (h : RetF n B w e fs) : ∃ ao m c b off vs, e = .returned (.slice ao m c) ∧ Oz 1 B w ao m c b off vs ∧ Fl n b w vs fs := h
theorem fl_count {n b B : Nat} {w w2 : World} {ao : Option Addr} {m c b2 off : Nat} {vs : List Value} {fs : List Fn1} (h : Oz 1 B w2 ao m c b2 off vs) (hf : Fl n b w vs fs) : m = fs.length := by
  have := h.v.len; have := hf.len; omega

theorem info43 : (Try.prog.info? 43).map (fun i => (i.zero, i.size, i.bytes)) = some (some .nilFunc, 1, 8) := by kernel_rfl
def noF (n : Nat) : List Value := List.replicate n .nilFunc
theorem run_bnds (n : Nat) (hn : n ≤ 1000000) (w : World) : (Instr.makeSlice 40 (.int .i64 (n : Int)) (.int .i64 (n : Int))).run Try.prog w = .ok (.slice (some ⟨w.heap.size, 0, none⟩) n n) (w.alloc (.cells (noF n).toArray 43)) := by
  obtain ⟨i, hi, hz0, hz1, hz2⟩ := info_parts info43
  have := run_make (P := Try.prog) w 40 43 i _ Try.underlying40 hi hz0 .i64 .i64 n n (by omega) (Int.le_refl _) (by rw [hz2]; omega) (by omega)
  rw [hz1] at this
  simp only [Int.toNat_natCast] at this
  rw [this]
  congr 3
  unfold madeCells
  apply Array.ext
  · simp [noF]
  · intro j h1 h2
    rw [Array.getElem_map]
    simp [noF, Value.cells]
    rw [Nat.mod_one]; rfl

theorem ent_within1 (args : Array Value) (w : World) : (callFunc 32 args).run Try.prog w = .ok (.enter 32 args) w := by
  simp [callFunc, go_sem]
  rw [if_neg (by simp [Try.f32]), if_neg (by simp [Try.f32])]
theorem ent_together1 (args : Array Value) (w : World) : (callFunc 31 args).run Try.prog w = .ok (.enter 31 args) w := by
  simp [callFunc, go_sem]
  rw [if_neg (by simp [Try.f31]), if_neg (by simp [Try.f31])]
theorem ent_pixel1 (args : Array Value) (w : World) : (callFunc 34 args).run Try.prog w = .ok (.enter 34 args) w := by
  simp [callFunc, go_sem]
  rw [if_neg (by simp [Try.f34]), if_neg (by simp [Try.f34])]
theorem ent_tint (args : Array Value) (w : World) : (callFunc 22 args).run Try.prog w = .ok (.enter 22 args) w := by
  simp [callFunc, go_sem]
  rw [if_neg (by simp [Try.f22]), if_neg (by simp [Try.f22])]
theorem ent_tile (args : Array Value) (w : World) : (callFunc 25 args).run Try.prog w = .ok (.enter 25 args) w := by
  simp [callFunc, go_sem]
  rw [if_neg (by simp [Try.f25]), if_neg (by simp [Try.f25])]

/-- within, at a round: what it holds above w -/
structure Wn (n : Nat) (w : World) (s count k : Nat) (lo hi : Int) (vs : List Value) (wr : World) : Prop where
  low : Below w.heap.size w wr
  cs : wr.cell? ⟨w.heap.size, 0, none⟩ = some (.int .i64 (s : Int))
  cl : wr.cell? ⟨w.heap.size + 1, 0, none⟩ = some (.int .i64 lo)
  cm : wr.cell? ⟨w.heap.size + 1 + 1, 0, none⟩ = some (.int .i64 hi)
  own : Oz 1 w.heap.size wr (some ⟨w.heap.size + 1 + 1 + 1, 0, none⟩) count count (w.heap.size + 1 + 1 + 1) 0 vs
  nil : ∀ j, k ≤ j → j < count → vs[j]? = some .nilFunc
  fl : Fl n (w.heap.size + 1 + 1 + 1) wr (vs.take k) (insB s k lo hi)
theorem wn_start (n : Nat) (w : World) (s count : Nat) (lo hi : Int) (hc : count ≤ 1000) :
    Wn n w s count 0 lo hi (noF count) ((((w.alloc (.cells #[.int .i64 (s : Int)] 3)).alloc (.cells #[.int .i64 lo] 3)).alloc (.cells #[.int .i64 hi] 3)).alloc (.cells (noF count).toArray 43)) := by
  have c1 := cell_new w (.int .i64 (s : Int)) 3
  have z1 : (w.alloc (.cells #[.int .i64 (s : Int)] 3)).heap.size = w.heap.size + 1 := by simp
  have b1 : Below w.heap.size w (w.alloc (.cells #[.int .i64 (s : Int)] 3)) := (Below.refl _ _).alloc (Nat.le_refl _) _
  generalize (w.alloc (.cells #[.int .i64 (s : Int)] 3)) = w1 at *
  have c2 := cell_new w1 (.int .i64 lo) 3
  have b2 : Below w1.heap.size w1 (w1.alloc (.cells #[.int .i64 lo] 3)) := (Below.refl _ _).alloc (Nat.le_refl _) _
  have z2 : (w1.alloc (.cells #[.int .i64 lo] 3)).heap.size = w.heap.size + 1 + 1 := by simp [z1]
  rw [z1] at c2
  have c1' := cell_below b2 c1
  have b1' := via b1 b2
  generalize (w1.alloc (.cells #[.int .i64 lo] 3)) = w2 at *
  have c3 := cell_new w2 (.int .i64 hi) 3
  have b3 : Below w2.heap.size w2 (w2.alloc (.cells #[.int .i64 hi] 3)) := (Below.refl _ _).alloc (Nat.le_refl _) _
  have z3 : (w2.alloc (.cells #[.int .i64 hi] 3)).heap.size = w.heap.size + 1 + 1 + 1 := by simp [z2]
  rw [z2] at c3
  have c1'' := cell_below b3 c1'
  have c2' := cell_below b3 c2
  have b1'' := via b1' b3
  generalize (w2.alloc (.cells #[.int .i64 hi] 3)) = w3 at *
  have b4 : Below w3.heap.size w3 (w3.alloc (.cells (noF count).toArray 43)) := (Below.refl _ _).alloc (Nat.le_refl _) _
  have ho := oz_news (sz := 1) (lo := w.heap.size) (w := w3) (by omega) (noF count) count (by simp [noF]) (by omega) 43
  rw [z3] at ho
  exact ⟨via b1'' b4, cell_below b4 c1'', cell_below b4 c2', cell_below b4 c3, ho, fun j _ hj => by simp [noF, hj], by rw [List.take_zero]; exact fl_nil _ _ _⟩
theorem wn_step {n : Nat} {w : World} {s count k : Nat} {lo hi : Int} {vs : List Value} {wr : World} (h : Wn n w s count k lo hi vs wr) (hk : k < count) (hn : s + count ≤ n) :
    (wr.alloc (.cells #[.int .i64 (k : Int)] 3)).cell? ⟨w.heap.size + 1 + 1 + 1, k, none⟩ = some .nilFunc ∧ (wr.alloc (.cells #[.int .i64 (k : Int)] 3)).frozen? ⟨w.heap.size + 1 + 1 + 1, k, none⟩ = false ∧
    Wn n w s count (k + 1) lo hi (vs.set k (fvV 32 #[.pointer (some ⟨w.heap.size + 1, 0, none⟩), .pointer (some ⟨w.heap.size, 0, none⟩), .pointer (some ⟨wr.heap.size, 0, none⟩), .pointer (some ⟨w.heap.size + 1 + 1, 0, none⟩)]))
      ((wr.alloc (.cells #[.int .i64 (k : Int)] 3)).setCell ⟨w.heap.size + 1 + 1 + 1, k, none⟩ (fvV 32 #[.pointer (some ⟨w.heap.size + 1, 0, none⟩), .pointer (some ⟨w.heap.size, 0, none⟩), .pointer (some ⟨wr.heap.size, 0, none⟩), .pointer (some ⟨w.heap.size + 1 + 1, 0, none⟩)])) := by
  have ci := cell_new wr (.int .i64 (k : Int)) 3
  have hb : Below wr.heap.size wr (wr.alloc (.cells #[.int .i64 (k : Int)] 3)) := (Below.refl _ _).alloc (Nat.le_refl _) _
  have hlt := World.block_lt_of_cell? _ _ h.cm
  have hg : w.heap.size + 1 + 1 + 1 < wr.heap.size := (h.own.new (by omega)).2
  have ho := h.own.below hb
  have hvl : vs.length = count := by have := h.own.v.len; omega
  have e0 := ho.v.lies k _ (h.nil k (Nat.le_refl _) hk)
  have f0 := oz_fz ho (i := k) (by omega)
  rw [Nat.zero_add] at e0 f0
  have hset := oz_set ho (p := k) (by omega) (fvV 32 #[.pointer (some ⟨w.heap.size + 1, 0, none⟩), .pointer (some ⟨w.heap.size, 0, none⟩), .pointer (some ⟨wr.heap.size, 0, none⟩), .pointer (some ⟨w.heap.size + 1 + 1, 0, none⟩)])
  rw [Nat.zero_add] at hset
  refine ⟨e0, f0, ?_⟩
  generalize hx : fvV 32 #[.pointer (some ⟨w.heap.size + 1, 0, none⟩), .pointer (some ⟨w.heap.size, 0, none⟩), .pointer (some ⟨wr.heap.size, 0, none⟩), .pointer (some ⟨w.heap.size + 1 + 1, 0, none⟩)] = X at *
  have cs := cell_below hb h.cs
  have cl := cell_below hb h.cl
  have cm := cell_below hb h.cm
  have hlow := via h.low hb
  have hfl := h.fl.but (But.of hb)
  have hbw : But (w.heap.size + 1 + 1 + 1) (wr.alloc (.cells #[.int .i64 (k : Int)] 3)) ((wr.alloc (.cells #[.int .i64 (k : Int)] 3)).setCell ⟨w.heap.size + 1 + 1 + 1, k, none⟩ X) := but_cells (w.heap.size + 1 + 1 + 1) k [X] _
  refine ⟨hlow.setCell (p := ⟨w.heap.size + 1 + 1 + 1, k, none⟩) (by show w.heap.size ≤ w.heap.size + 1 + 1 + 1; omega) _, cell_but hbw cs (by omega), cell_but hbw cl (by omega), cell_but hbw cm (by omega), hset, fun j hj hjc => ?_, ?_⟩
  · rw [List.getElem?_set_ne (by omega)]
    exact h.nil j (by omega) hjc
  · rw [insB_succ]
    have et : (vs.set k X).take (k + 1) = vs.take k ++ [X] := by
      rw [List.take_succ_eq_append_getElem (by rw [List.length_set]; omega)]
      congr 1
      · apply List.ext_getElem?
        intro j
        rw [List.getElem?_take, List.getElem?_take]
        split
        · rw [List.getElem?_set_ne (by omega)]
        · rfl
      · simp
    rw [et]
    refine fl_app (hfl.but hbw) ?_
    subst hx
    refine fl_one ⟨ent_within1, fun W' hW ao c b' off l hv => ?_⟩
    have k1 := cell_but (hbw.trans hW) cl (by omega)
    have k2 := cell_but (hbw.trans hW) cs (by omega)
    have k3 := cell_but (hbw.trans hW) ci (by omega)
    have k4 := cell_but (hbw.trans hW) cm (by omega)
    exact within1_any (w.heap.size + 1) w.heap.size wr.heap.size (w.heap.size + 1 + 1) lo hi s k ao n c b' off l W' hv (by omega) k1 k2 k3 k4

set_option maxRecDepth 100000 in
set_option maxHeartbeats 1000000 in
theorem within_any (n s count : Nat) (lo hi : Int) (w : World) (hn : s + count ≤ n) (hc : count ≤ 1000) :
    Calls Try.prog 21 #[.int .i64 (s : Int), .int .i64 (count : Int), .int .i64 lo, .int .i64 hi] w fun e w' => RetF n w.heap.size w' e (insB s count lo hi) ∧ Below w.heap.size w w' := by
  have hm := run_bnds count (by omega)
  have H0 := hid (wn_start n w s count lo hi hc)
  have hmf : ∀ (fn : Fn) (first cap : Array Value) (w : World), (Instr.makeFunc fn first cap).run Try.prog w = .ok (.func fn first cap) w := fun _ _ _ _ => rfl
  go_enter Try.func21, Try.ntmps21
  go_wp2
  go_loopg [15] count (fun g i wr => ∃ (k : Nat) (vs : List Value), k ≤ count ∧ g = count - k ∧ i = .int .i64 k ∧ Wn n w s count k lo hi vs wr)
  case atStart => exact ⟨0, _, Nat.zero_le _, rfl, rfl, H0.out⟩
  case round =>
    obtain ⟨k, vs, hk, rfl, rfl, hW⟩ := hrel
    have HW := hid hW
    by_cases hlt : k < count
    · have hlz : (k : Int) < (count : Int) := by omega
      have hs := wn_step hW hlt hn
      have HS := hid hs.2.2
      obtain ⟨e0, f0, -⟩ := hs
      clear hW
      go_wp2
      go_roundg (count - (k + 1))
      case measure => omega
      case rel => exact ⟨k + 1, _, hlt, rfl, by simp, HS.out⟩
    · obtain rfl : k = count := by omega
      clear hW
      go_wp2
      go_ret
      refine ⟨⟨_, _, _, _, _, vs, rfl, HW.out.own, ?_⟩, HW.out.low⟩
      have := HW.out.fl
      rw [List.take_of_length_le (by have := HW.out.own.v.len; omega)] at this
      exact this
end Go.Proofs.Ytleclkjinkbebaa
