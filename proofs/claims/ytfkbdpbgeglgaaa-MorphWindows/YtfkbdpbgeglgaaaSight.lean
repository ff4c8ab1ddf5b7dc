/- Four queues side by side: what is in sight of a line. -/
import Derived.Test.YtfkbdpbgeglgaaaEnter
namespace Go.Proofs.Ytfkbdpbgeglgaaa
open Num Go.RowKit
set_option linter.unusedVariables false
set_option linter.unusedSimpArgs false

/-- a pixel's value -/
def chn : Nat → X → Int
  | 0, p => p.c0
  | 1, p => p.c1
  | 2, p => p.c2
  | _, p => p.c3
theorem chn_byte {p : X} (h : byteX p) (i : Nat) : 0 ≤ chn i p ∧ chn i p ≤ 255 := by
  obtain ⟨h0, h1, h2, h3⟩ := h
  match i with
  | 0 => exact h0
  | 1 => exact h1
  | 2 => exact h2
  | _ + 3 => exact h3
theorem lt4 {i : Nat} (h : i < 4) : i = 0 ∨ i = 1 ∨ i = 2 ∨ i = 3 := by omega
/-- the turn, as a number -/
def tv (t : Bool) : Int := if t = true then 255 else 0
theorem xor_all : ∀ t : Bool, ∀ n : Fin 256, bits .xor .u8 (n.1 : Int) (tv t) = tn t (n.1 : Int) := by decide +kernel
theorem xor_tn (t : Bool) {v : Int} (h : 0 ≤ v ∧ v ≤ 255) : bits .xor .u8 v (tv t) = tn t v := by
  have := xor_all t ⟨v.toNat, by omega⟩
  rwa [show (((⟨v.toNat, by omega⟩ : Fin 256).1 : Nat) : Int) = v by dsimp only; omega] at this
theorem tn_byte (t : Bool) {v : Int} (h : 0 ≤ v ∧ v ≤ 255) : 0 ≤ tn t v ∧ tn t v ≤ 255 := by unfold tn; cases t <;> simp <;> omega
theorem index_n (p : X) {i : Nat} (hi : i < 4) (w : World) : (Instr.index 33 (.agg #[.int .u8 p.c0, .int .u8 p.c1, .int .u8 p.c2, .int .u8 p.c3]) (.int .i64 (i : Int))).run Try.prog w = .ok (.int .u8 (chn i p)) w := by
  obtain rfl | rfl | rfl | rfl := lt4 hi
  · exact index0 _ _ _ _ w
  · exact index1 _ _ _ _ w
  · exact index2 _ _ _ _ w
  · exact index3 _ _ _ _ w

/-- a queue that holds what a window's greatest may still be -/
def Qw (w : World) (k o c : Nat) (u : Int → Int) (lo hi : Int) : Prop := ∃ a L, a ≤ c ∧ Qu w k o a L ∧ Win u lo hi L
section
variable {w w' : World} {k o c : Nat} {u : Int → Int} {lo hi : Int}
theorem Qw.lt (h : Qw w k o c u lo hi) : k < w.heap.size := by obtain ⟨a, L, h1, h2, h3⟩ := h; exact h2.lt
theorem Qw.below (h : Qw w k o c u lo hi) (hb : Below w.heap.size w w') : Qw w' k o c u lo hi := by obtain ⟨a, L, h1, h2, h3⟩ := h; exact ⟨a, L, h1, h2.below hb, h3⟩
theorem Qw.but {g : Nat} (h : Qw w k o c u lo hi) (hb : But g w w') (hg : k ≠ g) : Qw w' k o c u lo hi := by obtain ⟨a, L, h1, h2, h3⟩ := h; exact ⟨a, L, h1, h2.but hb hg, h3⟩
theorem Qw.ch {o' m : Nat} (h : Qw w k o c u lo hi) (hc : Ch k o' m w w') (hd : o + 1026 ≤ o' ∨ o' + m ≤ o) : Qw w' k o c u lo hi := by obtain ⟨a, L, h1, h2, h3⟩ := h; exact ⟨a, L, h1, h2.ch hc hd, h3⟩
theorem Qw.more {c' : Nat} (h : Qw w k o c u lo hi) (hc : c ≤ c') : Qw w k o c' u lo hi := by obtain ⟨a, L, h1, h2, h3⟩ := h; exact ⟨a, L, by omega, h2, h3⟩
theorem Qw.room (h : Qw w k o c u lo hi) : ∀ j, j < 1026 → (w.cell? ⟨k, o + j, none⟩).isSome = true := by obtain ⟨a, L, h1, h2, h3⟩ := h; exact h2.room
theorem Qw.fz (h : Qw w k o c u lo hi) : ∀ j, w.frozen? ⟨k, j, none⟩ = false := by obtain ⟨a, L, h1, h2, h3⟩ := h; exact h2.fz
end
theorem qw_enter (k o c : Nat) (u : Int → Int) (lo hi v : Int) (w : World) (h : Qw w k o c u lo hi) (hv : v = u hi) (hl : lo ≤ hi) (hw : hi - lo ≤ 511) (hc : c ≤ 1000000) :
    Calls Try.prog 57 #[.pointer (some ⟨k, o, none⟩), .int .i64 hi, .int .u8 v] w fun e w' => e = .returned (.tuple #[]) ∧ Qw w' k o c u lo (hi + 1) ∧ Ch k o 1026 w w' := by
  subst hv
  obtain ⟨a, L, h1, h2, h3⟩ := h
  have hn := win_len h3
  refine Calls.mono (qenter_any k o a hi (u hi) L w h2 (by omega) (by unfold mx at hn; omega)) ?_
  rintro e w' ⟨rfl, ⟨A, B, hL, hB, hA, hq⟩, hch⟩
  subst hL
  exact ⟨rfl, ⟨a, _, h1, hq, win_enter h3 hl hB hA⟩, hch⟩
theorem lv_win {u : Int → Int} {p lo hi lo' : Int} {L : List (Int × Int)} (h : Win u lo hi L) (hp : (p < lo ∧ lo' = lo) ∨ (p = lo ∧ lo' = lo + 1)) : Win u lo' hi (lv p L) := by
  cases L with
  | nil =>
    rcases hp with ⟨h1, rfl⟩ | ⟨rfl, rfl⟩
    · exact h
    · exact win_other h (fun x r e => by cases e)
  | cons x r =>
    show Win u lo' hi (if x.1 = p then r else x :: r)
    have hm := h.mem x (by simp)
    rcases hp with ⟨h1, rfl⟩ | ⟨rfl, rfl⟩
    · rw [if_neg (by omega)]
      exact h
    · by_cases hx : x.1 = p
      · rw [if_pos hx]
        exact win_first h hx
      · rw [if_neg hx]
        exact win_other h (fun y s e => by injection e with e1 e2; subst e1; exact hx)
theorem qw_leave (k o c : Nat) (u : Int → Int) (lo hi p lo' : Int) (w : World) (h : Qw w k o c u lo hi) (hp : (p < lo ∧ lo' = lo) ∨ (p = lo ∧ lo' = lo + 1)) (hw : hi - lo ≤ 511) (hc : c ≤ 1000000) :
    Calls Try.prog 59 #[.pointer (some ⟨k, o, none⟩), .int .i64 p] w fun e w' => e = .returned (.tuple #[]) ∧ Qw w' k o (c + 1) u lo' hi ∧ Ch k o 1026 w w' := by
  obtain ⟨a, L, h1, h2, h3⟩ := h
  have hn := win_len h3
  refine Calls.mono (qleave_any k o a p L w h2 (by omega) (by unfold mx at hn; omega)) ?_
  rintro e w' ⟨rfl, ⟨a', ha', hq⟩, hch⟩
  exact ⟨rfl, ⟨a', _, by omega, hq, lv_win h3 hp⟩, hch⟩
theorem qw_greatest (k o c : Nat) (u : Int → Int) (lo hi : Int) (w : World) (h : Qw w k o c u lo hi) (hl : lo < hi) :
    Calls Try.prog 58 #[.pointer (some ⟨k, o, none⟩)] w fun e w' => ∃ m, e = .returned (.int .u8 m) ∧ Ext false u lo hi m ∧ Below w.heap.size w w' := by
  obtain ⟨a, L, h1, h2, h3⟩ := h
  obtain ⟨x, r, rfl⟩ := win_some h3 hl
  refine Calls.mono (greatest_any k o a x r w h2) ?_
  rintro e w' ⟨rfl, hb⟩
  exact ⟨x.2, rfl, win_most h3, hb⟩

/-- what is in sight: value by value a window -/
structure Si (w : World) (k : Nat) (t : Bool) (c : Nat) (F : Int → X) (lo hi : Nat → Int) : Prop where
  q : ∀ i, i < 4 → Qw w k (i * 1026) c (fun j => tn t (chn i (F j))) (lo i) (hi i)
  t : w.cell? ⟨k, 4104, none⟩ = some (.int .u8 (tv t))
section
variable {w w' : World} {k : Nat} {t : Bool} {c : Nat} {F : Int → X} {lo hi : Nat → Int}
theorem Si.lt (h : Si w k t c F lo hi) : k < w.heap.size := (h.q 0 (by omega)).lt
theorem Si.below (h : Si w k t c F lo hi) (hb : Below w.heap.size w w') : Si w' k t c F lo hi := ⟨fun i hi => (h.q i hi).below hb, (World.cell?_of_block (a := ⟨k, 4104, none⟩) (hb.block k h.lt)).trans h.t⟩
theorem Si.but {g : Nat} (h : Si w k t c F lo hi) (hb : But g w w') (hg : k ≠ g) : Si w' k t c F lo hi := ⟨fun i hi => (h.q i hi).but hb hg, (World.cell?_of_block (a := ⟨k, 4104, none⟩) (hb.block k h.lt hg)).trans h.t⟩
theorem Si.more {c' : Nat} (h : Si w k t c F lo hi) (hc : c ≤ c') : Si w k t c' F lo hi := ⟨fun i hi => (h.q i hi).more hc, h.t⟩
theorem Si.re {lo' hi' : Nat → Int} (h : Si w k t c F lo hi) (h1 : ∀ i, i < 4 → lo' i = lo i) (h2 : ∀ i, i < 4 → hi' i = hi i) : Si w k t c F lo' hi' := ⟨fun i hi => by rw [h1 i hi, h2 i hi]; exact h.q i hi, h.t⟩
/-- one of the four is turned -/
theorem Si.one {lo' hi' : Nat → Int} (h : Si w k t c F lo hi) {i : Nat} (hi4 : i < 4) (hq : Qw w' k (i * 1026) c (fun j => tn t (chn i (F j))) (lo' i) (hi' i)) (hc : Ch k (i * 1026) 1026 w w') (h1 : ∀ j, j < 4 → j ≠ i → lo' j = lo j ∧ hi' j = hi j) : Si w' k t c F lo' hi' := by
  refine ⟨fun j hj => ?_, by rw [hc.out _ (by omega)]; exact h.t⟩
  by_cases e : j = i
  · subst e; exact hq
  · rw [(h1 j hj e).1, (h1 j hj e).2]
    exact (h.q j hj).ch hc (by omega)
end
/-- the first i ones the new, the others the old -/
def upto (i : Nat) (a b : Int) (j : Nat) : Int := if j < i then b else a
theorem upto_0 (a b : Int) (j : Nat) : upto 0 a b j = a := by unfold upto; rw [if_neg (by omega)]
theorem upto_4 (a b : Int) {j : Nat} (h : j < 4) : upto 4 a b j = b := by unfold upto; rw [if_pos h]
theorem upto_same (i : Nat) (a b : Int) : upto i a b i = a := by unfold upto; rw [if_neg (by omega)]
theorem upto_next (i : Nat) (a b : Int) : upto (i + 1) a b i = b := by unfold upto; rw [if_pos (by omega)]
theorem upto_other {i j : Nat} (a b : Int) (h : j ≠ i) : upto (i + 1) a b j = upto i a b j := by
  unfold upto
  by_cases h1 : j < i
  · rw [if_pos h1, if_pos (by omega)]
  · rw [if_neg h1, if_neg (by omega)]
/-- as many cells as a sight has, and its turn -/
structure Sr (w : World) (k : Nat) (t : Bool) : Prop where
  room : ∀ j, j < 4104 → (w.cell? ⟨k, j, none⟩).isSome = true
  t : w.cell? ⟨k, 4104, none⟩ = some (.int .u8 (tv t))
  fz : ∀ j, w.frozen? ⟨k, j, none⟩ = false
theorem Si.sr {w : World} {k : Nat} {t : Bool} {c : Nat} {F : Int → X} {lo hi : Nat → Int} (h : Si w k t c F lo hi) : Sr w k t := by
  refine ⟨fun j hj => ?_, h.t, (h.q 0 (by omega)).fz⟩
  have := (h.q (j / 1026) (by omega)).room (j % 1026) (by omega)
  rwa [show j / 1026 * 1026 + j % 1026 = j by omega] at this
theorem Sr.lt {w : World} {k : Nat} {t : Bool} (h : Sr w k t) : k < w.heap.size := World.block_lt_of_cell? w ⟨k, 4104, none⟩ h.t
theorem Sr.block {w w' : World} {k : Nat} {t : Bool} (h : Sr w k t) (e : w'.heap[k]? = w.heap[k]?) : Sr w' k t := by
  have hc : ∀ j, w'.cell? ⟨k, j, none⟩ = w.cell? ⟨k, j, none⟩ := fun j => World.cell?_of_block (a := ⟨k, j, none⟩) e
  exact ⟨fun j hj => by rw [hc]; exact h.room j hj, by rw [hc]; exact h.t, fun j => by rw [World.frozen?_of_block (a := ⟨k, j, none⟩) e]; exact h.fz j⟩
theorem Sr.below {w w' : World} {k : Nat} {t : Bool} (h : Sr w k t) (hb : Below w.heap.size w w') : Sr w' k t := h.block (hb.block k h.lt)
theorem Sr.but {g : Nat} {w w' : World} {k : Nat} {t : Bool} (h : Sr w k t) (hb : But g w w') (hg : k ≠ g) : Sr w' k t := h.block (hb.block k h.lt hg)

set_option maxRecDepth 100000 in
set_option maxHeartbeats 1000000 in
theorem senter_any (k c : Nat) (t : Bool) (F : Int → X) (lo hi : Int) (p : X) (w : World) (h : Si w k t c F (fun _ => lo) (fun _ => hi)) (hp : p = F hi) (hb : byteX p) (hl : lo ≤ hi) (hw : hi - lo ≤ 511) (hc : c ≤ 1000000) :
    Calls Try.prog 52 #[.pointer (some ⟨k, 0, none⟩), .int .i64 hi, .agg #[.int .u8 p.c0, .int .u8 p.c1, .int .u8 p.c2, .int .u8 p.c3]] w fun e w' => e = .returned (.tuple #[]) ∧ Si w' k t c F (fun _ => lo) (fun _ => hi + 1) ∧ Ch k 0 4104 w w' := by
  have hlt := h.lt
  have HU : Hid (Si (w.alloc (.cells #[.int .u8 p.c0, .int .u8 p.c1, .int .u8 p.c2, .int .u8 p.c3] 33)) k t c F (fun _ => lo) (upto 0 hi (hi + 1)) ∧ Ch k 0 4104 w (w.alloc (.cells #[.int .u8 p.c0, .int .u8 p.c1, .int .u8 p.c2, .int .u8 p.c3] 33))) :=
    ⟨(h.below ((Below.refl _ _).alloc (Nat.le_refl _) _)).re (fun _ _ => rfl) (fun j _ => upto_0 _ _ j), Ch.of hlt ((Below.refl _ _).alloc (Nat.le_refl _) _)⟩
  have HP := hid (And.intro hp hb)
  clear h hp hb
  go_enter Try.func52, Try.ntmps52
  go_wp2
  go_loopg [9] 4 (fun g v9 wr => ∃ i : Nat, i ≤ 4 ∧ g = 4 - i ∧ v9 = .int .i64 i ∧ Si wr k t c F (fun _ => lo) (upto i hi (hi + 1)) ∧ Ch k 0 4104 w wr)
  case atStart => exact ⟨0, Nat.zero_le _, rfl, rfl, HU.out.1, HU.out.2⟩
  case round =>
    clear HU
    obtain ⟨i, hi4, rfl, rfl, hS, hC⟩ := hrel
    have HS := hid hS
    have HC := hid hC
    clear hC
    by_cases hil : i < 4
    · have hiz : (i : Int) < 4 := by omega
      have hx := fun w => index_n p hil w
      have h1 := hS.t
      have hxr : bits .xor .u8 (chn i p) (tv t) = tn t (chn i p) := xor_tn t (chn_byte HP.out.2 i)
      have HQ0 : Hid (∀ w', Below wr.heap.size wr w' → Qw w' k (i * 1026) c (fun j => tn t (chn i (F j))) lo hi) := fun w' hb' => by
        have := (HS.out.below hb').q i hil
        rwa [upto_same] at this
      clear hS
      go_wp2
      go_region_with (go_at_call 57; with_reducible refine Calls.mono (qw_enter k (i * 1026) c (fun j => tn t (chn i (F j))) lo hi (tn t (chn i p)) _ (HQ0.out _ (Below.refl _ _).drew) (by rw [HP.out.1]) hl hw hc) ?_; rintro e w1 ⟨rfl, hq, hch⟩; have HQ := hid (And.intro hq hch); clear hq hch)
      all_goals
        go_wp2
        go_roundg (4 - (i + 1))
        case measure => omega
        case rel =>
          refine ⟨i + 1, by omega, rfl, by simp, (HS.out.below (Below.refl _ _).drew).one hil (by rw [upto_next]; exact HQ.out.1) HQ.out.2 (fun j hj hne => ⟨rfl, upto_other _ _ hne⟩), (HC.out.to hlt (Below.refl _ _).drew).trans (HQ.out.2.wide (by omega) (by omega))⟩
    · obtain rfl : i = 4 := by omega
      clear hS
      go_wp2
      exact bodyPost_end (v := .tuple #[]) (by simp [results, Try.results52, go_sem]) rfl ⟨rfl, HS.out.re (fun _ _ => rfl) (fun j hj => (upto_4 _ _ hj).symm), HC.out⟩

set_option maxRecDepth 100000 in
set_option maxHeartbeats 1000000 in
theorem sleave_any (k c : Nat) (t : Bool) (F : Int → X) (lo hi p lo' : Int) (w : World) (h : Si w k t c F (fun _ => lo) (fun _ => hi)) (hp : (p < lo ∧ lo' = lo) ∨ (p = lo ∧ lo' = lo + 1)) (hw : hi - lo ≤ 511) (hc : c ≤ 1000000) :
    Calls Try.prog 55 #[.pointer (some ⟨k, 0, none⟩), .int .i64 p] w fun e w' => e = .returned (.tuple #[]) ∧ Si w' k t (c + 1) F (fun _ => lo') (fun _ => hi) ∧ Ch k 0 4104 w w' := by
  have hlt := h.lt
  have HU : Hid (Si w k t (c + 1) F (upto 0 lo lo') (fun _ => hi) ∧ (∀ i, i < 4 → 0 ≤ i → Qw w k (i * 1026) c (fun j => tn t (chn i (F j))) lo hi) ∧ Ch k 0 4104 w w) := ⟨(h.more (by omega)).re (fun j _ => upto_0 _ _ j) (fun _ _ => rfl), fun i hi _ => h.q i hi, Ch.refl _ _ _ _⟩
  have HP := hid hp
  clear h hp
  go_enter Try.func55, Try.ntmps55
  go_wp2
  go_loopg [5] 4 (fun g v5 wr => ∃ i : Nat, i ≤ 4 ∧ g = 4 - i ∧ v5 = .int .i64 i ∧ Si wr k t (c + 1) F (upto i lo lo') (fun _ => hi) ∧ (∀ j, j < 4 → i ≤ j → Qw wr k (j * 1026) c (fun l => tn t (chn j (F l))) lo hi) ∧ Ch k 0 4104 w wr)
  case atStart => exact ⟨0, Nat.zero_le _, rfl, rfl, HU.out⟩
  case round =>
    clear HU
    obtain ⟨i, hi4, rfl, rfl, hS, hQ, hC⟩ := hrel
    have HS := hid hS
    have HC := hid hC
    have HQ0 := hid hQ
    clear hC hQ
    by_cases hil : i < 4
    · have hiz : (i : Int) < 4 := by omega
      clear hS
      go_wp2_with (go_at_call 59; with_reducible refine Calls.mono (qw_leave k (i * 1026) c (fun j => tn t (chn i (F j))) lo hi p lo' _ (HQ0.out i hil (Nat.le_refl _)) HP.out hw hc) ?_; rintro e w1 ⟨rfl, hq, hch⟩; have HQ := hid (And.intro hq hch); clear hq hch)
      go_roundg (4 - (i + 1))
      case measure => omega
      case rel =>
        refine ⟨i + 1, by omega, rfl, by simp, HS.out.one hil (by rw [upto_next]; exact HQ.out.1) HQ.out.2 (fun j hj hne => ⟨upto_other _ _ hne, rfl⟩), fun j hj hij => (HQ0.out j hj (by omega)).ch HQ.out.2 (by omega), HC.out.trans (HQ.out.2.wide (by omega) (by omega))⟩
    · obtain rfl : i = 4 := by omega
      clear hS
      go_wp2
      exact bodyPost_end (v := .tuple #[]) (by simp [results, Try.results55, go_sem]) rfl ⟨rfl, HS.out.re (fun j hj => (upto_4 _ _ hj).symm) (fun _ _ => rfl), HC.out⟩

/-- all queues emptied so far -/
structure Zs (w : World) (k : Nat) (t : Bool) (i : Nat) : Prop where
  r : Sr w k t
  z : ∀ j, j < i → w.cell? ⟨k, j * 1026 + 1024, none⟩ = some (.int .u64 0) ∧ w.cell? ⟨k, j * 1026 + 1025, none⟩ = some (.int .u64 0)
theorem Sr.cell {w : World} {k : Nat} {t : Bool} (h : Sr w k t) {j : Nat} (hj : j < 4104) (v : Value) : Sr (w.setCell ⟨k, j, none⟩ v) k t :=
  ⟨fun i hi => set_room (h.room i hi), by rw [set_diff (by omega)]; exact h.t, fun i => by rw [World.frozen?_setCell]; exact h.fz i⟩
theorem Zs.next {w : World} {k : Nat} {t : Bool} {i : Nat} (h : Zs w k t i) (hi : i < 4) : Zs ((w.setCell ⟨k, i * 1026 + 1024, none⟩ (.int .u64 0)).setCell ⟨k, i * 1026 + 1025, none⟩ (.int .u64 0)) k t (i + 1) := by
  refine ⟨(h.r.cell (by omega) _).cell (by omega) _, fun j hj => ?_⟩
  by_cases e : j = i
  · subst e
    refine ⟨?_, set_same (set_room (h.r.room _ (by omega)))⟩
    rw [set_diff (by omega)]
    exact set_same (h.r.room _ (by omega))
  · rw [set_diff (by omega), set_diff (by omega), set_diff (by omega), set_diff (by omega)]
    exact h.z j (by omega)
theorem Zs.next' {w : World} {k : Nat} {t : Bool} {i : Nat} (h : Zs w k t i) (hi : i < 4) : Zs ((w.setCell ⟨k, i * 1026 + 1025, none⟩ (.int .u64 0)).setCell ⟨k, i * 1026 + 1024, none⟩ (.int .u64 0)) k t (i + 1) := by
  refine ⟨(h.r.cell (by omega) _).cell (by omega) _, fun j hj => ?_⟩
  by_cases e : j = i
  · subst e
    refine ⟨set_same (set_room (h.r.room _ (by omega))), ?_⟩
    rw [set_diff (by omega)]
    exact set_same (h.r.room _ (by omega))
  · rw [set_diff (by omega), set_diff (by omega), set_diff (by omega), set_diff (by omega)]
    exact h.z j (by omega)
theorem Zs.below {w w' : World} {k : Nat} {t : Bool} {i : Nat} (h : Zs w k t i) (hb : Below w.heap.size w w') : Zs w' k t i := by
  have e := hb.block k h.r.lt
  have hc : ∀ j, w'.cell? ⟨k, j, none⟩ = w.cell? ⟨k, j, none⟩ := fun j => World.cell?_of_block (a := ⟨k, j, none⟩) e
  exact ⟨h.r.below hb, fun j hj => by rw [hc, hc]; exact h.z j hj⟩
theorem Zs.si {w : World} {k : Nat} {t : Bool} (h : Zs w k t 4) (F : Int → X) (lo hi : Int) (hl : hi ≤ lo) : Si w k t 0 F (fun _ => lo) (fun _ => hi) := by
  refine ⟨fun i hi => ⟨0, [], Nat.le_refl _, ⟨(h.z i hi).1, (h.z i hi).2, fun j x hx => by simp at hx, fun j x hx => by simp at hx, fun j hj => h.r.room _ (by omega), h.r.fz⟩, win_nil _ hl⟩, h.r.t⟩

set_option maxRecDepth 100000 in
set_option maxHeartbeats 1000000 in
theorem sempty_any (k : Nat) (t : Bool) (w : World) (h : Sr w k t) :
    Calls Try.prog 51 #[.pointer (some ⟨k, 0, none⟩)] w fun e w' => e = .returned (.tuple #[]) ∧ Zs w' k t 4 ∧ Ch k 0 4104 w w' := by
  have hlt := h.lt
  have HU : Hid (Zs w k t 0 ∧ Ch k 0 4104 w w) := ⟨⟨h, fun j hj => by omega⟩, Ch.refl _ _ _ _⟩
  clear h
  go_enter Try.func51, Try.ntmps51
  go_wp2
  go_loopg [3] 4 (fun g v3 wr => ∃ i : Nat, i ≤ 4 ∧ g = 4 - i ∧ v3 = .int .i64 i ∧ Zs wr k t i ∧ Ch k 0 4104 w wr)
  case atStart => exact ⟨0, Nat.zero_le _, rfl, rfl, HU.out⟩
  case round =>
    clear HU
    obtain ⟨i, hi4, rfl, rfl, hS, hC⟩ := hrel
    have HS := hid hS
    have HC := hid hC
    clear hC
    by_cases hil : i < 4
    · have hiz : (i : Int) < 4 := by omega
      obtain ⟨u0, h0⟩ := Option.isSome_iff_exists.1 (hS.r.room (i * 1026 + 1024) (by omega))
      obtain ⟨u1, h1⟩ := Option.isSome_iff_exists.1 (hS.r.room (i * 1026 + 1025) (by omega))
      have hf := hS.r.fz
      clear hS
      go_wp2
      go_region
      all_goals
        go_wp2
        go_roundg (4 - (i + 1))
        case measure => omega
        case rel =>
          refine ⟨i + 1, by omega, rfl, by simp, ?_, ?_⟩
          · first
              | exact (HS.out.next hil).below (Below.refl _ _).drew
              | exact (HS.out.next' hil).below (Below.refl _ _).drew
          · exact ((HC.out.cell (by omega) (by omega) _).cell (by omega) (by omega) _).to hlt (Below.refl _ _).drew
    · obtain rfl : i = 4 := by omega
      clear hS
      go_wp2
      exact bodyPost_end (v := .tuple #[]) (by simp [results, Try.results51, go_sem]) rfl ⟨rfl, HS.out, HC.out⟩

/-- a pixel in memory -/
structure P4 (w : World) (k : Nat) (m : X) : Prop where
  c : ∀ j, j < 4 → w.cell? ⟨k, j, none⟩ = some (.int .u8 (chn j m))
  fz : ∀ j, w.frozen? ⟨k, j, none⟩ = false
theorem P4.lt {w : World} {k : Nat} {m : X} (h : P4 w k m) : k < w.heap.size := World.block_lt_of_cell? w ⟨k, 0, none⟩ (h.c 0 (by omega))
theorem P4.below {w w' : World} {k : Nat} {m : X} (h : P4 w k m) (hb : Below w.heap.size w w') : P4 w' k m := by
  have e := hb.block k h.lt
  exact ⟨fun j hj => (World.cell?_of_block (a := ⟨k, j, none⟩) e).trans (h.c j hj), fun j => (World.frozen?_of_block (a := ⟨k, j, none⟩) e).trans (h.fz j)⟩
def putC : Nat → Int → X → X
  | 0, v, m => ⟨v, m.c1, m.c2, m.c3⟩
  | 1, v, m => ⟨m.c0, v, m.c2, m.c3⟩
  | 2, v, m => ⟨m.c0, m.c1, v, m.c3⟩
  | _, v, m => ⟨m.c0, m.c1, m.c2, v⟩
theorem putC_same {i : Nat} (hi : i < 4) (v : Int) (m : X) : chn i (putC i v m) = v := by obtain rfl | rfl | rfl | rfl := lt4 hi <;> rfl
theorem putC_other {i j : Nat} (hi : i < 4) (hj : j < 4) (h : j ≠ i) (v : Int) (m : X) : chn j (putC i v m) = chn j m := by
  obtain rfl | rfl | rfl | rfl := lt4 hi <;> obtain rfl | rfl | rfl | rfl := lt4 hj <;> first | rfl | exact absurd rfl h
theorem P4.set {w : World} {k : Nat} {m : X} (h : P4 w k m) {i : Nat} (hi : i < 4) (v : Int) : P4 (w.setCell ⟨k, i, none⟩ (.int .u8 v)) k (putC i v m) := by
  refine ⟨fun j hj => ?_, fun j => by rw [World.frozen?_setCell]; exact h.fz j⟩
  by_cases e : j = i
  · subst e
    rw [putC_same hi]
    exact World.cell?_setCell_same _ _ _ (h.c j hj)
  · rw [putC_other hi hj e, set_diff (by omega)]
    exact h.c j hj
/-- what is told so far -/
structure Xs (w : World) (k : Nat) (t : Bool) (c : Nat) (F : Int → X) (lo hi : Int) (kr kp i : Nat) (m : X) (wr : World) : Prop where
  s : Si wr k t c F (fun _ => lo) (fun _ => hi)
  r : Rc.Has4 wr kr (.int .u8 0) (.int .u8 0) (.int .u8 0) (.int .u8 0)
  p : P4 wr kp m
  e : ∀ j, j < i → Ext t (fun l => chn j (F l)) lo hi (chn j m)
  low : Below w.heap.size w wr
theorem Xs.below {w wr wr' : World} {k c kr kp i : Nat} {t : Bool} {F : Int → X} {lo hi : Int} {m : X} (h : Xs w k t c F lo hi kr kp i m wr) (hb : Below wr.heap.size wr wr') : Xs w k t c F lo hi kr kp i m wr' :=
  ⟨h.s.below hb, h.r.below hb, h.p.below hb, h.e, Rc.via h.low hb⟩
theorem Xs.set {w wr : World} {k c kr kp i : Nat} {t : Bool} {F : Int → X} {lo hi : Int} {m : X} (h : Xs w k t c F lo hi kr kp i m wr) (hi4 : i < 4) {v : Int} (hv : Ext t (fun l => chn i (F l)) lo hi v) (h1 : k ≠ kp) (h2 : kr ≠ kp) (h3 : w.heap.size ≤ kp) : Xs w k t c F lo hi kr kp (i + 1) (putC i v m) (wr.setCell ⟨kp, i, none⟩ (.int .u8 v)) := by
  have hb := but_cell wr kp i (.int .u8 v)
  refine ⟨h.s.but hb h1, has4_but h.r hb h2, h.p.set hi4 v, fun j hj => ?_, h.low.trans (hb.low h3 h.low.size)⟩
  by_cases e : j = i
  · subst e
    rw [putC_same hi4]
    exact hv
  · rw [putC_other hi4 (by omega) e]
    exact h.e j (by omega)

set_option maxRecDepth 100000 in
set_option maxHeartbeats 1000000 in
theorem sextreme_any (k c : Nat) (t : Bool) (F : Int → X) (lo hi : Int) (w : World) (h : Si w k t c F (fun _ => lo) (fun _ => hi)) (hb : ∀ i, byteX (F i)) (hl : lo < hi) :
    Calls Try.prog 54 #[.pointer (some ⟨k, 0, none⟩)] w fun e w' => ∃ m, e = .returned (.agg #[.int .u8 m.c0, .int .u8 m.c1, .int .u8 m.c2, .int .u8 m.c3]) ∧ Ext4 t F lo hi m ∧ Below w.heap.size w w' := by
  have hlt := h.lt
  have HB := hid hb
  have HU : Hid (Xs w k t c F lo hi w.heap.size (w.heap.size + 1) 0 noX ((w.alloc (.cells #[.int .u8 0, .int .u8 0, .int .u8 0, .int .u8 0] 33)).alloc (.cells #[.int .u8 0, .int .u8 0, .int .u8 0, .int .u8 0] 33))) := by
    have h0 : Below w.heap.size w ((w.alloc (.cells #[.int .u8 0, .int .u8 0, .int .u8 0, .int .u8 0] 33)).alloc (.cells #[.int .u8 0, .int .u8 0, .int .u8 0, .int .u8 0] 33)) := ((Below.refl _ _).alloc (Nat.le_refl _) _).alloc (by simp) _
    refine ⟨h.below h0, (Rc.Has4.new rfl _ _ _ _ _).alloc _, ?_, fun j hj => by omega, h0⟩
    have hn := Rc.Has4.new (W := w.alloc (.cells #[.int .u8 0, .int .u8 0, .int .u8 0, .int .u8 0] 33)) (k := w.heap.size + 1) (by simp) (.int .u8 0) (.int .u8 0) (.int .u8 0) (.int .u8 0) 33
    refine ⟨fun j hj => ?_, hn.fz⟩
    obtain rfl | rfl | rfl | rfl := lt4 hj
    · exact hn.c0
    · exact hn.c1
    · exact hn.c2
    · exact hn.c3
  clear h hb
  go_enter Try.func54, Try.ntmps54
  go_wp2
  go_loopg [5] 4 (fun g v5 wr => ∃ (i : Nat) (m : X), i ≤ 4 ∧ g = 4 - i ∧ v5 = .int .i64 i ∧ Xs w k t c F lo hi w.heap.size (w.heap.size + 1) i m wr)
  case atStart => exact ⟨0, noX, Nat.zero_le _, rfl, rfl, HU.out⟩
  case round =>
    clear HU
    obtain ⟨i, m, hi4, rfl, rfl, hS⟩ := hrel
    have HS := hid hS
    by_cases hil : i < 4
    · have hiz : (i : Int) < 4 := by omega
      have h1 := hS.s.t
      clear hS
      go_wp2
      go_region_with (go_at_call 58; with_reducible refine Calls.mono (qw_greatest k (i * 1026) c (fun j => tn t (chn i (F j))) lo hi _ ((HS.out.below (Below.refl _ _).drew).s.q i hil) hl) ?_; rintro e w1 ⟨v, rfl, hv, hb1⟩; have HS1 := hid (HS.out.below (Rc.via (Below.refl _ _).drew hb1)); have hxr : bits .xor .u8 v (tv t) = tn t v := xor_tn t (ext_byte hv (fun j => tn_byte t (chn_byte (HB.out j) i))); have HV := hid (ext_turn hv); have h2 := HS1.out.s.t; have h3 := HS1.out.p.c i hil; have h4 := HS1.out.p.fz i; clear hv hb1)
      all_goals
        go_wp2
        go_roundg (4 - (i + 1))
        case measure => omega
        case rel => exact ⟨i + 1, _, by omega, rfl, by simp, HS1.out.set hil HV.out (by omega) (by omega) (by omega)⟩
    · obtain rfl : i = 4 := by omega
      have c0 : wr.cell? ⟨w.heap.size + 1, 0, none⟩ = some (.int .u8 m.c0) := hS.p.c 0 (by omega)
      have c1 : wr.cell? ⟨w.heap.size + 1, 1, none⟩ = some (.int .u8 m.c1) := hS.p.c 1 (by omega)
      have c2 : wr.cell? ⟨w.heap.size + 1, 2, none⟩ = some (.int .u8 m.c2) := hS.p.c 2 (by omega)
      have c3 : wr.cell? ⟨w.heap.size + 1, 3, none⟩ = some (.int .u8 m.c3) := hS.p.c 3 (by omega)
      obtain ⟨r0, r1, r2, r3, rf⟩ := hS.r
      clear hS
      go_wp2
      obtain ⟨s0, s1, s2, s3⟩ := Rc.set4 r0 r1 r2 r3 (.int .u8 m.c0) (.int .u8 m.c1) (.int .u8 m.c2) (.int .u8 m.c3)
      refine bodyPost_ret (v := .agg #[.int .u8 m.c0, .int .u8 m.c1, .int .u8 m.c2, .int .u8 m.c3]) (by simp [results, Try.results54, go_sem, s0, s1, s2, s3]) rfl ⟨m, rfl, ⟨HS.out.e 0 (by omega), HS.out.e 1 (by omega), HS.out.e 2 (by omega), HS.out.e 3 (by omega)⟩, ?_⟩
      exact HS.out.low.trans ((but_set4 _ _ _ _ _ _).low (Nat.le_refl _) HS.out.low.size)
end Go.Proofs.Ytfkbdpbgeglgaaa
