/- What is handed in stays, whatever is written into what was answered; no condition. -/
import Derived.Test.YtkgacjbnblfhoaaRows
import Derived.WalkKit
import Derived.ProofKit
import Derived.OpenShut
import Derived.Test.YtkgacjbnblfhoaaOpen
import Derived.Test.YtkgacjbnblfhoaaHold
namespace Go.Proofs.Ytkgacjbnblfhoaa.rasterKeeps
open Go.ChangeShapes Go.WideShapes Go.ChangeAt Go.RowKit Num
set_option linter.unusedVariables false
set_option linter.unusedSimpArgs false

set_option maxRecDepth 100000 in
set_option maxHeartbeats 4000000 in
theorem walk (B : R) (ao : Option Addr) (n m g off : Nat) (l : List X) (F : R) (fo : Option Addr) (fn fm fg foff : Nat) (l' : List X) (A : R) (W : World) (h : Vx W ao n m g off l) (h' : Vx W fo fn fm fg foff l') :
    Calls Try.prog 5 #[.agg #[.int .i64 B.x0, .int .i64 B.y0, .int .i64 B.x1, .int .i64 B.y1, .slice ao n m], .agg #[.int .i64 F.x0, .int .i64 F.y0, .int .i64 F.x1, .int .i64 F.y1, .slice fo fn fm], .agg #[.int .i64 A.x0, .int .i64 A.y0, .int .i64 A.x1, .int .i64 A.y1]] W fun e w' => e = .returned (.bool true) ∧ Below W.heap.size W w' := by
  have hn := vx_small h
  have hfn := vx_small h'
  have HH := hid (And.intro h h')
  have HX : Hid (Bx W B F A ao n m fo fn fm (((W.alloc (.cells #[.int .i64 B.x0, .int .i64 B.y0, .int .i64 B.x1, .int .i64 B.y1, .slice ao n m] 26)).alloc (.cells #[.int .i64 F.x0, .int .i64 F.y0, .int .i64 F.x1, .int .i64 F.y1, .slice fo fn fm] 26)).alloc (.cells #[.int .i64 A.x0, .int .i64 A.y0, .int .i64 A.x1, .int .i64 A.y1] 23))) := bx_new W B F A ao n m fo fn fm
  have hR1 := bu_of (B := B) h
  have hR2 := bu_of (B := F) h'
  clear h h'
  obtain ⟨b0, b1, b2, b3, b4, bf⟩ := HX.out.b
  obtain ⟨f0, f1, f2, f3, f4, ff⟩ := HX.out.f
  obtain ⟨r0, r1, r2, r3, rf⟩ := HX.out.r
  rcases h1 : rightS ⟨B.x0, B.y0, B.x1, B.y1⟩ n with _ | _
  · have HR := hid (And.intro h1 (And.intro trivial trivial))
    clear h1 hR1 hR2
    go_enter Try.func5, Try.ntmps5
    go_wp2_with (first | (go_at_call 6; with_reducible refine Calls.mono (awake_any _) ?_; rintro e wc ⟨rfl, hb⟩; replace HX := hid (HX.out.below hb); clear hb; clear b0 b1 b2 b3 b4 bf f0 f1 f2 f3 f4 ff r0 r1 r2 r3 rf; obtain ⟨b0, b1, b2, b3, b4, bf⟩ := HX.out.b; obtain ⟨f0, f1, f2, f3, f4, ff⟩ := HX.out.f; obtain ⟨r0, r1, r2, r3, rf⟩ := HX.out.r) | (go_at_call 7; with_reducible refine Calls.mono (right_any B.x0 B.y0 B.x1 B.y1 ao n m _ hn) ?_; rintro e wc ⟨rfl, hb⟩; rw [HR.out.1]; replace HX := hid (HX.out.below hb); clear hb; clear b0 b1 b2 b3 b4 bf f0 f1 f2 f3 f4 ff r0 r1 r2 r3 rf; obtain ⟨b0, b1, b2, b3, b4, bf⟩ := HX.out.b; obtain ⟨f0, f1, f2, f3, f4, ff⟩ := HX.out.f; obtain ⟨r0, r1, r2, r3, rf⟩ := HX.out.r))
    go_ret
    exact ⟨rfl, HX.out.low⟩
  rcases h2 : rightS ⟨F.x0, F.y0, F.x1, F.y1⟩ fn with _ | _
  · have HR := hid (And.intro h1 (And.intro h2 trivial))
    clear h1 h2 hR1 hR2
    go_enter Try.func5, Try.ntmps5
    go_wp2_with (first | (go_at_call 6; with_reducible refine Calls.mono (awake_any _) ?_; rintro e wc ⟨rfl, hb⟩; replace HX := hid (HX.out.below hb); clear hb; clear b0 b1 b2 b3 b4 bf f0 f1 f2 f3 f4 ff r0 r1 r2 r3 rf; obtain ⟨b0, b1, b2, b3, b4, bf⟩ := HX.out.b; obtain ⟨f0, f1, f2, f3, f4, ff⟩ := HX.out.f; obtain ⟨r0, r1, r2, r3, rf⟩ := HX.out.r) | (go_at_call 7; with_reducible refine Calls.mono (right_any B.x0 B.y0 B.x1 B.y1 ao n m _ hn) ?_; rintro e wc ⟨rfl, hb⟩; rw [HR.out.1]; replace HX := hid (HX.out.below hb); clear hb; clear b0 b1 b2 b3 b4 bf f0 f1 f2 f3 f4 ff r0 r1 r2 r3 rf; obtain ⟨b0, b1, b2, b3, b4, bf⟩ := HX.out.b; obtain ⟨f0, f1, f2, f3, f4, ff⟩ := HX.out.f; obtain ⟨r0, r1, r2, r3, rf⟩ := HX.out.r) | (go_at_call 7; with_reducible refine Calls.mono (right_any F.x0 F.y0 F.x1 F.y1 fo fn fm _ hfn) ?_; rintro e wc ⟨rfl, hb⟩; rw [HR.out.2.1]; replace HX := hid (HX.out.below hb); clear hb; clear b0 b1 b2 b3 b4 bf f0 f1 f2 f3 f4 ff r0 r1 r2 r3 rf; obtain ⟨b0, b1, b2, b3, b4, bf⟩ := HX.out.b; obtain ⟨f0, f1, f2, f3, f4, ff⟩ := HX.out.f; obtain ⟨r0, r1, r2, r3, rf⟩ := HX.out.r))
    go_ret
    exact ⟨rfl, HX.out.low⟩
  rcases h3 : littleB ⟨A.x0, A.y0, A.x1, A.y1⟩ 5000 with _ | _
  · have HR := hid (And.intro h1 (And.intro h2 h3))
    clear h1 h2 h3 hR1 hR2
    go_enter Try.func5, Try.ntmps5
    go_wp2_with (first | (go_at_call 6; with_reducible refine Calls.mono (awake_any _) ?_; rintro e wc ⟨rfl, hb⟩; replace HX := hid (HX.out.below hb); clear hb; clear b0 b1 b2 b3 b4 bf f0 f1 f2 f3 f4 ff r0 r1 r2 r3 rf; obtain ⟨b0, b1, b2, b3, b4, bf⟩ := HX.out.b; obtain ⟨f0, f1, f2, f3, f4, ff⟩ := HX.out.f; obtain ⟨r0, r1, r2, r3, rf⟩ := HX.out.r) | (go_at_call 7; with_reducible refine Calls.mono (right_any B.x0 B.y0 B.x1 B.y1 ao n m _ hn) ?_; rintro e wc ⟨rfl, hb⟩; rw [HR.out.1]; replace HX := hid (HX.out.below hb); clear hb; clear b0 b1 b2 b3 b4 bf f0 f1 f2 f3 f4 ff r0 r1 r2 r3 rf; obtain ⟨b0, b1, b2, b3, b4, bf⟩ := HX.out.b; obtain ⟨f0, f1, f2, f3, f4, ff⟩ := HX.out.f; obtain ⟨r0, r1, r2, r3, rf⟩ := HX.out.r) | (go_at_call 7; with_reducible refine Calls.mono (right_any F.x0 F.y0 F.x1 F.y1 fo fn fm _ hfn) ?_; rintro e wc ⟨rfl, hb⟩; rw [HR.out.2.1]; replace HX := hid (HX.out.below hb); clear hb; clear b0 b1 b2 b3 b4 bf f0 f1 f2 f3 f4 ff r0 r1 r2 r3 rf; obtain ⟨b0, b1, b2, b3, b4, bf⟩ := HX.out.b; obtain ⟨f0, f1, f2, f3, f4, ff⟩ := HX.out.f; obtain ⟨r0, r1, r2, r3, rf⟩ := HX.out.r) | (go_at_call 16; with_reducible refine Calls.mono (little_any A.x0 A.y0 A.x1 A.y1 5000 _) ?_; rintro e wc ⟨rfl, hb⟩; rw [HR.out.2.2]; replace HX := hid (HX.out.below hb); clear hb; clear b0 b1 b2 b3 b4 bf f0 f1 f2 f3 f4 ff r0 r1 r2 r3 rf; obtain ⟨b0, b1, b2, b3, b4, bf⟩ := HX.out.b; obtain ⟨f0, f1, f2, f3, f4, ff⟩ := HX.out.f; obtain ⟨r0, r1, r2, r3, rf⟩ := HX.out.r))
    go_ret
    exact ⟨rfl, HX.out.low⟩
  have HR := hid (And.intro h1 (And.intro h2 h3))
  have HUB := hid (hR1 h1)
  have HUF := hid (hR2 h2)
  have HUA := hid (little_of h3)
  obtain ⟨f, hf⟩ : ∃ f, f = unimg B l := ⟨_, rfl⟩
  obtain ⟨E, hE⟩ : ∃ E, E = unimg F l' := ⟨_, rfl⟩
  have HI : Hid (l = img B f ∧ l' = img F E) := by
    rw [hf, hE]
    exact ⟨HUB.out.img, HUF.out.img⟩
  have hn5 : n ≤ 5000 := by have := HUB.out.small; omega
  have hfn5 : fn ≤ 5000 := by have := HUF.out.small; omega
  have z0 : (-4398046511104 : Int) ≤ 0 ∧ (0 : Int) ≤ 4398046511104 := by omega
  have HZ := hid z0
  clear h1 h2 h3 hR1 hR2 hf hE z0
  obtain ⟨e1, e2⟩ := HI.out
  clear HI
  subst e1
  subst e2
  obtain ⟨Q, hQ⟩ : ∃ Q, Q = orN ⟨A.x0, A.y0, A.x1, A.y1⟩ := ⟨_, rfl⟩
  have HQ := hid hQ
  have HUQ : Hid (bufB Q (wid Q * hei Q) = true ∧ wid Q * hei Q ≤ 5000) := by
    have := buf_new HUA.out.1 HUA.out.2
    rw [hQ]
    exact ⟨this.1, this.2.1⟩
  clear hQ
  go_enter Try.func5, Try.ntmps5
  go_wp2_with (first
    | (go_at_call 6; with_reducible refine Calls.mono (awake_any _) ?_; rintro e wc ⟨rfl, hb⟩; replace HX := hid (HX.out.below hb); clear hb; clear b0 b1 b2 b3 b4 bf f0 f1 f2 f3 f4 ff r0 r1 r2 r3 rf; obtain ⟨b0, b1, b2, b3, b4, bf⟩ := HX.out.b; obtain ⟨f0, f1, f2, f3, f4, ff⟩ := HX.out.f; obtain ⟨r0, r1, r2, r3, rf⟩ := HX.out.r)
    | (go_at_call 7; with_reducible refine Calls.mono (right_any B.x0 B.y0 B.x1 B.y1 ao n m _ hn) ?_; rintro e wc ⟨rfl, hb⟩; rw [HR.out.1]; replace HX := hid (HX.out.below hb); clear hb; clear b0 b1 b2 b3 b4 bf f0 f1 f2 f3 f4 ff r0 r1 r2 r3 rf; obtain ⟨b0, b1, b2, b3, b4, bf⟩ := HX.out.b; obtain ⟨f0, f1, f2, f3, f4, ff⟩ := HX.out.f; obtain ⟨r0, r1, r2, r3, rf⟩ := HX.out.r)
    | (go_at_call 7; with_reducible refine Calls.mono (right_any F.x0 F.y0 F.x1 F.y1 fo fn fm _ hfn) ?_; rintro e wc ⟨rfl, hb⟩; rw [HR.out.2.1]; replace HX := hid (HX.out.below hb); clear hb; clear b0 b1 b2 b3 b4 bf f0 f1 f2 f3 f4 ff r0 r1 r2 r3 rf; obtain ⟨b0, b1, b2, b3, b4, bf⟩ := HX.out.b; obtain ⟨f0, f1, f2, f3, f4, ff⟩ := HX.out.f; obtain ⟨r0, r1, r2, r3, rf⟩ := HX.out.r)
    | (go_at_call 16; with_reducible refine Calls.mono (little_any A.x0 A.y0 A.x1 A.y1 5000 _) ?_; rintro e wc ⟨rfl, hb⟩; rw [HR.out.2.2]; replace HX := hid (HX.out.below hb); clear hb; clear b0 b1 b2 b3 b4 bf f0 f1 f2 f3 f4 ff r0 r1 r2 r3 rf; obtain ⟨b0, b1, b2, b3, b4, bf⟩ := HX.out.b; obtain ⟨f0, f1, f2, f3, f4, ff⟩ := HX.out.f; obtain ⟨r0, r1, r2, r3, rf⟩ := HX.out.r)
    | (go_at_call 10; with_reducible refine Calls.mono (copied_any F fo fn fm fg foff (img F E) _ hfn5 (HH.out.2.below HX.out.low)) ?_; rintro e w5 ⟨hr, hb⟩; obtain ⟨wo, wn, wk, wg, woff, rfl, hO, hg1, hg2, hln⟩ := retG hr; have HWA := hid (bf_new (B := F) hO hg1 hg2); have hwn := (vx_len HH.out.2).symm.trans hln; subst hwn; replace HX := hid ((HX.out.below hb).below ((Below.refl _ _).alloc (Nat.le_refl _) (.cells #[.int .i64 F.x0, .int .i64 F.y0, .int .i64 F.x1, .int .i64 F.y1, .slice wo fn wk] 26))); clear hb hr hO hg1 hg2 hln; clear b0 b1 b2 b3 b4 bf f0 f1 f2 f3 f4 ff r0 r1 r2 r3 rf; obtain ⟨b0, b1, b2, b3, b4, bf⟩ := HX.out.b; obtain ⟨f0, f1, f2, f3, f4, ff⟩ := HX.out.f; obtain ⟨r0, r1, r2, r3, rf⟩ := HX.out.r)
    | (go_at_call 10; with_reducible refine Calls.mono (copied_any B ao n m g off (img B f) _ hn5 (HH.out.1.below HX.out.low)) ?_; rintro e w6 ⟨hr, hb⟩; obtain ⟨co, cn, ck, cg, coff, rfl, hO, hg1, hg2, hln⟩ := retG hr; have HCB := hid (bf_new (B := B) hO hg1 hg2); have hcn := (vx_len HH.out.1).symm.trans hln; subst hcn; have hc1 := Nat.le_trans HWA.out.sz hg1; have hc2 := Nat.le_trans HX.out.sz hg1; have hc3 := Nat.le_trans HX.out.low.size hg1; replace HWA := hid ((HWA.out.below hb).below ((Below.refl _ _).alloc (Nat.le_refl _) (.cells #[.int .i64 B.x0, .int .i64 B.y0, .int .i64 B.x1, .int .i64 B.y1, .slice co n ck] 26))); replace HX := hid ((HX.out.below hb).below ((Below.refl _ _).alloc (Nat.le_refl _) (.cells #[.int .i64 B.x0, .int .i64 B.y0, .int .i64 B.x1, .int .i64 B.y1, .slice co n ck] 26))); clear hb hr hO hg1 hg2 hln; clear b0 b1 b2 b3 b4 bf f0 f1 f2 f3 f4 ff r0 r1 r2 r3 rf; obtain ⟨b0, b1, b2, b3, b4, bf⟩ := HX.out.b; obtain ⟨f0, f1, f2, f3, f4, ff⟩ := HX.out.f; obtain ⟨r0, r1, r2, r3, rf⟩ := HX.out.r)
    | (go_at_call 12; with_reducible refine Calls.mono (copy_any _ w6.heap.size cg coff n ck co B f F fo fn fm fg foff E A.x0 A.y0 A.x1 A.y1 0 0 _ hn5 HUB.out.buf HCB.out.h HCB.out.o HCB.out.kg hfn5 HUF.out.buf (HH.out.2.below HX.out.low) (fun _ h0 => Nat.ne_of_lt (Nat.lt_of_lt_of_le (vx_lt HH.out.2 h0) hc3)) HZ.out HZ.out) ?_; rintro e w7 ⟨rfl, h5, hO, hbu⟩; replace HCB := hid (HCB.out.wrote h5 hO hbu); replace HWA := hid (HWA.out.but hbu hc1); replace HX := hid (HX.out.but hbu hc2); clear h5 hO hbu; clear b0 b1 b2 b3 b4 bf f0 f1 f2 f3 f4 ff r0 r1 r2 r3 rf; obtain ⟨b0, b1, b2, b3, b4, bf⟩ := HX.out.b; obtain ⟨f0, f1, f2, f3, f4, ff⟩ := HX.out.f; obtain ⟨r0, r1, r2, r3, rf⟩ := HX.out.r)
    | (go_at_call 17; with_reducible refine Calls.mono (window_any F fo fn fm fg foff E A.x0 A.y0 A.x1 A.y1 _ hfn5 HUF.out.buf (HH.out.2.below HX.out.low) HUA.out.1 HUA.out.2) ?_; rintro e w8 ⟨hr, hb⟩; rw [← HQ.out] at hr; obtain ⟨vo, vn, vk, vg, voff, rfl, hO, hg1, hg2, hln⟩ := retG hr; rw [img_len] at hln; have HVN := hid hln; have HVB := hid (bf_new (B := Q) hO hg1 hg2); have hv1 := Nat.le_trans HWA.out.sz hg1; have hv2 := Nat.le_trans HX.out.sz hg1; have hv3 := Nat.le_trans HCB.out.sz hg1; replace HWA := hid ((HWA.out.below hb).below ((Below.refl _ _).alloc (Nat.le_refl _) (.cells #[.int .i64 Q.x0, .int .i64 Q.y0, .int .i64 Q.x1, .int .i64 Q.y1, .slice vo vn vk] 26))); replace HCB := hid ((HCB.out.below hb).below ((Below.refl _ _).alloc (Nat.le_refl _) (.cells #[.int .i64 Q.x0, .int .i64 Q.y0, .int .i64 Q.x1, .int .i64 Q.y1, .slice vo vn vk] 26))); replace HX := hid ((HX.out.below hb).below ((Below.refl _ _).alloc (Nat.le_refl _) (.cells #[.int .i64 Q.x0, .int .i64 Q.y0, .int .i64 Q.x1, .int .i64 Q.y1, .slice vo vn vk] 26))); clear hb hr hO hg1 hg2 hln; clear b0 b1 b2 b3 b4 bf f0 f1 f2 f3 f4 ff r0 r1 r2 r3 rf; obtain ⟨b0, b1, b2, b3, b4, bf⟩ := HX.out.b; obtain ⟨f0, f1, f2, f3, f4, ff⟩ := HX.out.f; obtain ⟨r0, r1, r2, r3, rf⟩ := HX.out.r)
    | (go_at_call 11; with_reducible refine Calls.mono (fill_any _ w8.heap.size vg voff vn vk vo Q _ A.x0 A.y0 A.x1 A.y1 ⟨9, 9, 9, 9⟩ _ (HVN.out ▸ HUQ.out.2) (HVN.out ▸ HUQ.out.1) HVB.out.h HVB.out.o HVB.out.kg) ?_; rintro e w9 ⟨rfl, h5, hO, hbu⟩; replace HCB := hid (HCB.out.but hbu hv3); replace HWA := hid (HWA.out.but hbu hv1); replace HX := hid (HX.out.but hbu hv2); clear h5 hO hbu HVB; clear b0 b1 b2 b3 b4 bf f0 f1 f2 f3 f4 ff r0 r1 r2 r3 rf; obtain ⟨b0, b1, b2, b3, b4, bf⟩ := HX.out.b; obtain ⟨f0, f1, f2, f3, f4, ff⟩ := HX.out.f; obtain ⟨r0, r1, r2, r3, rf⟩ := HX.out.r)
    | (go_at_call 11; with_reducible refine Calls.mono (fill_any _ w6.heap.size cg coff n ck co B _ A.x0 A.y0 A.x1 A.y1 ⟨9, 9, 9, 9⟩ _ hn5 HUB.out.buf HCB.out.h HCB.out.o HCB.out.kg) ?_; rintro e w10 ⟨rfl, h5, hO, hbu⟩; replace HWA := hid (HWA.out.but hbu hc1); replace HX := hid (HX.out.but hbu hc2); clear h5 hO hbu HCB; clear b0 b1 b2 b3 b4 bf f0 f1 f2 f3 f4 ff r0 r1 r2 r3 rf; obtain ⟨b0, b1, b2, b3, b4, bf⟩ := HX.out.b; obtain ⟨f0, f1, f2, f3, f4, ff⟩ := HX.out.f; obtain ⟨r0, r1, r2, r3, rf⟩ := HX.out.r; obtain ⟨t0, t1, t2, t3, t4, tf⟩ := HWA.out.h)
    | (go_at_call 13; with_reducible refine Calls.mono (same_yes F fo fn fm fg foff wo wk wg woff (img F E) _ (HH.out.2.below HX.out.low) HWA.out.o.v) ?_; rintro e w11 ⟨rfl, hb⟩; replace HX := hid (HX.out.below hb); clear hb))
  go_ret
  exact ⟨rfl, HX.out.low⟩

theorem own : ownKnob Try.prog.godebug = none := by kernel_rfl

set_option maxRecDepth 100000 in
theorem lifted (os : Os) (started : os.Started) (H : Type) (enc : TypeId × Value → H) :
    ReturnsInHanded {} Try.checked os 5 .any (Rows.rasterKeepsSpec.pre6 enc Try.prog Try.f5 Rows.rasterKeepsRow.domain false) (Rows.rasterKeepsSpec.post enc Try.prog Try.f5 false true false false) := by
  refine returnsInHanded_of_change (C := Try.checked) own started (by kernel_rfl) Try.func5
    (ChangeSpec.witness6 (enc := enc) (C := Try.checked) false ⟨#[], #[.agg #[.int .i64 0, .int .i64 0, .int .i64 0, .int .i64 0, .slice none 0 0], .agg #[.int .i64 0, .int .i64 0, .int .i64 0, .int .i64 0, .slice none 0 0], .agg #[.int .i64 0, .int .i64 0, .int .i64 0, .int .i64 0]], []⟩ 8 (by kernel_rfl) (by kernel_rfl) (by kernel_rfl) (by kernel_rfl)) ?_
  intro W base args ds gs before hval0 hW hcnd _
  have hval : ∀ (j : Nat) t v, Try.f5.params[j]? = some t → args[j]? = some v → Value.okWide Try.prog W .any base t v := hval0
  have hW' := hW
  obtain ⟨p, q, hA0, hV, rfl, hfz, hnd⟩ := hW
  have hA : DataW.TrodAll enc Try.prog W 0 (fun _ => true) true Try.f5.params.toList args.toList ds p := hA0
  rw [Try.params5] at hA hval
  obtain ⟨v0, vs0, d0, ds0, p0, q0, hargs, rfl, rfl, h0, r0⟩ := trodAll_cons hA
  obtain ⟨v1, vs1, d1, ds1, p1, q1, rfl, rfl, rfl, h1, r1⟩ := trodAll_cons r0
  obtain ⟨v2, vs2, d2, ds2, p2, q2, rfl, rfl, rfl, h2, r2⟩ := trodAll_cons r1
  obtain ⟨rfl, rfl, rfl⟩ := trodAll_nil r2
  obtain rfl : args = #[v0, v1, v2] := by cases args; simp_all
  obtain ⟨rfl, rfl⟩ := trodVars_none hV
  obtain ⟨B, ao, n, c, g, off, l, rfl, hv0⟩ := open_buf (hval 0 26 v0 rfl rfl) h0
  obtain ⟨F, fo, fn, fc, fg, foff, l', rfl, hv1⟩ := open_buf (hval 1 26 v1 rfl rfl) h1
  obtain ⟨A, rfl⟩ := open_rect (hval 2 23 v2 rfl rfl) h2
  clear hA0 hval0
  simp only [List.append_nil] at hW'
  have hlt : ∀ x ∈ p0 ++ (p1 ++ (p2)), x.block < W.heap.size := fun x hx => by simpa using hW'.lt x (by simpa using hx)
  refine (walk B ao n c g off l F fo fn fc fg foff l' A W hv0 hv1).mono fun e W' ⟨he, hg⟩ => ?_
  subst he
  have t0 := Below.trod laidOut (by kernel_rfl) (of_decide_eq_true (by kernel_rfl)) h0 hg (fun x hx => hlt x (List.mem_append_left _ hx))
  have t1 := Below.trod laidOut (by kernel_rfl) (of_decide_eq_true (by kernel_rfl)) h1 hg (fun x hx => hlt x (List.mem_append_right _ (List.mem_append_left _ hx)))
  have t2 := Below.trod laidOut (by kernel_rfl) (of_decide_eq_true (by kernel_rfl)) h2 hg (fun x hx => hlt x (List.mem_append_right _ (List.mem_append_right _ (hx))))
  exact ⟨_, rfl, ⟨_, _, _, _, _, _, hW', (trodAll_cons_mk (shut_bool Try.underlying4 _) trodAll_mk0), (trodAll_cons_mk t0 (trodAll_cons_mk t1 (trodAll_cons_mk t2 trodAll_mk0))), rfl, hg.frame _, fun h => by cases h⟩⟩

theorem over : Rows.rasterKeepsRow.holds Try.pinned (OpenSpec.ofChange Rows.rasterKeepsSpec) :=
  OpenClaim.holds_of_wide 5 Try.f5 rfl rfl rfl rfl rfl rfl rfl ⟨rfl, rfl, rfl, rfl, rfl⟩ rfl rfl rfl rfl rfl (by kernel_rfl) Try.func5 (by kernel_rfl)
    (of_decide_eq_true (by kernel_rfl)) (by unfold Func.isWrapper; first | (rw [if_pos (by decide +kernel)]; kernel_rfl) | (rw [if_neg (by decide +kernel)]; exact ⟨rfl, rfl⟩))
    (fun os started H enc _ => lifted os started H enc)

theorem proved : Rows.RasterKeepsSaid := over
#print axioms proved
end Go.Proofs.Ytkgacjbnblfhoaa.rasterKeeps
