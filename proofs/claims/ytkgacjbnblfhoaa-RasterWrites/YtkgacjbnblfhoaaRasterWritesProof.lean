/- What Fill, Copy and Window make of right buffers is what the document says; no condition. -/
import Derived.Test.YtkgacjbnblfhoaaRows
import Derived.WalkKit
import Derived.ProofKit
import Derived.OpenShut
import Derived.Test.YtkgacjbnblfhoaaOpen
import Derived.Test.YtkgacjbnblfhoaaHoldW
namespace Go.Proofs.Ytkgacjbnblfhoaa.rasterWrites
open Go.ChangeShapes Go.WideShapes Go.ChangeAt Go.RowKit Num
set_option linter.unusedVariables false
set_option linter.unusedSimpArgs false

theorem near_of {n : Int} (h : nearB n = true) : -4398046511104 ≤ n ∧ n ≤ 4398046511104 := of_decide_eq_true h

set_option maxRecDepth 100000 in
set_option maxHeartbeats 4000000 in
theorem walkF (B : R) (ao : Option Addr) (n m g off : Nat) (l : List X) (F : R) (fo : Option Addr) (fn fm fg foff : Nat) (l' : List X) (A : R) (dx dy : Int) (p : X) (W : World) (h : Vx W ao n m g off l) (h' : Vx W fo fn fm fg foff l') (h1 : rightS ⟨B.x0, B.y0, B.x1, B.y1⟩ n = true) (h2 : rightS ⟨F.x0, F.y0, F.x1, F.y1⟩ fn = true) (h3 : rightB ⟨A.x0, A.y0, A.x1, A.y1⟩ = true) (h4 : nearB dx = true) (h5 : nearB dy = true) (hL : littleB ⟨A.x0, A.y0, A.x1, A.y1⟩ 5000 = false) :
    Calls Try.prog 3 #[.agg #[.int .i64 B.x0, .int .i64 B.y0, .int .i64 B.x1, .int .i64 B.y1, .slice ao n m], .agg #[.int .i64 F.x0, .int .i64 F.y0, .int .i64 F.x1, .int .i64 F.y1, .slice fo fn fm], .agg #[.int .i64 A.x0, .int .i64 A.y0, .int .i64 A.x1, .int .i64 A.y1], .int .i64 dx, .int .i64 dy, .agg #[.int .u8 p.c0, .int .u8 p.c1, .int .u8 p.c2, .int .u8 p.c3]] W fun e w' => e = .returned (.bool true) ∧ Below W.heap.size W w' := by
  have hn := vx_small h
  have hfn := vx_small h'
  have HH := hid (And.intro h h')
  have HX : Hid (By W B F A p ao n m fo fn fm ((((W.alloc (.cells #[.int .i64 B.x0, .int .i64 B.y0, .int .i64 B.x1, .int .i64 B.y1, .slice ao n m] 26)).alloc (.cells #[.int .i64 F.x0, .int .i64 F.y0, .int .i64 F.x1, .int .i64 F.y1, .slice fo fn fm] 26)).alloc (.cells #[.int .i64 A.x0, .int .i64 A.y0, .int .i64 A.x1, .int .i64 A.y1] 23)).alloc (.cells #[.int .u8 p.c0, .int .u8 p.c1, .int .u8 p.c2, .int .u8 p.c3] 28))) := by_new W B F A p ao n m fo fn fm
  have hR1 := bu_of (B := B) h
  have hR2 := bu_of (B := F) h'
  clear h h'
  obtain ⟨b0, b1, b2, b3, b4, bf⟩ := HX.out.b
  obtain ⟨f0, f1, f2, f3, f4, ff⟩ := HX.out.f
  obtain ⟨r0, r1, r2, r3, rf⟩ := HX.out.r
  obtain ⟨x0, x1, x2, x3, xf⟩ := HX.out.p
  have HL0 := hid hL
  clear hL
  have HR := hid (And.intro h1 (And.intro h2 (And.intro h3 (And.intro h4 h5))))
  have HUB := hid (hR1 h1)
  have HUF := hid (hR2 h2)
  have HUA := hid (ok_of_right h3)
  have HZX := hid (near_of h4)
  have HZY := hid (near_of h5)
  obtain ⟨f, hf⟩ : ∃ f, f = unimg B l := ⟨_, rfl⟩
  obtain ⟨E, hE⟩ : ∃ E, E = unimg F l' := ⟨_, rfl⟩
  have HI : Hid (l = img B f ∧ l' = img F E) := by
    rw [hf, hE]
    exact ⟨HUB.out.img, HUF.out.img⟩
  have hn5 : n ≤ 5000 := by have := HUB.out.small; omega
  have hfn5 : fn ≤ 5000 := by have := HUF.out.small; omega
  clear h1 h2 h3 h4 h5 hR1 hR2 hf hE
  obtain ⟨e1, e2⟩ := HI.out
  clear HI
  subst e1
  subst e2
  go_enter Try.func3, Try.ntmps3
  go_wp2_with (first
    | (go_at_call 6; with_reducible refine Calls.mono (awake_any _) ?_; rintro e wc ⟨rfl, hb⟩; replace HX := hid (HX.out.below hb); clear hb; clear b0 b1 b2 b3 b4 bf f0 f1 f2 f3 f4 ff r0 r1 r2 r3 rf x0 x1 x2 x3 xf; obtain ⟨b0, b1, b2, b3, b4, bf⟩ := HX.out.b; obtain ⟨f0, f1, f2, f3, f4, ff⟩ := HX.out.f; obtain ⟨r0, r1, r2, r3, rf⟩ := HX.out.r; obtain ⟨x0, x1, x2, x3, xf⟩ := HX.out.p)
    | (go_at_call 7; with_reducible refine Calls.mono (right_any B.x0 B.y0 B.x1 B.y1 ao n m _ hn) ?_; rintro e wc ⟨rfl, hb⟩; rw [HR.out.1]; replace HX := hid (HX.out.below hb); clear hb; clear b0 b1 b2 b3 b4 bf f0 f1 f2 f3 f4 ff r0 r1 r2 r3 rf x0 x1 x2 x3 xf; obtain ⟨b0, b1, b2, b3, b4, bf⟩ := HX.out.b; obtain ⟨f0, f1, f2, f3, f4, ff⟩ := HX.out.f; obtain ⟨r0, r1, r2, r3, rf⟩ := HX.out.r; obtain ⟨x0, x1, x2, x3, xf⟩ := HX.out.p)
    | (go_at_call 7; with_reducible refine Calls.mono (right_any F.x0 F.y0 F.x1 F.y1 fo fn fm _ hfn) ?_; rintro e wc ⟨rfl, hb⟩; rw [HR.out.2.1]; replace HX := hid (HX.out.below hb); clear hb; clear b0 b1 b2 b3 b4 bf f0 f1 f2 f3 f4 ff r0 r1 r2 r3 rf x0 x1 x2 x3 xf; obtain ⟨b0, b1, b2, b3, b4, bf⟩ := HX.out.b; obtain ⟨f0, f1, f2, f3, f4, ff⟩ := HX.out.f; obtain ⟨r0, r1, r2, r3, rf⟩ := HX.out.r; obtain ⟨x0, x1, x2, x3, xf⟩ := HX.out.p)
    | (go_at_call 8; with_reducible refine Calls.mono (Rc.right_any A.x0 A.y0 A.x1 A.y1 _) ?_; rintro e wc ⟨rfl, hb⟩; rw [HR.out.2.2.1]; replace HX := hid (HX.out.below hb); clear hb; clear b0 b1 b2 b3 b4 bf f0 f1 f2 f3 f4 ff r0 r1 r2 r3 rf x0 x1 x2 x3 xf; obtain ⟨b0, b1, b2, b3, b4, bf⟩ := HX.out.b; obtain ⟨f0, f1, f2, f3, f4, ff⟩ := HX.out.f; obtain ⟨r0, r1, r2, r3, rf⟩ := HX.out.r; obtain ⟨x0, x1, x2, x3, xf⟩ := HX.out.p)
    | (go_at_call 9; with_reducible refine Calls.mono (Rc.near_any dx _) ?_; rintro e wd ⟨rfl, hw⟩; replace hw := hw.symm; subst hw; rw [HR.out.2.2.2.1]; have D1 := hid trivial)
    | (go_at_call 9; with_reducible refine Calls.mono (Rc.near_any dy _) ?_; rintro e wd ⟨rfl, hw⟩; replace hw := hw.symm; subst hw; rw [HR.out.2.2.2.2])
    | (go_at_call 10; with_reducible refine Calls.mono (copied_any B ao n m g off (img B f) _ hn5 (HH.out.1.below HX.out.low)) ?_; (fail_if_success have := HUF1); rintro e w5 ⟨hr, hb⟩; obtain ⟨uo, un, uk, ug, uoff, rfl, hO, hg1, hg2, hln⟩ := retG hr; have HUF1 := hid (bf_new (B := B) hO hg1 hg2); have hun := (vx_len HH.out.1).symm.trans hln; subst hun; have hu2 := Nat.le_trans HX.out.sz hg1; replace HX := hid ((HX.out.below hb).below ((Below.refl _ _).alloc (Nat.le_refl _) (.cells #[.int .i64 B.x0, .int .i64 B.y0, .int .i64 B.x1, .int .i64 B.y1, .slice uo n uk] 26))); clear hb hr hO hg1 hg2 hln; clear b0 b1 b2 b3 b4 bf f0 f1 f2 f3 f4 ff r0 r1 r2 r3 rf x0 x1 x2 x3 xf; obtain ⟨b0, b1, b2, b3, b4, bf⟩ := HX.out.b; obtain ⟨f0, f1, f2, f3, f4, ff⟩ := HX.out.f; obtain ⟨r0, r1, r2, r3, rf⟩ := HX.out.r; obtain ⟨x0, x1, x2, x3, xf⟩ := HX.out.p)
    | (go_at_call 11; with_reducible refine Calls.mono (fill_any _ w5.heap.size ug uoff n uk uo B f A.x0 A.y0 A.x1 A.y1 p _ hn5 HUB.out.buf HUF1.out.h HUF1.out.o HUF1.out.kg) ?_; rintro e w6 ⟨rfl, h5, hO, hbu⟩; replace HUF1 := hid (HUF1.out.wrote h5 hO hbu); replace HX := hid (HX.out.but hbu hu2); clear h5 hO hbu; clear b0 b1 b2 b3 b4 bf f0 f1 f2 f3 f4 ff r0 r1 r2 r3 rf x0 x1 x2 x3 xf; obtain ⟨b0, b1, b2, b3, b4, bf⟩ := HX.out.b; obtain ⟨f0, f1, f2, f3, f4, ff⟩ := HX.out.f; obtain ⟨r0, r1, r2, r3, rf⟩ := HX.out.r; obtain ⟨x0, x1, x2, x3, xf⟩ := HX.out.p)
    | (go_at_call 10; with_reducible refine Calls.mono (copied_any B ao n m g off (img B f) _ hn5 (HH.out.1.below HX.out.low)) ?_; rintro e w7 ⟨hr, hb⟩; obtain ⟨co, cn, ck, cg, coff, rfl, hO, hg1, hg2, hln⟩ := retG hr; have HCB := hid (bf_new (B := B) hO hg1 hg2); have hcn := (vx_len HH.out.1).symm.trans hln; subst hcn; have hc1 := Nat.le_trans HUF1.out.sz hg1; have hc2 := Nat.le_trans HX.out.sz hg1; have hc3 := Nat.le_trans HX.out.low.size hg1; replace HUF1 := hid ((HUF1.out.below hb).below ((Below.refl _ _).alloc (Nat.le_refl _) (.cells #[.int .i64 B.x0, .int .i64 B.y0, .int .i64 B.x1, .int .i64 B.y1, .slice co n ck] 26))); replace HX := hid ((HX.out.below hb).below ((Below.refl _ _).alloc (Nat.le_refl _) (.cells #[.int .i64 B.x0, .int .i64 B.y0, .int .i64 B.x1, .int .i64 B.y1, .slice co n ck] 26))); clear hb hr hO hg1 hg2 hln; clear b0 b1 b2 b3 b4 bf f0 f1 f2 f3 f4 ff r0 r1 r2 r3 rf x0 x1 x2 x3 xf; obtain ⟨b0, b1, b2, b3, b4, bf⟩ := HX.out.b; obtain ⟨f0, f1, f2, f3, f4, ff⟩ := HX.out.f; obtain ⟨r0, r1, r2, r3, rf⟩ := HX.out.r; obtain ⟨x0, x1, x2, x3, xf⟩ := HX.out.p)
    | (go_at_call 12; with_reducible refine Calls.mono (copy_any _ w7.heap.size cg coff n ck co B f F fo fn fm fg foff E A.x0 A.y0 A.x1 A.y1 dx dy _ hn5 HUB.out.buf HCB.out.h HCB.out.o HCB.out.kg hfn5 HUF.out.buf (HH.out.2.below HX.out.low) (fun _ h0 => Nat.ne_of_lt (Nat.lt_of_lt_of_le (vx_lt HH.out.2 h0) hc3)) HZX.out HZY.out) ?_; rintro e w8 ⟨rfl, h5, hO, hbu⟩; replace HCB := hid (HCB.out.wrote h5 hO hbu); replace HUF1 := hid (HUF1.out.but hbu hc1); replace HX := hid (HX.out.but hbu hc2); clear h5 hO hbu; clear b0 b1 b2 b3 b4 bf f0 f1 f2 f3 f4 ff r0 r1 r2 r3 rf x0 x1 x2 x3 xf; obtain ⟨b0, b1, b2, b3, b4, bf⟩ := HX.out.b; obtain ⟨f0, f1, f2, f3, f4, ff⟩ := HX.out.f; obtain ⟨r0, r1, r2, r3, rf⟩ := HX.out.r; obtain ⟨x0, x1, x2, x3, xf⟩ := HX.out.p))
  have hS : Sw W.heap.size w5.heap.size w7.heap.size B F A p ao n m fo fn fm uo uk co ck w8 := ⟨b0, b1, b2, b3, b4, f0, f1, f2, f3, f4, r0, r1, r2, r3, x0, x1, x2, x3, HUF1.out.h.c0, HUF1.out.h.c1, HUF1.out.h.c2, HUF1.out.h.c3, HUF1.out.h.c4, HCB.out.h.c0, HCB.out.h.c1, HCB.out.h.c2, HCB.out.h.c3, HCB.out.h.c4⟩
  clear b0 b1 b2 b3 b4 bf f0 f1 f2 f3 f4 ff r0 r1 r2 r3 rf x0 x1 x2 x3 xf
  replace HX := hid (HX.out.below (Below.refl _ _).drew)
  replace HUF1 := hid (HUF1.out.below (Below.refl _ _).drew)
  replace HCB := hid (HCB.out.below (Below.refl _ _).drew)
  have hL := HL0.out
  clear HL0
  have HL := hid hL
  clear hL
  refine wp_region_held_drew (S := (fun w' => w'.cell? ⟨W.heap.size, 0, none⟩ = some (.int .i64 B.x0) ∧ w'.cell? ⟨W.heap.size, 1, none⟩ = some (.int .i64 B.y0) ∧ w'.cell? ⟨W.heap.size, 2, none⟩ = some (.int .i64 B.x1) ∧ w'.cell? ⟨W.heap.size, 3, none⟩ = some (.int .i64 B.y1) ∧ w'.cell? ⟨W.heap.size, 4, none⟩ = some (.slice ao n m) ∧ w'.cell? ⟨(W.heap.size + 1), 0, none⟩ = some (.int .i64 F.x0) ∧ w'.cell? ⟨(W.heap.size + 1), 1, none⟩ = some (.int .i64 F.y0) ∧ w'.cell? ⟨(W.heap.size + 1), 2, none⟩ = some (.int .i64 F.x1) ∧ w'.cell? ⟨(W.heap.size + 1), 3, none⟩ = some (.int .i64 F.y1) ∧ w'.cell? ⟨(W.heap.size + 1), 4, none⟩ = some (.slice fo fn fm) ∧ w'.cell? ⟨(W.heap.size + 1 + 1), 0, none⟩ = some (.int .i64 A.x0) ∧ w'.cell? ⟨(W.heap.size + 1 + 1), 1, none⟩ = some (.int .i64 A.y0) ∧ w'.cell? ⟨(W.heap.size + 1 + 1), 2, none⟩ = some (.int .i64 A.x1) ∧ w'.cell? ⟨(W.heap.size + 1 + 1), 3, none⟩ = some (.int .i64 A.y1) ∧ w'.cell? ⟨(W.heap.size + 1 + 1 + 1), 0, none⟩ = some (.int .u8 p.c0) ∧ w'.cell? ⟨(W.heap.size + 1 + 1 + 1), 1, none⟩ = some (.int .u8 p.c1) ∧ w'.cell? ⟨(W.heap.size + 1 + 1 + 1), 2, none⟩ = some (.int .u8 p.c2) ∧ w'.cell? ⟨(W.heap.size + 1 + 1 + 1), 3, none⟩ = some (.int .u8 p.c3) ∧ w'.cell? ⟨w5.heap.size, 0, none⟩ = some (.int .i64 B.x0) ∧ w'.cell? ⟨w5.heap.size, 1, none⟩ = some (.int .i64 B.y0) ∧ w'.cell? ⟨w5.heap.size, 2, none⟩ = some (.int .i64 B.x1) ∧ w'.cell? ⟨w5.heap.size, 3, none⟩ = some (.int .i64 B.y1) ∧ w'.cell? ⟨w5.heap.size, 4, none⟩ = some (.slice uo n uk) ∧ w'.cell? ⟨w7.heap.size, 0, none⟩ = some (.int .i64 B.x0) ∧ w'.cell? ⟨w7.heap.size, 1, none⟩ = some (.int .i64 B.y0) ∧ w'.cell? ⟨w7.heap.size, 2, none⟩ = some (.int .i64 B.x1) ∧ w'.cell? ⟨w7.heap.size, 3, none⟩ = some (.int .i64 B.y1) ∧ w'.cell? ⟨w7.heap.size, 4, none⟩ = some (.slice co n ck))) (by kernel_rfl) ?_ (fun hHeld => ?_)
  · (repeat (first | with_reducible assumption | with_reducible refine sw_drew ?_ | with_reducible refine sw_below ?_ ‹_›))
  refine wpAnyH_take (i := 0) (oi := { dst := some 55, op := Op.load 26 (Operand.tmp 13), type := 26, pos := "law.go:49", after := #[], guard := none }) (v := ?_) rfl (by kernel_rfl) (by kernel_rfl) (by kernel_rfl) (fun _ _ _ h => h) (Or.inl ⟨by rfl, ?hy⟩) (by assumption) ?_
  case hy => (intro w hSw; (try dsimp only at hSw); go_simp; first | done | with_reducible rfl)
  try simp only [Act.put, List.setIfInBounds_toArray, List.set_cons_zero, List.set_cons_succ]
  refine wpAnyH_take (i := 1) (oi := { dst := some 56, op := Op.load 26 (Operand.tmp 6), type := 26, pos := "law.go:49", after := #[], guard := none }) (v := ?_) rfl (by kernel_rfl) (by kernel_rfl) (by kernel_rfl) (fun _ _ _ h => h) (Or.inl ⟨by rfl, ?hy⟩) (by assumption) ?_
  case hy => (intro w hSw; (try dsimp only at hSw); go_simp; first | done | with_reducible rfl)
  try simp only [Act.put, List.setIfInBounds_toArray, List.set_cons_zero, List.set_cons_succ]
  refine wpAnyH_take (i := 2) (oi := { dst := some 57, op := Op.load 23 (Operand.tmp 8), type := 23, pos := "law.go:49", after := #[], guard := none }) (v := ?_) rfl (by kernel_rfl) (by kernel_rfl) (by kernel_rfl) (fun _ _ _ h => h) (Or.inl ⟨by rfl, ?hy⟩) (by assumption) ?_
  case hy => (intro w hSw; (try dsimp only at hSw); go_simp; first | done | with_reducible rfl)
  try simp only [Act.put, List.setIfInBounds_toArray, List.set_cons_zero, List.set_cons_succ]
  refine wpAnyH_take (i := 3) (oi := { dst := some 58, op := Op.load 28 (Operand.tmp 11), type := 28, pos := "law.go:49", after := #[], guard := none }) (v := ?_) rfl (by kernel_rfl) (by kernel_rfl) (by kernel_rfl) (fun _ _ _ h => h) (Or.inl ⟨by rfl, ?hy⟩) (by assumption) ?_
  case hy => (intro w hSw; (try dsimp only at hSw); go_simp; first | done | with_reducible rfl)
  try simp only [Act.put, List.setIfInBounds_toArray, List.set_cons_zero, List.set_cons_succ]
  refine wpAnyH_ready (rs := [4]) (by kernel_rfl) (by simp) ?_
  refine AllReadyH.cons (o := { dst := some 59, op := Op.call { callee := Callee.value (Operand.func 14), args := #[Operand.tmp 56, Operand.tmp 57, Operand.tmp 58], argTypes := #[26, 23, 28] }, type := 26, pos := "law.go:49", after := #[{ on := 1, ground := Ground.data }, { on := 2, ground := Ground.data }, { on := 3, ground := Ground.data }], guard := none }) rfl (fun K hK => ?_) AllReadyH.nil
  go_simp
  (go_at_call 14; with_reducible refine Calls.mono (refFill_any B ao n m g off f A.x0 A.y0 A.x1 A.y1 p _ HUB.out.ok HUB.out.emp hn5 (HH.out.1.below HX.out.low)) ?_; rintro e w9 ⟨hr, hb⟩; obtain ⟨ro, rn, rk, rg, roff, rfl, hO, hg1, hg2, hln⟩ := retG hr; have hrn := (vx_len HUF1.out.o.v).symm.trans hln; subst hrn; have HRF := hid hO.v; replace HX := hid (HX.out.below hb); replace HUF1 := hid (HUF1.out.below hb); replace HCB := hid (HCB.out.below hb); clear hr hO hg1 hg2 hln)
  go_wp2_with fail
  refine hK.out _ _ ?_ (fun hHeld => ?_)
  · (repeat (first | with_reducible assumption | with_reducible refine sw_drew ?_ | with_reducible refine sw_below ?_ ‹_›))
  clear hK K
  try simp only [Act.put, List.setIfInBounds_toArray, List.set_cons_zero, List.set_cons_succ]
  refine wpAnyH_ready (rs := [5]) (by kernel_rfl) (by simp) ?_
  refine AllReadyH.cons (o := { dst := some 60, op := Op.call { callee := Callee.value (Operand.func 13), args := #[Operand.tmp 55, Operand.tmp 59], argTypes := #[26, 26] }, type := 4, pos := "law.go:49", after := #[{ on := 0, ground := Ground.data }, { on := 4, ground := Ground.data }, { on := 4, ground := Ground.chain }], guard := none }) rfl (fun K hK => ?_) AllReadyH.nil
  go_simp
  (go_at_call 13; with_reducible refine Calls.mono (same_yes B uo n uk ug uoff ro rk rg roff _ _ HUF1.out.o.v HRF.out) ?_; rintro e w10 ⟨rfl, hb⟩; replace HX := hid (HX.out.below hb); replace HUF1 := hid (HUF1.out.below hb); replace HCB := hid (HCB.out.below hb))
  go_wp2_with fail
  refine hK.out _ _ ?_ (fun hHeld => ?_)
  · (repeat (first | with_reducible assumption | with_reducible refine sw_drew ?_ | with_reducible refine sw_below ?_ ‹_›))
  clear hK K
  try simp only [Act.put, List.setIfInBounds_toArray, List.set_cons_zero, List.set_cons_succ]
  refine wpAnyH_take (i := 6) (oi := { dst := some 61, op := Op.move (Operand.tmp 60), type := 4, pos := "law.go:49", after := #[{ on := 5, ground := Ground.data }, { on := 5, ground := Ground.chain }], guard := none }) (v := ?_) rfl (by kernel_rfl) (by kernel_rfl) (by kernel_rfl) (fun _ _ _ h => h) (Or.inl ⟨by rfl, ?hy⟩) (by assumption) ?_
  case hy => (intro w hSw; (try dsimp only at hSw); go_simp; first | done | with_reducible rfl)
  try simp only [Act.put, List.setIfInBounds_toArray, List.set_cons_zero, List.set_cons_succ]
  refine wpAnyH_take (i := 7) (oi := { dst := some 62, op := Op.load 26 (Operand.tmp 14), type := 26, pos := "law.go:49", after := #[{ on := 6, ground := Ground.guard }], guard := some (6, true) }) (v := ?_) rfl (by kernel_rfl) (by kernel_rfl) (by kernel_rfl) (fun _ _ _ h => h) (Or.inl ⟨by rfl, ?hy⟩) (by assumption) ?_
  case hy => (intro w hSw; (try dsimp only at hSw); go_simp; first | done | with_reducible rfl)
  try simp only [Act.put, List.setIfInBounds_toArray, List.set_cons_zero, List.set_cons_succ]
  refine wpAnyH_take (i := 8) (oi := { dst := some 63, op := Op.load 26 (Operand.tmp 6), type := 26, pos := "law.go:49", after := #[{ on := 6, ground := Ground.guard }], guard := some (6, true) }) (v := ?_) rfl (by kernel_rfl) (by kernel_rfl) (by kernel_rfl) (fun _ _ _ h => h) (Or.inl ⟨by rfl, ?hy⟩) (by assumption) ?_
  case hy => (intro w hSw; (try dsimp only at hSw); go_simp; first | done | with_reducible rfl)
  try simp only [Act.put, List.setIfInBounds_toArray, List.set_cons_zero, List.set_cons_succ]
  refine wpAnyH_take (i := 9) (oi := { dst := some 64, op := Op.load 26 (Operand.tmp 7), type := 26, pos := "law.go:49", after := #[{ on := 6, ground := Ground.guard }], guard := some (6, true) }) (v := ?_) rfl (by kernel_rfl) (by kernel_rfl) (by kernel_rfl) (fun _ _ _ h => h) (Or.inl ⟨by rfl, ?hy⟩) (by assumption) ?_
  case hy => (intro w hSw; (try dsimp only at hSw); go_simp; first | done | with_reducible rfl)
  try simp only [Act.put, List.setIfInBounds_toArray, List.set_cons_zero, List.set_cons_succ]
  refine wpAnyH_take (i := 10) (oi := { dst := some 65, op := Op.load 23 (Operand.tmp 8), type := 23, pos := "law.go:49", after := #[{ on := 6, ground := Ground.guard }], guard := some (6, true) }) (v := ?_) rfl (by kernel_rfl) (by kernel_rfl) (by kernel_rfl) (fun _ _ _ h => h) (Or.inl ⟨by rfl, ?hy⟩) (by assumption) ?_
  case hy => (intro w hSw; (try dsimp only at hSw); go_simp; first | done | with_reducible rfl)
  try simp only [Act.put, List.setIfInBounds_toArray, List.set_cons_zero, List.set_cons_succ]
  refine wpAnyH_take (i := 11) (oi := { dst := some 66, op := Op.move (Operand.tmp 3), type := 3, pos := "law.go:49", after := #[{ on := 6, ground := Ground.guard }], guard := some (6, true) }) (v := ?_) rfl (by kernel_rfl) (by kernel_rfl) (by kernel_rfl) (fun _ _ _ h => h) (Or.inl ⟨by rfl, ?hy⟩) (by assumption) ?_
  case hy => (intro w hSw; (try dsimp only at hSw); go_simp; first | done | with_reducible rfl)
  try simp only [Act.put, List.setIfInBounds_toArray, List.set_cons_zero, List.set_cons_succ]
  refine wpAnyH_take (i := 12) (oi := { dst := some 67, op := Op.move (Operand.tmp 4), type := 3, pos := "law.go:49", after := #[{ on := 6, ground := Ground.guard }], guard := some (6, true) }) (v := ?_) rfl (by kernel_rfl) (by kernel_rfl) (by kernel_rfl) (fun _ _ _ h => h) (Or.inl ⟨by rfl, ?hy⟩) (by assumption) ?_
  case hy => (intro w hSw; (try dsimp only at hSw); go_simp; first | done | with_reducible rfl)
  try simp only [Act.put, List.setIfInBounds_toArray, List.set_cons_zero, List.set_cons_succ]
  refine wpAnyH_ready (rs := [13]) (by kernel_rfl) (by simp) ?_
  refine AllReadyH.cons (o := { dst := some 68, op := Op.call { callee := Callee.value (Operand.func 15), args := #[Operand.tmp 63, Operand.tmp 64, Operand.tmp 65, Operand.tmp 66, Operand.tmp 67], argTypes := #[26, 26, 23, 3, 3] }, type := 26, pos := "law.go:49", after := #[{ on := 8, ground := Ground.data }, { on := 9, ground := Ground.data }, { on := 10, ground := Ground.data }, { on := 11, ground := Ground.data }, { on := 12, ground := Ground.data }, { on := 6, ground := Ground.chain }, { on := 6, ground := Ground.guard }], guard := some (6, true) }) rfl (fun K hK => ?_) AllReadyH.nil
  go_simp
  (go_at_call 15; with_reducible refine Calls.mono (refCopy_any B ao n m g off f A.x0 A.y0 A.x1 A.y1 F fo fn fm fg foff E dx dy _ HUB.out.ok HUB.out.emp hn5 (HH.out.1.below HX.out.low) HUF.out.ok hfn5 (HH.out.2.below HX.out.low) HZX.out HZY.out) ?_; rintro e w11 ⟨hr, hb⟩; obtain ⟨qo, qn, qk, qg, qoff, rfl, hO, hg1, hg2, hln⟩ := retG hr; have hqn := (vx_len HCB.out.o.v).symm.trans hln; subst hqn; have HRC := hid hO.v; replace HX := hid (HX.out.below hb); replace HUF1 := hid (HUF1.out.below hb); replace HCB := hid (HCB.out.below hb); clear hr hO hg1 hg2 hln)
  go_wp2_with fail
  refine hK.out _ _ ?_ (fun hHeld => ?_)
  · (repeat (first | with_reducible assumption | with_reducible refine sw_drew ?_ | with_reducible refine sw_below ?_ ‹_›))
  clear hK K
  try simp only [Act.put, List.setIfInBounds_toArray, List.set_cons_zero, List.set_cons_succ]
  refine wpAnyH_ready (rs := [14]) (by kernel_rfl) (by simp) ?_
  refine AllReadyH.cons (o := { dst := some 69, op := Op.call { callee := Callee.value (Operand.func 13), args := #[Operand.tmp 62, Operand.tmp 68], argTypes := #[26, 26] }, type := 4, pos := "law.go:49", after := #[{ on := 7, ground := Ground.data }, { on := 13, ground := Ground.data }, { on := 13, ground := Ground.chain }, { on := 6, ground := Ground.guard }], guard := some (6, true) }) rfl (fun K hK => ?_) AllReadyH.nil
  go_simp
  (go_at_call 13; with_reducible refine Calls.mono (same_yes B co n ck cg coff qo qk qg qoff _ _ HCB.out.o.v HRC.out) ?_; rintro e w12 ⟨rfl, hb⟩; replace HX := hid (HX.out.below hb); replace HUF1 := hid (HUF1.out.below hb); replace HCB := hid (HCB.out.below hb))
  go_wp2_with fail
  refine hK.out _ _ ?_ (fun hHeld => ?_)
  · (repeat (first | with_reducible assumption | with_reducible refine sw_drew ?_ | with_reducible refine sw_below ?_ ‹_›))
  clear hK K
  try simp only [Act.put, List.setIfInBounds_toArray, List.set_cons_zero, List.set_cons_succ]
  refine wpAnyH_take (i := 15) (oi := { dst := some 70, op := Op.pick (Operand.tmp 61) (Operand.tmp 69) (Operand.const (Value.bool false)), type := 4, pos := "law.go:49", after := #[{ on := 6, ground := Ground.data }, { on := 14, ground := Ground.data }], guard := none }) (v := ?_) rfl (by kernel_rfl) (by kernel_rfl) (by kernel_rfl) (fun _ _ _ h => h) (Or.inl ⟨by rfl, ?hy⟩) (by assumption) ?_
  case hy => (intro w hSw; (try dsimp only at hSw); go_simp; first | done | with_reducible rfl)
  try simp only [Act.put, List.setIfInBounds_toArray, List.set_cons_zero, List.set_cons_succ]
  refine wpAnyH_take (i := 16) (oi := { dst := some 71, op := Op.move (Operand.tmp 70), type := 4, pos := "law.go:49", after := #[{ on := 15, ground := Ground.data }, { on := 14, ground := Ground.chain }], guard := none }) (v := ?_) rfl (by kernel_rfl) (by kernel_rfl) (by kernel_rfl) (fun _ _ _ h => h) (Or.inl ⟨by rfl, ?hy⟩) (by assumption) ?_
  case hy => (intro w hSw; (try dsimp only at hSw); go_simp; first | done | with_reducible rfl)
  try simp only [Act.put, List.setIfInBounds_toArray, List.set_cons_zero, List.set_cons_succ]
  refine wpAnyH_take (i := 17) (oi := { dst := some 72, op := Op.load 23 (Operand.tmp 8), type := 23, pos := "law.go:49", after := #[{ on := 16, ground := Ground.guard }], guard := some (16, true) }) (v := ?_) rfl (by kernel_rfl) (by kernel_rfl) (by kernel_rfl) (fun _ _ _ h => h) (Or.inl ⟨by rfl, ?hy⟩) (by assumption) ?_
  case hy => (intro w hSw; (try dsimp only at hSw); go_simp; first | done | with_reducible rfl)
  try simp only [Act.put, List.setIfInBounds_toArray, List.set_cons_zero, List.set_cons_succ]
  refine wpAnyH_ready (rs := [18]) (by kernel_rfl) (by simp) ?_
  refine AllReadyH.cons (o := { dst := some 73, op := Op.call { callee := Callee.value (Operand.func 16), args := #[Operand.tmp 72, Operand.const (Value.int IntKind.i64 5000)], argTypes := #[23, 3] }, type := 4, pos := "law.go:49", after := #[{ on := 17, ground := Ground.data }, { on := 16, ground := Ground.chain }, { on := 16, ground := Ground.guard }], guard := some (16, true) }) rfl (fun K hK => ?_) AllReadyH.nil
  go_simp
  (go_at_call 16; with_reducible refine Calls.mono (little_any A.x0 A.y0 A.x1 A.y1 5000 _) ?_; rintro e w13 ⟨rfl, hb⟩; rw [HL.out]; replace HX := hid (HX.out.below hb); replace HUF1 := hid (HUF1.out.below hb); replace HCB := hid (HCB.out.below hb))
  go_wp2_with fail
  refine hK.out _ _ ?_ (fun hHeld => ?_)
  · (repeat (first | with_reducible assumption | with_reducible refine sw_drew ?_ | with_reducible refine sw_below ?_ ‹_›))
  clear hK K
  try simp only [Act.put, List.setIfInBounds_toArray, List.set_cons_zero, List.set_cons_succ]
  refine wpAnyH_take (i := 19) (oi := { dst := some 74, op := Op.unOp UnOp.not 4 (Operand.tmp 73), type := 4, pos := "law.go:49", after := #[{ on := 18, ground := Ground.data }, { on := 16, ground := Ground.guard }], guard := some (16, true) }) (v := ?_) rfl (by kernel_rfl) (by kernel_rfl) (by kernel_rfl) (fun _ _ _ h => h) (Or.inl ⟨by rfl, ?hy⟩) (by assumption) ?_
  case hy => (intro w hSw; (try dsimp only at hSw); go_simp; first | done | with_reducible rfl)
  try simp only [Act.put, List.setIfInBounds_toArray, List.set_cons_zero, List.set_cons_succ]
  refine wpAnyH_take (i := 20) (oi := { dst := some 75, op := Op.move (Operand.tmp 74), type := 4, pos := "law.go:49", after := #[{ on := 19, ground := Ground.data }, { on := 18, ground := Ground.chain }, { on := 16, ground := Ground.guard }], guard := some (16, true) }) (v := ?_) rfl (by kernel_rfl) (by kernel_rfl) (by kernel_rfl) (fun _ _ _ h => h) (Or.inl ⟨by rfl, ?hy⟩) (by assumption) ?_
  case hy => (intro w hSw; (try dsimp only at hSw); go_simp; first | done | with_reducible rfl)
  try simp only [Act.put, List.setIfInBounds_toArray, List.set_cons_zero, List.set_cons_succ]
  refine wpAnyH_take (i := 21) (oi := { dst := some 76, op := Op.load 26 (Operand.tmp 6), type := 26, pos := "law.go:49", after := #[{ on := 20, ground := Ground.guard }], guard := some (20, false) }) (v := undef) rfl (by kernel_rfl) (by kernel_rfl) (by kernel_rfl) (fun _ _ _ h => h) (Or.inr ⟨by rfl, rfl⟩) (by assumption) ?_
  try simp only [Act.put, List.setIfInBounds_toArray, List.set_cons_zero, List.set_cons_succ]
  refine wpAnyH_take (i := 22) (oi := { dst := some 77, op := Op.load 23 (Operand.tmp 8), type := 23, pos := "law.go:49", after := #[{ on := 20, ground := Ground.guard }], guard := some (20, false) }) (v := undef) rfl (by kernel_rfl) (by kernel_rfl) (by kernel_rfl) (fun _ _ _ h => h) (Or.inr ⟨by rfl, rfl⟩) (by assumption) ?_
  try simp only [Act.put, List.setIfInBounds_toArray, List.set_cons_zero, List.set_cons_succ]
  refine wpAnyH_take (i := 23) (oi := { dst := some 78, op := Op.call { callee := Callee.value (Operand.func 17), args := #[Operand.tmp 76, Operand.tmp 77], argTypes := #[26, 23] }, type := 26, pos := "law.go:49", after := #[{ on := 21, ground := Ground.data }, { on := 22, ground := Ground.data }, { on := 20, ground := Ground.chain }, { on := 20, ground := Ground.guard }], guard := some (20, false) }) (v := undef) rfl (by kernel_rfl) (by kernel_rfl) (by kernel_rfl) (fun _ _ _ h => h) (Or.inr ⟨by rfl, rfl⟩) (by assumption) ?_
  try simp only [Act.put, List.setIfInBounds_toArray, List.set_cons_zero, List.set_cons_succ]
  refine wpAnyH_take (i := 24) (oi := { dst := some 79, op := Op.load 26 (Operand.tmp 6), type := 26, pos := "law.go:49", after := #[{ on := 20, ground := Ground.guard }], guard := some (20, false) }) (v := undef) rfl (by kernel_rfl) (by kernel_rfl) (by kernel_rfl) (fun _ _ _ h => h) (Or.inr ⟨by rfl, rfl⟩) (by assumption) ?_
  try simp only [Act.put, List.setIfInBounds_toArray, List.set_cons_zero, List.set_cons_succ]
  refine wpAnyH_take (i := 25) (oi := { dst := some 80, op := Op.load 23 (Operand.tmp 8), type := 23, pos := "law.go:49", after := #[{ on := 20, ground := Ground.guard }], guard := some (20, false) }) (v := undef) rfl (by kernel_rfl) (by kernel_rfl) (by kernel_rfl) (fun _ _ _ h => h) (Or.inr ⟨by rfl, rfl⟩) (by assumption) ?_
  try simp only [Act.put, List.setIfInBounds_toArray, List.set_cons_zero, List.set_cons_succ]
  refine wpAnyH_take (i := 26) (oi := { dst := some 81, op := Op.call { callee := Callee.value (Operand.func 18), args := #[Operand.tmp 79, Operand.tmp 80], argTypes := #[26, 23] }, type := 26, pos := "law.go:49", after := #[{ on := 24, ground := Ground.data }, { on := 25, ground := Ground.data }, { on := 23, ground := Ground.chain }, { on := 20, ground := Ground.guard }], guard := some (20, false) }) (v := undef) rfl (by kernel_rfl) (by kernel_rfl) (by kernel_rfl) (fun _ _ _ h => h) (Or.inr ⟨by rfl, rfl⟩) (by assumption) ?_
  try simp only [Act.put, List.setIfInBounds_toArray, List.set_cons_zero, List.set_cons_succ]
  refine wpAnyH_take (i := 27) (oi := { dst := some 82, op := Op.call { callee := Callee.value (Operand.func 13), args := #[Operand.tmp 78, Operand.tmp 81], argTypes := #[26, 26] }, type := 4, pos := "law.go:49", after := #[{ on := 23, ground := Ground.data }, { on := 26, ground := Ground.data }, { on := 26, ground := Ground.chain }, { on := 20, ground := Ground.guard }], guard := some (20, false) }) (v := undef) rfl (by kernel_rfl) (by kernel_rfl) (by kernel_rfl) (fun _ _ _ h => h) (Or.inr ⟨by rfl, rfl⟩) (by assumption) ?_
  try simp only [Act.put, List.setIfInBounds_toArray, List.set_cons_zero, List.set_cons_succ]
  refine wpAnyH_take (i := 28) (oi := { dst := some 83, op := Op.pick (Operand.tmp 75) (Operand.const (Value.bool true)) (Operand.tmp 82), type := 4, pos := "law.go:49", after := #[{ on := 20, ground := Ground.data }, { on := 27, ground := Ground.data }, { on := 16, ground := Ground.guard }], guard := some (16, true) }) (v := ?_) rfl (by kernel_rfl) (by kernel_rfl) (by kernel_rfl) (fun _ _ _ h => h) (Or.inl ⟨by rfl, ?hy⟩) (by assumption) ?_
  case hy => (intro w hSw; (try dsimp only at hSw); go_simp; first | done | with_reducible rfl)
  try simp only [Act.put, List.setIfInBounds_toArray, List.set_cons_zero, List.set_cons_succ]
  refine wpAnyH_take (i := 29) (oi := { dst := some 84, op := Op.pick (Operand.tmp 71) (Operand.tmp 83) (Operand.const (Value.bool false)), type := 4, pos := "law.go:49", after := #[{ on := 16, ground := Ground.data }, { on := 28, ground := Ground.data }], guard := none }) (v := ?_) rfl (by kernel_rfl) (by kernel_rfl) (by kernel_rfl) (fun _ _ _ h => h) (Or.inl ⟨by rfl, ?hy⟩) (by assumption) ?_
  case hy => (intro w hSw; (try dsimp only at hSw); go_simp; first | done | with_reducible rfl)
  try simp only [Act.put, List.setIfInBounds_toArray, List.set_cons_zero, List.set_cons_succ]
  refine wpAnyH_take (i := 30) (oi := { dst := some 12, op := Op.assign (Operand.tmp 84), type := 4, pos := "law.go:49", after := #[{ on := 29, ground := Ground.data }, { on := 27, ground := Ground.chain }, { on := 0, ground := Ground.phase }, { on := 1, ground := Ground.phase }, { on := 2, ground := Ground.phase }, { on := 3, ground := Ground.phase }, { on := 4, ground := Ground.phase }, { on := 5, ground := Ground.phase }, { on := 6, ground := Ground.phase }, { on := 7, ground := Ground.phase }, { on := 8, ground := Ground.phase }, { on := 9, ground := Ground.phase }, { on := 10, ground := Ground.phase }, { on := 11, ground := Ground.phase }, { on := 12, ground := Ground.phase }, { on := 13, ground := Ground.phase }, { on := 14, ground := Ground.phase }, { on := 15, ground := Ground.phase }, { on := 16, ground := Ground.phase }, { on := 17, ground := Ground.phase }, { on := 18, ground := Ground.phase }, { on := 19, ground := Ground.phase }, { on := 20, ground := Ground.phase }, { on := 21, ground := Ground.phase }, { on := 22, ground := Ground.phase }, { on := 23, ground := Ground.phase }, { on := 24, ground := Ground.phase }, { on := 25, ground := Ground.phase }, { on := 26, ground := Ground.phase }, { on := 27, ground := Ground.phase }, { on := 28, ground := Ground.phase }, { on := 29, ground := Ground.phase }], guard := none }) (v := ?_) rfl (by kernel_rfl) (by kernel_rfl) (by kernel_rfl) (fun _ _ _ h => h) (Or.inl ⟨by rfl, ?hy⟩) (by assumption) ?_
  case hy => (intro w hSw; (try dsimp only at hSw); go_simp; first | done | with_reducible rfl)
  try simp only [Act.put, List.setIfInBounds_toArray, List.set_cons_zero, List.set_cons_succ]
  refine wpAnyH_done (by kernel_rfl) ?_ _
  go_wp2
  go_ret
  exact ⟨rfl, HX.out.low⟩

set_option maxRecDepth 100000 in
set_option maxHeartbeats 4000000 in
theorem walkT (B : R) (ao : Option Addr) (n m g off : Nat) (l : List X) (F : R) (fo : Option Addr) (fn fm fg foff : Nat) (l' : List X) (A : R) (dx dy : Int) (p : X) (W : World) (h : Vx W ao n m g off l) (h' : Vx W fo fn fm fg foff l') (h1 : rightS ⟨B.x0, B.y0, B.x1, B.y1⟩ n = true) (h2 : rightS ⟨F.x0, F.y0, F.x1, F.y1⟩ fn = true) (h3 : rightB ⟨A.x0, A.y0, A.x1, A.y1⟩ = true) (h4 : nearB dx = true) (h5 : nearB dy = true) (hL : littleB ⟨A.x0, A.y0, A.x1, A.y1⟩ 5000 = true) :
    Calls Try.prog 3 #[.agg #[.int .i64 B.x0, .int .i64 B.y0, .int .i64 B.x1, .int .i64 B.y1, .slice ao n m], .agg #[.int .i64 F.x0, .int .i64 F.y0, .int .i64 F.x1, .int .i64 F.y1, .slice fo fn fm], .agg #[.int .i64 A.x0, .int .i64 A.y0, .int .i64 A.x1, .int .i64 A.y1], .int .i64 dx, .int .i64 dy, .agg #[.int .u8 p.c0, .int .u8 p.c1, .int .u8 p.c2, .int .u8 p.c3]] W fun e w' => e = .returned (.bool true) ∧ Below W.heap.size W w' := by
  have hn := vx_small h
  have hfn := vx_small h'
  have HH := hid (And.intro h h')
  have HX : Hid (By W B F A p ao n m fo fn fm ((((W.alloc (.cells #[.int .i64 B.x0, .int .i64 B.y0, .int .i64 B.x1, .int .i64 B.y1, .slice ao n m] 26)).alloc (.cells #[.int .i64 F.x0, .int .i64 F.y0, .int .i64 F.x1, .int .i64 F.y1, .slice fo fn fm] 26)).alloc (.cells #[.int .i64 A.x0, .int .i64 A.y0, .int .i64 A.x1, .int .i64 A.y1] 23)).alloc (.cells #[.int .u8 p.c0, .int .u8 p.c1, .int .u8 p.c2, .int .u8 p.c3] 28))) := by_new W B F A p ao n m fo fn fm
  have hR1 := bu_of (B := B) h
  have hR2 := bu_of (B := F) h'
  clear h h'
  obtain ⟨b0, b1, b2, b3, b4, bf⟩ := HX.out.b
  obtain ⟨f0, f1, f2, f3, f4, ff⟩ := HX.out.f
  obtain ⟨r0, r1, r2, r3, rf⟩ := HX.out.r
  obtain ⟨x0, x1, x2, x3, xf⟩ := HX.out.p
  have HL0 := hid hL
  clear hL
  have HR := hid (And.intro h1 (And.intro h2 (And.intro h3 (And.intro h4 h5))))
  have HUB := hid (hR1 h1)
  have HUF := hid (hR2 h2)
  have HUA := hid (ok_of_right h3)
  have HZX := hid (near_of h4)
  have HZY := hid (near_of h5)
  obtain ⟨f, hf⟩ : ∃ f, f = unimg B l := ⟨_, rfl⟩
  obtain ⟨E, hE⟩ : ∃ E, E = unimg F l' := ⟨_, rfl⟩
  have HI : Hid (l = img B f ∧ l' = img F E) := by
    rw [hf, hE]
    exact ⟨HUB.out.img, HUF.out.img⟩
  have hn5 : n ≤ 5000 := by have := HUB.out.small; omega
  have hfn5 : fn ≤ 5000 := by have := HUF.out.small; omega
  clear h1 h2 h3 h4 h5 hR1 hR2 hf hE
  obtain ⟨e1, e2⟩ := HI.out
  clear HI
  subst e1
  subst e2
  go_enter Try.func3, Try.ntmps3
  go_wp2_with (first
    | (go_at_call 6; with_reducible refine Calls.mono (awake_any _) ?_; rintro e wc ⟨rfl, hb⟩; replace HX := hid (HX.out.below hb); clear hb; clear b0 b1 b2 b3 b4 bf f0 f1 f2 f3 f4 ff r0 r1 r2 r3 rf x0 x1 x2 x3 xf; obtain ⟨b0, b1, b2, b3, b4, bf⟩ := HX.out.b; obtain ⟨f0, f1, f2, f3, f4, ff⟩ := HX.out.f; obtain ⟨r0, r1, r2, r3, rf⟩ := HX.out.r; obtain ⟨x0, x1, x2, x3, xf⟩ := HX.out.p)
    | (go_at_call 7; with_reducible refine Calls.mono (right_any B.x0 B.y0 B.x1 B.y1 ao n m _ hn) ?_; rintro e wc ⟨rfl, hb⟩; rw [HR.out.1]; replace HX := hid (HX.out.below hb); clear hb; clear b0 b1 b2 b3 b4 bf f0 f1 f2 f3 f4 ff r0 r1 r2 r3 rf x0 x1 x2 x3 xf; obtain ⟨b0, b1, b2, b3, b4, bf⟩ := HX.out.b; obtain ⟨f0, f1, f2, f3, f4, ff⟩ := HX.out.f; obtain ⟨r0, r1, r2, r3, rf⟩ := HX.out.r; obtain ⟨x0, x1, x2, x3, xf⟩ := HX.out.p)
    | (go_at_call 7; with_reducible refine Calls.mono (right_any F.x0 F.y0 F.x1 F.y1 fo fn fm _ hfn) ?_; rintro e wc ⟨rfl, hb⟩; rw [HR.out.2.1]; replace HX := hid (HX.out.below hb); clear hb; clear b0 b1 b2 b3 b4 bf f0 f1 f2 f3 f4 ff r0 r1 r2 r3 rf x0 x1 x2 x3 xf; obtain ⟨b0, b1, b2, b3, b4, bf⟩ := HX.out.b; obtain ⟨f0, f1, f2, f3, f4, ff⟩ := HX.out.f; obtain ⟨r0, r1, r2, r3, rf⟩ := HX.out.r; obtain ⟨x0, x1, x2, x3, xf⟩ := HX.out.p)
    | (go_at_call 8; with_reducible refine Calls.mono (Rc.right_any A.x0 A.y0 A.x1 A.y1 _) ?_; rintro e wc ⟨rfl, hb⟩; rw [HR.out.2.2.1]; replace HX := hid (HX.out.below hb); clear hb; clear b0 b1 b2 b3 b4 bf f0 f1 f2 f3 f4 ff r0 r1 r2 r3 rf x0 x1 x2 x3 xf; obtain ⟨b0, b1, b2, b3, b4, bf⟩ := HX.out.b; obtain ⟨f0, f1, f2, f3, f4, ff⟩ := HX.out.f; obtain ⟨r0, r1, r2, r3, rf⟩ := HX.out.r; obtain ⟨x0, x1, x2, x3, xf⟩ := HX.out.p)
    | (go_at_call 9; with_reducible refine Calls.mono (Rc.near_any dx _) ?_; rintro e wd ⟨rfl, hw⟩; replace hw := hw.symm; subst hw; rw [HR.out.2.2.2.1]; have D1 := hid trivial)
    | (go_at_call 9; with_reducible refine Calls.mono (Rc.near_any dy _) ?_; rintro e wd ⟨rfl, hw⟩; replace hw := hw.symm; subst hw; rw [HR.out.2.2.2.2])
    | (go_at_call 10; with_reducible refine Calls.mono (copied_any B ao n m g off (img B f) _ hn5 (HH.out.1.below HX.out.low)) ?_; (fail_if_success have := HUF1); rintro e w5 ⟨hr, hb⟩; obtain ⟨uo, un, uk, ug, uoff, rfl, hO, hg1, hg2, hln⟩ := retG hr; have HUF1 := hid (bf_new (B := B) hO hg1 hg2); have hun := (vx_len HH.out.1).symm.trans hln; subst hun; have hu2 := Nat.le_trans HX.out.sz hg1; replace HX := hid ((HX.out.below hb).below ((Below.refl _ _).alloc (Nat.le_refl _) (.cells #[.int .i64 B.x0, .int .i64 B.y0, .int .i64 B.x1, .int .i64 B.y1, .slice uo n uk] 26))); clear hb hr hO hg1 hg2 hln; clear b0 b1 b2 b3 b4 bf f0 f1 f2 f3 f4 ff r0 r1 r2 r3 rf x0 x1 x2 x3 xf; obtain ⟨b0, b1, b2, b3, b4, bf⟩ := HX.out.b; obtain ⟨f0, f1, f2, f3, f4, ff⟩ := HX.out.f; obtain ⟨r0, r1, r2, r3, rf⟩ := HX.out.r; obtain ⟨x0, x1, x2, x3, xf⟩ := HX.out.p)
    | (go_at_call 11; with_reducible refine Calls.mono (fill_any _ w5.heap.size ug uoff n uk uo B f A.x0 A.y0 A.x1 A.y1 p _ hn5 HUB.out.buf HUF1.out.h HUF1.out.o HUF1.out.kg) ?_; rintro e w6 ⟨rfl, h5, hO, hbu⟩; replace HUF1 := hid (HUF1.out.wrote h5 hO hbu); replace HX := hid (HX.out.but hbu hu2); clear h5 hO hbu; clear b0 b1 b2 b3 b4 bf f0 f1 f2 f3 f4 ff r0 r1 r2 r3 rf x0 x1 x2 x3 xf; obtain ⟨b0, b1, b2, b3, b4, bf⟩ := HX.out.b; obtain ⟨f0, f1, f2, f3, f4, ff⟩ := HX.out.f; obtain ⟨r0, r1, r2, r3, rf⟩ := HX.out.r; obtain ⟨x0, x1, x2, x3, xf⟩ := HX.out.p)
    | (go_at_call 10; with_reducible refine Calls.mono (copied_any B ao n m g off (img B f) _ hn5 (HH.out.1.below HX.out.low)) ?_; rintro e w7 ⟨hr, hb⟩; obtain ⟨co, cn, ck, cg, coff, rfl, hO, hg1, hg2, hln⟩ := retG hr; have HCB := hid (bf_new (B := B) hO hg1 hg2); have hcn := (vx_len HH.out.1).symm.trans hln; subst hcn; have hc1 := Nat.le_trans HUF1.out.sz hg1; have hc2 := Nat.le_trans HX.out.sz hg1; have hc3 := Nat.le_trans HX.out.low.size hg1; replace HUF1 := hid ((HUF1.out.below hb).below ((Below.refl _ _).alloc (Nat.le_refl _) (.cells #[.int .i64 B.x0, .int .i64 B.y0, .int .i64 B.x1, .int .i64 B.y1, .slice co n ck] 26))); replace HX := hid ((HX.out.below hb).below ((Below.refl _ _).alloc (Nat.le_refl _) (.cells #[.int .i64 B.x0, .int .i64 B.y0, .int .i64 B.x1, .int .i64 B.y1, .slice co n ck] 26))); clear hb hr hO hg1 hg2 hln; clear b0 b1 b2 b3 b4 bf f0 f1 f2 f3 f4 ff r0 r1 r2 r3 rf x0 x1 x2 x3 xf; obtain ⟨b0, b1, b2, b3, b4, bf⟩ := HX.out.b; obtain ⟨f0, f1, f2, f3, f4, ff⟩ := HX.out.f; obtain ⟨r0, r1, r2, r3, rf⟩ := HX.out.r; obtain ⟨x0, x1, x2, x3, xf⟩ := HX.out.p)
    | (go_at_call 12; with_reducible refine Calls.mono (copy_any _ w7.heap.size cg coff n ck co B f F fo fn fm fg foff E A.x0 A.y0 A.x1 A.y1 dx dy _ hn5 HUB.out.buf HCB.out.h HCB.out.o HCB.out.kg hfn5 HUF.out.buf (HH.out.2.below HX.out.low) (fun _ h0 => Nat.ne_of_lt (Nat.lt_of_lt_of_le (vx_lt HH.out.2 h0) hc3)) HZX.out HZY.out) ?_; rintro e w8 ⟨rfl, h5, hO, hbu⟩; replace HCB := hid (HCB.out.wrote h5 hO hbu); replace HUF1 := hid (HUF1.out.but hbu hc1); replace HX := hid (HX.out.but hbu hc2); clear h5 hO hbu; clear b0 b1 b2 b3 b4 bf f0 f1 f2 f3 f4 ff r0 r1 r2 r3 rf x0 x1 x2 x3 xf; obtain ⟨b0, b1, b2, b3, b4, bf⟩ := HX.out.b; obtain ⟨f0, f1, f2, f3, f4, ff⟩ := HX.out.f; obtain ⟨r0, r1, r2, r3, rf⟩ := HX.out.r; obtain ⟨x0, x1, x2, x3, xf⟩ := HX.out.p))
  have hS : Sw W.heap.size w5.heap.size w7.heap.size B F A p ao n m fo fn fm uo uk co ck w8 := ⟨b0, b1, b2, b3, b4, f0, f1, f2, f3, f4, r0, r1, r2, r3, x0, x1, x2, x3, HUF1.out.h.c0, HUF1.out.h.c1, HUF1.out.h.c2, HUF1.out.h.c3, HUF1.out.h.c4, HCB.out.h.c0, HCB.out.h.c1, HCB.out.h.c2, HCB.out.h.c3, HCB.out.h.c4⟩
  clear b0 b1 b2 b3 b4 bf f0 f1 f2 f3 f4 ff r0 r1 r2 r3 rf x0 x1 x2 x3 xf
  replace HX := hid (HX.out.below (Below.refl _ _).drew)
  replace HUF1 := hid (HUF1.out.below (Below.refl _ _).drew)
  replace HCB := hid (HCB.out.below (Below.refl _ _).drew)
  have hL := HL0.out
  clear HL0
  have HL := hid hL
  have HUL := hid (little_of hL)
  clear hL
  go_region_held3 (fun w' => w'.cell? ⟨W.heap.size, 0, none⟩ = some (.int .i64 B.x0) ∧ w'.cell? ⟨W.heap.size, 1, none⟩ = some (.int .i64 B.y0) ∧ w'.cell? ⟨W.heap.size, 2, none⟩ = some (.int .i64 B.x1) ∧ w'.cell? ⟨W.heap.size, 3, none⟩ = some (.int .i64 B.y1) ∧ w'.cell? ⟨W.heap.size, 4, none⟩ = some (.slice ao n m) ∧ w'.cell? ⟨(W.heap.size + 1), 0, none⟩ = some (.int .i64 F.x0) ∧ w'.cell? ⟨(W.heap.size + 1), 1, none⟩ = some (.int .i64 F.y0) ∧ w'.cell? ⟨(W.heap.size + 1), 2, none⟩ = some (.int .i64 F.x1) ∧ w'.cell? ⟨(W.heap.size + 1), 3, none⟩ = some (.int .i64 F.y1) ∧ w'.cell? ⟨(W.heap.size + 1), 4, none⟩ = some (.slice fo fn fm) ∧ w'.cell? ⟨(W.heap.size + 1 + 1), 0, none⟩ = some (.int .i64 A.x0) ∧ w'.cell? ⟨(W.heap.size + 1 + 1), 1, none⟩ = some (.int .i64 A.y0) ∧ w'.cell? ⟨(W.heap.size + 1 + 1), 2, none⟩ = some (.int .i64 A.x1) ∧ w'.cell? ⟨(W.heap.size + 1 + 1), 3, none⟩ = some (.int .i64 A.y1) ∧ w'.cell? ⟨(W.heap.size + 1 + 1 + 1), 0, none⟩ = some (.int .u8 p.c0) ∧ w'.cell? ⟨(W.heap.size + 1 + 1 + 1), 1, none⟩ = some (.int .u8 p.c1) ∧ w'.cell? ⟨(W.heap.size + 1 + 1 + 1), 2, none⟩ = some (.int .u8 p.c2) ∧ w'.cell? ⟨(W.heap.size + 1 + 1 + 1), 3, none⟩ = some (.int .u8 p.c3) ∧ w'.cell? ⟨w5.heap.size, 0, none⟩ = some (.int .i64 B.x0) ∧ w'.cell? ⟨w5.heap.size, 1, none⟩ = some (.int .i64 B.y0) ∧ w'.cell? ⟨w5.heap.size, 2, none⟩ = some (.int .i64 B.x1) ∧ w'.cell? ⟨w5.heap.size, 3, none⟩ = some (.int .i64 B.y1) ∧ w'.cell? ⟨w5.heap.size, 4, none⟩ = some (.slice uo n uk) ∧ w'.cell? ⟨w7.heap.size, 0, none⟩ = some (.int .i64 B.x0) ∧ w'.cell? ⟨w7.heap.size, 1, none⟩ = some (.int .i64 B.y0) ∧ w'.cell? ⟨w7.heap.size, 2, none⟩ = some (.int .i64 B.x1) ∧ w'.cell? ⟨w7.heap.size, 3, none⟩ = some (.int .i64 B.y1) ∧ w'.cell? ⟨w7.heap.size, 4, none⟩ = some (.slice co n ck)) (repeat (first | with_reducible assumption | with_reducible refine sw_drew ?_ | with_reducible refine sw_below ?_ ‹_›))
    ((first
    | (go_at_call 14; with_reducible refine Calls.mono (refFill_any B ao n m g off f A.x0 A.y0 A.x1 A.y1 p _ HUB.out.ok HUB.out.emp hn5 (HH.out.1.below HX.out.low)) ?_; rintro e w9 ⟨hr, hb⟩; obtain ⟨ro, rn, rk, rg, roff, rfl, hO, hg1, hg2, hln⟩ := retG hr; have hrn := (vx_len HUF1.out.o.v).symm.trans hln; subst hrn; have HRF := hid hO.v; replace HX := hid (HX.out.below hb); replace HUF1 := hid (HUF1.out.below hb); replace HCB := hid (HCB.out.below hb); clear hr hO hg1 hg2 hln)
    | (go_at_call 13; with_reducible refine Calls.mono (same_yes B uo n uk ug uoff ro rk rg roff _ _ HUF1.out.o.v HRF.out) ?_; rintro e w10 ⟨rfl, hb⟩; replace HX := hid (HX.out.below hb); replace HUF1 := hid (HUF1.out.below hb); replace HCB := hid (HCB.out.below hb))
    | (go_at_call 15; with_reducible refine Calls.mono (refCopy_any B ao n m g off f A.x0 A.y0 A.x1 A.y1 F fo fn fm fg foff E dx dy _ HUB.out.ok HUB.out.emp hn5 (HH.out.1.below HX.out.low) HUF.out.ok hfn5 (HH.out.2.below HX.out.low) HZX.out HZY.out) ?_; rintro e w11 ⟨hr, hb⟩; obtain ⟨qo, qn, qk, qg, qoff, rfl, hO, hg1, hg2, hln⟩ := retG hr; have hqn := (vx_len HCB.out.o.v).symm.trans hln; subst hqn; have HRC := hid hO.v; replace HX := hid (HX.out.below hb); replace HUF1 := hid (HUF1.out.below hb); replace HCB := hid (HCB.out.below hb); clear hr hO hg1 hg2 hln)
    | (go_at_call 13; with_reducible refine Calls.mono (same_yes B co n ck cg coff qo qk qg qoff _ _ HCB.out.o.v HRC.out) ?_; rintro e w12 ⟨rfl, hb⟩; replace HX := hid (HX.out.below hb); replace HUF1 := hid (HUF1.out.below hb); replace HCB := hid (HCB.out.below hb))
    | (go_at_call 16; with_reducible refine Calls.mono (little_any A.x0 A.y0 A.x1 A.y1 5000 _) ?_; rintro e w13 ⟨rfl, hb⟩; rw [HL.out]; replace HX := hid (HX.out.below hb); replace HUF1 := hid (HUF1.out.below hb); replace HCB := hid (HCB.out.below hb))
    | (go_at_call 17; with_reducible refine Calls.mono (window_any B ao n m g off f A.x0 A.y0 A.x1 A.y1 _ hn5 HUB.out.buf (HH.out.1.below HX.out.low) HUL.out.1 HUL.out.2) ?_; rintro e w14 ⟨hr, hb⟩; obtain ⟨so, sn, sk, sg, soff, rfl, hO, hg1, hg2, hln⟩ := retG hr; have HWN := hid hln; have HRW := hid hO.v; replace HX := hid (HX.out.below hb); replace HUF1 := hid (HUF1.out.below hb); replace HCB := hid (HCB.out.below hb); clear hr hO hg1 hg2 hln)
    | (go_at_call 18; with_reducible refine Calls.mono (refWindow_any B ao n m g off f A _ hn5 HUB.out.ok (HH.out.1.below HX.out.low) HUL.out.1 HUL.out.2) ?_; rintro e w15 ⟨hr, hb⟩; obtain ⟨yo, tn, tk, tg, toff, rfl, hO, hg1, hg2, hln⟩ := retG hr; have htn := HWN.out.symm.trans hln; subst htn; have HRX := hid hO.v; replace HRW := hid (HRW.out.below hb); replace HX := hid (HX.out.below hb); replace HUF1 := hid (HUF1.out.below hb); replace HCB := hid (HCB.out.below hb); clear hr hO hg1 hg2 hln)
    | (go_at_call 13; with_reducible refine Calls.mono (same_yes (orN ⟨A.x0, A.y0, A.x1, A.y1⟩) so sn sk sg soff yo tk tg toff _ _ HRW.out HRX.out) ?_; rintro e w16 ⟨rfl, hb⟩; replace HX := hid (HX.out.below hb); replace HUF1 := hid (HUF1.out.below hb); replace HCB := hid (HCB.out.below hb))))
  go_wp2
  go_ret
  exact ⟨rfl, HX.out.low⟩

set_option maxRecDepth 100000 in
set_option maxHeartbeats 4000000 in
theorem walk (B : R) (ao : Option Addr) (n m g off : Nat) (l : List X) (F : R) (fo : Option Addr) (fn fm fg foff : Nat) (l' : List X) (A : R) (dx dy : Int) (p : X) (W : World) (h : Vx W ao n m g off l) (h' : Vx W fo fn fm fg foff l') :
    Calls Try.prog 3 #[.agg #[.int .i64 B.x0, .int .i64 B.y0, .int .i64 B.x1, .int .i64 B.y1, .slice ao n m], .agg #[.int .i64 F.x0, .int .i64 F.y0, .int .i64 F.x1, .int .i64 F.y1, .slice fo fn fm], .agg #[.int .i64 A.x0, .int .i64 A.y0, .int .i64 A.x1, .int .i64 A.y1], .int .i64 dx, .int .i64 dy, .agg #[.int .u8 p.c0, .int .u8 p.c1, .int .u8 p.c2, .int .u8 p.c3]] W fun e w' => e = .returned (.bool true) ∧ Below W.heap.size W w' := by
  have hn := vx_small h
  have hfn := vx_small h'
  have HH := hid (And.intro h h')
  have HX : Hid (By W B F A p ao n m fo fn fm ((((W.alloc (.cells #[.int .i64 B.x0, .int .i64 B.y0, .int .i64 B.x1, .int .i64 B.y1, .slice ao n m] 26)).alloc (.cells #[.int .i64 F.x0, .int .i64 F.y0, .int .i64 F.x1, .int .i64 F.y1, .slice fo fn fm] 26)).alloc (.cells #[.int .i64 A.x0, .int .i64 A.y0, .int .i64 A.x1, .int .i64 A.y1] 23)).alloc (.cells #[.int .u8 p.c0, .int .u8 p.c1, .int .u8 p.c2, .int .u8 p.c3] 28))) := by_new W B F A p ao n m fo fn fm
  have hR1 := bu_of (B := B) h
  have hR2 := bu_of (B := F) h'
  clear h h'
  obtain ⟨b0, b1, b2, b3, b4, bf⟩ := HX.out.b
  obtain ⟨f0, f1, f2, f3, f4, ff⟩ := HX.out.f
  obtain ⟨r0, r1, r2, r3, rf⟩ := HX.out.r
  obtain ⟨x0, x1, x2, x3, xf⟩ := HX.out.p
  rcases h1 : rightS ⟨B.x0, B.y0, B.x1, B.y1⟩ n with _ | _
  · have HR := hid (And.intro h1 (And.intro trivial (And.intro trivial (And.intro trivial trivial))))
    clear h1 hR1 hR2
    go_enter Try.func3, Try.ntmps3
    go_wp2_with (first | (go_at_call 6; with_reducible refine Calls.mono (awake_any _) ?_; rintro e wc ⟨rfl, hb⟩; replace HX := hid (HX.out.below hb); clear hb; clear b0 b1 b2 b3 b4 bf f0 f1 f2 f3 f4 ff r0 r1 r2 r3 rf x0 x1 x2 x3 xf; obtain ⟨b0, b1, b2, b3, b4, bf⟩ := HX.out.b; obtain ⟨f0, f1, f2, f3, f4, ff⟩ := HX.out.f; obtain ⟨r0, r1, r2, r3, rf⟩ := HX.out.r; obtain ⟨x0, x1, x2, x3, xf⟩ := HX.out.p) | (go_at_call 7; with_reducible refine Calls.mono (right_any B.x0 B.y0 B.x1 B.y1 ao n m _ hn) ?_; rintro e wc ⟨rfl, hb⟩; rw [HR.out.1]; replace HX := hid (HX.out.below hb); clear hb; clear b0 b1 b2 b3 b4 bf f0 f1 f2 f3 f4 ff r0 r1 r2 r3 rf x0 x1 x2 x3 xf; obtain ⟨b0, b1, b2, b3, b4, bf⟩ := HX.out.b; obtain ⟨f0, f1, f2, f3, f4, ff⟩ := HX.out.f; obtain ⟨r0, r1, r2, r3, rf⟩ := HX.out.r; obtain ⟨x0, x1, x2, x3, xf⟩ := HX.out.p) | (go_at_call 7; with_reducible refine Calls.mono (right_any F.x0 F.y0 F.x1 F.y1 fo fn fm _ hfn) ?_; rintro e wc ⟨rfl, hb⟩; rw [HR.out.2.1]; replace HX := hid (HX.out.below hb); clear hb; clear b0 b1 b2 b3 b4 bf f0 f1 f2 f3 f4 ff r0 r1 r2 r3 rf x0 x1 x2 x3 xf; obtain ⟨b0, b1, b2, b3, b4, bf⟩ := HX.out.b; obtain ⟨f0, f1, f2, f3, f4, ff⟩ := HX.out.f; obtain ⟨r0, r1, r2, r3, rf⟩ := HX.out.r; obtain ⟨x0, x1, x2, x3, xf⟩ := HX.out.p) | (go_at_call 8; with_reducible refine Calls.mono (Rc.right_any A.x0 A.y0 A.x1 A.y1 _) ?_; rintro e wc ⟨rfl, hb⟩; rw [HR.out.2.2.1]; replace HX := hid (HX.out.below hb); clear hb; clear b0 b1 b2 b3 b4 bf f0 f1 f2 f3 f4 ff r0 r1 r2 r3 rf x0 x1 x2 x3 xf; obtain ⟨b0, b1, b2, b3, b4, bf⟩ := HX.out.b; obtain ⟨f0, f1, f2, f3, f4, ff⟩ := HX.out.f; obtain ⟨r0, r1, r2, r3, rf⟩ := HX.out.r; obtain ⟨x0, x1, x2, x3, xf⟩ := HX.out.p) | (go_at_call 9; with_reducible refine Calls.mono (Rc.near_any dx _) ?_; rintro e wd ⟨rfl, hw⟩; replace hw := hw.symm; subst hw; rw [HR.out.2.2.2.1]; have D1 := hid trivial) | (go_at_call 9; with_reducible refine Calls.mono (Rc.near_any dy _) ?_; rintro e wd ⟨rfl, hw⟩; replace hw := hw.symm; subst hw; rw [HR.out.2.2.2.2]))
    go_ret
    exact ⟨rfl, HX.out.low⟩
  rcases h2 : rightS ⟨F.x0, F.y0, F.x1, F.y1⟩ fn with _ | _
  · have HR := hid (And.intro h1 (And.intro h2 (And.intro trivial (And.intro trivial trivial))))
    clear h1 h2 hR1 hR2
    go_enter Try.func3, Try.ntmps3
    go_wp2_with (first | (go_at_call 6; with_reducible refine Calls.mono (awake_any _) ?_; rintro e wc ⟨rfl, hb⟩; replace HX := hid (HX.out.below hb); clear hb; clear b0 b1 b2 b3 b4 bf f0 f1 f2 f3 f4 ff r0 r1 r2 r3 rf x0 x1 x2 x3 xf; obtain ⟨b0, b1, b2, b3, b4, bf⟩ := HX.out.b; obtain ⟨f0, f1, f2, f3, f4, ff⟩ := HX.out.f; obtain ⟨r0, r1, r2, r3, rf⟩ := HX.out.r; obtain ⟨x0, x1, x2, x3, xf⟩ := HX.out.p) | (go_at_call 7; with_reducible refine Calls.mono (right_any B.x0 B.y0 B.x1 B.y1 ao n m _ hn) ?_; rintro e wc ⟨rfl, hb⟩; rw [HR.out.1]; replace HX := hid (HX.out.below hb); clear hb; clear b0 b1 b2 b3 b4 bf f0 f1 f2 f3 f4 ff r0 r1 r2 r3 rf x0 x1 x2 x3 xf; obtain ⟨b0, b1, b2, b3, b4, bf⟩ := HX.out.b; obtain ⟨f0, f1, f2, f3, f4, ff⟩ := HX.out.f; obtain ⟨r0, r1, r2, r3, rf⟩ := HX.out.r; obtain ⟨x0, x1, x2, x3, xf⟩ := HX.out.p) | (go_at_call 7; with_reducible refine Calls.mono (right_any F.x0 F.y0 F.x1 F.y1 fo fn fm _ hfn) ?_; rintro e wc ⟨rfl, hb⟩; rw [HR.out.2.1]; replace HX := hid (HX.out.below hb); clear hb; clear b0 b1 b2 b3 b4 bf f0 f1 f2 f3 f4 ff r0 r1 r2 r3 rf x0 x1 x2 x3 xf; obtain ⟨b0, b1, b2, b3, b4, bf⟩ := HX.out.b; obtain ⟨f0, f1, f2, f3, f4, ff⟩ := HX.out.f; obtain ⟨r0, r1, r2, r3, rf⟩ := HX.out.r; obtain ⟨x0, x1, x2, x3, xf⟩ := HX.out.p) | (go_at_call 8; with_reducible refine Calls.mono (Rc.right_any A.x0 A.y0 A.x1 A.y1 _) ?_; rintro e wc ⟨rfl, hb⟩; rw [HR.out.2.2.1]; replace HX := hid (HX.out.below hb); clear hb; clear b0 b1 b2 b3 b4 bf f0 f1 f2 f3 f4 ff r0 r1 r2 r3 rf x0 x1 x2 x3 xf; obtain ⟨b0, b1, b2, b3, b4, bf⟩ := HX.out.b; obtain ⟨f0, f1, f2, f3, f4, ff⟩ := HX.out.f; obtain ⟨r0, r1, r2, r3, rf⟩ := HX.out.r; obtain ⟨x0, x1, x2, x3, xf⟩ := HX.out.p) | (go_at_call 9; with_reducible refine Calls.mono (Rc.near_any dx _) ?_; rintro e wd ⟨rfl, hw⟩; replace hw := hw.symm; subst hw; rw [HR.out.2.2.2.1]; have D1 := hid trivial) | (go_at_call 9; with_reducible refine Calls.mono (Rc.near_any dy _) ?_; rintro e wd ⟨rfl, hw⟩; replace hw := hw.symm; subst hw; rw [HR.out.2.2.2.2]))
    go_ret
    exact ⟨rfl, HX.out.low⟩
  rcases h3 : rightB ⟨A.x0, A.y0, A.x1, A.y1⟩ with _ | _
  · have HR := hid (And.intro h1 (And.intro h2 (And.intro h3 (And.intro trivial trivial))))
    clear h1 h2 h3 hR1 hR2
    go_enter Try.func3, Try.ntmps3
    go_wp2_with (first | (go_at_call 6; with_reducible refine Calls.mono (awake_any _) ?_; rintro e wc ⟨rfl, hb⟩; replace HX := hid (HX.out.below hb); clear hb; clear b0 b1 b2 b3 b4 bf f0 f1 f2 f3 f4 ff r0 r1 r2 r3 rf x0 x1 x2 x3 xf; obtain ⟨b0, b1, b2, b3, b4, bf⟩ := HX.out.b; obtain ⟨f0, f1, f2, f3, f4, ff⟩ := HX.out.f; obtain ⟨r0, r1, r2, r3, rf⟩ := HX.out.r; obtain ⟨x0, x1, x2, x3, xf⟩ := HX.out.p) | (go_at_call 7; with_reducible refine Calls.mono (right_any B.x0 B.y0 B.x1 B.y1 ao n m _ hn) ?_; rintro e wc ⟨rfl, hb⟩; rw [HR.out.1]; replace HX := hid (HX.out.below hb); clear hb; clear b0 b1 b2 b3 b4 bf f0 f1 f2 f3 f4 ff r0 r1 r2 r3 rf x0 x1 x2 x3 xf; obtain ⟨b0, b1, b2, b3, b4, bf⟩ := HX.out.b; obtain ⟨f0, f1, f2, f3, f4, ff⟩ := HX.out.f; obtain ⟨r0, r1, r2, r3, rf⟩ := HX.out.r; obtain ⟨x0, x1, x2, x3, xf⟩ := HX.out.p) | (go_at_call 7; with_reducible refine Calls.mono (right_any F.x0 F.y0 F.x1 F.y1 fo fn fm _ hfn) ?_; rintro e wc ⟨rfl, hb⟩; rw [HR.out.2.1]; replace HX := hid (HX.out.below hb); clear hb; clear b0 b1 b2 b3 b4 bf f0 f1 f2 f3 f4 ff r0 r1 r2 r3 rf x0 x1 x2 x3 xf; obtain ⟨b0, b1, b2, b3, b4, bf⟩ := HX.out.b; obtain ⟨f0, f1, f2, f3, f4, ff⟩ := HX.out.f; obtain ⟨r0, r1, r2, r3, rf⟩ := HX.out.r; obtain ⟨x0, x1, x2, x3, xf⟩ := HX.out.p) | (go_at_call 8; with_reducible refine Calls.mono (Rc.right_any A.x0 A.y0 A.x1 A.y1 _) ?_; rintro e wc ⟨rfl, hb⟩; rw [HR.out.2.2.1]; replace HX := hid (HX.out.below hb); clear hb; clear b0 b1 b2 b3 b4 bf f0 f1 f2 f3 f4 ff r0 r1 r2 r3 rf x0 x1 x2 x3 xf; obtain ⟨b0, b1, b2, b3, b4, bf⟩ := HX.out.b; obtain ⟨f0, f1, f2, f3, f4, ff⟩ := HX.out.f; obtain ⟨r0, r1, r2, r3, rf⟩ := HX.out.r; obtain ⟨x0, x1, x2, x3, xf⟩ := HX.out.p) | (go_at_call 9; with_reducible refine Calls.mono (Rc.near_any dx _) ?_; rintro e wd ⟨rfl, hw⟩; replace hw := hw.symm; subst hw; rw [HR.out.2.2.2.1]; have D1 := hid trivial) | (go_at_call 9; with_reducible refine Calls.mono (Rc.near_any dy _) ?_; rintro e wd ⟨rfl, hw⟩; replace hw := hw.symm; subst hw; rw [HR.out.2.2.2.2]))
    go_ret
    exact ⟨rfl, HX.out.low⟩
  rcases h4 : nearB dx with _ | _
  · have HR := hid (And.intro h1 (And.intro h2 (And.intro h3 (And.intro h4 trivial))))
    clear h1 h2 h3 h4 hR1 hR2
    go_enter Try.func3, Try.ntmps3
    go_wp2_with (first | (go_at_call 6; with_reducible refine Calls.mono (awake_any _) ?_; rintro e wc ⟨rfl, hb⟩; replace HX := hid (HX.out.below hb); clear hb; clear b0 b1 b2 b3 b4 bf f0 f1 f2 f3 f4 ff r0 r1 r2 r3 rf x0 x1 x2 x3 xf; obtain ⟨b0, b1, b2, b3, b4, bf⟩ := HX.out.b; obtain ⟨f0, f1, f2, f3, f4, ff⟩ := HX.out.f; obtain ⟨r0, r1, r2, r3, rf⟩ := HX.out.r; obtain ⟨x0, x1, x2, x3, xf⟩ := HX.out.p) | (go_at_call 7; with_reducible refine Calls.mono (right_any B.x0 B.y0 B.x1 B.y1 ao n m _ hn) ?_; rintro e wc ⟨rfl, hb⟩; rw [HR.out.1]; replace HX := hid (HX.out.below hb); clear hb; clear b0 b1 b2 b3 b4 bf f0 f1 f2 f3 f4 ff r0 r1 r2 r3 rf x0 x1 x2 x3 xf; obtain ⟨b0, b1, b2, b3, b4, bf⟩ := HX.out.b; obtain ⟨f0, f1, f2, f3, f4, ff⟩ := HX.out.f; obtain ⟨r0, r1, r2, r3, rf⟩ := HX.out.r; obtain ⟨x0, x1, x2, x3, xf⟩ := HX.out.p) | (go_at_call 7; with_reducible refine Calls.mono (right_any F.x0 F.y0 F.x1 F.y1 fo fn fm _ hfn) ?_; rintro e wc ⟨rfl, hb⟩; rw [HR.out.2.1]; replace HX := hid (HX.out.below hb); clear hb; clear b0 b1 b2 b3 b4 bf f0 f1 f2 f3 f4 ff r0 r1 r2 r3 rf x0 x1 x2 x3 xf; obtain ⟨b0, b1, b2, b3, b4, bf⟩ := HX.out.b; obtain ⟨f0, f1, f2, f3, f4, ff⟩ := HX.out.f; obtain ⟨r0, r1, r2, r3, rf⟩ := HX.out.r; obtain ⟨x0, x1, x2, x3, xf⟩ := HX.out.p) | (go_at_call 8; with_reducible refine Calls.mono (Rc.right_any A.x0 A.y0 A.x1 A.y1 _) ?_; rintro e wc ⟨rfl, hb⟩; rw [HR.out.2.2.1]; replace HX := hid (HX.out.below hb); clear hb; clear b0 b1 b2 b3 b4 bf f0 f1 f2 f3 f4 ff r0 r1 r2 r3 rf x0 x1 x2 x3 xf; obtain ⟨b0, b1, b2, b3, b4, bf⟩ := HX.out.b; obtain ⟨f0, f1, f2, f3, f4, ff⟩ := HX.out.f; obtain ⟨r0, r1, r2, r3, rf⟩ := HX.out.r; obtain ⟨x0, x1, x2, x3, xf⟩ := HX.out.p) | (go_at_call 9; with_reducible refine Calls.mono (Rc.near_any dx _) ?_; rintro e wd ⟨rfl, hw⟩; replace hw := hw.symm; subst hw; rw [HR.out.2.2.2.1]; have D1 := hid trivial) | (go_at_call 9; with_reducible refine Calls.mono (Rc.near_any dy _) ?_; rintro e wd ⟨rfl, hw⟩; replace hw := hw.symm; subst hw; rw [HR.out.2.2.2.2]))
    go_ret
    exact ⟨rfl, HX.out.low⟩
  rcases h5 : nearB dy with _ | _
  · have HR := hid (And.intro h1 (And.intro h2 (And.intro h3 (And.intro h4 h5))))
    clear h1 h2 h3 h4 h5 hR1 hR2
    go_enter Try.func3, Try.ntmps3
    go_wp2_with (first | (go_at_call 6; with_reducible refine Calls.mono (awake_any _) ?_; rintro e wc ⟨rfl, hb⟩; replace HX := hid (HX.out.below hb); clear hb; clear b0 b1 b2 b3 b4 bf f0 f1 f2 f3 f4 ff r0 r1 r2 r3 rf x0 x1 x2 x3 xf; obtain ⟨b0, b1, b2, b3, b4, bf⟩ := HX.out.b; obtain ⟨f0, f1, f2, f3, f4, ff⟩ := HX.out.f; obtain ⟨r0, r1, r2, r3, rf⟩ := HX.out.r; obtain ⟨x0, x1, x2, x3, xf⟩ := HX.out.p) | (go_at_call 7; with_reducible refine Calls.mono (right_any B.x0 B.y0 B.x1 B.y1 ao n m _ hn) ?_; rintro e wc ⟨rfl, hb⟩; rw [HR.out.1]; replace HX := hid (HX.out.below hb); clear hb; clear b0 b1 b2 b3 b4 bf f0 f1 f2 f3 f4 ff r0 r1 r2 r3 rf x0 x1 x2 x3 xf; obtain ⟨b0, b1, b2, b3, b4, bf⟩ := HX.out.b; obtain ⟨f0, f1, f2, f3, f4, ff⟩ := HX.out.f; obtain ⟨r0, r1, r2, r3, rf⟩ := HX.out.r; obtain ⟨x0, x1, x2, x3, xf⟩ := HX.out.p) | (go_at_call 7; with_reducible refine Calls.mono (right_any F.x0 F.y0 F.x1 F.y1 fo fn fm _ hfn) ?_; rintro e wc ⟨rfl, hb⟩; rw [HR.out.2.1]; replace HX := hid (HX.out.below hb); clear hb; clear b0 b1 b2 b3 b4 bf f0 f1 f2 f3 f4 ff r0 r1 r2 r3 rf x0 x1 x2 x3 xf; obtain ⟨b0, b1, b2, b3, b4, bf⟩ := HX.out.b; obtain ⟨f0, f1, f2, f3, f4, ff⟩ := HX.out.f; obtain ⟨r0, r1, r2, r3, rf⟩ := HX.out.r; obtain ⟨x0, x1, x2, x3, xf⟩ := HX.out.p) | (go_at_call 8; with_reducible refine Calls.mono (Rc.right_any A.x0 A.y0 A.x1 A.y1 _) ?_; rintro e wc ⟨rfl, hb⟩; rw [HR.out.2.2.1]; replace HX := hid (HX.out.below hb); clear hb; clear b0 b1 b2 b3 b4 bf f0 f1 f2 f3 f4 ff r0 r1 r2 r3 rf x0 x1 x2 x3 xf; obtain ⟨b0, b1, b2, b3, b4, bf⟩ := HX.out.b; obtain ⟨f0, f1, f2, f3, f4, ff⟩ := HX.out.f; obtain ⟨r0, r1, r2, r3, rf⟩ := HX.out.r; obtain ⟨x0, x1, x2, x3, xf⟩ := HX.out.p) | (go_at_call 9; with_reducible refine Calls.mono (Rc.near_any dx _) ?_; rintro e wd ⟨rfl, hw⟩; replace hw := hw.symm; subst hw; rw [HR.out.2.2.2.1]; have D1 := hid trivial) | (go_at_call 9; with_reducible refine Calls.mono (Rc.near_any dy _) ?_; rintro e wd ⟨rfl, hw⟩; replace hw := hw.symm; subst hw; rw [HR.out.2.2.2.2]))
    go_ret
    exact ⟨rfl, HX.out.low⟩
  rcases hL : littleB ⟨A.x0, A.y0, A.x1, A.y1⟩ 5000 with _ | _
  · exact walkF B ao n m g off l F fo fn fm fg foff l' A dx dy p W HH.out.1 HH.out.2 h1 h2 h3 h4 h5 hL
  · exact walkT B ao n m g off l F fo fn fm fg foff l' A dx dy p W HH.out.1 HH.out.2 h1 h2 h3 h4 h5 hL

theorem own : ownKnob Try.prog.godebug = none := by kernel_rfl

set_option maxRecDepth 100000 in
theorem lifted (os : Os) (started : os.Started) (H : Type) (enc : TypeId × Value → H) :
    ReturnsInHanded {} Try.checked os 3 .any (Rows.rasterWritesSpec.pre6 enc Try.prog Try.f3 Rows.rasterWritesRow.domain false) (Rows.rasterWritesSpec.post enc Try.prog Try.f3 false true false false) := by
  refine returnsInHanded_of_change (C := Try.checked) own started (by kernel_rfl) Try.func3
    (ChangeSpec.witness6 (enc := enc) (C := Try.checked) false ⟨#[], #[.agg #[.int .i64 0, .int .i64 0, .int .i64 0, .int .i64 0, .slice none 0 0], .agg #[.int .i64 0, .int .i64 0, .int .i64 0, .int .i64 0, .slice none 0 0], .agg #[.int .i64 0, .int .i64 0, .int .i64 0, .int .i64 0], .int .i64 0, .int .i64 0, .agg #[.int .u8 0, .int .u8 0, .int .u8 0, .int .u8 0]], []⟩ 8 (by kernel_rfl) (by kernel_rfl) (by kernel_rfl) (by kernel_rfl)) ?_
  intro W base args ds gs before hval0 hW hcnd _
  have hval : ∀ (j : Nat) t v, Try.f3.params[j]? = some t → args[j]? = some v → Value.okWide Try.prog W .any base t v := hval0
  have hW' := hW
  obtain ⟨p, q, hA0, hV, rfl, hfz, hnd⟩ := hW
  have hA : DataW.TrodAll enc Try.prog W 0 (fun _ => true) true Try.f3.params.toList args.toList ds p := hA0
  rw [Try.params3] at hA hval
  obtain ⟨v0, vs0, d0, ds0, p0, q0, hargs, rfl, rfl, h0, r0⟩ := trodAll_cons hA
  obtain ⟨v1, vs1, d1, ds1, p1, q1, rfl, rfl, rfl, h1, r1⟩ := trodAll_cons r0
  obtain ⟨v2, vs2, d2, ds2, p2, q2, rfl, rfl, rfl, h2, r2⟩ := trodAll_cons r1
  obtain ⟨v3, vs3, d3, ds3, p3, q3, rfl, rfl, rfl, h3, r3⟩ := trodAll_cons r2
  obtain ⟨v4, vs4, d4, ds4, p4, q4, rfl, rfl, rfl, h4, r4⟩ := trodAll_cons r3
  obtain ⟨v5, vs5, d5, ds5, p5, q5, rfl, rfl, rfl, h5, r5⟩ := trodAll_cons r4
  obtain ⟨rfl, rfl, rfl⟩ := trodAll_nil r5
  obtain rfl : args = #[v0, v1, v2, v3, v4, v5] := by cases args; simp_all
  obtain ⟨rfl, rfl⟩ := trodVars_none hV
  obtain ⟨B, ao, n, c, g, off, l, rfl, hv0⟩ := open_buf (hval 0 26 v0 rfl rfl) h0
  obtain ⟨F, fo, fn, fc, fg, foff, l', rfl, hv1⟩ := open_buf (hval 1 26 v1 rfl rfl) h1
  obtain ⟨A, rfl⟩ := open_rect (hval 2 23 v2 rfl rfl) h2
  obtain ⟨dx, rfl, -, -, -⟩ := open_int Try.underlying3 (hval 3 3 v3 rfl rfl) h3
  obtain ⟨dy, rfl, -, -, -⟩ := open_int Try.underlying3 (hval 4 3 v4 rfl rfl) h4
  obtain ⟨x, rfl⟩ := open_px (hval 5 28 v5 rfl rfl) h5
  clear hA0 hval0
  simp only [List.append_nil] at hW'
  have hlt : ∀ x ∈ p0 ++ (p1 ++ (p2 ++ (p3 ++ (p4 ++ (p5))))), x.block < W.heap.size := fun x hx => by simpa using hW'.lt x (by simpa using hx)
  refine (walk B ao n c g off l F fo fn fc fg foff l' A dx dy x W hv0 hv1).mono fun e W' ⟨he, hg⟩ => ?_
  subst he
  have t0 := Below.trod laidOut (by kernel_rfl) (of_decide_eq_true (by kernel_rfl)) h0 hg (fun x hx => hlt x (List.mem_append_left _ hx))
  have t1 := Below.trod laidOut (by kernel_rfl) (of_decide_eq_true (by kernel_rfl)) h1 hg (fun x hx => hlt x (List.mem_append_right _ (List.mem_append_left _ hx)))
  have t2 := Below.trod laidOut (by kernel_rfl) (of_decide_eq_true (by kernel_rfl)) h2 hg (fun x hx => hlt x (List.mem_append_right _ (List.mem_append_right _ (List.mem_append_left _ hx))))
  have t3 := Below.trod laidOut (by kernel_rfl) (of_decide_eq_true (by kernel_rfl)) h3 hg (fun x hx => hlt x (List.mem_append_right _ (List.mem_append_right _ (List.mem_append_right _ (List.mem_append_left _ hx)))))
  have t4 := Below.trod laidOut (by kernel_rfl) (of_decide_eq_true (by kernel_rfl)) h4 hg (fun x hx => hlt x (List.mem_append_right _ (List.mem_append_right _ (List.mem_append_right _ (List.mem_append_right _ (List.mem_append_left _ hx))))))
  have t5 := Below.trod laidOut (by kernel_rfl) (of_decide_eq_true (by kernel_rfl)) h5 hg (fun x hx => hlt x (List.mem_append_right _ (List.mem_append_right _ (List.mem_append_right _ (List.mem_append_right _ (List.mem_append_right _ (hx)))))))
  exact ⟨_, rfl, ⟨_, _, _, _, _, _, hW', (trodAll_cons_mk (shut_bool Try.underlying4 _) trodAll_mk0), (trodAll_cons_mk t0 (trodAll_cons_mk t1 (trodAll_cons_mk t2 (trodAll_cons_mk t3 (trodAll_cons_mk t4 (trodAll_cons_mk t5 trodAll_mk0)))))), rfl, hg.frame _, fun h => by cases h⟩⟩

theorem over : Rows.rasterWritesRow.holds Try.pinned (OpenSpec.ofChange Rows.rasterWritesSpec) :=
  OpenClaim.holds_of_wide 3 Try.f3 rfl rfl rfl rfl rfl rfl rfl ⟨rfl, rfl, rfl, rfl, rfl⟩ rfl rfl rfl rfl rfl (by kernel_rfl) Try.func3 (by kernel_rfl)
    (of_decide_eq_true (by kernel_rfl)) (by unfold Func.isWrapper; first | (rw [if_pos (by decide +kernel)]; kernel_rfl) | (rw [if_neg (by decide +kernel)]; exact ⟨rfl, rfl⟩))
    (fun os started H enc _ => lifted os started H enc)

theorem proved : Rows.RasterWritesSaid := over
#print axioms proved
end Go.Proofs.Ytkgacjbnblfhoaa.rasterWrites
