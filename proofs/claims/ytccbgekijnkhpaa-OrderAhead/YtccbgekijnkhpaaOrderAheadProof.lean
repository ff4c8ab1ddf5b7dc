/- For every filter: in the order that is told each node stands once, behind all its inputs, and all are there just if none lead round; no condition. -/
import Derived.Test.YtccbgekijnkhpaaRows
import Derived.WalkKit
import Derived.ProofKit
import Derived.OpenShut
import Derived.Test.YtccbgekijnkhpaaOpen
import Derived.Test.YtccbgekijnkhpaaLawS
namespace Go.Proofs.Ytccbgekijnkhpaa.orderAhead
open Go.ChangeShapes Go.WideShapes Go.ChangeAt Go.RowKit Num
set_option linter.unusedVariables false
set_option linter.unusedSimpArgs false

set_option maxRecDepth 100000 in
set_option maxHeartbeats 8000000 in
theorem walk (ao : Option Addr) (n c b off : Nat) (L : List Nv) (out : Int) (w : World) (h : Vn w ao n c b off L) :
    Calls Try.prog 4 #[.agg #[.slice ao n c, .int .i64 out]] w fun e w' => e = .returned (.bool true) ∧ Below w.heap.size w w' := by
  have hl := vn_len h
  have hs0 := sg_new w ao n c out 24
  have HS := hid hs0
  have HV := hid h
  clear h hs0
  rcases hfew : fewB L 100 with _ | _
  · have HF := hid hfew
    clear hfew
    go_enter Try.func4, Try.ntmps4
    go_wp2_with (first
      | (go_at_call 8; with_reducible refine Calls.mono (awake_any _) ?_; rintro e w1 ⟨rfl, hb⟩; replace HS := hid (sg_below HS.out hb); obtain ⟨⟨x0, x1⟩, -⟩ := id HS.out; clear hb)
      | (go_at_call 19; with_reducible refine Calls.mono (few_any _ _ _ b off L _ 100 _ (HV.out.below HS.out.2) (by decide)) ?_; rintro e w2 ⟨rfl, hb⟩; replace HS := hid (sg_below HS.out hb); rw [HF.out]; clear hb x0 x1))
    go_ret
    exact ⟨rfl, HS.out.2⟩
  · obtain ⟨hn, hf, -⟩ := few_of hl hfew (by decide)
    have HF := hid (And.intro hfew (And.intro hf (And.intro (few_l hl) hl)))
    have hr := run_falses n (by omega)
    clear hfew hf
    go_enter Try.func4, Try.ntmps4
    go_wp2_with (first
      | (go_at_call 8; with_reducible refine Calls.mono (awake_any _) ?_; rintro e w1 ⟨rfl, hb⟩; replace HS := hid (sg_below HS.out hb); obtain ⟨⟨x0, x1⟩, -⟩ := id HS.out; clear hb)
      | (go_at_call 19; with_reducible refine Calls.mono (few_any _ _ _ b off L _ 100 _ (HV.out.below HS.out.2) (by decide)) ?_; rintro e w2 ⟨rfl, hb⟩; replace HS := hid (sg_below HS.out hb); rw [HF.out.1]; clear x0 x1; obtain ⟨⟨x0, x1⟩, -⟩ := id HS.out; clear hb)
      | (go_at_call 11; with_reducible refine Calls.mono (all_any _ _ _ b off L _ _ (HV.out.below HS.out.2) HF.out.2.1) ?_; rintro e w3 ⟨hr, hb⟩; obtain ⟨aA, m, cA, bA, oA, rfl, hO⟩ := retI hr; have HA := hid hO; replace HS := hid (sg_below HS.out hb); clear x0 x1; obtain ⟨⟨x0, x1⟩, -⟩ := id HS.out; clear hb hr hO))
    have hm : m = (ordG (insL L)).length := by have := vi_len HA.out.v; rw [castL_len] at this; omega
    have hmn : m ≤ n := by rw [hm, ← HF.out.2.2.1]; exact ord_len (ordG_ord _)
    have HM := hid hm
    have hd := ot_news (lo := w3.heap.size) (w := w3) (Nat.le_refl _) (List.replicate n false) (by simp; omega) 4
    rw [List.length_replicate] at hd
    have hb3 : Below w3.heap.size w3 (w3.alloc (.cells (bools (List.replicate n false)).toArray 4)) := (Below.refl _ _).alloc (Nat.le_refl _) _
    have hsz : w3.heap.size < (w3.alloc (.cells (bools (List.replicate n false)).toArray 4)).heap.size := by simp
    clear hr x0 x1 hm
    generalize (w3.alloc (.cells (bools (List.replicate n false)).toArray 4)) = W at *
    generalize hg : w3.heap.size = g at *
    have HD := hid (And.intro hd (And.intro hb3 hsz))
    have hI := hid (ins_start n)
    clear hd hb3 hsz
    generalize List.replicate n false = D0 at *
    go_loopg [5, 6, 7] m (fun gk x5 x6 x7 wr => ∃ (w4 : World) (i : Nat) (D : List Bool), w4 = wr ∧ i ≤ m ∧ gk = m - i ∧ x5 = .int .i64 i ∧ Below g w3 w4 ∧ Ot g w4 (some ⟨g, 0, none⟩) n n g 0 D ∧ Ins n D ((ordG (insL L)).take i))
    case atStart => exact ⟨_, 0, D0, rfl, Nat.zero_le _, rfl, rfl, HD.out.2.1, HD.out.1, hI.out⟩
    case round =>
      obtain ⟨w4, i, D, rfl, hi, rfl, rfl, hB, hO, hIn⟩ := hrel
      have hBl : Below w3.heap.size w3 w4 := by rw [hg]; exact hB
      have H4 := hid (And.intro hB (And.intro hO (And.intro hIn (sg_below HS.out hBl))))
      have hli := HA.out.v.below hBl
      obtain ⟨⟨x0, x1⟩, -⟩ := H4.out.2.2.2
      clear hB hO hIn hI
      by_cases hlt : i < m
      · have hltz : (i : Int) < (m : Int) := by omega
        obtain ⟨a, ha⟩ : ∃ a, (ordG (insL L))[i]? = some a := ⟨_, List.getElem?_eq_getElem (by rw [← HM.out]; exact hlt)⟩
        have han : a < n := by have := (ordG_ord (insL L)).lt a (List.mem_of_getElem? ha); rw [HF.out.2.2.1] at this; exact this
        have haz : (a : Int) < (n : Int) := by omega
        obtain ⟨rfl, e0⟩ := vi_at hli (castL_get ha)
        have hda : bt D a = false := by
          cases hb : bt D a with
          | false => rfl
          | true =>
            obtain ⟨q, hq, e⟩ := List.getElem_of_mem ((H4.out.2.2.1 a han).1 hb)
            rw [List.length_take] at hq
            rw [List.getElem_take] at e
            obtain ⟨hi', e'⟩ := List.getElem?_eq_some_iff.1 ha
            have := (List.getElem_inj (ordG_ord (insL L)).nodup).1 (e.trans e'.symm)
            omega
        have e1 := ot_bt0 H4.out.2.1 han
        rw [hda] at e1
        obtain ⟨v, hv⟩ : ∃ v, L[a]? = some v := ⟨_, List.getElem?_eq_getElem (by rw [HF.out.2.2.2]; exact han)⟩
        obtain ⟨rfl, ⟨f0, f1, f2⟩, hvi, hvp⟩ := vn_at (HV.out.below H4.out.2.2.2.2) hv
        have HE := hid (And.intro (insL_at hv) (And.intro (HV.out.i v (List.mem_of_getElem? hv)) (vi_len hvi)))
        have hni := HF.out.2.1.i v (List.mem_of_getElem? hv)
        have HX := hid (And.intro ha hda)
        have z0 : ¬ ((a : Int) < 0) := by omega
        have z1 : ¬ ((n : Int) ≤ (a : Int)) := by omega
        clear hv hvi hvp ha hda hli
        generalize v.ai = ai at *
        generalize v.ni = ni at *
        generalize v.ci = ci at *
        generalize v.bi = bi at *
        generalize v.oi = oi at *
        generalize v.l = l at *
        generalize v.op = op at *
        generalize v.ap = ap at *
        generalize v.np = np at *
        generalize v.cp = cp at *
        clear v
        go_wp2
        go_quiet (fail)
        rename_i nq
        have hb5 := below_drewN (Below.refl w4.heap.size w4) nq
        have H5 := hid (And.intro hb5 (sg_below H4.out.2.2.2 hb5))
        replace e0 := cell_below hb5 e0
        replace x0 := cell_below hb5 x0
        replace x1 := cell_below hb5 x1
        replace f0 := cell_below hb5 f0
        replace f1 := cell_below hb5 f1
        replace f2 := cell_below hb5 f2
        clear hb5 e1
        generalize w4.drewN nq = w5 at *
        have q0 := World.block_lt_of_cell? _ _ e0
        have q1 := World.block_lt_of_cell? _ _ x0
        have q2 := World.block_lt_of_cell? _ _ f0
        dsimp only at q0 q1 q2
        go_wp2
        go_region
        have hb6 : Below w5.heap.size w5 (w5.alloc (.cells #[.int .i64 op, .slice ai ni ci, .slice ap np cp] 36)).drew := ((Below.refl _ _).alloc (Nat.le_refl _) _).drew
        have k1 : (w5.alloc (.cells #[.int .i64 op, .slice ai ni ci, .slice ap np cp] 36)).drew.cell? ⟨w5.heap.size, 1, none⟩ = some (.slice ai ni ci) := World.cell?_alloc_new w5 #[.int .i64 op, .slice ai ni ci, .slice ap np cp] 36 1
        clear x0 x1 f0 f1 f2 e0 q0 q1 q2
        generalize (w5.alloc (.cells #[.int .i64 op, .slice ai ni ci, .slice ap np cp] 36)).drew = w6 at *
        have hb46 : Below w4.heap.size w4 w6 := H5.out.1.trans (hb6.mono H5.out.1.size)
        generalize w5.heap.size = nb at *
        have H6 := hid (And.intro hb46 (And.intro (sg_below H4.out.2.2.2 hb46) k1))
        clear hb6 hb46 k1 H5
        go_wp2
        go_loopg [7] ni (fun gk x7 wr => ∃ (w7 : World) (j : Nat), w7 = wr ∧ j ≤ ni ∧ gk = ni - j ∧ x7 = .int .i64 j ∧ Below w6.heap.size w6 w7)
        case atStart => exact ⟨_, 0, rfl, Nat.zero_le _, rfl, rfl, Below.refl _ _⟩
        case round =>
          obtain ⟨w7, j, rfl, hj, rfl, rfl, hB7⟩ := hrel
          have hb47 := via (w := w4) H6.out.1 hB7
          have H7 := hid (And.intro hB7 (And.intro hb47 (sg_below H4.out.2.2.2 hb47)))
          have k1 := cell_below hB7 H6.out.2.2
          obtain ⟨⟨x0, x1⟩, -⟩ := H7.out.2.2
          clear hB7 hb47
          by_cases hjlt : j < ni
          · have hjlz : (j : Int) < (ni : Int) := by omega
            obtain ⟨x, hx⟩ : ∃ m, l[j]? = some m := ⟨_, List.getElem?_eq_getElem (by rw [HE.out.2.2]; exact hjlt)⟩
            obtain ⟨rfl, e0⟩ := vi_at (HE.out.2.1.below H7.out.2.2.2) hx
            have HXX := hid hx
            clear hx
            by_cases h0 : x < 0
            · have h0' : decide (0 ≤ x) = false := by rw [decide_eq_false]; omega
              clear h0
              go_wp2
              go_quiet (fail)
              rename_i nq2
              go_wp2
              go_roundg (ni - (j + 1))
              case measure => omega
              case rel => exact ⟨_, j + 1, rfl, hjlt, rfl, by simp, below_drewN H7.out.1 _⟩
            · by_cases h1 : (n : Int) ≤ x
              · have h0' : decide (0 ≤ x) = true := decide_eq_true (by omega)
                have h1' : decide (x < (n : Int)) = false := decide_eq_false (by omega)
                clear h0 h1
                go_wp2
                go_quiet (fail)
                rename_i nq2
                go_wp2
                go_roundg (ni - (j + 1))
                case measure => omega
                case rel => exact ⟨_, j + 1, rfl, hjlt, rfl, by simp, below_drewN H7.out.1 _⟩
              · obtain ⟨t, rfl⟩ : ∃ t : Nat, x = (t : Int) := ⟨x.toNat, by omega⟩
                have htn : t < n := by omega
                have htz : (t : Int) < (n : Int) := by omega
                have ht0 : decide (0 ≤ (t : Int)) = true := decide_eq_true (by omega)
                have ht1 : decide ((t : Int) < (n : Int)) = true := decide_eq_true (by omega)
                have ht2 : decide (t < n) = true := decide_eq_true (by omega)
                have e1 := ot_bt0 (H4.out.2.1.below H7.out.2.1) htn
                have hbt : bt D t = true := by
                  have ho := ordG_ord (insL L)
                  obtain ⟨hi1, hi2⟩ := List.getElem?_eq_some_iff.1 HX.out.1
                  refine (H4.out.2.2.1 t htn).2 (ho.ahead i hi1 t (by rw [HF.out.2.2.1]; exact htn) ?_)
                  rw [List.getD_eq_getElem?_getD, HX.out.1]
                  exact has_iff.2 (by show (t : Int) ∈ inL (insL L) a; rw [HE.out.1]; exact List.mem_of_getElem? HXX.out)
                rw [hbt] at e1
                clear h0 h1 hbt
                go_wp2
                go_quiet (fail)
                rename_i nq2
                go_wp2
                go_roundg (ni - (j + 1))
                case measure => omega
                case rel => exact ⟨_, j + 1, rfl, hjlt, rfl, by simp, below_drewN H7.out.1 _⟩
          · obtain rfl : j = ni := by omega
            have e0 := (vi_at (HA.out.v.below (via (w := w3) hBl H7.out.2.1)) (castL_get HX.out.1)).2
            have hO7 := H4.out.2.1.below H7.out.2.1
            have e1 := ot_bt0 hO7 han
            have e2 := ot_fz0 hO7 han
            have HO7 := hid hO7
            clear hO7
            go_wp2
            go_roundg (m - (i + 1))
            case measure => omega
            case rel =>
              have hg4 : g ≤ w4.heap.size := by have := H4.out.1.size; omega
              refine ⟨_, i + 1, D.set a true, rfl, hlt, rfl, by simp, (H4.out.1.trans (H7.out.2.1.mono hg4)).setCell (p := ⟨g, a, none⟩) (Nat.le_refl _) _, ot_set0 HO7.out han true, ?_⟩
              rw [List.take_add_one, HX.out.1]
              exact ins_step H4.out.2.2.1 (vt_len H4.out.2.1.v) han
      · obtain rfl : i = m := by omega
        have hS : Sg w ao n c out w4 := H4.out.2.2.2
        clear hli
        go_wp2
        go_region_held3 (fun w' => (w'.cell? ⟨w.heap.size, 0, none⟩ = some (.slice ao n c) ∧ w'.cell? ⟨w.heap.size, 1, none⟩ = some (.int .i64 out)) ∧ Below w.heap.size w w') (repeat (first | with_reducible assumption | with_reducible refine sg_drew ?_ | with_reducible refine sg_below ?_ ‹_›)) ((first
          | (go_at_call 13; with_reducible refine Calls.mono (round_s HV.out HF.out.2.1 (by with_reducible assumption)) ?_; rintro e w6 ⟨rfl, hb⟩)))
        rename_i hh
        have HH := hid hh
        have HT : Hid ((((i : Int) == (n : Int)) == !roundB (insL L)) = true) := by
          show (((i : Int) == (n : Int)) == !roundB (insL L)) = true
          unfold roundB
          rw [HF.out.2.2.1, ← HM.out]
          by_cases e : i = n
          · subst e; simp
          · have h1 : i < n := by omega
            have h2 : ((i : Int) == (n : Int)) = false := by simp; omega
            rw [h2, decide_eq_true h1]; rfl
        clear hh hS
        go_wp2
        go_ret
        exact ⟨ret_bool HT.out, HH.out.2⟩

theorem own : ownKnob Try.prog.godebug = none := by kernel_rfl

set_option maxHeartbeats 400000 in
set_option maxRecDepth 100000 in
theorem lifted (os : Os) (started : os.Started) (H : Type) (enc : TypeId × Value → H) :
    ReturnsInHanded {} Try.checked os 4 .any (Rows.orderAheadSpec.pre6 enc Try.prog Try.f4 Rows.orderAheadRow.domain false) (Rows.orderAheadSpec.post enc Try.prog Try.f4 false true false false) := by
  refine returnsInHanded_of_change (C := Try.checked) own started (by kernel_rfl) Try.func4
    (ChangeSpec.witness6 (enc := enc) (C := Try.checked) false ⟨#[], #[.agg #[.slice none 0 0, .int .i64 0]], []⟩ 8 (by kernel_rfl) (by kernel_rfl) (by kernel_rfl) (by kernel_rfl)) ?_
  intro W base args ds gs before hval0 hW hcnd _
  have hval : ∀ (j : Nat) t v, Try.f4.params[j]? = some t → args[j]? = some v → Value.okWide Try.prog W .any base t v := hval0
  have hW' := hW
  obtain ⟨p, q, hA0, hV, rfl, hfz, hnd⟩ := hW
  have hA : DataW.TrodAll enc Try.prog W 0 (fun _ => true) true Try.f4.params.toList args.toList ds p := hA0
  rw [Try.params4] at hA hval
  obtain ⟨v0, vs0, d0, ds0, p0, q0, hargs, rfl, rfl, h0, r0⟩ := trodAll_cons hA
  obtain ⟨rfl, rfl, rfl⟩ := trodAll_nil r0
  obtain rfl : args = #[v0] := by cases args; simp_all
  obtain ⟨rfl, rfl⟩ := trodVars_none hV
  obtain ⟨ao0, n0, c0, b0, off0, L0, out0, rfl, hv0⟩ := open_graph (hval 0 24 v0 rfl rfl) h0
  clear hA0 hval0
  simp only [List.append_nil] at hW'
  have hlt : ∀ x ∈ p0, x.block < W.heap.size := fun x hx => by simpa using hW'.lt x (by simpa using hx)
  refine (walk ao0 n0 c0 b0 off0 L0 out0 W hv0).mono fun e W' ⟨he, hg⟩ => ?_
  subst he
  have t0 := Below.trod laidOut (by kernel_rfl) (of_decide_eq_true (by kernel_rfl)) h0 hg (fun x hx => hlt x hx)
  exact ⟨_, rfl, ⟨_, _, _, _, _, _, hW', (trodAll_cons_mk (shut_bool Try.underlying4 _) trodAll_mk0), (trodAll_cons_mk t0 trodAll_mk0), rfl, hg.frame _, fun h => by cases h⟩⟩

theorem over : Rows.orderAheadRow.holds Try.pinned (OpenSpec.ofChange Rows.orderAheadSpec) :=
  OpenClaim.holds_of_wide 4 Try.f4 rfl rfl rfl rfl rfl rfl rfl ⟨rfl, rfl, rfl, rfl, rfl⟩ rfl rfl rfl rfl rfl (by kernel_rfl) Try.func4 (by kernel_rfl)
    (of_decide_eq_true (by kernel_rfl)) (by unfold Func.isWrapper; first | (rw [if_pos (by decide +kernel)]; kernel_rfl) | (rw [if_neg (by decide +kernel)]; exact ⟨rfl, rfl⟩))
    (fun os started H enc _ => lifted os started H enc)

theorem proved : Rows.OrderAheadSaid := over
#print axioms proved
end Go.Proofs.Ytccbgekijnkhpaa.orderAhead
