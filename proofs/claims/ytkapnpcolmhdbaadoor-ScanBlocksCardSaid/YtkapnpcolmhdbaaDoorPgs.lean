/- The contract of the document's Pages. -/
import Derived.Test.YtkapnpcolmhdbaaDoorZMc
import Derived.Test.YtkapnpcolmhdbaaDoorRefReadF
import Derived.Lib.ConvBytes
import Derived.Deep.RegionHeldLaw
namespace Go.Proofs.YtkapnpcolmhdbaaDoor.Sc
open Go.RowKit
open Drawbar Drawbar.Sheet Drawbar.Nand Drawbar.Scan Drawbar.Gm Go.Proofs.YtkapnpcolmhdbaaDoor.Nd
theorem conv_back (W : World) (l : List Nat) (hl : ∀ x ∈ l, x < 256) (hlen : l.length ≤ 96) :
    ∃ c W', (convert 9 42 (.string (strOf l))).run Tryd.prog W = .ok (.slice (some ⟨W.heap.size, 0, none⟩) l.length c) W' ∧ Rd W' (some ⟨W.heap.size, 0, none⟩) l ∧ l.length ≤ c ∧ Below W.heap.size W W' ∧ W'.heap.size = W.heap.size + 1 := by
  have hr := Lib.run_convert_string_bytes W 9 42 5 (strOf l) Tryd.underlying9 Tryd.underlying42 Tryd.underlying5
  have hs := str_size l
  refine ⟨grownCap W l.length 0 5, Lib.bytesWorld W 5 (strOf l), by rw [hs] at hr; exact hr, ⟨hl, by omega, fun _ => ⟨W.heap.size, 0, rfl, fun i hi => ?_⟩⟩, ?_, ⟨rfl, rfl, rfl, by rw [Lib.bytesWorld_size]; omega, fun k hk => Lib.bytesWorld_at_old W _ _ k hk⟩, Lib.bytesWorld_size W _ _⟩
  · rw [Nat.zero_add, Lib.bytesWorld_cell W _ _ i (by omega)]
    unfold strOf
    have h256 := hl _ (List.getElem_mem hi)
    simp [List.getD_eq_getElem?_getD, List.getElem?_map, List.getElem?_eq_getElem hi]
    omega
  · exact grownCap_ge W _ 0 _
theorem adr_le {m : Int} {l : List Nat} {x : Sh} (h : adr m l = some x) : x = (readS l).1 ∧ (readS l).2 = 0 ∧ (readS l).1.k ≠ 3 ∧ (readS l).1.ad ≤ m := by
  unfold adr at h
  split at h
  · rename_i h1; cases h; exact ⟨rfl, h1⟩
  · cases h
set_option maxRecDepth 100000 in
set_option maxHeartbeats 4000000 in
theorem pages_any (n : Nat) (hn : n < 256) (W : World) (ga : Option Addr) (gc : Nat) (hBd : Bads W ga (gB n)) (s : Arr) (oa : Option Addr) (oc : Nat) (hO : OutAt W oa (gN n) s)
    (h96 : ∀ b, b < gN n → ∀ k, k < (showS s b).length → ((showS s b).getD k []).length = 96 ∧ ∀ x ∈ (showS s b).getD k [], x < 256) (hl5 : ∀ b, b < gN n → (showS s b).length ≤ 32) :
    Calls Tryd.prog 8 #[.agg #[.int .i64 (gb n), .int .i64 (gp n), .int .i64 (gs n), .slice ga (gB n).length gc], .slice oa (gN n) oc] W (PgsQ W (heldI (gCn n) s (gus n))) := by
  obtain ⟨i0, hinf, hz0, hz1, hz2⟩ := info_parts info_page
  obtain ⟨W0, hW0⟩ : ∃ W0, W0 = W.alloc (Pn.boxed (gb n) (gp n) (gs n) ga (gB n).length gc) := ⟨_, rfl⟩
  have hb0 : Below W.heap.size W W0 := by rw [hW0]; exact (Below.refl _ _).alloc (Nat.le_refl _) _
  have hcells := Pn.boxed_cells W (gb n) (gp n) (gs n) ga (gB n).length gc
  rw [← hW0] at hcells
  have hU : Calls Tryd.prog 19 #[Pn.geo (gb n) (gp n) (gs n) ga (gB n).length gc] W0 (Pn.NewIntsF W0 (gus n)) := Pn.refusable_fr (gb n) (gp n) (gs n) (gB n) ga gc W0 ((hBd.below hb0).rd) (Nat.le_trans (gB_len n) (by omega)) (by rw [gb_eq]; have := gN_le n; omega)
  unfold Pn.geo at hU
  obtain ⟨c0, c1, c2, c3⟩ := hcells _ (Below.refl _ _)
  have hsz0 : W0.heap.size = W.heap.size + 1 := by rw [hW0]; simp
  have HU := Lib.hid hU
  rw [hW0] at HU c0 c1 c2 c3
  have HC := Lib.hid hcells
  have H0 := Lib.hid (And.intro hb0 (And.intro (hBd.below hb0) (And.intro (hO.below hb0) (And.intro h96 (And.intro hl5 (And.intro hn hsz0))))))
  have HW0 := Lib.hid hW0
  clear hU hcells hb0 hBd hO h96 hl5 hn hW0 hsz0
  go_enter Tryd.func8, Tryd.ntmps8
  go_wp2_with fail
  (with_reducible refine HU.out.mono ?_)
  rintro e w1 ⟨au, cu, rfl, hru, hb1, hfr1⟩
  rw [← HW0.out] at hb1 hfr1
  obtain ⟨ub, uo, rfl, hcu⟩ := hru (by have := gus_len n H0.out.2.2.2.2.2.1; omega)
  obtain ⟨UL, hUL⟩ : ∃ UL, (gus n).length = UL := ⟨_, rfl⟩
  have HUL := Lib.hid hUL
  have H1 := Lib.hid (And.intro hb1 (And.intro hcu (hfr1 _ rfl)))
  have hUL7 : UL ≤ 7 := by rw [← hUL]; exact (gus_len n H0.out.2.2.2.2.2.1).2
  rw [hUL]
  clear hb1 hcu hru hfr1 hUL c0 c1 c2 c3
  go_wp2_with fail
  go_loopw [5, 7] (fun bl iv wx => ∃ a : Nat, a ≤ UL ∧ iv = .int .i64 a ∧ Below w1.heap.size w1 wx ∧ RowF wx w1.heap.size 49 bl (heldI (gCn n) s ((gus n).take a))) (fun _ iv _ => UL - (intOf iv).toNat)
  case atStart => exact ⟨0, Nat.zero_le _, rfl, Below.refl _ _, by rw [List.take_zero]; exact RowF.nil _ _ _⟩
  case round =>
    obtain ⟨a, haU, rfl, hbr, hrow⟩ := hrel
    by_cases hlt : a < UL
    · have hlt2 : (a : Int) < (UL : Int) := by omega
      obtain ⟨i, hui, hmi, hiN⟩ := gus_at H0.out.2.2.2.2.2.1 a
      rw [HUL.out, Nat.mod_eq_of_lt hlt] at hui
      obtain ⟨wA, rfl⟩ : ∃ wA, wA = wr := ⟨_, rfl⟩
      have HA := Lib.hid (And.intro hbr (And.intro hrow (And.intro hui (And.intro hmi hiN))))
      obtain ⟨M, hM⟩ : ∃ M, (showS s i).length = M := ⟨_, rfl⟩
      have hM32 := H0.out.2.2.2.2.1 i hiN
      rw [hM] at hM32
      have HM := Lib.hid hM
      clear hbr hrow hui hmi hiN hM
      have hft0 : heldI (gCn n) s ((gus n).take a) = heldI (gCn n) s ((gus n).take a) ++ foundTo (gCn n) i (showS s i) 0 := by simp [foundTo]
      have HF0 := Lib.hid hft0
      clear hft0
      go_wp2_with fail
      go_loopw [5, 8] (fun bl kv wx => ∃ k : Nat, k ≤ M ∧ kv = .int .i64 k ∧ Below w1.heap.size w1 wx ∧ RowF wx w1.heap.size 49 bl (heldI (gCn n) s ((gus n).take a) ++ foundTo (gCn n) i (showS s i) k)) (fun _ kv _ => M - (intOf kv).toNat)
      case atStart => exact ⟨0, Nat.zero_le _, rfl, HA.out.1, by rw [← HF0.out]; exact HA.out.2.1⟩
      case round =>
        obtain ⟨k, hkM, rfl, hbk, hrk⟩ := hrel
        have hb1r : Below w1.heap.size w1 wr := hbk
        have hb0r : Below W0.heap.size W0 wr := H1.out.1.trans (hb1r.mono H1.out.1.size)
        obtain ⟨ob, rfl, hoc⟩ := (H0.out.2.2.1.below hb0r)
        obtain ⟨ra, rc, hoi, htx⟩ := hoc i HA.out.2.2.2.2
        have hun : wr.cell? ⟨ub, uo + a, none⟩ = some (.int .i64 i) := by
          have h2 := H1.out.2.1 a (by rw [HUL.out]; exact hlt)
          rw [HA.out.2.2.1] at h2
          exact (hb1r.cell (p := ⟨ub, uo + a, none⟩) H1.out.2.2.2).trans h2
        rw [HM.out] at hoi
        have hi0 : (0 : Int) ≤ (i : Int) := by omega
        have hiN : (i : Int) < (gN n : Int) := by have := HA.out.2.2.2.2; omega
        by_cases hkl : k < M
        · have hkl2 : (k : Int) < (M : Int) := by omega
          have hk0 : (0 : Int) ≤ (k : Int) := by omega
          obtain ⟨x, rfl, hxc⟩ := htx k (by rw [HM.out]; exact hkl)
          obtain ⟨l, hl⟩ : ∃ l, (showS s i).getD k [] = l := ⟨_, rfl⟩
          have hl96 := H0.out.2.2.2.1 i HA.out.2.2.2.2 k (by rw [HM.out]; exact hkl)
          rw [hl] at hl96 hxc
          obtain ⟨cc, wB, hcv, hrd, hcc, hbB, hszB⟩ := conv_back wr l hl96.2 (by omega)
          rw [hl96.1] at hcv
          have HRD := Lib.hid (rread_fr l (some ⟨wr.heap.size, 0, none⟩) cc wB 96 hl96.1 hrd hcc (fun h => by cases h))
          have HL := Lib.hid hl
          have HK := Lib.hid (And.intro hbk (And.intro hrk (And.intro hb1r (And.intro hb0r (And.intro hbB hszB)))))
          obtain ⟨st, hst⟩ : ∃ st, strOf l = st := ⟨_, rfl⟩
          rw [hst] at hxc hcv
          clear hl hl96 hrd hcc hbB hszB hbk hrk hb1r hb0r hst hoc htx
          go_wp2_with fail
          (with_reducible refine HRD.out.mono ?_)
          rintro e w3 ⟨ya, yc, rfl, hyr, hyl, hyn, hyb, hyq⟩
          obtain ⟨R, hR⟩ : ∃ R, readS l = R := ⟨_, rfl⟩
          rw [hR] at hyr hyl ⊢
          obtain ⟨w4, hw4⟩ : ∃ w4, w4 = w3.alloc (boxs 47 R.1 ya yc) := ⟨_, rfl⟩
          have hb34 : Below w3.heap.size w3 w4 := by rw [hw4]; exact (Below.refl _ _).alloc (Nat.le_refl _) _
          have hsx : w4.heap[w3.heap.size]? = some (.cells #[.int .u8 R.1.k, .int .u64 R.1.ep, .int .u64 R.1.sq, .int .i64 R.1.ad, .int .i64 R.1.fr, .slice ya R.1.da.length yc] 47 (0, 0)) := by rw [hw4]; exact heap_alloc_new _ _
          have hbr4 : Below wr.heap.size wr w4 := HK.out.2.2.2.2.1.trans ((hyb.trans (hb34.mono hyb.size)).mono HK.out.2.2.2.2.1.size)
          have hda4 : DaAt w4 (.slice ya R.1.da.length yc) R.1.da := ⟨ya, yc, rfl, hyr.below hb34, hyl, hyn⟩
          have hfr4 : ∀ q, ya = some q → wr.heap.size ≤ q.block := fun q hq => by
            obtain ⟨q0, hq0, hq1⟩ := hyq q hq
            cases hq0
            rw [hq1]; exact Nat.le_refl _
          have hone : ∀ z, adr (gCn n) l = z → (match z with | some x => x = R.1 ∧ R.2 = 0 ∧ R.1.k ≠ 3 ∧ R.1.ad ≤ (gCn n : Int) | none => ¬ (R.2 = 0 ∧ R.1.k ≠ 3 ∧ R.1.ad ≤ (gCn n : Int))) := fun z hz => by
            unfold adr at hz
            rw [hR] at hz
            by_cases hc : R.2 = 0 ∧ R.1.k ≠ 3 ∧ R.1.ad ≤ (gCn n : Int)
            · rw [if_pos hc] at hz; subst hz; exact ⟨rfl, hc⟩
            · rw [if_neg hc] at hz; subst hz; exact hc
          have H4 := Lib.hid (And.intro hbr4 (And.intro hsx (And.intro hda4 (And.intro hfr4 hone))))
          obtain ⟨⟨s0, s1, s2, s3, s4, s5⟩, -⟩ := six_cells hsx
          have hb04 : Below W0.heap.size W0 w4 := HK.out.2.2.2.1.trans (hbr4.mono HK.out.2.2.2.1.size)
          obtain ⟨g0, g1, g2, g3⟩ := HC.out _ hb04
          have HCP := Lib.hid (show Calls Tryd.prog 20 #[.agg #[.int .i64 (gb n), .int .i64 (gp n), .int .i64 (gs n), .slice ga (gB n).length gc]] w4.drew (fun e w' => e = .returned (.int .i64 (gCn n : Nat)) ∧ Below w4.heap.size w4 w' ∧ w'.cell? ⟨w3.heap.size, 0, none⟩ = some (.int .u8 R.1.k) ∧ w'.cell? ⟨w3.heap.size, 3, none⟩ = some (.int .i64 R.1.ad) ∧ w'.cell? ⟨W.heap.size, 0, none⟩ = some (.int .i64 (gb n)) ∧ w'.cell? ⟨W.heap.size, 1, none⟩ = some (.int .i64 (gp n)) ∧ w'.cell? ⟨W.heap.size, 2, none⟩ = some (.int .i64 (gs n)) ∧ w'.cell? ⟨W.heap.size, 3, none⟩ = some (.slice ga (gB n).length gc)) from by
            have h := Pn.refcap_any (gb n) (gp n) (gs n) (gB n) ga gc w4.drew ((H0.out.2.1.below (hb04.drew)).rd) (Nat.le_trans (gB_len n) (by omega)) (geom_small n) (by rw [gb_eq]; have := gN_le n; omega)
            refine h.mono ?_
            rintro e w' ⟨rfl, hb2⟩
            have hb3 : Below w4.heap.size w4 w' := ((Below.refl _ w4).drew).trans hb2
            obtain ⟨g0, g1, g2, g3⟩ := HC.out _ (hb04.trans (hb3.mono hb04.size))
            refine ⟨?_, hb3, (hb3.cell (p := ⟨w3.heap.size, 0, none⟩) (World.block_lt_of_cell? w4 _ s0)).trans s0, (hb3.cell (p := ⟨w3.heap.size, 3, none⟩) (World.block_lt_of_cell? w4 _ s3)).trans s3, g0, g1, g2, g3⟩
            have := (gC_eq n H0.out.2.2.2.2.2.1).1
            unfold gC at this
            rw [this])
          have HW4 := Lib.hid hw4
          obtain ⟨SB, hSB⟩ : ∃ SB, SB = w3.heap.size := ⟨_, rfl⟩
          have HSB := Lib.hid hSB
          rw [← hSB] at s0 s1 s2 s3 s4 s5 HCP
          clear hyr hyl hyn hyb hyq hR hw4 hb34 hsx hbr4 hda4 hfr4 hone hb04 hSB hun hoi hxc hcv
          go_upto_region 10 with fail
          rw [← HW4.out, ← HSB.out]
          obtain ⟨zz, hzz⟩ : ∃ zz : Bool, zz = (adr (gCn n) l).isSome := ⟨_, rfl⟩
          have HZZ := Lib.hid hzz
          clear hzz
          go_cut [59] from 46 to 58 (fun p wx => p = .bool zz ∧ Below w4.heap.size w4 wx)
          case first =>
            have hsome : zz = true ↔ (R.2 = 0 ∧ R.1.k ≠ 3 ∧ R.1.ad ≤ (gCn n : Int)) := by
              rw [HZZ.out]
              cases hz : adr (gCn n) l with
              | none => have := H4.out.2.2.2.2 none hz; simp only at this; simp [this]
              | some x => have := H4.out.2.2.2.2 (some x) hz; simp only at this; simp [this.2]
            by_cases h1 : R.2 = 0
            · have e1 : ((R.2 : Int) == 0) = true := by simp; omega
              have e1b : (R.2 : Int) = 0 := by omega
              by_cases h2 : R.1.k = 3
              · obtain rfl : zz = false := by cases zz with | false => rfl | true => exact absurd h2 (hsome.1 rfl).2.1
                have e2 : ((R.1.k : Int) == 3) = true := by simp; omega
                have e3 : ((R.1.k : Int) != 3) = false := by simp; omega
                clear hsome h1 h2
                go_quiet (fail)
                all_goals
                  go_wp2
                  go_meet
                  exact ⟨rfl, below_drewN (Below.refl _ _) _⟩
              · clear e1b
                have e2 : ((R.1.k : Int) == 3) = false := by simp; omega
                have e3 : ((R.1.k : Int) != 3) = true := by simp; omega
                by_cases h3 : R.1.ad ≤ (gCn n : Int)
                · obtain rfl : zz = true := hsome.2 ⟨h1, h2, h3⟩
                  have e4 : decide (R.1.ad ≤ (gCn n : Int)) = true := decide_eq_true h3
                  clear hsome h1 h2
                  go_region_held (fun W' => W'.cell? ⟨SB, 0, none⟩ = some (.int .u8 R.1.k) ∧ W'.cell? ⟨SB, 3, none⟩ = some (.int .i64 R.1.ad) ∧ W'.cell? ⟨W.heap.size, 0, none⟩ = some (.int .i64 (gb n)) ∧ W'.cell? ⟨W.heap.size, 1, none⟩ = some (.int .i64 (gp n)) ∧ W'.cell? ⟨W.heap.size, 2, none⟩ = some (.int .i64 (gs n)) ∧ W'.cell? ⟨W.heap.size, 3, none⟩ = some (.slice ga (gB n).length gc)) (go_keep) (first | (go_at_call 20; (with_reducible refine HCP.out.mono ?_); rintro e w5 ⟨rfl, hb5, z1, z2, z3, z4, z5, z6⟩))
                  all_goals
                    go_wp2
                    go_meet
                    exact ⟨rfl, hb5⟩
                · obtain rfl : zz = false := by cases zz with | false => rfl | true => exact absurd (hsome.1 rfl).2.2 h3
                  have e4 : decide (R.1.ad ≤ (gCn n : Int)) = false := decide_eq_false h3
                  clear hsome h1 h2
                  go_region_held (fun W' => W'.cell? ⟨SB, 0, none⟩ = some (.int .u8 R.1.k) ∧ W'.cell? ⟨SB, 3, none⟩ = some (.int .i64 R.1.ad) ∧ W'.cell? ⟨W.heap.size, 0, none⟩ = some (.int .i64 (gb n)) ∧ W'.cell? ⟨W.heap.size, 1, none⟩ = some (.int .i64 (gp n)) ∧ W'.cell? ⟨W.heap.size, 2, none⟩ = some (.int .i64 (gs n)) ∧ W'.cell? ⟨W.heap.size, 3, none⟩ = some (.slice ga (gB n).length gc)) (go_keep) (first | (go_at_call 20; (with_reducible refine HCP.out.mono ?_); rintro e w5 ⟨rfl, hb5, z1, z2, z3, z4, z5, z6⟩))
                  all_goals
                    go_wp2
                    go_meet
                    exact ⟨rfl, hb5⟩
            · obtain rfl : zz = false := by cases zz with | false => rfl | true => exact absurd (hsome.1 rfl).1 h1
              have e1 : ((R.2 : Int) == 0) = false := by simp; omega
              have e1b : ¬ (R.2 : Int) = 0 := by omega
              clear hsome h1
              go_quiet (fail)
              all_goals
                go_wp2
                go_meet
                exact ⟨rfl, below_drewN (Below.refl _ _) _⟩
          case rest =>
            obtain ⟨rfl, hbc⟩ := hcut
            clear s0 s1 s2 s3 s4 s5 g0 g1 g2 g3
            cases hz : adr (gCn n) l with
            | none =>
              obtain rfl : zz = false := by rw [HZZ.out, hz]; rfl
              have hst2 : foundTo (gCn n) i (showS s i) (k + 1) = foundTo (gCn n) i (showS s i) k := by rw [foundTo, HL.out]; unfold one; rw [hz]; simp
              have HF := Lib.hid (And.intro (HK.out.1.trans ((H4.out.1.trans (hbc.mono H4.out.1.size)).mono HK.out.1.size)) (And.intro hst2 (HK.out.2.1.below (H4.out.1.trans (hbc.mono H4.out.1.size)))))
              clear hst2 hz hbc
              go_wp2
              go_roundw
              case rel => exact ⟨k + 1, by omega, by go_num, HF.out.1, by rw [HF.out.2.1]; exact HF.out.2.2⟩
              case measure => simp [intOf]; omega
            | some x0 =>
              obtain rfl : zz = true := by rw [HZZ.out, hz]; rfl
              have hx0 := (H4.out.2.2.2.2 _ hz).1
              have hst2 : foundTo (gCn n) i (showS s i) (k + 1) = foundTo (gCn n) i (showS s i) k ++ [⟨i, k, R.1⟩] := by rw [foundTo, HL.out]; unfold one; rw [hz]; simp only; rw [← hx0]
              have HST := Lib.hid hst2
              clear hst2 hz hx0
              obtain ⟨LL, hL1, hL2⟩ := HK.out.2.1
              have hLn : LL.length ≤ 100000 := by
                have h1 := congrArg List.length hL1
                have h2 := held_len (gCn n) s ((gus n).take a) (fun i hi => H0.out.2.2.2.2.1 i.toNat (by have := gus_rng n i (List.mem_of_mem_take hi); omega))
                have h3 := foundTo_len (gCn n) i (showS s i) k
                have h4 := (gus_len n H0.out.2.2.2.2.2.1).2
                have h5 : ((gus n).take a).length ≤ (gus n).length := by rw [List.length_take]; omega
                rw [List.length_map, List.length_append] at h1
                omega
              have hbrc : Below wr.heap.size wr wc := H4.out.1.trans (hbc.mono H4.out.1.size)
              have hL4 := hL2.below hbrc
              have hap : ApartV u5 (.slice ya R.1.da.length yc) := fun a' n' c' he h0 hbb => by
                cases he
                have h1 := (hL2.own.lt _ hbb).2
                have h2 := H4.out.2.2.2.1 a' rfl
                omega
              have hown := hL4.own
              have hun : wc.cell? ⟨ub, uo + a, none⟩ = some (.int .i64 i) := by
                have h2 := H1.out.2.1 a (by rw [HUL.out]; exact hlt)
                rw [HA.out.2.2.1] at h2
                exact ((HK.out.2.2.1.trans (hbrc.mono HK.out.2.2.1.size)).cell (p := ⟨ub, uo + a, none⟩) H1.out.2.2.2).trans h2
              obtain ⟨⟨s0, s1, s2, s3, s4, s5⟩, -⟩ := six_cells ((hbc.block _ (Array.getElem?_eq_some_iff.1 H4.out.2.1).1).trans H4.out.2.1)
              rw [← HSB.out] at s0 s1 s2 s3 s4 s5
              have hsz5 : w1.heap.size ≤ wc.heap.size := Nat.le_trans HK.out.2.2.1.size hbrc.size
              have happ : ∀ gg cap w6, w6.ownsRow 0 49 8 (.slice (some ⟨gg, 0, none⟩) (LL.length + 1) cap) (LL.length + 1) (rowF LL ++ fcells ⟨i, k, R.1⟩ (.slice ya R.1.da.length yc)) → ((wc.alloc (.cells #[.int .i64 i, .int .i64 k, .int .u8 R.1.k, .int .u64 R.1.ep, .int .u64 R.1.sq, .int .i64 R.1.ad, .int .i64 R.1.fr, .slice ya R.1.da.length yc] 49)).drew).grownBy w6 u5.ownBlock → (u5.ownBlock = some gg ∨ gg = wc.heap.size + 1) →
                  Below w1.heap.size w1 w6 ∧ RowF w6 w1.heap.size 49 (.slice (some ⟨gg, 0, none⟩) (LL.length + 1) cap) (heldI (gCn n) s ((gus n).take a) ++ foundTo (gCn n) i (showS s i) (k + 1)) := by
                intro gg cap w6 ho hg hat
                have hbo : Below wc.heap.size wc ((wc.alloc (.cells #[.int .i64 i, .int .i64 k, .int .u8 R.1.k, .int .u64 R.1.ep, .int .u64 R.1.sq, .int .i64 R.1.ad, .int .i64 R.1.fr, .slice ya R.1.da.length yc] 49)).drew) := ((Below.refl _ wc).alloc (Nat.le_refl _) _).drew
                have hq := (hL4.below hbo).app ((H4.out.2.2.1.below hbc).below hbo) hap (Nat.le_trans hsz5 hbo.size) ho hg (fun d hd => by
                  obtain rfl : gg = d := by simpa [Value.ownBlock] using hd
                  rcases hat with h | h
                  · exact .inl h
                  · exact .inr (by rw [h]; show (wc.alloc _).heap.size ≤ _; simp))
                refine ⟨(HK.out.2.2.1.trans (hbrc.mono HK.out.2.2.1.size)).trans ((hbo.mono hsz5).trans hq.2), _, ?_, hq.1⟩
                rw [List.map_append, hL1, HST.out, ← List.append_assoc]
                rfl
              have HP := Lib.hid happ
              have i5 : (0 : Int) ≤ (a : Int) := by omega
              have HO := Lib.hid hown
              obtain ⟨ua, uc, rfl⟩ := own_shp hown
              clear hL1 hL2 hL4 hap hbrc hown hbc hsz5 happ
              go_upto_region 11 with fail
              have hkeep : ∀ W', Below wc.heap.size wc W' → W'.cell? ⟨ub, uo + a, none⟩ = some (.int .i64 i) ∧ W'.cell? ⟨SB, 0, none⟩ = some (.int .u8 R.1.k) ∧ W'.cell? ⟨SB, 1, none⟩ = some (.int .u64 R.1.ep) ∧ W'.cell? ⟨SB, 2, none⟩ = some (.int .u64 R.1.sq) ∧ W'.cell? ⟨SB, 3, none⟩ = some (.int .i64 R.1.ad) ∧ W'.cell? ⟨SB, 4, none⟩ = some (.int .i64 R.1.fr) ∧ W'.cell? ⟨SB, 5, none⟩ = some (.slice ya R.1.da.length yc) := fun W' hb =>
                ⟨(hb.cell (p := ⟨ub, uo + a, none⟩) (World.block_lt_of_cell? wc _ hun)).trans hun, (hb.cell (p := ⟨SB, 0, none⟩) (World.block_lt_of_cell? wc _ s0)).trans s0, (hb.cell (p := ⟨SB, 1, none⟩) (World.block_lt_of_cell? wc _ s1)).trans s1, (hb.cell (p := ⟨SB, 2, none⟩) (World.block_lt_of_cell? wc _ s2)).trans s2, (hb.cell (p := ⟨SB, 3, none⟩) (World.block_lt_of_cell? wc _ s3)).trans s3, (hb.cell (p := ⟨SB, 4, none⟩) (World.block_lt_of_cell? wc _ s4)).trans s4, (hb.cell (p := ⟨SB, 5, none⟩) (World.block_lt_of_cell? wc _ s5)).trans s5⟩
              go_region_law (first | (refine step_append_lies _ (by rfl) _ _ _ (by rfl) 0 49 i0 _ 8 80 Tryd.underlying32 hinf hz0 hz1 hz2 rfl (by omega) (.slice ua LL.length uc) LL.length (rowF LL) (by rfl) ((HO.out.alloc _).drew) ⟨wc.heap.size, 0, none⟩ 1 1 (fcells ⟨i, k, R.1⟩ (.slice ya R.1.da.length yc)) (by rfl) (by rfl) (World.news_of_block (cs := #[.int .i64 i, .int .i64 k, .int .u8 R.1.k, .int .u64 R.1.ep, .int .u64 R.1.sq, .int .i64 R.1.ad, .int .i64 R.1.fr, .slice ya R.1.da.length yc]) (t := 49) (fr := (0, 0)) (heap_alloc_new wc _)) (by simp [fcells, Value.oneCell']) (by omega) (by unfold maxLen; omega) (by omega) (Nat.zero_le _) (wc.heap.size + 1) (by simp) ?_; intro gg cap w6 hown6 hg6 hat6 hlt6; have HR := Lib.hid (HP.out _ _ _ hown6 hg6 hat6); clear hown6 hg6 hat6))
              all_goals
                go_wp2
                go_roundw
                case rel => exact ⟨k + 1, by omega, by go_num, HR.out.1, HR.out.2⟩
                case measure => simp [intOf]; omega
        · obtain rfl : k = M := by omega
          have hkl2 : ¬ ((k : Int) < (k : Int)) := by omega
          have hnx : heldI (gCn n) s ((gus n).take a) ++ foundTo (gCn n) i (showS s i) k = heldI (gCn n) s ((gus n).take (a + 1)) := by
            have hla : a < (gus n).length := by rw [HUL.out]; exact hlt
            have hga : (gus n)[a] = (i : Int) := by
              have := HA.out.2.2.1
              rw [List.getD_eq_getElem?_getD, List.getElem?_eq_getElem hla] at this
              exact this
            rw [held_snoc _ _ _ _ hla, hga, blockF_show, Int.toNat_natCast, HM.out]
          have HF := Lib.hid (And.intro hb1r (hnx ▸ hrk))
          clear hnx hbk hrk hb1r hb0r hoc htx
          go_wp2
          go_roundw
          case rel => exact ⟨a + 1, by omega, by go_num, HF.out.1, HF.out.2⟩
          case measure => simp [intOf]; omega
    · obtain rfl : a = UL := by omega
      have hlt2 : ¬ ((a : Int) < (a : Int)) := by omega
      have hF : PgsQ W (heldI (gCn n) s (gus n)) (.returned u5) wr := by
        rw [← HUL.out, List.take_length] at hrow
        obtain ⟨LL, h1, h2⟩ := hrow
        have hW1 : Below W.heap.size W w1 := H0.out.1.trans (H1.out.1.mono H0.out.1.size)
        exact ⟨u5, rfl, ⟨LL, h1, ⟨h2.own, fun d hd => Nat.le_trans hW1.size (h2.low d hd), h2.da⟩⟩, hW1.trans (hbr.mono hW1.size)⟩
      have HF := Lib.hid hF
      clear hbr hrow hF
      go_wp2
      go_ret
      exact HF.out
end Go.Proofs.YtkapnpcolmhdbaaDoor.Sc
