/- The walk of the law OctetSeals: any bytes sealed, and back; any bytes as sealed ones; the sum of any. -/
import Derived.Test.YtmadcbpeiibfaaaDoorRefOpen
namespace Go.Proofs.YtmadcbpeiibfaaaDoor
open Go.RowKit
open Drawbar

theorem seals_long (l m : List Nat) (a b : Option Addr) (cap cap2 : Nat) (w : World) (hT : Tab w) (h : 3000 < l.length + m.length) (hl : l.length ≤ 140737488351232) (hm : m.length ≤ 140737488351232) :
    Calls Tryd.prog 4 #[.slice a l.length cap, .slice b m.length cap2] w (Yes w) := by
  have hgt : (3000 : Int) < (l.length : Int) + (m.length : Int) := by omega
  go_enter Tryd.func4, Tryd.ntmps4
  go_wp2_with fail
  refine (awake_any w hT).mono ?_
  rintro e w1 ⟨rfl, hb1⟩
  have hT1 := hT.below hb1 hT.pos
  go_wp2_with fail
  refine (awake_any w1 hT1).mono ?_
  rintro e w2 ⟨rfl, hb2⟩
  go_wp2
  go_ret
  exact ⟨rfl, hb1.trans (hb2.mono hb1.size)⟩

/-- Both Opens answer alike. -/
theorem opens_alike {w w1 w2 : World} {l : List Nat} {e e' : Ending} (h : Opens w l e w1) (h' : ∃ w0, RefOpens w0 l e' w2) :
    ∃ (m : List Nat) (ev : Int), (∃ a c, e = .returned (.tuple #[.slice a m.length c, .int .i64 ev]) ∧ Rd w1 a m) ∧ (∃ a c, e' = .returned (.tuple #[.slice a m.length c, .int .i64 ev]) ∧ Rd w2 a m) := by
  obtain ⟨_, h⟩ := h
  obtain ⟨_, _, h'⟩ := h'
  rcases h with ⟨h1, rfl⟩ | ⟨h1, h2, rfl⟩ | ⟨h1, a, c, rfl, h2, h3⟩
  · rcases h' with ⟨_, rfl⟩ | ⟨k1, _⟩ | ⟨k1, _⟩
    · exact ⟨[], 3, ⟨none, 0, rfl, rd_nil _⟩, ⟨none, 0, rfl, rd_nil _⟩⟩
    · omega
    · exact absurd k1.1 (by omega)
  · rcases h' with ⟨k1, _⟩ | ⟨_, _, rfl⟩ | ⟨k1, _⟩
    · omega
    · exact ⟨[], 4, ⟨none, 0, rfl, rd_nil _⟩, ⟨none, 0, rfl, rd_nil _⟩⟩
    · exact absurd k1 h2
  · have hl : (l.take (l.length - 4)).length = l.length - 4 := by rw [List.length_take]; omega
    rcases h' with ⟨k1, _⟩ | ⟨_, k2, _⟩ | ⟨_, a', c', rfl, k2, k3⟩
    · exact absurd h1.1 (by omega)
    · exact absurd h1 k2
    · exact ⟨l.take (l.length - 4), 0, ⟨a, c, by rw [hl], h3⟩, ⟨a', c', by rw [hl], k3⟩⟩

set_option maxHeartbeats 1000000 in
theorem seals_short (l q : List Nat) (a b : Option Addr) (cap cap2 : Nat) (w : World) (hr : Rd w a l) (hq : Rd w b q) (hcap : l.length ≤ cap) (hcap2 : q.length ≤ cap2) (hnil : a = none → cap = 0) (hT : Tab w) (h : l.length + q.length ≤ 3000) :
    Calls Tryd.prog 4 #[.slice a l.length cap, .slice b q.length cap2] w (Yes w) := by
  have hgt : ¬ ((3000 : Int) < (l.length : Int) + (q.length : Int)) := by omega
  go_enter Tryd.func4, Tryd.ntmps4
  go_wp2_with fail
  refine (awake_any w hT).mono ?_
  rintro e w1 ⟨rfl, hb1⟩
  have hT1 := hT.below hb1 hT.pos
  have hr1 := hr.below hb1
  have hq1 := hq.below hb1
  have hvalid := valid_seal l hr.1
  clear hr hq
  have HR := Lib.hid hr1
  have HQ := Lib.hid hq1
  have HV := Lib.hid hvalid
  clear hvalid
  go_wp2_with fail
  refine (seal_any l a cap w1 hr1 hcap hT1).mono ?_
  rintro e w2 ⟨v, rfl, hown, hb2⟩
  have hsl : ∀ x ∈ l ++ put (Crc.sum l) 4, x < 256 := fun x hx => (List.mem_append.1 hx).elim (hr1.1 x) (put_lt _ _ x)
  have hsn : (l ++ put (Crc.sum l) 4).length = l.length + 4 := by rw [List.length_append, put_length]
  obtain ⟨g, c2, rfl, hc2, hrd, hg, hg2⟩ := rd_of_own' (l := l ++ put (Crc.sum l) 4) hown hsl (by omega) (by omega)
  have hT2 := hT1.below hb2 hT1.pos
  have hq2 := hq1.below hb2
  clear hr1 hq1 hown
  have hopen := open_any _ (some ⟨g, 0, none⟩) c2 w2 hrd hc2 hT2
  have hOO : ∀ e w', Opens w2 (l ++ put (Crc.sum l) 4) e w' → Below w2.heap.size w2 w' ∧ ∃ a3 c3, e = .returned (.tuple #[.slice a3 l.length c3, .int .i64 0]) ∧ Rd w' a3 l := by
    intro e w' ⟨hb, hcase⟩
    refine ⟨hb, ?_⟩
    rcases hcase with ⟨h1, _⟩ | ⟨_, h2, _⟩ | ⟨_, a3, c3, he, _, hrd3⟩
    · omega
    · exact absurd HV.out h2
    · rw [hsn, Nat.add_sub_cancel, List.take_left] at hrd3
      rw [hsn, Nat.add_sub_cancel] at he
      exact ⟨a3, c3, he, hrd3⟩
  have HRD := Lib.hid hrd
  rw [hsn] at hopen
  have HO := Lib.hid hopen
  have HOO := Lib.hid hOO
  have HSN := Lib.hid hsn
  rw [hsn] at hc2 ⊢
  clear hrd hopen hOO hsn hsl
  have hB2 : Below w.heap.size w w2 := hb1.trans (hb2.mono hb1.size)
  have HQ2 := Lib.hid hq2
  have HB2 := Lib.hid hb2
  clear hq2 hb1 hb2
  go_wp2_with fail
  refine HO.out.mono ?_
  intro e w3 ho
  obtain ⟨hb3, a3, c3, rfl, hrd3⟩ := HOO.out _ _ ho
  have hB3 : Below w.heap.size w w3 := hB2.trans (hb3.mono hB2.size)
  have hT3 := hT2.below hb3 hT2.pos
  have hq3 := Rd.below HQ2.out hb3
  have hopen2 := open_any q b cap2 w3 hq3 hcap2 hT3
  have HO2 := Lib.hid hopen2
  have HRD3 := Lib.hid hrd3
  have HB3 := Lib.hid hb3
  have HQ3 := Lib.hid hq3
  clear ho HO HOO hopen2 hrd3 hb3 hq3 HQ2
  go_wp2_with fail
  refine HO2.out.mono ?_
  intro e w4 ho2
  have hb4 := ho2.1
  have hq4 := Rd.below HQ3.out hb4
  have hopen3 := refopen_any q b cap2 w4 hq4 hcap2
  have hB4 : Below w.heap.size w w4 := hB3.trans (hb4.mono hB3.size)
  have hT4 := hT3.below hb4 hT3.pos
  have hal : ∀ e' w', RefOpens w4 q e' w' → ∃ (m : List Nat) (ev : Int), (∃ a c, e = .returned (.tuple #[.slice a m.length c, .int .i64 ev]) ∧ Rd w4 a m) ∧ (∃ a c, e' = .returned (.tuple #[.slice a m.length c, .int .i64 ev]) ∧ Rd w' a m) := fun e' w' h' => opens_alike ho2 ⟨w4, h'⟩
  have HO3 := Lib.hid hopen3
  have HAl := Lib.hid hal
  have HB4 := Lib.hid hb4
  clear HO2 hopen3 hal hq4 HQ3
  obtain ⟨a5, n5, c5, ev1, rfl⟩ : ∃ (a : Option Addr) (n c : Nat) (ev : Int), e = .returned (.tuple #[.slice a n c, .int .i64 ev]) := by
    obtain ⟨_, hcase⟩ := ho2
    rcases hcase with ⟨_, rfl⟩ | ⟨_, _, rfl⟩ | ⟨_, a, c, rfl, _⟩
    · exact ⟨_, _, _, _, rfl⟩
    · exact ⟨_, _, _, _, rfl⟩
    · exact ⟨_, _, _, _, rfl⟩
  clear ho2 hb4
  go_wp2_with fail
  refine HO3.out.mono ?_
  intro e' w5 ho5
  have hb5 := ho5.1
  obtain ⟨m, ev, ⟨a6, c6, he6, hrd6⟩, a7, c7, rfl, hrd7⟩ := HAl.out _ _ ho5
  simp only [Ending.returned.injEq, Value.tuple.injEq, Array.mk.injEq, List.cons.injEq, Value.slice.injEq, Value.int.injEq, true_and, and_true] at he6
  obtain ⟨⟨rfl, rfl, rfl⟩, rfl⟩ := he6
  have hB5 : Below w.heap.size w w5 := hB4.trans (hb5.mono hB4.size)
  have hW2 : Below w2.heap.size w2 w5 := HB3.out.trans ((HB4.out.mono HB3.out.size).trans (hb5.mono (Nat.le_trans HB3.out.size HB4.out.size)))
  have hW3 : Below w3.heap.size w3 w5 := HB4.out.trans (hb5.mono HB4.out.size)
  have hW1 : Below w1.heap.size w1 w5 := HB2.out.trans (hW2.mono HB2.out.size)
  have rp := Rd.below HR.out hW1
  have rs := Rd.below HRD.out hW2
  have rb := Rd.below HRD3.out hW3
  have rc := Rd.below hrd6 hb5
  have hT5 := hT4.below hb5 hT4.pos
  have cs : ∀ W, Below w5.heap.size w5 W → (convert 22 9 (.slice (some ⟨g, 0, none⟩) (l.length + 4) c2)).run Tryd.prog W = .ok (.string (strOf (l ++ put (Crc.sum l) 4))) W := fun W hb => by
    have := conv_str W (some ⟨g, 0, none⟩) (l ++ put (Crc.sum l) 4) c2 (rs.below hb)
    rwa [HSN.out] at this
  have cb : ∀ W, Below w5.heap.size w5 W → (convert 22 9 (.slice a3 l.length c3)).run Tryd.prog W = .ok (.string (strOf l)) W := fun W hb => conv_str W a3 l c3 (rb.below hb)
  have cp : ∀ W, Below w5.heap.size w5 W → (convert 22 9 (.slice a l.length cap)).run Tryd.prog W = .ok (.string (strOf l)) W := fun W hb => conv_str W a l cap (rp.below hb)
  have cc : ∀ W, Below w5.heap.size w5 W → (convert 22 9 (.slice a5 m.length c5)).run Tryd.prog W = .ok (.string (strOf m)) W := fun W hb => conv_str W a5 m c5 (rc.below hb)
  have cd : ∀ W, Below w5.heap.size w5 W → (convert 22 9 (.slice a7 m.length c7)).run Tryd.prog W = .ok (.string (strOf m)) W := fun W hb => conv_str W a7 m c7 (hrd7.below hb)
  have k1 : ∀ W, Below w5.heap.size w5 W → Calls Tryd.prog 19 #[.slice a l.length cap] W fun e w' => e = .returned (.int .u32 (Crc.sum l : Nat)) ∧ W = w' := fun W hb => sum_any l a cap W (rp.below hb) (hT5.below hb hT5.pos)
  have k2 : ∀ W, Below w5.heap.size w5 W → Calls Tryd.prog 20 #[.slice a l.length cap] W fun e w' => e = .returned (.int .u32 (Crc.sum l : Nat)) ∧ W = w' := fun W hb => refsum_any l a cap W (rp.below hb)
  have k3 : ∀ W, Below w5.heap.size w5 W → Calls Tryd.prog 21 #[.slice a l.length cap] W (NewBytes W (l ++ put (Crc.sum l) 4)) := fun W hb => refseal_any l a cap W (rp.below hb) hnil
  have k4 : ∀ W e w', Below w5.heap.size w5 W → NewBytes W (l ++ put (Crc.sum l) 4) e w' → ∃ g4 c4, e = .returned (.slice (some ⟨g4, 0, none⟩) (l.length + 4) c4) ∧ Below w5.heap.size w5 w' ∧
      (convert 22 9 (.slice (some ⟨g4, 0, none⟩) (l.length + 4) c4)).run Tryd.prog w' = .ok (.string (strOf (l ++ put (Crc.sum l) 4))) w' := by
    intro W e w' hW ⟨v, he, hown, hb⟩
    have hsl : ∀ x ∈ l ++ put (Crc.sum l) 4, x < 256 := fun x hx => (List.mem_append.1 hx).elim (rp.1 x) (put_lt _ _ x)
    have hsn := HSN.out
    obtain ⟨g4, c4, rfl, _, hrd, _⟩ := rd_of_own' (l := l ++ put (Crc.sum l) 4) hown hsl (by omega) (by omega)
    have hc := conv_str w' _ _ c4 hrd
    rw [hsn] at hc he
    exact ⟨g4, c4, he, hW.trans (hb.mono hW.size), hc⟩
  generalize strOf (l ++ put (Crc.sum l) 4) = S1 at cs k4
  generalize strOf l = S2 at cb cp
  generalize strOf m = S3 at cc cd
  have b0 : Below w5.heap.size w5 w5.drew := below_drewN (Below.refl _ _) 1
  have cs0 := cs _ b0
  have cb0 := cb _ b0
  have cp0 := cp _ b0
  have cc0 := cc _ b0
  have cd0 := cd _ b0
  have CS := Lib.hid cs
  have CB := Lib.hid cb
  have CP := Lib.hid cp
  have CC := Lib.hid cc
  have CD := Lib.hid cd
  have K1 := Lib.hid k1
  have K2 := Lib.hid k2
  have K3 := Lib.hid k3
  have K4 := Lib.hid k4
  have hss : ((Crc.sum l : Int) == (Crc.sum l : Int)) = true := by simp
  have e1 : (S1.toList == S1.toList) = true := by simp
  have e2 : (S2.toList == S2.toList) = true := by simp
  have e3 : (S3.toList == S3.toList) = true := by simp
  have e4 : (ev1 == ev1) = true := by simp
  clear cs cb cp cc cd k1 k2 k3 k4 rp rs rb rc hT5 hW1 hW2 hW3 hB4 hB3 hB2 hT4 hT3 hT2 hT1 hT HR HQ HV HRD HRD3 HB3 HB4 HB2 HSN hrd6 hrd7 ho5 HO3 HAl hnil hcap hcap2
  go_wp2_with fail
  go_region_held (fun W => (convert 22 9 (.slice (some ⟨g, 0, none⟩) (l.length + 4) c2)).run Tryd.prog W = .ok (.string S1) W ∧ (convert 22 9 (.slice a3 l.length c3)).run Tryd.prog W = .ok (.string S2) W ∧ (convert 22 9 (.slice a l.length cap)).run Tryd.prog W = .ok (.string S2) W ∧ (convert 22 9 (.slice a5 m.length c5)).run Tryd.prog W = .ok (.string S3) W ∧ (convert 22 9 (.slice a7 m.length c7)).run Tryd.prog W = .ok (.string S3) W) (first | exact ⟨cs0, cb0, cp0, cc0, cd0⟩ | exact ⟨CS.out _ ‹_›, CB.out _ ‹_›, CP.out _ ‹_›, CC.out _ ‹_›, CD.out _ ‹_›⟩) (first | (go_at_call 19; ((with_reducible refine (K1.out _ (by assumption)).mono ?_); rintro e w7 ⟨rfl, rfl⟩)) | (go_at_call 20; ((with_reducible refine (K2.out _ (by assumption)).mono ?_); rintro e w7 ⟨rfl, rfl⟩)) | (go_at_call 21; ((with_reducible refine (K3.out _ (by assumption)).mono ?_); intro e w6 hnb; obtain ⟨g6, c6, rfl, hb6, hcv6⟩ := K4.out _ _ _ b0 hnb; clear hnb)))
  all_goals
    go_wp2
    go_ret
    exact ⟨rfl, hB5.trans ((by assumption : Below w5.heap.size w5 _).mono hB5.size)⟩

theorem seals_any (l q : List Nat) (a b : Option Addr) (cap cap2 : Nat) (w : World) (hr : Rd w a l) (hq : Rd w b q) (hcap : l.length ≤ cap) (hcap2 : q.length ≤ cap2) (hnil : a = none → cap = 0) (hT : Tab w) :
    Calls Tryd.prog 4 #[.slice a l.length cap, .slice b q.length cap2] w (Yes w) := by
  rcases Nat.lt_or_ge 3000 (l.length + q.length) with h | h
  · exact seals_long l q a b cap cap2 w hT h hr.2.1 hq.2.1
  · exact seals_short l q a b cap cap2 w hr hq hcap hcap2 hnil hT h
end Go.Proofs.YtmadcbpeiibfaaaDoor
