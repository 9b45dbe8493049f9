/- The contract of octet.Bytes, and the walk of the law OctetLists. -/
import Derived.Test.YtmadcbpeiibfaaaDoorEnds
import Derived.Test.YtmadcbpeiibfaaaDoorLawB
import Derived.Deep.RegionHeld
namespace Go.Proofs.YtmadcbpeiibfaaaDoor
open Go.RowKit
open Drawbar

/-- Bytes, as octet.Bytes lays them. -/
def laid1 (m : List Nat) : List Nat := put m.length 2 ++ m
theorem laid1_length (m : List Nat) : (laid1 m).length = m.length + 2 := by unfold laid1; rw [List.length_append, put_length]; omega

theorem octbytes_any (l m : List Nat) (a b : Option Addr) (cap cap2 : Nat) (w : World) (hr : Rd w a l) (hm : Rd w b m) (hcap : l.length ≤ cap) (hcap2 : m.length ≤ cap2) (hnil : b = none → cap2 = 0) (hl : l.length ≤ 1000000) (hm2 : m.length ≤ 65535) :
    Calls Tryd.prog 29 #[.slice a l.length cap, .slice b m.length cap2] w (NewBytes w (l ++ laid1 m)) := by
  obtain ⟨i0, hi, hz0, hz1, hz2⟩ := info_parts info_u8
  have hput : Calls Tryd.prog 13 #[.slice a l.length cap, .int .u64 (m.length : Nat), .int .i64 2] w (NewBytes w (l ++ put m.length 2)) := put_any l a cap m.length 2 w hr hcap (by decide) (by decide)
  have hx0 : b = none → m.length = 0 ∧ cap2 = 0 := fun h => ⟨hm.ofNil h, hnil h⟩
  have hat : ∀ W, Below w.heap.size w W → At W b (m.map bv) := fun W hb => (hm.below hb).at
  have hfin : ∀ v' w', Below w.heap.size w w' → w'.ownsRow w.heap.size 5 1 v' (l.length + 2 + m.length) ((l ++ put m.length 2).map bv ++ m.map bv) → NewBytes w (l ++ laid1 m) (.returned v') w' := fun v' w' hb h => ⟨v', rfl, by
    rw [show (l ++ laid1 m).length = l.length + 2 + m.length by rw [List.length_append, laid1_length]; omega]
    rw [show l ++ laid1 m = (l ++ put m.length 2) ++ m by unfold laid1; rw [List.append_assoc], List.map_append]; exact h, hb⟩
  obtain ⟨P, hP⟩ : ∃ P, NewBytes w (l ++ laid1 m) = P := ⟨_, rfl⟩
  rw [hP] at hfin ⊢
  have HPut := Lib.hid hput
  have HX := Lib.hid hx0
  have HA := Lib.hid hat
  have HF := Lib.hid hfin
  clear hput hx0 hat hfin hr hm hnil hP
  have hmin : (m.length : Int) ≤ 65535 := by omega
  go_enter Tryd.func29, Tryd.ntmps29
  go_wp2_with fail
  refine HPut.out.mono ?_
  rintro e w1 ⟨v, rfl, hown, hb1⟩
  have hat1 := HA.out w1 hb1
  have hsz := hb1.size
  have hlen : (l ++ put m.length 2).length = l.length + 2 := by rw [List.length_append, put_length]
  rw [hlen] at hown
  have HO := Lib.hid hown
  have HA1 := Lib.hid hat1
  clear HPut HA hown hat1 hlen
  go_wp2_with (at_builtin; refine wpList_append_mine rfl _ _ 22 rfl w.heap.size 5 i0 (.int .u8 0) 1 1 Tryd.underlying22 hi hz0 hz1 hz2 rfl (by decide) _ _ _ rfl HO.out b m.length cap2 (m.map bv) rfl HX.out (by simp) HA1.out (bv_one m) ?c2 ?c3 ?c4 ?_)
  case c2 => unfold maxLen; omega
  case c3 => omega
  case c4 => exact hsz
  intro v' w2 h1 hb2
  have hown2 : w2.ownsRow w.heap.size 5 1 v' (l.length + 2 + m.length) ((l ++ put m.length 2).map bv ++ m.map bv) := by simpa using h1
  have hend := HF.out v' w2 (hb1.trans hb2) hown2
  have HE := Lib.hid hend
  clear h1 hb2 hown2 hend HF HO HA1 HX
  go_wp2
  exact HE.out

/-- The rows of a slice of slices of bytes. -/
structure RowsAt (w : World) (a : Option Addr) (n : Nat) (M : Nat → List Nat) (A : Nat → Option Addr) (C : Nat → Nat) : Prop where
  cell : 0 < n → ∃ b off, a = some ⟨b, off, none⟩ ∧ ∀ r, r < n → w.cell? ⟨b, off + r, none⟩ = some (.slice (A r) (M r).length (C r))
  le : ∀ r, r < n → (M r).length ≤ C r
  ofNil : ∀ r, r < n → A r = none → C r = 0
  rd : ∀ r, r < n → (M r).length ≤ 1000 → Rd w (A r) (M r)

theorem RowsAt.below {w w' : World} {a : Option Addr} {n : Nat} {M : Nat → List Nat} {A : Nat → Option Addr} {C : Nat → Nat} (h : RowsAt w a n M A C) (hb : Below w.heap.size w w') : RowsAt w' a n M A C :=
  ⟨fun h0 => by
    obtain ⟨b, off, e, hc⟩ := h.cell h0
    exact ⟨b, off, e, fun r hr => (hb.cell (World.block_lt_of_cell? w _ (hc r hr))).trans (hc r hr)⟩, h.le, h.ofNil, fun r hr hl => (h.rd r hr hl).below hb⟩

/-- All rows up to k, laid one behind the other. -/
def laid (M : Nat → List Nat) : Nat → List Nat
  | 0 => []
  | k + 1 => laid M k ++ laid1 (M k)
/-- The rows from k on, j of them. -/
def rest (M : Nat → List Nat) (k : Nat) : Nat → List Nat
  | 0 => []
  | j + 1 => laid1 (M k) ++ rest M (k + 1) j
theorem rest_snoc (M : Nat → List Nat) (k j : Nat) : rest M k (j + 1) = rest M k j ++ laid1 (M (k + j)) := by
  induction j generalizing k with
  | zero => simp [rest]
  | succ j ih =>
    show laid1 (M k) ++ rest M (k + 1) (j + 1) = (laid1 (M k) ++ rest M (k + 1) j) ++ _
    rw [ih, List.append_assoc, show k + 1 + j = k + (j + 1) by omega]
theorem laid_rest (M : Nat → List Nat) (n : Nat) : laid M n = rest M 0 n := by
  induction n with
  | zero => rfl
  | succ n ih => rw [rest_snoc, ← ih, Nat.zero_add]; rfl
theorem laid_length (M : Nat → List Nat) (k : Nat) (h : ∀ r, r < k → (M r).length ≤ 1000) : (laid M k).length ≤ 1002 * k := by
  induction k with
  | zero => simp [laid]
  | succ k ih =>
    have := ih (fun r hr => h r (by omega))
    have h2 := h k (by omega)
    show (laid M k ++ laid1 (M k)).length ≤ _
    rw [List.length_append, laid1_length]; omega

theorem nx_app (x y : List Nat) (m : Int) (hm : (x.length : Int) ≤ m) : nx (x ++ y) false x.length m = (x, y, false) := by
  unfold nx
  rw [if_neg (by simp only [Bool.false_eq_true, false_or, List.length_append]; omega)]
  simp

theorem bts_app (m r : List Nat) (h : m.length ≤ 1000) : bts (laid1 m ++ r) false 1000 = (m, r, false) := by
  have e1 : nm (laid1 m ++ r) false 2 65535 = (m.length, m ++ r, false) := by
    have h1 := nx_app (put m.length 2) (m ++ r) 8 (by rw [put_length]; omega)
    rw [put_length] at h1
    unfold nm laid1
    rw [List.append_assoc]
    dsimp only
    rw [show (((2 : Nat) : Int)) = 2 from rfl] at h1
    rw [h1]
    dsimp only
    rw [le_put, Nat.mod_eq_of_lt (by omega), if_neg (by omega)]
  unfold bts
  rw [e1]
  dsimp only
  exact nx_app m r 1000 (by omega)

theorem lists_long (a : Option Addr) (n cap : Nat) (w : World) (hT : Tab w) (h : 20 < n) (hn : n ≤ 9223372036854775807) :
    Calls Tryd.prog 7 #[.slice a n cap] w (Yes w) := by
  go_enter Tryd.func7, Tryd.ntmps7
  go_wp2_with fail
  refine (awake_any w hT).mono ?_
  rintro e w1 ⟨rfl, hb1⟩
  have hT1 := hT.below hb1 hT.pos
  go_wp2_with fail
  refine (awake_any w1 hT1).mono ?_
  rintro e w2 ⟨rfl, hb2⟩
  go_wp2
  go_ret
  exact ⟨rfl, hb1.trans (hb2.mono hb1.size)⟩

theorem lists_short (a : Option Addr) (n cap : Nat) (M : Nat → List Nat) (A : Nat → Option Addr) (C : Nat → Nat) (w : World) (hT : Tab w) (hR : RowsAt w a n M A C) (h : n ≤ 20) (hM : ∀ r, r < n → (M r).length ≤ 9223372036854775807) :
    Calls Tryd.prog 7 #[.slice a n cap] w (Yes w) := by
  go_enter Tryd.func7, Tryd.ntmps7
  go_wp2_with fail
  refine (awake_any w hT).mono ?_
  rintro e w1 ⟨rfl, hb1⟩
  have hR1 := hR.below hb1
  have hgt : ¬ (20 < (n : Int)) := by omega
  have HM := Lib.hid hM
  clear hR hM
  go_wp2
  go_loopw [3, 4] (fun v i wr => ∃ k : Nat, k ≤ n ∧ i = .int .i64 k ∧ Below w1.heap.size w1 wr ∧ (∀ r, r < k → (M r).length ≤ 1000) ∧
      ∃ pa pc, v = .slice pa (laid M k).length pc ∧ (laid M k).length ≤ pc ∧ Rd wr pa (laid M k) ∧ (pa = none → pc = 0)) (fun _ i _ => n - (intOf i).toNat)
  case atStart => exact ⟨0, Nat.zero_le _, rfl, Below.refl _ _, fun r hr => by omega, none, 0, rfl, by simp [laid], rd_nil _, fun _ => rfl⟩
  case round =>
    obtain ⟨k, hk, rfl, hbr, hle, pa, pc, rfl, hpc, hrd, hpn⟩ := hrel
    have hRr := hR1.below hbr
    have hll := laid_length M k hle
    have HLE := Lib.hid hle
    clear hle
    by_cases hlt : k < n
    · obtain ⟨b, off, rfl, hc⟩ := hRr.cell (by omega)
      have hck := hc k hlt
      have hmk := HM.out k hlt
      have hck2 := hRr.le k hlt
      have hrk := hRr.rd k hlt
      have hnk := hRr.ofNil k hlt
      have hlk : (laid M (k + 1)) = laid M k ++ laid1 (M k) := rfl
      have HLK := Lib.hid hlk
      have HR := Lib.hid hrk
      clear hc hRr hrk hlk
      by_cases hbig : 1000 < (M k).length
      · have hbi : (1000 : Int) < ((M k).length : Int) := by omega
        generalize M k = mk at hck hmk hck2 hbi
        generalize (laid M k) = lk at hrd hpc hll
        go_wp2
        go_ret
        exact ⟨rfl, hb1.trans (hbr.mono hb1.size)⟩
      · have hbi : ¬ (1000 : Int) < ((M k).length : Int) := by omega
        have hcall := octbytes_any (laid M k) (M k) pa (A k) pc (C k) wr hrd (HR.out (by omega)) hpc hck2 hnk (by omega) (by omega)
        have HC := Lib.hid hcall
        clear hcall
        have hmk2 : (M k).length ≤ 1000 := by omega
        have HMK := Lib.hid hmk2
        clear hmk2
        generalize hmm : M k = mk at hck hbi HC HLK HMK
        generalize hll2 : (laid M k) = lk at hrd hpc hll HC HLK
        have H1 := Lib.hid hmm
        have H2 := Lib.hid hll2
        clear hmm hll2
        go_wp2_with fail
        refine HC.out.mono ?_
        rintro e w3 ⟨v, rfl, hown, hb3⟩
        have hbw3 : Below w1.heap.size w1 w3 := hbr.trans (hb3.mono hbr.size)
        have hfin : ∃ pa pc, v = .slice pa (laid M (k + 1)).length pc ∧ (laid M (k + 1)).length ≤ pc ∧ Rd w3 pa (laid M (k + 1)) ∧ (pa = none → pc = 0) := by
          have hl1 : (laid1 mk).length = mk.length + 2 := laid1_length mk
          have hb9 := HMK.out
          obtain ⟨g, cap3, rfl, hc3, hrd3, _⟩ := rd_of_own' (l := lk ++ laid1 mk) hown (fun x hx => (List.mem_append.1 hx).elim (hrd.1 x) (by
            have hq := HR.out (by rw [H1.out]; exact hb9)
            rw [H1.out] at hq
            intro hx
            unfold laid1 at hx
            exact (List.mem_append.1 hx).elim (put_lt _ _ x) (hq.1 x))) (by rw [List.length_append, hl1]; omega) (by rw [List.length_append, hl1]; omega)
          rw [HLK.out]
          exact ⟨_, cap3, rfl, hc3, hrd3, fun h => by cases h⟩
        have HF := Lib.hid hfin
        clear hown hb3 hrd HC hfin
        go_wp2
        go_roundw
        case rel =>
          refine ⟨k + 1, by omega, by go_num, hbw3, fun r hr => ?_, HF.out⟩
          rcases Nat.lt_or_ge r k with h | h
          · exact HLE.out r h
          · rw [show r = k by omega, H1.out]; exact HMK.out
        case measure => simp [intOf]; omega
    · obtain rfl : k = n := by omega
      have hread := read_any (laid M k) pa pc wr hrd hpc hpn
      have HRead := Lib.hid hread
      have HPC := Lib.hid hpc
      clear hread hrd hpn hpc
      go_wp2_with fail
      refine HRead.out.mono ?_
      rintro e w3 ⟨rfl, hrr, hb3⟩
      obtain ⟨g, hg⟩ : ∃ g, g = wr.heap.size := ⟨_, rfl⟩
      rw [← hg] at hrr ⊢
      rw [laid_rest] at hrr
      have hgw : w1.heap.size ≤ g := by rw [hg]; exact hbr.size
      have hb13 : Below w1.heap.size w1 w3 := hbr.trans (hb3.mono hbr.size)
      have HRR := Lib.hid hrr
      have HB13 := Lib.hid hb13
      clear HRead hrr hb3 hb13 hg hbr hRr hll
      go_wp2
      go_loopw [6] (fun i wq => ∃ j : Nat, j ≤ k ∧ i = .int .i64 j ∧ Below w1.heap.size w1 wq ∧ Rdr wq g (rest M j (k - j)) false) (fun i _ => k - (intOf i).toNat)
      case atStart => exact ⟨0, Nat.zero_le _, rfl, HB13.out, HRR.out⟩
      case round =>
        obtain ⟨j, hj, rfl, hbq, hrq⟩ := hrel
        clear HRR HB13
        by_cases hlt2 : j < k
        · obtain ⟨b, off, rfl, _⟩ := hR1.cell (by omega)
          have hle := HLE.out j hlt2
          have hrest : rest M j (k - j) = laid1 (M j) ++ rest M (j + 1) (k - (j + 1)) := by
            rw [show k - j = (k - (j + 1)) + 1 by omega]; rfl
          rw [hrest] at hrq
          have hend := end_any g _ false wr.drew hrq
          rw [show (!false && decide ((laid1 (M j) ++ rest M (j + 1) (k - (j + 1))).length = 0)) = false by
            rw [List.length_append, laid1_length]; simp] at hend
          have hbts := rbytes_any g _ false 1000 wr.drew hrq
          rw [bts_app _ _ hle] at hbts
          have hfact : ∀ W, Below w1.heap.size w1 W → W.cell? ⟨b, off + j, none⟩ = some (.slice (A j) (M j).length (C j)) ∧ (convert 22 9 (.slice (A j) (M j).length (C j))).run Tryd.prog W = .ok (.string (strOf (M j))) W := fun W hb => by
            have hr2 := hR1.below hb
            obtain ⟨b', off', e, hc⟩ := hr2.cell (by omega)
            cases e
            exact ⟨hc j hlt2, conv_str W (A j) (M j) (C j) (hr2.rd j hlt2 hle)⟩
          have hpost : ∀ e w', BtsPost wr.drew g (M j, rest M (j + 1) (k - (j + 1)), false) e w' → ∃ a4 c4, e = .returned (.slice a4 (M j).length c4) ∧ Below w1.heap.size w1 w' ∧ Rdr w' g (rest M (j + 1) (k - (j + 1))) false ∧
              (convert 22 9 (.slice a4 (M j).length c4)).run Tryd.prog w' = .ok (.string (strOf (M j))) w' := by
            intro e w' ⟨a4, c4, he, _, hrd4, hrr4, hgr4⟩
            exact ⟨a4, c4, he, (below_drewN hbq 1).grown hgr4 hbq.size (fun q hq => by cases hq; exact hgw), hrr4, conv_str w' a4 (M j) c4 hrd4⟩
          have h0 := hfact wr.drew (below_drewN hbq 1)
          have hc0 := h0.1
          have hv0 := h0.2
          generalize strOf (M j) = S1 at hfact hpost hv0
          generalize (M j) = mj at hend hbts hfact hpost hc0 hv0
          have he1 : (S1.toList != S1.toList) = false := by simp
          have HE := Lib.hid hend
          have HBT := Lib.hid hbts
          have HFA := Lib.hid hfact
          have HPO := Lib.hid hpost
          clear hend hbts hfact hpost h0 hrest hle
          go_wp2_with fail
          go_region_held (fun W => W.cell? ⟨b, off + j, none⟩ = some (.slice (A j) mj.length (C j)) ∧ (convert 22 9 (.slice (A j) mj.length (C j))).run Tryd.prog W = .ok (.string S1) W) (first | exact ⟨hc0, hv0⟩ | exact HFA.out _ ‹_›) (first | (go_at_call 28; ((with_reducible refine HE.out.mono ?_); rintro e w7 ⟨rfl, rfl⟩)) | (go_at_call 23; ((with_reducible refine HBT.out.mono ?_); intro e w6 hnb; obtain ⟨a4, c4, rfl, hb4, hrr4, hcv4⟩ := HPO.out _ _ hnb; clear hnb)))
          all_goals
            go_wp2
            go_roundw
            case rel => exact ⟨j + 1, by omega, by go_num, hb4, hrr4⟩
            case measure => simp [intOf]; omega
        · have hj2 : k - j = 0 := by omega
          rw [hj2] at hrq
          have hend := end_any g [] false wr hrq
          have HE := Lib.hid hend
          clear hend hj2
          go_wp2_with fail
          refine HE.out.mono ?_
          rintro e w7 ⟨rfl, rfl⟩
          go_wp2
          go_ret
          exact ⟨rfl, hb1.trans (hbq.mono hb1.size)⟩

theorem lists_any (a : Option Addr) (n cap : Nat) (M : Nat → List Nat) (A : Nat → Option Addr) (C : Nat → Nat) (w : World) (hT : Tab w) (hR : RowsAt w a n M A C) (hn : n ≤ 9223372036854775807) (hM : ∀ r, r < n → (M r).length ≤ 9223372036854775807) :
    Calls Tryd.prog 7 #[.slice a n cap] w (Yes w) := by
  rcases Nat.lt_or_ge 20 n with h | h
  · exact lists_long a n cap w hT h hn
  · exact lists_short a n cap M A C w hT hR h hM
end Go.Proofs.YtmadcbpeiibfaaaDoor
