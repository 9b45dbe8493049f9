/- slices.symMergeCmpFunc at []int, where one of the two neighbours has one element: it goes to its place. -/
import Derived.Test.YtfehioapjoihkaaRota
import Derived.Shelf.SlSortCmp.QuietGrown
namespace Go.Proofs.Ytfehioapjoihkaa
open Go.Shelf Go.RowKit Go.Lib Go.Sort Drawbar.Stab
variable {α : Type} [Inhabited α]

/-- [a, b) is merged, and nothing else has turned. -/
def SmPost (enc : α → Value) (cf : α → α → Int) (w0 : World) (blk off a b : Nat) (d : Array α) (e : Ending) (w' : World) : Prop :=
  e = .returned (.tuple #[]) ∧ ∃ d', Aside (Merged (ltOf cf) a b d d') ∧ Aside (SW enc w0 blk off d' w')

set_option maxHeartbeats 8000000 in
set_option maxRecDepth 1000000 in
theorem sm_left (enc : α → Value) (cf : α → α → Int) (g : Nat) (cb : Array Value) (blk off cap a m b : Nat) (d0 d : Array α) (w0 w : World)
    (eg : ∀ args w, (callFunc g args).run Try.prog w = .ok (.enter g args) w) (hcmp : CmpLays1 Try.prog g cb enc cf blk off d0.size w0) (R : Row1 enc w0 blk off d0) (hs : d0.size = d.size) (S : SW enc w0 blk off d w) (hS : SWO (ltOf cf))
    (h1 : SortedIn (ltOf cf) a m d) (h2 : SortedIn (ltOf cf) m b d) (ham : a < m) (hmb : m < b) (hb : b ≤ d.size) (hsz : d.size < 1000000) (hm : m = a + 1) :
    Calls Try.prog 42 #[.slice (some ⟨blk, off, none⟩) d.size cap, .int .i64 a, .int .i64 m, .int .i64 b, .func (.func g) #[] cb] w (SmPost enc cf w0 blk off a b d) := by
  have mixed : Try.prog.follows .mixedOrders = true := by kernel_rfl
  have hcl0 := R.hO.cells
  simp only [Value.cells] at hcl0
  have hst := R.hO.store Try.prog
  have HC : Aside _ := hcmp
  have S0 : Aside (SW enc w0 blk off d w) := S
  have H12 : Aside (SortedIn (ltOf cf) a m d ∧ SortedIn (ltOf cf) m b d) := ⟨h1, h2⟩
  have q1 : (((m : Int) - (a : Int)) == 1) = true := by simp; omega
  have HM := Lib.hid hm
  have i1 : (a : Int) < m := by omega
  have i2 : (m : Int) < b := by omega
  have i3 : (b : Int) < 1000000 := by omega
  clear S hcmp h1 h2 hm
  go_enter Try.func42, Try.ntmps42
  go_wp2
  go_loopg [10, 11] (b - m) (fun kx vi vj wr => ∃ (i j : Nat), vi = .int .i64 i ∧ vj = .int .i64 j ∧ m ≤ i ∧ i ≤ j ∧ j ≤ b ∧ j - i ≤ kx ∧ Aside (SW enc w0 blk off d wr) ∧ Aside ((m < i → ltOf cf d[i - 1]! d[a]! = true) ∧ (j < b → ltOf cf d[j]! d[a]! = false)))
  case atStart => exact ⟨m, b, rfl, rfl, Nat.le_refl _, by omega, Nat.le_refl _, Nat.le_refl _, S0, ⟨fun h => absurd h (Nat.lt_irrefl _), fun h => absurd h (Nat.lt_irrefl _)⟩⟩
  case round =>
    clear S0
    obtain ⟨i, j, rfl, rfl, hmi, hij, hjb, hkx, S1, HB⟩ := hrel
    by_cases hlt : i < j
    · have hltz : (i : Int) < (j : Int) := by omega
      obtain ⟨h, hh0⟩ : ∃ h, h = (i + j) / 2 := ⟨_, rfl⟩
      have hh : ((i : Int) + (j : Int)) / 2 = (h : Int) := by omega
      have hih : i ≤ h := by omega
      have hhj : h < j := by omega
      clear hh0
      have i4 : (h : Int) < 1000000 := by omega
      have i5 : (0 : Int) ≤ h := by omega
      have i6 : (j : Int) < 1000000 := by omega
      have i7 : (0 : Int) ≤ i := by omega
      cases hlv : ltOf cf d[h]! d[a]! with
      | true =>
        obtain ⟨iN1, hiN1⟩ : ∃ q, q = h := ⟨_, rfl⟩
        obtain ⟨jN1, hjN1⟩ : ∃ q, q = a := ⟨_, rfl⟩
        have ea1 : ((h : Int)).toNat = iN1 := by omega
        have pa1 : (0 : Int) ≤ (h : Int) := by omega
        have ba1 : (h : Int) < (d.size : Int) := by omega
        have ra1 : IntKind.i64.wrap ((h : Int)) = (h : Int) := by rw [IntKind.wrap_i64]; omega
        have ec1 : ((a : Int)).toNat = jN1 := by omega
        have pc1 : (0 : Int) ≤ (a : Int) := by omega
        have bc1 : (a : Int) < (d.size : Int) := by omega
        have rc1 : IntKind.i64.wrap ((a : Int)) = (a : Int) := by rw [IntKind.wrap_i64]; omega
        obtain ⟨x1, hx1⟩ : ∃ x, x = d[h]! := ⟨_, rfl⟩
        obtain ⟨y1, hy1⟩ : ∃ x, x = d[a]! := ⟨_, rfl⟩
        have la1 := S1.out.cl R (by omega) (h) (by omega)
        have lb1 := S1.out.cl R (by omega) (a) (by omega)
        rw [← hx1, ← hiN1] at la1
        rw [← hy1, ← hjN1] at lb1
        have hc1 := S1.out.cmp HC.out (by omega) x1 y1
        have hv1 : cf x1 y1 < 0 := by rw [hx1, hy1]; exact of_decide_eq_true hlv
        have hd1 : decide (cf x1 y1 < 0) = true := decide_eq_true hv1
        have HLV := Lib.hid hlv
        clear hx1 hy1 hiN1 hjN1 hlv
        go_wp2_with fail
        go_quiet_grown (first | (go_at_fn g; refine Calls.grown_of (hc1 _ _)))
        have S2 : Aside (SW enc w0 blk off d (grow (wr.drewN nq) osq)) := S1.out.grown nq osq
        clear la1 lb1 hc1 S1
        generalize grow (wr.drewN nq) osq = w2 at S2 ⊢
        clear nq osq
        clear ea1 ec1
        go_wp2
        go_roundg (j - (h + 1))
        case measure => omega
        case rel => exact ⟨h + 1, j, by go_num, rfl, by omega, by omega, hjb, Nat.le_refl _, S2, ⟨fun _ => HLV.out, HB.out.2⟩⟩
      | false =>
        obtain ⟨iN2, hiN2⟩ : ∃ q, q = h := ⟨_, rfl⟩
        obtain ⟨jN2, hjN2⟩ : ∃ q, q = a := ⟨_, rfl⟩
        have ea2 : ((h : Int)).toNat = iN2 := by omega
        have pa2 : (0 : Int) ≤ (h : Int) := by omega
        have ba2 : (h : Int) < (d.size : Int) := by omega
        have ra2 : IntKind.i64.wrap ((h : Int)) = (h : Int) := by rw [IntKind.wrap_i64]; omega
        have ec2 : ((a : Int)).toNat = jN2 := by omega
        have pc2 : (0 : Int) ≤ (a : Int) := by omega
        have bc2 : (a : Int) < (d.size : Int) := by omega
        have rc2 : IntKind.i64.wrap ((a : Int)) = (a : Int) := by rw [IntKind.wrap_i64]; omega
        obtain ⟨x2, hx2⟩ : ∃ x, x = d[h]! := ⟨_, rfl⟩
        obtain ⟨y2, hy2⟩ : ∃ x, x = d[a]! := ⟨_, rfl⟩
        have la2 := S1.out.cl R (by omega) (h) (by omega)
        have lb2 := S1.out.cl R (by omega) (a) (by omega)
        rw [← hx2, ← hiN2] at la2
        rw [← hy2, ← hjN2] at lb2
        have hc2 := S1.out.cmp HC.out (by omega) x2 y2
        have hv2 : ¬ cf x2 y2 < 0 := by rw [hx2, hy2]; exact of_decide_eq_false hlv
        have hd2 : decide (cf x2 y2 < 0) = false := decide_eq_false hv2
        have HLV := Lib.hid hlv
        clear hx2 hy2 hiN2 hjN2 hlv
        go_wp2_with fail
        go_quiet_grown (first | (go_at_fn g; refine Calls.grown_of (hc2 _ _)))
        have S2 : Aside (SW enc w0 blk off d (grow (wr.drewN nq) osq)) := S1.out.grown nq osq
        clear la2 lb2 hc2 S1
        generalize grow (wr.drewN nq) osq = w2 at S2 ⊢
        clear nq osq
        clear ea2 ec2
        go_wp2
        go_roundg (h - i)
        case measure => omega
        case rel => exact ⟨i, h, rfl, rfl, hmi, hih, by omega, Nat.le_refl _, S2, ⟨HB.out.1, fun _ => HLV.out⟩⟩
    · have hltz : ¬ (i : Int) < (j : Int) := by omega
      obtain rfl : i = j := by omega
      have Z0 : Aside (Rot a (a + 1) (a + 1) d d) := Rot.one a d
      go_wp2
      go_loopg [13] (i - 1 - a) (fun kx vk wr => ∃ (k : Nat) (dk : Array α), vk = .int .i64 k ∧ a ≤ k ∧ k + 1 ≤ i ∧ i - 1 - k ≤ kx ∧ dk.size = d.size ∧ Aside (SW enc w0 blk off dk wr) ∧ Aside (Rot a (a + 1) (k + 1) d dk))
      case atStart => exact ⟨a, d, rfl, Nat.le_refl _, by omega, Nat.le_refl _, rfl, S1, Z0⟩
      case round =>
        clear S1 Z0
        obtain ⟨k, dk, rfl, hak, hki, hkx2, hds, S2, Z2⟩ := hrel
        by_cases hlt2 : k + 1 < i
        · have hltz2 : (k : Int) < (i : Int) - 1 := by omega
          have Z3 : Aside (Rot a (a + 1) (k + 2) d (swp dk k (k + 1))) := Z2.out.left hak (by omega)
          clear Z2
          obtain ⟨iN3, hiN3⟩ : ∃ q, q = k := ⟨_, rfl⟩
          obtain ⟨jN3, hjN3⟩ : ∃ q, q = k + 1 := ⟨_, rfl⟩
          have ea3 : ((k : Int)).toNat = iN3 := by omega
          have pa3 : (0 : Int) ≤ (k : Int) := by omega
          have ba3 : (k : Int) < (d.size : Int) := by omega
          have ra3 : IntKind.i64.wrap ((k : Int)) = (k : Int) := by rw [IntKind.wrap_i64]; omega
          have ec3 : ((k : Int) + 1).toNat = jN3 := by omega
          have pc3 : (0 : Int) ≤ (k : Int) + 1 := by omega
          have bc3 : (k : Int) + 1 < (d.size : Int) := by omega
          have rc3 : IntKind.i64.wrap ((k : Int) + 1) = (k : Int) + 1 := by rw [IntKind.wrap_i64]; omega
          obtain ⟨x3, hx3⟩ : ∃ x, x = dk[k]! := ⟨_, rfl⟩
          obtain ⟨y3, hy3⟩ : ∃ x, x = dk[k + 1]! := ⟨_, rfl⟩
          have S3 : Aside (SW enc w0 blk off (swp dk (k) (k + 1)) ((wr.setCell ⟨blk, off + iN3, none⟩ (enc y3)).setCell ⟨blk, off + jN3, none⟩ (enc x3)).drew) := by rw [hiN3, hjN3, hx3, hy3]; exact S2.out.swapped R (k) (k + 1) (by omega) (by omega)
          have ca3 := S2.out.c1 R (by omega) (k) (by omega)
          have cb3 := S2.out.c1 R (by omega) (k + 1) (by omega)
          have fa3 := S2.out.f1 R (by omega) (k) (by omega)
          have fb3 := S2.out.f1 R (by omega) (k + 1) (by omega)
          obtain ⟨u3, cc3⟩ := S2.out.c2 R (by omega) (k) (k + 1) (by omega) (by omega) (enc y3)
          rw [← hjN3, ← hiN3] at cc3
          rw [← hx3, ← hiN3] at ca3
          rw [← hy3, ← hjN3] at cb3
          rw [← hiN3] at fa3
          rw [← hjN3] at fb3
          clear S2 hx3 hy3 hiN3 hjN3
          go_wp2_with fail
          go_big_region
          clear ca3 cb3 cc3 fa3 fb3
          generalize ((wr.setCell ⟨blk, off + iN3, none⟩ (enc y3)).setCell ⟨blk, off + jN3, none⟩ (enc x3)).drew = w3 at S3 ⊢
          clear ea3 ec3
          go_wp2
          go_roundg (i - 1 - (k + 1))
          case measure => omega
          case rel => exact ⟨k + 1, swp dk k (k + 1), by go_num, by omega, by omega, Nat.le_refl _, by rw [size_swp]; exact hds, S3, Z3⟩
        · have hltz2 : ¬ (k : Int) < (i : Int) - 1 := by omega
          obtain rfl : i = k + 1 := by omega
          go_wp2
          (try simp only [Exit.inBlock, Exit.then]); refine bodyPost_ret (results_none rfl _ _ _) rfl ?_
          refine ⟨rfl, dk, merge_left hS (by have := H12.out.2; rw [HM.out] at this; exact this) (by omega) hjb hb (fun h => HB.out.1 (by rw [HM.out]; exact h)) HB.out.2 Z2.out, S2⟩

set_option maxHeartbeats 8000000 in
set_option maxRecDepth 1000000 in
theorem sm_right (enc : α → Value) (cf : α → α → Int) (g : Nat) (cb : Array Value) (blk off cap a m b : Nat) (d0 d : Array α) (w0 w : World)
    (eg : ∀ args w, (callFunc g args).run Try.prog w = .ok (.enter g args) w) (hcmp : CmpLays1 Try.prog g cb enc cf blk off d0.size w0) (R : Row1 enc w0 blk off d0) (hs : d0.size = d.size) (S : SW enc w0 blk off d w) (hS : SWO (ltOf cf))
    (h1 : SortedIn (ltOf cf) a m d) (h2 : SortedIn (ltOf cf) m b d) (ham : a < m) (hmb : m < b) (hb : b ≤ d.size) (hsz : d.size < 1000000) (hm : m ≠ a + 1) (hbm : b = m + 1) :
    Calls Try.prog 42 #[.slice (some ⟨blk, off, none⟩) d.size cap, .int .i64 a, .int .i64 m, .int .i64 b, .func (.func g) #[] cb] w (SmPost enc cf w0 blk off a b d) := by
  have mixed : Try.prog.follows .mixedOrders = true := by kernel_rfl
  have hcl0 := R.hO.cells
  simp only [Value.cells] at hcl0
  have hst := R.hO.store Try.prog
  have HC : Aside _ := hcmp
  have S0 : Aside (SW enc w0 blk off d w) := S
  have H12 : Aside (SortedIn (ltOf cf) a m d ∧ SortedIn (ltOf cf) m b d) := ⟨h1, h2⟩
  have q1 : (((m : Int) - (a : Int)) == 1) = false := by simp; omega
  have q2 : (((b : Int) - (m : Int)) == 1) = true := by simp; omega
  have HM := Lib.hid hbm
  have i1 : (a : Int) < m := by omega
  have i2 : (m : Int) < b := by omega
  have i3 : (b : Int) < 1000000 := by omega
  clear S hcmp h1 h2 hm hbm
  go_enter Try.func42, Try.ntmps42
  go_wp2
  go_loopg [14, 15] (m - a) (fun kx vi vj wr => ∃ (i j : Nat), vi = .int .i64 i ∧ vj = .int .i64 j ∧ a ≤ i ∧ i ≤ j ∧ j ≤ m ∧ j - i ≤ kx ∧ Aside (SW enc w0 blk off d wr) ∧ Aside ((a < i → ltOf cf d[m]! d[i - 1]! = false) ∧ (j < m → ltOf cf d[m]! d[j]! = true)))
  case atStart => exact ⟨a, m, rfl, rfl, Nat.le_refl _, by omega, Nat.le_refl _, Nat.le_refl _, S0, ⟨fun h => absurd h (Nat.lt_irrefl _), fun h => absurd h (Nat.lt_irrefl _)⟩⟩
  case round =>
    clear S0
    obtain ⟨i, j, rfl, rfl, hmi, hij, hjb, hkx, S1, HB⟩ := hrel
    by_cases hlt : i < j
    · have hltz : (i : Int) < (j : Int) := by omega
      obtain ⟨h, hh0⟩ : ∃ h, h = (i + j) / 2 := ⟨_, rfl⟩
      have hh : ((i : Int) + (j : Int)) / 2 = (h : Int) := by omega
      have hih : i ≤ h := by omega
      have hhj : h < j := by omega
      clear hh0
      have i4 : (h : Int) < 1000000 := by omega
      have i5 : (0 : Int) ≤ h := by omega
      have i6 : (j : Int) < 1000000 := by omega
      have i7 : (0 : Int) ≤ i := by omega
      cases hlv : ltOf cf d[m]! d[h]! with
      | true =>
        obtain ⟨iN4, hiN4⟩ : ∃ q, q = m := ⟨_, rfl⟩
        obtain ⟨jN4, hjN4⟩ : ∃ q, q = h := ⟨_, rfl⟩
        have ea4 : ((m : Int)).toNat = iN4 := by omega
        have pa4 : (0 : Int) ≤ (m : Int) := by omega
        have ba4 : (m : Int) < (d.size : Int) := by omega
        have ra4 : IntKind.i64.wrap ((m : Int)) = (m : Int) := by rw [IntKind.wrap_i64]; omega
        have ec4 : ((h : Int)).toNat = jN4 := by omega
        have pc4 : (0 : Int) ≤ (h : Int) := by omega
        have bc4 : (h : Int) < (d.size : Int) := by omega
        have rc4 : IntKind.i64.wrap ((h : Int)) = (h : Int) := by rw [IntKind.wrap_i64]; omega
        obtain ⟨x4, hx4⟩ : ∃ x, x = d[m]! := ⟨_, rfl⟩
        obtain ⟨y4, hy4⟩ : ∃ x, x = d[h]! := ⟨_, rfl⟩
        have la4 := S1.out.cl R (by omega) (m) (by omega)
        have lb4 := S1.out.cl R (by omega) (h) (by omega)
        rw [← hx4, ← hiN4] at la4
        rw [← hy4, ← hjN4] at lb4
        have hc4 := S1.out.cmp HC.out (by omega) x4 y4
        have hv4 : cf x4 y4 < 0 := by rw [hx4, hy4]; exact of_decide_eq_true hlv
        have hd4 : decide (cf x4 y4 < 0) = true := decide_eq_true hv4
        have HLV := Lib.hid hlv
        clear hx4 hy4 hiN4 hjN4 hlv
        go_wp2_with fail
        go_quiet_grown (first | (go_at_fn g; refine Calls.grown_of (hc4 _ _)))
        have S2 : Aside (SW enc w0 blk off d (grow (wr.drewN nq) osq)) := S1.out.grown nq osq
        clear la4 lb4 hc4 S1
        generalize grow (wr.drewN nq) osq = w2 at S2 ⊢
        clear nq osq
        clear ea4 ec4
        go_wp2
        go_roundg (h - i)
        case measure => omega
        case rel => exact ⟨i, h, rfl, rfl, hmi, hih, by omega, Nat.le_refl _, S2, ⟨HB.out.1, fun _ => HLV.out⟩⟩
      | false =>
        obtain ⟨iN5, hiN5⟩ : ∃ q, q = m := ⟨_, rfl⟩
        obtain ⟨jN5, hjN5⟩ : ∃ q, q = h := ⟨_, rfl⟩
        have ea5 : ((m : Int)).toNat = iN5 := by omega
        have pa5 : (0 : Int) ≤ (m : Int) := by omega
        have ba5 : (m : Int) < (d.size : Int) := by omega
        have ra5 : IntKind.i64.wrap ((m : Int)) = (m : Int) := by rw [IntKind.wrap_i64]; omega
        have ec5 : ((h : Int)).toNat = jN5 := by omega
        have pc5 : (0 : Int) ≤ (h : Int) := by omega
        have bc5 : (h : Int) < (d.size : Int) := by omega
        have rc5 : IntKind.i64.wrap ((h : Int)) = (h : Int) := by rw [IntKind.wrap_i64]; omega
        obtain ⟨x5, hx5⟩ : ∃ x, x = d[m]! := ⟨_, rfl⟩
        obtain ⟨y5, hy5⟩ : ∃ x, x = d[h]! := ⟨_, rfl⟩
        have la5 := S1.out.cl R (by omega) (m) (by omega)
        have lb5 := S1.out.cl R (by omega) (h) (by omega)
        rw [← hx5, ← hiN5] at la5
        rw [← hy5, ← hjN5] at lb5
        have hc5 := S1.out.cmp HC.out (by omega) x5 y5
        have hv5 : ¬ cf x5 y5 < 0 := by rw [hx5, hy5]; exact of_decide_eq_false hlv
        have hd5 : decide (cf x5 y5 < 0) = false := decide_eq_false hv5
        have HLV := Lib.hid hlv
        clear hx5 hy5 hiN5 hjN5 hlv
        go_wp2_with fail
        go_quiet_grown (first | (go_at_fn g; refine Calls.grown_of (hc5 _ _)))
        have S2 : Aside (SW enc w0 blk off d (grow (wr.drewN nq) osq)) := S1.out.grown nq osq
        clear la5 lb5 hc5 S1
        generalize grow (wr.drewN nq) osq = w2 at S2 ⊢
        clear nq osq
        clear ea5 ec5
        go_wp2
        go_roundg (j - (h + 1))
        case measure => omega
        case rel => exact ⟨h + 1, j, by go_num, rfl, by omega, by omega, hjb, Nat.le_refl _, S2, ⟨fun _ => HLV.out, HB.out.2⟩⟩
    · have hltz : ¬ (i : Int) < (j : Int) := by omega
      obtain rfl : i = j := by omega
      have Z0 : Aside (Rot m m (m + 1) d d) := Rot.none_ m d
      go_wp2
      go_loopg [17] (m - i) (fun kx vk wr => ∃ (k : Nat) (dk : Array α), vk = .int .i64 k ∧ i ≤ k ∧ k ≤ m ∧ k - i ≤ kx ∧ dk.size = d.size ∧ Aside (SW enc w0 blk off dk wr) ∧ Aside (Rot k m (m + 1) d dk))
      case atStart => exact ⟨m, d, rfl, hjb, Nat.le_refl _, Nat.le_refl _, rfl, S1, Z0⟩
      case round =>
        clear S1 Z0
        obtain ⟨k, dk, rfl, hik, hkm, hkx2, hds, S2, Z2⟩ := hrel
        by_cases hlt2 : i < k
        · obtain ⟨c, rfl⟩ : ∃ c, k = c + 1 := ⟨k - 1, by omega⟩
          have hltz2 : (i : Int) < (c : Int) + 1 := by omega
          have i8 : (c : Int) + 1 ≤ m := by omega
          have i9 : (0 : Int) ≤ c := by omega
          have Z3 : Aside (Rot c m (m + 1) d (swp dk (c + 1) c)) := Z2.out.right hkm (by omega)
          clear Z2
          obtain ⟨iN6, hiN6⟩ : ∃ q, q = c + 1 := ⟨_, rfl⟩
          obtain ⟨jN6, hjN6⟩ : ∃ q, q = c := ⟨_, rfl⟩
          have ea6 : ((c : Int) + 1).toNat = iN6 := by omega
          have pa6 : (0 : Int) ≤ (c : Int) + 1 := by omega
          have ba6 : (c : Int) + 1 < (d.size : Int) := by omega
          have ra6 : IntKind.i64.wrap ((c : Int) + 1) = (c : Int) + 1 := by rw [IntKind.wrap_i64]; omega
          have ec6 : ((c : Int)).toNat = jN6 := by omega
          have pc6 : (0 : Int) ≤ (c : Int) := by omega
          have bc6 : (c : Int) < (d.size : Int) := by omega
          have rc6 : IntKind.i64.wrap ((c : Int)) = (c : Int) := by rw [IntKind.wrap_i64]; omega
          obtain ⟨x6, hx6⟩ : ∃ x, x = dk[c + 1]! := ⟨_, rfl⟩
          obtain ⟨y6, hy6⟩ : ∃ x, x = dk[c]! := ⟨_, rfl⟩
          have S3 : Aside (SW enc w0 blk off (swp dk (c + 1) (c)) ((wr.setCell ⟨blk, off + iN6, none⟩ (enc y6)).setCell ⟨blk, off + jN6, none⟩ (enc x6)).drew) := by rw [hiN6, hjN6, hx6, hy6]; exact S2.out.swapped R (c + 1) (c) (by omega) (by omega)
          have ca6 := S2.out.c1 R (by omega) (c + 1) (by omega)
          have cb6 := S2.out.c1 R (by omega) (c) (by omega)
          have fa6 := S2.out.f1 R (by omega) (c + 1) (by omega)
          have fb6 := S2.out.f1 R (by omega) (c) (by omega)
          obtain ⟨u6, cc6⟩ := S2.out.c2 R (by omega) (c + 1) (c) (by omega) (by omega) (enc y6)
          rw [← hiN6, ← hjN6] at cc6
          rw [← hx6, ← hiN6] at ca6
          rw [← hy6, ← hjN6] at cb6
          rw [← hiN6] at fa6
          rw [← hjN6] at fb6
          clear S2 hx6 hy6 hiN6 hjN6
          go_wp2_with fail
          go_big_region
          clear ca6 cb6 cc6 fa6 fb6
          generalize ((wr.setCell ⟨blk, off + iN6, none⟩ (enc y6)).setCell ⟨blk, off + jN6, none⟩ (enc x6)).drew = w3 at S3 ⊢
          clear ea6 ec6
          go_wp2
          go_roundg (c - i)
          case measure => omega
          case rel => exact ⟨c, swp dk (c + 1) c, by first | rfl | go_num | (congr 1; omega), by omega, by omega, Nat.le_refl _, by rw [size_swp]; exact hds, S3, Z3⟩
        · have hltz2 : ¬ (i : Int) < (k : Int) := by omega
          obtain rfl : i = k := by omega
          go_wp2
          (try simp only [Exit.inBlock, Exit.then]); refine bodyPost_ret (results_none rfl _ _ _) rfl ?_
          have hm9 := merge_right hS H12.out.1 hmi hjb (by omega) HB.out.1 HB.out.2 Z2.out
          rw [← HM.out] at hm9
          exact ⟨rfl, dk, hm9, S2⟩
end Go.Proofs.Ytfehioapjoihkaa
