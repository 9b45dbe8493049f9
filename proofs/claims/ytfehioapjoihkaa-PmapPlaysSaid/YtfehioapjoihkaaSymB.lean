/- slices.symMergeCmpFunc at []int, whole: two sorted neighbours become one. -/
import Derived.Test.YtfehioapjoihkaaSymA
import Derived.Deep.CutRange
namespace Go.Proofs.Ytfehioapjoihkaa
open Go.Shelf Go.RowKit Go.Lib Go.Sort Drawbar.Stab
variable {α : Type} [Inhabited α]

set_option maxHeartbeats 16000000 in
set_option maxRecDepth 1000000 in
theorem sm_gen (enc : α → Value) (cf : α → α → Int) (g : Nat) (cb : Array Value) (blk off cap a m b : Nat) (d0 d : Array α) (w0 w : World)
    (eg : ∀ args w, (callFunc g args).run Try.prog w = .ok (.enter g args) w) (hcmp : CmpLays1 Try.prog g cb enc cf blk off d0.size w0) (R : Row1 enc w0 blk off d0) (hs : d0.size = d.size) (S : SW enc w0 blk off d w) (hS : SWO (ltOf cf))
    (h1 : SortedIn (ltOf cf) a m d) (h2 : SortedIn (ltOf cf) m b d) (ham : a < m) (hmb : m < b) (hb : b ≤ d.size) (hsz : d.size < 1000000) (hm : m ≠ a + 1) (hbm : b ≠ m + 1)
    (ih : ∀ (a' m' b' : Nat) (d' : Array α) (w' : World), b' - a' < b - a → d0.size = d'.size → SW enc w0 blk off d' w' → SortedIn (ltOf cf) a' m' d' → SortedIn (ltOf cf) m' b' d' → a' < m' → m' < b' → b' ≤ d'.size →
      Calls Try.prog 42 #[.slice (some ⟨blk, off, none⟩) d'.size cap, .int .i64 a', .int .i64 m', .int .i64 b', .func (.func g) #[] cb] w' (SmPost enc cf w0 blk off a' b' d')) :
    Calls Try.prog 42 #[.slice (some ⟨blk, off, none⟩) d.size cap, .int .i64 a, .int .i64 m, .int .i64 b, .func (.func g) #[] cb] w (SmPost enc cf w0 blk off a b d) := by
  have mixed : Try.prog.follows .mixedOrders = true := by kernel_rfl
  have hcl0 := R.hO.cells
  simp only [Value.cells] at hcl0
  have hst := R.hO.store Try.prog
  have HC : Aside _ := hcmp
  have IH : Aside _ := ih
  have S0 : Aside (SW enc w0 blk off d w) := S
  have q1 : (((m : Int) - (a : Int)) == 1) = false := by simp; omega
  have q2 : (((b : Int) - (m : Int)) == 1) = false := by simp; omega
  obtain ⟨mid, hmid0⟩ : ∃ mid, mid = (a + b) / 2 := ⟨_, rfl⟩
  obtain ⟨lo, hi, hlh⟩ : ∃ lo hi : Nat, (mid < m ∧ lo + b = mid + m ∧ hi = mid) ∨ (¬ mid < m ∧ lo = a ∧ hi = m) := by
    by_cases h : mid < m
    · exact ⟨mid + m - b, mid, .inl ⟨h, by omega, rfl⟩⟩
    · exact ⟨a, m, .inr ⟨h, rfl, rfl⟩⟩
  have f1 : lo ≤ hi := by omega
  have f2 : hi ≤ m := by omega
  have f3 : hi ≤ mid := by omega
  have f4 : a ≤ lo := by omega
  have f5 : mid + m ≤ b + lo := by omega
  have f6 : a < mid := by omega
  have f7 : mid < b := by omega
  have hpart : ∀ s e : Nat, e + s = mid + m → lo ≤ s → s ≤ hi → (lo < s → ltOf cf d[mid + m - 1 - (s - 1)]! d[s - 1]! = false) → (s < hi → ltOf cf d[mid + m - 1 - s]! d[s]! = true) → ∀ d2, Rot s m e d d2 → Parted (ltOf cf) a s mid e b d2 := fun s e hes hls hsh hl hr d2 hrot => by
    have h9 := rot_merges hS h1 h2 (by omega : a ≤ s) (by omega) (by omega) (by omega) hrot (fun g1 g2 => by
      have := hl (by omega)
      rwa [show mid + m - 1 - (s - 1) = e by omega] at this) (fun g1 g2 => by
      have := hr (by omega)
      rwa [show mid + m - 1 - s = e - 1 by omega] at this)
    rw [show s + (e - m) = mid by omega] at h9
    exact ⟨h9.1, h9.2.1, h9.2.2.1, h9.2.2.2.1, h9.2.2.2.2⟩
  have HP : Aside _ := hpart
  have hmid : ((a : Int) + (b : Int)) / 2 = (mid : Int) := by omega
  have HLH := Lib.hid hlh
  have i0 : (0 : Int) ≤ a := by omega
  have i1 : (a : Int) < m := by omega
  have i2 : (m : Int) < b := by omega
  have i3 : (b : Int) < 1000000 := by omega
  have i4 : (a : Int) < mid := by omega
  have i5 : (mid : Int) < b := by omega
  clear S hcmp h1 h2 hm hbm ih hlh hpart hmid0
  go_enter Try.func42, Try.ntmps42
  obtain ⟨xl, xh, EL, EH, z1⟩ : ∃ xl xh : Int, Hid ((lo : Int) = xl) ∧ Hid ((hi : Int) = xh) ∧ ((decide (mid < m) = true ∧ xl = (mid : Int) + m - b ∧ xh = mid) ∨ (decide (mid < m) = false ∧ xl = a ∧ xh = m)) := by
    rcases HLH.out with ⟨g1, g2, g3⟩ | ⟨g1, g2, g3⟩
    · exact ⟨_, _, Lib.hid (by omega : (lo : Int) = (mid : Int) + m - b), Lib.hid (by omega : (hi : Int) = mid), .inl ⟨decide_eq_true g1, rfl, rfl⟩⟩
    · exact ⟨_, _, Lib.hid (by omega : (lo : Int) = a), Lib.hid (by omega : (hi : Int) = m), .inr ⟨decide_eq_false g1, rfl, rfl⟩⟩
  rcases z1 with ⟨z1, rfl, rfl⟩ | ⟨z1, rfl, rfl⟩
  all_goals
    go_wp2
    go_loopg [20, 21] (hi - lo) (fun kx vs vr wr => ∃ (s r : Nat), vs = .int .i64 s ∧ vr = .int .i64 r ∧ lo ≤ s ∧ s ≤ r ∧ r ≤ hi ∧ r - s ≤ kx ∧ Aside (SW enc w0 blk off d wr) ∧ Aside ((lo < s → ltOf cf d[mid + m - 1 - (s - 1)]! d[s - 1]! = false) ∧ (r < hi → ltOf cf d[mid + m - 1 - r]! d[r]! = true)))
    case atStart => exact ⟨lo, hi, by rw [EL.out], by rw [EH.out], Nat.le_refl _, f1, Nat.le_refl _, Nat.le_refl _, S0, ⟨fun h => absurd h (Nat.lt_irrefl _), fun h => absurd h (Nat.lt_irrefl _)⟩⟩
    case round =>
      clear S0
      obtain ⟨s, r, rfl, rfl, hls, hsr, hrh, hkx, S1, HB⟩ := hrel
      have i6 : (0 : Int) ≤ s := by omega
      have i7 : (r : Int) ≤ m := by omega
      have i8 : (r : Int) ≤ mid := by omega
      by_cases hlt : s < r
      · have hltz : (s : Int) < (r : Int) := by omega
        obtain ⟨c, hc0⟩ : ∃ c, c = (s + r) / 2 := ⟨_, rfl⟩
        have hh : ((s : Int) + (r : Int)) / 2 = (c : Int) := by omega
        have hsc : s ≤ c := by omega
        have hcr : c < r := by omega
        clear hc0
        have i9 : (c : Int) < r := by omega
        have i10 : (s : Int) ≤ c := by omega
        obtain ⟨pc, hpc0⟩ : ∃ pc, pc = mid + m - 1 - c := ⟨_, rfl⟩
        have hpc : (mid : Int) + (m : Int) - 1 - (c : Int) = (pc : Int) := by omega
        have hpb : pc < b := by omega
        have HPC := Lib.hid hpc0
        clear hpc0
        cases hlv : ltOf cf d[pc]! d[c]! with
        | true =>
          obtain ⟨iN7, hiN7⟩ : ∃ q, q = pc := ⟨_, rfl⟩
          obtain ⟨jN7, hjN7⟩ : ∃ q, q = c := ⟨_, rfl⟩
          have ea7 : ((pc : Int)).toNat = iN7 := by omega
          have pa7 : (0 : Int) ≤ (pc : Int) := by omega
          have ba7 : (pc : Int) < (d.size : Int) := by omega
          have ra7 : IntKind.i64.wrap ((pc : Int)) = (pc : Int) := by rw [IntKind.wrap_i64]; omega
          have ec7 : ((c : Int)).toNat = jN7 := by omega
          have pc7 : (0 : Int) ≤ (c : Int) := by omega
          have bc7 : (c : Int) < (d.size : Int) := by omega
          have rc7 : IntKind.i64.wrap ((c : Int)) = (c : Int) := by rw [IntKind.wrap_i64]; omega
          obtain ⟨x7, hx7⟩ : ∃ x, x = d[pc]! := ⟨_, rfl⟩
          obtain ⟨y7, hy7⟩ : ∃ x, x = d[c]! := ⟨_, rfl⟩
          have la7 := S1.out.cl R (by omega) (pc) (by omega)
          have lb7 := S1.out.cl R (by omega) (c) (by omega)
          rw [← hx7, ← hiN7] at la7
          rw [← hy7, ← hjN7] at lb7
          have hc7 := S1.out.cmp HC.out (by omega) x7 y7
          have hv7 : cf x7 y7 < 0 := by rw [hx7, hy7]; exact of_decide_eq_true hlv
          have hd7 : decide (cf x7 y7 < 0) = true := decide_eq_true hv7
          have HLV := Lib.hid hlv
          clear hx7 hy7 hiN7 hjN7 hlv
          go_wp2_with fail
          go_quiet_grown (first | (go_at_fn g; refine Calls.grown_of (hc7 _ _)))
          have S2 : Aside (SW enc w0 blk off d (grow (wr.drewN nq) osq)) := S1.out.grown nq osq
          clear la7 lb7 hc7 S1
          generalize grow (wr.drewN nq) osq = w2 at S2 ⊢
          clear nq osq
          clear ea7 ec7
          go_wp2
          go_roundg (c - s)
          case measure => omega
          case rel => exact ⟨s, c, rfl, rfl, hls, hsc, by omega, Nat.le_refl _, S2, ⟨HB.out.1, fun _ => by rw [← HPC.out]; exact HLV.out⟩⟩
        | false =>
          obtain ⟨iN8, hiN8⟩ : ∃ q, q = pc := ⟨_, rfl⟩
          obtain ⟨jN8, hjN8⟩ : ∃ q, q = c := ⟨_, rfl⟩
          have ea8 : ((pc : Int)).toNat = iN8 := by omega
          have pa8 : (0 : Int) ≤ (pc : Int) := by omega
          have ba8 : (pc : Int) < (d.size : Int) := by omega
          have ra8 : IntKind.i64.wrap ((pc : Int)) = (pc : Int) := by rw [IntKind.wrap_i64]; omega
          have ec8 : ((c : Int)).toNat = jN8 := by omega
          have pc8 : (0 : Int) ≤ (c : Int) := by omega
          have bc8 : (c : Int) < (d.size : Int) := by omega
          have rc8 : IntKind.i64.wrap ((c : Int)) = (c : Int) := by rw [IntKind.wrap_i64]; omega
          obtain ⟨x8, hx8⟩ : ∃ x, x = d[pc]! := ⟨_, rfl⟩
          obtain ⟨y8, hy8⟩ : ∃ x, x = d[c]! := ⟨_, rfl⟩
          have la8 := S1.out.cl R (by omega) (pc) (by omega)
          have lb8 := S1.out.cl R (by omega) (c) (by omega)
          rw [← hx8, ← hiN8] at la8
          rw [← hy8, ← hjN8] at lb8
          have hc8 := S1.out.cmp HC.out (by omega) x8 y8
          have hv8 : ¬ cf x8 y8 < 0 := by rw [hx8, hy8]; exact of_decide_eq_false hlv
          have hd8 : decide (cf x8 y8 < 0) = false := decide_eq_false hv8
          have HLV := Lib.hid hlv
          clear hx8 hy8 hiN8 hjN8 hlv
          go_wp2_with fail
          go_quiet_grown (first | (go_at_fn g; refine Calls.grown_of (hc8 _ _)))
          have S2 : Aside (SW enc w0 blk off d (grow (wr.drewN nq) osq)) := S1.out.grown nq osq
          clear la8 lb8 hc8 S1
          generalize grow (wr.drewN nq) osq = w2 at S2 ⊢
          clear nq osq
          clear ea8 ec8
          go_wp2
          go_roundg (r - (c + 1))
          case measure => omega
          case rel => exact ⟨c + 1, r, by go_num, rfl, by omega, by omega, hrh, Nat.le_refl _, S2, ⟨fun _ => by rw [show mid + m - 1 - (c + 1 - 1) = pc from HPC.out.symm]; exact HLV.out, HB.out.2⟩⟩
      · have hltz : ¬ (s : Int) < (r : Int) := by omega
        obtain rfl : s = r := by omega
        obtain ⟨e, he0⟩ : ∃ e, e = mid + m - s := ⟨_, rfl⟩
        have he : (mid : Int) + (m : Int) - (s : Int) = (e : Int) := by omega
        have hes : e + s = mid + m := by omega
        have hpart := HP.out s e hes hls hrh HB.out.1 HB.out.2
        have HQ := Lib.hid hpart
        have HES := Lib.hid hes
        have g1 : a ≤ s := by omega
        have g2 : e ≤ b := by omega
        have g3 : m ≤ e := by omega
        have g4 : mid ≤ e := by omega
        clear hpart he0 hes HB
        have HES2 := HES
        by_cases c1 : s < m
        · by_cases c2 : m < e
          · have c4 : s < mid := by have := HES.out; omega
            have c5 : mid < e := by have := HES.out; omega
            by_cases c3 : a < s
            · by_cases c6 : e < b
              · have zc1 : (s : Int) < (m : Int) := by omega
                have zc2 : (m : Int) < (e : Int) := by omega
                have zc3 : (a : Int) < (s : Int) := by omega
                have zc4 : (s : Int) < (mid : Int) := by omega
                have zc5 : (mid : Int) < (e : Int) := by omega
                have zc6 : (e : Int) < (b : Int) := by omega
                have hcR := rotate_any enc (.func (.func g) #[] cb) blk off cap s m e d0 d w0 wr R hs S1.out (by omega) (by omega) (by omega) hsz
                have HCR := Lib.hid hcR
                clear hcR S1
                go_wp2_with fail
                (with_reducible refine HCR.out.mono ?_)
                rintro e1 w2 ⟨rfl, d2, Z2, S2⟩
                have hz2 := Z2.out.size
                have HPT := Lib.hid (HQ.out d2 Z2.out)
                have hcA := IH.out a s mid d2 w2 (by omega) (by omega) S2.out HPT.out.p1 HPT.out.p2 (by omega) (by omega) (by omega)
                rw [hz2] at hcA
                have HCA := Lib.hid hcA
                clear hcA S2 hz2
                go_wp2_with fail
                (with_reducible refine HCA.out.mono ?_)
                rintro e1 w3 ⟨rfl, d3, M3, S3⟩
                have hz3 := M3.out.perm.1
                rw [Z2.out.size] at hz3
                have hcB := IH.out mid e b d3 w3 (by omega) (by omega) S3.out (HPT.out.hi M3.out.perm g4).1 (HPT.out.hi M3.out.perm g4).2 (by omega) (by omega) (by omega)
                rw [hz3] at hcB
                have HCB := Lib.hid hcB
                clear hcB S3 hz3
                go_wp2_with fail
                (with_reducible refine HCB.out.mono ?_)
                rintro e1 w4 ⟨rfl, d4, M4, S4⟩
                go_wp2
                go_end0
                exact ⟨rfl, d4, HPT.out.whole Z2.out g1 g2 M3.out M4.out (by omega) (by omega) hb, S4⟩
              · have zc1 : (s : Int) < (m : Int) := by omega
                have zc2 : (m : Int) < (e : Int) := by omega
                have zc3 : (a : Int) < (s : Int) := by omega
                have zc4 : (s : Int) < (mid : Int) := by omega
                have zc5 : (mid : Int) < (e : Int) := by omega
                have zc6 : ¬ (e : Int) < (b : Int) := by omega
                have hcR := rotate_any enc (.func (.func g) #[] cb) blk off cap s m e d0 d w0 wr R hs S1.out (by omega) (by omega) (by omega) hsz
                have HCR := Lib.hid hcR
                clear hcR S1
                go_wp2_with fail
                (with_reducible refine HCR.out.mono ?_)
                rintro e1 w2 ⟨rfl, d2, Z2, S2⟩
                have hz2 := Z2.out.size
                have HPT := Lib.hid (HQ.out d2 Z2.out)
                have hcA := IH.out a s mid d2 w2 (by omega) (by omega) S2.out HPT.out.p1 HPT.out.p2 (by omega) (by omega) (by omega)
                rw [hz2] at hcA
                have HCA := Lib.hid hcA
                clear hcA S2 hz2
                go_wp2_with fail
                (with_reducible refine HCA.out.mono ?_)
                rintro e1 w3 ⟨rfl, d3, M3, S3⟩
                have hz3 := M3.out.perm.1
                rw [Z2.out.size] at hz3
                have M4 : Aside (Merged (ltOf cf) mid b d3 d3) := Merged.id (HPT.out.up M3.out.perm g4 (by have := HES.out; omega))
                clear hz3
                go_wp2
                go_end0
                exact ⟨rfl, d3, HPT.out.whole Z2.out g1 g2 M3.out M4.out (by omega) (by omega) hb, S3⟩
            · by_cases c6 : e < b
              · have zc1 : (s : Int) < (m : Int) := by omega
                have zc2 : (m : Int) < (e : Int) := by omega
                have zc3 : ¬ (a : Int) < (s : Int) := by omega
                have zc5 : (mid : Int) < (e : Int) := by omega
                have zc6 : (e : Int) < (b : Int) := by omega
                have hcR := rotate_any enc (.func (.func g) #[] cb) blk off cap s m e d0 d w0 wr R hs S1.out (by omega) (by omega) (by omega) hsz
                have HCR := Lib.hid hcR
                clear hcR S1
                go_wp2_with fail
                (with_reducible refine HCR.out.mono ?_)
                rintro e1 w2 ⟨rfl, d2, Z2, S2⟩
                have hz2 := Z2.out.size
                have HPT := Lib.hid (HQ.out d2 Z2.out)
                have M3 : Aside (Merged (ltOf cf) a mid d2 d2) := Merged.id (HPT.out.lo (by have := HES.out; omega))
                have hz3 := hz2
                clear hz2
                have hcB := IH.out mid e b d2 w2 (by omega) (by omega) S2.out (HPT.out.hi M3.out.perm g4).1 (HPT.out.hi M3.out.perm g4).2 (by omega) (by omega) (by omega)
                rw [hz3] at hcB
                have HCB := Lib.hid hcB
                clear hcB S2 hz3
                go_wp2_with fail
                (with_reducible refine HCB.out.mono ?_)
                rintro e1 w4 ⟨rfl, d4, M4, S4⟩
                go_wp2
                go_end0
                exact ⟨rfl, d4, HPT.out.whole Z2.out g1 g2 M3.out M4.out (by omega) (by omega) hb, S4⟩
              · have zc1 : (s : Int) < (m : Int) := by omega
                have zc2 : (m : Int) < (e : Int) := by omega
                have zc3 : ¬ (a : Int) < (s : Int) := by omega
                have zc5 : (mid : Int) < (e : Int) := by omega
                have zc6 : ¬ (e : Int) < (b : Int) := by omega
                have hcR := rotate_any enc (.func (.func g) #[] cb) blk off cap s m e d0 d w0 wr R hs S1.out (by omega) (by omega) (by omega) hsz
                have HCR := Lib.hid hcR
                clear hcR S1
                go_wp2_with fail
                (with_reducible refine HCR.out.mono ?_)
                rintro e1 w2 ⟨rfl, d2, Z2, S2⟩
                have hz2 := Z2.out.size
                have HPT := Lib.hid (HQ.out d2 Z2.out)
                have M3 : Aside (Merged (ltOf cf) a mid d2 d2) := Merged.id (HPT.out.lo (by have := HES.out; omega))
                have hz3 := hz2
                clear hz2
                have M4 : Aside (Merged (ltOf cf) mid b d2 d2) := Merged.id (HPT.out.up M3.out.perm g4 (by have := HES.out; omega))
                clear hz3
                go_wp2
                go_end0
                exact ⟨rfl, d2, HPT.out.whole Z2.out g1 g2 M3.out M4.out (by omega) (by omega) hb, S2⟩
          · have c3 : a < s := by have := HES.out; omega
            have c4 : ¬ s < mid := by have := HES.out; omega
            have c5 : mid < e := by have := HES.out; omega
            by_cases c6 : e < b
            · have zc1 : (s : Int) < (m : Int) := by omega
              have zc2 : ¬ (m : Int) < (e : Int) := by omega
              have zc3 : (a : Int) < (s : Int) := by omega
              have zc4 : ¬ (s : Int) < (mid : Int) := by omega
              have zc5 : (mid : Int) < (e : Int) := by omega
              have zc6 : (e : Int) < (b : Int) := by omega
              have Z2 : Aside (Rot s m e d d) := Rot.id d (by have := HES.out; omega) (by omega) (by omega)
              have hz2 := Z2.out.size
              have HPT := Lib.hid (HQ.out d Z2.out)
              have M3 : Aside (Merged (ltOf cf) a mid d d) := Merged.id (HPT.out.lo (by have := HES.out; omega))
              have hz3 := hz2
              clear hz2
              have hcB := IH.out mid e b d wr (by omega) (by omega) S1.out (HPT.out.hi M3.out.perm g4).1 (HPT.out.hi M3.out.perm g4).2 (by omega) (by omega) (by omega)
              have HCB := Lib.hid hcB
              clear hcB S1 hz3
              go_wp2_with fail
              (with_reducible refine HCB.out.mono ?_)
              rintro e1 w4 ⟨rfl, d4, M4, S4⟩
              go_wp2
              go_end0
              exact ⟨rfl, d4, HPT.out.whole Z2.out g1 g2 M3.out M4.out (by omega) (by omega) hb, S4⟩
            · have zc1 : (s : Int) < (m : Int) := by omega
              have zc2 : ¬ (m : Int) < (e : Int) := by omega
              have zc3 : (a : Int) < (s : Int) := by omega
              have zc4 : ¬ (s : Int) < (mid : Int) := by omega
              have zc5 : (mid : Int) < (e : Int) := by omega
              have zc6 : ¬ (e : Int) < (b : Int) := by omega
              have Z2 : Aside (Rot s m e d d) := Rot.id d (by have := HES.out; omega) (by omega) (by omega)
              have hz2 := Z2.out.size
              have HPT := Lib.hid (HQ.out d Z2.out)
              have M3 : Aside (Merged (ltOf cf) a mid d d) := Merged.id (HPT.out.lo (by have := HES.out; omega))
              have hz3 := hz2
              clear hz2
              have M4 : Aside (Merged (ltOf cf) mid b d d) := Merged.id (HPT.out.up M3.out.perm g4 (by have := HES.out; omega))
              clear hz3
              go_wp2
              go_end0
              exact ⟨rfl, d, HPT.out.whole Z2.out g1 g2 M3.out M4.out (by omega) (by omega) hb, S1⟩
        · by_cases c2 : m < e
          · have c3 : a < s := by have := HES.out; omega
            have c4 : s < mid := by have := HES.out; omega
            have c5 : ¬ mid < e := by have := HES.out; omega
            have zc1 : ¬ (s : Int) < (m : Int) := by omega
            have zc3 : (a : Int) < (s : Int) := by omega
            have zc4 : (s : Int) < (mid : Int) := by omega
            have zc5 : ¬ (mid : Int) < (e : Int) := by omega
            have Z2 : Aside (Rot s m e d d) := Rot.id d (by have := HES.out; omega) (by omega) (by omega)
            have hz2 := Z2.out.size
            have HPT := Lib.hid (HQ.out d Z2.out)
            have hcA := IH.out a s mid d wr (by omega) (by omega) S1.out HPT.out.p1 HPT.out.p2 (by omega) (by omega) (by omega)
            have HCA := Lib.hid hcA
            clear hcA S1 hz2
            go_wp2_with fail
            (with_reducible refine HCA.out.mono ?_)
            rintro e1 w3 ⟨rfl, d3, M3, S3⟩
            have hz3 := M3.out.perm.1
            rw [Z2.out.size] at hz3
            have M4 : Aside (Merged (ltOf cf) mid b d3 d3) := Merged.id (HPT.out.up M3.out.perm g4 (by have := HES.out; omega))
            clear hz3
            go_wp2
            go_end0
            exact ⟨rfl, d3, HPT.out.whole Z2.out g1 g2 M3.out M4.out (by omega) (by omega) hb, S3⟩
          · have c3 : a < s := by have := HES.out; omega
            have c4 : ¬ s < mid := by have := HES.out; omega
            have c5 : ¬ mid < e := by have := HES.out; omega
            have zc1 : ¬ (s : Int) < (m : Int) := by omega
            have zc3 : (a : Int) < (s : Int) := by omega
            have zc4 : ¬ (s : Int) < (mid : Int) := by omega
            have zc5 : ¬ (mid : Int) < (e : Int) := by omega
            have Z2 : Aside (Rot s m e d d) := Rot.id d (by have := HES.out; omega) (by omega) (by omega)
            have hz2 := Z2.out.size
            have HPT := Lib.hid (HQ.out d Z2.out)
            have M3 : Aside (Merged (ltOf cf) a mid d d) := Merged.id (HPT.out.lo (by have := HES.out; omega))
            have hz3 := hz2
            clear hz2
            have M4 : Aside (Merged (ltOf cf) mid b d d) := Merged.id (HPT.out.up M3.out.perm g4 (by have := HES.out; omega))
            clear hz3
            go_wp2
            go_end0
            exact ⟨rfl, d, HPT.out.whole Z2.out g1 g2 M3.out M4.out (by omega) (by omega) hb, S1⟩

theorem symMerge_any (enc : α → Value) (cf : α → α → Int) (g : Nat) (cb : Array Value) (blk off cap : Nat) (d0 : Array α) (w0 : World)
    (eg : ∀ args w, (callFunc g args).run Try.prog w = .ok (.enter g args) w) (hcmp : CmpLays1 Try.prog g cb enc cf blk off d0.size w0) (R : Row1 enc w0 blk off d0) (hS : SWO (ltOf cf)) (hsz : d0.size < 1000000) :
    ∀ (N a m b : Nat) (d : Array α) (w : World), b - a ≤ N → d0.size = d.size → SW enc w0 blk off d w → SortedIn (ltOf cf) a m d → SortedIn (ltOf cf) m b d → a < m → m < b → b ≤ d.size →
      Calls Try.prog 42 #[.slice (some ⟨blk, off, none⟩) d.size cap, .int .i64 a, .int .i64 m, .int .i64 b, .func (.func g) #[] cb] w (SmPost enc cf w0 blk off a b d) := by
  intro N
  induction N with
  | zero => intro a m b d w hN; intros; omega
  | succ N ih =>
    intro a m b d w hN hs S h1 h2 ham hmb hb
    by_cases hm : m = a + 1
    · exact sm_left enc cf g cb blk off cap a m b d0 d w0 w eg hcmp R hs S hS h1 h2 ham hmb hb (by omega) hm
    · by_cases hbm : b = m + 1
      · exact sm_right enc cf g cb blk off cap a m b d0 d w0 w eg hcmp R hs S hS h1 h2 ham hmb hb (by omega) hm hbm
      · exact sm_gen enc cf g cb blk off cap a m b d0 d w0 w eg hcmp R hs S hS h1 h2 ham hmb hb (by omega) hm hbm fun a' m' b' d' w' hlt hs' S' g1 g2 g3 g4 g5 => ih a' m' b' d' w' (by omega) hs' S' g1 g2 g3 g4 g5
end Go.Proofs.Ytfehioapjoihkaa
