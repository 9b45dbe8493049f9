/- slices.SortStableFunc at []int, at fewer than 40 elements: a permutation, sorted. -/
import Derived.Test.YtfehioapjoihkaaSymB
namespace Go.Proofs.Ytfehioapjoihkaa
open Go.Shelf Go.RowKit Go.Lib Go.Sort Drawbar.Stab
variable {α : Type} [Inhabited α]

theorem insertion_any (enc : α → Value) (cf : α → α → Int) (g : Nat) (cb : Array Value) (blk off cap a b : Nat) (d0 d : Array α) (w0 w : World)
    (eg : ∀ args w, (callFunc g args).run Try.prog w = .ok (.enter g args) w) (hcmp : CmpLays1 Try.prog g cb enc cf blk off d0.size w0) (R : Row1 enc w0 blk off d0) (hs : d0.size = d.size) (S : SW enc w0 blk off d w) (hS : SWO (ltOf cf)) (hab : a ≤ b) (hb : b ≤ d.size) (hsz : d.size < 1000000) :
    Calls Try.prog 41 #[.slice (some ⟨blk, off, none⟩) d.size cap, .int .i64 a, .int .i64 b, .func (.func g) #[] cb] w (SmPost enc cf w0 blk off a b d) :=
  (Any.insertionSortCmpFunc_s lays20 enc cf g cb blk off cap a b d0 d w0 w eg hcmp R hs S hab hb (by omega)).mono fun _ _ ⟨he, hw⟩ =>
    ⟨he, _, ⟨(insertionSort_holds (lt := ltOf cf) hS d a b hab hb).1, (insertionSort_holds (lt := ltOf cf) hS d a b hab hb).2⟩, hw⟩

set_option maxHeartbeats 4000000 in
set_option maxRecDepth 1000000 in
theorem stable_any (enc : α → Value) (cf : α → α → Int) (g : Nat) (cb : Array Value) (blk off cap : Nat) (d : Array α) (w : World)
    (eg : ∀ args w, (callFunc g args).run Try.prog w = .ok (.enter g args) w) (hcmp : CmpLays1 Try.prog g cb enc cf blk off d.size w) (R : Row1 enc w blk off d) (hS : SWO (ltOf cf)) (hsz : d.size < 40) :
    Calls Try.prog 38 #[.slice (some ⟨blk, off, none⟩) d.size cap, .int .i64 d.size, .func (.func g) #[] cb] w (SmPost enc cf w blk off 0 d.size d) := by
  have HC : Aside _ := hcmp
  have S0 : Aside (SW enc w blk off d w) := SW.start R.hH
  obtain ⟨n, hn⟩ : ∃ n, n = d.size := ⟨_, rfl⟩
  rw [← hn] at hsz
  clear hcmp
  by_cases h20 : n < 20
  · have hc := insertion_any enc cf g cb blk off cap 0 n d d w w eg HC.out R rfl S0.out hS (Nat.zero_le _) (by omega) (by omega)
    rw [← hn, show ((0 : Nat) : Int) = 0 from rfl] at hc
    rw [← hn]
    have HCC := Lib.hid hc
    have HN := Lib.hid hn
    have i1 : (n : Int) < 20 := by omega
    have i2 : (0 : Int) ≤ n := by omega
    clear hc hn
    go_enter Try.func38, Try.ntmps38
    go_wp2
    refine wp_loop_rounds 1 ?_
    rw [rounds_succ]
    go_wp2_with fail
    (with_reducible refine HCC.out.mono ?_)
    rintro e w2 ⟨rfl, d2, M2, S2⟩
    go_wp2
    refine wp_loop_rounds 1 ?_
    rw [rounds_succ]
    go_wp2
    go_end0
    exact ⟨rfl, d2, M2, S2⟩
  · have hc := insertion_any enc cf g cb blk off cap 0 20 d d w w eg HC.out R rfl S0.out hS (Nat.zero_le _) (by omega) (by omega)
    rw [show ((0 : Nat) : Int) = 0 from rfl, show ((20 : Nat) : Int) = 20 from rfl, ← hn] at hc
    rw [← hn]
    have HCC := Lib.hid hc
    have HN := Lib.hid hn
    have i1 : (20 : Int) ≤ n := by omega
    have i2 : (n : Int) < 40 := by omega
    clear hc hn
    go_enter Try.func38, Try.ntmps38
    go_wp2
    refine wp_loop_rounds 2 ?_
    rw [rounds_succ]
    go_wp2_with fail
    (with_reducible refine HCC.out.mono ?_)
    rintro e w2 ⟨rfl, d2, M2, S2⟩
    have hz2 := M2.out.perm.1
    have hc := insertion_any enc cf g cb blk off cap 20 n d d2 w w2 eg HC.out R hz2.symm S2.out hS (by omega) (by have := HN.out; omega) (by have := HN.out; omega)
    rw [hz2, ← HN.out, show ((20 : Nat) : Int) = 20 from rfl] at hc
    have HCD := Lib.hid hc
    have HZ2 := Lib.hid hz2
    clear hc HCC hz2
    go_wp2
    rw [rounds_succ]
    go_wp2_with fail
    (with_reducible refine HCD.out.mono ?_)
    rintro e w3 ⟨rfl, d3, M3, S3⟩
    have hz3 := M3.out.perm.1.trans HZ2.out
    have hst1 : SortedIn (ltOf cf) 0 20 d3 := SortedIn.same M2.out.sorted fun k _ hk => M3.out.perm.2.1 k (.inl hk)
    have hp3 : PermIn 0 n d d3 := permIn_trans _ _ _ _ _ (permIn_wide M2.out.perm (Nat.le_refl _) (by omega) (by have := HN.out; omega)) (permIn_wide M3.out.perm (by omega) (Nat.le_refl _) (by have := HN.out; have := HZ2.out; omega))
    by_cases heq : n = 20
    · have hfin : Aside (Merged (ltOf cf) 0 n d d3) := ⟨hp3, by rw [heq]; exact hst1⟩
      subst heq
      clear hst1 hp3 hz3 M2 M3
      go_wp2
      refine wp_loop_rounds 1 ?_
      rw [rounds_succ]
      go_wp2
      go_end0
      exact ⟨rfl, d3, hfin, S3⟩
    · have hc := symMerge_any enc cf g cb blk off cap d w eg HC.out R hS (by have := HN.out; omega) n 0 20 n d3 w3 (by omega) hz3.symm S3.out hst1 M3.out.sorted (by omega) (by omega) (by have := HN.out; omega)
      rw [hz3, ← HN.out, show ((0 : Nat) : Int) = 0 from rfl, show ((20 : Nat) : Int) = 20 from rfl] at hc
      have HCE := Lib.hid hc
      have HP3 := Lib.hid hp3
      have i3 : (20 : Int) < n := by omega
      clear hc HCD hst1 hz3 hp3 M2 M3 i1
      go_wp2
      refine wp_loop_rounds 2 ?_
      rw [rounds_succ]
      go_wp2
      refine wp_loop_rounds 1 ?_
      rw [rounds_succ]
      go_wp2_with fail
      (with_reducible refine HCE.out.mono ?_)
      rintro e w4 ⟨rfl, d4, M4, S4⟩
      go_wp2
      rw [rounds_succ]
      go_wp2
      go_end0
      exact ⟨rfl, d4, ⟨permIn_trans _ _ _ _ _ HP3.out M4.out.perm, M4.out.sorted⟩, S4⟩

/-- slices.SortStableFunc. -/
theorem sortStable_any (enc : α → Value) (cf : α → α → Int) (g : Nat) (cb : Array Value) (blk off cap : Nat) (d : Array α) (w : World)
    (eg : ∀ args w, (callFunc g args).run Try.prog w = .ok (.enter g args) w) (hcmp : CmpLays1 Try.prog g cb enc cf blk off d.size w) (R : Row1 enc w blk off d) (hS : SWO (ltOf cf)) (hsz : d.size < 40) :
    Calls Try.prog 33 #[.slice (some ⟨blk, off, none⟩) d.size cap, .func (.func g) #[] cb] w (SmPost enc cf w blk off 0 d.size d) := by
  have hc := stable_any enc cf g cb blk off cap d w eg hcmp R hS hsz
  have HC := Lib.hid hc
  clear hc hcmp
  go_enter Try.func33, Try.ntmps33
  go_wp2_with fail
  (with_reducible refine HC.out.mono ?_)
  rintro e w4 ⟨rfl, d4, M4, S4⟩
  go_wp2
  go_end0
  exact ⟨rfl, d4, M4, S4⟩
end Go.Proofs.Ytfehioapjoihkaa
