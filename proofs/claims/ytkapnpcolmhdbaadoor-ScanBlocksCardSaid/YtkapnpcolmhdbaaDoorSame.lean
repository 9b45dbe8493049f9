/- The contract of the document's Same; two sheets with the form that are unlike have unlike pages. -/
import Derived.Test.YtkapnpcolmhdbaaDoorLay
import Derived.Test.YtkapnpcolmhdbaaDoorRefs
namespace Drawbar.Sheet
open Go.Proofs.YtkapnpcolmhdbaaDoor
/-- Are two one? -/
def sameS (s t : Sh) : Bool := decide (s.k = t.k ∧ s.ep = t.ep ∧ s.sq = t.sq ∧ s.ad = t.ad ∧ s.fr = t.fr ∧ s.da = t.da)
set_option maxRecDepth 100000 in
theorem put_inj {n m k : Nat} (hn : n < 2 ^ (8 * k)) (hm : m < 2 ^ (8 * k)) (h : put n k = put m k) : n = m := by
  have := congrArg Crc.le h
  rw [le_put, le_put, Nat.mod_eq_of_lt hn, Nat.mod_eq_of_lt hm] at this
  exact this
set_option maxRecDepth 100000 in
theorem app_inj {a b c d : List Nat} (h : a ++ b = c ++ d) (hl : a.length = c.length) : a = c ∧ b = d := List.append_inj h hl
set_option maxRecDepth 100000 in
theorem same_true {s t : Sh} : sameS s t = true ↔ s = t := by
  unfold sameS
  rw [decide_eq_true_eq]
  constructor
  · rintro ⟨h1, h2, h3, h4, h5, h6⟩
    cases s
    cases t
    simp_all
  · rintro rfl
    exact ⟨rfl, rfl, rfl, rfl, rfl, rfl⟩
set_option maxRecDepth 100000 in
theorem head_inj {s t : Sh} (hs : fm s = true) (ht : fm t = true) (h : head s = head t) : s.k = t.k ∧ s.ep = t.ep ∧ s.sq = t.sq ∧ s.ad = t.ad ∧ s.fr = t.fr := by
  obtain ⟨a1, a2, a3, a4, a5, a6, a7, a8, _⟩ := of_decide_eq_true hs
  obtain ⟨b1, b2, b3, b4, b5, b6, b7, b8, _⟩ := of_decide_eq_true ht
  unfold head at h
  obtain ⟨h, h5⟩ := app_inj h (by simp [put_length])
  obtain ⟨h, h4⟩ := app_inj h (by simp [put_length])
  obtain ⟨h, h3⟩ := app_inj h (by simp [put_length])
  obtain ⟨h1, h2⟩ := app_inj h (by simp [put_length])
  have e1 := put_inj (by omega) (by omega) h1
  have e2 := put_inj (by omega) (by omega) h2
  have e3 := put_inj (by omega) (by omega) h3
  have e4 := put_inj (by omega) (by omega) h4
  have e5 := put_inj (by omega) (by omega) h5
  exact ⟨e1, e2, e3, by omega, by omega⟩
set_option maxRecDepth 100000 in
theorem page_inj {s t : Sh} (hs : fm s = true) (ht : fm t = true) (h : page s = page t) : s = t := by
  have ls := fm_len hs
  have lt := fm_len ht
  unfold page at h
  obtain ⟨h, _⟩ := app_inj h (by simp [body_length _ ls, body_length _ lt, put_length])
  obtain ⟨h, _⟩ := app_inj h (by simp [body_length _ ls, body_length _ lt])
  unfold body at h
  rw [List.append_assoc, List.append_assoc] at h
  obtain ⟨h1, h⟩ := app_inj h (by simp [head_length])
  unfold laid1 at h
  rw [List.append_assoc, List.append_assoc] at h
  obtain ⟨h2, h⟩ := app_inj h (by simp [put_length])
  have hl : s.da.length = t.da.length := put_inj (by omega) (by omega) h2
  obtain ⟨h3, _⟩ := app_inj h hl
  obtain ⟨e1, e2, e3, e4, e5⟩ := head_inj hs ht h1
  exact same_true.1 (decide_eq_true ⟨e1, e2, e3, e4, e5, h3⟩)
end Drawbar.Sheet
namespace Go.Proofs.YtkapnpcolmhdbaaDoor
open Go.RowKit
open Drawbar Drawbar.Sheet

set_option maxRecDepth 100000 in
theorem str_eq {l m : List Nat} (hl : ∀ x ∈ l, x < 256) (hm : ∀ x ∈ m, x < 256) : ((strOf l).toList == (strOf m).toList) = decide (l = m) := by
  by_cases h : l = m
  · subst h; simp
  · rw [decide_eq_false h, beq_eq_false_iff_ne, ByteArray.toList_eq, ByteArray.toList_eq]
    intro e
    exact h (strOf_inj hl hm (by
      generalize strOf l = x at *
      generalize strOf m = y at *
      cases x; cases y
      congr 1
      exact Array.toList_inj.1 e))

set_option maxRecDepth 100000 in
set_option maxHeartbeats 4000000 in
theorem ssame_any (s t : Sh) (a b : Option Addr) (c d : Nat) (w : World) (hs : Rd w a s.da) (ht : Rd w b t.da) :
    Calls Tryd.prog 34 #[sv s a c, sv t b d] w fun e w' => e = .returned (.bool (sameS s t)) ∧ Below w.heap.size w w' := by
  have hc1 := conv_str ((w.alloc (boxs 47 s a c)).alloc (boxs 47 t b d)) a s.da c ((hs.below (boxs_below _ _ _ _ _)).below (boxs_below _ _ _ _ _))
  have hc2 := conv_str ((w.alloc (boxs 47 s a c)).alloc (boxs 47 t b d)) b t.da d ((ht.below (boxs_below _ _ _ _ _)).below (boxs_below _ _ _ _ _))
  have hB := fun o o' => ((Below.refl w.heap.size w).alloc (Nat.le_refl _) o).alloc (show w.heap.size ≤ (w.alloc o).heap.size by simp) o'
  have hse := str_eq hs.1 ht.1
  generalize hq : sameS s t = q
  unfold sameS at hq
  generalize strOf s.da = S1 at *
  generalize strOf t.da = S2 at *
  by_cases h0 : s.k = t.k
  rotate_left
  · obtain rfl : q = false := hq.symm.trans (decide_eq_false fun h => h0 h.1)
    have x0 : ((s.k : Int) == (t.k : Int)) = false := by simp only [beq_eq_false_iff_ne]; omega
    clear hq hs ht hse hc1 hc2
    go_enter Tryd.func34, Tryd.ntmps34
    go_wp2
    go_ret
    exact ⟨rfl, hB _ _⟩
  have x0 : ((s.k : Int) == (t.k : Int)) = true := by simp only [beq_iff_eq]; omega
  by_cases h1 : s.ep = t.ep
  rotate_left
  · obtain rfl : q = false := hq.symm.trans (decide_eq_false fun h => h1 h.2.1)
    have x1 : ((s.ep : Int) == (t.ep : Int)) = false := by simp only [beq_eq_false_iff_ne]; omega
    clear hq hs ht hse hc1 hc2
    go_enter Tryd.func34, Tryd.ntmps34
    go_wp2
    go_ret
    exact ⟨rfl, hB _ _⟩
  have x1 : ((s.ep : Int) == (t.ep : Int)) = true := by simp only [beq_iff_eq]; omega
  by_cases h2 : s.sq = t.sq
  rotate_left
  · obtain rfl : q = false := hq.symm.trans (decide_eq_false fun h => h2 h.2.2.1)
    have x2 : ((s.sq : Int) == (t.sq : Int)) = false := by simp only [beq_eq_false_iff_ne]; omega
    clear hq hs ht hse hc1 hc2
    go_enter Tryd.func34, Tryd.ntmps34
    go_wp2
    go_ret
    exact ⟨rfl, hB _ _⟩
  have x2 : ((s.sq : Int) == (t.sq : Int)) = true := by simp only [beq_iff_eq]; omega
  by_cases h3 : s.ad = t.ad
  rotate_left
  · obtain rfl : q = false := hq.symm.trans (decide_eq_false fun h => h3 h.2.2.2.1)
    have x3 : (s.ad == t.ad) = false := by simp only [beq_eq_false_iff_ne]; omega
    clear hq hs ht hse hc1 hc2
    go_enter Tryd.func34, Tryd.ntmps34
    go_wp2
    go_ret
    exact ⟨rfl, hB _ _⟩
  have x3 : (s.ad == t.ad) = true := by simp only [beq_iff_eq]; omega
  by_cases h4 : s.fr = t.fr
  rotate_left
  · obtain rfl : q = false := hq.symm.trans (decide_eq_false fun h => h4 h.2.2.2.2.1)
    have x4 : (s.fr == t.fr) = false := by simp only [beq_eq_false_iff_ne]; omega
    clear hq hs ht hse hc1 hc2
    go_enter Tryd.func34, Tryd.ntmps34
    go_wp2
    go_ret
    exact ⟨rfl, hB _ _⟩
  have x4 : (s.fr == t.fr) = true := by simp only [beq_iff_eq]; omega
  have hq2 : decide (s.da = t.da) = q := by
    rw [← hq, Bool.eq_iff_iff, decide_eq_true_eq, decide_eq_true_eq]
    exact ⟨fun h => ⟨h0, h1, h2, h3, h4, h⟩, fun h => h.2.2.2.2.2⟩
  rw [hq2] at hse
  clear hq hs ht hq2 h0 h1 h2 h3 h4
  go_enter Tryd.func34, Tryd.ntmps34
  go_wp2
  go_ret
  exact ⟨rfl, hB _ _⟩
end Go.Proofs.YtkapnpcolmhdbaaDoor
