/- The contract of the document's Open (drawbarref01). -/
import Derived.Test.YtopmljbemogcoaaDoorRefSum
import Derived.Deep.RegionWith
import Derived.Deep.RegionHeld
namespace Go.Proofs.YtopmljbemogcoaaDoor
open Go.RowKit
open Drawbar

/-- What the document's Open answers. -/
def RefOpens (w : World) (l : List Nat) (e : Ending) (w' : World) : Prop :=
  Below w.heap.size w w' ∧
  ((l.length < 4 ∧ e = .returned (.tuple #[.slice none 0 0, .int .i64 3])) ∨ (4 ≤ l.length ∧ ¬ valid l ∧ e = .returned (.tuple #[.slice none 0 0, .int .i64 4])) ∨
   (valid l ∧ ∃ a cap, e = .returned (.tuple #[.slice a (l.length - 4) cap, .int .i64 0]) ∧ l.length - 4 ≤ cap ∧ Rd w' a (l.take (l.length - 4))))

theorem refopen_short (l : List Nat) (a : Option Addr) (cap : Nat) (w : World) (h : l.length < 4) :
    Calls Tryd.prog 30 #[.slice a l.length cap] w (RefOpens w l) := by
  go_enter Tryd.func30, Tryd.ntmps30
  go_wp2
  go_ret2
  exact ⟨Below.refl _ _, .inl ⟨h, rfl⟩⟩

theorem strOf_inj {l m : List Nat} (hl : ∀ x ∈ l, x < 256) (hm : ∀ x ∈ m, x < 256) (h : strOf l = strOf m) : l = m := by
  have h1 : l.map UInt8.ofNat = m.map UInt8.ofNat := by
    have := congrArg (fun b : ByteArray => b.data.toList) h
    simpa [strOf] using this
  have back : ∀ q : List Nat, (∀ x ∈ q, x < 256) → (q.map UInt8.ofNat).map UInt8.toNat = q := fun q hq => by
    rw [List.map_map]
    conv => rhs; rw [← List.map_id q]
    refine List.map_congr_left fun x hx => ?_
    have := hq x hx
    simp only [Function.comp, id, UInt8.toNat_ofNat']; omega
  rw [← back l hl, ← back m hm, h1]

theorem le_inj (l m : List Nat) (hl : ∀ x ∈ l, x < 256) (hm : ∀ x ∈ m, x < 256) (hn : l.length = m.length) (h : Crc.le l = Crc.le m) : l = m := by
  induction l generalizing m with
  | nil => exact (List.eq_nil_of_length_eq_zero hn.symm).symm
  | cons x r ih =>
    cases m with
    | nil => simp at hn
    | cons y q =>
      simp only [Crc.le] at h
      have hx := hl x (by simp)
      have hy := hm y (by simp)
      have e1 : x = y := by omega
      have e2 : Crc.le r = Crc.le q := by omega
      rw [e1, ih q (fun z hz => hl z (by simp [hz])) (fun z hz => hm z (by simp [hz])) (by simpa using hn) e2]

set_option maxHeartbeats 2000000 in
theorem refopen_any (l : List Nat) (a : Option Addr) (cap : Nat) (w : World) (hr : Rd w a l) (hcap : l.length ≤ cap) :
    Calls Tryd.prog 30 #[.slice a l.length cap] w (RefOpens w l) := by
  rcases Nat.lt_or_ge l.length 4 with h | h
  · exact refopen_short l a cap w h
  obtain ⟨n, hn⟩ : ∃ n, l.length = n + 4 := ⟨l.length - 4, by omega⟩
  have hlen := hr.2.1
  obtain ⟨b, off, rfl, -⟩ := hr.2.2 (by omega)
  have htl : ∀ x ∈ l.take n, x < 256 := fun x hx => hr.1 x (List.mem_of_mem_take hx)
  have hdl : ∀ x ∈ l.drop n, x < 256 := fun x hx => hr.1 x (List.mem_of_mem_drop hx)
  have hsl := Crc.sum_lt _ htl
  have hsum : ∀ W, Below w.heap.size w W → Calls Tryd.prog 39 #[.slice (some ⟨b, off, none⟩) n cap] W fun e w' => e = .returned (.int .u32 (Crc.sum (l.take n) : Nat)) ∧ W = w' := fun W hb => by
    have := refsum_any (l.take n) (some ⟨b, off, none⟩) cap W ((hr.take n).below hb)
    rwa [List.length_take, show min n l.length = n by omega] at this
  have hput : ∀ W, Calls Tryd.prog 27 #[.int .u64 (Crc.sum (l.take n) : Nat), .int .i64 4] W (NewBytes W (put (Crc.sum (l.take n)) 4)) := fun W => refput_any (Crc.sum (l.take n)) 4 W (by omega) (by decide)
  have htail : ∀ W, Below w.heap.size w W → (convert 23 9 (.slice (some ⟨b, off + n, none⟩) 4 (cap - n))).run Tryd.prog W = .ok (.string (strOf (l.drop n))) W := fun W hb => by
    have := conv_str W _ (l.drop n) (cap - n) ((hr.drop n).below hb)
    rwa [List.length_drop, show l.length - n = 4 by omega] at this
  have hstep : ∀ W e w', Below w.heap.size w W → NewBytes W (put (Crc.sum (l.take n)) 4) e w' → ∃ g4 c4, e = .returned (.slice (some ⟨g4, 0, none⟩) 4 c4) ∧ Below w.heap.size w w' ∧
      (convert 23 9 (.slice (some ⟨g4, 0, none⟩) 4 c4)).run Tryd.prog w' = .ok (.string (strOf (put (Crc.sum (l.take n)) 4))) w' := by
    intro W e w' hW ⟨v, he, hown, hb⟩
    obtain ⟨g4, c4, rfl, _, hrd, _⟩ := rd_of_own' (l := put (Crc.sum (l.take n)) 4) hown (put_lt _ 4) (by rw [put_length]; omega) (by rw [put_length]; omega)
    have hc := conv_str w' _ _ c4 hrd
    rw [put_length] at hc he
    exact ⟨g4, c4, he, hW.trans (hb.mono hW.size), hc⟩
  have hval : valid l ↔ strOf (put (Crc.sum (l.take n)) 4) = strOf (l.drop n) := by
    unfold valid
    rw [show l.length - 4 = n by omega]
    constructor
    · intro h'
      refine congrArg strOf (le_inj _ _ (put_lt _ _) hdl (by rw [put_length, List.length_drop]; omega) ?_)
      rw [le_put, h'.2]; exact Nat.mod_eq_of_lt hsl
    · intro h'
      refine ⟨h, ?_⟩
      rw [← strOf_inj (put_lt _ _) hdl h', le_put]; exact Nat.mod_eq_of_lt hsl
  have hrd := fun W (hb : Below w.heap.size w W) => (hr.take n).below hb
  have hb0 : Below w.heap.size w w.drew := below_drewN (Below.refl _ _) 1
  have hc0 := htail w.drew hb0
  generalize strOf (put (Crc.sum (l.take n)) 4) = S1 at hstep hval
  generalize strOf (l.drop n) = S2 at htail hval hc0
  generalize Crc.sum (l.take n) = s at hsum hput hstep hsl
  have HSum := Lib.hid hsum
  have HPut := Lib.hid hput
  have HTail := Lib.hid htail
  have HStep := Lib.hid hstep
  have HV := Lib.hid hval
  have HR := Lib.hid hrd
  have HN := Lib.hid hn
  have hs32 : s < 4294967296 := hsl
  clear hsum hput htail hstep hval hrd hr htl hdl hsl
  rw [hn] at hcap hlen ⊢
  clear hn
  have hwx : IntKind.u64.wrap (s : Int) = (s : Int) := by rw [IntKind.wrap_u64]; omega
  have hnc : (cap = n) = False := by simp; omega
  have hn0 : (0 : Int) ≤ (n : Int) := by omega
  have hn1 : (n : Int) ≤ (n : Int) + 4 := by omega
  have hn2 : (n : Int) ≤ (cap : Int) := by omega
  have hres : ∀ W, Below w.heap.size w W → Rd W (some ⟨b, off, none⟩) (l.take (l.length - 4)) := fun W hb => by
    rw [show l.length - 4 = n by rw [HN.out]; omega]; exact HR.out W hb
  have HRes := Lib.hid hres
  clear hres HR
  by_cases hxy : S1 = S2
  · have hb : (S1.toList == S2.toList) = true := by rw [hxy]; simp
    have HX := Lib.hid hxy
    clear hxy
    go_enter Tryd.func30, Tryd.ntmps30
    go_wp2_with fail
    go_region_held (fun W => (convert 23 9 (.slice (some ⟨b, off + n, none⟩) 4 (cap - n))).run Tryd.prog W = .ok (.string S2) W) (first | exact hc0 | exact hc4) (first | (go_at_call 39; ((with_reducible refine (HSum.out _ hb0).mono ?_); rintro e w5 ⟨rfl, rfl⟩)) | (go_at_call 27; ((with_reducible refine (HPut.out _).mono ?_); intro e w4 hnb; obtain ⟨g4, c4, rfl, hb4, hcv4⟩ := HStep.out _ _ _ hb0 hnb; have hc4 := HTail.out _ hb4; clear hnb)))
    go_wp2
    go_ret2
    exact ⟨hb4, .inr (.inr ⟨HV.out.2 HX.out, some ⟨b, off, none⟩, cap, by rw [HN.out]; rfl, by rw [HN.out]; omega, HRes.out _ hb4⟩)⟩
  · have hb : (S1.toList == S2.toList) = false := by
      rw [beq_eq_false_iff_ne]
      exact fun e => hxy (ByteArray.ext (Array.toList_inj.mp (by rw [ByteArray.toList_eq, ByteArray.toList_eq] at e; exact e)))
    have HX := Lib.hid hxy
    clear hxy
    go_enter Tryd.func30, Tryd.ntmps30
    go_wp2_with fail
    go_region_held (fun W => (convert 23 9 (.slice (some ⟨b, off + n, none⟩) 4 (cap - n))).run Tryd.prog W = .ok (.string S2) W) (first | exact hc0 | exact hc4) (first | (go_at_call 39; ((with_reducible refine (HSum.out _ hb0).mono ?_); rintro e w5 ⟨rfl, rfl⟩)) | (go_at_call 27; ((with_reducible refine (HPut.out _).mono ?_); intro e w4 hnb; obtain ⟨g4, c4, rfl, hb4, hcv4⟩ := HStep.out _ _ _ hb0 hnb; have hc4 := HTail.out _ hb4; clear hnb)))
    go_wp2
    go_ret2
    exact ⟨hb4, .inr (.inl ⟨h, fun hv => HX.out (HV.out.1 hv), rfl⟩)⟩
end Go.Proofs.YtopmljbemogcoaaDoor
