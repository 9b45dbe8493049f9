/- The contract of octet.Sum: it returns CRC-32 of the bytes that it is handed, and leaves the world as it is; the table of nibbles is a hypothesis. -/
import Derived.Test.YtopmljbemogcoaaDoorProg
import Derived.Test.YtopmljbemogcoaaDoorCrc
import Derived.WalkKit
import Derived.Handy
import Derived.Lib.Hide
namespace Go.Proofs.YtopmljbemogcoaaDoor
open Go.RowKit
open Drawbar

/-- The slice value v reads as these bytes in w. -/
def Rd (w : World) (a : Option Addr) (l : List Nat) : Prop :=
  (∀ x ∈ l, x < 256) ∧ l.length ≤ 140737488351232 ∧ (0 < l.length → ∃ b off, a = some ⟨b, off, none⟩ ∧ ∀ i, i < l.length → w.cell? ⟨b, off + i, none⟩ = some (.int .u8 (l.getD i 0 : Nat)))

def Tab (w : World) : Prop := ∀ i, i < 16 → w.cell? ⟨0, i, none⟩ = some (.int .u32 (Crc.nib.getD i 0 : Nat))

theorem getD_mem (l : List Nat) (k : Nat) (h : k < l.length) : l.getD k 0 ∈ l := by
  rw [List.getD_eq_getElem?_getD, List.getElem?_eq_getElem h]; exact List.getElem_mem h
theorem take_getD (l : List Nat) (k : Nat) (h : k < l.length) : l.take (k + 1) = l.take k ++ [l.getD k 0] := by
  rw [List.take_succ_eq_append_getElem h, List.getD_eq_getElem?_getD, List.getElem?_eq_getElem h]; rfl
theorem ret_int {k : IntKind} {a b : Int} (h : a = b) : Ending.returned (.int k a) = .returned (.int k b) := by rw [h]
theorem u32_not (x : Nat) (h : x < 2 ^ 32) : bits .xor .u32 IntKind.u32.max (x : Int) = ((x ^^^ Crc.full : Nat) : Int) := by
  rw [show (IntKind.u32.max : Int) = ((4294967295 : Nat) : Int) by decide, u32_xor_nat _ _ (by omega) (by omega), Nat.xor_comm]; rfl
/-- One nibble. -/
theorem nib_go (x : Nat) (h : x < 2 ^ 32) : bits .and .u32 (x : Int) 15 = ((x % 16 : Nat) : Int) ∧ bits .xor .u32 ((x : Int) / 16) ((Crc.nib.getD (x % 16) 0 : Nat) : Int) = ((Crc.stepN 4 x : Nat) : Int) ∧ Crc.stepN 4 x < 2 ^ 32 := by
  refine ⟨?_, ?_, Crc.stepN_lt 4 h⟩
  · rw [u32_and _ _ (by omega) (by omega) (by omega) (by omega)]; simp [nat_mask4]
  · have hn : Crc.nib.getD (x % 16) 0 < 4294967296 := by
      rw [← Crc.nib_eq _ (by omega)]; exact Crc.stepN_lt 4 (by omega)
    rw [show (x : Int) / 16 = ((x / 16 : Nat) : Int) by omega, u32_xor_nat _ _ (by omega) hn, Crc.nib_step]

theorem sum_any (l : List Nat) (a : Option Addr) (cap : Nat) (w : World) (hr : Rd w a l) (hT : Tab w) :
    Calls Tryd.prog 33 #[.slice a l.length cap] w fun e w' => e = .returned (.int .u32 (Crc.sum l : Nat)) ∧ w = w' := by
  obtain ⟨hl, hlen, hc⟩ := hr
  go_enter Tryd.func33, Tryd.ntmps33
  go_wp2
  go_loop [3, 8] (fun c i => ∃ k : Nat, k ≤ l.length ∧ i = .int .i64 k ∧ c = .int .u32 (Crc.crc Crc.full (l.take k) : Nat)) (fun _ i => l.length - (intOf i).toNat)
  case atStart => exact ⟨0, Nat.zero_le _, rfl, rfl⟩
  case round =>
    obtain ⟨k, hk, rfl, rfl⟩ := hrel
    by_cases hlt : k < l.length
    · obtain ⟨b, off, rfl, hcell⟩ := hc (by omega)
      have h1 := hcell k hlt
      have hb : l.getD k 0 < 256 := hl _ (getD_mem l k hlt)
      have hc0 : Crc.crc Crc.full (l.take k) < 2 ^ 32 := Crc.crc_lt _ (fun x hx => hl x (List.mem_of_mem_take hx)) (by unfold Crc.full; omega)
      have hfin : Crc.crc Crc.full (l.take (k + 1)) = Crc.stepN 4 (Crc.stepN 4 (Crc.crc Crc.full (l.take k) ^^^ l.getD k 0)) := by
        rw [take_getD l k hlt, Crc.crc_append, ← Crc.stepN_add]; rfl
      clear hcell hc
      generalize l.getD k 0 = b0 at h1 hb hfin
      generalize Crc.crc Crc.full (l.take k) = c0 at hc0 hfin
      have hx := u32_xor_nat c0 b0 (by omega) (by omega)
      have hx0 : c0 ^^^ b0 < 2 ^ 32 := Nat.xor_lt_two_pow hc0 (by omega)
      generalize c0 ^^^ b0 = x at hx hx0 hfin
      obtain ⟨ha, hy, hy0⟩ := nib_go x hx0
      generalize Crc.stepN 4 x = y at hy hy0 hfin
      obtain ⟨hb2, hz, hz0⟩ := nib_go y hy0
      generalize Crc.stepN 4 y = z at hz hz0 hfin
      have ht := hT (x % 16) (by omega)
      have ht2 := hT (y % 16) (by omega)
      generalize Crc.nib.getD (x % 16) 0 = n1 at ht hy
      generalize Crc.nib.getD (y % 16) 0 = n2 at ht2 hz
      have HF := Lib.hid hfin
      clear hfin
      go_wp2
      go_round
      case rel => exact ⟨k + 1, by omega, by go_num, by rw [HF.out]⟩
      case measure => simp [intOf]; omega
    · have hkl : k = l.length := by omega
      clear hc hT
      have H := Lib.hid hkl
      clear hkl
      have hc0 : Crc.crc Crc.full (l.take k) < 2 ^ 32 := Crc.crc_lt _ (fun x hx => hl x (List.mem_of_mem_take hx)) (by unfold Crc.full; omega)

      go_wp2
      go_ret
      exact ⟨ret_int (by rw [u32_not _ hc0, H.out, List.take_length]; rfl), rfl⟩
end Go.Proofs.YtopmljbemogcoaaDoor
