/- The walk of the law SheetBack. -/
import Derived.Test.YtkapnpcolmhdbaaDoorRefLay
namespace Drawbar.Sheet
open Go.Proofs.YtkapnpcolmhdbaaDoor
set_option maxRecDepth 100000 in
theorem page_take95 {s : Sh} (hl : s.da.length ≤ 64) : (page s).take 95 = body s ++ put (Crc.sum (body s)) 4 := by
  unfold page
  have h : (body s ++ put (Crc.sum (body s)) 4).length = 95 := by rw [List.length_append, body_length s hl, put_length]
  rw [← h, List.take_left]
set_option maxRecDepth 100000 in
theorem page_take91 {s : Sh} (hl : s.da.length ≤ 64) : (page s).take 91 = body s := by
  unfold page
  rw [List.append_assoc, ← body_length s hl, List.take_left]
set_option maxRecDepth 100000 in
theorem page_last {s : Sh} (hl : s.da.length ≤ 64) : (page s).getD 95 0 = 90 := by
  unfold page
  have h : (body s ++ put (Crc.sum (body s)) 4).length = 95 := by rw [List.length_append, body_length s hl, put_length]
  rw [List.getD_eq_getElem?_getD, List.getElem?_append_right (by omega), h]
  rfl
set_option maxRecDepth 100000 in
theorem valid_sealed (b : List Nat) (hb : ∀ x ∈ b, x < 256) : valid (b ++ put (Crc.sum b) 4) := by
  have h : (b ++ put (Crc.sum b) 4).length - 4 = b.length := by rw [List.length_append, put_length]; omega
  refine ⟨by rw [List.length_append, put_length]; omega, ?_⟩
  rw [h, List.drop_left, List.take_left, le_put, Nat.mod_eq_of_lt (by have := Crc.sum_lt b hb; omega)]
set_option maxRecDepth 100000 in
/-- What was laid is read. -/
theorem read_page {s : Sh} (hf : fm s = true) (hd : ∀ x ∈ s.da, x < 256) : readS (page s) = (s, 0) := by
  have hl := fm_len hf
  unfold readS
  rw [if_pos ⟨page_length s hl, page_last hl⟩, page_take95 hl, page_take91 hl, if_pos (valid_sealed _ (body_lt s hd)), parts_back hf, if_pos ⟨hf, rfl⟩]
end Drawbar.Sheet
namespace Go.Proofs.YtkapnpcolmhdbaaDoor
open Go.RowKit
open Drawbar Drawbar.Sheet

end Go.Proofs.YtkapnpcolmhdbaaDoor
