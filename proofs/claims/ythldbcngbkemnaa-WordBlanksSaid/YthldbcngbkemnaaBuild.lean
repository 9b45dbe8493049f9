/- The contract of (*strings.Replacer).build over the eight texts. -/
import Derived.Test.YthldbcngbkemnaaUpTo
import Derived.Deep.WholeRow
import Derived.Deep.CutRange
import Derived.Laws.BytesString
namespace Go.Proofs.Ythldbcngbkemnaa
open Go.RowKit
open Drawbar Drawbar.Esc

/-- The old and the new texts, in pairs. -/
def pairs : List ByteArray := [⟨#[34]⟩, ⟨#[92, 34]⟩, ⟨#[92]⟩, ⟨#[92, 92]⟩, ⟨#[10]⟩, ⟨#[92, 110]⟩, ⟨#[9]⟩, ⟨#[92, 116]⟩]
theorem zero_all : Try.zeroCells87 = ⟨List.replicate 257 (.slice none 0 0)⟩ := by kernel_rfl

set_option maxRecDepth 1000000 in
set_option maxHeartbeats 4000000 in
theorem build_any (b g off cap : Nat) (W : World) (ho : W.cell? ⟨b, 4, none⟩ = some (.slice (some ⟨g, off, none⟩) 8 cap))
    (hc : ∀ i, i < 8 → W.cell? ⟨g, off + i, none⟩ = some (.string (pairs.getD i ⟨#[]⟩))) :
    Calls Try.prog 36 #[.pointer (some ⟨b, 0, none⟩)] W fun e w' => ∃ rb, e = .returned (.iface 88 (.pointer (some ⟨rb, 0, none⟩))) ∧ RepAt w' rb ∧ Below W.heap.size W w' := by
  have c0 : W.cell? ⟨g, off, none⟩ = some (.string ⟨#[34]⟩) := hc 0 (by omega)
  have c1 : W.cell? ⟨g, off + 1, none⟩ = some (.string ⟨#[92, 34]⟩) := hc 1 (by omega)
  have c2 : W.cell? ⟨g, off + 2, none⟩ = some (.string ⟨#[92]⟩) := hc 2 (by omega)
  have c3 : W.cell? ⟨g, off + 3, none⟩ = some (.string ⟨#[92, 92]⟩) := hc 3 (by omega)
  have c4 : W.cell? ⟨g, off + 4, none⟩ = some (.string ⟨#[10]⟩) := hc 4 (by omega)
  have c5 : W.cell? ⟨g, off + 5, none⟩ = some (.string ⟨#[92, 110]⟩) := hc 5 (by omega)
  have c6 : W.cell? ⟨g, off + 6, none⟩ = some (.string ⟨#[9]⟩) := hc 6 (by omega)
  have c7 : W.cell? ⟨g, off + 7, none⟩ = some (.string ⟨#[92, 116]⟩) := hc 7 (by omega)
  have hmk : ∀ w : World, (Instr.makeSlice 22 (.int .i64 0) (.int .i64 4)).run Try.prog w = .ok (.slice (some ⟨w.heap.size, 0, none⟩) 0 4) (w.alloc (.cells (madeCells #[.string ⟨#[]⟩] 4) 9)) := fun w => by
    obtain ⟨i0, hi0, hz0, hz1, hz2⟩ := info_parts info_str
    have := run_make (P := Try.prog) w 22 9 i0 (.string ⟨#[]⟩) Try.underlying22 hi0 hz0 .i64 .i64 0 4 (by omega) (by omega) (by rw [hz2]; decide) (by omega)
    rw [hz1] at this
    exact this
  have hsz1 : (W.alloc (.cells (madeCells #[.string ⟨#[]⟩] 4) 9)).heap.size = W.heap.size + 1 := by simp
  obtain ⟨C1, hC1⟩ : ∃ C1 : Array Value, C1 = ⟨(List.replicate 257 (.slice none 0 0)).set 256 (.slice (some ⟨W.heap.size, 0, none⟩) 0 4)⟩ := ⟨_, rfl⟩
  have hst : (storeCells ⟨W.heap.size + 1, 0, none⟩ (Try.zeroCells87.toList.set 256 (.slice (some ⟨W.heap.size, 0, none⟩) 0 4)) 0).run Try.prog ((W.alloc (.cells (madeCells #[.string ⟨#[]⟩] 4) 9)).alloc (.cells Try.zeroCells87 87)) = .ok () ((W.alloc (.cells (madeCells #[.string ⟨#[]⟩] 4) 9)).alloc (.cells C1 87)) := by
    have h := run_storeCells_new (P := Try.prog) (W.alloc (.cells (madeCells #[.string ⟨#[]⟩] 4) 9)) 87 Try.zeroCells87 ⟨(List.replicate 257 (.slice none 0 0)).set 256 (.slice (some ⟨W.heap.size, 0, none⟩) 0 4)⟩
      (by rw [List.size_toArray, List.length_set, List.length_replicate]; kernel_rfl) (by rw [zero_all]; simp) (by
        simp only [Array.all_eq_true', List.mem_toArray]
        intro x hx
        rcases List.mem_or_eq_of_mem_set hx with h | rfl
        · rw [List.eq_of_mem_replicate h]; rfl
        · rfl)
    rw [hsz1] at h
    rw [hC1, zero_all]
    rw [zero_all] at h
    exact h
  have HC1 := Lib.hid hC1
  clear hC1
  clear hc
  go_enter Try.func36, Try.ntmps36
  go_wp2
  go_loop [4, 5] (fun a i => (a = .bool true ∧ i = .int .i64 0) ∨ (a = .bool false ∧ (i = .int .i64 2 ∨ i = .int .i64 4 ∨ i = .int .i64 6 ∨ i = .int .i64 8))) (fun _ i => 8 - (intOf i).toNat)
  case atStart => exact .inl ⟨rfl, rfl⟩
  case round =>
    rcases hrel with ⟨rfl, rfl⟩ | ⟨rfl, rfl | rfl | rfl | rfl⟩
    · clear hmk hst
      go_wp2
      go_round
      case rel => exact .inr ⟨rfl, .inl rfl⟩
      case measure => simp [intOf]
    · clear hmk hst
      go_wp2
      go_round
      case rel => exact .inr ⟨rfl, .inr (.inl rfl)⟩
      case measure => simp [intOf]
    · clear hmk hst
      go_wp2
      go_round
      case rel => exact .inr ⟨rfl, .inr (.inr (.inl rfl))⟩
      case measure => simp [intOf]
    · clear hmk hst
      go_wp2
      go_round
      case rel => exact .inr ⟨rfl, .inr (.inr (.inr rfl))⟩
      case measure => simp [intOf]
    · go_upto_region 27 with fail
      have hA : Below W.heap.size W ((W.alloc (.cells (madeCells #[.string ⟨#[]⟩] 4) 9)).alloc (.cells C1 87)) := ((Below.refl _ _).alloc (Nat.le_refl _) _).alloc (Nat.le_of_lt (by simp)) _
      have hrow := heap_alloc_new W (.cells (madeCells #[.string ⟨#[]⟩] 4) 9)
      have hnew := heap_alloc_new (W.alloc (.cells (madeCells #[.string ⟨#[]⟩] 4) 9)) (.cells C1 87)
      have hrow2 : ((W.alloc (.cells (madeCells #[.string ⟨#[]⟩] 4) 9)).alloc (.cells C1 87)).heap[W.heap.size]? = some (.cells (madeCells #[.string ⟨#[]⟩] 4) 9) :=
        (((Below.refl (W.alloc (.cells (madeCells #[.string ⟨#[]⟩] 4) 9)).heap.size (W.alloc (.cells (madeCells #[.string ⟨#[]⟩] 4) 9))).alloc (Nat.le_refl _) (.cells C1 87)).block _ (by simp)).trans hrow
      rw [hsz1] at hnew
      generalize (W.alloc (.cells (madeCells #[.string ⟨#[]⟩] 4) 9)).alloc (.cells C1 87) = w0 at *
      obtain ⟨rb, hrb⟩ : ∃ rb, rb = W.heap.size + 1 := ⟨_, rfl⟩
      rw [← hrb] at hnew ⊢
      have hU : UpTo W w0 rb [] [] := by
        refine ⟨hA, by omega, (fun c hc => by cases hc), C1, .slice (some ⟨W.heap.size, 0, none⟩) 0 4, hnew, by rw [HC1.out]; simp, fun c hc _ => ?_, by rw [HC1.out]; simp, ⟨rfl, .inr ⟨W.heap.size, 4, madeCells #[.string ⟨#[]⟩] 4, rfl, Nat.zero_le _, hrow2, Nat.zero_le _, by decide, by simp [madeCells], rfl⟩⟩, fun d hd => ?_, (fun c hc => by cases hc)⟩
        · rw [HC1.out]
          rw [List.getElem?_toArray, List.getElem?_set_ne (by omega), List.getElem?_replicate, if_pos (by omega)]
        · have hd' : W.heap.size = d := Option.some.inj hd
          exact ⟨by omega, by omega⟩
      have HRB := Lib.hid hrb
      have hb2s : ∀ W' : World, ∀ x : Nat, (convert 9 23 (.string ⟨#[92, UInt8.ofNat x]⟩)).run Try.prog W' = .ok (.slice (some ⟨W'.heap.size, 0, none⟩) 2 (grownCap W' 2 0 5)) (Lib.bytesWorld W' 5 ⟨#[92, UInt8.ofNat x]⟩) := fun W' x => Lib.run_convert_string_bytes W' 9 23 5 ⟨#[92, UInt8.ofNat x]⟩ Try.underlying9 Try.underlying23 Try.underlying5
      have HB2S := Lib.hid hb2s
      clear hst hmk hsz1 hA hrow hnew hrow2 hb2s hrb
      go_wp2
      go_loopw [12] (fun iv wr => (iv = .int .i64 6 ∧ UpTo W wr rb [] []) ∨ (iv = .int .i64 4 ∧ UpTo W wr rb [9] [.string ⟨#[9]⟩]) ∨ (iv = .int .i64 2 ∧ UpTo W wr rb [9, 10] [.string ⟨#[9]⟩, .string ⟨#[10]⟩]) ∨ (iv = .int .i64 0 ∧ UpTo W wr rb [9, 10, 92] [.string ⟨#[9]⟩, .string ⟨#[10]⟩, .string ⟨#[92]⟩]) ∨ (iv = .int .i64 (-2) ∧ UpTo W wr rb [9, 10, 92, 34] [.string ⟨#[9]⟩, .string ⟨#[10]⟩, .string ⟨#[92]⟩, .string ⟨#[34]⟩])) (fun iv _ => (intOf iv + 2).toNat)
      case atStart => exact .inl ⟨rfl, hU⟩
      case round =>
        rcases hrel with ⟨rfl, hU⟩ | ⟨rfl, hU⟩ | ⟨rfl, hU⟩ | ⟨rfl, hU⟩ | ⟨rfl, hU⟩
        · have HU := Lib.hid hU
          have d0 := (hU.below.cell (p := ⟨g, off + 6, none⟩) (World.block_lt_of_cell? W _ c6)).trans c6
          have d1 := (hU.below.cell (p := ⟨g, off + 7, none⟩) (World.block_lt_of_cell? W _ c7)).trans c7
          obtain ⟨-, hlo, -, cs, v, r1, r2, r3, r4, r5, r6, -⟩ := hU
          have q0 : wr.cell? ⟨rb, 9, none⟩ = some (.slice none 0 0) := cell_blk2 r1 9 _ (r3 9 (by omega) (by decide))
          have q1 : wr.cell? ⟨rb, 256, none⟩ = some v := cell_blk2 r1 256 _ r4
          have hrw := lt_block r1
          have heq := Lib.run_eql_slice_nil (P := Try.prog) wr 23 5 none 0 0 0 0 Try.underlying23
          have hix : ((⟨#[9]⟩ : ByteArray)[0]'(by decide)).toNat = 9 := rfl
          obtain ⟨wA, hwA⟩ : ∃ wA, wA = wr.alloc (.cells #[.int .u8 9] 5) := ⟨_, rfl⟩
          obtain ⟨wB, hwB⟩ : ∃ wB, wB = wA.alloc (.cells #[.string ⟨#[9]⟩] 9) := ⟨_, rfl⟩
          have bA : Below wr.heap.size wr wA := hwA ▸ (Below.refl _ _).alloc (Nat.le_refl _) _
          have sA : wA.heap.size = wr.heap.size + 1 := by rw [hwA]; simp
          have bB : Below wr.heap.size wr wB := bA.trans (hwB ▸ (Below.refl _ _).alloc bA.size _)
          have kA : wA.heap[wr.heap.size]? = some (.cells #[.int .u8 9] 5) := hwA ▸ heap_alloc_new wr _
          have kB : wB.heap[wr.heap.size + 1]? = some (.cells #[.string ⟨#[9]⟩] 9) := by
            have h := heap_alloc_new wA (.cells #[.string ⟨#[9]⟩] 9)
            rw [sA] at h
            exact hwB ▸ h
          have hcv : (convert 23 9 (.slice (some ⟨wr.heap.size, 0, none⟩) 1 1)).run Try.prog (wr.alloc (.cells #[.int .u8 9] 5)) = .ok (.string ⟨#[9]⟩) (wr.alloc (.cells #[.int .u8 9] 5)) := by
            rw [hwA] at kA
            exact conv_str (wr.alloc (.cells #[.int .u8 9] 5)) (some ⟨wr.heap.size, 0, none⟩) [9] 1 ⟨by simp, by simp, fun _ => ⟨wr.heap.size, 0, rfl, fun t ht => by
              have h0 : t = 0 := by simp at ht; exact ht
              subst h0
              exact cell_blk2 kA 0 _ rfl⟩⟩
          have HROW := Lib.hid (owns_keep r5 fun d hd => bB.block d (r5.lt d hd).2)
          have HKB := Lib.hid kB
          have HR1 := Lib.hid ((bB.block rb hrw).trans r1)
          have HR4 := Lib.hid r4
          have HR6 := Lib.hid r6
          have HR0 := Lib.hid (r3 9 (by omega) (by decide))
          have HBB := Lib.hid bB
          have HSA := Lib.hid sA
          have HSB := Lib.hid (show wB.heap.size = wr.heap.size + 1 + 1 by rw [hwB]; simp [sA])
          obtain ⟨i0, hi0, hz0, hz1, hz2⟩ := info_parts info_str
          have HWW := Lib.hid (show wB = (wr.alloc (.cells #[.int .u8 9] 5)).alloc (.cells #[.string ⟨#[9]⟩] 9) by rw [hwB, hwA])
          have HQ1 := Lib.hid q1
          clear hwB hwA r1 r2 r3 r4 r5 r6 kA kB bB bA sA
          go_upto_region 33 with fail
          go_wp2_with (refine wpList_append_row rfl _ _ 22 rfl 9 i0 (.string ⟨#[]⟩) 1 16 Try.underlying22 hi0 hz0 hz1 hz2 rfl (by decide) v 0 [] rfl ?hrow ⟨wr.heap.size + 1, 0, none⟩ 1 1 [.string ⟨#[9]⟩] rfl rfl ?hcell (by simp [Value.oneCell']) (by decide) (by decide) ?_)
          case hrow => exact HWW.out ▸ HROW.out
          case hcell =>
            intro t u ht
            have h0 : t = 0 := by
              have := (List.getElem?_eq_some_iff.1 ht).1
              simp at this; exact this
            subst h0
            simp at ht
            subst ht
            rw [← HWW.out]
            exact cell_blk2 HKB.out 0 _ rfl
          intro v' wC k1 k2 k3
          obtain ⟨tg, tcap, hv'⟩ : ∃ tg tcap, v' = .slice (some ⟨tg, 0, none⟩) 1 tcap := by
            rcases k1.2 with ⟨_, h0⟩ | ⟨tg, tcap, tcur, h0, -⟩
            · omega
            · exact ⟨tg, tcap, h0⟩
          subst hv'
          have K2 := Lib.hid (show wB.grownBy wC v.ownBlock from HWW.out ▸ k2)
          have K3 := Lib.hid (show ∀ d, (Value.slice (some ⟨tg, 0, none⟩) 1 tcap).ownBlock = some d → v.ownBlock = some d ∨ wB.heap.size ≤ d from fun d hd => (k3 d hd).imp id (fun h => by rw [HSB.out]; exact h))
          have K1 := Lib.hid k1
          have hsB := HBB.out.size
          have hrC := (K2.out.block rb (by omega) (fun e => (HR6.out rb e.symm).1 rfl)).trans HR1.out
          have q256 := cell_blk2 hrC 256 _ HR4.out
          have f256 := frozen_row hrC 256
          have hrD := set_cells hrC 256 (.slice (some ⟨tg, 0, none⟩) 1 tcap)
          obtain ⟨wE, hwE⟩ : ∃ wE, wE = Lib.bytesWorld (wC.setCell ⟨rb, 256, none⟩ (.slice (some ⟨tg, 0, none⟩) 1 tcap)) 5 ⟨#[92, 116]⟩ := ⟨_, rfl⟩
          obtain ⟨cp, hcp⟩ : ∃ cp, cp = grownCap (wC.setCell ⟨rb, 256, none⟩ (.slice (some ⟨tg, 0, none⟩) 1 tcap)) 2 0 5 := ⟨_, rfl⟩
          have hsD : (wC.setCell ⟨rb, 256, none⟩ (.slice (some ⟨tg, 0, none⟩) 1 tcap)).heap.size = wC.heap.size := by simp [World.setCell]
          have hcvb : (convert 9 23 (.string ⟨#[92, 116]⟩)).run Try.prog (wC.setCell ⟨rb, 256, none⟩ (.slice (some ⟨tg, 0, none⟩) 1 tcap)) = .ok (.slice (some ⟨wC.heap.size, 0, none⟩) 2 cp) wE := by
            have h := HB2S.out (wC.setCell ⟨rb, 256, none⟩ (.slice (some ⟨tg, 0, none⟩) 1 tcap)) 116
            rw [hsD] at h
            rw [hwE, hcp]
            exact h
          have hE : Below wC.heap.size (wC.setCell ⟨rb, 256, none⟩ (.slice (some ⟨tg, 0, none⟩) 1 tcap)) wE := by
            rw [hwE]
            exact ⟨rfl, rfl, rfl, by rw [Lib.bytesWorld_size]; omega, fun k hk => Lib.bytesWorld_at_old _ _ _ k (by rw [hsD]; exact hk)⟩
          have e0 : wE.cell? ⟨wC.heap.size, 0, none⟩ = some (.int .u8 92) := by
            have h := Lib.bytesWorld_cell (wC.setCell ⟨rb, 256, none⟩ (.slice (some ⟨tg, 0, none⟩) 1 tcap)) 5 ⟨#[92, 116]⟩ 0 (by decide)
            rw [hsD] at h
            rw [hwE]; exact h
          have e1 : wE.cell? ⟨wC.heap.size, 1, none⟩ = some (.int .u8 ((snd 9 : Nat) : Int)) := by
            have h := Lib.bytesWorld_cell (wC.setCell ⟨rb, 256, none⟩ (.slice (some ⟨tg, 0, none⟩) 1 tcap)) 5 ⟨#[92, 116]⟩ 1 (by decide)
            rw [hsD] at h
            rw [hwE]; exact h
          have hrE := (hE.block rb (by have := lt_block hrC; omega)).trans hrD
          have qc := cell_blk2 hrE 9 (.slice none 0 0) (by rw [Array.getElem?_setIfInBounds_ne (by omega)]; exact HR0.out)
          have fc := frozen_row hrE 9
          have HST := Lib.hid (HU.out.step (c := 9) (cp := cp) (by omega) (by decide) HQ1.out HBB.out K1.out K2.out K3.out hE e0 e1)
          clear k1 k2 k3 hrC hrD hrE hE e0 e1 hwE hcp
          go_wp2
          go_roundw
          case rel => exact .inr (.inl ⟨rfl, HST.out⟩)
          case measure => simp [intOf]
        · have HU := Lib.hid hU
          have d0 := (hU.below.cell (p := ⟨g, off + 4, none⟩) (World.block_lt_of_cell? W _ c4)).trans c4
          have d1 := (hU.below.cell (p := ⟨g, off + 5, none⟩) (World.block_lt_of_cell? W _ c5)).trans c5
          obtain ⟨-, hlo, -, cs, v, r1, r2, r3, r4, r5, r6, -⟩ := hU
          have q0 : wr.cell? ⟨rb, 10, none⟩ = some (.slice none 0 0) := cell_blk2 r1 10 _ (r3 10 (by omega) (by decide))
          have q1 : wr.cell? ⟨rb, 256, none⟩ = some v := cell_blk2 r1 256 _ r4
          have hrw := lt_block r1
          have heq := Lib.run_eql_slice_nil (P := Try.prog) wr 23 5 none 0 0 0 0 Try.underlying23
          have hix : ((⟨#[10]⟩ : ByteArray)[0]'(by decide)).toNat = 10 := rfl
          obtain ⟨wA, hwA⟩ : ∃ wA, wA = wr.alloc (.cells #[.int .u8 10] 5) := ⟨_, rfl⟩
          obtain ⟨wB, hwB⟩ : ∃ wB, wB = wA.alloc (.cells #[.string ⟨#[10]⟩] 9) := ⟨_, rfl⟩
          have bA : Below wr.heap.size wr wA := hwA ▸ (Below.refl _ _).alloc (Nat.le_refl _) _
          have sA : wA.heap.size = wr.heap.size + 1 := by rw [hwA]; simp
          have bB : Below wr.heap.size wr wB := bA.trans (hwB ▸ (Below.refl _ _).alloc bA.size _)
          have kA : wA.heap[wr.heap.size]? = some (.cells #[.int .u8 10] 5) := hwA ▸ heap_alloc_new wr _
          have kB : wB.heap[wr.heap.size + 1]? = some (.cells #[.string ⟨#[10]⟩] 9) := by
            have h := heap_alloc_new wA (.cells #[.string ⟨#[10]⟩] 9)
            rw [sA] at h
            exact hwB ▸ h
          have hcv : (convert 23 9 (.slice (some ⟨wr.heap.size, 0, none⟩) 1 1)).run Try.prog (wr.alloc (.cells #[.int .u8 10] 5)) = .ok (.string ⟨#[10]⟩) (wr.alloc (.cells #[.int .u8 10] 5)) := by
            rw [hwA] at kA
            exact conv_str (wr.alloc (.cells #[.int .u8 10] 5)) (some ⟨wr.heap.size, 0, none⟩) [10] 1 ⟨by simp, by simp, fun _ => ⟨wr.heap.size, 0, rfl, fun t ht => by
              have h0 : t = 0 := by simp at ht; exact ht
              subst h0
              exact cell_blk2 kA 0 _ rfl⟩⟩
          have HROW := Lib.hid (owns_keep r5 fun d hd => bB.block d (r5.lt d hd).2)
          have HKB := Lib.hid kB
          have HR1 := Lib.hid ((bB.block rb hrw).trans r1)
          have HR4 := Lib.hid r4
          have HR6 := Lib.hid r6
          have HR0 := Lib.hid (r3 10 (by omega) (by decide))
          have HBB := Lib.hid bB
          have HSA := Lib.hid sA
          have HSB := Lib.hid (show wB.heap.size = wr.heap.size + 1 + 1 by rw [hwB]; simp [sA])
          obtain ⟨i0, hi0, hz0, hz1, hz2⟩ := info_parts info_str
          have HWW := Lib.hid (show wB = (wr.alloc (.cells #[.int .u8 10] 5)).alloc (.cells #[.string ⟨#[10]⟩] 9) by rw [hwB, hwA])
          have HQ1 := Lib.hid q1
          clear hwB hwA r1 r2 r3 r4 r5 r6 kA kB bB bA sA
          go_upto_region 33 with fail
          go_wp2_with (refine wpList_append_row rfl _ _ 22 rfl 9 i0 (.string ⟨#[]⟩) 1 16 Try.underlying22 hi0 hz0 hz1 hz2 rfl (by decide) v 1 [.string ⟨#[9]⟩] rfl ?hrow ⟨wr.heap.size + 1, 0, none⟩ 1 1 [.string ⟨#[10]⟩] rfl rfl ?hcell (by simp [Value.oneCell']) (by decide) (by decide) ?_)
          case hrow => exact HWW.out ▸ HROW.out
          case hcell =>
            intro t u ht
            have h0 : t = 0 := by
              have := (List.getElem?_eq_some_iff.1 ht).1
              simp at this; exact this
            subst h0
            simp at ht
            subst ht
            rw [← HWW.out]
            exact cell_blk2 HKB.out 0 _ rfl
          intro v' wC k1 k2 k3
          obtain ⟨tg, tcap, hv'⟩ : ∃ tg tcap, v' = .slice (some ⟨tg, 0, none⟩) 2 tcap := by
            rcases k1.2 with ⟨_, h0⟩ | ⟨tg, tcap, tcur, h0, -⟩
            · omega
            · exact ⟨tg, tcap, h0⟩
          subst hv'
          have K2 := Lib.hid (show wB.grownBy wC v.ownBlock from HWW.out ▸ k2)
          have K3 := Lib.hid (show ∀ d, (Value.slice (some ⟨tg, 0, none⟩) 2 tcap).ownBlock = some d → v.ownBlock = some d ∨ wB.heap.size ≤ d from fun d hd => (k3 d hd).imp id (fun h => by rw [HSB.out]; exact h))
          have K1 := Lib.hid k1
          have hsB := HBB.out.size
          have hrC := (K2.out.block rb (by omega) (fun e => (HR6.out rb e.symm).1 rfl)).trans HR1.out
          have q256 := cell_blk2 hrC 256 _ HR4.out
          have f256 := frozen_row hrC 256
          have hrD := set_cells hrC 256 (.slice (some ⟨tg, 0, none⟩) 2 tcap)
          obtain ⟨wE, hwE⟩ : ∃ wE, wE = Lib.bytesWorld (wC.setCell ⟨rb, 256, none⟩ (.slice (some ⟨tg, 0, none⟩) 2 tcap)) 5 ⟨#[92, 110]⟩ := ⟨_, rfl⟩
          obtain ⟨cp, hcp⟩ : ∃ cp, cp = grownCap (wC.setCell ⟨rb, 256, none⟩ (.slice (some ⟨tg, 0, none⟩) 2 tcap)) 2 0 5 := ⟨_, rfl⟩
          have hsD : (wC.setCell ⟨rb, 256, none⟩ (.slice (some ⟨tg, 0, none⟩) 2 tcap)).heap.size = wC.heap.size := by simp [World.setCell]
          have hcvb : (convert 9 23 (.string ⟨#[92, 110]⟩)).run Try.prog (wC.setCell ⟨rb, 256, none⟩ (.slice (some ⟨tg, 0, none⟩) 2 tcap)) = .ok (.slice (some ⟨wC.heap.size, 0, none⟩) 2 cp) wE := by
            have h := HB2S.out (wC.setCell ⟨rb, 256, none⟩ (.slice (some ⟨tg, 0, none⟩) 2 tcap)) 110
            rw [hsD] at h
            rw [hwE, hcp]
            exact h
          have hE : Below wC.heap.size (wC.setCell ⟨rb, 256, none⟩ (.slice (some ⟨tg, 0, none⟩) 2 tcap)) wE := by
            rw [hwE]
            exact ⟨rfl, rfl, rfl, by rw [Lib.bytesWorld_size]; omega, fun k hk => Lib.bytesWorld_at_old _ _ _ k (by rw [hsD]; exact hk)⟩
          have e0 : wE.cell? ⟨wC.heap.size, 0, none⟩ = some (.int .u8 92) := by
            have h := Lib.bytesWorld_cell (wC.setCell ⟨rb, 256, none⟩ (.slice (some ⟨tg, 0, none⟩) 2 tcap)) 5 ⟨#[92, 110]⟩ 0 (by decide)
            rw [hsD] at h
            rw [hwE]; exact h
          have e1 : wE.cell? ⟨wC.heap.size, 1, none⟩ = some (.int .u8 ((snd 10 : Nat) : Int)) := by
            have h := Lib.bytesWorld_cell (wC.setCell ⟨rb, 256, none⟩ (.slice (some ⟨tg, 0, none⟩) 2 tcap)) 5 ⟨#[92, 110]⟩ 1 (by decide)
            rw [hsD] at h
            rw [hwE]; exact h
          have hrE := (hE.block rb (by have := lt_block hrC; omega)).trans hrD
          have qc := cell_blk2 hrE 10 (.slice none 0 0) (by rw [Array.getElem?_setIfInBounds_ne (by omega)]; exact HR0.out)
          have fc := frozen_row hrE 10
          have HST := Lib.hid (HU.out.step (c := 10) (cp := cp) (by omega) (by decide) HQ1.out HBB.out K1.out K2.out K3.out hE e0 e1)
          clear k1 k2 k3 hrC hrD hrE hE e0 e1 hwE hcp
          go_wp2
          go_roundw
          case rel => exact .inr (.inr (.inl ⟨rfl, HST.out⟩))
          case measure => simp [intOf]
        · have HU := Lib.hid hU
          have d0 := (hU.below.cell (p := ⟨g, off + 2, none⟩) (World.block_lt_of_cell? W _ c2)).trans c2
          have d1 := (hU.below.cell (p := ⟨g, off + 3, none⟩) (World.block_lt_of_cell? W _ c3)).trans c3
          obtain ⟨-, hlo, -, cs, v, r1, r2, r3, r4, r5, r6, -⟩ := hU
          have q0 : wr.cell? ⟨rb, 92, none⟩ = some (.slice none 0 0) := cell_blk2 r1 92 _ (r3 92 (by omega) (by decide))
          have q1 : wr.cell? ⟨rb, 256, none⟩ = some v := cell_blk2 r1 256 _ r4
          have hrw := lt_block r1
          have heq := Lib.run_eql_slice_nil (P := Try.prog) wr 23 5 none 0 0 0 0 Try.underlying23
          have hix : ((⟨#[92]⟩ : ByteArray)[0]'(by decide)).toNat = 92 := rfl
          obtain ⟨wA, hwA⟩ : ∃ wA, wA = wr.alloc (.cells #[.int .u8 92] 5) := ⟨_, rfl⟩
          obtain ⟨wB, hwB⟩ : ∃ wB, wB = wA.alloc (.cells #[.string ⟨#[92]⟩] 9) := ⟨_, rfl⟩
          have bA : Below wr.heap.size wr wA := hwA ▸ (Below.refl _ _).alloc (Nat.le_refl _) _
          have sA : wA.heap.size = wr.heap.size + 1 := by rw [hwA]; simp
          have bB : Below wr.heap.size wr wB := bA.trans (hwB ▸ (Below.refl _ _).alloc bA.size _)
          have kA : wA.heap[wr.heap.size]? = some (.cells #[.int .u8 92] 5) := hwA ▸ heap_alloc_new wr _
          have kB : wB.heap[wr.heap.size + 1]? = some (.cells #[.string ⟨#[92]⟩] 9) := by
            have h := heap_alloc_new wA (.cells #[.string ⟨#[92]⟩] 9)
            rw [sA] at h
            exact hwB ▸ h
          have hcv : (convert 23 9 (.slice (some ⟨wr.heap.size, 0, none⟩) 1 1)).run Try.prog (wr.alloc (.cells #[.int .u8 92] 5)) = .ok (.string ⟨#[92]⟩) (wr.alloc (.cells #[.int .u8 92] 5)) := by
            rw [hwA] at kA
            exact conv_str (wr.alloc (.cells #[.int .u8 92] 5)) (some ⟨wr.heap.size, 0, none⟩) [92] 1 ⟨by simp, by simp, fun _ => ⟨wr.heap.size, 0, rfl, fun t ht => by
              have h0 : t = 0 := by simp at ht; exact ht
              subst h0
              exact cell_blk2 kA 0 _ rfl⟩⟩
          have HROW := Lib.hid (owns_keep r5 fun d hd => bB.block d (r5.lt d hd).2)
          have HKB := Lib.hid kB
          have HR1 := Lib.hid ((bB.block rb hrw).trans r1)
          have HR4 := Lib.hid r4
          have HR6 := Lib.hid r6
          have HR0 := Lib.hid (r3 92 (by omega) (by decide))
          have HBB := Lib.hid bB
          have HSA := Lib.hid sA
          have HSB := Lib.hid (show wB.heap.size = wr.heap.size + 1 + 1 by rw [hwB]; simp [sA])
          obtain ⟨i0, hi0, hz0, hz1, hz2⟩ := info_parts info_str
          have HWW := Lib.hid (show wB = (wr.alloc (.cells #[.int .u8 92] 5)).alloc (.cells #[.string ⟨#[92]⟩] 9) by rw [hwB, hwA])
          have HQ1 := Lib.hid q1
          clear hwB hwA r1 r2 r3 r4 r5 r6 kA kB bB bA sA
          go_upto_region 33 with fail
          go_wp2_with (refine wpList_append_row rfl _ _ 22 rfl 9 i0 (.string ⟨#[]⟩) 1 16 Try.underlying22 hi0 hz0 hz1 hz2 rfl (by decide) v 2 [.string ⟨#[9]⟩, .string ⟨#[10]⟩] rfl ?hrow ⟨wr.heap.size + 1, 0, none⟩ 1 1 [.string ⟨#[92]⟩] rfl rfl ?hcell (by simp [Value.oneCell']) (by decide) (by decide) ?_)
          case hrow => exact HWW.out ▸ HROW.out
          case hcell =>
            intro t u ht
            have h0 : t = 0 := by
              have := (List.getElem?_eq_some_iff.1 ht).1
              simp at this; exact this
            subst h0
            simp at ht
            subst ht
            rw [← HWW.out]
            exact cell_blk2 HKB.out 0 _ rfl
          intro v' wC k1 k2 k3
          obtain ⟨tg, tcap, hv'⟩ : ∃ tg tcap, v' = .slice (some ⟨tg, 0, none⟩) 3 tcap := by
            rcases k1.2 with ⟨_, h0⟩ | ⟨tg, tcap, tcur, h0, -⟩
            · omega
            · exact ⟨tg, tcap, h0⟩
          subst hv'
          have K2 := Lib.hid (show wB.grownBy wC v.ownBlock from HWW.out ▸ k2)
          have K3 := Lib.hid (show ∀ d, (Value.slice (some ⟨tg, 0, none⟩) 3 tcap).ownBlock = some d → v.ownBlock = some d ∨ wB.heap.size ≤ d from fun d hd => (k3 d hd).imp id (fun h => by rw [HSB.out]; exact h))
          have K1 := Lib.hid k1
          have hsB := HBB.out.size
          have hrC := (K2.out.block rb (by omega) (fun e => (HR6.out rb e.symm).1 rfl)).trans HR1.out
          have q256 := cell_blk2 hrC 256 _ HR4.out
          have f256 := frozen_row hrC 256
          have hrD := set_cells hrC 256 (.slice (some ⟨tg, 0, none⟩) 3 tcap)
          obtain ⟨wE, hwE⟩ : ∃ wE, wE = Lib.bytesWorld (wC.setCell ⟨rb, 256, none⟩ (.slice (some ⟨tg, 0, none⟩) 3 tcap)) 5 ⟨#[92, 92]⟩ := ⟨_, rfl⟩
          obtain ⟨cp, hcp⟩ : ∃ cp, cp = grownCap (wC.setCell ⟨rb, 256, none⟩ (.slice (some ⟨tg, 0, none⟩) 3 tcap)) 2 0 5 := ⟨_, rfl⟩
          have hsD : (wC.setCell ⟨rb, 256, none⟩ (.slice (some ⟨tg, 0, none⟩) 3 tcap)).heap.size = wC.heap.size := by simp [World.setCell]
          have hcvb : (convert 9 23 (.string ⟨#[92, 92]⟩)).run Try.prog (wC.setCell ⟨rb, 256, none⟩ (.slice (some ⟨tg, 0, none⟩) 3 tcap)) = .ok (.slice (some ⟨wC.heap.size, 0, none⟩) 2 cp) wE := by
            have h := HB2S.out (wC.setCell ⟨rb, 256, none⟩ (.slice (some ⟨tg, 0, none⟩) 3 tcap)) 92
            rw [hsD] at h
            rw [hwE, hcp]
            exact h
          have hE : Below wC.heap.size (wC.setCell ⟨rb, 256, none⟩ (.slice (some ⟨tg, 0, none⟩) 3 tcap)) wE := by
            rw [hwE]
            exact ⟨rfl, rfl, rfl, by rw [Lib.bytesWorld_size]; omega, fun k hk => Lib.bytesWorld_at_old _ _ _ k (by rw [hsD]; exact hk)⟩
          have e0 : wE.cell? ⟨wC.heap.size, 0, none⟩ = some (.int .u8 92) := by
            have h := Lib.bytesWorld_cell (wC.setCell ⟨rb, 256, none⟩ (.slice (some ⟨tg, 0, none⟩) 3 tcap)) 5 ⟨#[92, 92]⟩ 0 (by decide)
            rw [hsD] at h
            rw [hwE]; exact h
          have e1 : wE.cell? ⟨wC.heap.size, 1, none⟩ = some (.int .u8 ((snd 92 : Nat) : Int)) := by
            have h := Lib.bytesWorld_cell (wC.setCell ⟨rb, 256, none⟩ (.slice (some ⟨tg, 0, none⟩) 3 tcap)) 5 ⟨#[92, 92]⟩ 1 (by decide)
            rw [hsD] at h
            rw [hwE]; exact h
          have hrE := (hE.block rb (by have := lt_block hrC; omega)).trans hrD
          have qc := cell_blk2 hrE 92 (.slice none 0 0) (by rw [Array.getElem?_setIfInBounds_ne (by omega)]; exact HR0.out)
          have fc := frozen_row hrE 92
          have HST := Lib.hid (HU.out.step (c := 92) (cp := cp) (by omega) (by decide) HQ1.out HBB.out K1.out K2.out K3.out hE e0 e1)
          clear k1 k2 k3 hrC hrD hrE hE e0 e1 hwE hcp
          go_wp2
          go_roundw
          case rel => exact .inr (.inr (.inr (.inl ⟨rfl, HST.out⟩)))
          case measure => simp [intOf]
        · have HU := Lib.hid hU
          have d0 := (hU.below.cell (p := ⟨g, off, none⟩) (World.block_lt_of_cell? W _ c0)).trans c0
          have d1 := (hU.below.cell (p := ⟨g, off + 1, none⟩) (World.block_lt_of_cell? W _ c1)).trans c1
          obtain ⟨-, hlo, -, cs, v, r1, r2, r3, r4, r5, r6, -⟩ := hU
          have q0 : wr.cell? ⟨rb, 34, none⟩ = some (.slice none 0 0) := cell_blk2 r1 34 _ (r3 34 (by omega) (by decide))
          have q1 : wr.cell? ⟨rb, 256, none⟩ = some v := cell_blk2 r1 256 _ r4
          have hrw := lt_block r1
          have heq := Lib.run_eql_slice_nil (P := Try.prog) wr 23 5 none 0 0 0 0 Try.underlying23
          have hix : ((⟨#[34]⟩ : ByteArray)[0]'(by decide)).toNat = 34 := rfl
          obtain ⟨wA, hwA⟩ : ∃ wA, wA = wr.alloc (.cells #[.int .u8 34] 5) := ⟨_, rfl⟩
          obtain ⟨wB, hwB⟩ : ∃ wB, wB = wA.alloc (.cells #[.string ⟨#[34]⟩] 9) := ⟨_, rfl⟩
          have bA : Below wr.heap.size wr wA := hwA ▸ (Below.refl _ _).alloc (Nat.le_refl _) _
          have sA : wA.heap.size = wr.heap.size + 1 := by rw [hwA]; simp
          have bB : Below wr.heap.size wr wB := bA.trans (hwB ▸ (Below.refl _ _).alloc bA.size _)
          have kA : wA.heap[wr.heap.size]? = some (.cells #[.int .u8 34] 5) := hwA ▸ heap_alloc_new wr _
          have kB : wB.heap[wr.heap.size + 1]? = some (.cells #[.string ⟨#[34]⟩] 9) := by
            have h := heap_alloc_new wA (.cells #[.string ⟨#[34]⟩] 9)
            rw [sA] at h
            exact hwB ▸ h
          have hcv : (convert 23 9 (.slice (some ⟨wr.heap.size, 0, none⟩) 1 1)).run Try.prog (wr.alloc (.cells #[.int .u8 34] 5)) = .ok (.string ⟨#[34]⟩) (wr.alloc (.cells #[.int .u8 34] 5)) := by
            rw [hwA] at kA
            exact conv_str (wr.alloc (.cells #[.int .u8 34] 5)) (some ⟨wr.heap.size, 0, none⟩) [34] 1 ⟨by simp, by simp, fun _ => ⟨wr.heap.size, 0, rfl, fun t ht => by
              have h0 : t = 0 := by simp at ht; exact ht
              subst h0
              exact cell_blk2 kA 0 _ rfl⟩⟩
          have HROW := Lib.hid (owns_keep r5 fun d hd => bB.block d (r5.lt d hd).2)
          have HKB := Lib.hid kB
          have HR1 := Lib.hid ((bB.block rb hrw).trans r1)
          have HR4 := Lib.hid r4
          have HR6 := Lib.hid r6
          have HR0 := Lib.hid (r3 34 (by omega) (by decide))
          have HBB := Lib.hid bB
          have HSA := Lib.hid sA
          have HSB := Lib.hid (show wB.heap.size = wr.heap.size + 1 + 1 by rw [hwB]; simp [sA])
          obtain ⟨i0, hi0, hz0, hz1, hz2⟩ := info_parts info_str
          have HWW := Lib.hid (show wB = (wr.alloc (.cells #[.int .u8 34] 5)).alloc (.cells #[.string ⟨#[34]⟩] 9) by rw [hwB, hwA])
          have HQ1 := Lib.hid q1
          clear hwB hwA r1 r2 r3 r4 r5 r6 kA kB bB bA sA
          go_upto_region 33 with fail
          go_wp2_with (refine wpList_append_row rfl _ _ 22 rfl 9 i0 (.string ⟨#[]⟩) 1 16 Try.underlying22 hi0 hz0 hz1 hz2 rfl (by decide) v 3 [.string ⟨#[9]⟩, .string ⟨#[10]⟩, .string ⟨#[92]⟩] rfl ?hrow ⟨wr.heap.size + 1, 0, none⟩ 1 1 [.string ⟨#[34]⟩] rfl rfl ?hcell (by simp [Value.oneCell']) (by decide) (by decide) ?_)
          case hrow => exact HWW.out ▸ HROW.out
          case hcell =>
            intro t u ht
            have h0 : t = 0 := by
              have := (List.getElem?_eq_some_iff.1 ht).1
              simp at this; exact this
            subst h0
            simp at ht
            subst ht
            rw [← HWW.out]
            exact cell_blk2 HKB.out 0 _ rfl
          intro v' wC k1 k2 k3
          obtain ⟨tg, tcap, hv'⟩ : ∃ tg tcap, v' = .slice (some ⟨tg, 0, none⟩) 4 tcap := by
            rcases k1.2 with ⟨_, h0⟩ | ⟨tg, tcap, tcur, h0, -⟩
            · omega
            · exact ⟨tg, tcap, h0⟩
          subst hv'
          have K2 := Lib.hid (show wB.grownBy wC v.ownBlock from HWW.out ▸ k2)
          have K3 := Lib.hid (show ∀ d, (Value.slice (some ⟨tg, 0, none⟩) 4 tcap).ownBlock = some d → v.ownBlock = some d ∨ wB.heap.size ≤ d from fun d hd => (k3 d hd).imp id (fun h => by rw [HSB.out]; exact h))
          have K1 := Lib.hid k1
          have hsB := HBB.out.size
          have hrC := (K2.out.block rb (by omega) (fun e => (HR6.out rb e.symm).1 rfl)).trans HR1.out
          have q256 := cell_blk2 hrC 256 _ HR4.out
          have f256 := frozen_row hrC 256
          have hrD := set_cells hrC 256 (.slice (some ⟨tg, 0, none⟩) 4 tcap)
          obtain ⟨wE, hwE⟩ : ∃ wE, wE = Lib.bytesWorld (wC.setCell ⟨rb, 256, none⟩ (.slice (some ⟨tg, 0, none⟩) 4 tcap)) 5 ⟨#[92, 34]⟩ := ⟨_, rfl⟩
          obtain ⟨cp, hcp⟩ : ∃ cp, cp = grownCap (wC.setCell ⟨rb, 256, none⟩ (.slice (some ⟨tg, 0, none⟩) 4 tcap)) 2 0 5 := ⟨_, rfl⟩
          have hsD : (wC.setCell ⟨rb, 256, none⟩ (.slice (some ⟨tg, 0, none⟩) 4 tcap)).heap.size = wC.heap.size := by simp [World.setCell]
          have hcvb : (convert 9 23 (.string ⟨#[92, 34]⟩)).run Try.prog (wC.setCell ⟨rb, 256, none⟩ (.slice (some ⟨tg, 0, none⟩) 4 tcap)) = .ok (.slice (some ⟨wC.heap.size, 0, none⟩) 2 cp) wE := by
            have h := HB2S.out (wC.setCell ⟨rb, 256, none⟩ (.slice (some ⟨tg, 0, none⟩) 4 tcap)) 34
            rw [hsD] at h
            rw [hwE, hcp]
            exact h
          have hE : Below wC.heap.size (wC.setCell ⟨rb, 256, none⟩ (.slice (some ⟨tg, 0, none⟩) 4 tcap)) wE := by
            rw [hwE]
            exact ⟨rfl, rfl, rfl, by rw [Lib.bytesWorld_size]; omega, fun k hk => Lib.bytesWorld_at_old _ _ _ k (by rw [hsD]; exact hk)⟩
          have e0 : wE.cell? ⟨wC.heap.size, 0, none⟩ = some (.int .u8 92) := by
            have h := Lib.bytesWorld_cell (wC.setCell ⟨rb, 256, none⟩ (.slice (some ⟨tg, 0, none⟩) 4 tcap)) 5 ⟨#[92, 34]⟩ 0 (by decide)
            rw [hsD] at h
            rw [hwE]; exact h
          have e1 : wE.cell? ⟨wC.heap.size, 1, none⟩ = some (.int .u8 ((snd 34 : Nat) : Int)) := by
            have h := Lib.bytesWorld_cell (wC.setCell ⟨rb, 256, none⟩ (.slice (some ⟨tg, 0, none⟩) 4 tcap)) 5 ⟨#[92, 34]⟩ 1 (by decide)
            rw [hsD] at h
            rw [hwE]; exact h
          have hrE := (hE.block rb (by have := lt_block hrC; omega)).trans hrD
          have qc := cell_blk2 hrE 34 (.slice none 0 0) (by rw [Array.getElem?_setIfInBounds_ne (by omega)]; exact HR0.out)
          have fc := frozen_row hrE 34
          have HST := Lib.hid (HU.out.step (c := 34) (cp := cp) (by omega) (by decide) HQ1.out HBB.out K1.out K2.out K3.out hE e0 e1)
          clear k1 k2 k3 hrC hrD hrE hE e0 e1 hwE hcp
          go_wp2
          go_roundw
          case rel => exact .inr (.inr (.inr (.inr (⟨rfl, HST.out⟩))))
          case measure => simp [intOf]
        · have HRA := Lib.hid hU.done
          have HBL := Lib.hid hU.below
          clear hU
          go_wp2
          go_ret
          exact ⟨rb, rfl, HRA.out, HBL.out⟩
end Go.Proofs.Ythldbcngbkemnaa
