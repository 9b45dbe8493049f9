/- utf8.AppendRune onto a row of the call's own: every sign. -/
import Derived.Test.YthldbcngbkemnaaLine
import Derived.Outline
namespace Go.Proofs.Ythldbcngbkemnaa
open Go.RowKit
open Drawbar Drawbar.Line

/-- A row that was appended to. -/
def Grew (W : World) (v : Value) (n : Nat) (xs : List Value) (e : Ending) (W' : World) : Prop :=
  ∃ v', e = .returned v' ∧ W'.ownsRow 0 5 1 v' n xs ∧ (∃ o, (W.alloc o).grownBy W' v.ownBlock) ∧ ∀ d, v'.ownBlock = some d → v.ownBlock = some d ∨ W.heap.size + 1 ≤ d

theorem grew_of {W : World} {o : Obj} {v v' : Value} {n : Nat} {xs : List Value} {W' : World} (h1 : W'.ownsRow 0 5 1 v' n xs) (h2 : (W.alloc o).grownBy W' v.ownBlock) (h3 : ∀ d, v'.ownBlock = some d → v.ownBlock = some d ∨ W.heap.size + 1 ≤ d) : Grew W v n xs (.returned v') W' :=
  ⟨v', rfl, h1, ⟨o, h2⟩, h3⟩

theorem appendrune_one (W : World) (v : Value) (l : List Nat) (r : Nat) (h : r < 128) (hown : W.ownsRow 0 5 1 v l.length (l.map bv)) (hl : l.length ≤ 1000) :
    Calls Try.prog 39 #[v, .int .i32 r] W (Grew W v (l ++ enc r).length ((l ++ enc r).map bv)) := by
  have he : enc r = [r] := by unfold enc; rw [if_pos h]
  rw [he]
  have hxs : (l ++ [r]).map bv = l.map bv ++ [.int .u8 (r : Int)] := by simp [bv]
  have hlen : (l ++ [r]).length = l.length + 1 := by simp
  rw [hxs, hlen]
  clear hxs hlen he
  have i0 : (0 : Int) ≤ r := by omega
  have i1 : (r : Int) ≤ 127 := by omega
  obtain ⟨a, cap, rfl, hn⟩ : ∃ a cap, v = .slice a l.length cap ∧ l.length ≤ cap := by
    rcases hown.2 with ⟨rfl, h0⟩ | ⟨g, cap, cur, rfl, _, _, hn, _⟩
    · exact ⟨none, 0, by rw [h0], by omega⟩
    · exact ⟨_, cap, rfl, hn⟩
  have HO := Lib.hid hown
  obtain ⟨i5, hi, hz0, hz1, hz2⟩ := info_parts info_u8
  clear hown h
  generalize (r : Int) = x at *
  go_enter Try.func39, Try.ntmps39
  go_wp2_with (at_builtin; refine wpList_append_row rfl (.tmp 8) (.tmp 11) 23 rfl 5 i5 (.int .u8 0) 1 1 Try.underlying23 hi hz0 hz1 hz2 rfl (by decide) _ l.length (l.map bv) rfl (HO.out.alloc _) ⟨W.heap.size, 0, none⟩ 1 1 [.int .u8 x] rfl rfl (At.one _ _ _ _ rfl) (by simp [Value.oneCell']) (by unfold maxLen; omega) (by omega) ?_)
  intro v' W' h1 h2 h3
  have hg := grew_of h1 h2 (by simpa using h3)
  have HG := Lib.hid hg
  obtain ⟨a', c', rfl⟩ : ∃ a' c', v' = .slice a' (l.length + 1) c' := by
    rcases h1.2 with ⟨rfl, h0⟩ | ⟨g, cap, cur, rfl, _⟩
    · omega
    · exact ⟨_, _, rfl⟩
  clear h1 h2 h3 hg
  go_wp2
  go_ret
  exact HG.out

theorem at_bytes (W : World) (xs : List Value) : ∀ j u, xs[j]? = some u → (W.alloc (.cells xs.toArray 5)).cell? ((⟨W.heap.size, 0, none⟩ : Addr).add j) = some u :=
  World.news_of_block (cs := xs.toArray) (heap_alloc_new W _)

set_option maxRecDepth 100000 in
set_option maxHeartbeats 2000000 in
theorem appendrune_two (W : World) (v : Value) (l : List Nat) (r : Nat) (h : 128 ≤ r) (h' : r < 2048) (hown : W.ownsRow 0 5 1 v l.length (l.map bv)) (hl : l.length ≤ 1000) :
    Calls Try.prog 47 #[v, .int .i32 r] W (Grew W v (l ++ enc r).length ((l ++ enc r).map bv)) := by
  have he : enc r = [192 + r / 64, 128 + r % 64] := by unfold enc; rw [if_neg (by omega), if_pos h']
  rw [he]
  have hxs : (l ++ [192 + r / 64, 128 + r % 64]).map bv = l.map bv ++ [.int .u8 (192 + (r : Int) / 64), .int .u8 (128 + (r : Int) % 64)] := by simp [bv]
  have hlen : (l ++ [192 + r / 64, 128 + r % 64]).length = l.length + 2 := by simp
  rw [hxs, hlen]
  clear hxs hlen he
  have i0 : (128 : Int) ≤ r := by omega
  have i1 : (r : Int) ≤ 2047 := by omega
  have i2 : (0 : Int) ≤ r := by omega
  obtain ⟨a, cap, rfl, hn⟩ : ∃ a cap, v = .slice a l.length cap ∧ l.length ≤ cap := by
    rcases hown.2 with ⟨rfl, h0⟩ | ⟨g, cap, cur, rfl, _, _, hn, _⟩
    · exact ⟨none, 0, by rw [h0], by omega⟩
    · exact ⟨_, cap, rfl, hn⟩
  have HO := Lib.hid hown
  obtain ⟨i5, hi, hz0, hz1, hz2⟩ := info_parts info_u8
  clear hown h
  generalize (r : Int) = x at *
  go_enter Try.func47, Try.ntmps47
  go_wp2_with (at_builtin; refine wpList_append_row rfl _ _ 23 rfl 5 i5 (.int .u8 0) 1 1 Try.underlying23 hi hz0 hz1 hz2 rfl (by decide) _ l.length (l.map bv) rfl (HO.out.alloc _) ⟨W.heap.size, 0, none⟩ 2 2 [.int .u8 (192 + x / 64), .int .u8 (128 + x % 64)] rfl rfl (at_bytes W [.int .u8 (192 + x / 64), .int .u8 (128 + x % 64)]) (by simp [Value.oneCell']) (by unfold maxLen; omega) (by omega) ?_)
  intro v' W' h1 h2 h3
  have hg := grew_of h1 h2 (by simpa using h3)
  have HG := Lib.hid hg
  obtain ⟨a', c', rfl⟩ : ∃ a' c', v' = .slice a' (l.length + 2) c' := by
    rcases h1.2 with ⟨rfl, h0⟩ | ⟨g, cap, cur, rfl, _⟩
    · omega
    · exact ⟨_, _, rfl⟩
  clear h1 h2 h3 hg
  go_wp2
  go_ret
  exact HG.out

set_option maxRecDepth 100000 in
set_option maxHeartbeats 2000000 in
theorem appendrune_lo (W : World) (v : Value) (l : List Nat) (r : Nat) (h : 2048 ≤ r) (h' : r < 55296) (hown : W.ownsRow 0 5 1 v l.length (l.map bv)) (hl : l.length ≤ 1000) :
    Calls Try.prog 47 #[v, .int .i32 r] W (Grew W v (l ++ enc r).length ((l ++ enc r).map bv)) := by
  have he : enc r = [224 + r / 4096, 128 + r / 64 % 64, 128 + r % 64] := by unfold enc; rw [if_neg (by omega), if_neg (by omega), if_pos (by omega)]
  rw [he]
  have hxs : (l ++ [224 + r / 4096, 128 + r / 64 % 64, 128 + r % 64]).map bv = l.map bv ++ [.int .u8 (224 + (r : Int) / 4096), .int .u8 (128 + (r : Int) / 64 % 64), .int .u8 (128 + (r : Int) % 64)] := by simp [bv]
  have hlen : (l ++ [224 + r / 4096, 128 + r / 64 % 64, 128 + r % 64]).length = l.length + 3 := by simp
  rw [hxs, hlen]
  clear hxs hlen he
  have i0 : (2048 : Int) ≤ r := by omega
  have i1 : (r : Int) < 55296 := by omega
  have i2 : (0 : Int) ≤ r := by omega
  have i3 : ¬ (r : Int) ≤ 2047 := by omega
  obtain ⟨a, cap, rfl, hn⟩ : ∃ a cap, v = .slice a l.length cap ∧ l.length ≤ cap := by
    rcases hown.2 with ⟨rfl, h0⟩ | ⟨g, cap, cur, rfl, _, _, hn, _⟩
    · exact ⟨none, 0, by rw [h0], by omega⟩
    · exact ⟨_, cap, rfl, hn⟩
  have HO := Lib.hid hown
  obtain ⟨i5, hi, hz0, hz1, hz2⟩ := info_parts info_u8
  clear hown h
  generalize (r : Int) = x at *
  go_enter Try.func47, Try.ntmps47
  go_wp2_with (at_builtin; refine wpList_append_row rfl _ _ 23 rfl 5 i5 (.int .u8 0) 1 1 Try.underlying23 hi hz0 hz1 hz2 rfl (by decide) _ l.length (l.map bv) rfl (HO.out.alloc _) ⟨W.heap.size, 0, none⟩ 3 3 [.int .u8 (224 + x / 4096), .int .u8 (128 + x / 64 % 64), .int .u8 (128 + x % 64)] rfl rfl (at_bytes W [.int .u8 (224 + x / 4096), .int .u8 (128 + x / 64 % 64), .int .u8 (128 + x % 64)]) (by simp [Value.oneCell']) (by unfold maxLen; omega) (by omega) ?_)
  intro v' W' h1 h2 h3
  have hg := grew_of h1 h2 (by simpa using h3)
  have HG := Lib.hid hg
  obtain ⟨a', c', rfl⟩ : ∃ a' c', v' = .slice a' (l.length + 3) c' := by
    rcases h1.2 with ⟨rfl, h0⟩ | ⟨g, cap, cur, rfl, _⟩
    · omega
    · exact ⟨_, _, rfl⟩
  clear h1 h2 h3 hg
  go_wp2
  go_ret
  exact HG.out

set_option maxRecDepth 100000 in
set_option maxHeartbeats 2000000 in
theorem appendrune_hi (W : World) (v : Value) (l : List Nat) (r : Nat) (h : 57343 < r) (h' : r < 65536) (hown : W.ownsRow 0 5 1 v l.length (l.map bv)) (hl : l.length ≤ 1000) :
    Calls Try.prog 47 #[v, .int .i32 r] W (Grew W v (l ++ enc r).length ((l ++ enc r).map bv)) := by
  have he : enc r = [224 + r / 4096, 128 + r / 64 % 64, 128 + r % 64] := by unfold enc; rw [if_neg (by omega), if_neg (by omega), if_pos h']
  rw [he]
  have hxs : (l ++ [224 + r / 4096, 128 + r / 64 % 64, 128 + r % 64]).map bv = l.map bv ++ [.int .u8 (224 + (r : Int) / 4096), .int .u8 (128 + (r : Int) / 64 % 64), .int .u8 (128 + (r : Int) % 64)] := by simp [bv]
  have hlen : (l ++ [224 + r / 4096, 128 + r / 64 % 64, 128 + r % 64]).length = l.length + 3 := by simp
  rw [hxs, hlen]
  clear hxs hlen he
  have i0 : (57343 : Int) < r := by omega
  have i1 : (r : Int) ≤ 65535 := by omega
  have i2 : (0 : Int) ≤ r := by omega
  have i3 : ¬ (r : Int) ≤ 2047 := by omega
  have i4 : ¬ (r : Int) < 55296 := by omega
  obtain ⟨a, cap, rfl, hn⟩ : ∃ a cap, v = .slice a l.length cap ∧ l.length ≤ cap := by
    rcases hown.2 with ⟨rfl, h0⟩ | ⟨g, cap, cur, rfl, _, _, hn, _⟩
    · exact ⟨none, 0, by rw [h0], by omega⟩
    · exact ⟨_, cap, rfl, hn⟩
  have HO := Lib.hid hown
  obtain ⟨i5, hi, hz0, hz1, hz2⟩ := info_parts info_u8
  clear hown h
  generalize (r : Int) = x at *
  go_enter Try.func47, Try.ntmps47
  go_wp2_with (at_builtin; refine wpList_append_row rfl _ _ 23 rfl 5 i5 (.int .u8 0) 1 1 Try.underlying23 hi hz0 hz1 hz2 rfl (by decide) _ l.length (l.map bv) rfl (HO.out.alloc _) ⟨W.heap.size, 0, none⟩ 3 3 [.int .u8 (224 + x / 4096), .int .u8 (128 + x / 64 % 64), .int .u8 (128 + x % 64)] rfl rfl (at_bytes W [.int .u8 (224 + x / 4096), .int .u8 (128 + x / 64 % 64), .int .u8 (128 + x % 64)]) (by simp [Value.oneCell']) (by unfold maxLen; omega) (by omega) ?_)
  intro v' W' h1 h2 h3
  have hg := grew_of h1 h2 (by simpa using h3)
  have HG := Lib.hid hg
  obtain ⟨a', c', rfl⟩ : ∃ a' c', v' = .slice a' (l.length + 3) c' := by
    rcases h1.2 with ⟨rfl, h0⟩ | ⟨g, cap, cur, rfl, _⟩
    · omega
    · exact ⟨_, _, rfl⟩
  clear h1 h2 h3 hg
  go_wp2
  go_ret
  exact HG.out

set_option maxRecDepth 100000 in
set_option maxHeartbeats 2000000 in
theorem appendrune_four (W : World) (v : Value) (l : List Nat) (r : Nat) (h : 65536 ≤ r) (h' : r ≤ 1114111) (hown : W.ownsRow 0 5 1 v l.length (l.map bv)) (hl : l.length ≤ 1000) :
    Calls Try.prog 47 #[v, .int .i32 r] W (Grew W v (l ++ enc r).length ((l ++ enc r).map bv)) := by
  have he : enc r = [240 + r / 262144, 128 + r / 4096 % 64, 128 + r / 64 % 64, 128 + r % 64] := by unfold enc; rw [if_neg (by omega), if_neg (by omega), if_neg (by omega)]
  rw [he]
  have hxs : (l ++ [240 + r / 262144, 128 + r / 4096 % 64, 128 + r / 64 % 64, 128 + r % 64]).map bv = l.map bv ++ [.int .u8 (240 + (r : Int) / 262144), .int .u8 (128 + (r : Int) / 4096 % 64), .int .u8 (128 + (r : Int) / 64 % 64), .int .u8 (128 + (r : Int) % 64)] := by simp [bv]
  have hlen : (l ++ [240 + r / 262144, 128 + r / 4096 % 64, 128 + r / 64 % 64, 128 + r % 64]).length = l.length + 4 := by simp
  rw [hxs, hlen]
  clear hxs hlen he
  have i0 : (65535 : Int) < r := by omega
  have i1 : (r : Int) ≤ 1114111 := by omega
  have i2 : (0 : Int) ≤ r := by omega
  have i3 : ¬ (r : Int) ≤ 2047 := by omega
  have i4 : ¬ (r : Int) < 55296 := by omega
  have j5 : ¬ (r : Int) ≤ 65535 := by omega
  have i6 : (57343 : Int) < r := by omega
  obtain ⟨a, cap, rfl, hn⟩ : ∃ a cap, v = .slice a l.length cap ∧ l.length ≤ cap := by
    rcases hown.2 with ⟨rfl, h0⟩ | ⟨g, cap, cur, rfl, _, _, hn, _⟩
    · exact ⟨none, 0, by rw [h0], by omega⟩
    · exact ⟨_, cap, rfl, hn⟩
  have HO := Lib.hid hown
  obtain ⟨i5, hi, hz0, hz1, hz2⟩ := info_parts info_u8
  clear hown h
  generalize (r : Int) = x at *
  go_enter Try.func47, Try.ntmps47
  go_wp2_with (at_builtin; refine wpList_append_row rfl _ _ 23 rfl 5 i5 (.int .u8 0) 1 1 Try.underlying23 hi hz0 hz1 hz2 rfl (by decide) _ l.length (l.map bv) rfl (HO.out.alloc _) ⟨W.heap.size, 0, none⟩ 4 4 [.int .u8 (240 + x / 262144), .int .u8 (128 + x / 4096 % 64), .int .u8 (128 + x / 64 % 64), .int .u8 (128 + x % 64)] rfl rfl (at_bytes W [.int .u8 (240 + x / 262144), .int .u8 (128 + x / 4096 % 64), .int .u8 (128 + x / 64 % 64), .int .u8 (128 + x % 64)]) (by simp [Value.oneCell']) (by unfold maxLen; omega) (by omega) ?_)
  intro v' W' h1 h2 h3
  have hg := grew_of h1 h2 (by simpa using h3)
  have HG := Lib.hid hg
  obtain ⟨a', c', rfl⟩ : ∃ a' c', v' = .slice a' (l.length + 4) c' := by
    rcases h1.2 with ⟨rfl, h0⟩ | ⟨g, cap, cur, rfl, _⟩
    · omega
    · exact ⟨_, _, rfl⟩
  clear h1 h2 h3 hg
  go_wp2
  go_ret
  exact HG.out

theorem appendrune_any (W : World) (v : Value) (l : List Nat) (r : Nat) (h : Utf8.valid (r : Int) = true) (hown : W.ownsRow 0 5 1 v l.length (l.map bv)) (hl : l.length ≤ 1000) :
    Calls Try.prog 39 #[v, .int .i32 r] W (Grew W v (l ++ enc r).length ((l ++ enc r).map bv)) := by
  by_cases h1 : r < 128
  · exact appendrune_one W v l r h1 hown hl
  have hn : Calls Try.prog 47 #[v, .int .i32 r] W (Grew W v (l ++ enc r).length ((l ++ enc r).map bv)) := by
    have hv : r < 55296 ∨ (57344 ≤ r ∧ r ≤ 1114111) := by simp [Utf8.valid] at h; omega
    by_cases h2 : r < 2048
    · exact appendrune_two W v l r (by omega) h2 hown hl
    by_cases h3 : r < 55296
    · exact appendrune_lo W v l r (by omega) h3 hown hl
    by_cases h4 : r < 65536
    · exact appendrune_hi W v l r (by omega) h4 hown hl
    · exact appendrune_four W v l r (by omega) (by omega) hown hl
  have hm : r ≤ 1114111 := by simp [Utf8.valid] at h; omega
  have i0 : (128 : Int) ≤ r := by omega
  have i1 : ¬ (r : Int) ≤ 127 := by omega
  have i2 : (r : Int) ≤ 1114111 := by omega
  have i3 : (0 : Int) ≤ r := by omega
  generalize (l ++ enc r).length = n at hn ⊢
  generalize (l ++ enc r).map bv = xs at hn ⊢
  obtain ⟨a, cap, rfl, hcap⟩ : ∃ a cap, v = .slice a l.length cap ∧ l.length ≤ cap := by
    rcases hown.2 with ⟨rfl, h0⟩ | ⟨g, cap, cur, rfl, _, _, hn, _⟩
    · exact ⟨none, 0, by rw [h0], by omega⟩
    · exact ⟨_, cap, rfl, hn⟩
  clear h hown h1 hm
  generalize (r : Int) = x at *
  go_enter Try.func39, Try.ntmps39
  go_wp2_with (refine hn.mono ?_; rintro e W' ⟨v', rfl, h1, h2, h3⟩)
  obtain ⟨a', c', rfl⟩ : ∃ a' c', v' = .slice a' n c' := by
    rcases h1.2 with ⟨rfl, rfl⟩ | ⟨g, cap, cur, rfl, _⟩
    · exact ⟨_, _, rfl⟩
    · exact ⟨_, _, rfl⟩
  go_wp2
  go_ret
  exact ⟨_, rfl, h1, h2, h3⟩
end Go.Proofs.Ythldbcngbkemnaa
