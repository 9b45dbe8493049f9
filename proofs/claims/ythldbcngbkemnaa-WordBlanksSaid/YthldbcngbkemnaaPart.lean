/- The contracts of (*line).part and (*line).end. -/
import Derived.Test.YthldbcngbkemnaaAdd
import Derived.Deep.RegionLaw
import Derived.Deep.AppendLies
import Derived.KernelRfl
namespace Go.Proofs.Ythldbcngbkemnaa
open Go.RowKit
open Drawbar Drawbar.Line

/-- What a call on the line that tells nothing comes to. -/
def Went (W : World) (B bl : Nat) (l : Ln) (e : Ending) (W' : World) : Prop := e = .returned (.tuple #[]) ∧ (∃ v1 v2, LineIn W' B bl v1 v2 l) ∧ Turned B W W'

theorem info_str : (Try.prog.info? 9).map (fun i => (i.zero, i.size, i.bytes)) = some (some (.string ⟨#[]⟩), 1, 16) := by kernel_rfl

theorem ownsRow_none {W : World} {e : TypeId} {a : Option Addr} {n cap : Nat} {xs : List Value} (h : W.ownsRow 0 e 1 (.slice a n cap) n xs) : W.ownsRow 0 e 1 (.slice a 0 cap) 0 [] := by
  refine ⟨by simp, ?_⟩
  rcases h.2 with ⟨h1, rfl⟩ | ⟨g, cap', cur, h1, hb, hg, hn, hc⟩
  · left
    exact ⟨h1, rfl⟩
  · right
    cases h1
    exact ⟨g, cap, cur, rfl, hb, hg, Nat.zero_le _, hc.1, hc.2.1, by simp⟩

section
variable {W : World} {B bl : Nat} {v1 v2 : Value} {l : Ln}

theorem Turned.word (h : LineIn W B bl v1 v2 l) {W0 : World} (ht : Turned B W0 W) (x : Value) : Turned B W0 (W.setCell ⟨bl, 1, none⟩ x) := ht.setCell h.base x v2 h.c1

/-- What part makes behind the words. -/
theorem LineIn.shut {a2 : Option Addr} {n cap2 : Nat} (h : LineIn W B bl v1 (.slice a2 n cap2) l) (hn : n = l.word.length) (hB : B ≤ W.heap.size) {W0 : World} (ht : Turned B W0 W) :
    Went W0 B bl ⟨l.words, [], 0⟩ (.returned (.tuple #[])) ((W.setCell ⟨bl, 1, none⟩ (.slice a2 0 cap2)).setCell ⟨bl, 2, none⟩ (.int .u8 0)) := by
  subst hn
  have h1 := h.setWord (grownBy_refl W _) (.slice a2 0 cap2) [] (ownsRow_none h.r2) (fun d hd => .inl (by cases a2 <;> exact hd)) hB (by simp) (by simp)
  have h2 := h1.setAt 0 (by omega)
  exact ⟨rfl, ⟨_, _, h2⟩, (ht.setCell h.base _ _ h.c1).setCell h.base _ _ h1.c2⟩

set_option maxHeartbeats 1000000 in
theorem part_any (h : LineIn W B bl v1 v2 l) (hB : B ≤ W.heap.size) (hl : l.words.length ≤ 1000) :
    Calls Try.prog 32 #[.pointer (some ⟨bl, 0, none⟩)] W (Went W B bl l.part) := by
  obtain ⟨a2, cap2, rfl, hcap⟩ := shape_of h.r2
  obtain ⟨a1, cap1, rfl, hcap1⟩ := shape_of h.r1
  have hc0 := h.c0
  have hc1 := h.c1
  have hc2 := h.c2
  have hf0 := h.fz 0
  have hf1 := h.fz 1
  have hf2 := h.fz 2
  have h5 := h.at5
  unfold Ln.part
  by_cases h0 : l.at' = 0
  · rw [if_pos h0]
    have hfin := h.shut rfl hB (Turned.refl B W)
    have HF := Lib.hid hfin
    generalize Went W B bl _ = P at HF ⊢
    rw [h0] at hc2
    clear h h0 hfin
    go_enter Try.func32, Try.ntmps32
    go_wp2
    go_end0
    exact HF.out
  · rw [if_neg h0]
    obtain ⟨i0, hi0, hz0, hz1, hz2⟩ := info_parts info_str
    have hne : ((l.at' : Int) != 0) = true := by simp; omega
    obtain ⟨a, la, hA, _, hrd, _⟩ := rd_of_own h.r2 h.lt (by have := h.len; omega)
    cases hA
    have hcv := fun (W' : World) (hw : Below W.heap.size W W') => conv_str W' a2 l.word cap2 (hrd.below hw)
    have hgen : ∀ (o : Obj) (w1 : World) (g cap : Nat), w1.ownsRow 0 9 1 (.slice (some ⟨g, 0, none⟩) (l.words.length + 1) cap) (l.words.length + 1) (l.words.map Value.string ++ [.string (strOf l.word)]) →
        (W.alloc o).drew.grownBy w1 (Value.slice a1 l.words.length cap1).ownBlock → ((Value.slice a1 l.words.length cap1).ownBlock = some g ∨ g = W.heap.size + 1) →
        Went W B bl ⟨l.words ++ [strOf l.word], [], 0⟩ (.returned (.tuple #[])) (((w1.setCell ⟨bl, 0, none⟩ (.slice (some ⟨g, 0, none⟩) (l.words.length + 1) cap)).setCell ⟨bl, 1, none⟩ (.slice a2 0 cap2)).setCell ⟨bl, 2, none⟩ (.int .u8 0)) ∧
        w1.cell? ⟨bl, 0, none⟩ = some (.slice a1 l.words.length cap1) ∧ w1.cell? ⟨bl, 1, none⟩ = some (.slice a2 l.word.length cap2) ∧ w1.cell? ⟨bl, 2, none⟩ = some (.int .u8 l.at') ∧
        w1.frozen? ⟨bl, 0, none⟩ = false ∧ w1.frozen? ⟨bl, 1, none⟩ = false ∧ w1.frozen? ⟨bl, 2, none⟩ = false := by
      intro o w1 g cap hown hg hat
      have ha : LineIn (W.alloc o).drew B bl (.slice a1 l.words.length cap1) (.slice a2 l.word.length cap2) l := (h.below ((Below.refl _ _).alloc (Nat.le_refl _) o)).drew
      have hB2 : B ≤ (W.alloc o).drew.heap.size := by show B ≤ (W.alloc o).heap.size; simp; omega
      have hbl : bl < (W.alloc o).drew.heap.size := World.block_lt_of_cell? _ _ ha.c0
      have hbw : w1.heap[bl]? = (W.alloc o).drew.heap[bl]? := hg.block bl hbl fun e => ha.n1 e.symm
      have hs : (W.alloc o).drew.heap.size = W.heap.size + 1 := by show (W.alloc o).heap.size = _; simp
      have hxs : l.words.map Value.string ++ [.string (strOf l.word)] = (l.words ++ [strOf l.word]).map Value.string := by simp
      have hlen : l.words.length + 1 = (l.words ++ [strOf l.word]).length := by simp
      have hown2 := hown
      rw [hxs] at hown2
      rw [show w1.ownsRow 0 9 1 (.slice (some ⟨g, 0, none⟩) (l.words.length + 1) cap) (l.words.length + 1) _ = w1.ownsRow 0 9 1 (.slice (some ⟨g, 0, none⟩) (l.words.length + 1) cap) (l.words ++ [strOf l.word]).length _ by rw [← hlen]] at hown2
      have h1 := ha.setWords hg (.slice (some ⟨g, 0, none⟩) (l.words.length + 1) cap) (l.words ++ [strOf l.word]) hown2 (fun d hd => by
        have e : g = d := by simpa [Value.ownBlock] using hd
        rcases hat with h9 | h9
        · left; rw [← e]; exact h9
        · right; omega) hB2
      have ht : Turned B W (w1.setCell ⟨bl, 0, none⟩ (.slice (some ⟨g, 0, none⟩) (l.words.length + 1) cap)) :=
        (((Turned.refl B W).alloc hB o).drew.grown hg hB2 ha.b1 ha.r1).setCell h.base _ _ ((World.cell?_of_block (a := ⟨bl, 0, none⟩) hbw).trans ha.c0)
      refine ⟨h1.shut rfl ?_ ht, ?_, ?_, ?_, ?_, ?_, ?_⟩
      · exact Nat.le_trans hB ht.below.size
      · exact (World.cell?_of_block (a := ⟨bl, 0, none⟩) hbw).trans ha.c0
      · exact (World.cell?_of_block (a := ⟨bl, 1, none⟩) hbw).trans ha.c1
      · exact (World.cell?_of_block (a := ⟨bl, 2, none⟩) hbw).trans ha.c2
      · exact (World.frozen?_of_block (a := ⟨bl, 0, none⟩) hbw).trans (ha.fz 0)
      · exact (World.frozen?_of_block (a := ⟨bl, 1, none⟩) hbw).trans (ha.fz 1)
      · exact (World.frozen?_of_block (a := ⟨bl, 2, none⟩) hbw).trans (ha.fz 2)
    have hkeep : ∀ W', W.grownBy W' (Value.slice a1 l.words.length cap1).ownBlock → W'.cell? ⟨bl, 0, none⟩ = some (.slice a1 l.words.length cap1) ∧ W'.cell? ⟨bl, 1, none⟩ = some (.slice a2 l.word.length cap2) ∧
        (convert 23 9 (.slice a2 l.word.length cap2)).run Try.prog W' = .ok (.string (strOf l.word)) W' ∧ W'.frozen? ⟨bl, 0, none⟩ = false := by
      intro W' hg
      have hbw : W'.heap[bl]? = W.heap[bl]? := hg.block bl (World.block_lt_of_cell? _ _ h.c0) fun e => h.n1 e.symm
      have hr2 : W'.ownsRow 0 5 1 (.slice a2 l.word.length cap2) l.word.length (l.word.map bv) := row_of h.r2 fun d hd => hg.block d (h.r2.lt d hd).2 fun e => h.n12 d e.symm hd
      obtain ⟨a', la', hA', _, hrd', _⟩ := rd_of_own hr2 h.lt (by have := h.len; omega)
      cases hA'
      exact ⟨(World.cell?_of_block (a := ⟨bl, 0, none⟩) hbw).trans h.c0, (World.cell?_of_block (a := ⟨bl, 1, none⟩) hbw).trans h.c1, conv_str W' a2 l.word cap2 hrd', (World.frozen?_of_block (a := ⟨bl, 0, none⟩) hbw).trans (h.fz 0)⟩
    have hgd : W.grownBy W.drew (Value.slice a1 l.words.length cap1).ownBlock := Below.grownBy (Below.refl _ W).drew _
    have hga : ∀ o, W.grownBy (W.alloc o).drew (Value.slice a1 l.words.length cap1).ownBlock := fun o => Below.grownBy ((Below.refl _ W).alloc (Nat.le_refl _) o).drew _
    have hk1 := Lib.hid (hkeep _ hgd)
    have hk2 := Lib.hid (fun o => hkeep _ (hga o))
    have hk3 := Lib.hid (fun o w1 (hg : (W.alloc o).drew.grownBy w1 (Value.slice a1 l.words.length cap1).ownBlock) => hkeep w1 (grownBy_trans (hga o) hg))
    have hown := h.r1
    have hB0 : bl < W.heap.size := World.block_lt_of_cell? _ _ h.c0
    have HG := Lib.hid hgen
    generalize Went W B bl _ = P at HG ⊢
    generalize hST : strOf l.word = st at *
    have HO := Lib.hid hown
    generalize hXS : l.words.map Value.string = xs at *
    clear h h0 hkeep hgen hrd hcv hown hgd hga
    go_enter Try.func32, Try.ntmps32
    go_wp2_with fail
    obtain ⟨hq0, hq1, hq2, hq3⟩ := hk1.out
    have HK2 := hk2
    clear hk1 hk2
    go_region_law (first | (refine step_append_lies _ (by rfl) _ _ _ (by rfl) 0 9 i0 _ 1 16 Try.underlying22 hi0 hz0 hz1 hz2 rfl (by omega) _ l.words.length xs (by rfl) ((HO.out.alloc _).drew) ⟨W.heap.size, 0, none⟩ 1 1 [.string st] (by rfl) (by rfl) (World.news_of_block (cs := #[.string st]) (t := 9) (fr := (0, 0)) (heap_alloc_new W _)) (by simp [Value.oneCell']) (by omega) (by unfold maxLen; omega) (by omega) (Nat.zero_le _) (W.heap.size + 1) (by simp) ?_; intro gg cap w1 hown1 hgrow hat hlt; obtain ⟨hp, g0, g1, g2, g3, g4, g5⟩ := HG.out _ _ _ _ hown1 hgrow hat; have HP := Lib.hid hp; clear hp hown1 hgrow hat))
    all_goals
      clear HK2 hk3 HG HO
      go_wp2
      go_end0
      exact HP.out

/-- What end makes. -/
theorem end_any (h : LineIn W B bl v1 v2 l) (hB : B ≤ W.heap.size) (hl : l.words.length ≤ 1000) :
    Calls Try.prog 19 #[.pointer (some ⟨bl, 0, none⟩)] W (Took W B bl l.end') := by
  have hc2 := h.c2
  have hP := part_any h hB hl
  have h5 := h.at5
  unfold Ln.end'
  by_cases h2 : l.at' = 2
  · rw [if_pos (.inl h2)]
    have HF := Lib.hid (show Took W B bl (14, l) (.returned (.int .i64 14)) W from ⟨rfl, ⟨_, _, h⟩, Turned.refl _ _⟩)
    rw [h2] at hc2
    clear h hP
    generalize Took W B bl _ = P at HF ⊢
    go_enter Try.func19, Try.ntmps19
    go_wp2
    exact HF.out
  by_cases h3 : l.at' = 3
  · rw [if_pos (.inr h3)]
    have HF := Lib.hid (show Took W B bl (14, l) (.returned (.int .i64 14)) W from ⟨rfl, ⟨_, _, h⟩, Turned.refl _ _⟩)
    rw [h3] at hc2
    clear h hP
    generalize Took W B bl _ = P at HF ⊢
    go_enter Try.func19, Try.ntmps19
    go_wp2
    exact HF.out
  · rw [if_neg (by omega)]
    have HF := Lib.hid (fun W' (hw : Went W B bl l.part (.returned (.tuple #[])) W') => show Took W B bl (0, l.part) (.returned (.int .i64 0)) W' from ⟨rfl, hw.2⟩)
    generalize Took W B bl _ = P at HF ⊢
    have i2 : ((l.at' : Int) == 2) = false := by simp; omega
    have i3 : ((l.at' : Int) == 3) = false := by simp; omega
    have HP := Lib.hid hP
    clear h hP h2 h3
    go_enter Try.func19, Try.ntmps19
    go_wp2_with (go_at_call 32; refine HP.out.mono ?_; rintro e W' hw; obtain rfl := hw.1; have HW := Lib.hid (HF.out _ hw); clear hw)
    exact HW.out
end
end Go.Proofs.Ythldbcngbkemnaa
