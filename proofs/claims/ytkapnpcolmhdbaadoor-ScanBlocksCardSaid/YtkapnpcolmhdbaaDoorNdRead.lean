/- The contract of (*Array).Read. -/
import Derived.Test.YtkapnpcolmhdbaaDoorNands
import Derived.Outline
namespace Go.Proofs.YtkapnpcolmhdbaaDoor.Nd
open Go.RowKit
open Drawbar Drawbar.Nand

/-- What Read tells: bytes in new memory, and the error's number. -/
def Tells (w : World) (r : Int × List Nat) (e : Ending) (w' : World) : Prop :=
  ∃ a cap, e = .returned (.tuple #[.slice a r.2.length cap, .int .i64 r.1]) ∧ r.2.length ≤ cap ∧ Rd w' a r.2 ∧ Below w.heap.size w w' ∧ (0 < r.2.length → ∀ k, a = some k → w.heap.size ≤ k.block)

set_option maxRecDepth 100000 in
theorem tells_none (w : World) (n : Int) : Tells w (n, []) (.returned (.tuple #[.slice none 0 0, .int .i64 n])) w :=
  ⟨none, 0, rfl, Nat.le_refl _, rd_nil w, Below.refl _ _, fun h => by simp at h⟩

section
variable {w : World} {F R : Nat → Prop} {g hb : Nat} {rows : Nat → Value} {pv : Nat → List Value} {bv : Value} {s : Arr}

set_option maxRecDepth 100000 in
theorem read_any (h : ArrIn w F R g hb rows pv bv s) (i page : Int) :
    Calls Tryd.prog 68 #[.pointer (some ⟨g, 0, none⟩), .int .i64 i, .int .i64 page] w (Tells w (s.read i page)) := by
  have cg0 := h.gc 0 _ rfl
  have cg1 := h.gc 1 _ rfl
  have cg4 := h.gc 4 _ rfl
  have hpg : (1 : Int) ≤ s.pages ∧ (s.pages : Int) ≤ 32 := ⟨by have := h.wf.p0; omega, by have := h.wf.p32; omega⟩
  unfold Arr.read
  by_cases hi : inB i s.n
  · obtain ⟨i, rfl⟩ : ∃ j : Nat, i = j := ⟨i.toNat, by have := hi.1; omega⟩
    have hi2 : i < s.n := by have := hi.2; omega
    rw [if_neg (fun h => h hi)]
    simp only [Int.toNat_natCast]
    clear hi
    by_cases hoff : s.off = true
    · rw [if_pos hoff]
      have HR := Lib.hid (reach_off g hb s.n i w cg0 h.wf.n64 hi2 (hoff ▸ cg4))
      have HT := Lib.hid (tells_none w 9)
      generalize Tells w (9, []) = P at HT ⊢
      clear h hi2 hoff cg0 cg1 cg4
      go_enter Tryd.func68, Tryd.ntmps68
      go_wp2_with fail
      refine HR.out.mono ?_
      rintro e w' ⟨rfl, rfl⟩
      go_wp2_with fail
      exact HT.out
    · rw [if_neg hoff]
      have HR := Lib.hid (reach_in g hb s.n i w cg0 h.wf.n64 hi2 ((show s.off = false by simpa using hoff) ▸ cg4))
      by_cases hp : inB page s.pages
      · obtain ⟨page, rfl⟩ : ∃ j : Nat, page = j := ⟨page.toNat, by have := hp.1; omega⟩
        have hp2 : page < s.pages := by have := hp.2; omega
        rw [if_neg (fun h => h hp)]
        simp only [Int.toNat_natCast]
        obtain ⟨ra, rc, hrow, hrc, b0, b1, -⟩ := h.blk hi2
        have HN := Lib.hid (next_any hb (i * 6) _ _ _ _ w b0 rfl)
        by_cases hn : ((s.b i).pages.length : Int) ≤ page
        · rw [if_pos hn]
          have HT := Lib.hid (tells_none w 5)
          generalize Tells w (5, []) = P at HT ⊢
          clear h hi2 hoff cg0 cg4 hrow hp
          go_enter Tryd.func68, Tryd.ntmps68
          go_wp2_with fail
          refine HR.out.mono ?_
          rintro e w' ⟨rfl, rfl⟩
          go_wp2_with fail
          refine (within_yes _ _ _ _ (by omega) (by omega)).mono ?_
          rintro e w' ⟨rfl, rfl⟩
          go_wp2_with fail
          refine HN.out.mono ?_
          rintro e w' ⟨rfl, rfl⟩
          go_wp2_with fail
          exact HT.out
        · rw [if_neg hn]
          by_cases ht : (s.b i).torn = true
          · rw [if_pos ht]
            rw [ht] at b1
            have HT := Lib.hid (tells_none w 4)
            generalize Tells w (4, []) = P at HT ⊢
            clear h hi2 hoff cg0 cg4 hrow hp
            go_enter Tryd.func68, Tryd.ntmps68
            go_wp2_with fail
            refine HR.out.mono ?_
            rintro e w' ⟨rfl, rfl⟩
            go_wp2_with fail
            refine (within_yes _ _ _ _ (by omega) (by omega)).mono ?_
            rintro e w' ⟨rfl, rfl⟩
            go_wp2_with fail
            refine HN.out.mono ?_
            rintro e w' ⟨rfl, rfl⟩
            go_wp2_with fail
            exact HT.out
          · rw [if_neg ht]
            have ht2 : (s.b i).torn = false := by simpa using ht
            rw [ht2] at b1
            have hlt : page < (s.b i).pages.length := by omega
            obtain ⟨l, hl⟩ : ∃ l, (s.b i).pages[page]? = some l := ⟨_, List.getElem?_eq_getElem hlt⟩
            obtain ⟨v, hv, ⟨d, o, cap, rfl, hc, hl96, hrd⟩, -⟩ := h.page i hi2 page l hl
            have hown := h.row i hi2
            rw [hrow] at hown
            obtain ⟨rb, rfl⟩ : ∃ rb, ra = some ⟨rb, 0, none⟩ := by
              rcases hown.2 with ⟨e, h0⟩ | ⟨g', cap', cur, e, _⟩
              · omega
              · cases e; exact ⟨_, rfl⟩
            have cp := hown.cellAt page (by omega)
            rw [hv] at cp
            have hcl := clone_new l (some ⟨d, o, none⟩) cap w hrd (fun e => by cases e)
            rw [hl96] at hcl
            have hfin : ∀ e w', NewAre w l e w' → ∃ a c, e = .returned (.slice a 96 c) ∧ Tells w (0, (s.b i).pages.getD page []) (.returned (.tuple #[.slice a 96 c, .int .i64 0])) w' := by
              rintro e w' ⟨a, c, rfl, h1, h2, h3, h4⟩
              rw [List.getD_eq_getElem?_getD, hl]
              refine ⟨a, c, by rw [hl96], a, c, by simp [hl96], h1, h2, h3, h4⟩
            have HC := Lib.hid hcl
            have HF := Lib.hid hfin
            generalize Tells w (0, (s.b i).pages.getD page []) = P at HF ⊢
            clear h hi2 hoff cg0 cg4 hrow hp hown hcl hfin hv hrd hl ht ht2
            go_enter Tryd.func68, Tryd.ntmps68
            go_wp2_with fail
            refine HR.out.mono ?_
            rintro e w' ⟨rfl, rfl⟩
            go_wp2_with fail
            refine (within_yes _ _ _ _ (by omega) (by omega)).mono ?_
            rintro e w' ⟨rfl, rfl⟩
            go_wp2_with fail
            refine HN.out.mono ?_
            rintro e w' ⟨rfl, rfl⟩
            go_wp2_with fail
            refine HC.out.mono ?_
            intro e w' hnew
            obtain ⟨a5, c5, rfl, ht5⟩ := HF.out e w' hnew
            have HT := Lib.hid ht5
            clear hnew ht5
            go_wp2
            exact HT.out
      · rw [if_pos hp]
        have hp2 : page < 0 ∨ (s.pages : Int) - 1 < page := by unfold inB at hp; omega
        have HT := Lib.hid (tells_none w 1)
        generalize Tells w (1, []) = P at HT ⊢
        clear h hi2 hoff cg0 cg4 hp
        go_enter Tryd.func68, Tryd.ntmps68
        go_wp2_with fail
        refine HR.out.mono ?_
        rintro e w' ⟨rfl, rfl⟩
        go_wp2_with fail
        refine (within_no _ _ _ _ hp2).mono ?_
        rintro e w' ⟨rfl, rfl⟩
        go_wp2_with fail
        exact HT.out
  · rw [if_pos hi]
    have HR := Lib.hid (reach_out g hb s.n i w cg0 h.wf.n64 hi)
    have HT := Lib.hid (tells_none w 1)
    generalize Tells w (1, []) = P at HT ⊢
    clear h hi cg0 cg1 cg4
    go_enter Tryd.func68, Tryd.ntmps68
    go_wp2_with fail
    refine HR.out.mono ?_
    rintro e w' ⟨rfl, rfl⟩
    go_wp2_with fail
    exact HT.out
end
end Go.Proofs.YtkapnpcolmhdbaaDoor.Nd
