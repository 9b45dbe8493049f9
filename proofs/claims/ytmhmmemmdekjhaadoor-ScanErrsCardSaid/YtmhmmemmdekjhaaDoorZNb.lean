/- The contract of (*Array).Erase. The contract of (*Array).Read. The contract of nand.New. The contract of (*Array).Restart. The contracts of an array's calls, as the state says them. -/
import Derived.Test.YtmhmmemmdekjhaaDoorZNa
import Derived.Outline
import Derived.OwnWalk
import Derived.Test.YtmhmmemmdekjhaaDoorZNw
namespace Go.Proofs.YtmhmmemmdekjhaaDoor.Nd
open Go.RowKit
open Drawbar Drawbar.Nand
section
variable {w : World} {F R : Nat → Prop} {g hb : Nat} {rows : Nat → Value} {pv : Nat → List Value} {bv : Value} {s : Arr}

set_option maxRecDepth 100000 in
theorem erasem_out (h : ArrIn w F R g hb rows pv bv s) (hid : Idle s) (i : Int) (epoch : Nat) (hi : ¬ inB i s.n) :
    Calls Tryd.prog 24 #[.pointer (some ⟨g, 0, none⟩), .int .i64 i, .int .u64 epoch] w (Did w F g (1, s)) := by
  have hreach := reach_out g hb s.n i w (h.gc 0 _ rfl) h.wf.n64 hi
  have HR := Lib.hid hreach
  have HF := Lib.hid (did_same h hid 1 (Below.refl _ _))
  generalize Did w F g (1, s) = P at HF ⊢
  clear hreach h hid hi
  go_enter Tryd.func24, Tryd.ntmps24
  go_wp2_with fail
  refine HR.out.mono ?_
  rintro e w' ⟨rfl, rfl⟩
  go_wp2_with fail
  exact HF.out
set_option maxRecDepth 100000 in
theorem erasem_off (h : ArrIn w F R g hb rows pv bv s) (hid : Idle s) (i epoch : Nat) (hi : i < s.n) (hoff : s.off = true) :
    Calls Tryd.prog 24 #[.pointer (some ⟨g, 0, none⟩), .int .i64 i, .int .u64 epoch] w (Did w F g (9, s)) := by
  have hreach := reach_off g hb s.n i w (h.gc 0 _ rfl) h.wf.n64 hi (hoff ▸ h.gc 4 _ rfl)
  have HR := Lib.hid hreach
  have HF := Lib.hid (did_same h hid 9 (Below.refl _ _))
  generalize Did w F g (9, s) = P at HF ⊢
  clear hreach h hid hi
  go_enter Tryd.func24, Tryd.ntmps24
  go_wp2_with fail
  refine HR.out.mono ?_
  rintro e w' ⟨rfl, rfl⟩
  go_wp2_with fail
  exact HF.out
set_option maxRecDepth 100000 in
theorem erasem_fence (h : ArrIn w F R g hb rows pv bv s) (hid : Idle s) (i epoch : Nat) (hi : i < s.n) (hoff : s.off = false) (hf : epoch < s.fence) :
    Calls Tryd.prog 24 #[.pointer (some ⟨g, 0, none⟩), .int .i64 i, .int .u64 epoch] w (Did w F g (7, s)) := by
  have hreach := reach_in g hb s.n i w (h.gc 0 _ rfl) h.wf.n64 hi (hoff ▸ h.gc 4 _ rfl)
  have c2 := h.gc 2 _ rfl
  have hf2 : (epoch : Int) < (s.fence : Int) := by omega
  have HR := Lib.hid hreach
  have HF := Lib.hid (did_same h hid 7 (Below.refl _ _))
  generalize Did w F g (7, s) = P at HF ⊢
  clear hreach h hid hi
  go_enter Tryd.func24, Tryd.ntmps24
  go_wp2_with fail
  refine HR.out.mono ?_
  rintro e w' ⟨rfl, rfl⟩
  go_wp2_with fail
  exact HF.out
set_option maxRecDepth 100000 in
theorem erasem_main (h : ArrIn w F R g hb rows pv bv s) (hid : Idle s) (i epoch : Nat) (hi : i < s.n) (hoff : s.off = false) (hf : s.fence ≤ epoch) :
    Calls Tryd.prog 24 #[.pointer (some ⟨g, 0, none⟩), .int .i64 i, .int .u64 epoch] w (Did w F g (s.operate i (.erase i) (fun b => b.erase 96))) := by
  have hreach := reach_in g hb s.n i w (h.gc 0 _ rfl) h.wf.n64 hi (hoff ▸ h.gc 4 _ rfl)
  have c2 := h.gc 2 _ rfl
  have hf2 : ¬ (epoch : Int) < (s.fence : Int) := by omega
  have HR := Lib.hid hreach
  have hop := operate_any h i hi 60 #[.pointer (some ⟨hb, i * 6, none⟩)] #[] (fun _ _ => rfl) (.erase i) ⟨hi, rfl⟩ (fun b => b.erase 96) (by
    intro w4 h4 o4
    have hc := erase_any h4 i hi 96
    rw [show ({ s.tick i with b := upd (s.tick i).b i (((s.tick i).b i).erase 96) } : Arr) = { s.tick i with b := upd s.b i ((s.b i).tick.erase 96) } by
        unfold Arr.tick; dsimp only; rw [upd_same, upd_upd]] at hc
    exact hc)
  have hidr := idle_operate s i (.erase i) (fun b => b.erase 96) hid hoff (fun j p e => (by cases e))
  have hfin : ∀ e w', Oped w F R g hb (s.operate i (.erase i) (fun b => b.erase 96)) e w' → e = .returned (.int .i64 (s.operate i (.erase i) (fun b => b.erase 96)).1) ∧ Did w F g (s.operate i (.erase i) (fun b => b.erase 96)) (.returned (.int .i64 (s.operate i (.erase i) (fun b => b.erase 96)).1)) w' := by
    rintro e w' ⟨he, bv', hbc⟩
    exact ⟨he, become_did (Keep.refl F w) (ext_self F w).symm h.rf hbc hidr _⟩
  generalize s.operate i (.erase i) (fun b => b.erase 96) = r at *
  have HO := Lib.hid hop
  have HF := Lib.hid hfin
  generalize Did w F g r = P at HF ⊢
  clear hreach h hid hi hop hfin hidr
  go_enter Tryd.func24, Tryd.ntmps24
  go_wp2_with fail
  refine HR.out.mono ?_
  rintro e w' ⟨rfl, rfl⟩
  go_wp2_with fail
  refine HO.out.mono ?_
  intro e w' ho
  obtain ⟨rfl, hp⟩ := HF.out e w' ho
  clear ho
  go_wp2
  exact hp
end
end Go.Proofs.YtmhmmemmdekjhaaDoor.Nd
namespace Go.Proofs.YtmhmmemmdekjhaaDoor.Nd
open Go.RowKit
open Drawbar Drawbar.Nand

/-- What Read tells: bytes in new memory, and the error's number. -/
def Tells (w : World) (r : Int × List Nat) (e : Ending) (w' : World) : Prop :=
  ∃ a cap, e = .returned (.tuple #[.slice a r.2.length cap, .int .i64 r.1]) ∧ r.2.length ≤ cap ∧ Rd w' a r.2 ∧ Below w.heap.size w w' ∧ (0 < r.2.length → ∀ k, a = some k → w.heap.size ≤ k.block)

set_option maxRecDepth 100000 in
theorem tells_none (w : World) (n : Int) : Tells w (n, []) (.returned (.tuple #[.slice none 0 0, .int .i64 n])) w :=
  ⟨none, 0, rfl, Nat.le_refl _, rd_nil w, Below.refl _ _, fun h => by simp at h⟩

section
variable {w : World} {F R : Nat → Prop} {g hb : Nat} {rows : Nat → Value} {pv : Nat → List Value} {bv : Value} {s : Arr}

set_option maxRecDepth 100000 in
theorem read_any (h : ArrIn w F R g hb rows pv bv s) (i page : Int) :
    Calls Tryd.prog 74 #[.pointer (some ⟨g, 0, none⟩), .int .i64 i, .int .i64 page] w (Tells w (s.read i page)) := by
  have cg0 := h.gc 0 _ rfl
  have cg1 := h.gc 1 _ rfl
  have cg4 := h.gc 4 _ rfl
  have hpg : (1 : Int) ≤ s.pages ∧ (s.pages : Int) ≤ 32 := ⟨by have := h.wf.p0; omega, by have := h.wf.p32; omega⟩
  unfold Arr.read
  by_cases hi : inB i s.n
  · obtain ⟨i, rfl⟩ : ∃ j : Nat, i = j := ⟨i.toNat, by have := hi.1; omega⟩
    have hi2 : i < s.n := by have := hi.2; omega
    rw [if_neg (fun h => h hi)]
    simp only [Int.toNat_natCast]
    clear hi
    by_cases hoff : s.off = true
    · rw [if_pos hoff]
      have HR := Lib.hid (reach_off g hb s.n i w cg0 h.wf.n64 hi2 (hoff ▸ cg4))
      have HT := Lib.hid (tells_none w 9)
      generalize Tells w (9, []) = P at HT ⊢
      clear h hi2 hoff cg0 cg1 cg4
      go_enter Tryd.func74, Tryd.ntmps74
      go_wp2_with fail
      refine HR.out.mono ?_
      rintro e w' ⟨rfl, rfl⟩
      go_wp2_with fail
      exact HT.out
    · rw [if_neg hoff]
      have HR := Lib.hid (reach_in g hb s.n i w cg0 h.wf.n64 hi2 ((show s.off = false by simpa using hoff) ▸ cg4))
      by_cases hp : inB page s.pages
      · obtain ⟨page, rfl⟩ : ∃ j : Nat, page = j := ⟨page.toNat, by have := hp.1; omega⟩
        have hp2 : page < s.pages := by have := hp.2; omega
        rw [if_neg (fun h => h hp)]
        simp only [Int.toNat_natCast]
        obtain ⟨ra, rc, hrow, hrc, b0, b1, -⟩ := h.blk hi2
        have HN := Lib.hid (next_any hb (i * 6) _ _ _ _ w b0 rfl)
        by_cases hn : ((s.b i).pages.length : Int) ≤ page
        · rw [if_pos hn]
          have HT := Lib.hid (tells_none w 5)
          generalize Tells w (5, []) = P at HT ⊢
          clear h hi2 hoff cg0 cg4 hrow hp
          go_enter Tryd.func74, Tryd.ntmps74
          go_wp2_with fail
          refine HR.out.mono ?_
          rintro e w' ⟨rfl, rfl⟩
          go_wp2_with fail
          refine (within_yes _ _ _ _ (by omega) (by omega)).mono ?_
          rintro e w' ⟨rfl, rfl⟩
          go_wp2_with fail
          refine HN.out.mono ?_
          rintro e w' ⟨rfl, rfl⟩
          go_wp2_with fail
          exact HT.out
        · rw [if_neg hn]
          by_cases ht : (s.b i).torn = true
          · rw [if_pos ht]
            rw [ht] at b1
            have HT := Lib.hid (tells_none w 4)
            generalize Tells w (4, []) = P at HT ⊢
            clear h hi2 hoff cg0 cg4 hrow hp
            go_enter Tryd.func74, Tryd.ntmps74
            go_wp2_with fail
            refine HR.out.mono ?_
            rintro e w' ⟨rfl, rfl⟩
            go_wp2_with fail
            refine (within_yes _ _ _ _ (by omega) (by omega)).mono ?_
            rintro e w' ⟨rfl, rfl⟩
            go_wp2_with fail
            refine HN.out.mono ?_
            rintro e w' ⟨rfl, rfl⟩
            go_wp2_with fail
            exact HT.out
          · rw [if_neg ht]
            have ht2 : (s.b i).torn = false := by simpa using ht
            rw [ht2] at b1
            have hlt : page < (s.b i).pages.length := by omega
            obtain ⟨l, hl⟩ : ∃ l, (s.b i).pages[page]? = some l := ⟨_, List.getElem?_eq_getElem hlt⟩
            obtain ⟨v, hv, ⟨d, o, cap, rfl, hc, hl96, hrd⟩, -⟩ := h.page i hi2 page l hl
            have hown := h.row i hi2
            rw [hrow] at hown
            obtain ⟨rb, rfl⟩ : ∃ rb, ra = some ⟨rb, 0, none⟩ := by
              rcases hown.2 with ⟨e, h0⟩ | ⟨g', cap', cur, e, _⟩
              · omega
              · cases e; exact ⟨_, rfl⟩
            have cp := hown.cellAt page (by omega)
            rw [hv] at cp
            have hcl := clone_new l (some ⟨d, o, none⟩) cap w hrd (fun e => by cases e)
            rw [hl96] at hcl
            have hfin : ∀ e w', NewAre w l e w' → ∃ a c, e = .returned (.slice a 96 c) ∧ Tells w (0, (s.b i).pages.getD page []) (.returned (.tuple #[.slice a 96 c, .int .i64 0])) w' := by
              rintro e w' ⟨a, c, rfl, h1, h2, h3, h4⟩
              rw [List.getD_eq_getElem?_getD, hl]
              refine ⟨a, c, by rw [hl96], a, c, by simp [hl96], h1, h2, h3, h4⟩
            have HC := Lib.hid hcl
            have HF := Lib.hid hfin
            generalize Tells w (0, (s.b i).pages.getD page []) = P at HF ⊢
            clear h hi2 hoff cg0 cg4 hrow hp hown hcl hfin hv hrd hl ht ht2
            go_enter Tryd.func74, Tryd.ntmps74
            go_wp2_with fail
            refine HR.out.mono ?_
            rintro e w' ⟨rfl, rfl⟩
            go_wp2_with fail
            refine (within_yes _ _ _ _ (by omega) (by omega)).mono ?_
            rintro e w' ⟨rfl, rfl⟩
            go_wp2_with fail
            refine HN.out.mono ?_
            rintro e w' ⟨rfl, rfl⟩
            go_wp2_with fail
            refine HC.out.mono ?_
            intro e w' hnew
            obtain ⟨a5, c5, rfl, ht5⟩ := HF.out e w' hnew
            have HT := Lib.hid ht5
            clear hnew ht5
            go_wp2
            exact HT.out
      · rw [if_pos hp]
        have hp2 : page < 0 ∨ (s.pages : Int) - 1 < page := by unfold inB at hp; omega
        have HT := Lib.hid (tells_none w 1)
        generalize Tells w (1, []) = P at HT ⊢
        clear h hi2 hoff cg0 cg4 hp
        go_enter Tryd.func74, Tryd.ntmps74
        go_wp2_with fail
        refine HR.out.mono ?_
        rintro e w' ⟨rfl, rfl⟩
        go_wp2_with fail
        refine (within_no _ _ _ _ hp2).mono ?_
        rintro e w' ⟨rfl, rfl⟩
        go_wp2_with fail
        exact HT.out
  · rw [if_pos hi]
    have HR := Lib.hid (reach_out g hb s.n i w cg0 h.wf.n64 hi)
    have HT := Lib.hid (tells_none w 1)
    generalize Tells w (1, []) = P at HT ⊢
    clear h hi cg0 cg1 cg4
    go_enter Tryd.func74, Tryd.ntmps74
    go_wp2_with fail
    refine HR.out.mono ?_
    rintro e w' ⟨rfl, rfl⟩
    go_wp2_with fail
    exact HT.out
end
end Go.Proofs.YtmhmmemmdekjhaaDoor.Nd
namespace Go.Proofs.YtmhmmemmdekjhaaDoor.Nd
open Go.RowKit
open Drawbar Drawbar.Nand

def badBlk : Blk := ⟨[], false, 0, 0, true, true⟩
/-- A new array, the first k of bad marked. -/
def newS (n pages : Nat) (bad : List Nat) (k : Nat) : Arr := Arr.new n pages (fun j => if j ∈ bad.take k then badBlk else fresh)

def zblk : Value := .agg #[.slice none 0 0, .bool false, .int .i64 0, .int .i64 0, .bool false, .bool false]
set_option maxRecDepth 100000 in
theorem info_blk : (Tryd.prog.info? 123).map (fun i => (i.zero, i.size, i.bytes)) = some (some zblk, 6, 56) := by kernel_rfl

set_option maxRecDepth 100000 in
theorem made_blk (n i k : Nat) (hi : i < n) (v : Value) (h : (bcells fresh (.slice none 0 0))[k]? = some v) : (madeCells #[Value.slice none 0 0, .bool false, .int .i64 0, .int .i64 0, .bool false, .bool false] (n * 6)).toList[i * 6 + k]? = some v := by
  have hk : k < 6 := by simpa [bcells] using (List.getElem?_eq_some_iff.1 h).1
  have hlt : i * 6 + k < n * 6 := by omega
  unfold madeCells
  have hm : (i * 6 + k) % 6 = k := by omega
  simp [hlt, hm]
  match k, hk, h with
  | 0, _, h => simpa [bcells, fresh] using h
  | 1, _, h => simpa [bcells, fresh] using h
  | 2, _, h => simpa [bcells, fresh] using h
  | 3, _, h => simpa [bcells, fresh] using h
  | 4, _, h => simpa [bcells, fresh] using h
  | 5, _, h => simpa [bcells, fresh] using h

set_option maxRecDepth 100000 in
theorem wf_new (n pages : Nat) (b : Nat → Blk) (h1 : 0 < n) (h2 : n ≤ 64) (h3 : 0 < pages) (h4 : pages ≤ 32) (hb : ∀ i, (b i).doom = 0 ∧ (b i).pages = []) : Wf (Arr.new n pages b) :=
  ⟨h1, h2, h3, h4, by simp [Arr.new], by simp [Arr.new], fun i _ => by show (b i).doom ≤ _; rw [(hb i).1]; omega, fun i _ => by show (b i).pages.length ≤ _; rw [(hb i).2]; simp⟩

set_option maxRecDepth 100000 in
/-- The array as New lays it. -/
theorem arr_new (w w1 : World) (n pages : Nat) (h1 : 0 < n) (h2 : n ≤ 64) (h3 : 0 < pages) (h4 : pages ≤ 32)
    (hown : w1.ownsRow w.heap.size 123 6 (.slice (some ⟨w.heap.size, 0, none⟩) n n) n (madeCells #[Value.slice none 0 0, .bool false, .int .i64 0, .int .i64 0, .bool false, .bool false] (n * 6)).toList) :
    ArrIn (w1.alloc (.cells #[.slice (some ⟨w.heap.size, 0, none⟩) n n, .int .i64 pages, .int .u64 0, .int .i64 0, .bool false, .nilFunc, .int .i64 0, .int .i64 0] 118)) (fun d => w.heap.size ≤ d ∧ d < w1.heap.size + 1) (fun d => d = w.heap.size ∨ d = w1.heap.size) w1.heap.size w.heap.size (fun _ => .slice none 0 0) (fun _ => []) .nilFunc (Arr.new n pages (fun _ => fresh)) := by
  have hsz : w.heap.size < w1.heap.size := (hown.lt _ rfl).2
  have hg := heap_alloc_new w1 (.cells #[.slice (some ⟨w.heap.size, 0, none⟩) n n, .int .i64 pages, .int .u64 0, .int .i64 0, .bool false, .nilFunc, .int .i64 0, .int .i64 0] 118)
  have hold : ∀ d, d < w1.heap.size → (w1.alloc (.cells #[.slice (some ⟨w.heap.size, 0, none⟩) n n, .int .i64 pages, .int .u64 0, .int .i64 0, .bool false, .nilFunc, .int .i64 0, .int .i64 0] 118)).heap[d]? = w1.heap[d]? := fun d hd => Below.heap_alloc _ _ d hd
  have hs2 : (w1.alloc (.cells #[.slice (some ⟨w.heap.size, 0, none⟩) n n, .int .i64 pages, .int .u64 0, .int .i64 0, .bool false, .nilFunc, .int .i64 0, .int .i64 0] 118)).heap.size = w1.heap.size + 1 := by simp
  generalize hw2 : w1.alloc (.cells #[.slice (some ⟨w.heap.size, 0, none⟩) n n, .int .i64 pages, .int .u64 0, .int .i64 0, .bool false, .nilFunc, .int .i64 0, .int .i64 0] 118) = w2 at *
  clear hw2
  constructor
  · exact wf_new n pages _ h1 h2 h3 h4 (fun _ => ⟨rfl, rfl⟩)
  · intro k v hv
    unfold World.cell?
    rw [hg]
    simpa [gcells, Arr.new] using hv
  · intro k
    unfold World.frozen?
    rw [hg]
    simp
  · intro i hi k v hv
    rw [World.cell?_of_block (a := ⟨w.heap.size, _, none⟩) (hold _ hsz)]
    have hk : k < 6 := by simpa [bcells] using (List.getElem?_eq_some_iff.1 hv).1
    have hi' : i < n := hi
    rw [hown.cellAt (i * 6 + k) (by omega)]
    exact made_blk n i k hi v hv
  · intro k
    rw [World.frozen?_of_block (a := ⟨w.heap.size, _, none⟩) (hold _ hsz)]
    exact hown.frozenAt k
  · intro i _; exact World.ownsRow_nil _ _ _ _
  · intro i _ j l hl; simp [Arr.new, fresh] at hl
  · rfl
  · rintro d (rfl | rfl)
    · exact ⟨Nat.le_refl _, by omega⟩
    · exact ⟨by omega, by omega⟩
  · exact .inr rfl
  · exact .inl rfl
  · intro i _ d hd; cases hd
  · omega
  · intro i j _ _ _ d hd; cases hd
  · intro d hd; rw [hs2]; exact hd.2

/-- What New answers. -/
def Made (w : World) (s : Arr) (e : Ending) (w' : World) : Prop :=
  ∃ g, e = .returned (.tuple #[.pointer (some ⟨g, 0, none⟩), .int .i64 0]) ∧ ArrAt w' (fun d => w.heap.size ≤ d ∧ d < w'.heap.size) g s ∧ Below w.heap.size w w'

set_option maxRecDepth 100000 in
theorem newS_step (n pages : Nat) (bad : List Nat) (k : Nat) (h : k < bad.length) : newS n pages bad (k + 1) = { newS n pages bad k with b := upd (newS n pages bad k).b (bad.getD k 0) badBlk } := by
  unfold newS Arr.new
  congr 1
  funext j
  rw [take_getD bad k h]
  unfold upd
  by_cases e : j = bad.getD k 0
  · rw [if_pos (by rw [e]; simp), if_pos e]
  · rw [if_neg e]
    by_cases e2 : j ∈ bad.take k
    · rw [if_pos (List.mem_append_left _ e2)]
      exact (if_pos e2).symm
    · rw [if_neg (by simp only [List.mem_append, List.mem_singleton]; exact fun h => h.elim e2 e)]
      exact (if_neg e2).symm

set_option maxRecDepth 100000 in
set_option maxHeartbeats 1000000 in
theorem new_any (n pages : Nat) (bad : List Nat) (a : Option Addr) (cap : Nat) (w : World) (h1 : 0 < n) (h2 : n ≤ 64) (h3 : 0 < pages) (h4 : pages ≤ 32) (hb : ∀ x ∈ bad, x < n) (hlen : bad.length < 1000000)
    (hcell : 0 < bad.length → ∃ bb, a = some ⟨bb, 0, none⟩ ∧ ∀ j, j < bad.length → w.cell? ⟨bb, j, none⟩ = some (.int .i64 (bad.getD j 0 : Nat))) :
    Calls Tryd.prog 19 #[.int .i64 n, .int .i64 pages, .slice a bad.length cap] w (Made w (newS n pages bad bad.length)) := by
  obtain ⟨i0, hi0, hz0, hz1, hz2⟩ := info_parts info_blk
  have hn1 : (1 : Int) ≤ n ∧ (n : Int) ≤ 64 := by omega
  have hn2 : (1 : Int) ≤ pages ∧ (pages : Int) ≤ 32 := by omega
  have HB := Lib.hid hb
  have HCELL := Lib.hid hcell
  clear hb hcell
  go_enter Tryd.func19, Tryd.ntmps19
  go_wp2_with (first
    | (go_at_call 48; refine (within_yes _ _ _ _ (by omega) (by omega)).mono ?_; rintro e w' ⟨rfl, rfl⟩)
    | (at_make; refine wpList_make_full _ rfl _ _ 116 rfl w.heap.size 123 i0 (.agg #[Value.slice none 0 0, .bool false, .int .i64 0, .int .i64 0, .bool false, .bool false]) 6 Tryd.underlying116 hi0 hz0 hz1 .i64 .i64 n n n rfl rfl rfl rfl (by rw [hz2]; omega) (by unfold maxLen; omega) (Nat.le_refl _) ?_))
  intro w1 hown hgr
  have hin := arr_new w w1 n pages h1 h2 h3 h4 hown
  have hB : Below w.heap.size w w1 := (Below.refl _ _).grown hgr (Nat.le_refl _) (fun k hk => by cases hk)
  have hsz : w.heap.size < w1.heap.size := (hown.lt _ rfl).2
  have hin0 : Arr.new n pages (fun _ => fresh) = newS n pages bad 0 := by unfold newS; simp
  rw [hin0] at hin
  have hB2 : Below w.heap.size w (w1.alloc (.cells #[.slice (some ⟨w.heap.size, 0, none⟩) n n, .int .i64 pages, .int .u64 0, .int .i64 0, .bool false, .nilFunc, .int .i64 0, .int .i64 0] 118)) := hB.alloc hB.size _
  obtain ⟨g, hg⟩ : ∃ g, g = w1.heap.size := ⟨_, rfl⟩
  obtain ⟨hbk, hhb⟩ : ∃ hbk, hbk = w.heap.size := ⟨_, rfl⟩
  have HG := Lib.hid hg
  have HHB := Lib.hid hhb
  rw [← hg, ← hhb] at hin
  rw [← hhb] at hB2
  rw [← hhb]
  have hlen2 : (bad.length : Int) ≤ 1000000 := by omega
  clear hin0 hown hgr hB hi0 hz0 hz1 hz2 hg hhb
  go_wp2
  rw [← HG.out]
  go_loopw [27] (fun iv wr => ∃ (k : Nat) (F R : Nat → Prop), k ≤ bad.length ∧ iv = .int .i64 k ∧ Below hbk w wr ∧ ArrIn wr F R g hbk (fun _ => .slice none 0 0) (fun _ => []) .nilFunc (newS n pages bad k) ∧ Hid (F = fun d => hbk ≤ d ∧ d < wr.heap.size)) (fun iv _ => bad.length - (intOf iv).toNat)
  case atStart => exact ⟨0, _, _, Nat.zero_le _, rfl, hB2, hin, Lib.hid (by rw [HG.out]; funext d; simp)⟩
  case round =>
    obtain ⟨k, F, R, hk, rfl, hBr, hir, HFr⟩ := hrel
    clear hin hB2
    by_cases hlt : k < bad.length
    · obtain ⟨bb, rfl, hcell⟩ := HCELL.out (by omega)
      have hc0 := hcell k hlt
      have hx := HB.out _ (getD_mem bad k hlt)
      have hbw : bb < hbk := by rw [HHB.out]; exact World.block_lt_of_cell? w _ hc0
      have hc := (hBr.cell (p := ⟨bb, k, none⟩) hbw).trans hc0
      have hst := newS_step n pages bad k hlt
      generalize bad.getD k 0 = x at hc hx hst
      have c0 := hir.gc 0 _ rfl
      obtain ⟨ra, rc, hrow, hrc, b0, b1, b2, b3, b4, b5⟩ := hir.blk (i := x) hx
      have hbf := hir.bf
      have h4 := hir.setB x 4 (.bool true) { (newS n pages bad k).b x with fails := true } hx (by omega) rfl rfl (hir.wf.doom x hx)
      have h5 := h4.setB x 5 (.bool true) badBlk hx (by omega) (by
        show bcells badBlk _ = List.set (bcells (upd _ x _ x) _) 5 _
        rw [upd_same]
        unfold newS Arr.new
        dsimp only
        split <;> rfl) (by
        show _ = (upd _ x _ x).pages
        rw [upd_same]
        unfold newS Arr.new
        dsimp only
        split <;> rfl) (by decide)
      dsimp only at h5
      rw [upd_upd, ← hst] at h5
      have hgk : hbk ≤ hbk := Nat.le_refl _
      have hB5 := (hBr.setCell (p := ⟨hbk, x * 6 + 4, none⟩) hgk (.bool true)).setCell (p := ⟨hbk, x * 6 + 5, none⟩) hgk (.bool true)
      have H5 := Lib.hid h5
      have HB5 := Lib.hid hB5
      have hblk := block_in g hbk n x wr c0 h2 hx
      have HBL := Lib.hid hblk
      have HFF : Hid (F = fun d => hbk ≤ d ∧ d < ((wr.setCell ⟨hbk, x * 6 + 4, none⟩ (.bool true)).setCell ⟨hbk, x * 6 + 5, none⟩ (.bool true)).heap.size) := Lib.hid (by rw [HFr.out]; funext d; simp [World.setCell])
      clear hrow b0 b1 b2 b3 hir h4 h5 hB5 hst hblk hc0 hcell c0 hbw hBr
      go_wp2_with (go_at_call 49; refine HBL.out.mono ?_; rintro e w' ⟨rfl, rfl⟩)
      go_roundw
      case rel => exact ⟨k + 1, F, R, by omega, by go_num, HB5.out, H5.out, HFF⟩
      case measure => simp [intOf]; omega
    · obtain rfl : k = bad.length := by omega
      have hfin : Made w (newS n pages bad bad.length) (.returned (.tuple #[.pointer (some ⟨g, 0, none⟩), .int .i64 0])) wr := by
        have hB9 := hBr
        have hi9 := hir
        rw [HFr.out] at hi9
        rw [HHB.out] at hB9 hi9
        exact ⟨g, rfl, ⟨⟨(fun _ => rfl), (fun _ _ h => by cases h)⟩, R, _, _, _, _, hi9⟩, hB9⟩
      have HF9 := Lib.hid hfin
      clear hfin hir hBr
      go_wp2
      go_ret2
      exact HF9.out
end Go.Proofs.YtmhmmemmdekjhaaDoor.Nd
namespace Go.Proofs.YtmhmmemmdekjhaaDoor.Nd
open Go.RowKit
open Drawbar Drawbar.Nand
section
variable {w : World} {F R : Nat → Prop} {g hb : Nat} {rows : Nat → Value} {pv : Nat → List Value} {bv : Value} {s : Arr}

set_option maxRecDepth 100000 in
/-- What Restart lays behind what it resumes. -/
theorem restart_tail {R' : Nat → Prop} {rows' : Nat → Value} {pv' : Nat → List Value} {w1 : World} {s1 : Arr} {F1 : Nat → Prop} (h : ArrIn w1 F1 R' g hb rows' pv' bv s1) :
    ArrIn (((((w1.setCell ⟨g, 4, none⟩ (.bool false)).setCell ⟨g, 5, none⟩ .nilFunc).setCell ⟨g, 3, none⟩ (.int .i64 0)).setCell ⟨g, 2, none⟩ (.int .u64 0)).setCell ⟨g, 6, none⟩ (.int .i64 (wrap64 (s1.boots + 1)))) F1 R' g hb rows' pv' .nilFunc
      { s1 with off := false, begun := .no, armed := 0, fence := 0, boots := wrap64 (s1.boots + 1) } := by
  obtain ⟨a1, a2, a3, a4, a5, a6, a7, a8⟩ := h.wf
  have h1 := h.setG 4 (.bool false) { s1 with off := false } bv (by omega) rfl rfl rfl ⟨a1, a2, a3, a4, a5, a6, a7, a8⟩ h.begun
  have h2 := h1.setG 5 .nilFunc { s1 with off := false, begun := .no } .nilFunc (by omega) rfl rfl rfl ⟨a1, a2, a3, a4, a5, a6, a7, a8⟩ rfl
  have h3 := h2.setG 3 (.int .i64 0) { s1 with off := false, begun := .no, armed := 0 } .nilFunc (by omega) rfl rfl rfl ⟨a1, a2, a3, a4, a5, by simp, a7, a8⟩ rfl
  have h4 := h3.setG 2 (.int .u64 0) { s1 with off := false, begun := .no, armed := 0, fence := 0 } .nilFunc (by omega) rfl rfl rfl ⟨a1, a2, a3, a4, by simp, by simp, a7, a8⟩ rfl
  exact h4.setG 6 (.int .i64 (wrap64 (s1.boots + 1))) { s1 with off := false, begun := .no, armed := 0, fence := 0, boots := wrap64 (s1.boots + 1) } .nilFunc (by omega) rfl rfl rfl ⟨a1, a2, a3, a4, by simp, by simp, a7, a8⟩ rfl

/-- The world behind Restart's stores. -/
def tail5 (w1 : World) (g : Nat) (bo : Int) : World := ((((w1.setCell ⟨g, 4, none⟩ (.bool false)).setCell ⟨g, 5, none⟩ .nilFunc).setCell ⟨g, 3, none⟩ (.int .i64 0)).setCell ⟨g, 2, none⟩ (.int .u64 0)).setCell ⟨g, 6, none⟩ (.int .i64 (wrap64 (bo + 1)))

set_option maxRecDepth 100000 in
theorem resume_rest (s : Arr) (cut : Int) : (s.resume cut).boots = s.boots ∧ (s.resume cut).n = s.n := by
  unfold Arr.resume; split <;> exact ⟨rfl, rfl⟩

set_option maxRecDepth 100000 in
theorem restart_fin (h : ArrIn w F R g hb rows pv bv s) (cut : Int) {w1 : World} (hbc : Become w F R g hb bv (s.resume cut) w1) : Did w F g (0, s.restart cut) (.returned (.int .i64 0)) (tail5 w1 g s.boots) := by
  obtain ⟨R', rows', pv', h1, k1, hR1⟩ := hbc
  have ht := restart_tail h1
  rw [(resume_rest s cut).1] at ht
  refine ⟨rfl, ⟨⟨(fun _ => rfl), (fun _ _ h => by cases h)⟩, R', hb, rows', pv', .nilFunc, ?_⟩, ?_⟩
  · unfold tail5
    rw [ext_setCell, ext_setCell, ext_setCell, ext_setCell, ext_setCell]
    exact ht
  · have hF : F g := h.rf _ h.rg
    have k : Keep F w w1 := ⟨k1.os, k1.tape, k1.output, k1.size, fun k hk hf => k1.block k hk fun hr => hf (h.rf _ hr)⟩
    exact ((((k.setCell hF _).setCell hF _).setCell hF _).setCell hF _).setCell hF _

set_option maxRecDepth 100000 in
/-- The cells that Restart's stores want. -/
theorem tail_cells {F1 R' : Nat → Prop} {rows' : Nat → Value} {pv' : Nat → List Value} {w1 : World} {s1 : Arr} (h : ArrIn w1 F1 R' g hb rows' pv' bv s1) :
    w1.cell? ⟨g, 4, none⟩ = some (.bool s1.off) ∧ w1.cell? ⟨g, 5, none⟩ = some bv ∧ w1.cell? ⟨g, 3, none⟩ = some (.int .i64 s1.armed) ∧ w1.cell? ⟨g, 2, none⟩ = some (.int .u64 s1.fence) ∧ w1.cell? ⟨g, 6, none⟩ = some (.int .i64 s1.boots) ∧ ∀ k, w1.frozen? ⟨g, k, none⟩ = false :=
  ⟨h.gc 4 _ rfl, h.gc 5 _ rfl, h.gc 3 _ rfl, h.gc 2 _ rfl, h.gc 6 _ rfl, h.gf⟩

set_option maxRecDepth 100000 in
theorem restart_no (h : ArrIn w F R g hb rows pv bv s) (cut : Int) (hb0 : s.begun = .no) :
    Calls Tryd.prog 32 #[.pointer (some ⟨g, 0, none⟩), .int .i64 cut] w (Did w F g (0, s.restart cut)) := by
  have hbv : bv = .nilFunc := by have := h.begun; rw [hb0] at this; exact this
  subst hbv
  have hfin := restart_fin h cut (w1 := w) (by rw [show s.resume cut = s by unfold Arr.resume; rw [hb0]]; exact Become.same h)
  have HF := Lib.hid hfin
  generalize Did w F g (0, s.restart cut) = P at HF ⊢
  obtain ⟨c4, c5, c3, c2, c6, hgf⟩ := tail_cells h
  have hnil : ∀ w : World, (binOp .neq 94 .nilFunc .nilFunc).run Tryd.prog w = .ok (.bool false) w := fun _ => by kernel_rfl
  clear h hfin hb0
  generalize s.boots = bo at *
  generalize s.off = so at *
  go_enter Tryd.func32, Tryd.ntmps32
  go_wp2
  exact HF.out

set_option maxRecDepth 100000 in
theorem restart_call (h : ArrIn w F R g hb rows pv bv s) (cut : Int) (K : Nat) (first caps : Array Value) (hbv : bv = .func (.func K) first caps) (heg : ∀ args W, (callFunc K args).run Tryd.prog W = .ok (.enter K args) W)
    (hcall : Calls Tryd.prog K (first ++ #[.int .i64 cut] ++ caps) w fun e w' => e = .returned (.tuple #[]) ∧ Become w F R g hb bv (s.resume cut) w') :
    Calls Tryd.prog 32 #[.pointer (some ⟨g, 0, none⟩), .int .i64 cut] w (Did w F g (0, s.restart cut)) := by
  subst hbv
  have hfin := fun w1 h1 => restart_fin h cut (w1 := w1) h1
  have HF := Lib.hid hfin
  generalize Did w F g (0, s.restart cut) = P at HF ⊢
  obtain ⟨c4, c5, c3, c2, c6, hgf⟩ := tail_cells h
  have hnil : ∀ w : World, (binOp .neq 94 (.func (.func K) first caps) .nilFunc).run Tryd.prog w = .ok (.bool true) w := fun _ => by kernel_rfl
  have hbo := (resume_rest s cut).1
  have HC := Lib.hid hcall
  have HBO := Lib.hid hbo
  clear h hfin hbo hcall c4 c3 c2 c6 hgf
  generalize s.boots = bo at *
  generalize s.resume cut = s1 at *
  go_enter Tryd.func32, Tryd.ntmps32
  go_wp2_with fail
  refine HC.out.mono ?_
  rintro e w1 ⟨rfl, hb1⟩
  have HP := Lib.hid (HF.out w1 hb1)
  obtain ⟨R', rows', pv', h1, -, -⟩ := hb1
  obtain ⟨c4, c5', c3, c2, c6, hgf⟩ := tail_cells h1
  rw [HBO.out] at c6
  clear h1 HF HC HBO c5
  generalize s1.off = so at *
  generalize s1.armed = sa at *
  generalize s1.fence = sf at *
  go_wp2
  exact HP.out

set_option maxRecDepth 100000 in
theorem restart_any (h : ArrIn w F R g hb rows pv bv s) (hid : Idle s) (cut : Int) :
    Calls Tryd.prog 32 #[.pointer (some ⟨g, 0, none⟩), .int .i64 cut] w (Did w F g (0, s.restart cut)) := by
  cases hbe : s.begun with
  | no => exact restart_no h cut hbe
  | lay i p =>
    have hbg := h.begun
    rw [hbe] at hbg
    obtain ⟨hi, x, y, v, hbv, hx, hy, hp, -⟩ := hbg
    have hc := prog1_any h i hi x y v p cut hx hy hp (hid.room i p hbe)
    rw [show ({ s with b := upd s.b i ((s.b i).lay p cut) } : Arr) = s.resume cut by unfold Arr.resume; rw [hbe]] at hc
    exact restart_call h cut _ _ _ hbv (fun _ _ => rfl) hc
  | erase i =>
    have hbg := h.begun
    rw [hbe] at hbg
    obtain ⟨hi, hbv⟩ := hbg
    have hc := erase_any h i hi cut
    rw [show ({ s with b := upd s.b i ((s.b i).erase cut) } : Arr) = s.resume cut by unfold Arr.resume; rw [hbe]] at hc
    exact restart_call h cut _ _ _ hbv (fun _ _ => rfl) hc
end
end Go.Proofs.YtmhmmemmdekjhaaDoor.Nd
namespace Go.Proofs.YtmhmmemmdekjhaaDoor.Nd
open Go.RowKit
open Drawbar Drawbar.Nand

set_option maxRecDepth 100000 in
theorem ArrAt.keep {w w' : World} {F : Nat → Prop} {g : Nat} {s : Arr} (h : ArrAt w F g s) (hb : Below w.heap.size w w') : ArrAt w' F g s := by
  obtain ⟨hid, R, hbk, rows, pv, bv, h⟩ := h
  exact ⟨hid, R, hbk, rows, pv, bv, h.keep (fun d hd => hb.block d (h.bound d hd)) (fun _ h => h) (fun d hd => Nat.lt_of_lt_of_le (h.bound d hd) hb.size)⟩
set_option maxRecDepth 100000 in
theorem ArrAt.bound {w : World} {F : Nat → Prop} {g : Nat} {s : Arr} (h : ArrAt w F g s) (d : Nat) (hd : F d) : d < w.heap.size := by
  obtain ⟨hid, R, hbk, rows, pv, bv, h⟩ := h
  exact h.bound d hd

section
variable {w : World} {F : Nat → Prop} {g : Nat} {s : Arr}

set_option maxRecDepth 100000 in
theorem program_at (h : ArrAt w F g s) (i page : Int) (l : List Nat) (a : Option Addr) (cap epoch : Nat) (hr : Rd w a l) (n : Nat) (hn : l.length = n) :
    Calls Tryd.prog 22 #[.pointer (some ⟨g, 0, none⟩), .int .i64 i, .int .i64 page, .slice a n cap, .int .u64 epoch] w (Did w F g (s.program i page l epoch)) := by
  obtain ⟨hid, R, hbk, rows, pv, bv, h⟩ := h
  subst hn
  unfold Arr.program
  by_cases hi : inB i s.n
  · rw [if_neg (fun h => h hi)]
    obtain ⟨i, rfl⟩ : ∃ j : Nat, i = j := ⟨i.toNat, by have := hi.1; omega⟩
    have hi2 : i < s.n := by have := hi.2; omega
    simp only [Int.toNat_natCast]
    by_cases hoff : s.off = true
    · rw [if_pos hoff]
      exact program_off h hid i page a _ cap epoch hi2 hoff
    · rw [if_neg hoff]
      have hoff2 : s.off = false := by simpa using hoff
      by_cases hp : inB page s.pages
      · rw [if_neg (fun h => h hp)]
        have hp1 := hp.1
        have hp2 : page ≤ (s.pages : Int) - 1 := by have := hp.2; omega
        by_cases h96 : l.length = 96
        · rw [if_neg (fun h => h h96)]
          have main := program_main h hid i l a cap epoch hi2 hoff2
          have hfence := fun x1 x2 x3 => program_fence h hid i a cap epoch hi2 hoff2 x1 x2 x3
          have htorn := fun x1 x2 => program_torn h hid i a cap epoch hi2 hoff2 x1 x2
          have horder := fun x1 => program_order h hid i page a cap epoch hi2 hoff2 hp1 hp2 x1
          rw [h96]
          by_cases ho : page = (s.b i).pages.length
          · subst ho
            have hlt : (s.b i).pages.length < s.pages := by omega
            by_cases ht : (s.b i).torn = true
            · rw [if_pos (.inr ht)]
              exact htorn hlt ht
            · rw [if_neg (by simpa using ht)]
              have ht2 : (s.b i).torn = false := by simpa using ht
              by_cases hf : epoch < s.fence
              · rw [if_pos hf]
                exact hfence hlt ht2 hf
              · rw [if_neg hf]
                exact main hlt ht2 (by omega) hr h96
          · rw [if_pos (.inl ho)]
            exact horder ho
        · rw [if_pos h96]
          exact program_form h hid i page a _ cap epoch hi2 hoff2 hp1 hp2 h96
      · rw [if_pos hp]
        exact program_page h hid i page a _ cap epoch hi2 hoff2 (by unfold inB at hp; omega)
  · rw [if_pos hi]
    exact program_out h hid i page a _ cap epoch hi

set_option maxRecDepth 100000 in
theorem erase_at (h : ArrAt w F g s) (i : Int) (epoch : Nat) : Calls Tryd.prog 24 #[.pointer (some ⟨g, 0, none⟩), .int .i64 i, .int .u64 epoch] w (Did w F g (s.erase i epoch)) := by
  obtain ⟨hid, R, hbk, rows, pv, bv, h⟩ := h
  unfold Arr.erase
  by_cases hi : inB i s.n
  · rw [if_neg (fun h => h hi)]
    obtain ⟨i, rfl⟩ : ∃ j : Nat, i = j := ⟨i.toNat, by have := hi.1; omega⟩
    have hi2 : i < s.n := by have := hi.2; omega
    simp only [Int.toNat_natCast]
    by_cases hoff : s.off = true
    · rw [if_pos hoff]
      exact erasem_off h hid i epoch hi2 hoff
    · rw [if_neg hoff]
      have hoff2 : s.off = false := by simpa using hoff
      by_cases hf : epoch < s.fence
      · rw [if_pos hf]
        exact erasem_fence h hid i epoch hi2 hoff2 hf
      · rw [if_neg hf]
        exact erasem_main h hid i epoch hi2 hoff2 (by omega)
  · rw [if_pos hi]
    exact erasem_out h hid i epoch hi

set_option maxRecDepth 100000 in
theorem read_at (h : ArrAt w F g s) (i page : Int) : Calls Tryd.prog 74 #[.pointer (some ⟨g, 0, none⟩), .int .i64 i, .int .i64 page] w fun e w' => Tells w (s.read i page) e w' ∧ ArrAt w' F g s := by
  have h0 := h
  obtain ⟨hid, R, hbk, rows, pv, bv, h⟩ := h
  refine (read_any h i page).mono fun e w' ht => ⟨ht, ?_⟩
  obtain ⟨_, _, _, _, _, hb, _⟩ := ht
  exact h0.keep hb

set_option maxRecDepth 100000 in
theorem restart_at (h : ArrAt w F g s) (cut : Int) : Calls Tryd.prog 32 #[.pointer (some ⟨g, 0, none⟩), .int .i64 cut] w (Did w F g (0, s.restart cut)) := by
  obtain ⟨hid, R, hbk, rows, pv, bv, h⟩ := h
  exact restart_any h hid cut
set_option maxRecDepth 100000 in
theorem arm_at (h : ArrAt w F g s) (n : Int) (hn : n ≤ 9223372036854775807) : Calls Tryd.prog 26 #[.pointer (some ⟨g, 0, none⟩), .int .i64 n] w (Did w F g (s.arm n)) := by
  obtain ⟨hid, R, hbk, rows, pv, bv, h⟩ := h
  exact arm_any h hid n hn
set_option maxRecDepth 100000 in
theorem next_at (h : ArrAt w F g s) (i : Nat) (hi : i < s.n) : Calls Tryd.prog 27 #[.pointer (some ⟨g, 0, none⟩), .int .i64 i] w fun e w' => e = .returned (.int .i64 (s.b i).pages.length) ∧ w = w' := by
  obtain ⟨hid, R, hbk, rows, pv, bv, h⟩ := h
  exact next_in h i hi
set_option maxRecDepth 100000 in
theorem new_at (n pages : Nat) (w : World) (h1 : 0 < n) (h2 : n ≤ 64) (h3 : 0 < pages) (h4 : pages ≤ 32) :
    Calls Tryd.prog 19 #[.int .i64 n, .int .i64 pages, .slice none 0 0] w (Made w (Arr.new n pages (fun _ => fresh))) := by
  have := new_any n pages [] none 0 w h1 h2 h3 h4 (fun x hx => by cases hx) (by simp) (fun h => by simp at h)
  have e : newS n pages [] 0 = Arr.new n pages (fun _ => fresh) := by unfold newS; simp
  rw [List.length_nil, e] at this
  exact this
end

/-- A law's array: its memory lies from B on. -/
structure Mine (B : Nat) (w : World) (g : Nat) (s : Arr) : Prop where
  arr : ∃ F, ArrAt w F g s ∧ ∀ k, F k → B ≤ k
/-- A call of a law's. -/
def Does (B : Nat) (w : World) (g : Nat) (r : Int × Arr) (e : Ending) (w' : World) : Prop := e = .returned (.int .i64 r.1) ∧ Mine B w' g r.2 ∧ Below B w w'
set_option maxRecDepth 100000 in
theorem Did.does {B : Nat} {w w' : World} {F : Nat → Prop} {g : Nat} {r : Int × Arr} {e : Ending} (h : Did w F g r e w') (hF : ∀ k, F k → B ≤ k) (hB : B ≤ w.heap.size) : Does B w g r e w' :=
  ⟨h.1, ⟨_, h.2.1, fun k hk => hk.elim (hF k) fun h3 => Nat.le_trans hB h3.1⟩, h.2.2.toBelow hF hB⟩
section
variable {B : Nat} {w : World} {g : Nat} {s : Arr}
set_option maxRecDepth 100000 in
theorem program_m (h : Mine B w g s) (hB : B ≤ w.heap.size) (i page : Int) (l : List Nat) (a : Option Addr) (cap epoch : Nat) (hr : Rd w a l) (n : Nat) (hn : l.length = n) :
    Calls Tryd.prog 22 #[.pointer (some ⟨g, 0, none⟩), .int .i64 i, .int .i64 page, .slice a n cap, .int .u64 epoch] w (Does B w g (s.program i page l epoch)) := by
  obtain ⟨F, h, hF⟩ := h.arr
  exact (program_at h i page l a cap epoch hr n hn).mono fun e w' hd => hd.does hF hB
set_option maxRecDepth 100000 in
theorem erase_m (h : Mine B w g s) (hB : B ≤ w.heap.size) (i : Int) (epoch : Nat) : Calls Tryd.prog 24 #[.pointer (some ⟨g, 0, none⟩), .int .i64 i, .int .u64 epoch] w (Does B w g (s.erase i epoch)) := by
  obtain ⟨F, h, hF⟩ := h.arr
  exact (erase_at h i epoch).mono fun e w' hd => hd.does hF hB
set_option maxRecDepth 100000 in
theorem restart_m (h : Mine B w g s) (hB : B ≤ w.heap.size) (cut : Int) : Calls Tryd.prog 32 #[.pointer (some ⟨g, 0, none⟩), .int .i64 cut] w (Does B w g (0, s.restart cut)) := by
  obtain ⟨F, h, hF⟩ := h.arr
  exact (restart_at h cut).mono fun e w' hd => hd.does hF hB
set_option maxRecDepth 100000 in
theorem arm_m (h : Mine B w g s) (hB : B ≤ w.heap.size) (n : Int) (hn : n ≤ 9223372036854775807) : Calls Tryd.prog 26 #[.pointer (some ⟨g, 0, none⟩), .int .i64 n] w (Does B w g (s.arm n)) := by
  obtain ⟨F, h, hF⟩ := h.arr
  exact (arm_at h n hn).mono fun e w' hd => hd.does hF hB
set_option maxRecDepth 100000 in
theorem read_m (h : Mine B w g s) (i page : Int) : Calls Tryd.prog 74 #[.pointer (some ⟨g, 0, none⟩), .int .i64 i, .int .i64 page] w fun e w' => Tells w (s.read i page) e w' ∧ Mine B w' g s := by
  obtain ⟨F, h, hF⟩ := h.arr
  exact (read_at h i page).mono fun e w' hd => ⟨hd.1, ⟨F, hd.2, hF⟩⟩
set_option maxRecDepth 100000 in
theorem Mine.keep (h : Mine B w g s) {w' : World} (hb : Below w.heap.size w w') : Mine B w' g s := by
  obtain ⟨F, h, hF⟩ := h.arr
  exact ⟨F, h.keep hb, hF⟩
set_option maxRecDepth 100000 in
theorem Mine.base (h : Mine B w g s) {B' : Nat} (hb : B' ≤ B) : Mine B' w g s := by
  obtain ⟨F, h, hF⟩ := h.arr
  exact ⟨F, h, fun k hk => Nat.le_trans hb (hF k hk)⟩
set_option maxRecDepth 100000 in
theorem next_m (h : Mine B w g s) (i : Nat) (hi : i < s.n) : Calls Tryd.prog 27 #[.pointer (some ⟨g, 0, none⟩), .int .i64 i] w fun e w' => e = .returned (.int .i64 (s.b i).pages.length) ∧ w = w' := by
  obtain ⟨F, h, hF⟩ := h.arr
  exact next_at h i hi
end
set_option maxRecDepth 100000 in
/-- What New makes. -/
theorem Made.mine {w w' : World} {s : Arr} {e : Ending} (h : Made w s e w') : ∃ g, e = .returned (.tuple #[.pointer (some ⟨g, 0, none⟩), .int .i64 0]) ∧ Mine w.heap.size w' g s ∧ Below w.heap.size w w' := by
  obtain ⟨g, he, h1, h2⟩ := h
  exact ⟨g, he, ⟨_, h1, fun k hk => hk.1⟩, h2⟩
end Go.Proofs.YtmhmmemmdekjhaaDoor.Nd
