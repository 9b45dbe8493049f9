/- The contract of On (package pmap): the addresses on a block, by their pages. -/
import Derived.Test.YtfehioapjoihkaaPCmp
import Derived.Test.YtfehioapjoihkaaInts
import Derived.Test.YtfehioapjoihkaaPNew
namespace Drawbar.Pm
def St.onTo (s : St) (b n : Nat) : List Nat := (List.range n).filter fun k => on b (s.at_ k)
theorem onTo_succ (s : St) (b n : Nat) : s.onTo b (n + 1) = s.onTo b n ++ if on b (s.at_ n) then [n] else [] := by
  unfold St.onTo
  rw [List.range_succ, List.filter_append]
  congr 1
  cases h : on b (s.at_ n) <;> simp [h]
theorem onTo_len (s : St) (b n : Nat) : (s.onTo b n).length ≤ n := by
  unfold St.onTo
  have := List.length_filter_le (fun k => on b (s.at_ k)) (List.range n)
  simpa using this
theorem onTo_lt (s : St) (b n : Nat) : ∀ x ∈ s.onTo b n, x < n := fun x hx => by
  have := (List.mem_filter.1 hx).1
  simpa using this
end Drawbar.Pm
namespace Go.Proofs.Ytfehioapjoihkaa
open Go.RowKit Go.Sort Go.Shelf Go.Lib
open Drawbar Drawbar.Pm Drawbar.Stab

theorem at_two (w : World) (o : Obj) (k : Nat) : At ((w.alloc o).alloc (.cells #[.int .i64 k] 3)) (some ⟨w.heap.size + 1, 0, none⟩) [nv k] := by
  have h := At.one (w.alloc o) (nv k) 3
  rw [show (w.alloc o).heap.size = w.heap.size + 1 by simp] at h
  exact h
/-- By their pages, rising. -/
def ByPage (s : St) (l : List Nat) : Prop := l.Pairwise fun x y => pgOf (s.at_ x) ≤ pgOf (s.at_ y)
/-- The addresses on a block, by their pages. -/
def Ons (s : St) (b : Nat) (w : World) (e : Ending) (w' : World) : Prop :=
  ∃ a l c, e = .returned (.slice a l.length c) ∧ RdN w' a l ∧ l.Perm (s.ons b) ∧ ByPage s l ∧ Below w.heap.size w w'

theorem on_other {s : St} {w : World} {g pb cb : Nat} (h : MapAt w g pb cb s) (i : Int) (hi : ¬ inR i s.blocks) : Calls Try.prog 19 #[.pointer (some ⟨g, 0, none⟩), .int .i64 i] w fun e w' => e = .returned (.slice none 0 0) ∧ Below w.heap.size w w' := by
  have HC := Lib.hid (count_out (h.alloc (.cells #[.pointer (some ⟨g, 0, none⟩)] 24)) i hi)
  clear h hi
  go_enter Try.func19, Try.ntmps19
  go_wp2_with (go_at_call 17; (with_reducible refine HC.out.mono ?_); rintro e w' ⟨rfl, rfl⟩)
  go_ret
  exact ⟨rfl, (Below.refl _ _).alloc (Nat.le_refl _) _⟩

/-- The sort of addresses, by their pages. -/
theorem sort_on {s : St} {w : World} {g pb cb : Nat} (h : MapAt w g pb cb s) (bm gb cap : Nat) (l : List Nat) (hm : w.cell? ⟨bm, 0, none⟩ = some (.pointer (some ⟨g, 0, none⟩))) (hl : ∀ x ∈ l, x < s.addrs) (hlen : l.length < 40)
    (hc : ∀ i, i < l.length → w.cell? ⟨gb, i, none⟩ = some (.int .i64 (l.getD i 0 : Nat)) ∧ w.frozen? ⟨gb, i, none⟩ = false) (hgb : gb < w.heap.size) (n1 : gb ≠ bm) (n2 : gb ≠ g) (n3 : gb ≠ pb) :
    Calls Try.prog 33 #[.slice (some ⟨gb, 0, none⟩) l.length cap, .func (.func 34) #[] #[.pointer (some ⟨bm, 0, none⟩)]] w fun e w' =>
      e = .returned (.tuple #[]) ∧ ∃ l', l'.Perm l ∧ ByPage s l' ∧ RdN w' (some ⟨gb, 0, none⟩) l' ∧ Only (fun k => k = gb) w w' := by
  haveI : Inhabited (Fin s.addrs) := ⟨⟨0, h.wf.a0⟩⟩
  obtain ⟨dl, hdl⟩ := exists_fin s.addrs l hl
  have hdl2 : dl.toArray.toList.map (fun x : Fin s.addrs => x.val) = l := hdl
  have hsz : dl.toArray.size = l.length := by rw [← hdl]; simp
  have hH : Holds (fun x : Fin s.addrs => nv x.val) w gb 0 dl.toArray := holds_nat (fun x => x.val) (fun _ => rfl) hdl2 hc
  have hlt : ∀ x y : Fin s.addrs, ltOf (fun x y : Fin s.addrs => cmpI (pgOf (s.at_ x.val)) (pgOf (s.at_ y.val))) x y = decide (pgOf (s.at_ x.val) < pgOf (s.at_ y.val)) := fun x y => by
    unfold ltOf
    exact decide_eq_decide.2 (cmpI_neg _ _)
  have hS : SWO (ltOf (fun x y : Fin s.addrs => cmpI (pgOf (s.at_ x.val)) (pgOf (s.at_ y.val)))) := by
    refine ⟨fun x => ?_, fun x y z h1 h2 => ?_, fun x y z h1 h2 => ?_⟩
    · rw [hlt]; exact decide_eq_false (by omega)
    · rw [hlt, decide_eq_true_eq] at h1 h2 ⊢; omega
    · rw [hlt, decide_eq_false_iff_not] at h1 h2 ⊢; omega
  have hC : CmpLays1 Try.prog 34 #[.pointer (some ⟨bm, 0, none⟩)] (fun x : Fin s.addrs => nv x.val) (fun x y : Fin s.addrs => cmpI (pgOf (s.at_ x.val)) (pgOf (s.at_ y.val))) gb 0 dl.toArray.size w := by
    intro m os dk _ x y
    have ho : Only (fun k => k = gb) w (sortWorld (fun x : Fin s.addrs => nv x.val) w gb 0 m dk os) := SW.only ⟨m, os, rfl⟩
    generalize sortWorld (fun x : Fin s.addrs => nv x.val) w gb 0 m dk os = W at ho
    have hp := World.block_lt_of_cell? w _ hm
    refine (onCmp_any bm g pb s.addrs x.val y.val _ _ W ((World.cell?_of_block (a := ⟨bm, 0, none⟩) (ho.block bm hp (Ne.symm n1))).trans hm) ((World.cell?_of_block (a := ⟨g, 0, none⟩) (ho.block g h.gl (Ne.symm n2))).trans h.c0) x.isLt y.isLt
      ((World.cell?_of_block (a := ⟨pb, x.val * 2 + 1, none⟩) (ho.block pb h.pbl (Ne.symm n3))).trans (h.raw.pl x.val x.isLt).2) ((World.cell?_of_block (a := ⟨pb, y.val * 2 + 1, none⟩) (ho.block pb h.pbl (Ne.symm n3))).trans (h.raw.pl y.val y.isLt).2)).mono ?_
    rintro e w' ⟨he, q, hq⟩
    exact ⟨he, q, #[], by rw [hq, grow_empty]⟩
  have hs := sortStable_any (fun x : Fin s.addrs => nv x.val) _ 34 #[.pointer (some ⟨bm, 0, none⟩)] gb 0 cap dl.toArray w (enters_of Try.func34 (by kernel_rfl) rfl) hC ⟨fun _ => rfl, hH, hgb⟩ hS (by omega)
  rw [hsz] at hs
  refine hs.mono ?_
  rintro e w' ⟨he, d', M, S'⟩
  have hz := M.out.perm.1
  rw [hsz] at hz
  refine ⟨he, d'.toList.map (fun x => x.val), ?_, ?_, rdN_of_holds (fun x : Fin s.addrs => x.val) (fun _ => rfl) (S'.out.holds hgb hH (by omega)), SW.only S'.out⟩
  · have hp := M.out.perm.2.2
    rw [show d'.extract 0 l.length = d' by rw [← hz]; simp, show dl.toArray.extract 0 l.length = dl.toArray by rw [← hsz]; simp] at hp
    have := hp.map (fun x : Fin s.addrs => x.val)
    rw [hdl2] at this
    exact this
  · unfold ByPage
    rw [List.pairwise_map, List.pairwise_iff_getElem]
    intro i j hi hj hij
    have hi2 : i < d'.size := by simpa using hi
    have hj2 : j < d'.size := by simpa using hj
    have := M.out.sorted i j (Nat.zero_le _) hij (by omega)
    rw [hlt, decide_eq_false_iff_not, getElem!_pos d' i hi2, getElem!_pos d' j hj2] at this
    simp only [Array.getElem_toList]
    omega

set_option maxHeartbeats 1000000 in
theorem on_in {s : St} {w : World} {g pb cb : Nat} (h : MapAt w g pb cb s) (ha : Apart s) (b : Nat) (hb : b < s.blocks) : Calls Try.prog 19 #[.pointer (some ⟨g, 0, none⟩), .int .i64 b] w (Ons s b w) := by
  obtain ⟨i0, hi, hz0, hz1, hz2⟩ := info_parts info_int
  have hw := h.alloc (.cells #[.pointer (some ⟨g, 0, none⟩)] 24)
  have HC := Lib.hid (count_in hw b hb)
  have h32 := cnt_32 h.wf ha b
  have hlen := ons_length s b
  have a9 := h.wf.a9
  by_cases h0 : s.cnt b = 0
  · have hfin : Ons s b w (.returned (.slice none 0 0)) (w.alloc (.cells #[.pointer (some ⟨g, 0, none⟩)] 24)) :=
      ⟨none, [], 0, rfl, rdN_nil _ _, by rw [List.eq_nil_of_length_eq_zero (hlen.trans h0)], List.Pairwise.nil, (Below.refl _ _).alloc (Nat.le_refl _) _⟩
    have HF := Lib.hid hfin
    rw [h0] at HC
    clear h hw hlen hfin h0 h32
    go_enter Try.func19, Try.ntmps19
    go_wp2_with (go_at_call 17; (with_reducible refine HC.out.mono ?_); rintro e w' ⟨rfl, rfl⟩)
    go_ret
    exact HF.out
  · have hne : ((s.cnt b : Int) == 0) = false := by simp; omega
    have H := Lib.hid h
    have HLN := Lib.hid (show 0 < (s.ons b).length ∧ (s.ons b).length < 40 by omega)
    have hgl := h.gl
    have hpl := h.pbl
    generalize s.cnt b = x at *
    clear h hw hlen h0 h32
    go_enter Try.func19, Try.ntmps19
    have c0 := H.out.c0
    go_wp2_with (go_at_call 17; (with_reducible refine HC.out.mono ?_); rintro e w' ⟨rfl, rfl⟩)
    go_loopw [5, 17] (fun v i wr => ∃ k : Nat, k ≤ s.addrs ∧ i = .int .i64 k ∧ Below (w.heap.size + 1) (w.alloc (.cells #[.pointer (some ⟨g, 0, none⟩)] 24)) wr ∧ wr.ownsRow (w.heap.size + 1) 3 1 v (s.onTo b k).length ((s.onTo b k).map nv)) (fun _ i _ => s.addrs - (intOf i).toNat)
    case atStart => exact ⟨0, Nat.zero_le _, rfl, Below.refl _ _, World.ownsRow_nil _ _ _ 1⟩
    case round =>
      obtain ⟨k, hk, rfl, hbb, hown⟩ := hrel
      have hb1 : Below (w.alloc (.cells #[.pointer (some ⟨g, 0, none⟩)] 24)).heap.size (w.alloc (.cells #[.pointer (some ⟨g, 0, none⟩)] 24)) wr := by simpa using hbb
      have hM := (H.out.alloc (.cells #[.pointer (some ⟨g, 0, none⟩)] 24)).below hb1
      have HM := Lib.hid hM
      have hsz := hbb.size
      simp at hsz
      have hl1 := onTo_len s b k
      by_cases hlt : k < s.addrs
      · obtain ⟨p0, p1⟩ := hM.raw.pl k hlt
        have i1 : (k : Int) < (s.addrs : Int) := by omega
        have hu := onTo_succ s b k
        have hp2 : pb < wr.heap.size := hM.pbl
        cases hon : on b (s.at_ k) with
        | true =>
          obtain ⟨p, hp⟩ := on_iff.1 hon
          rw [hon, if_pos rfl] at hu
          rw [hp] at p0 p1
          simp only [blkOf, pgOf] at p0 p1
          have HU := Lib.hid hu
          clear hu hon hp hM
          go_wp2_with (at_builtin; refine wpList_append_ownz rfl (.tmp 26) (.tmp 28) 43 rfl (w.heap.size + 1) 3 i0 (.int .i64 0) 1 8 Try.underlying43 hi hz0 hz1 hz2 rfl (by decide) _ (s.onTo b k).length ((s.onTo b k).map nv) rfl ((hown.alloc _).alloc _) (some ⟨wr.heap.size + 1, 0, none⟩) 1 1 [nv k] rfl (fun h => by cases h) rfl (at_two wr _ k) (by simp [Value.oneCell', nv]) (by unfold maxLen; omega) (by omega) (by simp; omega) ?_; intro v6 w6 hown6 hb6)
          go_roundw
          case rel =>
            refine ⟨k + 1, by omega, by go_num, hbb.trans ((((Below.refl _ _).alloc (by omega) _).alloc (by simp; omega) _).trans hb6), ?_⟩
            rw [HU.out, List.map_append, List.length_append]
            exact hown6
          case measure => simp [intOf]; omega
        | false =>
          rw [hon, if_neg (by decide), List.append_nil] at hu
          have HU := Lib.hid hu
          have hq : (blkOf (s.at_ k) == (b : Int)) = false := by
            cases hv : s.at_ k with
            | none => simp [blkOf]
            | some v =>
              obtain ⟨c, p⟩ := v
              rw [hv] at hon
              simp [on] at hon
              simp [blkOf]; omega
          generalize blkOf (s.at_ k) = y at *
          generalize pgOf (s.at_ k) = z at *
          clear hu hon hM
          go_wp2
          go_roundw
          case rel =>
            refine ⟨k + 1, by omega, by go_num, hbb.trans ((Below.refl _ _).alloc (by omega) _), ?_⟩
            rw [HU.out]
            exact hown.alloc _
          case measure => simp [intOf]; omega
      · obtain rfl : k = s.addrs := by omega
        rcases shape_nat hown with ⟨rfl, he⟩ | ⟨gb, c, rfl, hg1, hg2⟩
        · have := HLN.out.1
          rw [show s.ons b = s.onTo b s.addrs from rfl, he] at this
          exact absurd this (by simp)
        · have hcl := fun i hi => cells_of_own hown i hi
          have hbm : wr.cell? ⟨w.heap.size, 0, none⟩ = some (.pointer (some ⟨g, 0, none⟩)) := by rw [hb1.cell (by simp)]; simp
          have hsrt := sort_on hM w.heap.size gb c (s.onTo b s.addrs) hbm (onTo_lt s b s.addrs) HLN.out.2 hcl hg2 (by omega) (by omega) (by omega)
          have HS := Lib.hid hsrt
          have HB := Lib.hid hbb
          have i1 : ¬ (s.addrs : Int) < (s.addrs : Int) := by omega
          clear hsrt hcl hM hown hb1 hbm hbb
          go_wp2_with fail
          (with_reducible refine HS.out.mono ?_)
          rintro e w4 ⟨rfl, l', hp, hby, hrd, hon⟩
          have hlen2 := hp.length_eq
          have hfin : Ons s b w (.returned (.slice (some ⟨gb, 0, none⟩) (s.onTo b s.addrs).length c)) w4 :=
            ⟨_, l', c, by rw [hlen2], hrd, hp, hby, ((Below.refl _ _).alloc (Nat.le_refl _) _).trans ((HB.out.mono (Nat.le_succ _)).trans (hon.toBelow (fun k hk => by rw [hk]; omega) (by omega)))⟩
          have HF := Lib.hid hfin
          clear hfin hp hby hrd hon hlen2
          go_wp2
          go_ret
          exact HF.out
end Go.Proofs.Ytfehioapjoihkaa
