/- The contracts of logbook.begin and logbook.goOn. -/
import Derived.Test.YtcbgccmoeleanaaDoorLogA
import Derived.Deep.RegionHeld
namespace Drawbar.Log
open Go.RowKit
open Go.Proofs.YtcbgccmoeleanaaDoor Drawbar Drawbar.Sheet Drawbar.Nand

theorem ite_np (c : Prop) [Decidable c] (x : Int) (s : Arr) (r : Int × Arr) (n p : Nat) (h1 : s.n = n ∧ s.pages = p) (h2 : r.2.n = n ∧ r.2.pages = p) : (if c then (x, s) else r).2.n = n ∧ (if c then (x, s) else r).2.pages = p := by
  by_cases h : c
  · rw [if_pos h]; exact h1
  · rw [if_neg h]; exact h2
theorem operate_np (s : Arr) (i : Nat) (bg : Begun) (what : Blk → Blk) : (s.operate i bg what).2.n = s.n ∧ (s.operate i bg what).2.pages = s.pages := by
  unfold Arr.operate
  exact ite_np _ _ _ _ _ _ ⟨rfl, rfl⟩ (ite_np _ _ _ _ _ _ ⟨rfl, rfl⟩ ⟨rfl, rfl⟩)
theorem program_np (s : Arr) (i page : Int) (l : List Nat) (epoch : Nat) : (s.program i page l epoch).2.n = s.n ∧ (s.program i page l epoch).2.pages = s.pages := by
  unfold Arr.program
  refine ite_np _ _ _ _ _ _ ⟨rfl, rfl⟩ (ite_np _ _ _ _ _ _ ⟨rfl, rfl⟩ (ite_np _ _ _ _ _ _ ⟨rfl, rfl⟩ (ite_np _ _ _ _ _ _ ⟨rfl, rfl⟩ (ite_np _ _ _ _ _ _ ⟨rfl, rfl⟩ (ite_np _ _ _ _ _ _ ⟨rfl, rfl⟩ ?_)))))
  exact ite_np _ _ _ _ _ _ (operate_np _ _ _ _) (operate_np _ _ _ _)
theorem erase_np (s : Arr) (i : Int) (epoch : Nat) : (s.erase i epoch).2.n = s.n ∧ (s.erase i epoch).2.pages = s.pages := by
  unfold Arr.erase
  exact ite_np _ _ _ _ _ _ ⟨rfl, rfl⟩ (ite_np _ _ _ _ _ _ ⟨rfl, rfl⟩ (ite_np _ _ _ _ _ _ ⟨rfl, rfl⟩ (operate_np _ _ _ _)))

/-- A block is erased, and a claim is programmed as its first page. -/
def beginS (s : Arr) (i : Int) (x : En) : Int × Arr := if (s.erase i x.e).1 = 0 then (s.erase i x.e).2.program i 0 (pgE x) x.e else s.erase i x.e
/-- A claim is programmed behind the others. -/
def goOnS (x : En) (i : Nat) : Nat → Nat → Arr → Int × Arr
  | 0, _, s => beginS s (1 - (i : Int)) x
  | k + 1, page, s => if (s.program i page (pgE x) x.e).1 = 8 then goOnS x i k (page + 1) (s.program i page (pgE x) x.e).2 else s.program i page (pgE x) x.e
end Drawbar.Log
namespace Go.Proofs.YtcbgccmoeleanaaDoor.Nd
open Go.RowKit
open Drawbar Drawbar.Nand
theorem ArrAt.grow {w : World} {F F' : Nat → Prop} {g : Nat} {s : Arr} (h : ArrAt w F g s) (hF : ∀ d, F d → F' d) (hb : ∀ d, F' d → d < w.heap.size) : ArrAt w F' g s := by
  obtain ⟨hid, R, hbk, rows, pv, bv, h⟩ := h
  exact ⟨hid, R, hbk, rows, pv, bv, h.keep (fun _ _ => rfl) hF hb⟩
theorem Keep.wide {F F' : Nat → Prop} {w w' : World} (h : Keep F w w') (hF : ∀ d, F d → F' d) : Keep F' w w' := ⟨h.os, h.tape, h.output, h.size, fun k hk hn => h.block k hk fun hf => hn (hF k hf)⟩
theorem Keep.step {F : Nat → Prop} {w w1 w2 : World} (h : Keep F w w1) (h2 : Keep F w1 w2) : Keep F w w2 :=
  ⟨h2.os.trans h.os, h2.tape.trans h.tape, h2.output.trans h.output, Nat.le_trans h.size h2.size, fun k hk hF => (h2.block k (Nat.lt_of_lt_of_le hk h.size) hF).trans (h.block k hk hF)⟩
theorem Keep.cell {F : Nat → Prop} {w w' : World} (h : Keep F w w') {b o : Nat} {v : Value} (hb : ¬ F b) (hc : w.cell? ⟨b, o, none⟩ = some v) : w'.cell? ⟨b, o, none⟩ = some v :=
  (World.cell?_of_block (a := ⟨b, o, none⟩) (h.block b (World.block_lt_of_cell? _ _ hc) hb)).trans hc
/-- A call, a good while later. -/
theorem Did.chain {F : Nat → Prop} {g : Nat} {r : Int × Arr} {e : Ending} {w w1 w2 w3 : World} (hk : Keep F w w1) (hb : Below w1.heap.size w1 w2) (hd : Did w2 (ext F w w1) g r e w3) (hbd : ∀ d, F d → d < w.heap.size) : Did w F g r e w3 := by
  obtain ⟨he, ha, hk3⟩ := hd
  have hk13 : Keep (ext F w w1) w1 w3 := Keep.step (Keep.below hb) hk3
  have hs1 := hk.size
  have hs2 := hb.size
  have hs3 := hk3.size
  refine ⟨he, ArrAt.grow ha (fun d hd => ?_) (fun d hd => ?_), hk.trans hk13⟩
  · unfold ext at hd ⊢
    rcases hd with (hd | hd) | hd
    · exact .inl hd
    · exact .inr (by omega)
    · exact .inr (by omega)
  · rcases hd with hd | hd
    · have := hbd d hd; omega
    · exact hd.2
theorem Did.after {F : Nat → Prop} {g : Nat} {r : Int × Arr} {e : Ending} {w w1 w2 : World} (hb : Below w.heap.size w w1) (hd : Did w1 F g r e w2) (hbd : ∀ d, F d → d < w.heap.size) : Did w F g r e w2 :=
  Did.chain (Keep.refl F w) hb (by rw [ext_same F rfl]; exact hd) hbd

end Go.Proofs.YtcbgccmoeleanaaDoor.Nd
namespace Go.Proofs.YtcbgccmoeleanaaDoor.Lg
open Go.RowKit
open Drawbar Drawbar.Sheet Drawbar.Nand Drawbar.Log Go.Proofs.YtcbgccmoeleanaaDoor.Nd

theorem Tab.keep {F : Nat → Prop} {w w' : World} (hT : Tab w) (h : Keep F w w') (hF : ¬ F 0) : Tab w' := fun i hi => h.cell hF (hT i hi)
theorem blocks_at {w : World} {F : Nat → Prop} {g : Nat} {s : Arr} (h : ArrAt w F g s) : Calls Tryd.prog 34 #[.pointer (some ⟨g, 0, none⟩)] w fun e w' => e = .returned (.int .i64 s.n) ∧ w = w' := by
  obtain ⟨_, R, hb, rows, pv, bv, h⟩ := h
  exact blocks_any g hb s.n _ (h.gc 0 _ rfl)
theorem pages_at {w : World} {F : Nat → Prop} {g : Nat} {s : Arr} (h : ArrAt w F g s) : Calls Tryd.prog 38 #[.pointer (some ⟨g, 0, none⟩)] w fun e w' => e = .returned (.int .i64 s.pages) ∧ w = w' := by
  obtain ⟨_, R, hb, rows, pv, bv, h⟩ := h
  have c1 := h.gc 1 _ rfl
  clear h
  go_enter Tryd.func38, Tryd.ntmps38
  go_wp2
  go_ret
  exact ⟨rfl, rfl⟩

theorem arr_le {w : World} {F : Nat → Prop} {g : Nat} {s : Arr} (h : ArrAt w F g s) (i : Nat) (hi : i < s.n) : (s.b i).pages.length ≤ s.pages := by
  obtain ⟨_, R, hb, rows, pv, bv, h⟩ := h
  exact h.wf.len i hi
theorem lay_later (x : En) (w W : World) (hb : Below w.heap.size w W) (hx : okE x = true) (hT : Tab w) : Calls Tryd.prog 37 #[ev x] W fun e w' => ∃ a c, e = .returned (.slice a 96 c) ∧ Below w.heap.size w w' ∧ Rd w' a (pgE x) := by
  refine (lglay_any x W hx (hT.below hb hT.pos)).mono ?_
  rintro e w' ⟨a, c, rfl, hc, hr, hb2, -⟩
  exact ⟨a, c, rfl, hb.trans (hb2.mono hb.size), hr⟩

set_option maxHeartbeats 2000000 in
theorem begin_at {w : World} {F : Nat → Prop} {g : Nat} {s : Arr} (h : ArrAt w F g s) (i : Int) (x : En) (hx : okE x = true) (hT : Tab w) (hF0 : ¬ F 0) :
    Calls Tryd.prog 28 #[.pointer (some ⟨g, 0, none⟩), .int .i64 i, ev x] w (Did w F g (beginS s i x)) := by
  have hbd := fun d hd => h.bound d hd
  have hbx : Below w.heap.size w (w.alloc (ebox x)) := (Below.refl _ _).alloc (Nat.le_refl _) _
  have hblk := heap_alloc_new w (ebox x)
  generalize hwx : w.alloc (ebox x) = wx at *
  have hE := erase_at (h.keep hbx) i x.e
  have c0 := cell_blk hblk 0 _ rfl
  have c1 := cell_blk hblk 1 _ rfl
  have hTx := hT.below hbx hT.pos
  have hFx : ¬ F w.heap.size := fun hf => Nat.lt_irrefl _ (hbd _ hf)
  have hlx := lt_of_block hblk
  unfold beginS
  generalize s.erase i x.e = r at *
  obtain ⟨z, s1⟩ := r
  dsimp only
  by_cases hz : z = 0
  · rw [if_pos hz]
    subst hz
    have HE := Lib.hid hE
    have HX := Lib.hid hx
    have HBD := Lib.hid (And.intro hbd (And.intro hbx (And.intro hF0 (And.intro hTx hFx))))
    clear hE hx hbd hbx hblk hT h hTx hF0 hFx
    go_enter Tryd.func28, Tryd.ntmps28
    go_wp2_with fail
    refine HE.out.mono ?_
    rintro e w1 ⟨rfl, h1, hk1⟩
    dsimp only at h1 ⊢
    obtain ⟨hbd, hbx, hF0, hTx, hFx⟩ := HBD.out
    have d0 := hk1.cell hFx c0
    have d1 := hk1.cell hFx c1
    have hT1 := Tab.keep hTx hk1 hF0
    have hxw1 : w.heap.size < w1.heap.size := Nat.lt_of_lt_of_le hlx hk1.size
    have hFx1 : ¬ ext F wx w1 w.heap.size := fun hh => hh.elim hFx fun h3 => by omega
    have HPG := Lib.hid (fun W (hb : Below w1.heap.size w1 W) => lay_later x w1 W hb HX.out hT1)
    have HPR := Lib.hid (fun W (hb : Below w1.heap.size w1 W) a c (hr : Rd W a (pgE x)) => (show Calls Tryd.prog 36 #[.pointer (some ⟨g, 0, none⟩), .int .i64 i, .int .i64 0, .slice a 96 c, .int .u64 x.e] W (fun e w' => Did W (ext F wx w1) g (s1.program i 0 (pgE x) x.e) e w') from program_at (h1.keep hb) i 0 (pgE x) a c x.e hr 96 (pgE_length x)))
    have HS := Lib.hid (fun W (hb : Below w1.heap.size w1 W) => (And.intro ((hb.cell (p := ⟨w.heap.size, 0, none⟩) hxw1).trans d0) ((hb.cell (p := ⟨w.heap.size, 1, none⟩) hxw1).trans d1) : W.cell? ⟨w.heap.size, 0, none⟩ = some (.int .u64 x.e) ∧ W.cell? ⟨w.heap.size, 1, none⟩ = some (.int .i64 x.w)))
    have HF := Lib.hid hFx1
    have HK := Lib.hid (And.intro hk1 (And.intro hbx hbd))
    have hb0 : Below w1.heap.size w1 w1.drew := (Below.refl _ _).drew
    have hq0 := HS.out _ hb0
    clear HE c0 c1 d0 d1 hT1 hFx1 h1 hTx hF0 hFx hbd hbx hk1 HBD
    go_wp2_with fail
    go_region_held (fun W => W.cell? ⟨w.heap.size, 0, none⟩ = some (.int .u64 x.e) ∧ W.cell? ⟨w.heap.size, 1, none⟩ = some (.int .i64 x.w)) (first | exact hq0 | exact hq9 | exact hq10) (first
      | (go_at_call 37; ((with_reducible refine (HPG.out _ (by assumption)).mono ?_); rintro e w9 ⟨az, cz, rfl, hb9, hr9⟩; have hq9 := HS.out _ hb9))
      | (go_at_call 36; ((with_reducible refine (HPR.out _ (by assumption) _ _ (by assumption)).mono ?_); intro e w10 hd; have hD := Did.after HK.out.2.1 (Did.chain HK.out.1 hb9 hd (fun d hd => Nat.lt_of_lt_of_le (HK.out.2.2 d hd) HK.out.2.1.size)) HK.out.2.2; obtain ⟨rfl, -, hk10⟩ := hd; have hq10 := And.intro (hk10.cell HF.out hq9.1) (hk10.cell HF.out hq9.2))))
    all_goals
      clear hq10 hq9 hr9 hk10 hb9 hq0 hb0
      go_wp2
      go_ret
      exact hD
  · rw [if_neg hz]
    have HE := Lib.hid hE
    have hq : (z != 0) = true := by simp; exact hz
    have HK := Lib.hid (And.intro hbx hbd)
    clear hE hx hbd hbx hblk hT h hTx hF0 hFx hz
    go_enter Tryd.func28, Tryd.ntmps28
    go_wp2_with fail
    refine HE.out.mono ?_
    intro e w1 hd
    have hD := Did.after HK.out.1 hd HK.out.2
    obtain ⟨rfl, -⟩ := hd
    go_wp2
    go_ret
    exact hD

set_option maxHeartbeats 2000000 in
theorem goOn_at {w : World} {F : Nat → Prop} {g : Nat} {s : Arr} (h : ArrAt w F g s) (i : Nat) (hi : i < 2) (h2 : 1 < s.n) (x : En) (hx : okE x = true) (hT : Tab w) (hF0 : ¬ F 0) :
    Calls Tryd.prog 29 #[.pointer (some ⟨g, 0, none⟩), .int .i64 i, ev x] w (Did w F g (goOnS x i (s.pages - (s.b i).pages.length) (s.b i).pages.length s)) := by
  have hbd := fun d hd => h.bound d hd
  have hbx : Below w.heap.size w (w.alloc (ebox x)) := (Below.refl _ _).alloc (Nat.le_refl _) _
  have hblk := heap_alloc_new w (ebox x)
  generalize hwx : w.alloc (ebox x) = wx at *
  have hA := h.keep hbx
  have hNX := next_at hA i (by omega)
  have c0 := cell_blk hblk 0 _ rfl
  have c1 := cell_blk hblk 1 _ rfl
  have hTx := hT.below hbx hT.pos
  have hFx : ¬ F w.heap.size := fun hf => Nat.lt_irrefl _ (hbd _ hf)
  have hlx := lt_of_block hblk
  have hle := arr_le h i (by omega)
  have hp32 : s.pages ≤ 32 := by
    obtain ⟨_, _, _, _, _, _, hh⟩ := h
    exact hh.wf.p32
  generalize hR : goOnS x i (s.pages - (s.b i).pages.length) (s.b i).pages.length s = R
  generalize (s.b i).pages.length = n at *
  have HN := Lib.hid hNX
  have HX := Lib.hid hx
  have HBD := Lib.hid (And.intro hbd (And.intro hbx (And.intro hF0 (And.intro hTx hFx))))
  have HR := Lib.hid hR
  have HA := Lib.hid hA
  have HC := Lib.hid (And.intro c0 c1)
  clear hNX hx hbd hbx hblk hT h hTx hF0 hFx hR hA c0 c1
  go_enter Tryd.func29, Tryd.ntmps29
  go_wp2_with fail
  refine HN.out.mono ?_
  rintro e w1 ⟨rfl, rfl⟩
  clear HN
  go_wp2
  go_loopw [7] (fun iv wr => ∃ (k page : Nat) (s' : Arr), iv = .int .i64 page ∧ k + page = s.pages ∧ ArrAt wr (ext F wx wr) g s' ∧ Keep F wx wr ∧ s'.n = s.n ∧ s'.pages = s.pages ∧ goOnS x i k page s' = R ∧ wr.cell? ⟨w.heap.size, 0, none⟩ = some (.int .u64 x.e) ∧ wr.cell? ⟨w.heap.size, 1, none⟩ = some (.int .i64 x.w))
    (fun iv _ => s.pages - (intOf iv).toNat)
  case atStart => exact ⟨s.pages - n, n, s, rfl, by omega, (by rw [ext_same F rfl]; exact HA.out), Keep.refl _ _, rfl, rfl, HR.out, HC.out.1, HC.out.2⟩
  case round =>
    obtain ⟨k, page, s', rfl, hk, h1, hk1, hn, hp, hres, d0, d1⟩ := hrel
    obtain ⟨hbd, hbx, hF0, hTx, hFx⟩ := HBD.out
    have hT1 := Tab.keep hTx hk1 hF0
    have hxw1 : w.heap.size < wr.heap.size := Nat.lt_of_lt_of_le hlx hk1.size
    have hFx1 : ¬ ext F wx wr w.heap.size := fun hh => hh.elim hFx fun h3 => by omega
    have hF01 : ¬ ext F wx wr 0 := fun hh => hh.elim hF0 fun h3 => by omega
    have HPN := Lib.hid (pages_at h1)
    rw [hp] at HPN
    rcases k with _ | k
    · have hpg : ¬ ((page : Int) < (s.pages : Int)) := by omega
      have hBG := begin_at h1 (1 - (i : Int)) x HX.out hT1 hF01
      rw [show beginS s' (1 - (i : Int)) x = R from hres] at hBG
      have HBG := Lib.hid hBG
      have HK := Lib.hid (And.intro hk1 (And.intro hbx hbd))
      clear hT1 hFx1 hF01 h1 hTx hF0 hFx hbd hbx hk1 hBG hn hp hres HBD HR HA HC hwx
      go_wp2_with fail
      refine HPN.out.mono ?_
      rintro e w2 ⟨rfl, rfl⟩
      go_wp2_with fail
      refine HBG.out.mono ?_
      intro e w10 hd
      have hD := Did.after HK.out.2.1 (Did.chain HK.out.1 (Below.refl _ _) hd (fun d hd => Nat.lt_of_lt_of_le (HK.out.2.2 d hd) HK.out.2.1.size)) HK.out.2.2
      obtain ⟨rfl, -⟩ := hd
      go_wp2
      go_ret
      exact hD
    · have hpg : (page : Int) < (s.pages : Int) := by omega
      have HPG := Lib.hid (fun W (hb : Below wr.heap.size wr W) => lay_later x wr W hb HX.out hT1)
      obtain ⟨⟨z, s1⟩, hr⟩ : ∃ r, r = s'.program i page (pgE x) x.e := ⟨_, rfl⟩
      obtain ⟨hn1, hp1⟩ := program_np s' i page (pgE x) x.e
      unfold goOnS at hres
      rw [← hr] at hres hn1 hp1
      dsimp only at hres hn1 hp1
      have HPR := Lib.hid (fun W (hb : Below wr.heap.size wr W) a c (hrd : Rd W a (pgE x)) => (show Calls Tryd.prog 36 #[.pointer (some ⟨g, 0, none⟩), .int .i64 i, .int .i64 page, .slice a 96 c, .int .u64 x.e] W (fun e w' => Did W (ext F wx wr) g (z, s1) e w') from hr ▸ program_at (h1.keep hb) i page (pgE x) a c x.e hrd 96 (pgE_length x)))
      have HS := Lib.hid (fun W (hb : Below wr.heap.size wr W) => (And.intro ((hb.cell (p := ⟨w.heap.size, 0, none⟩) hxw1).trans d0) ((hb.cell (p := ⟨w.heap.size, 1, none⟩) hxw1).trans d1) : W.cell? ⟨w.heap.size, 0, none⟩ = some (.int .u64 x.e) ∧ W.cell? ⟨w.heap.size, 1, none⟩ = some (.int .i64 x.w)))
      have HF := Lib.hid hFx1
      have HK := Lib.hid (And.intro hk1 (And.intro hbx hbd))
      have hb0 : Below wr.heap.size wr wr.drew := (Below.refl _ _).drew
      have hq0 := HS.out _ hb0
      have HNP := Lib.hid (And.intro (hn1.trans hn) (hp1.trans hp))
      have HRES := Lib.hid hres
      clear d0 d1 hT1 hFx1 hF01 h1 hTx hF0 hFx hbd hbx hk1 HBD HR HA HC hwx hn hp hn1 hp1 hr hres
      by_cases hz : z = 8
      · have hq : (z != 8) = false := by simp; exact hz
        have HZ := Lib.hid hz
        clear hz
        go_wp2_with fail
        refine HPN.out.mono ?_
        rintro e w2 ⟨rfl, rfl⟩
        go_wp2_with fail
        go_region_held (fun W => W.cell? ⟨w.heap.size, 0, none⟩ = some (.int .u64 x.e) ∧ W.cell? ⟨w.heap.size, 1, none⟩ = some (.int .i64 x.w)) (first | exact hq0 | exact hq9 | exact hq10) (first
          | (go_at_call 37; ((with_reducible refine (HPG.out _ (by assumption)).mono ?_); rintro e w9 ⟨az, cz, rfl, hb9, hr9⟩; have hq9 := HS.out _ hb9))
          | (go_at_call 36; ((with_reducible refine (HPR.out _ (by assumption) _ _ (by assumption)).mono ?_); intro e w10 hd; have hD := Did.chain HK.out.1 hb9 hd (fun d hd => Nat.lt_of_lt_of_le (HK.out.2.2 d hd) HK.out.2.1.size); obtain ⟨rfl, -, hk10⟩ := hd; have hq10 := And.intro (hk10.cell HF.out hq9.1) (hk10.cell HF.out hq9.2))))
        all_goals
          clear hq9 hr9 hk10 hb9 hq0 hb0
          go_wp2
          go_roundw
          case rel =>
            have hres := HRES.out
            rw [if_pos HZ.out] at hres
            exact ⟨k, page + 1, s1, by go_num, by omega, hD.2.1, hD.2.2, HNP.out.1, HNP.out.2, hres, hq10.1, hq10.2⟩
          case measure => simp [intOf]; omega
      · have hq : (z != 8) = true := by simp; exact hz
        have hres := HRES.out
        rw [if_neg hz] at hres
        subst hres
        clear hz HRES
        go_wp2_with fail
        refine HPN.out.mono ?_
        rintro e w2 ⟨rfl, rfl⟩
        go_wp2_with fail
        go_region_held (fun W => W.cell? ⟨w.heap.size, 0, none⟩ = some (.int .u64 x.e) ∧ W.cell? ⟨w.heap.size, 1, none⟩ = some (.int .i64 x.w)) (first | exact hq0 | exact hq9 | exact hq10) (first
          | (go_at_call 37; ((with_reducible refine (HPG.out _ (by assumption)).mono ?_); rintro e w9 ⟨az, cz, rfl, hb9, hr9⟩; have hq9 := HS.out _ hb9))
          | (go_at_call 36; ((with_reducible refine (HPR.out _ (by assumption) _ _ (by assumption)).mono ?_); intro e w10 hd; have hD := Did.after HK.out.2.1 (Did.chain HK.out.1 hb9 hd (fun d hd => Nat.lt_of_lt_of_le (HK.out.2.2 d hd) HK.out.2.1.size)) HK.out.2.2; obtain ⟨rfl, -, hk10⟩ := hd; have hq10 := And.intro (hk10.cell HF.out hq9.1) (hk10.cell HF.out hq9.2))))
        all_goals
          clear hq10 hq9 hr9 hk10 hb9 hq0 hb0
          go_wp2
          go_ret
          exact hD
end Go.Proofs.YtcbgccmoeleanaaDoor.Lg
