/- The contracts of Open, Count and Set (package pool), and what a nil pool answers. -/
import Derived.Test.YtfehioapjoihkaaQThose
namespace Go.Proofs.Ytfehioapjoihkaa
open Go.RowKit Go.Sort
open Drawbar Drawbar.Pl

theorem wpList_mapUpdate_run {P : Program} (w : World) {ops : Array Oper} {rest : List Oper} {o : Oper} {a : Act} {Q : Exit → Act → World → Prop} (hg : o.guard = none) (m x v : Operand) (t : TypeId) (hop : o.op = Op.mapUpdate t m x v) (vm vx vv : Value) (em : a.eval m = vm) (ex : a.eval x = vx) (ev : a.eval v = vv) {w' : World}
    (hrun : (Instr.mapUpdate t vm vx vv).run P w = .ok () w') (hK : wpList P ops Q rest (a.put o.dst undef) w') : wpList P ops Q (o :: rest) a w := by
  subst em ex ev
  refine wpList_plain hg fun K' hK' => ?_
  unfold Oper.wp
  simp [execOp, hop, hrun, Result.andThen]
  exact hK' _ _ hK
theorem pthose_nil (v : Nat) (w : World) : Calls Try.prog 37 #[.pointer none, .int .u8 v] w fun e w' => e = .returned (.slice none 0 0) ∧ w = w' := by
  go_enter Try.func37, Try.ntmps37
  go_wp2
  go_ret
  exact ⟨rfl, rfl⟩
theorem popen_nil (w : World) : Calls Try.prog 26 #[.pointer none] w fun e w' => e = .returned (.tuple #[.int .i64 0, .bool false]) ∧ w = w' := by
  have h := pthose_nil 2
  go_enter Try.func26, Try.ntmps26
  go_wp2_with (go_at_call 37; refine (h _).mono ?_; rintro e w' ⟨rfl, rfl⟩)
  exact bodyPost_ret (v := .tuple #[.int .i64 0, .bool false]) (by simp [results, Try.results26, go_sem]) rfl ⟨rfl, rfl⟩
theorem pcount_nil (v : Nat) (w : World) : Calls Try.prog 27 #[.pointer none, .int .u8 v] w fun e w' => e = .returned (.int .i64 0) ∧ w = w' := by
  go_enter Try.func27, Try.ntmps27
  go_wp2_with (go_at_call 37; refine (pthose_nil v _).mono ?_; rintro e w' ⟨rfl, rfl⟩)
  go_ret
  exact ⟨rfl, rfl⟩
theorem phow_nil (x : Int) (w : World) : Calls Try.prog 24 #[.pointer none, .int .i64 x] w fun e w' => e = .returned (.int .u8 3) ∧ w = w' := by
  go_enter Try.func24, Try.ntmps24
  go_wp2
  go_ret
  exact ⟨rfl, rfl⟩
theorem pset_nil (x : Int) (v : Nat) (w : World) : Calls Try.prog 22 #[.pointer none, .int .i64 x, .int .u8 v] w fun e w' => e = .returned (.int .i64 5) ∧ w = w' := by
  go_enter Try.func22, Try.ntmps22
  go_wp2
  go_ret
  exact ⟨rfl, rfl⟩

theorem count_in_ (g mb : Nat) (s : St) (w : World) (h : PoolAt w g mb s) (v : Nat) : Calls Try.prog 27 #[.pointer (some ⟨g, 0, none⟩), .int .u8 v] w fun e w' => e = .returned (.int .i64 (s.those v).length) ∧ Below w.heap.size w w' := by
  have HT := Lib.hid (those_in g mb s w h v)
  have hle := those_le s v
  clear h
  go_enter Try.func27, Try.ntmps27
  go_wp2_with fail
  refine HT.out.mono ?_
  rintro e w' ⟨a, c, rfl, hrd, hb⟩
  have HB := Lib.hid hb
  clear hb hrd
  go_wp2
  go_ret
  exact ⟨rfl, HB.out⟩

/-- As Open tells which block is open. -/
def openV (l : List Int) : Value := .tuple #[.int .i64 (l.headD 0), .bool (!l.isEmpty)]
theorem open_in (g mb : Nat) (s : St) (w : World) (h : PoolAt w g mb s) : Calls Try.prog 26 #[.pointer (some ⟨g, 0, none⟩)] w fun e w' => e = .returned (openV (s.those 2)) ∧ Below w.heap.size w w' := by
  have ht : Calls Try.prog 37 #[.pointer (some ⟨g, 0, none⟩), .int .u8 2] w (Those s 2 w) := those_in g mb s w h 2
  have HT := Lib.hid ht
  clear ht
  rcases those_open h.wf with h0 | ⟨o, h0, -, -⟩
  · rw [h0]
    clear h
    go_enter Try.func26, Try.ntmps26
    go_wp2_with fail
    refine HT.out.mono ?_
    rintro e w' ⟨a, c, rfl, hrd, hb⟩
    rw [h0]
    have HB := Lib.hid hb
    clear hb hrd h0
    simp only [List.length_nil]
    go_wp2
    exact bodyPost_ret (v := .tuple #[.int .i64 0, .bool false]) (by simp [results, Try.results26, go_sem]) rfl ⟨rfl, HB.out⟩
  · rw [h0]
    clear h
    go_enter Try.func26, Try.ntmps26
    go_wp2_with fail
    refine HT.out.mono ?_
    rintro e w' ⟨a, c, rfl, hrd, hb⟩
    rw [h0] at hrd
    obtain ⟨bb, off, rfl, hc⟩ := hrd (by simp)
    have c0 := hc 0 (by simp)
    simp only [Nat.add_zero, List.getD_cons_zero] at c0
    rw [h0]
    have HB := Lib.hid hb
    clear hb hrd hc h0
    simp only [List.length_singleton]
    go_wp2
    exact bodyPost_ret (v := .tuple #[.int .i64 o, .bool true]) (by simp [results, Try.results26, go_sem]) rfl ⟨rfl, HB.out⟩

theorem set_bad (g mb : Nat) (s : St) (w : World) (h : PoolAt w g mb s) (x : Int) (hx : (Lit.int .i64 x).wf = true) (v : Nat) (hv : v < 256) (hn : s.at_ x = none ∨ 3 < v) : Calls Try.prog 22 #[.pointer (some ⟨g, 0, none⟩), .int .i64 x, .int .u8 v] w fun e w' => e = .returned (.int .i64 1) ∧ w = w' := by
  have c0 := h.c0
  have hl := h.map.look x hx (zero_u8 w)
  cases hs : s.at_ x with
  | none =>
    rw [hs] at hl
    simp only [Option.getD_none, Option.isSome_none] at hl
    clear h hs hn
    go_enter Try.func22, Try.ntmps22
    go_wp2
    go_ret
    exact ⟨rfl, rfl⟩
  | some u =>
    rw [hs] at hl hn
    simp only [Option.getD_some, Option.isSome_some] at hl
    have hv2 : (3 : Int) < v := by rcases hn with h | h; cases h; omega
    clear h hs hn
    go_enter Try.func22, Try.ntmps22
    go_wp2
    go_ret
    exact ⟨rfl, rfl⟩
theorem set_dead (g mb : Nat) (s : St) (w : World) (h : PoolAt w g mb s) (x : Int) (hx : (Lit.int .i64 x).wf = true) (v : Nat) (hv : v < 3) (hn : s.at_ x = some 3) : Calls Try.prog 22 #[.pointer (some ⟨g, 0, none⟩), .int .i64 x, .int .u8 v] w fun e w' => e = .returned (.int .i64 15) ∧ w = w' := by
  have c0 := h.c0
  have hl := h.map.look x hx (zero_u8 w)
  rw [hn] at hl
  simp only [Option.getD_some, Option.isSome_some] at hl
  have h1 : ¬ (3 : Int) < v := by omega
  have h2 : ((v : Int) == 3) = false := by simp; omega
  have h3 : ((v : Int) != 3) = true := by simp; omega
  have hl2 : (Instr.lookup 77 (.map (some mb)) (.int .i64 x) true).run Try.prog w = .ok (.tuple #[.int .u8 3, .bool true]) w := hl
  clear h hn hl
  go_enter Try.func22, Try.ntmps22
  go_wp2
  go_ret
  exact ⟨rfl, rfl⟩

theorem those_as {s : St} : (s.those 2 = [] → openV (s.those 2) = .tuple #[.int .i64 0, .bool false]) ∧ ∀ o, s.those 2 = [o] → openV (s.those 2) = .tuple #[.int .i64 o, .bool true] := ⟨fun h => by rw [h]; rfl, fun o h => by rw [h]; rfl⟩
theorem PoolAt.only {w w' : World} {g mb : Nat} {s s' : St} (h : PoolAt w g mb s) (hw : Wf s') (hm : MapIn w' mb 64 s') (ho : Only (fun d => d = mb) w w') : PoolAt w' g mb s' :=
  ⟨hw, (World.cell?_of_block (a := ⟨g, 0, none⟩) (ho.block g h.gl h.ne)).trans h.c0, hm, h.ne⟩
set_option maxHeartbeats 2000000 in
set_option maxRecDepth 100000 in
theorem set_in_ (g mb : Nat) (s : St) (w : World) (h : PoolAt w g mb s) (x : Int) (u : Nat) (hu : s.at_ x = some u) (v : Nat) (hv : v < 4) (hd : u = 3 → v = 3) : Calls Try.prog 22 #[.pointer (some ⟨g, 0, none⟩), .int .i64 x, .int .u8 v] w fun e w' => e = .returned (.int .i64 0) ∧ Turned w g mb (s.set x v) w' := by
  have c0 := h.c0
  have hrg := h.wf.rng x u hu
  have hl := h.map.look x (wf_in ⟨hrg.1, hrg.2.1⟩) (zero_u8 w)
  rw [hu] at hl
  simp only [Option.getD_some, Option.isSome_some] at hl
  have h1 : ¬ (3 : Int) < v := by omega
  have ho := open_in g mb s w h
  have HO := Lib.hid ho
  have HD := Lib.hid hd
  have H := Lib.hid h
  have HU := Lib.hid hu
  have hv3 : (v : Int) ≤ 3 := by omega
  clear ho h hd hu
  by_cases h2 : v = 2
  · subst h2
    have hu3 : ((u : Int) == 3) = false := by
      have := HD.out
      simp; omega
    rcases those_open H.out.wf with h0 | ⟨o, h0, ha, hcl⟩
    · rw [those_as.1 h0] at HO
      have hcn := close_none H.out.wf h0
      clear HD
      go_enter Try.func22, Try.ntmps22
      go_wp2_with fail
      refine HO.out.mono ?_
      rintro e w1 ⟨rfl, hb⟩
      have H1 := H.out.below hb
      obtain ⟨w2, hr2, -, hm2, hg2⟩ := H1.map.store x ⟨hrg.1, hrg.2.1⟩ 2 hv (Nat.le_refl _)
      have hfin : Turned w g mb (s.set x 2) w2 := by
        have ho2 := (Only.below hb).trans (grown_only hg2)
        refine ⟨H.out.only (H.out.wf.set ⟨hrg.1, hrg.2.1⟩ hv) ?_ ho2, ho2⟩
        have := hm2 (by rw [HU.out]; rfl)
        unfold St.set
        rw [if_pos rfl, hcn]; exact this
      have HF := Lib.hid hfin
      have c1 := H1.c0
      clear hfin H1 hm2 hg2 hb HO
      go_wp2_with (at_mapUpdate; refine wpList_mapUpdate_run _ rfl _ _ _ _ rfl _ _ _ rfl rfl rfl hr2 ?_)
      go_ret
      exact ⟨rfl, HF.out⟩
    · rw [those_as.2 o h0] at HO
      have hog := H.out.wf.rng o 2 ha
      go_enter Try.func22, Try.ntmps22
      go_wp2_with fail
      refine HO.out.mono ?_
      rintro e w1 ⟨rfl, hb⟩
      have H1 := H.out.below hb
      obtain ⟨w2, hr2, -, hm2, hg2⟩ := H1.map.store o ⟨hog.1, hog.2.1⟩ 1 (by decide) (Nat.le_refl _)
      have hm2 := hm2 (by rw [ha]; rfl)
      have h2 : PoolAt w2 g mb s.close := H1.only H.out.wf.close (by rw [hcl]; exact hm2) (grown_only hg2)
      obtain ⟨w3, hr3, -, hm3, hg3⟩ := h2.map.store x ⟨hrg.1, hrg.2.1⟩ 2 hv (Nat.le_refl _)
      have hm3 := hm3 (by rw [close_some, HU.out]; rfl)
      have hfin : Turned w g mb (s.set x 2) w3 := by
        have ho2 := (Only.below hb).trans ((grown_only hg2).trans (grown_only hg3))
        refine ⟨H.out.only (H.out.wf.set ⟨hrg.1, hrg.2.1⟩ hv) ?_ ho2, ho2⟩
        unfold St.set
        rw [if_pos rfl]; exact hm3
      have HF := Lib.hid hfin
      have c1 := H1.c0
      have c2 := h2.c0
      clear hfin H1 hm2 hg2 hb HO HD h2 hm3 hg3
      go_wp2_with (at_mapUpdate; first | refine wpList_mapUpdate_run _ rfl _ _ _ _ rfl _ _ _ rfl rfl rfl hr2 ?_ | refine wpList_mapUpdate_run _ rfl _ _ _ _ rfl _ _ _ rfl rfl rfl hr3 ?_)
      go_ret
      exact ⟨rfl, HF.out⟩
  · have h3 : ((v : Int) == 2) = false := by simp; omega
    by_cases hu3 : u = 3
    · subst hu3
      obtain rfl : v = 3 := HD.out rfl
      rcases those_open H.out.wf with h0 | ⟨o, h0, ha, hcl⟩
      · rw [those_as.1 h0] at HO
        go_enter Try.func22, Try.ntmps22
        go_wp2_with fail
        refine HO.out.mono ?_
        rintro e w1 ⟨rfl, hb⟩
        have H1 := H.out.below hb
        obtain ⟨w2, hr2, -, hm2, hg2⟩ := H1.map.store x ⟨hrg.1, hrg.2.1⟩ 3 hv (Nat.le_refl _)
        have hfin : Turned w g mb (s.set x 3) w2 := by
          have ho2 := (Only.below hb).trans (grown_only hg2)
          refine ⟨H.out.only (H.out.wf.set ⟨hrg.1, hrg.2.1⟩ hv) ?_ ho2, ho2⟩
          have := hm2 (by rw [HU.out]; rfl)
          unfold St.set
          rw [if_neg (by decide)]; exact this
        have HF := Lib.hid hfin
        have c1 := H1.c0
        clear hfin H1 hm2 hg2 hb HO
        go_wp2_with (at_mapUpdate; refine wpList_mapUpdate_run _ rfl _ _ _ _ rfl _ _ _ rfl rfl rfl hr2 ?_)
        go_ret
        exact ⟨rfl, HF.out⟩
      · rw [those_as.2 o h0] at HO
        go_enter Try.func22, Try.ntmps22
        go_wp2_with fail
        refine HO.out.mono ?_
        rintro e w1 ⟨rfl, hb⟩
        have H1 := H.out.below hb
        obtain ⟨w2, hr2, -, hm2, hg2⟩ := H1.map.store x ⟨hrg.1, hrg.2.1⟩ 3 hv (Nat.le_refl _)
        have hfin : Turned w g mb (s.set x 3) w2 := by
          have ho2 := (Only.below hb).trans (grown_only hg2)
          refine ⟨H.out.only (H.out.wf.set ⟨hrg.1, hrg.2.1⟩ hv) ?_ ho2, ho2⟩
          have := hm2 (by rw [HU.out]; rfl)
          unfold St.set
          rw [if_neg (by decide)]; exact this
        have HF := Lib.hid hfin
        have c1 := H1.c0
        clear hfin H1 hm2 hg2 hb HO
        go_wp2_with (at_mapUpdate; refine wpList_mapUpdate_run _ rfl _ _ _ _ rfl _ _ _ rfl rfl rfl hr2 ?_)
        go_ret
        exact ⟨rfl, HF.out⟩
    · have hu4 : ((u : Int) == 3) = false := by simp; omega
      rcases those_open H.out.wf with h0 | ⟨o, h0, ha, hcl⟩
      · rw [those_as.1 h0] at HO
        go_enter Try.func22, Try.ntmps22
        go_wp2_with fail
        refine HO.out.mono ?_
        rintro e w1 ⟨rfl, hb⟩
        have H1 := H.out.below hb
        obtain ⟨w2, hr2, -, hm2, hg2⟩ := H1.map.store x ⟨hrg.1, hrg.2.1⟩ v hv (Nat.le_refl _)
        have hfin : Turned w g mb (s.set x v) w2 := by
          have ho2 := (Only.below hb).trans (grown_only hg2)
          refine ⟨H.out.only (H.out.wf.set ⟨hrg.1, hrg.2.1⟩ hv) ?_ ho2, ho2⟩
          have := hm2 (by rw [HU.out]; rfl)
          unfold St.set
          rw [if_neg h2]; exact this
        have HF := Lib.hid hfin
        have c1 := H1.c0
        clear hfin H1 hm2 hg2 hb HO
        go_wp2_with (at_mapUpdate; refine wpList_mapUpdate_run _ rfl _ _ _ _ rfl _ _ _ rfl rfl rfl hr2 ?_)
        go_ret
        exact ⟨rfl, HF.out⟩
      · rw [those_as.2 o h0] at HO
        go_enter Try.func22, Try.ntmps22
        go_wp2_with fail
        refine HO.out.mono ?_
        rintro e w1 ⟨rfl, hb⟩
        have H1 := H.out.below hb
        obtain ⟨w2, hr2, -, hm2, hg2⟩ := H1.map.store x ⟨hrg.1, hrg.2.1⟩ v hv (Nat.le_refl _)
        have hfin : Turned w g mb (s.set x v) w2 := by
          have ho2 := (Only.below hb).trans (grown_only hg2)
          refine ⟨H.out.only (H.out.wf.set ⟨hrg.1, hrg.2.1⟩ hv) ?_ ho2, ho2⟩
          have := hm2 (by rw [HU.out]; rfl)
          unfold St.set
          rw [if_neg h2]; exact this
        have HF := Lib.hid hfin
        have c1 := H1.c0
        clear hfin H1 hm2 hg2 hb HO
        go_wp2_with (at_mapUpdate; refine wpList_mapUpdate_run _ rfl _ _ _ _ rfl _ _ _ rfl rfl rfl hr2 ?_)
        go_ret
        exact ⟨rfl, HF.out⟩
end Go.Proofs.Ytfehioapjoihkaa
