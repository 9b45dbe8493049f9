/- The contract of the document's Lay. -/
import Derived.Test.YtkapnpcolmhdbaaDoorRead
import Derived.Test.YtkapnpcolmhdbaaDoorRefs
namespace Go.Proofs.YtkapnpcolmhdbaaDoor
open Go.RowKit
open Drawbar Drawbar.Sheet

set_option maxRecDepth 100000 in
theorem own_below {w w' : World} {B : Nat} {e : TypeId} {size n : Nat} {v : Value} {xs : List Value} (h : w.ownsRow B e size v n xs) (hb : Below w.heap.size w w') : w'.ownsRow B e size v n xs := by
  obtain ⟨hl, h1 | ⟨g, cap, cur, rfl, h1, h2, h3⟩⟩ := h
  · exact ⟨hl, .inl h1⟩
  · exact ⟨hl, .inr ⟨g, cap, cur, rfl, h1, (hb.block g (lt_of_block h2)).trans h2, h3⟩⟩
set_option maxRecDepth 100000 in
theorem own_shape {w : World} {B : Nat} {e : TypeId} {size n : Nat} {v : Value} {xs : List Value} (h : w.ownsRow B e size v n xs) : ∃ a c, v = .slice a n c := by
  obtain ⟨hl, ⟨rfl, rfl⟩ | ⟨g, cap, cur, rfl, _⟩⟩ := h
  · exact ⟨none, 0, rfl⟩
  · exact ⟨_, cap, rfl⟩
set_option maxRecDepth 100000 in
theorem own_one (w : World) (x : Nat) : (w.alloc (.cells #[.int .u8 x] 5)).ownsRow w.heap.size 5 1 (.slice (some ⟨w.heap.size, 0, none⟩) 1 1) 1 ([x].map bv) :=
  ⟨rfl, .inr ⟨w.heap.size, 1, _, rfl, Nat.le_refl _, heap_alloc_new w _, Nat.le_refl _, by unfold maxLen; omega, rfl, rfl⟩⟩
set_option maxRecDepth 100000 in
theorem rd_some {w : World} {a : Option Addr} {l : List Nat} {m c : Nat} (h : Rd w a l) (hl : 0 < l.length) : a = none → m = 0 ∧ c = 0 := fun e => by
  obtain ⟨_, _, e2, _⟩ := h.2.2 hl
  rw [e] at e2; cases e2

set_option maxRecDepth 100000 in
theorem rput6 (n : Nat) (W : World) (x : Int) (hx : x = n) (hn : n < 2 ^ 64) : Calls Tryd.prog 54 #[.int .u64 x, .int .i64 6] W (Gives W (put n 6) 6) := by
  subst hx
  exact (refput_any n 6 W hn (by omega)).mono fun e w' h => gives_of h (put_lt _ _) (put_length _ _) (by omega)
set_option maxRecDepth 100000 in
theorem rput2 (n : Nat) (W : World) (x : Int) (hx : x = n) (hn : n < 2 ^ 64) : Calls Tryd.prog 54 #[.int .u64 x, .int .i64 2] W (Gives W (put n 2) 2) := by
  subst hx
  exact (refput_any n 2 W hn (by omega)).mono fun e w' h => gives_of h (put_lt _ _) (put_length _ _) (by omega)

set_option maxRecDepth 100000 in
set_option maxHeartbeats 4000000 in
theorem refbytes1 (m : List Nat) (a : Option Addr) (c N M : Nat) (w : World) (hr : Rd w a m) (hnil : a = none → c = 0) (hN : m.length = N) (hM : N + 2 = M) (h64 : N ≤ 64) :
    Calls Tryd.prog 55 #[.slice a N c] w (Gives w (laid1 m) M) := by
  obtain ⟨i0, hi, hz0, hz1, hz2⟩ := info_parts info_u8
  have hat : ∀ W, Below w.heap.size w W → At W a (m.map bv) := fun W hb => (hr.below hb).at
  have hx0 : a = none → N = 0 ∧ c = 0 := fun h => ⟨by rw [← hN]; exact hr.ofNil h, hnil h⟩
  have hlt := hr.1
  have HA := Lib.hid hat
  have HX := Lib.hid hx0
  have HL := Lib.hid hlt
  have hml : (m.map bv).length = N * 1 := by simp [hN]
  have hfin : ∀ v w', w'.ownsRow w.heap.size 5 1 v (2 + N) ((put N 2).map bv ++ m.map bv) → Below w.heap.size w w' → Gives w (laid1 m) M (.returned v) w' := fun v w' h hb => by
    refine gives_of ⟨v, rfl, ?_, hb⟩ (app_lt (put_lt _ _) hlt) (by rw [laid1_length]; omega) (by omega)
    rw [laid1_length, hN, Nat.add_comm N 2]
    unfold laid1
    rw [List.map_append, hN]
    exact h
  have HF := Lib.hid hfin
  generalize hG : Gives w (laid1 m) M = G at HF ⊢
  clear hat hx0 hlt hr hnil hfin hG
  go_enter Tryd.func55, Tryd.ntmps55
  go_wp2_with (first
    | (go_at_call 54; (with_reducible refine (rput2 N _ _ rfl (by omega)).mono ?_); rintro e w2 ⟨a2, k2, rfl, hk2, hr2, hb2, hown2⟩)
    | (at_builtin; refine wpList_append_ownz rfl (.tmp 8) (.tmp 9) 42 rfl w.heap.size 5 i0 (.int .u8 0) 1 1 Tryd.underlying42 hi hz0 hz1 hz2 rfl (by decide) _ 2 ((put N 2).map bv) rfl hown2 a N c (m.map bv) rfl HX.out hml (HA.out _ hb2) (bv_one m) (by unfold maxLen; omega) (by omega) hb2.size ?_; intro v3 w3 hown3 hb3))
  have HFF := Lib.hid (HF.out v3 w3 hown3 (hb2.trans hb3))
  clear hown3 hown2
  go_wp2
  exact HFF.out

def slen : Value → Nat
  | .slice _ n _ => n
  | _ => 0
set_option maxRecDepth 100000 in
theorem rseal_at (l : List Nat) (b : Option Addr) (cb : Nat) (W : World) (N M : Nat) (hr : Rd W b l) (hN : l.length = N) (hM : N + 4 = M) (hnil : b = none → cb = 0) (hM2 : M ≤ 1000000) :
    Calls Tryd.prog 56 #[.slice b N cb] W (Gives W (l ++ put (Crc.sum l) 4) M) := by
  subst hN
  exact (refseal_any l b cb W hr hnil).mono fun e w' h => gives_of h (app_lt hr.1 (put_lt _ _)) (by rw [List.length_append, put_length]; exact hM) hM2

set_option maxRecDepth 100000 in
theorem ref_body (s : Sh) (hk : s.k < 256) (hf : -1 ≤ s.fr ∧ s.fr ≤ 63) : ((((([s.k] ++ put s.ep 6) ++ put s.sq 6) ++ put s.ad.toNat 2) ++ [(s.fr + 1).toNat]) ++ laid1 s.da) ++ List.replicate (73 - s.da.length) 0 = body s := by
  have e1 : put s.k 1 = [s.k] := by show [s.k / 2 ^ (8 * 0) % 256] = [s.k]; congr 1; simp; omega
  have e2 : put (s.fr + 1).toNat 1 = [(s.fr + 1).toNat] := by show [(s.fr + 1).toNat / 2 ^ (8 * 0) % 256] = [(s.fr + 1).toNat]; congr 1; simp; omega
  unfold body head
  rw [e1, e2]

set_option maxRecDepth 100000 in
set_option maxHeartbeats 4000000 in
theorem reflay_gives (s : Sh) (a : Option Addr) (c : Nat) (w : World) (hf : fm s = true) (hr : Rd w a s.da) (hnil : a = none → c = 0) :
    Calls Tryd.prog 21 #[sv s a c] w (Gives w (page s) 96) := by
  obtain ⟨i0, hi, hz0, hz1, hz2⟩ := info_parts info_u8
  have hcells := boxs_cells w 47 s a c
  have hB := boxs_below w 47 s a c
  obtain ⟨f1, f2, f3, f4, f5, f6, f7, f8, _⟩ := of_decide_eq_true hf
  have hl := fm_len hf
  have e1 : s.ad = (s.ad.toNat : Int) := by omega
  have e2 : s.fr + 1 = ((s.fr + 1).toNat : Int) := by omega
  have hbody := ref_body s (by omega) ⟨f7, f8⟩
  have hfin : ∀ W v w', Below w.heap.size w W → w'.ownsRow W.heap.size 5 1 v 96 ((page s).map bv) → Below W.heap.size W w' → Gives w (page s) 96 (.returned v) w' := fun W v w' hb h hb' =>
    gives_of ⟨v, rfl, by rw [page_length s hl]; exact ownsRow_base h hb.size, hb.trans (hb'.mono hb.size)⟩ (page_lt s hr.1) (page_length s hl) (by omega)
  have hda := hr.1
  have hR1 := hr.below hB
  have hb0 := Below.refl (w.alloc (boxs 47 s a c)).heap.size (w.alloc (boxs 47 s a c))
  generalize hw1 : w.alloc (boxs 47 s a c) = w1 at *
  change w.alloc (.cells #[.int .u8 s.k, .int .u64 s.ep, .int .u64 s.sq, .int .i64 s.ad, .int .i64 s.fr, .slice a s.da.length c] 47) = w1 at hw1
  have HC := Lib.hid hcells
  have HR := Lib.hid hR1
  have HF := Lib.hid hfin
  have E1 := Lib.hid e1
  have E2 := Lib.hid e2
  have HBD := Lib.hid hbody
  have HBL := Lib.hid (body_length s hl)
  have HLT := Lib.hid (body_lt s hda)
  generalize hG : Gives w (page s) 96 = G at HF ⊢
  obtain ⟨n, hn⟩ : ∃ n, s.da.length = n := ⟨_, rfl⟩
  have HN := Lib.hid hn
  have hown0 := own_one w1 s.k
  have hbz : Below w1.heap.size w1 (w1.alloc (.cells #[.int .u8 s.k] 5)) := hb0.alloc (Nat.le_refl _) _
  obtain ⟨p0, p1, p2, p3, p4, p5⟩ := hcells _ hb0
  obtain ⟨q0, q1, q2, q3, q4, q5⟩ := hcells _ hbz
  clear hfin hcells e1 e2 hR1 hf hr hbody hda hG hn
  go_enter Tryd.func21, Tryd.ntmps21
  go_wp2_with (first
    | (go_at_call 54; (with_reducible refine (rput6 s.ep _ _ rfl (by omega)).mono ?_); rintro e w2 ⟨a2, k2, rfl, hk2, hr2, hb2', -⟩; have hb2 := hbz.trans (hb2'.mono hbz.size); have hown2 := own_below hown0 hb2'; obtain ⟨x20, x21, x22, x23, x24, x25⟩ := HC.out _ hb2)
    | (at_builtin; refine wpList_append_ownz rfl (.tmp 7) (.tmp 10) 42 rfl w1.heap.size 5 i0 (.int .u8 0) 1 1 Tryd.underlying42 hi hz0 hz1 hz2 rfl (by decide) _ 1 (([s.k]).map bv) rfl hown2 a2 6 k2 ((put s.ep 6).map bv) rfl (rd_some hr2 (by rw [put_length]; omega)) (by simp [put_length]) hr2.at (bv_one _) (by unfold maxLen; omega) (by omega) hb2.size ?_; intro v3 w3 hown3' hb3'; rw [← List.map_append] at hown3'; obtain ⟨a3, k3, rfl⟩ := own_shape hown3'; have hown3 : w3.ownsRow w1.heap.size 5 1 (.slice a3 7 k3) 7 (([s.k] ++ put s.ep 6).map bv) := hown3'; have hb3 := hb2.trans hb3'; obtain ⟨x30, x31, x32, x33, x34, x35⟩ := HC.out _ hb3)
    | (go_at_call 54; (with_reducible refine (rput6 s.sq _ _ rfl (by omega)).mono ?_); rintro e w4 ⟨a4, k4, rfl, hk4, hr4, hb4', -⟩; have hb4 := hb3.trans (hb4'.mono hb3.size); have hown4 := own_below hown3 hb4'; obtain ⟨x40, x41, x42, x43, x44, x45⟩ := HC.out _ hb4)
    | (at_builtin; refine wpList_append_ownz rfl (.tmp 12) (.tmp 15) 42 rfl w1.heap.size 5 i0 (.int .u8 0) 1 1 Tryd.underlying42 hi hz0 hz1 hz2 rfl (by decide) _ 7 ((([s.k] ++ put s.ep 6)).map bv) rfl hown4 a4 6 k4 ((put s.sq 6).map bv) rfl (rd_some hr4 (by rw [put_length]; omega)) (by simp [put_length]) hr4.at (bv_one _) (by unfold maxLen; omega) (by omega) hb4.size ?_; intro v5 w5 hown5' hb5'; rw [← List.map_append] at hown5'; obtain ⟨a5, k5, rfl⟩ := own_shape hown5'; have hown5 : w5.ownsRow w1.heap.size 5 1 (.slice a5 13 k5) 13 ((([s.k] ++ put s.ep 6) ++ put s.sq 6).map bv) := hown5'; have hb5 := hb4.trans hb5'; obtain ⟨x50, x51, x52, x53, x54, x55⟩ := HC.out _ hb5)
    | (go_at_call 54; (with_reducible refine (rput2 s.ad.toNat _ _ E1.out (by omega)).mono ?_); rintro e w6 ⟨a6, k6, rfl, hk6, hr6, hb6', -⟩; have hb6 := hb5.trans (hb6'.mono hb5.size); have hown6 := own_below hown5 hb6'; obtain ⟨x60, x61, x62, x63, x64, x65⟩ := HC.out _ hb6)
    | (at_builtin; refine wpList_append_ownz rfl (.tmp 17) (.tmp 21) 42 rfl w1.heap.size 5 i0 (.int .u8 0) 1 1 Tryd.underlying42 hi hz0 hz1 hz2 rfl (by decide) _ 13 (((([s.k] ++ put s.ep 6) ++ put s.sq 6)).map bv) rfl hown6 a6 2 k6 ((put s.ad.toNat 2).map bv) rfl (rd_some hr6 (by rw [put_length]; omega)) (by simp [put_length]) hr6.at (bv_one _) (by unfold maxLen; omega) (by omega) hb6.size ?_; intro v7 w7 hown7' hb7'; rw [← List.map_append] at hown7'; obtain ⟨a7, k7, rfl⟩ := own_shape hown7'; have hown7 : w7.ownsRow w1.heap.size 5 1 (.slice a7 15 k7) 15 (((([s.k] ++ put s.ep 6) ++ put s.sq 6) ++ put s.ad.toNat 2).map bv) := hown7'; have hb7 := hb6.trans hb7'; obtain ⟨x70, x71, x72, x73, x74, x75⟩ := HC.out _ hb7)
    | (at_builtin; refine wpList_append_ownz rfl (.tmp 23) (.tmp 28) 42 rfl w1.heap.size 5 i0 (.int .u8 0) 1 1 Tryd.underlying42 hi hz0 hz1 hz2 rfl (by decide) _ 15 ((((([s.k] ++ put s.ep 6) ++ put s.sq 6) ++ put s.ad.toNat 2)).map bv) rfl (hown7.alloc _) (some ⟨w7.heap.size, 0, none⟩) 1 1 [.int .u8 (s.fr + 1)] rfl (fun h => by cases h) rfl (At.one w7 _ _) (by simp [Value.oneCell']) (by unfold maxLen; omega) (by omega) (by have := hb7.size; simp; omega) ?_; intro v8 w8 hown8' hb8'; obtain ⟨a8, k8, rfl⟩ := own_shape hown8'; have hown8 : w8.ownsRow w1.heap.size 5 1 (.slice a8 16 k8) 16 ((((([s.k] ++ put s.ep 6) ++ put s.sq 6) ++ put s.ad.toNat 2) ++ [(s.fr + 1).toNat]).map bv) := (by rw [List.map_append]; show w8.ownsRow _ _ _ _ _ (_ ++ [.int .u8 ((s.fr + 1).toNat : Int)]); rw [← E2.out]; exact hown8'); have hb8 := (hb7.alloc hb7.size _).trans hb8'; obtain ⟨x80, x81, x82, x83, x84, x85⟩ := HC.out _ hb8)
    | (go_at_call 55; (with_reducible refine (refbytes1 s.da a c _ (s.da.length + 2) _ (HR.out.below hb8) hnil rfl rfl hl).mono ?_); rintro e w9 ⟨a9, k9, rfl, hk9, hr9, hb9', -⟩; have hb9 := hb8.trans (hb9'.mono hb8.size); have hown9 := own_below hown8 hb9'; obtain ⟨x90, x91, x92, x93, x94, x95⟩ := HC.out _ hb9)
    | (at_builtin; refine wpList_append_ownz rfl (.tmp 30) (.tmp 33) 42 rfl w1.heap.size 5 i0 (.int .u8 0) 1 1 Tryd.underlying42 hi hz0 hz1 hz2 rfl (by decide) _ 16 (((((([s.k] ++ put s.ep 6) ++ put s.sq 6) ++ put s.ad.toNat 2) ++ [(s.fr + 1).toNat])).map bv) rfl hown9 a9 (s.da.length + 2) k9 ((laid1 s.da).map bv) rfl (rd_some hr9 (by rw [laid1_length]; omega)) (by simp [laid1_length]) hr9.at (bv_one _) (by unfold maxLen; omega) (by omega) hb9.size ?_; intro v10 w10 hown10' hb10'; rw [← List.map_append] at hown10'; obtain ⟨a10, k10, rfl⟩ := own_shape hown10'; have hb10 := hb9.trans hb10'))
  go_loopw [3] (fun v wr => ∃ j : Nat, j ≤ 73 - s.da.length ∧ ∃ a c, v = .slice a (18 + s.da.length + j) c ∧ wr.ownsRow w1.heap.size 5 1 (.slice a (18 + s.da.length + j) c) (18 + s.da.length + j) (((((((([s.k] ++ put s.ep 6) ++ put s.sq 6) ++ put s.ad.toNat 2) ++ [(s.fr + 1).toNat]) ++ laid1 s.da) ++ List.replicate j 0)).map bv) ∧ Below w1.heap.size w1 wr) (fun v _ => 91 - slen v)
  case atStart => exact ⟨0, Nat.zero_le _, a10, k10, by rw [show 16 + (s.da.length + 2) = 18 + s.da.length + 0 by omega], by rw [List.replicate_zero, List.append_nil, show 18 + s.da.length + 0 = 16 + (s.da.length + 2) by omega]; exact hown10', hb10⟩
  case round =>
    obtain ⟨j, hj, aj, cj, rfl, hownj, hbj⟩ := hrel
    by_cases hlt : 18 + s.da.length + j < 91
    · obtain ⟨N, hN⟩ : ∃ N, 18 + s.da.length + j = N := ⟨_, rfl⟩
      rw [hN] at hownj ⊢
      have i1 : (N : Int) < 91 := by omega
      go_wp2_with (at_builtin; refine wpList_append_ownz rfl (.tmp 38) (.tmp 39) 42 rfl w1.heap.size 5 i0 (.int .u8 0) 1 1 Tryd.underlying42 hi hz0 hz1 hz2 rfl (by decide) _ N _ rfl (hownj.alloc _) (some ⟨wr.heap.size, 0, none⟩) 1 1 [.int .u8 0] rfl (fun h => by cases h) rfl (At.one wr _ _) (by simp [Value.oneCell']) (by unfold maxLen; omega) (by omega) (by have := hbj.size; simp; omega) ?_; intro v12 w12 hown12 hb12; obtain ⟨a12, k12, rfl⟩ := own_shape hown12)
      go_roundw
      case rel =>
        refine ⟨j + 1, by omega, a12, k12, by rw [show 18 + s.da.length + (j + 1) = N + 1 by omega], ?_, (hbj.alloc hbj.size _).trans hb12⟩
        rw [show 18 + s.da.length + (j + 1) = N + 1 by omega, List.replicate_succ', ← List.append_assoc, List.map_append]
        exact hown12
      case measure => simp [slen]; omega
    · obtain rfl : j = 73 - s.da.length := by omega
      rw [HBD.out, show 18 + s.da.length + (73 - s.da.length) = 91 by omega] at hownj
      rw [show 18 + s.da.length + (73 - s.da.length) = 91 by omega]
      have hown91 := hownj
      rw [show (91 : Nat) = (body s).length from HBL.out.symm] at hown91
      obtain ⟨a13, k13, he13, hk13, hr13, -, -⟩ := rd_of_own hown91 HLT.out (by rw [HBL.out]; omega)
      rw [HBL.out] at he13 hk13
      injection he13 with h131 h132 h133
      subst h131 h133
      clear hown91
      go_wp2_with (first
        | (go_at_call 56; (with_reducible refine (rseal_at (body s) _ _ _ 91 95 hr13 HBL.out (by omega) (fun h => ((rd_some (m := 0) (c := cj) hr13 (by rw [HBL.out]; omega)) h).2) (by omega)).mono ?_); rintro e w14 ⟨a14, k14, rfl, hk14, hr14, hb14', hown14⟩; have hb14 := hbj.trans (hb14'.mono hbj.size))
        | (at_builtin; refine wpList_append_ownz rfl (.tmp 42) (.tmp 43) 42 rfl wr.heap.size 5 i0 (.int .u8 0) 1 1 Tryd.underlying42 hi hz0 hz1 hz2 rfl (by decide) _ 95 _ rfl (hown14.alloc _) (some ⟨w14.heap.size, 0, none⟩) 1 1 [.int .u8 90] rfl (fun h => by cases h) rfl (At.one w14 _ _) (by simp [Value.oneCell']) (by unfold maxLen; omega) (by omega) (by have := hb14'.size; simp; omega) ?_; intro v15 w15 hown15 hb15))
      have hown16 : w15.ownsRow wr.heap.size 5 1 v15 96 ((page s).map bv) := by unfold page; simpa [bv] using hown15
      have hf15 := HF.out wr v15 w15 (hB.trans (hbj.mono hB.size)) hown16 ((hb14'.alloc hb14'.size _).trans hb15)
      have HFF := Lib.hid hf15
      clear hown16 hown15 hown14 hf15
      go_wp2
      exact HFF.out
end Go.Proofs.YtkapnpcolmhdbaaDoor
