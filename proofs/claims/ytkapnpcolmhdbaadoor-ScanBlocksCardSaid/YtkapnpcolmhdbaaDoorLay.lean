/- The contract of sheet.Lay, and of the laws' awake. -/
import Derived.Test.YtkapnpcolmhdbaaDoorNear
import Derived.Test.YtkapnpcolmhdbaaDoorZeros
import Derived.Test.YtkapnpcolmhdbaaDoorLawC
import Derived.Test.YtkapnpcolmhdbaaDoorOcta
namespace Drawbar.Sheet
open Go.Proofs.YtkapnpcolmhdbaaDoor
/-- The bytes that are sealed. -/
def head (s : Sh) : List Nat := (((put s.k 1 ++ put s.ep 6) ++ put s.sq 6) ++ put s.ad.toNat 2) ++ put (s.fr + 1).toNat 1
def body (s : Sh) : List Nat := (head s ++ laid1 s.da) ++ List.replicate (73 - s.da.length) 0
def page (s : Sh) : List Nat := (body s ++ put (Crc.sum (body s)) 4) ++ [90]
set_option maxRecDepth 100000 in
theorem head_length (s : Sh) : (head s).length = 16 := by simp [head, put_length]
set_option maxRecDepth 100000 in
theorem body_length (s : Sh) (h : s.da.length ≤ 64) : (body s).length = 91 := by simp [body, head_length, laid1_length]; omega
set_option maxRecDepth 100000 in
theorem page_length (s : Sh) (h : s.da.length ≤ 64) : (page s).length = 96 := by simp [page, body_length s h, put_length]
set_option maxRecDepth 100000 in
theorem app_lt {l m : List Nat} (hl : ∀ x ∈ l, x < 256) (hm : ∀ x ∈ m, x < 256) : ∀ x ∈ l ++ m, x < 256 := fun x hx => by
  rcases List.mem_append.1 hx with h | h
  · exact hl x h
  · exact hm x h
set_option maxRecDepth 100000 in
theorem head_lt (s : Sh) : ∀ x ∈ head s, x < 256 := app_lt (app_lt (app_lt (app_lt (put_lt _ _) (put_lt _ _)) (put_lt _ _)) (put_lt _ _)) (put_lt _ _)
set_option maxRecDepth 100000 in
theorem body_lt (s : Sh) (h : ∀ x ∈ s.da, x < 256) : ∀ x ∈ body s, x < 256 :=
  app_lt (app_lt (head_lt s) (app_lt (put_lt _ _) h)) (fun x hx => by rw [List.eq_of_mem_replicate hx]; omega)
set_option maxRecDepth 100000 in
theorem page_lt (s : Sh) (h : ∀ x ∈ s.da, x < 256) : ∀ x ∈ page s, x < 256 :=
  app_lt (app_lt (body_lt s h) (put_lt _ _)) (by simp)
set_option maxRecDepth 100000 in
theorem fm_len {s : Sh} (h : fm s = true) : s.da.length ≤ 64 := by
  have := (of_decide_eq_true h).2.2.2.2.2.2.2.2
  omega
end Drawbar.Sheet
namespace Go.Proofs.YtkapnpcolmhdbaaDoor
open Go.RowKit
open Drawbar Drawbar.Sheet

set_option maxRecDepth 100000 in
theorem lay_none (s : Sh) (a : Option Addr) (c : Nat) (w : World) (hf : fm s = false) :
    Calls Tryd.prog 17 #[sv s a c] w fun e w' => e = .returned (.slice none 0 0) ∧ Below w.heap.size w w' := by
  obtain ⟨c0, c1, c2, c3, c4, c5⟩ := boxs_cells w 44 s a c _ (Below.refl _ _)
  have hB := boxs_below w 44 s a c
  have hF := sform_any s a c (w.alloc (boxs 44 s a c))
  rw [hf] at hF
  unfold sv at hF ⊢
  generalize hw1 : w.alloc (boxs 44 s a c) = w1 at *
  have HF := Lib.hid hF
  clear hF hf
  go_enter Tryd.func17, Tryd.ntmps17
  go_wp2_with (go_at_call 50; (with_reducible refine HF.out.mono ?_); rintro e w2 ⟨rfl, hb2⟩)
  go_ret
  exact ⟨rfl, hB.trans (hb2.mono hB.size)⟩

/-- New bytes, of a known number. -/
def Gives (W : World) (l : List Nat) (M : Nat) (e : Ending) (w' : World) : Prop := ∃ a cap, e = .returned (.slice a M cap) ∧ M ≤ cap ∧ Rd w' a l ∧ Below W.heap.size W w' ∧ w'.ownsRow W.heap.size 5 1 (.slice a M cap) M (l.map bv)
set_option maxRecDepth 100000 in
theorem gives_of {W w' : World} {l : List Nat} {M : Nat} {e : Ending} (h : NewBytes W l e w') (hl : ∀ x ∈ l, x < 256) (hM : l.length = M) (hM2 : M ≤ 1000000) : Gives W l M e w' := by
  obtain ⟨v, rfl, hown, hb⟩ := h
  obtain ⟨a, cap, rfl, hcap, hrd, _, _⟩ := rd_of_own hown hl (by omega)
  subst hM
  exact ⟨a, cap, rfl, hcap, hrd, hb, hown⟩

set_option maxRecDepth 100000 in
theorem put_at (l : List Nat) (b : Option Addr) (cb n size : Nat) (W : World) (N M : Nat) (x y : Int) (hx : x = n) (hy : y = size) (hr : Rd W b l) (hN : l.length = N) (hM : N + size = M) (hcb : N ≤ cb) (hM2 : M ≤ 1000000) (h1 : 1 ≤ size) (h8 : size ≤ 8) :
    Calls Tryd.prog 51 #[.slice b N cb, .int .u64 x, .int .i64 y] W (Gives W (l ++ put n size) M) := by
  subst hx hy hN
  exact (put_any l b cb n size W hr hcb h1 h8).mono fun e w' h => gives_of h (app_lt hr.1 (put_lt _ _)) (by rw [List.length_append, put_length]; exact hM) hM2

set_option maxRecDepth 100000 in
theorem put1 (l : List Nat) (b : Option Addr) (cb n : Nat) (W : World) (N M : Nat) (x : Int) (hx : x = n) (hr : Rd W b l) (hN : l.length = N) (hM : N + 1 = M) (hcb : N ≤ cb) (hM2 : M ≤ 1000000) :
    Calls Tryd.prog 51 #[.slice b N cb, .int .u64 x, .int .i64 1] W (Gives W (l ++ put n 1) M) := put_at l b cb n 1 W N M x 1 hx rfl hr hN hM hcb hM2 (by omega) (by omega)
set_option maxRecDepth 100000 in
theorem put2 (l : List Nat) (b : Option Addr) (cb n : Nat) (W : World) (N M : Nat) (x : Int) (hx : x = n) (hr : Rd W b l) (hN : l.length = N) (hM : N + 2 = M) (hcb : N ≤ cb) (hM2 : M ≤ 1000000) :
    Calls Tryd.prog 51 #[.slice b N cb, .int .u64 x, .int .i64 2] W (Gives W (l ++ put n 2) M) := put_at l b cb n 2 W N M x 2 hx rfl hr hN hM hcb hM2 (by omega) (by omega)
set_option maxRecDepth 100000 in
theorem put6 (l : List Nat) (b : Option Addr) (cb n : Nat) (W : World) (N M : Nat) (x : Int) (hx : x = n) (hr : Rd W b l) (hN : l.length = N) (hM : N + 6 = M) (hcb : N ≤ cb) (hM2 : M ≤ 1000000) :
    Calls Tryd.prog 51 #[.slice b N cb, .int .u64 x, .int .i64 6] W (Gives W (l ++ put n 6) M) := put_at l b cb n 6 W N M x 6 hx rfl hr hN hM hcb hM2 (by omega) (by omega)

set_option maxRecDepth 100000 in
theorem bytes_at (l m : List Nat) (b d : Option Addr) (cb cd : Nat) (W : World) (N K M : Nat) (hr : Rd W b l) (hm : Rd W d m) (hN : l.length = N) (hK : m.length = K) (hM : N + (K + 2) = M) (hcb : N ≤ cb) (hcd : K ≤ cd) (hnil : d = none → cd = 0) (hK2 : K ≤ 65535) (hM2 : M ≤ 1000000) :
    Calls Tryd.prog 52 #[.slice b N cb, .slice d K cd] W (Gives W (l ++ laid1 m) M) := by
  subst hN hK
  exact (octbytes_any l m b d cb cd W hr hm hcb hcd hnil (by omega) hK2).mono fun e w' h => gives_of h (app_lt hr.1 (app_lt (put_lt _ _) hm.1)) (by rw [List.length_append, laid1_length]; exact hM) hM2

set_option maxRecDepth 100000 in
theorem zeros_body (s : Sh) (hl : s.da.length ≤ 64) (hda : ∀ x ∈ s.da, x < 256) {w : World} {base M : Nat} {v : Value} (hM : M = s.da.length + 18)
    (hown : w.ownsRow base 5 1 v (M + (73 - s.da.length)) (((((([] ++ put s.k 1) ++ put s.ep 6) ++ put s.sq 6) ++ put s.ad.toNat 2) ++ put (s.fr + 1).toNat 1 ++ laid1 s.da).map bv ++ List.replicate (73 - s.da.length) (.int .u8 0))) :
    ∃ a k, v = .slice a 91 k ∧ 91 ≤ k ∧ Rd w a (body s) := by
  have h2 : (((((([] ++ put s.k 1) ++ put s.ep 6) ++ put s.sq 6) ++ put s.ad.toNat 2) ++ put (s.fr + 1).toNat 1 ++ laid1 s.da).map bv ++ List.replicate (73 - s.da.length) (.int .u8 0)) = (body s).map bv := by
    unfold body head
    simp [bv]
  rw [h2, show M + (73 - s.da.length) = 91 by omega] at hown
  obtain ⟨a, k, rfl, hk, hrd, _, _⟩ := rd_of_own hown (body_lt s hda) (by rw [body_length s hl]; omega)
  rw [body_length s hl] at hk ⊢
  exact ⟨a, k, rfl, hk, hrd⟩

set_option maxRecDepth 100000 in
theorem seal_at (l : List Nat) (b : Option Addr) (cb : Nat) (W : World) (N M : Nat) (hr : Rd W b l) (hN : l.length = N) (hM : N + 4 = M) (hcb : N ≤ cb) (hT : Tab W) (hM2 : M ≤ 1000000) :
    Calls Tryd.prog 53 #[.slice b N cb] W (Gives W (l ++ put (Crc.sum l) 4) M) := by
  subst hN
  exact (seal_any l b cb W hr hcb hT).mono fun e w' h => gives_of h (app_lt hr.1 (put_lt _ _)) (by rw [List.length_append, put_length]; exact hM) hM2

set_option maxRecDepth 100000 in
set_option maxHeartbeats 4000000 in
theorem lay_any (s : Sh) (a : Option Addr) (c : Nat) (w : World) (hf : fm s = true) (hr : Rd w a s.da) (hc : s.da.length ≤ c) (hnil : a = none → c = 0) (hT : Tab w) :
    Calls Tryd.prog 17 #[sv s a c] w (NewBytes w (page s)) := by
  obtain ⟨i0, hi, hz0, hz1, hz2⟩ := info_parts info_u8
  have hcells := boxs_cells w 44 s a c
  have hB := boxs_below w 44 s a c
  have hF := sform_any s a c (w.alloc (boxs 44 s a c))
  have hR1 := hr.below hB
  have hT1 := hT.alloc (boxs 44 s a c)
  rw [hf] at hF
  obtain ⟨f1, f2, f3, f4, f5, f6, f7, f8, _⟩ := of_decide_eq_true hf
  have hl := fm_len hf
  have hb0 : Below (w.alloc (boxs 44 s a c)).heap.size (w.alloc (boxs 44 s a c)) (w.alloc (boxs 44 s a c)) := Below.refl _ _
  have e1 : s.ad = (s.ad.toNat : Int) := by omega
  have e2 : s.fr + 1 = ((s.fr + 1).toNat : Int) := by omega
  have hbl := body_length s hl
  generalize hw1 : w.alloc (boxs 44 s a c) = w1 at *
  change w.alloc (.cells #[.int .u8 s.k, .int .u64 s.ep, .int .u64 s.sq, .int .i64 s.ad, .int .i64 s.fr, .slice a s.da.length c] 44) = w1 at hw1
  unfold sv at hF ⊢
  have hda := hr.1
  have hfin : ∀ v' w', w'.ownsRow w1.heap.size 5 1 v' 96 ((page s).map bv) → Below w1.heap.size w1 w' → NewBytes w (page s) (.returned v') w' := fun v' w' h hb =>
    ⟨v', rfl, by rw [page_length s hl]; exact ownsRow_base h hB.size, hB.trans (hb.mono hB.size)⟩
  generalize hP : NewBytes w (page s) = PP at hfin ⊢
  have HFIN := Lib.hid hfin
  have HF := Lib.hid hF
  have HC := Lib.hid hcells
  have E1 := Lib.hid e1
  have E2 := Lib.hid e2
  have HR := Lib.hid hR1
  have HT := Lib.hid hT1
  have HBL := Lib.hid hbl
  have HDA := Lib.hid hda
  obtain ⟨q0, q1, q2, q3, q4, q5⟩ := hcells _ hb0
  clear hfin hF hcells e1 e2 hR1 hT1 hf hr hT hP hbl hda
  obtain ⟨M, hM⟩ : ∃ M, 16 + (s.da.length + 2) = M := ⟨_, rfl⟩
  have HDL := Lib.hid hl
  go_enter Tryd.func17, Tryd.ntmps17
  go_wp2_with (first
    | (go_at_call 50; (with_reducible refine HF.out.mono ?_); rintro e w2 ⟨rfl, hb2⟩; obtain ⟨r0, r1, r2, r3, r4, r5⟩ := HC.out _ hb2)
    | (go_at_call 51; (with_reducible refine (put1 [] none 0 s.k _ 0 1 _ rfl (rd_nil _) List.length_nil (by omega) (by omega) (by omega)).mono ?_); rintro e w3 ⟨a3, k3, rfl, hk3, hr3, hb3', -⟩; have hb3 := hb2.trans (hb3'.mono hb2.size); obtain ⟨t0, t1, t2, t3, t4, t5⟩ := HC.out _ hb3)
    | (go_at_call 51; (with_reducible refine (put6 ([] ++ put s.k 1) a3 k3 s.ep _ 1 7 _ rfl hr3 (by simp [put_length]) (by omega) hk3 (by omega)).mono ?_); rintro e w4 ⟨a4, k4, rfl, hk4, hr4, hb4', -⟩; have hb4 := hb3.trans (hb4'.mono hb3.size); obtain ⟨u0, u1, u2, u3, u4, u5⟩ := HC.out _ hb4)
    | (go_at_call 51; (with_reducible refine (put6 (([] ++ put s.k 1) ++ put s.ep 6) a4 k4 s.sq _ 7 13 _ rfl hr4 (by simp [put_length]) (by omega) hk4 (by omega)).mono ?_); rintro e w5 ⟨a5, k5, rfl, hk5, hr5, hb5', -⟩; have hb5 := hb4.trans (hb5'.mono hb4.size); obtain ⟨v0, v1, v2, v3, v4, v5⟩ := HC.out _ hb5)
    | (go_at_call 51; (with_reducible refine (put2 ((([] ++ put s.k 1) ++ put s.ep 6) ++ put s.sq 6) a5 k5 s.ad.toNat _ 13 15 _ E1.out hr5 (by simp [put_length]) (by omega) hk5 (by omega)).mono ?_); rintro e w6 ⟨a6, k6, rfl, hk6, hr6, hb6', -⟩; have hb6 := hb5.trans (hb6'.mono hb5.size); obtain ⟨x0, x1, x2, x3, x4, x5⟩ := HC.out _ hb6)
    | (go_at_call 51; (with_reducible refine (put1 (((([] ++ put s.k 1) ++ put s.ep 6) ++ put s.sq 6) ++ put s.ad.toNat 2) a6 k6 (s.fr + 1).toNat _ 15 16 _ E2.out hr6 (by simp [put_length]) (by omega) hk6 (by omega)).mono ?_); rintro e w7 ⟨a7, k7, rfl, hk7, hr7, hb7', -⟩; have hb7 := hb6.trans (hb7'.mono hb6.size); obtain ⟨y0, y1, y2, y3, y4, y5⟩ := HC.out _ hb7)
    | (go_at_call 52; (with_reducible refine (bytes_at _ s.da a7 a k7 c _ 16 _ M hr7 (HR.out.below hb7) (by simp [put_length]) rfl (by omega) hk7 hc hnil (by omega) (by omega)).mono ?_); rintro e w8 ⟨a8, k8, rfl, hk8, hr8, hb8', hown8⟩; have hb8 := hb7.trans (hb8'.mono hb7.size))
    | (at_builtin; refine wpList_append_zeros rfl (.tmp 34) (.tmp 37) 42 3 rfl w7.heap.size 5 i0 (.int .u8 0) Tryd.underlying42 Tryd.underlying3 hi hz0 hz1 hz2 rfl rfl _ M _ rfl hown8 (by omega) (73 - s.da.length) _ rfl (by omega) (by omega) (by omega) hb8'.size ?_; intro v9 w9 hown9 hb9'; obtain ⟨a9, k9, rfl, hk9, hr9⟩ := zeros_body s HDL.out HDA.out (by omega) hown9; have hb9 := hb8.trans (hb9'.mono hb7.size); clear hown9)
    | (go_at_call 53; (with_reducible refine (seal_at (body s) a9 k9 _ 91 95 hr9 HBL.out (by omega) hk9 (HT.out.below hb9 HT.out.pos) (by omega)).mono ?_); rintro e w10 ⟨a10, k10, rfl, hk10, hr10, hb10', hown10⟩; have hb10 := hb9.trans (hb10'.mono hb9.size))
    | (at_builtin; refine wpList_append_ownz rfl (.tmp 40) (.tmp 41) 42 rfl w9.heap.size 5 i0 (.int .u8 0) 1 1 Tryd.underlying42 hi hz0 hz1 hz2 rfl (by decide) _ 95 _ rfl (hown10.alloc _) (some ⟨w10.heap.size, 0, none⟩) 1 1 [.int .u8 90] rfl (fun h => by cases h) rfl (At.one w10 _ _) (by simp [Value.oneCell']) (by unfold maxLen; omega) (by omega) (by have := hb10'.size; simp; omega) ?_; intro v11 w11 hown11 hb11'))
  have hb11 : Below w1.heap.size w1 w11 := hb10.trans (((Below.refl _ _).alloc hb10.size _).trans (hb11'.mono hb9.size))
  have hf11 := HFIN.out v11 w11 (ownsRow_base (by unfold page; simpa [bv] using hown11) hb9.size) hb11
  have HF11 := Lib.hid hf11
  clear hown11 hown10 hown8 hf11
  go_wp2
  exact HF11.out

set_option maxRecDepth 100000 in
theorem awake_form : fm ⟨1, 0, 0, 0, -1, []⟩ = true := by decide
end Go.Proofs.YtkapnpcolmhdbaaDoor
