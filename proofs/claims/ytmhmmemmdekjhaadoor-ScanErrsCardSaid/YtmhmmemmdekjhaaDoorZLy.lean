/- The contract of sheet.Lay, and of the laws' awake. The walk of the law SheetForms. The contract of the document's Same; two sheets with the form that are unlike have unlike pages. The walk of the law SheetApart. What stands in a page's bytes: as sheet.parts reads it, and as the document reads it; both give back what was laid. -/
import Derived.Test.YtmhmmemmdekjhaaDoorZRf
import Derived.Test.YtmhmmemmdekjhaaDoorZOc
import Derived.Deep.RegionHeld
namespace Drawbar.Sheet
open Go.Proofs.YtmhmmemmdekjhaaDoor
/-- The bytes that are sealed. -/
def head (s : Sh) : List Nat := (((put s.k 1 ++ put s.ep 6) ++ put s.sq 6) ++ put s.ad.toNat 2) ++ put (s.fr + 1).toNat 1
def body (s : Sh) : List Nat := (head s ++ laid1 s.da) ++ List.replicate (73 - s.da.length) 0
def page (s : Sh) : List Nat := (body s ++ put (Crc.sum (body s)) 4) ++ [90]
set_option maxRecDepth 100000 in
theorem head_length (s : Sh) : (head s).length = 16 := by simp [head, put_length]
set_option maxRecDepth 100000 in
theorem body_length (s : Sh) (h : s.da.length ≤ 64) : (body s).length = 91 := by simp [body, head_length, laid1_length]; omega
set_option maxRecDepth 100000 in
theorem page_length (s : Sh) (h : s.da.length ≤ 64) : (page s).length = 96 := by simp [page, body_length s h, put_length]
set_option maxRecDepth 100000 in
theorem app_lt {l m : List Nat} (hl : ∀ x ∈ l, x < 256) (hm : ∀ x ∈ m, x < 256) : ∀ x ∈ l ++ m, x < 256 := fun x hx => by
  rcases List.mem_append.1 hx with h | h
  · exact hl x h
  · exact hm x h
set_option maxRecDepth 100000 in
theorem head_lt (s : Sh) : ∀ x ∈ head s, x < 256 := app_lt (app_lt (app_lt (app_lt (put_lt _ _) (put_lt _ _)) (put_lt _ _)) (put_lt _ _)) (put_lt _ _)
set_option maxRecDepth 100000 in
theorem body_lt (s : Sh) (h : ∀ x ∈ s.da, x < 256) : ∀ x ∈ body s, x < 256 :=
  app_lt (app_lt (head_lt s) (app_lt (put_lt _ _) h)) (fun x hx => by rw [List.eq_of_mem_replicate hx]; omega)
set_option maxRecDepth 100000 in
theorem page_lt (s : Sh) (h : ∀ x ∈ s.da, x < 256) : ∀ x ∈ page s, x < 256 :=
  app_lt (app_lt (body_lt s h) (put_lt _ _)) (by simp)
set_option maxRecDepth 100000 in
theorem fm_len {s : Sh} (h : fm s = true) : s.da.length ≤ 64 := by
  have := (of_decide_eq_true h).2.2.2.2.2.2.2.2
  omega
end Drawbar.Sheet
namespace Go.Proofs.YtmhmmemmdekjhaaDoor
open Go.RowKit
open Drawbar Drawbar.Sheet

set_option maxRecDepth 100000 in
theorem lay_none (s : Sh) (a : Option Addr) (c : Nat) (w : World) (hf : fm s = false) :
    Calls Tryd.prog 23 #[sv s a c] w fun e w' => e = .returned (.slice none 0 0) ∧ Below w.heap.size w w' := by
  obtain ⟨c0, c1, c2, c3, c4, c5⟩ := boxs_cells w 44 s a c _ (Below.refl _ _)
  have hB := boxs_below w 44 s a c
  have hF := sform_any s a c (w.alloc (boxs 44 s a c))
  rw [hf] at hF
  unfold sv at hF ⊢
  generalize hw1 : w.alloc (boxs 44 s a c) = w1 at *
  have HF := Lib.hid hF
  clear hF hf
  go_enter Tryd.func23, Tryd.ntmps23
  go_wp2_with (go_at_call 56; (with_reducible refine HF.out.mono ?_); rintro e w2 ⟨rfl, hb2⟩)
  go_ret
  exact ⟨rfl, hB.trans (hb2.mono hB.size)⟩

/-- New bytes, of a known number. -/
def Gives (W : World) (l : List Nat) (M : Nat) (e : Ending) (w' : World) : Prop := ∃ a cap, e = .returned (.slice a M cap) ∧ M ≤ cap ∧ Rd w' a l ∧ Below W.heap.size W w' ∧ w'.ownsRow W.heap.size 5 1 (.slice a M cap) M (l.map bv)
set_option maxRecDepth 100000 in
theorem gives_of {W w' : World} {l : List Nat} {M : Nat} {e : Ending} (h : NewBytes W l e w') (hl : ∀ x ∈ l, x < 256) (hM : l.length = M) (hM2 : M ≤ 1000000) : Gives W l M e w' := by
  obtain ⟨v, rfl, hown, hb⟩ := h
  obtain ⟨a, cap, rfl, hcap, hrd, _, _⟩ := rd_of_own hown hl (by omega)
  subst hM
  exact ⟨a, cap, rfl, hcap, hrd, hb, hown⟩

set_option maxRecDepth 100000 in
theorem put_at (l : List Nat) (b : Option Addr) (cb n size : Nat) (W : World) (N M : Nat) (x y : Int) (hx : x = n) (hy : y = size) (hr : Rd W b l) (hN : l.length = N) (hM : N + size = M) (hcb : N ≤ cb) (hM2 : M ≤ 1000000) (h1 : 1 ≤ size) (h8 : size ≤ 8) :
    Calls Tryd.prog 57 #[.slice b N cb, .int .u64 x, .int .i64 y] W (Gives W (l ++ put n size) M) := by
  subst hx hy hN
  exact (put_any l b cb n size W hr hcb h1 h8).mono fun e w' h => gives_of h (app_lt hr.1 (put_lt _ _)) (by rw [List.length_append, put_length]; exact hM) hM2

set_option maxRecDepth 100000 in
theorem put1 (l : List Nat) (b : Option Addr) (cb n : Nat) (W : World) (N M : Nat) (x : Int) (hx : x = n) (hr : Rd W b l) (hN : l.length = N) (hM : N + 1 = M) (hcb : N ≤ cb) (hM2 : M ≤ 1000000) :
    Calls Tryd.prog 57 #[.slice b N cb, .int .u64 x, .int .i64 1] W (Gives W (l ++ put n 1) M) := put_at l b cb n 1 W N M x 1 hx rfl hr hN hM hcb hM2 (by omega) (by omega)
set_option maxRecDepth 100000 in
theorem put2 (l : List Nat) (b : Option Addr) (cb n : Nat) (W : World) (N M : Nat) (x : Int) (hx : x = n) (hr : Rd W b l) (hN : l.length = N) (hM : N + 2 = M) (hcb : N ≤ cb) (hM2 : M ≤ 1000000) :
    Calls Tryd.prog 57 #[.slice b N cb, .int .u64 x, .int .i64 2] W (Gives W (l ++ put n 2) M) := put_at l b cb n 2 W N M x 2 hx rfl hr hN hM hcb hM2 (by omega) (by omega)
set_option maxRecDepth 100000 in
theorem put6 (l : List Nat) (b : Option Addr) (cb n : Nat) (W : World) (N M : Nat) (x : Int) (hx : x = n) (hr : Rd W b l) (hN : l.length = N) (hM : N + 6 = M) (hcb : N ≤ cb) (hM2 : M ≤ 1000000) :
    Calls Tryd.prog 57 #[.slice b N cb, .int .u64 x, .int .i64 6] W (Gives W (l ++ put n 6) M) := put_at l b cb n 6 W N M x 6 hx rfl hr hN hM hcb hM2 (by omega) (by omega)

set_option maxRecDepth 100000 in
theorem bytes_at (l m : List Nat) (b d : Option Addr) (cb cd : Nat) (W : World) (N K M : Nat) (hr : Rd W b l) (hm : Rd W d m) (hN : l.length = N) (hK : m.length = K) (hM : N + (K + 2) = M) (hcb : N ≤ cb) (hcd : K ≤ cd) (hnil : d = none → cd = 0) (hK2 : K ≤ 65535) (hM2 : M ≤ 1000000) :
    Calls Tryd.prog 58 #[.slice b N cb, .slice d K cd] W (Gives W (l ++ laid1 m) M) := by
  subst hN hK
  exact (octbytes_any l m b d cb cd W hr hm hcb hcd hnil (by omega) hK2).mono fun e w' h => gives_of h (app_lt hr.1 (app_lt (put_lt _ _) hm.1)) (by rw [List.length_append, laid1_length]; exact hM) hM2

set_option maxRecDepth 100000 in
theorem zeros_body (s : Sh) (hl : s.da.length ≤ 64) (hda : ∀ x ∈ s.da, x < 256) {w : World} {base M : Nat} {v : Value} (hM : M = s.da.length + 18)
    (hown : w.ownsRow base 5 1 v (M + (73 - s.da.length)) (((((([] ++ put s.k 1) ++ put s.ep 6) ++ put s.sq 6) ++ put s.ad.toNat 2) ++ put (s.fr + 1).toNat 1 ++ laid1 s.da).map bv ++ List.replicate (73 - s.da.length) (.int .u8 0))) :
    ∃ a k, v = .slice a 91 k ∧ 91 ≤ k ∧ Rd w a (body s) := by
  have h2 : (((((([] ++ put s.k 1) ++ put s.ep 6) ++ put s.sq 6) ++ put s.ad.toNat 2) ++ put (s.fr + 1).toNat 1 ++ laid1 s.da).map bv ++ List.replicate (73 - s.da.length) (.int .u8 0)) = (body s).map bv := by
    unfold body head
    simp [bv]
  rw [h2, show M + (73 - s.da.length) = 91 by omega] at hown
  obtain ⟨a, k, rfl, hk, hrd, _, _⟩ := rd_of_own hown (body_lt s hda) (by rw [body_length s hl]; omega)
  rw [body_length s hl] at hk ⊢
  exact ⟨a, k, rfl, hk, hrd⟩

set_option maxRecDepth 100000 in
theorem seal_at (l : List Nat) (b : Option Addr) (cb : Nat) (W : World) (N M : Nat) (hr : Rd W b l) (hN : l.length = N) (hM : N + 4 = M) (hcb : N ≤ cb) (hT : Tab W) (hM2 : M ≤ 1000000) :
    Calls Tryd.prog 59 #[.slice b N cb] W (Gives W (l ++ put (Crc.sum l) 4) M) := by
  subst hN
  exact (seal_any l b cb W hr hcb hT).mono fun e w' h => gives_of h (app_lt hr.1 (put_lt _ _)) (by rw [List.length_append, put_length]; exact hM) hM2

set_option maxRecDepth 100000 in
set_option maxHeartbeats 4000000 in
theorem lay_any (s : Sh) (a : Option Addr) (c : Nat) (w : World) (hf : fm s = true) (hr : Rd w a s.da) (hc : s.da.length ≤ c) (hnil : a = none → c = 0) (hT : Tab w) :
    Calls Tryd.prog 23 #[sv s a c] w (NewBytes w (page s)) := by
  obtain ⟨i0, hi, hz0, hz1, hz2⟩ := info_parts info_u8
  have hcells := boxs_cells w 44 s a c
  have hB := boxs_below w 44 s a c
  have hF := sform_any s a c (w.alloc (boxs 44 s a c))
  have hR1 := hr.below hB
  have hT1 := hT.alloc (boxs 44 s a c)
  rw [hf] at hF
  obtain ⟨f1, f2, f3, f4, f5, f6, f7, f8, _⟩ := of_decide_eq_true hf
  have hl := fm_len hf
  have hb0 : Below (w.alloc (boxs 44 s a c)).heap.size (w.alloc (boxs 44 s a c)) (w.alloc (boxs 44 s a c)) := Below.refl _ _
  have e1 : s.ad = (s.ad.toNat : Int) := by omega
  have e2 : s.fr + 1 = ((s.fr + 1).toNat : Int) := by omega
  have hbl := body_length s hl
  generalize hw1 : w.alloc (boxs 44 s a c) = w1 at *
  change w.alloc (.cells #[.int .u8 s.k, .int .u64 s.ep, .int .u64 s.sq, .int .i64 s.ad, .int .i64 s.fr, .slice a s.da.length c] 44) = w1 at hw1
  unfold sv at hF ⊢
  have hda := hr.1
  have hfin : ∀ v' w', w'.ownsRow w1.heap.size 5 1 v' 96 ((page s).map bv) → Below w1.heap.size w1 w' → NewBytes w (page s) (.returned v') w' := fun v' w' h hb =>
    ⟨v', rfl, by rw [page_length s hl]; exact ownsRow_base h hB.size, hB.trans (hb.mono hB.size)⟩
  generalize hP : NewBytes w (page s) = PP at hfin ⊢
  have HFIN := Lib.hid hfin
  have HF := Lib.hid hF
  have HC := Lib.hid hcells
  have E1 := Lib.hid e1
  have E2 := Lib.hid e2
  have HR := Lib.hid hR1
  have HT := Lib.hid hT1
  have HBL := Lib.hid hbl
  have HDA := Lib.hid hda
  obtain ⟨q0, q1, q2, q3, q4, q5⟩ := hcells _ hb0
  clear hfin hF hcells e1 e2 hR1 hT1 hf hr hT hP hbl hda
  obtain ⟨M, hM⟩ : ∃ M, 16 + (s.da.length + 2) = M := ⟨_, rfl⟩
  have HDL := Lib.hid hl
  go_enter Tryd.func23, Tryd.ntmps23
  go_wp2_with (first
    | (go_at_call 56; (with_reducible refine HF.out.mono ?_); rintro e w2 ⟨rfl, hb2⟩; obtain ⟨r0, r1, r2, r3, r4, r5⟩ := HC.out _ hb2)
    | (go_at_call 57; (with_reducible refine (put1 [] none 0 s.k _ 0 1 _ rfl (rd_nil _) List.length_nil (by omega) (by omega) (by omega)).mono ?_); rintro e w3 ⟨a3, k3, rfl, hk3, hr3, hb3', -⟩; have hb3 := hb2.trans (hb3'.mono hb2.size); obtain ⟨t0, t1, t2, t3, t4, t5⟩ := HC.out _ hb3)
    | (go_at_call 57; (with_reducible refine (put6 ([] ++ put s.k 1) a3 k3 s.ep _ 1 7 _ rfl hr3 (by simp [put_length]) (by omega) hk3 (by omega)).mono ?_); rintro e w4 ⟨a4, k4, rfl, hk4, hr4, hb4', -⟩; have hb4 := hb3.trans (hb4'.mono hb3.size); obtain ⟨u0, u1, u2, u3, u4, u5⟩ := HC.out _ hb4)
    | (go_at_call 57; (with_reducible refine (put6 (([] ++ put s.k 1) ++ put s.ep 6) a4 k4 s.sq _ 7 13 _ rfl hr4 (by simp [put_length]) (by omega) hk4 (by omega)).mono ?_); rintro e w5 ⟨a5, k5, rfl, hk5, hr5, hb5', -⟩; have hb5 := hb4.trans (hb5'.mono hb4.size); obtain ⟨v0, v1, v2, v3, v4, v5⟩ := HC.out _ hb5)
    | (go_at_call 57; (with_reducible refine (put2 ((([] ++ put s.k 1) ++ put s.ep 6) ++ put s.sq 6) a5 k5 s.ad.toNat _ 13 15 _ E1.out hr5 (by simp [put_length]) (by omega) hk5 (by omega)).mono ?_); rintro e w6 ⟨a6, k6, rfl, hk6, hr6, hb6', -⟩; have hb6 := hb5.trans (hb6'.mono hb5.size); obtain ⟨x0, x1, x2, x3, x4, x5⟩ := HC.out _ hb6)
    | (go_at_call 57; (with_reducible refine (put1 (((([] ++ put s.k 1) ++ put s.ep 6) ++ put s.sq 6) ++ put s.ad.toNat 2) a6 k6 (s.fr + 1).toNat _ 15 16 _ E2.out hr6 (by simp [put_length]) (by omega) hk6 (by omega)).mono ?_); rintro e w7 ⟨a7, k7, rfl, hk7, hr7, hb7', -⟩; have hb7 := hb6.trans (hb7'.mono hb6.size); obtain ⟨y0, y1, y2, y3, y4, y5⟩ := HC.out _ hb7)
    | (go_at_call 58; (with_reducible refine (bytes_at _ s.da a7 a k7 c _ 16 _ M hr7 (HR.out.below hb7) (by simp [put_length]) rfl (by omega) hk7 hc hnil (by omega) (by omega)).mono ?_); rintro e w8 ⟨a8, k8, rfl, hk8, hr8, hb8', hown8⟩; have hb8 := hb7.trans (hb8'.mono hb7.size))
    | (at_builtin; refine wpList_append_zeros rfl (.tmp 34) (.tmp 37) 42 3 rfl w7.heap.size 5 i0 (.int .u8 0) Tryd.underlying42 Tryd.underlying3 hi hz0 hz1 hz2 rfl rfl _ M _ rfl hown8 (by omega) (73 - s.da.length) _ rfl (by omega) (by omega) (by omega) hb8'.size ?_; intro v9 w9 hown9 hb9'; obtain ⟨a9, k9, rfl, hk9, hr9⟩ := zeros_body s HDL.out HDA.out (by omega) hown9; have hb9 := hb8.trans (hb9'.mono hb7.size); clear hown9)
    | (go_at_call 59; (with_reducible refine (seal_at (body s) a9 k9 _ 91 95 hr9 HBL.out (by omega) hk9 (HT.out.below hb9 HT.out.pos) (by omega)).mono ?_); rintro e w10 ⟨a10, k10, rfl, hk10, hr10, hb10', hown10⟩; have hb10 := hb9.trans (hb10'.mono hb9.size))
    | (at_builtin; refine wpList_append_ownz rfl (.tmp 40) (.tmp 41) 42 rfl w9.heap.size 5 i0 (.int .u8 0) 1 1 Tryd.underlying42 hi hz0 hz1 hz2 rfl (by decide) _ 95 _ rfl (hown10.alloc _) (some ⟨w10.heap.size, 0, none⟩) 1 1 [.int .u8 90] rfl (fun h => by cases h) rfl (At.one w10 _ _) (by simp [Value.oneCell']) (by unfold maxLen; omega) (by omega) (by have := hb10'.size; simp; omega) ?_; intro v11 w11 hown11 hb11'))
  have hb11 : Below w1.heap.size w1 w11 := hb10.trans (((Below.refl _ _).alloc hb10.size _).trans (hb11'.mono hb9.size))
  have hf11 := HFIN.out v11 w11 (ownsRow_base (by unfold page; simpa [bv] using hown11) hb9.size) hb11
  have HF11 := Lib.hid hf11
  clear hown11 hown10 hown8 hf11
  go_wp2
  exact HF11.out

set_option maxRecDepth 100000 in
theorem awake_form : fm ⟨1, 0, 0, 0, -1, []⟩ = true := by decide
end Go.Proofs.YtmhmmemmdekjhaaDoor
namespace Go.Proofs.YtmhmmemmdekjhaaDoor
open Go.RowKit
open Drawbar Drawbar.Sheet
set_option maxRecDepth 100000 in
theorem drew_below (w : World) : Below w.heap.size w w.drew := (Below.refl _ _).drew

end Go.Proofs.YtmhmmemmdekjhaaDoor
namespace Drawbar.Sheet
open Go.Proofs.YtmhmmemmdekjhaaDoor
/-- Are two one? -/
def sameS (s t : Sh) : Bool := decide (s.k = t.k ∧ s.ep = t.ep ∧ s.sq = t.sq ∧ s.ad = t.ad ∧ s.fr = t.fr ∧ s.da = t.da)
set_option maxRecDepth 100000 in
theorem put_inj {n m k : Nat} (hn : n < 2 ^ (8 * k)) (hm : m < 2 ^ (8 * k)) (h : put n k = put m k) : n = m := by
  have := congrArg Crc.le h
  rw [le_put, le_put, Nat.mod_eq_of_lt hn, Nat.mod_eq_of_lt hm] at this
  exact this
set_option maxRecDepth 100000 in
theorem app_inj {a b c d : List Nat} (h : a ++ b = c ++ d) (hl : a.length = c.length) : a = c ∧ b = d := List.append_inj h hl
set_option maxRecDepth 100000 in
theorem same_true {s t : Sh} : sameS s t = true ↔ s = t := by
  unfold sameS
  rw [decide_eq_true_eq]
  constructor
  · rintro ⟨h1, h2, h3, h4, h5, h6⟩
    cases s
    cases t
    simp_all
  · rintro rfl
    exact ⟨rfl, rfl, rfl, rfl, rfl, rfl⟩
set_option maxRecDepth 100000 in
theorem head_inj {s t : Sh} (hs : fm s = true) (ht : fm t = true) (h : head s = head t) : s.k = t.k ∧ s.ep = t.ep ∧ s.sq = t.sq ∧ s.ad = t.ad ∧ s.fr = t.fr := by
  obtain ⟨a1, a2, a3, a4, a5, a6, a7, a8, _⟩ := of_decide_eq_true hs
  obtain ⟨b1, b2, b3, b4, b5, b6, b7, b8, _⟩ := of_decide_eq_true ht
  unfold head at h
  obtain ⟨h, h5⟩ := app_inj h (by simp [put_length])
  obtain ⟨h, h4⟩ := app_inj h (by simp [put_length])
  obtain ⟨h, h3⟩ := app_inj h (by simp [put_length])
  obtain ⟨h1, h2⟩ := app_inj h (by simp [put_length])
  have e1 := put_inj (by omega) (by omega) h1
  have e2 := put_inj (by omega) (by omega) h2
  have e3 := put_inj (by omega) (by omega) h3
  have e4 := put_inj (by omega) (by omega) h4
  have e5 := put_inj (by omega) (by omega) h5
  exact ⟨e1, e2, e3, by omega, by omega⟩
set_option maxRecDepth 100000 in
theorem page_inj {s t : Sh} (hs : fm s = true) (ht : fm t = true) (h : page s = page t) : s = t := by
  have ls := fm_len hs
  have lt := fm_len ht
  unfold page at h
  obtain ⟨h, _⟩ := app_inj h (by simp [body_length _ ls, body_length _ lt, put_length])
  obtain ⟨h, _⟩ := app_inj h (by simp [body_length _ ls, body_length _ lt])
  unfold body at h
  rw [List.append_assoc, List.append_assoc] at h
  obtain ⟨h1, h⟩ := app_inj h (by simp [head_length])
  unfold laid1 at h
  rw [List.append_assoc, List.append_assoc] at h
  obtain ⟨h2, h⟩ := app_inj h (by simp [put_length])
  have hl : s.da.length = t.da.length := put_inj (by omega) (by omega) h2
  obtain ⟨h3, _⟩ := app_inj h hl
  obtain ⟨e1, e2, e3, e4, e5⟩ := head_inj hs ht h1
  exact same_true.1 (decide_eq_true ⟨e1, e2, e3, e4, e5, h3⟩)
end Drawbar.Sheet
namespace Go.Proofs.YtmhmmemmdekjhaaDoor
open Go.RowKit
open Drawbar Drawbar.Sheet

set_option maxRecDepth 100000 in
theorem str_eq {l m : List Nat} (hl : ∀ x ∈ l, x < 256) (hm : ∀ x ∈ m, x < 256) : ((strOf l).toList == (strOf m).toList) = decide (l = m) := by
  by_cases h : l = m
  · subst h; simp
  · rw [decide_eq_false h, beq_eq_false_iff_ne, ByteArray.toList_eq, ByteArray.toList_eq]
    intro e
    exact h (strOf_inj hl hm (by
      generalize strOf l = x at *
      generalize strOf m = y at *
      cases x; cases y
      congr 1
      exact Array.toList_inj.1 e))

set_option maxRecDepth 100000 in
set_option maxHeartbeats 4000000 in
theorem ssame_any (s t : Sh) (a b : Option Addr) (c d : Nat) (w : World) (hs : Rd w a s.da) (ht : Rd w b t.da) :
    Calls Tryd.prog 40 #[sv s a c, sv t b d] w fun e w' => e = .returned (.bool (sameS s t)) ∧ Below w.heap.size w w' := by
  have hc1 := conv_str ((w.alloc (boxs 47 s a c)).alloc (boxs 47 t b d)) a s.da c ((hs.below (boxs_below _ _ _ _ _)).below (boxs_below _ _ _ _ _))
  have hc2 := conv_str ((w.alloc (boxs 47 s a c)).alloc (boxs 47 t b d)) b t.da d ((ht.below (boxs_below _ _ _ _ _)).below (boxs_below _ _ _ _ _))
  have hB := fun o o' => ((Below.refl w.heap.size w).alloc (Nat.le_refl _) o).alloc (show w.heap.size ≤ (w.alloc o).heap.size by simp) o'
  have hse := str_eq hs.1 ht.1
  generalize hq : sameS s t = q
  unfold sameS at hq
  generalize strOf s.da = S1 at *
  generalize strOf t.da = S2 at *
  by_cases h0 : s.k = t.k
  rotate_left
  · obtain rfl : q = false := hq.symm.trans (decide_eq_false fun h => h0 h.1)
    have x0 : ((s.k : Int) == (t.k : Int)) = false := by simp only [beq_eq_false_iff_ne]; omega
    clear hq hs ht hse hc1 hc2
    go_enter Tryd.func40, Tryd.ntmps40
    go_wp2
    go_ret
    exact ⟨rfl, hB _ _⟩
  have x0 : ((s.k : Int) == (t.k : Int)) = true := by simp only [beq_iff_eq]; omega
  by_cases h1 : s.ep = t.ep
  rotate_left
  · obtain rfl : q = false := hq.symm.trans (decide_eq_false fun h => h1 h.2.1)
    have x1 : ((s.ep : Int) == (t.ep : Int)) = false := by simp only [beq_eq_false_iff_ne]; omega
    clear hq hs ht hse hc1 hc2
    go_enter Tryd.func40, Tryd.ntmps40
    go_wp2
    go_ret
    exact ⟨rfl, hB _ _⟩
  have x1 : ((s.ep : Int) == (t.ep : Int)) = true := by simp only [beq_iff_eq]; omega
  by_cases h2 : s.sq = t.sq
  rotate_left
  · obtain rfl : q = false := hq.symm.trans (decide_eq_false fun h => h2 h.2.2.1)
    have x2 : ((s.sq : Int) == (t.sq : Int)) = false := by simp only [beq_eq_false_iff_ne]; omega
    clear hq hs ht hse hc1 hc2
    go_enter Tryd.func40, Tryd.ntmps40
    go_wp2
    go_ret
    exact ⟨rfl, hB _ _⟩
  have x2 : ((s.sq : Int) == (t.sq : Int)) = true := by simp only [beq_iff_eq]; omega
  by_cases h3 : s.ad = t.ad
  rotate_left
  · obtain rfl : q = false := hq.symm.trans (decide_eq_false fun h => h3 h.2.2.2.1)
    have x3 : (s.ad == t.ad) = false := by simp only [beq_eq_false_iff_ne]; omega
    clear hq hs ht hse hc1 hc2
    go_enter Tryd.func40, Tryd.ntmps40
    go_wp2
    go_ret
    exact ⟨rfl, hB _ _⟩
  have x3 : (s.ad == t.ad) = true := by simp only [beq_iff_eq]; omega
  by_cases h4 : s.fr = t.fr
  rotate_left
  · obtain rfl : q = false := hq.symm.trans (decide_eq_false fun h => h4 h.2.2.2.2.1)
    have x4 : (s.fr == t.fr) = false := by simp only [beq_eq_false_iff_ne]; omega
    clear hq hs ht hse hc1 hc2
    go_enter Tryd.func40, Tryd.ntmps40
    go_wp2
    go_ret
    exact ⟨rfl, hB _ _⟩
  have x4 : (s.fr == t.fr) = true := by simp only [beq_iff_eq]; omega
  have hq2 : decide (s.da = t.da) = q := by
    rw [← hq, Bool.eq_iff_iff, decide_eq_true_eq, decide_eq_true_eq]
    exact ⟨fun h => ⟨h0, h1, h2, h3, h4, h⟩, fun h => h.2.2.2.2.2⟩
  rw [hq2] at hse
  clear hq hs ht hq2 h0 h1 h2 h3 h4
  go_enter Tryd.func40, Tryd.ntmps40
  go_wp2
  go_ret
  exact ⟨rfl, hB _ _⟩
end Go.Proofs.YtmhmmemmdekjhaaDoor
namespace Go.Proofs.YtmhmmemmdekjhaaDoor
open Go.RowKit
open Drawbar Drawbar.Sheet

set_option maxRecDepth 100000 in
/-- Lay, of a sheet with the form. -/
theorem lay_gives (s : Sh) (a : Option Addr) (c : Nat) (w : World) (hf : fm s = true) (hr : Rd w a s.da) (hc : s.da.length ≤ c) (hnil : a = none → c = 0) (hT : Tab w) :
    Calls Tryd.prog 23 #[sv s a c] w (Gives w (page s) 96) :=
  (lay_any s a c w hf hr hc hnil hT).mono fun e w' h => gives_of h (page_lt s hr.1) (page_length s (fm_len hf)) (by omega)

set_option maxRecDepth 100000 in
theorem pages_eq {x y : Sh} (hx : fm x = true) (hy : fm y = true) (dx : ∀ u ∈ x.da, u < 256) (dy : ∀ u ∈ y.da, u < 256) : ((strOf (page x)).toList == (strOf (page y)).toList) = sameS x y := by
  rw [str_eq (page_lt x dx) (page_lt y dy), Bool.eq_iff_iff, decide_eq_true_eq, same_true]
  exact ⟨page_inj hx hy, fun h => by rw [h]⟩

end Go.Proofs.YtmhmmemmdekjhaaDoor
namespace Drawbar.Sheet
open Go.Proofs.YtmhmmemmdekjhaaDoor
def mxt : Nat := 281474976710655
def r0 (l : List Nat) := nm l false 1 3
def r1 (l : List Nat) := nm (r0 l).2.1 (r0 l).2.2 6 281474976710655
def r2 (l : List Nat) := nm (r1 l).2.1 (r1 l).2.2 6 281474976710655
def r3 (l : List Nat) := nm (r2 l).2.1 (r2 l).2.2 2 65535
def r4 (l : List Nat) := nm (r3 l).2.1 (r3 l).2.2 1 255
def r5 (l : List Nat) := bts (r4 l).2.1 (r4 l).2.2 64
/-- What sheet.parts reads. -/
def partsS (l : List Nat) : Sh := ⟨(r0 l).1, (r1 l).1, (r2 l).1, (r3 l).1, ((r4 l).1 : Int) - 1, (r5 l).1⟩

set_option maxRecDepth 100000 in
theorem nm_put (n k most : Nat) (r : List Nat) (hk : k ≤ 8) (hn : n < 2 ^ (8 * k)) (hm : n ≤ most) : nm (put n k ++ r) false k most = (n, r, false) := by
  have h1 : (put n k ++ r).take k = put n k := by
    have := List.take_left (l₁ := put n k) (l₂ := r)
    rwa [put_length] at this
  have h2 : (put n k ++ r).drop k = r := by
    have := List.drop_left (l₁ := put n k) (l₂ := r)
    rwa [put_length] at this
  rw [nm_ok _ _ _ (by rw [List.length_append, put_length]; omega) hk, h1, h2, le_put, Nat.mod_eq_of_lt hn, if_neg (by omega)]
set_option maxRecDepth 100000 in
theorem bts_put (m r : List Nat) (most : Nat) (h : m.length ≤ most) (h2 : m.length ≤ 65535) : bts (laid1 m ++ r) false most = (m, r, false) := by
  unfold bts laid1
  rw [List.append_assoc]
  have e := nm_put m.length 2 65535 (m ++ r) (by omega) (by omega) h2
  rw [show ((2 : Nat) : Int) = 2 from rfl] at e
  rw [e]
  dsimp only
  exact nx_app m r most (by omega)

set_option maxRecDepth 100000 in
theorem parts_back {s : Sh} (hf : fm s = true) : partsS (body s) = s := by
  obtain ⟨a1, a2, a3, a4, a5, a6, a7, a8, a9⟩ := of_decide_eq_true hf
  have hl := fm_len hf
  obtain ⟨z, hz⟩ : ∃ z, z = List.replicate (73 - s.da.length) 0 := ⟨_, rfl⟩
  have hb : body s = put s.k 1 ++ (put s.ep 6 ++ (put s.sq 6 ++ (put s.ad.toNat 2 ++ (put (s.fr + 1).toNat 1 ++ (laid1 s.da ++ z))))) := by
    unfold body head
    rw [← hz]
    simp only [List.append_assoc]
  have e0 : r0 (body s) = (s.k, (put s.ep 6 ++ (put s.sq 6 ++ (put s.ad.toNat 2 ++ (put (s.fr + 1).toNat 1 ++ (laid1 s.da ++ z))))), false) := by unfold r0; rw [hb]; exact nm_put s.k 1 3 _ (by omega) (by omega) a2
  have e1 : r1 (body s) = (s.ep, (put s.sq 6 ++ (put s.ad.toNat 2 ++ (put (s.fr + 1).toNat 1 ++ (laid1 s.da ++ z)))), false) := by unfold r1; rw [e0]; exact nm_put s.ep 6 _ _ (by omega) (by omega) a3
  have e2 : r2 (body s) = (s.sq, (put s.ad.toNat 2 ++ (put (s.fr + 1).toNat 1 ++ (laid1 s.da ++ z))), false) := by unfold r2; rw [e1]; exact nm_put s.sq 6 _ _ (by omega) (by omega) a4
  have e3 : r3 (body s) = (s.ad.toNat, (put (s.fr + 1).toNat 1 ++ (laid1 s.da ++ z)), false) := by unfold r3; rw [e2]; exact nm_put s.ad.toNat 2 65535 _ (by omega) (by omega) (by omega)
  have e4 : r4 (body s) = ((s.fr + 1).toNat, (laid1 s.da ++ z), false) := by unfold r4; rw [e3]; exact nm_put (s.fr + 1).toNat 1 255 _ (by omega) (by omega) (by omega)
  have e5 : r5 (body s) = (s.da, z, false) := by unfold r5; rw [e4]; exact bts_put s.da _ 64 hl (by omega)
  unfold partsS
  rw [e0, e1, e2, e3, e4, e5]
  cases s
  simp only [Sh.mk.injEq, true_and, and_true]
  dsimp only at *
  omega
end Drawbar.Sheet
namespace Go.Proofs.YtmhmmemmdekjhaaDoor
open Go.RowKit
open Drawbar Drawbar.Sheet

set_option maxRecDepth 100000 in
theorem six_cells {w : World} {g : Nat} {u0 u1 u2 u3 u4 u5 : Value} {t : TypeId} (h : w.heap[g]? = some (.cells #[u0, u1, u2, u3, u4, u5] t (0, 0))) :
    (w.cell? ⟨g, 0, none⟩ = some u0 ∧ w.cell? ⟨g, 1, none⟩ = some u1 ∧ w.cell? ⟨g, 2, none⟩ = some u2 ∧ w.cell? ⟨g, 3, none⟩ = some u3 ∧ w.cell? ⟨g, 4, none⟩ = some u4 ∧ w.cell? ⟨g, 5, none⟩ = some u5) ∧
    (w.frozen? ⟨g, 0, none⟩ = false ∧ w.frozen? ⟨g, 1, none⟩ = false ∧ w.frozen? ⟨g, 2, none⟩ = false ∧ w.frozen? ⟨g, 3, none⟩ = false ∧ w.frozen? ⟨g, 4, none⟩ = false ∧ w.frozen? ⟨g, 5, none⟩ = false) := by
  simp [World.cell?, World.frozen?, h]

set_option maxRecDepth 100000 in
theorem set_one {w : World} {g : Nat} {cs : Array Value} {t : TypeId} (h : w.heap[g]? = some (.cells cs t (0, 0))) (o : Nat) (x : Value) : (w.setCell ⟨g, o, none⟩ x).heap[g]? = some (.cells (cs.setIfInBounds o x) t (0, 0)) := by
  have hlt := lt_of_block h
  have h' : w.heap[g] = .cells cs t (0, 0) := by simpa [Array.getElem?_eq_getElem hlt] using h
  show (w.heap.modify g _)[g]? = _
  rw [Array.getElem?_eq_getElem (by simpa using hlt), Array.getElem_modify_self, h']
  rfl
set_option maxRecDepth 100000 in
theorem six_set {w : World} {g : Nat} {u0 u1 u2 u3 u4 u5 v0 v1 v2 v3 v4 v5 : Value} {t : TypeId} (h : w.heap[g]? = some (.cells #[u0, u1, u2, u3, u4, u5] t (0, 0))) :
    ((((((w.setCell ⟨g, 0, none⟩ v0).setCell ⟨g, 1, none⟩ v1).setCell ⟨g, 2, none⟩ v2).setCell ⟨g, 3, none⟩ v3).setCell ⟨g, 4, none⟩ v4).setCell ⟨g, 5, none⟩ v5).heap[g]? = some (.cells #[v0, v1, v2, v3, v4, v5] t (0, 0)) := by
  have h6 := set_one (set_one (set_one (set_one (set_one (set_one h 0 v0) 1 v1) 2 v2) 3 v3) 4 v4) 5 v5
  simpa using h6
set_option maxRecDepth 100000 in
theorem six_below {w : World} {B g : Nat} {v0 v1 v2 v3 v4 v5 : Value} (hg : B ≤ g) : Below B w ((((((w.setCell ⟨g, 0, none⟩ v0).setCell ⟨g, 1, none⟩ v1).setCell ⟨g, 2, none⟩ v2).setCell ⟨g, 3, none⟩ v3).setCell ⟨g, 4, none⟩ v4).setCell ⟨g, 5, none⟩ v5) := by
  have one : ∀ (w : World) o v, Below B w (w.setCell ⟨g, o, none⟩ v) := fun w o v => ⟨rfl, rfl, rfl, by simp [World.setCell], fun k hk => Below.heap_setCell _ _ _ _ (fun e => by simp at e; omega)⟩
  exact (((((one _ _ _).trans (one _ _ _)).trans (one _ _ _)).trans (one _ _ _)).trans (one _ _ _)).trans (one _ _ _)
set_option maxRecDepth 100000 in
theorem six_grown {w : World} {g : Nat} {v0 v1 v2 v3 v4 v5 : Value} : w.grownBy ((((((w.setCell ⟨g, 0, none⟩ v0).setCell ⟨g, 1, none⟩ v1).setCell ⟨g, 2, none⟩ v2).setCell ⟨g, 3, none⟩ v3).setCell ⟨g, 4, none⟩ v4).setCell ⟨g, 5, none⟩ v5) (some g) :=
  grownBy_trans (grownBy_trans (grownBy_trans (grownBy_trans (grownBy_trans (grownBy_setCell _ _ _ _) (grownBy_setCell _ _ _ _)) (grownBy_setCell _ _ _ _)) (grownBy_setCell _ _ _ _)) (grownBy_setCell _ _ _ _)) (grownBy_setCell _ _ _ _)

set_option maxRecDepth 100000 in
theorem nm_bnd (l : List Nat) (bad : Bool) (n : Int) (most : Nat) : (nm l bad n most).1 ≤ most := by
  unfold nm
  dsimp only
  split
  · simp
  · omega

set_option maxRecDepth 100000 in
theorem grown_below {w w' : World} {g B : Nat} (h : w.grownBy w' (some g)) (hg : B ≤ g) (hB : B ≤ w.heap.size) : Below B w w' :=
  ⟨h.os, h.tape, h.output, h.size, fun k hk => h.block k (Nat.lt_of_lt_of_le hk hB) (fun e => by cases e; omega)⟩

set_option maxRecDepth 100000 in
theorem info_sheet : (Tryd.prog.info? 44).map (·.size) = some 6 := by kernel_rfl

set_option maxRecDepth 100000 in
set_option maxHeartbeats 4000000 in
theorem parts_any (l : List Nat) (a : Option Addr) (c : Nat) (w : World) (hr : Rd w a l) (hc : l.length ≤ c) (hnil : a = none → c = 0) (N : Nat) (hN : l.length = N) :
    Calls Tryd.prog 92 #[.slice a N c] w fun e w' => ∃ a' c', e = .returned (sv (partsS l) a' c') ∧ Rd w' a' (partsS l).da ∧ (partsS l).da.length ≤ c' ∧ (a' = none → c' = 0) ∧ Below w.heap.size w w' ∧ (0 < (partsS l).da.length → ∀ k, a' = some k → w.heap.size ≤ k.block) := by
  subst hN
  have hR : ∀ W, Below w.heap.size w W → Calls Tryd.prog 97 #[.slice a l.length c] W fun e w' => e = .returned (.pointer (some ⟨W.heap.size, 0, none⟩)) ∧ Rdr w' W.heap.size l false ∧ Below W.heap.size W w' :=
    fun W hb => read_any l a c W (hr.below hb) hc hnil
  have h0 : ∀ g W, Rdr W g l false → Calls Tryd.prog 98 #[.pointer (some ⟨g, 0, none⟩), .int .i64 1, .int .u64 3] W (NumPost W g (r0 l)) := fun g W hrr => num_any g l false 1 3 W hrr
  have h1 : ∀ g W, Rdr W g (r0 l).2.1 (r0 l).2.2 → Calls Tryd.prog 98 #[.pointer (some ⟨g, 0, none⟩), .int .i64 6, .int .u64 281474976710655] W (NumPost W g (r1 l)) := fun g W hrr => num_any g (r0 l).2.1 (r0 l).2.2 6 281474976710655 W hrr
  have h2 : ∀ g W, Rdr W g (r1 l).2.1 (r1 l).2.2 → Calls Tryd.prog 98 #[.pointer (some ⟨g, 0, none⟩), .int .i64 6, .int .u64 281474976710655] W (NumPost W g (r2 l)) := fun g W hrr => num_any g (r1 l).2.1 (r1 l).2.2 6 281474976710655 W hrr
  have h3 : ∀ g W, Rdr W g (r2 l).2.1 (r2 l).2.2 → Calls Tryd.prog 98 #[.pointer (some ⟨g, 0, none⟩), .int .i64 2, .int .u64 65535] W (NumPost W g (r3 l)) := fun g W hrr => num_any g (r2 l).2.1 (r2 l).2.2 2 65535 W hrr
  have h4 : ∀ g W, Rdr W g (r3 l).2.1 (r3 l).2.2 → Calls Tryd.prog 98 #[.pointer (some ⟨g, 0, none⟩), .int .i64 1, .int .u64 255] W (NumPost W g (r4 l)) := fun g W hrr => num_any g (r3 l).2.1 (r3 l).2.2 1 255 W hrr
  have h5 : ∀ g W, Rdr W g (r4 l).2.1 (r4 l).2.2 → Calls Tryd.prog 99 #[.pointer (some ⟨g, 0, none⟩), .int .i64 64] W (BtsNn W g (r5 l)) := fun g W hrr => rbytes_nn g _ _ 64 W hrr
  have n0 : (r0 l).1 ≤ 3 := nm_bnd _ _ _ _
  have n3 : (r3 l).1 ≤ 65535 := nm_bnd _ _ _ _
  have n4 : (r4 l).1 ≤ 255 := nm_bnd _ _ _ _
  unfold partsS
  generalize r0 l = q0 at *
  generalize r1 l = q1 at *
  generalize r2 l = q2 at *
  generalize r3 l = q3 at *
  generalize r4 l = q4 at *
  generalize r5 l = q5 at *
  have hb0 := Below.refl (w.heap.size + 1) (w.alloc (.cells #[.int .u8 0, .int .u64 0, .int .u64 0, .int .i64 0, .int .i64 0, .slice none 0 0] 44))
  have hbw : Below w.heap.size w (w.alloc (.cells #[.int .u8 0, .int .u64 0, .int .u64 0, .int .i64 0, .int .i64 0, .slice none 0 0] 44)) := (Below.refl _ _).alloc (Nat.le_refl _) _
  have hblk := heap_alloc_new w (.cells #[.int .u8 0, .int .u64 0, .int .u64 0, .int .i64 0, .int .i64 0, .slice none 0 0] 44)
  have hsz0 : (w.alloc (.cells #[.int .u8 0, .int .u64 0, .int .u64 0, .int .i64 0, .int .i64 0, .slice none 0 0] 44)).heap.size = w.heap.size + 1 := by simp
  generalize hw1 : w.alloc (.cells #[.int .u8 0, .int .u64 0, .int .u64 0, .int .i64 0, .int .i64 0, .slice none 0 0] 44) = w1 at *
  have hR' := hR w1 hbw
  rw [hsz0] at hR'
  clear hR
  have hR := hR'
  clear hR'
  have HR := Lib.hid hR
  have H0 := Lib.hid h0
  have H1 := Lib.hid h1
  have H2 := Lib.hid h2
  have H3 := Lib.hid h3
  have H4 := Lib.hid h4
  have H5 := Lib.hid h5
  clear hR h0 h1 h2 h3 h4 h5 hr
  go_enter Tryd.func92, Tryd.ntmps92
  go_wp2_with (first
    | (go_at_call 97; (with_reducible refine HR.out.mono ?_); rintro e w2 ⟨rfl, hrr0, hbr⟩; have hb0 := hb0.trans hbr)
    | (go_at_call 98; (with_reducible refine (H0.out _ _ hrr0).mono ?_); rintro e w3 ⟨rfl, hrr1, hgr1⟩; have hb1 := hb0.trans (grown_below hgr1 (Nat.le_refl _) (by have := hb0.size; omega)))
    | (go_at_call 98; (with_reducible refine (H1.out _ _ hrr1).mono ?_); rintro e w4 ⟨rfl, hrr2, hgr2⟩; have hb2 := hb1.trans (grown_below hgr2 (Nat.le_refl _) (by have := hb1.size; omega)))
    | (go_at_call 98; (with_reducible refine (H2.out _ _ hrr2).mono ?_); rintro e w5 ⟨rfl, hrr3, hgr3⟩; have hb3 := hb2.trans (grown_below hgr3 (Nat.le_refl _) (by have := hb2.size; omega)))
    | (go_at_call 98; (with_reducible refine (H3.out _ _ hrr3).mono ?_); rintro e w6 ⟨rfl, hrr4, hgr4⟩; have hb4 := hb3.trans (grown_below hgr4 (Nat.le_refl _) (by have := hb3.size; omega)))
    | (go_at_call 98; (with_reducible refine (H4.out _ _ hrr4).mono ?_); rintro e w7 ⟨rfl, hrr5, hgr5⟩; have hb5 := hb4.trans (grown_below hgr5 (Nat.le_refl _) (by have := hb4.size; omega)))
    | (go_at_call 99; (with_reducible refine (H5.out _ _ hrr5).mono ?_); rintro e w8 ⟨a7, c7, rfl, hc7, hr7, hrr6, hgr6, hfr7, hn7⟩; have hb6 := hb5.trans (grown_below hgr6 (Nat.le_refl _) (by have := hb5.size; omega)); obtain ⟨⟨t0, t1, t2, t3, t4, t5⟩, ⟨z0, z1, z2, z3, z4, z5⟩⟩ := six_cells ((hb6.block _ (Nat.lt_succ_self _)).trans hblk); have hblk8 := (hb6.block _ (Nat.lt_succ_self _)).trans hblk; have hsz7 := hb5.size))
  have hblk9 := six_set (v0 := .int .u8 q0.1) (v1 := .int .u64 q1.1) (v2 := .int .u64 q2.1) (v3 := .int .i64 q3.1) (v4 := .int .i64 ((q4.1 : Int) - 1)) (v5 := .slice a7 q5.1.length c7) hblk8
  have hb9 := hbw.trans ((hb6.mono (Nat.le_succ _)).trans (six_below (v0 := .int .u8 q0.1) (v1 := .int .u64 q1.1) (v2 := .int .u64 q2.1) (v3 := .int .i64 q3.1) (v4 := .int .i64 ((q4.1 : Int) - 1)) (v5 := .slice a7 q5.1.length c7) (Nat.le_refl w.heap.size)))
  have hr9 := hr7.grown (six_grown (v0 := .int .u8 q0.1) (v1 := .int .u64 q1.1) (v2 := .int .u64 q2.1) (v3 := .int .i64 q3.1) (v4 := .int .i64 ((q4.1 : Int) - 1)) (v5 := .slice a7 q5.1.length c7) (g := w.heap.size)) (fun h k hk e => by have := hfr7 h k hk; omega)
  generalize (((((w8.setCell ⟨w.heap.size, 0, none⟩ (.int .u8 q0.1)).setCell ⟨w.heap.size, 1, none⟩ (.int .u64 q1.1)).setCell ⟨w.heap.size, 2, none⟩ (.int .u64 q2.1)).setCell ⟨w.heap.size, 3, none⟩ (.int .i64 q3.1)).setCell ⟨w.heap.size, 4, none⟩ (.int .i64 ((q4.1 : Int) - 1))).setCell ⟨w.heap.size, 5, none⟩ (.slice a7 q5.1.length c7) = w9 at *
  have hfr9 : 0 < q5.1.length → ∀ k, a7 = some k → w.heap.size ≤ k.block := fun h k hk => by have := hfr7 h k hk; omega
  clear t0 t1 t2 t3 t4 t5 z0 z1 z2 z3 z4 z5 hblk8 hblk hr7 hfr7
  refine bodyPost_ret (results_cell_row rfl _ _ w.heap.size 44 _ (0, 0) _ rfl hblk9 Tryd.underlying44 rfl info_sheet) rfl ?_
  exact ⟨a7, c7, rfl, hr9, hc7, hn7, hb9, hfr9⟩
end Go.Proofs.YtmhmmemmdekjhaaDoor
