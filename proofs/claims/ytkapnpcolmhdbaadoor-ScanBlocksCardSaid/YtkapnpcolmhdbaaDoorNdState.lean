/- The state of an array (package nand) as plain data, and what each call does to it. -/
import Derived.RowKit
namespace Drawbar.Nand
open Go.RowKit

/-- A block: its pages, was an erasing cut, how often it was erased, in how many operations it begins to fail, does it, has it. -/
structure Blk where
  pages : List (List Nat)
  torn : Bool
  erases : Int
  doom : Nat
  fails : Bool
  failed : Bool

/-- What was being done when the power went off. -/
inductive Begun
  | no
  | lay (i : Nat) (p : List Nat)
  | erase (i : Nat)

structure Arr where
  n : Nat
  b : Nat → Blk
  pages : Nat
  fence : Nat
  armed : Nat
  off : Bool
  begun : Begun
  boots : Int
  ops : Int

def fresh : Blk := ⟨[], false, 0, 0, false, false⟩
def upd (f : Nat → Blk) (i : Nat) (x : Blk) : Nat → Blk := fun j => if j = i then x else f j
@[simp] theorem upd_same (f : Nat → Blk) (i : Nat) (x : Blk) : upd f i x i = x := by simp [upd]
set_option maxRecDepth 100000 in
theorem upd_other (f : Nat → Blk) (i : Nat) (x : Blk) (j : Nat) (h : j ≠ i) : upd f i x j = f j := by simp [upd, h]
set_option maxRecDepth 100000 in
theorem upd_upd (f : Nat → Blk) (i : Nat) (x y : Blk) : upd (upd f i x) i y = upd f i y := by
  funext j; unfold upd; split <;> rfl

/-- The first bytes of a page, and ff behind them. -/
def pad (p : List Nat) (cut : Int) : List Nat := p.take cut.toNat ++ List.replicate (96 - (p.take cut.toNat).length) 255

def Blk.lay (b : Blk) (p : List Nat) (cut : Int) : Blk := if cut ≤ 0 then b else { b with pages := b.pages ++ [pad p cut] }
def Blk.erase (b : Blk) (cut : Int) : Blk :=
  if cut ≤ 0 then b else if cut < 96 ∨ b.fails = true then { b with torn := decide (0 < b.pages.length) } else { b with pages := [], torn := false, erases := wrap64 (b.erases + 1) }

/-- A block one operation of which was counted. -/
def Blk.tick (b : Blk) : Blk := { b with doom := b.doom - 1, fails := b.fails || b.doom == 1 }

/-- An array of which one operation, at the block i, was counted. -/
def Arr.tick (s : Arr) (i : Nat) : Arr := { s with b := upd s.b i (s.b i).tick, armed := s.armed - 1, ops := wrap64 (s.ops + 1) }

/-- An operation at the block i that does 'what' to it: the error's number, and the array. -/
def Arr.operate (s : Arr) (i : Nat) (begun : Begun) (what : Blk → Blk) : Int × Arr :=
  if s.armed = 1 then (9, { s.tick i with off := true, begun := begun })
  else if (s.b i).tick.fails = true then (8, { s.tick i with b := upd s.b i { (s.b i).tick with failed := true } })
  else (0, { s.tick i with b := upd s.b i (what (s.b i).tick) })

def inB (x : Int) (n : Nat) : Prop := 0 ≤ x ∧ x < n
instance (x : Int) (n : Nat) : Decidable (inB x n) := by unfold inB; exact inferInstance

/-- Program: the error's number, and the array. -/
def Arr.program (s : Arr) (i page : Int) (p : List Nat) (epoch : Nat) : Int × Arr :=
  if ¬ inB i s.n then (1, s) else if s.off = true then (9, s) else if ¬ inB page s.pages then (1, s) else if p.length ≠ 96 then (3, s)
  else if page ≠ (s.b i.toNat).pages.length ∨ (s.b i.toNat).torn = true then (6, s) else if epoch < s.fence then (7, s)
  else
    let r := s.operate i.toNat (.lay i.toNat p) (fun b => b.lay p 96)
    if r.1 = 8 then (8, { r.2 with b := upd r.2.b i.toNat ((r.2.b i.toNat).lay [] 96) }) else r

def Arr.erase (s : Arr) (i : Int) (epoch : Nat) : Int × Arr :=
  if ¬ inB i s.n then (1, s) else if s.off = true then (9, s) else if epoch < s.fence then (7, s)
  else s.operate i.toNat (.erase i.toNat) (fun b => b.erase 96)

/-- Read: the error's number, and the page. -/
def Arr.read (s : Arr) (i page : Int) : Int × List Nat :=
  if ¬ inB i s.n then (1, []) else if s.off = true then (9, []) else if ¬ inB page s.pages then (1, [])
  else if ((s.b i.toNat).pages.length : Int) ≤ page then (5, []) else if (s.b i.toNat).torn = true then (4, []) else (0, (s.b i.toNat).pages.getD page.toNat [])

def Arr.raise (s : Arr) (epoch : Nat) : Int × Arr :=
  if s.off = true then (9, s) else if epoch ≤ s.fence then (7, s) else (0, { s with fence := epoch })

def Arr.arm (s : Arr) (n : Int) : Int × Arr := if n < 0 then (1, s) else (0, { s with armed := n.toNat })
def Arr.doom (s : Arr) (i n : Int) : Int × Arr := if ¬ inB i s.n ∨ n < 0 then (1, s) else (0, { s with b := upd s.b i.toNat { s.b i.toNat with doom := n.toNat } })

def Arr.resume (s : Arr) (cut : Int) : Arr :=
  match s.begun with
  | .no => s
  | .lay i p => { s with b := upd s.b i ((s.b i).lay p cut) }
  | .erase i => { s with b := upd s.b i ((s.b i).erase cut) }
def Arr.restart (s : Arr) (cut : Int) : Arr := { s.resume cut with off := false, begun := .no, armed := 0, fence := 0, boots := wrap64 (s.boots + 1) }

/-- A new array. -/
def Arr.new (n pages : Nat) (b : Nat → Blk) : Arr := ⟨n, b, pages, 0, 0, false, .no, 0, 0⟩
end Drawbar.Nand
