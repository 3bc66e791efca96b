/- Joined: WPure, RParM, RUn. -/
import Derived.Test.YtadnlljknocbbaaGreatDoorWoJ17
import Derived.Test.YtadnlljknocbbaaGreatDoorWoJ32
import Derived.Test.YtadnlljknocbbaaGreatDoorWoJ31
import Derived.Test.YtadnlljknocbbaaGreatDoorWoJ10
/- A log as plain data: its place, its header, what is pending, what its calls write. -/
namespace Go.Proofs.YtadnlljknocbbaaGreatDoor
open Go.RowKit Go.Shelf
set_option linter.unusedVariables false

/-- What of a plan the log wants: the size of a block, how many there are, how many are the log's. -/
structure Geo where
  blk : Nat
  n : Nat
  lg : Nat

structure Geo.Ok (G : Geo) : Prop where
  size : isSize (G.blk : Int)
  l1 : 4 ≤ G.lg
  l2 : G.lg ≤ 512
  n1 : G.lg + 3 ≤ G.n
  n2 : G.n ≤ 4096

/-- The first of the bitmaps. -/
def Geo.ib (G : Geo) : Nat := 2 + G.lg

/-- How many numbers a list has at most. -/
def Geo.most (G : Geo) : Nat := (G.blk - 10) / 2

/-- Number k of the log. -/
def Geo.ring (G : Geo) (k : Nat) : Nat := 2 + k % G.lg

theorem Geo.Ok.blk {G : Geo} (h : G.Ok) : 64 ≤ G.blk ∧ G.blk ≤ 4096 := by
  have := h.size
  unfold isSize at this
  omega

theorem Geo.Ok.most {G : Geo} (h : G.Ok) : 27 ≤ G.most ∧ G.most ≤ 2043 := by
  have := h.blk
  unfold Geo.most
  omega

theorem Geo.Ok.ring {G : Geo} (h : G.Ok) (k : Nat) : 2 ≤ G.ring k ∧ G.ring k < G.ib ∧ G.ring k < G.n := by
  have h1 := h.l1
  have h2 := h.n1
  have := Nat.mod_lt k (show G.lg > 0 by omega)
  unfold Geo.ring Geo.ib
  omega

theorem Geo.Ok.ibn {G : Geo} (h : G.Ok) : 6 ≤ G.ib ∧ G.ib < G.n := by
  have h1 := h.l1
  have h2 := h.n1
  unfold Geo.ib
  omega

/-- A plan, and what of it the log wants. -/
structure PG (P : Nat → Int) (G : Geo) : Prop where
  chk : checkE P = 0
  p0 : P 0 = (G.blk : Int)
  p1 : P 1 = (G.n : Int)
  p3 : P 3 = (G.lg : Int)
  p4 : P 4 = 2
  p5 : P 5 = (G.ib : Int)
  ok : G.Ok

/-- A header. -/
structure Hd where
  seq : Nat
  tail : Nat
  used : Nat

def Hd.fn (h : Hd) : Nat → Int := fun k => if k = 0 then (h.seq : Int) else if k = 1 then (h.tail : Int) else (h.used : Int)

structure Hd.Ok (h : Hd) (G : Geo) : Prop where
  seq : h.seq ≤ 4294967295
  tail : h.tail < G.lg
  used : h.used ≤ G.lg

/-- A header's block. -/
def hdB (G : Geo) (h : Hd) : List Int := sumB G.blk (hdrH h.fn)

/-- A log: its header, what is pending, whether it has met the device's death. -/
structure Lg where
  h : Hd
  Q : Nat → Option (List Int)
  dead : Bool

/-- A write, as a list has it. -/
abbrev Wl := List (Nat × List Int)

/-- How many parts n blocks are. -/
def Geo.parts (G : Geo) (n : Nat) : Nat := (n + G.most - 1) / G.most

def Geo.uses (G : Geo) (n : Nat) : Nat := n + G.parts n

theorem Geo.parts_zero {G : Geo} (h : G.Ok) : G.parts 0 = 0 := by
  have := h.most
  unfold Geo.parts
  rw [Nat.div_eq_of_lt (by omega)]

theorem Geo.parts_step {G : Geo} (h : G.Ok) {n : Nat} (hn : 0 < n) : G.parts n = 1 + G.parts (n - min n G.most) := by
  have hm := h.most
  unfold Geo.parts
  by_cases hl : n ≤ G.most
  · rw [Nat.min_eq_left hl, Nat.sub_self, Nat.zero_add, Nat.div_eq_of_lt (show G.most - 1 < G.most by omega)]
    have : n + G.most - 1 = (n - 1) + 1 * G.most := by omega
    rw [this, Nat.add_mul_div_right _ _ (by omega), Nat.div_eq_of_lt (by omega)]
  · rw [Nat.min_eq_right (by omega)]
    have : n + G.most - 1 = (n - G.most + G.most - 1) + 1 * G.most := by omega
    rw [this, Nat.add_mul_div_right _ _ (by omega), Nat.add_comm]

theorem Geo.parts_le {G : Geo} (h : G.Ok) (n : Nat) : G.parts n ≤ n := by
  have hm := h.most
  cases n with
  | zero => rw [Geo.parts_zero h]; omega
  | succ n =>
    unfold Geo.parts
    refine Nat.div_le_of_le_mul ?_
    have h2 : G.most * (n + 1) = G.most * n + G.most := by rw [Nat.mul_succ]
    have h3 : n ≤ G.most * n := Nat.le_mul_of_pos_left _ (by omega)
    omega

/-- The blocks behind a descriptor. -/
def dataS (G : Geo) : Nat → Wl → List Stp
  | _, [] => []
  | a, x :: r => .w (G.ring a) x.2 :: dataS G (a + 1) r

/-- A part. -/
def partS (G : Geo) (seq a : Nat) (W : Wl) : List Stp := .w (G.ring a) (descB G.blk (seq : Int) (W.map (fun x => (x.1 : Int)))) :: dataS G (a + 1) W

/-- All parts of a list. -/
def partsS (G : Geo) (seq a : Nat) : Wl → List Stp
  | [] => []
  | x :: r => partS G seq a ((x :: r).take G.most) ++ partsS G (seq + 1) (a + 1 + min (x :: r).length G.most) (r.drop (G.most - 1))
termination_by W => W.length
decreasing_by simp; omega

theorem partsS_nil (G : Geo) (seq a : Nat) : partsS G seq a [] = [] := by rw [partsS]

theorem partsS_cons {G : Geo} (h : G.Ok) (seq a : Nat) {W : Wl} (hW : W ≠ []) : partsS G seq a W = partS G seq a (W.take G.most) ++ partsS G (seq + 1) (a + 1 + min W.length G.most) (W.drop G.most) := by
  cases W with
  | nil => exact absurd rfl hW
  | cons x r =>
    rw [partsS]
    have hm := h.most
    obtain ⟨m, hm2⟩ : ∃ m, G.most = m + 1 := ⟨G.most - 1, by omega⟩
    rw [hm2]
    simp

/-- The header behind a commit of n blocks. -/
def Geo.after (G : Geo) (h : Hd) (n : Nat) : Hd := ⟨h.seq + G.parts n, h.tail, h.used + G.uses n⟩

/-- What settles a header. -/
def stlS (G : Geo) (h : Hd) : List Stp := [.f, .w 1 (hdB G h), .f]

/-- What is pending behind a list. -/
def setW (Q : Nat → Option (List Int)) : Wl → (Nat → Option (List Int))
  | [] => Q
  | x :: r => setW (fun j => if j = x.1 then some x.2 else Q j) r

theorem setW_append (Q : Nat → Option (List Int)) (A B : Wl) : setW Q (A ++ B) = setW (setW Q A) B := by
  induction A generalizing Q with
  | nil => rfl
  | cons x r ih => exact ih _

/-- The blocks that are pending, rising. -/
def pendL (G : Geo) (Q : Nat → Option (List Int)) : List Nat := (List.range G.n).filter (fun b => (Q b).isSome)

def pendW (G : Geo) (Q : Nat → Option (List Int)) : Wl := (pendL G Q).map (fun b => (b, (Q b).getD []))

/-- Writes to their places. -/
def homeS : Wl → List Stp
  | [] => []
  | x :: r => .w x.1 x.2 :: homeS r

/-- The header behind Apply. -/
def Geo.freed (G : Geo) (h : Hd) : Hd := ⟨h.seq, (h.tail + h.used) % G.lg, 0⟩

def aplS (G : Geo) (L : Lg) : List Stp := homeS (pendW G L.Q) ++ stlS G (G.freed L.h)

/-- What Apply answers, and leaves, of a log that has not ended. -/
def apE (G : Geo) (L : Lg) (D : Dev) : Int := if L.h.used = 0 then 0 else runE (aplS G L) D

def apD (G : Geo) (L : Lg) (D : Dev) : Dev := if L.h.used = 0 then D else runD (aplS G L) D

def apL (G : Geo) (L : Lg) (D : Dev) : Lg := if L.h.used = 0 then L else if runE (aplS G L) D = 0 then { L with h := G.freed L.h, Q := fun _ => none } else L

def comS (G : Geo) (L : Lg) (W : Wl) : List Stp := partsS G L.h.seq (L.h.tail + L.h.used) W ++ stlS G (G.after L.h W.length)

/-- What Commit answers, and leaves, of a list for which there is room. -/
def cmE0 (G : Geo) (L : Lg) (W : Wl) (D : Dev) : Int := runE (comS G L W) D

def cmD0 (G : Geo) (L : Lg) (W : Wl) (D : Dev) : Dev := runD (comS G L W) D

def cmL0 (G : Geo) (L : Lg) (W : Wl) (D : Dev) : Lg := if runE (comS G L W) D = 0 then { L with h := G.after L.h W.length, Q := setW L.Q W } else L

/-- .. of any list that is not refused. -/
def cmE (G : Geo) (L : Lg) (W : Wl) (D : Dev) : Int := if G.lg - L.h.used < G.uses W.length then (if apE G L D = 0 then cmE0 G (apL G L D) W (apD G L D) else apE G L D) else cmE0 G L W D

def cmD (G : Geo) (L : Lg) (W : Wl) (D : Dev) : Dev := if G.lg - L.h.used < G.uses W.length then (if apE G L D = 0 then cmD0 G (apL G L D) W (apD G L D) else apD G L D) else cmD0 G L W D

def cmL (G : Geo) (L : Lg) (W : Wl) (D : Dev) : Lg := if G.lg - L.h.used < G.uses W.length then (if apE G L D = 0 then cmL0 G (apL G L D) W (apD G L D) else apL G L D) else cmL0 G L W D

/-- A log that has met an answer. -/
def Lg.met (L : Lg) (e : Int) : Lg := if e = 7 then { L with dead := true } else L

/-- Does a list name sound blocks? 0, or the error. -/
def blkE (G : Geo) (ns : List Int) : Int := if ns.all (fun b => decide ((G.ib : Int) ≤ b ∧ b < G.n)) = true then (if ns.Nodup then 0 else 3) else 2

/-- What a list that is to be committed is refused with: its blocks, and how long their bytes are. -/
def lstE (G : Geo) (seq : Nat) (V : List (Int × Nat)) : Int :=
  if V.all (fun x => decide (x.2 = G.blk)) = true then (if blkE G (V.map (·.1)) = 0 then (if G.lg < G.uses V.length then 5 else if 4294967295 - seq < G.parts V.length then 8 else 0) else blkE G (V.map (·.1))) else 1

/-- The numbers of a descriptor. -/
def dsL (zs : List Int) : List Int := takeL zs (dN zs)

/-- Is it a descriptor whose list is sound? -/
def dscOk (G : Geo) (zs : List Int) : Prop := descIs zs ∧ dsL zs ≠ [] ∧ blkE G (dsL zs) = 0

open Classical in
/-- The parts from a on, up to the end: what is pending behind them. -/
noncomputable def goP (G : Geo) (rd : Nat → List Int) (hs : Int) (t e : Nat) : Nat → Nat → Int → (Nat → Option (List Int)) → Option (Nat → Option (List Int))
  | 0, _, _, _ => none
  | k + 1, a, nx, Q =>
    if a = e then (if nx = hs then some Q else none)
    else if dscOk G (rd (G.ring a)) ∧ (t < a → getVal (rd (G.ring a)) 4 4 = nx) ∧ a + 1 + (dsL (rd (G.ring a))).length ≤ e then
      goP G rd hs t e k (a + 1 + (dsL (rd (G.ring a))).length) (getVal (rd (G.ring a)) 4 4 + 1) (setW Q ((dsL (rd (G.ring a))).mapIdx (fun i b => (b.toNat, rd (G.ring (a + 1 + i))))))
    else none

/-- Is it a header's block? -/
def hdIs (zs : List Int) : Prop := isSize (zs.length : Int) ∧ sumB zs.length (hdrH (hdrOf zs)) = zs

def hdOf (zs : List Int) : Hd := ⟨(hdrOf zs 0).toNat, (hdrOf zs 1).toNat, (hdrOf zs 2).toNat⟩

open Classical in
/-- The log that stands on a device. -/
noncomputable def parse (G : Geo) (rd : Nat → List Int) : Option Lg :=
  if hdIs (rd 1) ∧ (hdOf (rd 1)).tail < G.lg ∧ (hdOf (rd 1)).used ≤ G.lg then
    (goP G rd ((hdOf (rd 1)).seq : Int) (hdOf (rd 1)).tail ((hdOf (rd 1)).tail + (hdOf (rd 1)).used) 600 (hdOf (rd 1)).tail ((hdOf (rd 1)).seq : Int) (fun _ => none)).map (fun Q => ⟨hdOf (rd 1), Q, false⟩)
  else none

end Go.Proofs.YtadnlljknocbbaaGreatDoor

/- The document's way of reading a log, as a plain function, and that it is the program's. -/
namespace Go.Proofs.YtadnlljknocbbaaGreatDoor
open Go.RowKit Go.Shelf
set_option linter.unusedVariables false

/-- The writes of the part that starts at number a. -/
def partW (G : Geo) (rd : Nat → List Int) (a : Nat) : Wl := (dsL (rd (G.ring a))).mapIdx (fun i b => (b.toNat, rd (G.ring (a + 1 + i))))

open Classical in
/-- The parts from 'at' on: what is pending, and the numbers of the parts. -/
noncomputable def rgo (G : Geo) (rd : Nat → List Int) (t used : Nat) : Nat → Nat → (Nat → Option (List Int)) → List Int → Option ((Nat → Option (List Int)) × List Int)
  | 0, _, _, _ => none
  | k + 1, at', Q, sq =>
    if at' < used then
      (if dscOk G (rd (G.ring (t + at'))) ∧ at' + 1 + (dsL (rd (G.ring (t + at')))).length ≤ used then
        rgo G rd t used k (at' + 1 + (dsL (rd (G.ring (t + at')))).length) (setW Q (partW G rd (t + at'))) (sq ++ [getVal (rd (G.ring (t + at'))) 4 4])
      else none)
    else some (Q, sq)

/-- Do the numbers rise up to hs? -/
def sqOk (hs : Int) (sq : List Int) : Prop := ∀ i, i < sq.length → sq[i]?.getD 0 = hs - sq.length + i

/-- Numbers that rise by one. -/
def Chn (sq : List Int) : Prop := ∀ i, i + 1 < sq.length → sq[i + 1]?.getD 0 = sq[i]?.getD 0 + 1

theorem sqOk.chn {hs : Int} {sq : List Int} (h : sqOk hs sq) : Chn sq := fun i hi => by
  have h1 := h i (by omega)
  have h2 := h (i + 1) hi
  rw [h1, h2]
  push_cast
  omega

theorem Chn.pre {a b : List Int} (h : Chn (a ++ b)) : Chn a := fun i hi => by
  have := h i (by simp; omega)
  rwa [List.getElem?_append_left (by omega), List.getElem?_append_left (by omega)] at this

theorem rgo_pre {G : Geo} {rd : Nat → List Int} {t used : Nat} : ∀ (k at' : Nat) (Q : Nat → Option (List Int)) (sq : List Int) (r : (Nat → Option (List Int)) × List Int), rgo G rd t used k at' Q sq = some r → ∃ s, r.2 = sq ++ s
  | 0, at', Q, sq, r, h => by simp [rgo] at h
  | k + 1, at', Q, sq, r, h => by
    rw [rgo] at h
    by_cases h1 : at' < used
    · rw [if_pos h1] at h
      by_cases h2 : dscOk G (rd (G.ring (t + at'))) ∧ at' + 1 + (dsL (rd (G.ring (t + at')))).length ≤ used
      · rw [if_pos h2] at h
        obtain ⟨s, hs⟩ := rgo_pre k _ _ _ r h
        exact ⟨_, by rw [hs, List.append_assoc]⟩
      · rw [if_neg h2] at h; cases h
    · rw [if_neg h1] at h
      cases h
      exact ⟨[], by simp⟩

open Classical in
/-- What comes of it at last. -/
noncomputable def rres (hs : Int) : Option ((Nat → Option (List Int)) × List Int) → Option (Nat → Option (List Int))
  | none => none
  | some r => if sqOk hs r.2 then some r.1 else none

theorem rres_no {G : Geo} {rd : Nat → List Int} {t used : Nat} {hs : Int} {sq : List Int} (h : ¬ Chn sq) (k at' : Nat) (Q : Nat → Option (List Int)) : rres hs (rgo G rd t used k at' Q sq) = none := by
  cases hr : rgo G rd t used k at' Q sq with
  | none => rfl
  | some r =>
    obtain ⟨s, e⟩ := rgo_pre k at' Q sq r hr
    rw [rres, if_neg]
    intro ho
    have := ho.chn
    rw [e] at this
    exact h this.pre

/-- What the next number should be. -/
def nxt (hs : Int) (sq : List Int) : Int := if sq = [] then hs else sq.getLast?.getD 0 + 1

theorem chn_snoc {sq : List Int} (h : Chn sq) (q : Int) : Chn (sq ++ [q]) ↔ (sq ≠ [] → q = sq.getLast?.getD 0 + 1) := by
  constructor
  · intro hc hne
    have hl : 0 < sq.length := List.length_pos_iff.2 hne
    have := hc (sq.length - 1) (by simp; omega)
    rw [show sq.length - 1 + 1 = sq.length by omega, List.getElem?_append_right (Nat.le_refl _), Nat.sub_self, List.getElem?_append_left (by omega)] at this
    rw [List.getLast?_eq_getElem?]
    simpa using this
  · intro hq i hi
    simp at hi
    by_cases e : i + 1 < sq.length
    · rw [List.getElem?_append_left e, List.getElem?_append_left (by omega)]
      exact h i e
    · have hne : sq ≠ [] := fun e0 => by rw [e0] at hi; simp at hi
      have hl : 0 < sq.length := List.length_pos_iff.2 hne
      have ei : i + 1 = sq.length := by omega
      rw [ei, List.getElem?_append_right (Nat.le_refl _), Nat.sub_self, List.getElem?_append_left (by omega)]
      have := hq hne
      rw [List.getLast?_eq_getElem?, show sq.length - 1 = i by omega] at this
      simpa using this

theorem chn_at {sq : List Int} (h : Chn sq) : ∀ i, i < sq.length → sq[i]?.getD 0 = sq[0]?.getD 0 + i
  | 0, _ => by simp
  | i + 1, hi => by
    rw [h i hi, chn_at h i (by omega)]
    push_cast
    omega

theorem sqOk_iff {hs : Int} {sq : List Int} (h : Chn sq) : sqOk hs sq ↔ nxt hs sq = hs := by
  unfold nxt
  by_cases e : sq = []
  · rw [if_pos e]
    subst e
    exact ⟨fun _ => rfl, fun _ i hi => by simp at hi⟩
  · rw [if_neg e]
    have hl : 0 < sq.length := List.length_pos_iff.2 e
    have hlast := chn_at h (sq.length - 1) (by omega)
    rw [List.getLast?_eq_getElem?]
    constructor
    · intro ho
      have := ho (sq.length - 1) (by omega)
      omega
    · intro hn i hi
      have := chn_at h i hi
      omega

theorem nxt_snoc (hs : Int) (sq : List Int) (q : Int) : nxt hs (sq ++ [q]) = q + 1 := by
  unfold nxt
  rw [if_neg (by simp)]
  simp

/-- Both ways come to the same. -/
theorem rgo_goP {G : Geo} {rd : Nat → List Int} {hs : Int} {t used : Nat} : ∀ (k at' : Nat) (Q : Nat → Option (List Int)) (sq : List Int), at' ≤ used → Chn sq → (sq = [] ↔ at' = 0) →
    goP G rd hs t (t + used) k (t + at') (nxt hs sq) Q = rres hs (rgo G rd t used k at' Q sq)
  | 0, at', Q, sq, _, _, _ => rfl
  | k + 1, at', Q, sq, hle, hc, h0 => by
    rw [goP, rgo]
    by_cases e : at' < used
    · rw [if_neg (by omega), if_pos e]
      by_cases h2 : dscOk G (rd (G.ring (t + at'))) ∧ at' + 1 + (dsL (rd (G.ring (t + at')))).length ≤ used
      · rw [if_pos h2]
        by_cases hch : Chn (sq ++ [getVal (rd (G.ring (t + at'))) 4 4])
        · have hq := (chn_snoc hc _).1 hch
          rw [if_pos ⟨h2.1, fun hlt => by
            have hne : sq ≠ [] := fun e0 => by have := h0.1 e0; omega
            rw [hq hne]
            unfold nxt
            rw [if_neg hne], by omega⟩]
          have ih := rgo_goP (G := G) (rd := rd) (hs := hs) (t := t) k (at' + 1 + (dsL (rd (G.ring (t + at')))).length) (setW Q (partW G rd (t + at'))) (sq ++ [getVal (rd (G.ring (t + at'))) 4 4]) h2.2 hch ⟨fun e0 => by simp at e0, fun e0 => by omega⟩
          rw [nxt_snoc] at ih
          rw [← ih]
          congr 1
          omega
        · rw [rres_no hch, if_neg]
          rintro ⟨_, hx, _⟩
          refine hch ((chn_snoc hc _).2 (fun hne => ?_))
          have hlt : t < t + at' := by
            have : at' ≠ 0 := fun e0 => hne (h0.2 e0)
            omega
          rw [hx hlt]
          unfold nxt
          rw [if_neg hne]
      · rw [if_neg h2, if_neg (by
          rintro ⟨x1, _, x3⟩
          exact h2 ⟨x1, by omega⟩)]
        rfl
    · have ea : at' = used := by omega
      rw [if_pos (by omega), if_neg e]
      rw [rres]
      by_cases ho : nxt hs sq = hs
      · rw [if_pos ho, if_pos ((sqOk_iff hc).2 ho)]
      · rw [if_neg ho, if_neg (fun x => ho ((sqOk_iff hc).1 x))]

/-- The log that stands there, the document's way. -/
theorem parse_ref {G : Geo} {rd : Nat → List Int} (h : hdIs (rd 1) ∧ (hdOf (rd 1)).tail < G.lg ∧ (hdOf (rd 1)).used ≤ G.lg) : parse G rd = (rres ((hdOf (rd 1)).seq : Int) (rgo G rd (hdOf (rd 1)).tail (hdOf (rd 1)).used 600 0 (fun _ => none) [])).map (fun Q => (⟨hdOf (rd 1), Q, false⟩ : Lg)) := by
  unfold parse
  rw [if_pos h]
  have := rgo_goP (G := G) (rd := rd) (hs := ((hdOf (rd 1)).seq : Int)) (t := (hdOf (rd 1)).tail) (used := (hdOf (rd 1)).used) 600 0 (fun _ => none) [] (Nat.zero_le _) (fun i hi => by simp at hi) ⟨fun _ => rfl, fun _ => rfl⟩
  rw [← this]
  rfl

/-- Fuel enough. -/
theorem rgo_fuel {G : Geo} {rd : Nat → List Int} {t used : Nat} : ∀ (k at' : Nat) (Q : Nat → Option (List Int)) (sq : List Int), used - at' < k → rgo G rd t used k at' Q sq = rgo G rd t used (used - at' + 1) at' Q sq
  | 0, at', Q, sq, h => by omega
  | k + 1, at', Q, sq, h => by
    rw [rgo, rgo]
    by_cases h1 : at' < used
    · rw [if_pos h1, if_pos h1]
      by_cases h2 : dscOk G (rd (G.ring (t + at'))) ∧ at' + 1 + (dsL (rd (G.ring (t + at')))).length ≤ used
      · rw [if_pos h2, if_pos h2, rgo_fuel k _ _ _ (by omega), rgo_fuel (used - at') _ _ _ (by omega)]
      · rw [if_neg h2, if_neg h2]
    · rw [if_neg h1, if_neg h1]

end Go.Proofs.YtadnlljknocbbaaGreatDoor

/- The document's Undesc and Unheader. -/
namespace Go.Proofs.YtadnlljknocbbaaGreatDoor
open Go.RowKit Go.Shelf
set_option linter.unusedVariables false
set_option maxRecDepth 100000

theorem descE_fit {b q : Int} {ns : List Int} (h : descE b q ns = 0) : isSize b ∧ descF q ns = true := by
  unfold descE at h
  by_cases hs : isSize b
  · rw [if_pos (show (b = 64 ∨ b = 128 ∨ b = 256 ∨ b = 512 ∨ b = 1024 ∨ b = 2048 ∨ b = 4096) from hs)] at h
    by_cases hf : descF q ns = true
    · exact ⟨hs, hf⟩
    · rw [if_neg hf] at h; omega
  · rw [if_neg (show ¬ (b = 64 ∨ b = 128 ∨ b = 256 ∨ b = 512 ∨ b = 1024 ∨ b = 2048 ∨ b = 4096) from hs)] at h; omega

theorem refDesc_ok (q : Int) (a : Option Addr) (len cap : Nat) (ns : List Int) (b : Nat) (w : World) (hi : IHas w a len ns) (he : descE (b : Int) q ns = 0) :
    Calls Tryz.prog 59 #[.int .i64 q, .slice a len cap, .int .i64 (b : Int)] w fun e w' => ∃ a' c', e = .returned (.tuple #[.slice a' b c', .int .i64 0]) ∧ Hid (Has w' a' b (descB b q ns)) ∧ Below w.heap.size w w' := by
  have h := descE_fit he
  have h2 := descE_length he
  have hlen := hi.1
  exact refDesc_good q a len cap ns b w h.1 hi h.2 (by omega)

theorem refDesc_err (q : Int) (a : Option Addr) (len cap : Nat) (ns : List Int) (b : Int) (w : World) (hi : IHas w a len ns) (hl : len ≤ 17592186043904) (he : descE b q ns ≠ 0) :
    Calls Tryz.prog 59 #[.int .i64 q, .slice a len cap, .int .i64 b] w fun e w' => e = .returned (.tuple #[.slice none 0 0, .int .i64 (descE b q ns)]) ∧ Below w.heap.size w w' := by
  have hlen := hi.1
  unfold descE at he ⊢
  by_cases h : isSize b
  · rw [if_pos (show (b = 64 ∨ b = 128 ∨ b = 256 ∨ b = 512 ∨ b = 1024 ∨ b = 2048 ∨ b = 4096) from h)] at he ⊢
    by_cases hf : descF q ns = true
    · rw [if_pos hf] at he ⊢
      by_cases hn : (b - 10) / 2 < (ns.length : Int)
      · rw [if_pos hn]
        exact refDesc_large q a len cap ns b w h hi hl hf (by rw [← hlen]; exact hn)
      · rw [if_neg hn] at he; exact absurd rfl he
    · rw [if_neg hf]
      exact refDesc_value q a len cap ns b w h hi hl (by simpa using hf)
  · rw [if_neg (show ¬ (b = 64 ∨ b = 128 ∨ b = 256 ∨ b = 512 ∨ b = 1024 ∨ b = 2048 ∨ b = 4096) from h)]
    exact refDesc_arg q a len cap ns b w h

theorem refUndesc_is (a : Option Addr) (len cap : Nat) (zs : List Int) (u : World) (hr : Row u.heap.size u a len cap zs) (h : descIs zs) :
    Calls Tryz.prog 95 #[.slice a len cap] u fun e w' => ∃ a c, e = .returned (.tuple #[.int .i64 (getVal zs 4 4), .slice a (dN zs) c, .int .i64 0]) ∧ Hid (IHas w' a (dN zs) (dsL zs)) ∧ Below u.heap.size u w' := by
  have hl := hr.1
  have hd := dN_le hr.2.2.2.1
  obtain ⟨h1, h2, h3⟩ := descE_length h.1
  rw [takeL_length] at h1
  have hN : getVal zs 8 2 = (dN zs : Int) := by
    unfold dN at h1 ⊢
    split
    · rename_i hc
      rw [if_pos hc] at h1
      omega
    · omega
  exact refUndesc_cmp a len cap zs zs u hr (by rw [← hl]; exact h3) (dN zs) hN (by omega) hr.2.2.2.1 false (by simp) fun u2 a' c' hI => by
    have hE := h.1
    rw [hl] at hE
    refine (refDesc_ok _ a' _ c' _ len u2 hI hE).mono ?_
    rintro e w' ⟨a5, c5, rfl, hh, hb⟩
    have hB := h.2
    rw [hl] at hB
    rw [hB] at hh
    exact ⟨_, _, _, _, rfl, hh, hb⟩

theorem refUndesc_not (a : Option Addr) (len cap : Nat) (zs : List Int) (u : World) (hr : Row u.heap.size u a len cap zs) (hnot : ¬ descIs zs) :
    Calls Tryz.prog 95 #[.slice a len cap] u fun e w' => ∃ a c, e = .returned (.tuple #[.int .i64 0, .slice a 0 c, .int .i64 4]) ∧ Below u.heap.size u w' := by
  have hd := dN_le hr.2.2.2.1
  have hl := hr.1
  have fin : ∀ {Q : Ending → World → Prop}, Calls Tryz.prog 95 #[.slice a len cap] u Q → (∀ e w', Q e w' → ∃ a c, e = .returned (.tuple #[.int .i64 0, .slice a 0 c, .int .i64 4]) ∧ Below u.heap.size u w') → Calls Tryz.prog 95 #[.slice a len cap] u fun e w' => ∃ a c, e = .returned (.tuple #[.int .i64 0, .slice a 0 c, .int .i64 4]) ∧ Below u.heap.size u w' := fun h hq => h.mono hq
  by_cases hs : isSize (len : Int)
  · have hbd := size_bd hs
    by_cases hc : ((len : Int) - 10) / 2 < getVal zs 8 2
    · refine fin (refUndesc_big a len cap zs u hr hs hc) ?_
      rintro e w' ⟨rfl, hb⟩
      exact ⟨_, _, rfl, hb⟩
    · have hN : getVal zs 8 2 = (dN zs : Int) := by
        unfold dN
        rw [if_neg (by omega)]
        omega
      have hdn : 10 + 2 * dN zs ≤ len := by omega
      by_cases hE : descE (zs.length : Int) (getVal zs 4 4) (takeL zs (dN zs)) = 0
      · have he : descB zs.length (getVal zs 4 4) (takeL zs (dN zs)) ≠ zs := fun e => hnot ⟨hE, e⟩
        refine fin (refUndesc_cmp a len cap zs (descB zs.length (getVal zs 4 4) (takeL zs (dN zs))) u hr hs (dN zs) hN hdn (descB_byts _ _ _) true (by simp; exact he) fun u2 a' c' hI => by
          have hE' := hE
          rw [hl] at hE'
          refine (refDesc_ok _ a' _ c' _ len u2 hI hE').mono ?_
          rintro e w' ⟨a5, c5, rfl, hh, hb⟩
          rw [← hl] at hh
          exact ⟨_, _, _, _, rfl, by rw [hl] at hh ⊢; exact hh, hb⟩) ?_
        rintro e w' ⟨a', c', rfl, _, hb⟩
        exact ⟨a', c', rfl, hb⟩
      · refine fin (refUndesc_cmp a len cap zs [] u hr hs (dN zs) hN hdn (by simp) true (show decide ([] = zs) = false from decide_eq_false (fun e => by rw [← e] at hl; simp at hl; omega)) fun u2 a' c' hI => by
          refine (refDesc_err _ a' _ c' _ (len : Int) u2 hI (by omega) (by rw [← hl]; exact hE)).mono ?_
          rintro e w' ⟨rfl, hb⟩
          exact ⟨_, _, _, _, rfl, Has.nil _, hb⟩) ?_
        rintro e w' ⟨a', c', rfl, _, hb⟩
        exact ⟨a', c', rfl, hb⟩
  · refine fin (refUndesc_size a len cap u hr.2.2.1.1 hs) ?_
    rintro e w' ⟨rfl, hb⟩
    exact ⟨_, _, rfl, hb⟩

theorem refUnheader_is (a : Option Addr) (len cap : Nat) (zs : List Int) (u : World) (hr : Row u.heap.size u a len cap zs) (h : hdIs zs) :
    Calls Tryz.prog 94 #[.slice a len cap] u fun e w' => e = .returned (.tuple #[Hv (hdrOf zs), .int .i64 0]) ∧ Below u.heap.size u w' := by
  obtain ⟨h1, h2⟩ := h
  rw [hr.1] at h1 h2
  exact refUnheader_cmp a len cap zs u hr h1 false (by simp [h2])

theorem refUnheader_not (a : Option Addr) (len cap : Nat) (zs : List Int) (u : World) (hr : Row u.heap.size u a len cap zs) (h : ¬ hdIs zs) :
    Calls Tryz.prog 94 #[.slice a len cap] u fun e w' => e = .returned (.tuple #[.agg #[.int .i64 0, .int .i64 0, .int .i64 0], .int .i64 4]) ∧ Below u.heap.size u w' := by
  have hl := hr.1
  by_cases hs : isSize (len : Int)
  · exact refUnheader_cmp a len cap zs u hr hs true (by simp; exact fun e => h ⟨by rw [hl]; exact hs, by rw [hl]; exact e⟩)
  · exact refUnheader_size a len cap u hr.2.2.1.1 hs

end Go.Proofs.YtadnlljknocbbaaGreatDoor

