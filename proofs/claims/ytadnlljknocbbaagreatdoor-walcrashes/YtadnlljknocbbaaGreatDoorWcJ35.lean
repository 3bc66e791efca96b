/- Joined: WPure, WParse, WRun. -/
import Derived.Test.YtadnlljknocbbaaGreatDoorWcJ21
import Derived.Test.YtadnlljknocbbaaGreatDoorWcCUnD
import Derived.Test.YtadnlljknocbbaaGreatDoorWcJ33
import Derived.Test.YtadnlljknocbbaaGreatDoorWcJ16
/- A log as plain data: its place, its header, what is pending, what its calls write. -/
namespace Go.Proofs.YtadnlljknocbbaaGreatDoor
open Go.RowKit Go.Shelf
set_option linter.unusedVariables false

/-- What of a plan the log wants: the size of a block, how many there are, how many are the log's. -/
structure Geo where
  blk : Nat
  n : Nat
  lg : Nat

structure Geo.Ok (G : Geo) : Prop where
  size : isSize (G.blk : Int)
  l1 : 4 ≤ G.lg
  l2 : G.lg ≤ 512
  n1 : G.lg + 3 ≤ G.n
  n2 : G.n ≤ 4096

/-- The first of the bitmaps. -/
def Geo.ib (G : Geo) : Nat := 2 + G.lg

/-- How many numbers a list has at most. -/
def Geo.most (G : Geo) : Nat := (G.blk - 10) / 2

/-- Number k of the log. -/
def Geo.ring (G : Geo) (k : Nat) : Nat := 2 + k % G.lg

theorem Geo.Ok.blk {G : Geo} (h : G.Ok) : 64 ≤ G.blk ∧ G.blk ≤ 4096 := by
  have := h.size
  unfold isSize at this
  omega

theorem Geo.Ok.most {G : Geo} (h : G.Ok) : 27 ≤ G.most ∧ G.most ≤ 2043 := by
  have := h.blk
  unfold Geo.most
  omega

theorem Geo.Ok.ring {G : Geo} (h : G.Ok) (k : Nat) : 2 ≤ G.ring k ∧ G.ring k < G.ib ∧ G.ring k < G.n := by
  have h1 := h.l1
  have h2 := h.n1
  have := Nat.mod_lt k (show G.lg > 0 by omega)
  unfold Geo.ring Geo.ib
  omega

theorem Geo.Ok.ibn {G : Geo} (h : G.Ok) : 6 ≤ G.ib ∧ G.ib < G.n := by
  have h1 := h.l1
  have h2 := h.n1
  unfold Geo.ib
  omega

/-- A plan, and what of it the log wants. -/
structure PG (P : Nat → Int) (G : Geo) : Prop where
  chk : checkE P = 0
  p0 : P 0 = (G.blk : Int)
  p1 : P 1 = (G.n : Int)
  p3 : P 3 = (G.lg : Int)
  p4 : P 4 = 2
  p5 : P 5 = (G.ib : Int)
  ok : G.Ok

/-- A header. -/
structure Hd where
  seq : Nat
  tail : Nat
  used : Nat

def Hd.fn (h : Hd) : Nat → Int := fun k => if k = 0 then (h.seq : Int) else if k = 1 then (h.tail : Int) else (h.used : Int)

structure Hd.Ok (h : Hd) (G : Geo) : Prop where
  seq : h.seq ≤ 4294967295
  tail : h.tail < G.lg
  used : h.used ≤ G.lg

/-- A header's block. -/
def hdB (G : Geo) (h : Hd) : List Int := sumB G.blk (hdrH h.fn)

/-- A log: its header, what is pending, whether it has met the device's death. -/
structure Lg where
  h : Hd
  Q : Nat → Option (List Int)
  dead : Bool

/-- A write, as a list has it. -/
abbrev Wl := List (Nat × List Int)

/-- How many parts n blocks are. -/
def Geo.parts (G : Geo) (n : Nat) : Nat := (n + G.most - 1) / G.most

def Geo.uses (G : Geo) (n : Nat) : Nat := n + G.parts n

theorem Geo.parts_zero {G : Geo} (h : G.Ok) : G.parts 0 = 0 := by
  have := h.most
  unfold Geo.parts
  rw [Nat.div_eq_of_lt (by omega)]

theorem Geo.parts_step {G : Geo} (h : G.Ok) {n : Nat} (hn : 0 < n) : G.parts n = 1 + G.parts (n - min n G.most) := by
  have hm := h.most
  unfold Geo.parts
  by_cases hl : n ≤ G.most
  · rw [Nat.min_eq_left hl, Nat.sub_self, Nat.zero_add, Nat.div_eq_of_lt (show G.most - 1 < G.most by omega)]
    have : n + G.most - 1 = (n - 1) + 1 * G.most := by omega
    rw [this, Nat.add_mul_div_right _ _ (by omega), Nat.div_eq_of_lt (by omega)]
  · rw [Nat.min_eq_right (by omega)]
    have : n + G.most - 1 = (n - G.most + G.most - 1) + 1 * G.most := by omega
    rw [this, Nat.add_mul_div_right _ _ (by omega), Nat.add_comm]

theorem Geo.parts_le {G : Geo} (h : G.Ok) (n : Nat) : G.parts n ≤ n := by
  have hm := h.most
  cases n with
  | zero => rw [Geo.parts_zero h]; omega
  | succ n =>
    unfold Geo.parts
    refine Nat.div_le_of_le_mul ?_
    have h2 : G.most * (n + 1) = G.most * n + G.most := by rw [Nat.mul_succ]
    have h3 : n ≤ G.most * n := Nat.le_mul_of_pos_left _ (by omega)
    omega

/-- The blocks behind a descriptor. -/
def dataS (G : Geo) : Nat → Wl → List Stp
  | _, [] => []
  | a, x :: r => .w (G.ring a) x.2 :: dataS G (a + 1) r

/-- A part. -/
def partS (G : Geo) (seq a : Nat) (W : Wl) : List Stp := .w (G.ring a) (descB G.blk (seq : Int) (W.map (fun x => (x.1 : Int)))) :: dataS G (a + 1) W

/-- All parts of a list. -/
def partsS (G : Geo) (seq a : Nat) : Wl → List Stp
  | [] => []
  | x :: r => partS G seq a ((x :: r).take G.most) ++ partsS G (seq + 1) (a + 1 + min (x :: r).length G.most) (r.drop (G.most - 1))
termination_by W => W.length
decreasing_by simp; omega

theorem partsS_nil (G : Geo) (seq a : Nat) : partsS G seq a [] = [] := by rw [partsS]

theorem partsS_cons {G : Geo} (h : G.Ok) (seq a : Nat) {W : Wl} (hW : W ≠ []) : partsS G seq a W = partS G seq a (W.take G.most) ++ partsS G (seq + 1) (a + 1 + min W.length G.most) (W.drop G.most) := by
  cases W with
  | nil => exact absurd rfl hW
  | cons x r =>
    rw [partsS]
    have hm := h.most
    obtain ⟨m, hm2⟩ : ∃ m, G.most = m + 1 := ⟨G.most - 1, by omega⟩
    rw [hm2]
    simp

/-- The header behind a commit of n blocks. -/
def Geo.after (G : Geo) (h : Hd) (n : Nat) : Hd := ⟨h.seq + G.parts n, h.tail, h.used + G.uses n⟩

/-- What settles a header. -/
def stlS (G : Geo) (h : Hd) : List Stp := [.f, .w 1 (hdB G h), .f]

/-- What is pending behind a list. -/
def setW (Q : Nat → Option (List Int)) : Wl → (Nat → Option (List Int))
  | [] => Q
  | x :: r => setW (fun j => if j = x.1 then some x.2 else Q j) r

theorem setW_append (Q : Nat → Option (List Int)) (A B : Wl) : setW Q (A ++ B) = setW (setW Q A) B := by
  induction A generalizing Q with
  | nil => rfl
  | cons x r ih => exact ih _

/-- The blocks that are pending, rising. -/
def pendL (G : Geo) (Q : Nat → Option (List Int)) : List Nat := (List.range G.n).filter (fun b => (Q b).isSome)

def pendW (G : Geo) (Q : Nat → Option (List Int)) : Wl := (pendL G Q).map (fun b => (b, (Q b).getD []))

/-- Writes to their places. -/
def homeS : Wl → List Stp
  | [] => []
  | x :: r => .w x.1 x.2 :: homeS r

/-- The header behind Apply. -/
def Geo.freed (G : Geo) (h : Hd) : Hd := ⟨h.seq, (h.tail + h.used) % G.lg, 0⟩

def aplS (G : Geo) (L : Lg) : List Stp := homeS (pendW G L.Q) ++ stlS G (G.freed L.h)

/-- What Apply answers, and leaves, of a log that has not ended. -/
def apE (G : Geo) (L : Lg) (D : Dev) : Int := if L.h.used = 0 then 0 else runE (aplS G L) D

def apD (G : Geo) (L : Lg) (D : Dev) : Dev := if L.h.used = 0 then D else runD (aplS G L) D

def apL (G : Geo) (L : Lg) (D : Dev) : Lg := if L.h.used = 0 then L else if runE (aplS G L) D = 0 then { L with h := G.freed L.h, Q := fun _ => none } else L

def comS (G : Geo) (L : Lg) (W : Wl) : List Stp := partsS G L.h.seq (L.h.tail + L.h.used) W ++ stlS G (G.after L.h W.length)

/-- What Commit answers, and leaves, of a list for which there is room. -/
def cmE0 (G : Geo) (L : Lg) (W : Wl) (D : Dev) : Int := runE (comS G L W) D

def cmD0 (G : Geo) (L : Lg) (W : Wl) (D : Dev) : Dev := runD (comS G L W) D

def cmL0 (G : Geo) (L : Lg) (W : Wl) (D : Dev) : Lg := if runE (comS G L W) D = 0 then { L with h := G.after L.h W.length, Q := setW L.Q W } else L

/-- .. of any list that is not refused. -/
def cmE (G : Geo) (L : Lg) (W : Wl) (D : Dev) : Int := if G.lg - L.h.used < G.uses W.length then (if apE G L D = 0 then cmE0 G (apL G L D) W (apD G L D) else apE G L D) else cmE0 G L W D

def cmD (G : Geo) (L : Lg) (W : Wl) (D : Dev) : Dev := if G.lg - L.h.used < G.uses W.length then (if apE G L D = 0 then cmD0 G (apL G L D) W (apD G L D) else apD G L D) else cmD0 G L W D

def cmL (G : Geo) (L : Lg) (W : Wl) (D : Dev) : Lg := if G.lg - L.h.used < G.uses W.length then (if apE G L D = 0 then cmL0 G (apL G L D) W (apD G L D) else apL G L D) else cmL0 G L W D

/-- A log that has met an answer. -/
def Lg.met (L : Lg) (e : Int) : Lg := if e = 7 then { L with dead := true } else L

/-- Does a list name sound blocks? 0, or the error. -/
def blkE (G : Geo) (ns : List Int) : Int := if ns.all (fun b => decide ((G.ib : Int) ≤ b ∧ b < G.n)) = true then (if ns.Nodup then 0 else 3) else 2

/-- What a list that is to be committed is refused with: its blocks, and how long their bytes are. -/
def lstE (G : Geo) (seq : Nat) (V : List (Int × Nat)) : Int :=
  if V.all (fun x => decide (x.2 = G.blk)) = true then (if blkE G (V.map (·.1)) = 0 then (if G.lg < G.uses V.length then 5 else if 4294967295 - seq < G.parts V.length then 8 else 0) else blkE G (V.map (·.1))) else 1

/-- The numbers of a descriptor. -/
def dsL (zs : List Int) : List Int := takeL zs (dN zs)

/-- Is it a descriptor whose list is sound? -/
def dscOk (G : Geo) (zs : List Int) : Prop := descIs zs ∧ dsL zs ≠ [] ∧ blkE G (dsL zs) = 0

open Classical in
/-- The parts from a on, up to the end: what is pending behind them. -/
noncomputable def goP (G : Geo) (rd : Nat → List Int) (hs : Int) (t e : Nat) : Nat → Nat → Int → (Nat → Option (List Int)) → Option (Nat → Option (List Int))
  | 0, _, _, _ => none
  | k + 1, a, nx, Q =>
    if a = e then (if nx = hs then some Q else none)
    else if dscOk G (rd (G.ring a)) ∧ (t < a → getVal (rd (G.ring a)) 4 4 = nx) ∧ a + 1 + (dsL (rd (G.ring a))).length ≤ e then
      goP G rd hs t e k (a + 1 + (dsL (rd (G.ring a))).length) (getVal (rd (G.ring a)) 4 4 + 1) (setW Q ((dsL (rd (G.ring a))).mapIdx (fun i b => (b.toNat, rd (G.ring (a + 1 + i))))))
    else none

/-- Is it a header's block? -/
def hdIs (zs : List Int) : Prop := isSize (zs.length : Int) ∧ sumB zs.length (hdrH (hdrOf zs)) = zs

def hdOf (zs : List Int) : Hd := ⟨(hdrOf zs 0).toNat, (hdrOf zs 1).toNat, (hdrOf zs 2).toNat⟩

open Classical in
/-- The log that stands on a device. -/
noncomputable def parse (G : Geo) (rd : Nat → List Int) : Option Lg :=
  if hdIs (rd 1) ∧ (hdOf (rd 1)).tail < G.lg ∧ (hdOf (rd 1)).used ≤ G.lg then
    (goP G rd ((hdOf (rd 1)).seq : Int) (hdOf (rd 1)).tail ((hdOf (rd 1)).tail + (hdOf (rd 1)).used) 600 (hdOf (rd 1)).tail ((hdOf (rd 1)).seq : Int) (fun _ => none)).map (fun Q => ⟨hdOf (rd 1), Q, false⟩)
  else none

end Go.Proofs.YtadnlljknocbbaaGreatDoor

/- What a log has written is read again: descriptors, parts. -/
namespace Go.Proofs.YtadnlljknocbbaaGreatDoor
open Go.RowKit Go.Shelf
set_option linter.unusedVariables false

theorem encF_nums (wd : Nat) (ns : List Int) : encF (ns.map (fun v => (wd, v))) = numsB wd ns := by
  induction ns with
  | nil => rfl
  | cons v r ih => simp [encF, numsB] at ih ⊢; rw [ih]

theorem encF_append (A B : List (Nat × Int)) : encF (A ++ B) = encF A ++ encF B := by
  induction A with
  | nil => rfl
  | cons f r ih => simp [encF, ih]

theorem offF_map (wd : Nat) : ∀ (ns : List Int) (k : Nat), k < ns.length → offF (ns.map (fun v => (wd, v))) k = wd * k
  | [], k, h => absurd h (by simp)
  | v :: r, 0, h => by simp [offF]
  | v :: r, k + 1, h => by
    have := offF_map wd r k (by simpa using h)
    simp only [List.map_cons, offF, this]
    rw [Nat.mul_succ]
    omega

/-- The numbers of a descriptor that was written. -/
theorem desc_get {b : Nat} {q : Int} {ns : List Int} (hq : 0 ≤ q ∧ q < 4294967296) (hn : ∀ v ∈ ns, 0 ≤ v ∧ v < 65536) (hl : ns.length < 65536) :
    getVal (descB b q ns) 4 4 = q ∧ getVal (descB b q ns) 8 2 = (ns.length : Int) ∧ ∀ i (h : i < ns.length), getVal (descB b q ns) (10 + 2 * (i : Int)) 2 = ns[i] := by
  obtain ⟨A, hA, R, hR⟩ : ∃ A : List Int, A.length = 4 ∧ ∃ R, descB b q ns = A ++ (encF ((4, q) :: (2, (ns.length : Int)) :: ns.map (fun v => (2, v))) ++ R) := by
    refine ⟨digits 4 ((sumS (descR b q ns) : Nat) : Int), length_digits _ _, ?_⟩
    have e : descR b q ns = encF ((4, q) :: (2, (ns.length : Int)) :: ns.map (fun v => (2, v))) ++ List.replicate (b - 4 - (numsB 4 [q] ++ (numsB 2 [(ns.length : Int)] ++ numsB 2 ns)).length) 0 := by
      unfold descR layB
      rw [numsB_one, numsB_one]
      simp only [encF, encF_nums, List.append_assoc]
    obtain ⟨Z, hZ⟩ : ∃ Z, descB b q ns = digits 4 ((sumS (descR b q ns) : Nat) : Int) ++ (descR b q ns ++ Z) := ⟨_, by unfold descB layB; rw [List.append_assoc]⟩
    generalize digits 4 ((sumS (descR b q ns) : Nat) : Int) = dg at *
    rw [e, List.append_assoc] at hZ
    exact ⟨_, hZ⟩
  rw [hR]
  refine ⟨?_, ?_, fun i h => ?_⟩
  · have := getVal_field ((4, q) :: (2, (ns.length : Int)) :: ns.map (fun v => (2, v))) 0 4 q A R rfl (by omega) hq
    rw [hA] at this
    exact this
  · have := getVal_field ((4, q) :: (2, (ns.length : Int)) :: ns.map (fun v => (2, v))) 1 2 (ns.length : Int) A R rfl (by omega) ⟨by omega, by omega⟩
    rw [hA] at this
    exact this
  · have := getVal_field ((4, q) :: (2, (ns.length : Int)) :: ns.map (fun v => (2, v))) (i + 2) 2 ns[i] A R (by simp [List.getElem?_eq_getElem h]) (by omega) (hn _ (List.getElem_mem h))
    rw [hA] at this
    have e : ((4 + offF ((4, q) :: (2, (ns.length : Int)) :: ns.map (fun v => (2, v))) (i + 2) : Nat) : Int) = 10 + 2 * (i : Int) := by
      simp only [offF, offF_map 2 ns i h]
      omega
    rw [e] at this
    exact this

theorem blkE_ok {G : Geo} {ns : List Int} (h : blkE G ns = 0) : (∀ b ∈ ns, (G.ib : Int) ≤ b ∧ b < G.n) ∧ ns.Nodup := by
  unfold blkE at h
  by_cases h1 : ns.all (fun b => decide ((G.ib : Int) ≤ b ∧ b < G.n)) = true
  · rw [if_pos h1] at h
    by_cases h2 : ns.Nodup
    · exact ⟨fun b hb => by simpa using List.all_eq_true.1 h1 b hb, h2⟩
    · rw [if_neg h2] at h; omega
  · rw [if_neg h1] at h; omega

/-- A part that may be written. -/
structure Part (G : Geo) (q : Nat) (W : Wl) : Prop where
  some' : W ≠ []
  len : W.length ≤ G.most
  blk : blkE G (W.map (fun x => (x.1 : Int))) = 0
  seq : q < 4294967295

theorem Part.back {G : Geo} (hG : G.Ok) {q : Nat} {W : Wl} (h : Part G q W) :
    dscOk G (descB G.blk (q : Int) (W.map (fun x => (x.1 : Int)))) ∧ dsL (descB G.blk (q : Int) (W.map (fun x => (x.1 : Int)))) = W.map (fun x => (x.1 : Int)) ∧ getVal (descB G.blk (q : Int) (W.map (fun x => (x.1 : Int)))) 4 4 = (q : Int) := by
  have hm := hG.most
  have hbk := hG.blk
  have hl := h.len
  have hq := h.seq
  have hn2 := hG.n2
  have hmm : 10 + 2 * G.most ≤ G.blk := by unfold Geo.most; omega
  have hblk := h.blk
  have hsome := h.some'
  obtain ⟨b1, b2⟩ := blkE_ok hblk
  generalize hns : W.map (fun x => (x.1 : Int)) = ns at *
  have hnl : ns.length = W.length := by rw [← hns]; simp
  obtain ⟨g1, g2, g3⟩ := desc_get (b := G.blk) (q := (q : Int)) (ns := ns) ⟨by omega, by omega⟩ (fun v hv => by have := b1 v hv; omega) (by omega)
  have hlen : (descB G.blk (q : Int) ns).length = G.blk := descB_length (by omega)
  have hd : dN (descB G.blk (q : Int) ns) = ns.length := by
    unfold dN
    rw [hlen, g2, if_neg (by omega)]
    omega
  have ht : takeL (descB G.blk (q : Int) ns) ns.length = ns := by
    unfold takeL
    refine List.ext_getElem (by simp) (fun i h1 h2 => ?_)
    simp only [List.getElem_map, List.getElem_range]
    exact g3 i h2
  have hds : dsL (descB G.blk (q : Int) ns) = ns := by unfold dsL; rw [hd, ht]
  refine ⟨⟨⟨?_, ?_⟩, ?_, ?_⟩, hds, g1⟩
  · rw [hlen, g1, hd, ht]
    unfold descE
    have hs := hG.size
    unfold isSize at hs
    rw [if_pos hs, if_pos, if_neg (by omega)]
    unfold descF
    rw [Bool.and_eq_true, fitB_iff, fitB_iff]
    exact ⟨fun v hv => by simp at hv; subst hv; omega, fun v hv => by have := b1 v hv; omega⟩
  · rw [hlen, g1, hd, ht]
  · rw [hds]
    intro e
    rw [e] at hnl
    exact hsome (List.length_eq_zero_iff.1 hnl.symm)
  · rw [hds]; exact hblk

/-- Parts that stand in the ring, one behind the other. -/
def Std (G : Geo) (rd : Nat → List Int) : Nat → Nat → List Wl → Prop
  | _, _, [] => True
  | a, q, W :: r => Part G q W ∧ rd (G.ring a) = descB G.blk (q : Int) (W.map (fun x => (x.1 : Int))) ∧ (∀ i (h : i < W.length), rd (G.ring (a + 1 + i)) = W[i].2) ∧ Std G rd (a + 1 + W.length) (q + 1) r

def spanP : List Wl → Nat
  | [] => 0
  | W :: r => 1 + W.length + spanP r

theorem go_std {G : Geo} (hG : G.Ok) (rd : Nat → List Int) (hs : Int) (t e : Nat) : ∀ (Ps : List Wl) (k a q : Nat) (nx : Int) (Q : Nat → Option (List Int)), Std G rd a q Ps → Ps.length < k → e = a + spanP Ps → hs = ((q + Ps.length : Nat) : Int) → (Ps = [] ∨ t < a → nx = (q : Int)) → t ≤ a →
    goP G rd hs t e k a nx Q = some (setW Q Ps.flatten)
  | [], 0, a, q, nx, Q, h, hk, he, hh, hn, ht => absurd hk (by simp)
  | [], k + 1, a, q, nx, Q, h, hk, he, hh, hn, ht => by
    have e1 : a = e := by simpa [spanP] using he.symm
    have e2 : nx = hs := by rw [hn (.inl rfl), hh]; simp
    rw [goP, if_pos e1, if_pos e2]
    rfl
  | W :: r, 0, a, q, nx, Q, h, hk, he, hh, hn, ht => absurd hk (by simp)
  | W :: r, k + 1, a, q, nx, Q, h, hk, he, hh, hn, ht => by
    obtain ⟨h1, h2, h3, h4⟩ := h
    obtain ⟨b1, b2, b3⟩ := h1.back hG
    have hne : ¬ a = e := by rw [he]; unfold spanP; omega
    rw [goP, if_neg hne, h2, b2, b3, List.length_map]
    have hc : dscOk G (descB G.blk (q : Int) (W.map (fun x => (x.1 : Int)))) ∧ (t < a → (q : Int) = nx) ∧ a + 1 + W.length ≤ e := by
      refine ⟨b1, fun h => (hn (.inr h)).symm, ?_⟩
      rw [he]
      simp [spanP]
      omega
    rw [if_pos hc]
    have ew : (W.map (fun x => (x.1 : Int))).mapIdx (fun i b => (b.toNat, rd (G.ring (a + 1 + i)))) = W := by
      refine List.ext_getElem (by simp) (fun i i1 i2 => ?_)
      simp only [List.getElem_mapIdx, List.getElem_map, h3 i i2]
      simp
    rw [ew]
    have ih := go_std hG rd hs t e r k (a + 1 + W.length) (q + 1) ((q : Int) + 1) (setW Q W) h4 (by simpa using hk) (by rw [he]; simp [spanP]; omega) (by rw [hh]; simp; omega) (fun _ => by simp) (by omega)
    rw [ih, List.flatten_cons, setW_append]

end Go.Proofs.YtadnlljknocbbaaGreatDoor

/- What steps leave to be read; parts that were written stand in the ring. -/
namespace Go.Proofs.YtadnlljknocbbaaGreatDoor
open Go.RowKit Go.Shelf
set_option linter.unusedVariables false

/-- What is read behind steps that were all done. -/
def rdS : List Stp → (Nat → List Int) → (Nat → List Int)
  | [], r => r
  | .w i z :: s, r => rdS s (fun j => if j = i then z else r j)
  | .f :: s, r => rdS s r

theorem rdS_append (A B : List Stp) (r : Nat → List Int) : rdS (A ++ B) r = rdS B (rdS A r) := by
  induction A generalizing r with
  | nil => rfl
  | cons s t ih => cases s <;> exact ih _

theorem ap_rd {D : Dev} (h : D.wE = 0) (s : Stp) : (s.ap D).rd = rdS [s] D.rd := by
  have hb : ¬ (D.f = 0 ∨ D.dead = true) := fun hb => by unfold Dev.wE at h; rw [if_pos hb] at h; omega
  funext j
  cases s with
  | w i z =>
    show (D.wD i z).rd j = if j = i then z else D.rd j
    unfold Dev.wD
    rw [if_neg hb]
    split
    · by_cases e : j = i
      · subst e; simp [Dev.rd, Dev.add, Dev.burn]
      · simp [Dev.rd, Dev.add, Dev.burn, e]
    · by_cases e : j = i
      · subst e; simp [Dev.rd, Dev.add, Dev.burn, Dev.shift]
      · simp [Dev.rd, Dev.add, Dev.burn, Dev.shift, e]
  | f =>
    show D.fD.rd j = D.rd j
    unfold Dev.fD
    rw [if_neg hb]
    show ((if j < D.n then [] else D.Y j) : List (List Int)).getLast?.getD (if j < D.n then D.rd j else D.X j) = D.rd j
    split
    · rfl
    · rfl

theorem run_rd : ∀ (l : List Stp) (D : Dev), runE l D = 0 → (runD l D).rd = rdS l D.rd
  | [], D, h => rfl
  | s :: r, D, h => by
    by_cases h0 : D.wE = 0
    · rw [runE_ok h0] at h
      rw [runD_ok h0, run_rd r _ h, ap_rd h0, ← rdS_append]
      rfl
    · rw [runE, if_neg h0] at h
      omega

theorem ring_ne {G : Geo} (h : G.Ok) {i j : Nat} (h1 : i < j) (h2 : j < i + G.lg) : G.ring i ≠ G.ring j := by
  have hl := h.l1
  unfold Geo.ring
  intro e
  have e' : i % G.lg = j % G.lg := by omega
  have h3 : (j - i) % G.lg = 0 := by
    have := Nat.sub_mod_eq_zero_of_mod_eq e'.symm
    exact this
  rw [Nat.mod_eq_of_lt (by omega)] at h3
  omega

theorem data_out (G : Geo) : ∀ (W : Wl) (a : Nat) (r : Nat → List Int) (j : Nat), (∀ i, i < W.length → j ≠ G.ring (a + i)) → rdS (dataS G a W) r j = r j
  | [], a, r, j, h => rfl
  | x :: t, a, r, j, h => by
    rw [dataS, rdS, data_out G t (a + 1) _ j (fun i hi => by
      have := h (i + 1) (by simp; omega)
      rwa [show a + (i + 1) = a + 1 + i by omega] at this)]
    rw [if_neg (by simpa using h 0 (by simp))]

theorem data_in {G : Geo} (hG : G.Ok) : ∀ (W : Wl) (a : Nat) (r : Nat → List Int) (i : Nat) (h : i < W.length), W.length ≤ G.lg → rdS (dataS G a W) r (G.ring (a + i)) = W[i].2
  | [], a, r, i, h, hl => absurd h (by simp)
  | x :: t, a, r, 0, h, hl => by
    rw [dataS, rdS, data_out G t (a + 1) _ _ (fun i hi => ?_)]
    · simp
    · simp at hl
      exact ring_ne hG (by omega) (by omega)
  | x :: t, a, r, i + 1, h, hl => by
    rw [dataS, rdS, show a + (i + 1) = a + 1 + i by omega]
    simp at hl h
    rw [data_in hG t (a + 1) _ i (by omega) (by omega)]
    simp

/-- A part, as read. -/
theorem part_in {G : Geo} (hG : G.Ok) (q a : Nat) (W : Wl) (r : Nat → List Int) (hl : 1 + W.length ≤ G.lg) :
    rdS (partS G q a W) r (G.ring a) = descB G.blk (q : Int) (W.map (fun x => (x.1 : Int))) ∧ (∀ i (h : i < W.length), rdS (partS G q a W) r (G.ring (a + 1 + i)) = W[i].2) ∧ ∀ j, (∀ i, i < 1 + W.length → j ≠ G.ring (a + i)) → rdS (partS G q a W) r j = r j := by
  refine ⟨?_, fun i h => ?_, fun j h => ?_⟩
  · rw [partS, rdS, data_out G W (a + 1) _ _ (fun i hi => ring_ne hG (by omega) (by omega))]
    simp
  · rw [partS, rdS]
    exact data_in hG W (a + 1) _ i h (by omega)
  · rw [partS, rdS, data_out G W (a + 1) _ _ (fun i hi => by
      have := h (i + 1) (by omega)
      rwa [show a + (i + 1) = a + 1 + i by omega] at this)]
    rw [if_neg (by simpa using h 0 (by omega))]

/-- A list in parts. -/
def cutP (G : Geo) : Wl → List Wl
  | [] => []
  | x :: r => (x :: r).take G.most :: cutP G (r.drop (G.most - 1))
termination_by W => W.length
decreasing_by simp; omega

theorem cutP_cons {G : Geo} (h : G.Ok) {W : Wl} (hW : W ≠ []) : cutP G W = W.take G.most :: cutP G (W.drop G.most) := by
  cases W with
  | nil => exact absurd rfl hW
  | cons x r =>
    rw [cutP]
    have hm := h.most
    obtain ⟨m, hm2⟩ : ∃ m, G.most = m + 1 := ⟨G.most - 1, by omega⟩
    rw [hm2]
    simp

theorem cutP_nil (G : Geo) : cutP G [] = [] := by rw [cutP]

theorem cut_ind {G : Geo} (h : G.Ok) {P : Wl → Prop} (h0 : P []) (h1 : ∀ W, W ≠ [] → P (W.drop G.most) → P W) (W : Wl) : P W := by
  have hm := h.most
  have : ∀ n (W : Wl), W.length ≤ n → P W := by
    intro n
    induction n with
    | zero => intro W hl; rw [List.length_eq_zero_iff.1 (Nat.le_zero.1 hl)]; exact h0
    | succ n ih =>
      intro W hl
      by_cases e : W = []
      · rw [e]; exact h0
      · refine h1 W e (ih _ ?_)
        rw [List.length_drop]
        omega
  exact this _ W (Nat.le_refl _)

theorem cut_flat {G : Geo} (h : G.Ok) (W : Wl) : (cutP G W).flatten = W := by
  refine cut_ind h (P := fun W => (cutP G W).flatten = W) (by rw [cutP_nil]; rfl) (fun W hW ih => ?_) W
  rw [cutP_cons h hW, List.flatten_cons, ih, List.take_append_drop]

theorem cut_len {G : Geo} (h : G.Ok) (W : Wl) : (cutP G W).length = G.parts W.length ∧ spanP (cutP G W) = G.uses W.length := by
  have hm := h.most
  refine cut_ind h (P := fun W => (cutP G W).length = G.parts W.length ∧ spanP (cutP G W) = G.uses W.length) ?_ (fun W hW ih => ?_) W
  · rw [cutP_nil]
    simp [spanP, Geo.uses, Geo.parts_zero h]
  · have hl : 0 < W.length := List.length_pos_iff.2 hW
    rw [cutP_cons h hW]
    obtain ⟨i1, i2⟩ := ih
    rw [List.length_drop] at i1 i2
    have hp := Geo.parts_step h hl
    have e : W.length - min W.length G.most = W.length - G.most := by omega
    rw [e] at hp
    unfold Geo.uses at *
    simp only [List.length_cons, spanP, List.length_take]
    omega

end Go.Proofs.YtadnlljknocbbaaGreatDoor

