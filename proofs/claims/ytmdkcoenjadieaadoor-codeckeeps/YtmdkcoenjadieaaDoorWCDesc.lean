/- Contracts of codec.Desc. -/
import Derived.Test.YtmdkcoenjadieaaDoorWJ34
import Derived.Test.YtmdkcoenjadieaaDoorWJ29
namespace Go.Proofs.YtmdkcoenjadieaaDoor
open Go.RowKit Go.Shelf
set_option linter.unusedVariables false
set_option maxRecDepth 100000

/-- Do a descriptor's numbers fit? -/
def descF (q : Int) (ns : List Int) : Bool := fitB 4 [q] && fitB 2 ns

/-- What stands behind a descriptor's sum. -/
def descR (b : Nat) (q : Int) (ns : List Int) : List Int := layB (b - 4) (numsB 4 [q] ++ (numsB 2 [(ns.length : Int)] ++ numsB 2 ns))

/-- A descriptor's bytes. -/
def descB (b : Nat) (q : Int) (ns : List Int) : List Int := layB b (digits 4 ((sumS (descR b q ns) : Nat) : Int) ++ descR b q ns)

/-- A descriptor's error. -/
def descE (b : Int) (q : Int) (ns : List Int) : Int := if (b = 64 ∨ b = 128 ∨ b = 256 ∨ b = 512 ∨ b = 1024 ∨ b = 2048 ∨ b = 4096) then (if descF q ns = true then (if (b - 10) / 2 < (ns.length : Int) then 5 else 0) else 3) else 1

theorem descR_length {b : Nat} {q : Int} {ns : List Int} (h : 10 + 2 * ns.length ≤ b) : (descR b q ns).length = b - 4 :=
  length_layB (by rw [List.length_append, List.length_append, length_numsB, length_numsB, length_numsB]; simp; omega)

theorem descB_length {b : Nat} {q : Int} {ns : List Int} (h : 10 + 2 * ns.length ≤ b) : (descB b q ns).length = b :=
  length_layB (by rw [List.length_append, length_digits, descR_length h]; omega)

theorem descR_byts (b : Nat) (q : Int) (ns : List Int) : Byts (descR b q ns) := by
  refine layB_byte _ _ fun z hz => ?_
  simp only [List.mem_append] at hz
  rcases hz with hz | hz | hz
  all_goals exact numsB_byte _ _ z hz

theorem descB_byts (b : Nat) (q : Int) (ns : List Int) : Byts (descB b q ns) := by
  refine layB_byte _ _ fun z hz => ?_
  rcases List.mem_append.1 hz with hz | hz
  · exact digits_byte _ _ z hz
  · exact descR_byts b q ns z hz

set_option maxHeartbeats 2000000 in
theorem desc_arg (q : Int) (a : Option Addr) (len cap : Nat) (ns : List Int) (b : Int) (w : World) (h : ¬ isSize b) :
    Calls Tryd.prog 18 #[.int .i64 q, .slice a len cap, .int .i64 b] w fun e w' => e = .returned (.tuple #[.slice none 0 0, .int .i64 1]) ∧ Below w.heap.size w w' := by
  have K : Hid (∀ u, Calls Tryd.prog 43 #[.int .i64 b] u fun e w' => e = .returned (.bool false) ∧ Below u.heap.size u w') := fun u => cblock_no b u h
  clear h
  go_enter Tryd.func18, Tryd.ntmps18
  go_wp2_with fail
  go_at_call 43
  refine (unhide K _).mono ?_
  rintro e w1 ⟨rfl, hb⟩
  have HB := hide hb
  clear K hb
  go_wp2_with fail
  go_ret2
  exact ⟨rfl, HB.out⟩

set_option maxHeartbeats 2000000 in
theorem desc_v4 (q : Int) (a : Option Addr) (len cap : Nat) (ns : List Int) (b : Int) (w : World) (h : isSize b) (h4 : fitB 4 [q] = false) :
    Calls Tryd.prog 18 #[.int .i64 q, .slice a len cap, .int .i64 b] w fun e w' => e = .returned (.tuple #[.slice none 0 0, .int .i64 3]) ∧ Below w.heap.size w w' := by
  have K : Hid (∀ u, Calls Tryd.prog 43 #[.int .i64 b] u fun e w' => e = .returned (.bool true) ∧ Below u.heap.size u w') := fun u => cblock_yes b u h
  have F4 : Hid (∀ u : World, Calls Tryd.prog 44 #[.int .i64 4, .slice (some ⟨u.heap.size, 0, none⟩) 1 1] (u.alloc (.cells #[.int .i64 q] 3)) fun e w' => e = .returned (.bool false) ∧ Below u.heap.size u w') :=
    fun u => fit_list 4 (.inr rfl) [q] u (by simp) _ h4
  clear h h4
  go_enter Tryd.func18, Tryd.ntmps18
  go_wp2_with fail
  go_at_call 43
  refine (unhide K _).mono ?_
  rintro e w1 ⟨rfl, hb⟩
  have HB := hide hb
  clear K hb
  go_wp2_with fail
  go_at_call 44
  refine (unhide F4 _).mono ?_
  rintro e w2 ⟨rfl, hb⟩
  replace HB := hide (bchain HB.out hb (Nat.le_refl _))
  clear F4 hb
  go_wp2_with fail
  go_ret2
  exact ⟨rfl, HB.out⟩

set_option maxHeartbeats 2000000 in
theorem desc_v2 (q : Int) (a : Option Addr) (len cap : Nat) (ns : List Int) (b : Int) (w : World) (h : isSize b) (hi : IHas w a len ns) (hl : len ≤ 17592186043904) (h4 : fitB 4 [q] = true) (h2 : fitB 2 ns = false) :
    Calls Tryd.prog 18 #[.int .i64 q, .slice a len cap, .int .i64 b] w fun e w' => e = .returned (.tuple #[.slice none 0 0, .int .i64 3]) ∧ Below w.heap.size w w' := by
  have K : Hid (∀ u, Calls Tryd.prog 43 #[.int .i64 b] u fun e w' => e = .returned (.bool true) ∧ Below u.heap.size u w') := fun u => cblock_yes b u h
  have F4 : Hid (∀ u : World, Calls Tryd.prog 44 #[.int .i64 4, .slice (some ⟨u.heap.size, 0, none⟩) 1 1] (u.alloc (.cells #[.int .i64 q] 3)) fun e w' => e = .returned (.bool true) ∧ Below u.heap.size u w') :=
    fun u => fit_list 4 (.inr rfl) [q] u (by simp) _ h4
  have F2 : Hid (∀ u : World, Below w.heap.size w u → Calls Tryd.prog 44 #[.int .i64 2, .slice a len cap] u fun e w' => e = .returned (.bool false) ∧ u = w') :=
    fun u hb => by have := fit_any 2 (.inl rfl) a len cap ns u (hi.later hb) (by omega); rwa [h2] at this
  clear h hi h4 h2
  go_enter Tryd.func18, Tryd.ntmps18
  go_wp2_with fail
  go_at_call 43
  refine (unhide K _).mono ?_
  rintro e w1 ⟨rfl, hb⟩
  have HB := hide hb
  clear K hb
  go_wp2_with fail
  go_at_call 44
  refine (unhide F4 _).mono ?_
  rintro e w2 ⟨rfl, hb⟩
  replace HB := hide (bchain HB.out hb (Nat.le_refl _))
  clear F4 hb
  go_wp2_with fail
  go_at_call 44
  refine (unhide F2 _ HB.out).mono ?_
  rintro e w' ⟨rfl, rfl⟩
  clear F2
  go_wp2_with fail
  go_ret2
  exact ⟨rfl, HB.out⟩

set_option maxHeartbeats 2000000 in
theorem desc_large (q : Int) (a : Option Addr) (len cap : Nat) (ns : List Int) (b : Int) (w : World) (h : isSize b) (hi : IHas w a len ns) (hl : len ≤ 17592186043904) (h4 : fitB 4 [q] = true) (h2 : fitB 2 ns = true) (hn : (b - 10) / 2 < (len : Int)) :
    Calls Tryd.prog 18 #[.int .i64 q, .slice a len cap, .int .i64 b] w fun e w' => e = .returned (.tuple #[.slice none 0 0, .int .i64 5]) ∧ Below w.heap.size w w' := by
  have hbd := size_bd h
  have K : Hid (∀ u, Calls Tryd.prog 43 #[.int .i64 b] u fun e w' => e = .returned (.bool true) ∧ Below u.heap.size u w') := fun u => cblock_yes b u h
  have F4 : Hid (∀ u : World, Calls Tryd.prog 44 #[.int .i64 4, .slice (some ⟨u.heap.size, 0, none⟩) 1 1] (u.alloc (.cells #[.int .i64 q] 3)) fun e w' => e = .returned (.bool true) ∧ Below u.heap.size u w') :=
    fun u => fit_list 4 (.inr rfl) [q] u (by simp) _ h4
  have F2 : Hid (∀ u : World, Below w.heap.size w u → Calls Tryd.prog 44 #[.int .i64 2, .slice a len cap] u fun e w' => e = .returned (.bool true) ∧ u = w') :=
    fun u hb => by have := fit_any 2 (.inl rfl) a len cap ns u (hi.later hb) (by omega); rwa [h2] at this
  have hq1 : decide ((len : Int) > (b - 10) / 2) = true := by simpa using hn
  have hq2 : decide ((len : Int) > Int.tdiv (b - 10) 2) = true := by rw [Int.tdiv_eq_ediv_of_nonneg (by omega)]; exact hq1
  clear h hi h4 h2 hn
  go_enter Tryd.func18, Tryd.ntmps18
  go_wp2_with fail
  go_at_call 43
  refine (unhide K _).mono ?_
  rintro e w1 ⟨rfl, hb⟩
  have HB := hide hb
  clear K hb
  go_wp2_with fail
  go_at_call 44
  refine (unhide F4 _).mono ?_
  rintro e w2 ⟨rfl, hb⟩
  replace HB := hide (bchain HB.out hb (Nat.le_refl _))
  clear F4 hb
  go_wp2_with fail
  go_at_call 44
  refine (unhide F2 _ HB.out).mono ?_
  rintro e w' ⟨rfl, rfl⟩
  clear F2
  go_wp2_with fail
  go_ret2
  exact ⟨rfl, HB.out⟩

theorem numbers_new (wd : Nat) (hw : wd = 1 ∨ wd = 2 ∨ wd = 4) (z : Int) (hf : fitB wd [z] = true) (u : World) (g : Nat) (hg : g = u.heap.size) :
    Calls Tryd.prog 37 #[.int .i64 (wd : Int), .slice (some ⟨g, 0, none⟩) 1 1] (u.alloc (.cells #[.int .i64 z] 3)) fun e w' => ∃ a c, e = .returned (.slice a wd c) ∧ Hid (Has w' a wd (numsB wd [z])) ∧ Below u.heap.size u w' := by
  subst hg
  refine (numbers_any wd hw _ 1 1 [z] _ (ihas_list u [z]) (by omega) hf wd (by simp)).mono ?_
  rintro e w' ⟨a', c', rfl, hO, hb⟩
  exact ⟨a', c', rfl, hO.out.has, bchain ((Below.refl _ u).alloc (Nat.le_refl _) _) hb (Nat.le_refl _)⟩

theorem lay_three (size : Nat) (u : World) (g : Nat) (hg : g = u.heap.size) (p0 p1 p2 : Option Addr) (n0 n1 n2 c0 c1 c2 : Nat) (x0 x1 x2 : List Int) (h0 : Has u p0 n0 x0) (h1 : Has u p1 n1 x1) (h2 : Has u p2 n2 x2) (hs : n0 + n1 + n2 ≤ size) (hsz : size ≤ 65536) :
    Calls Tryd.prog 36 #[.int .i64 (size : Int), .slice (some ⟨g, 0, none⟩) 3 3] (u.alloc (.cells #[.slice p0 n0 c0, .slice p1 n1 c1, .slice p2 n2 c2] 26)) fun e w' => ∃ g2, e = .returned (.slice (some ⟨g2, 0, none⟩) size size) ∧ Hid (Has w' (some ⟨g2, 0, none⟩) size (layB size (x0 ++ (x1 ++ x2)))) ∧ Below u.heap.size u w' := by
  subst hg
  have hp := phas_list u [(p0, n0, c0, x0), (p1, n1, c1, x1), (p2, n2, c2, x2)] (by
    intro p hp
    simp at hp
    rcases hp with rfl | rfl | rfl
    · exact h0
    · exact h1
    · exact h2)
  have hall : allP [(p0, n0, c0, x0), (p1, n1, c1, x1), (p2, n2, c2, x2)] = x0 ++ (x1 ++ x2) := by simp [allP]
  have hle : (x0 ++ (x1 ++ x2)).length ≤ size := by
    rw [List.length_append, List.length_append, h0.1, h1.1, h2.1]; omega
  refine (clay_any size _ 3 3 _ _ hp (by omega) (by rw [hall]; exact hle) (by omega)).mono ?_
  rintro e w' ⟨rfl, hB, hb⟩
  rw [hall] at hB
  exact ⟨_, rfl, hB.out.has (length_layB hle), bchain ((Below.refl _ u).alloc (Nat.le_refl _) _) hb (Nat.le_refl _)⟩

theorem lay_two (size : Nat) (u : World) (g : Nat) (hg : g = u.heap.size) (p0 p1 : Option Addr) (n0 n1 c0 c1 : Nat) (x0 x1 : List Int) (h0 : Has u p0 n0 x0) (h1 : Has u p1 n1 x1) (hs : n0 + n1 ≤ size) (hsz : size ≤ 65536) :
    Calls Tryd.prog 36 #[.int .i64 (size : Int), .slice (some ⟨g, 0, none⟩) 2 2] (u.alloc (.cells #[.slice p0 n0 c0, .slice p1 n1 c1] 26)) fun e w' => ∃ g2, e = .returned (.slice (some ⟨g2, 0, none⟩) size size) ∧ u.heap.size ≤ g2 ∧ Hid (Block w' g2 (layB size (x0 ++ x1))) ∧ Below u.heap.size u w' := by
  subst hg
  have hp := phas_list u [(p0, n0, c0, x0), (p1, n1, c1, x1)] (by
    intro p hp
    simp at hp
    rcases hp with rfl | rfl
    · exact h0
    · exact h1)
  have hall : allP [(p0, n0, c0, x0), (p1, n1, c1, x1)] = x0 ++ x1 := by simp [allP]
  have hle : (x0 ++ x1).length ≤ size := by rw [List.length_append, h0.1, h1.1]; omega
  refine (clay_any size _ 2 2 _ _ hp (by omega) (by rw [hall]; exact hle) (by omega)).mono ?_
  rintro e w' ⟨rfl, hB, hb⟩
  rw [hall] at hB
  exact ⟨_, rfl, by simp, hB.out, bchain ((Below.refl _ u).alloc (Nat.le_refl _) _) hb (Nat.le_refl _)⟩

set_option maxHeartbeats 4000000 in
theorem desc_good (q : Int) (a : Option Addr) (len cap : Nat) (ns : List Int) (b : Nat) (w : World) (h : isSize (b : Int)) (hi : IHas w a len ns) (h4 : fitB 4 [q] = true) (h2 : fitB 2 ns = true) (hn : 10 + 2 * len ≤ b) (hT : Tab w) :
    Calls Tryd.prog 18 #[.int .i64 q, .slice a len cap, .int .i64 (b : Int)] w fun e w' => ∃ g, e = .returned (.tuple #[.slice (some ⟨g, 0, none⟩) b b, .int .i64 0]) ∧ w.heap.size ≤ g ∧ Hid (Block w' g (descB b q ns)) ∧ Below w.heap.size w w' := by
  have hbd := size_bd h
  have hlen := hi.1
  have hq1 : decide ((len : Int) > ((b : Int) - 10) / 2) = false := by simp; omega
  have hq2 : decide ((len : Int) > Int.tdiv ((b : Int) - 10) 2) = false := by rw [Int.tdiv_eq_ediv_of_nonneg (by omega)]; exact hq1
  have K : Hid (∀ u, Calls Tryd.prog 43 #[.int .i64 (b : Int)] u fun e w' => e = .returned (.bool true) ∧ Below u.heap.size u w') := fun u => cblock_yes b u h
  have F4 : Hid (∀ u : World, Calls Tryd.prog 44 #[.int .i64 4, .slice (some ⟨u.heap.size, 0, none⟩) 1 1] (u.alloc (.cells #[.int .i64 q] 3)) fun e w' => e = .returned (.bool true) ∧ Below u.heap.size u w') :=
    fun u => fit_list 4 (.inr rfl) [q] u (by simp) _ h4
  have F2 : Hid (∀ u : World, Below w.heap.size w u → Calls Tryd.prog 44 #[.int .i64 2, .slice a len cap] u fun e w' => e = .returned (.bool true) ∧ u = w') :=
    fun u hb => by have := fit_any 2 (.inl rfl) a len cap ns u (hi.later hb) (by omega); rwa [h2] at this
  have N1 : Hid (∀ (u : World) (g : Nat), g = u.heap.size → Calls Tryd.prog 37 #[.int .i64 4, .slice (some ⟨g, 0, none⟩) 1 1] (u.alloc (.cells #[.int .i64 q] 3)) fun e w' => ∃ a c, e = .returned (.slice a 4 c) ∧ Hid (Has w' a 4 (numsB 4 [q])) ∧ Below u.heap.size u w') := fun u g hg => numbers_new 4 (.inr (.inr rfl)) q h4 u g hg
  have N2 : Hid (∀ (u : World) (g : Nat), g = u.heap.size → Calls Tryd.prog 37 #[.int .i64 2, .slice (some ⟨g, 0, none⟩) 1 1] (u.alloc (.cells #[.int .i64 (len : Int)] 3)) fun e w' => ∃ a c, e = .returned (.slice a 2 c) ∧ Hid (Has w' a 2 (numsB 2 [(len : Int)])) ∧ Below u.heap.size u w') := fun u g hg => numbers_new 2 (.inr (.inl rfl)) (len : Int) (by rw [fitB_iff]; intro v hv; simp at hv; omega) u g hg
  obtain ⟨M, hM⟩ : ∃ M, M = 2 * len := ⟨_, rfl⟩
  have N3 : Hid (∀ u : World, Below w.heap.size w u → Calls Tryd.prog 37 #[.int .i64 2, .slice a len cap] u fun e w' => ∃ a c, e = .returned (.slice a M c) ∧ Hid (Has w' a M (numsB 2 ns)) ∧ Below u.heap.size u w') := fun u hb => by
    refine (numbers_any 2 (.inr (.inl rfl)) a len cap ns u (hi.later hb) (by omega) h2 M hM).mono ?_
    rintro e w' ⟨a', c', rfl, hO, hb'⟩
    exact ⟨a', c', rfl, hO.out.has, hb'⟩
  obtain ⟨D, hD⟩ : ∃ D : Nat, D = b - 4 := ⟨_, rfl⟩
  have hDi : (b : Int) - 4 = (D : Int) := by omega
  have hR : layB D (numsB 4 [q] ++ (numsB 2 [(len : Int)] ++ numsB 2 ns)) = descR b q ns := by rw [descR, hD, hlen]
  have L1 : Hid (∀ (u : World) (g : Nat) (p0 p1 p2 : Option Addr) (c0 c1 c2 : Nat), g = u.heap.size → Has u p0 4 (numsB 4 [q]) → Has u p1 2 (numsB 2 [(len : Int)]) → Has u p2 M (numsB 2 ns) → Calls Tryd.prog 36 #[.int .i64 (D : Int), .slice (some ⟨g, 0, none⟩) 3 3] (u.alloc (.cells #[.slice p0 4 c0, .slice p1 2 c1, .slice p2 M c2] 26)) fun e w' => ∃ g2, e = .returned (.slice (some ⟨g2, 0, none⟩) D D) ∧ Hid (Has w' (some ⟨g2, 0, none⟩) D (descR b q ns)) ∧ Below u.heap.size u w') := fun u g p0 p1 p2 c0 c1 c2 hg x0 x1 x2 => by
    have := lay_three D u g hg p0 p1 p2 4 2 M c0 c1 c2 _ _ _ x0 x1 x2 (by omega) (by omega)
    rwa [hR] at this
  have KS : Hid (∀ u g, Below w.heap.size w u → Has u (some ⟨g, 0, none⟩) D (descR b q ns) → Calls Tryd.prog 54 #[.slice (some ⟨g, 0, none⟩) D D] u fun e w' => e = .returned (.int .i64 ((sumS (descR b q ns) : Nat) : Int)) ∧ u = w') := fun u g hb hh => sum_any _ D D _ u (hT.below hb (tab_size hT)) hh (by omega) (descR_byts b q ns)
  have hfs := fitB_sum (descR_byts b q ns)
  have HQ : Hid (descB b q ns = layB b (numsB 4 [((sumS (descR b q ns) : Nat) : Int)] ++ descR b q ns)) := by rw [numsB_one]; rfl
  generalize descR b q ns = R at *
  generalize sumS R = S at *
  have N4 : Hid (∀ (u : World) (g : Nat), g = u.heap.size → Calls Tryd.prog 37 #[.int .i64 4, .slice (some ⟨g, 0, none⟩) 1 1] (u.alloc (.cells #[.int .i64 (S : Int)] 3)) fun e w' => ∃ a c, e = .returned (.slice a 4 c) ∧ Hid (Has w' a 4 (numsB 4 [(S : Int)])) ∧ Below u.heap.size u w') := fun u g hg => numbers_new 4 (.inr (.inr rfl)) _ hfs u g hg
  have L2 : Hid (∀ (u : World) (g : Nat) (p0 p1 : Option Addr) (c0 c1 : Nat), g = u.heap.size → Has u p0 4 (numsB 4 [(S : Int)]) → Has u p1 D R → Calls Tryd.prog 36 #[.int .i64 (b : Int), .slice (some ⟨g, 0, none⟩) 2 2] (u.alloc (.cells #[.slice p0 4 c0, .slice p1 D c1] 26)) fun e w' => ∃ g2, e = .returned (.slice (some ⟨g2, 0, none⟩) b b) ∧ u.heap.size ≤ g2 ∧ Hid (Block w' g2 (descB b q ns)) ∧ Below u.heap.size u w') := fun u g p0 p1 c0 c1 hg x0 x1 => by
    have := lay_two b u g hg p0 p1 4 D c0 c1 _ _ x0 x1 (by omega) (by omega)
    rwa [← HQ.out] at this
  clear h hi h4 h2 hn hT hlen hM hD hR hfs HQ
  go_enter Tryd.func18, Tryd.ntmps18
  go_wp2_with fail
  go_at_call 43
  refine (unhide K _).mono ?_
  rintro e w1 ⟨rfl, hb⟩
  have HB := hide hb
  clear K hb
  go_wp2_with fail
  go_at_call 44
  refine (unhide F4 _).mono ?_
  rintro e w2 ⟨rfl, hb⟩
  replace HB := hide (bchain HB.out hb (Nat.le_refl _))
  clear F4 hb
  go_wp2_with fail
  go_at_call 44
  refine (unhide F2 _ HB.out).mono ?_
  rintro e w' ⟨rfl, rfl⟩
  clear F2
  go_wp2_with fail
  go_at_call 37
  refine (unhide N1 _ _ rfl).mono ?_
  rintro e w3 ⟨a3, c3, rfl, x3, hb⟩
  replace HB := hide (bchain HB.out hb (Nat.le_refl _))
  clear N1 hb
  go_wp2_with fail
  go_at_call 37
  refine (unhide N2 _ _ rfl).mono ?_
  rintro e w4 ⟨a4, c4, rfl, x4, hb⟩
  replace HB := hide (bchain HB.out hb (Nat.le_refl _))
  replace x3 := hide (x3.out.later hb)
  clear N2 hb
  go_wp2_with fail
  go_at_call 37
  refine (unhide N3 _ HB.out).mono ?_
  rintro e w5 ⟨a5, c5, rfl, x5, hb⟩
  replace HB := hide (bchain HB.out hb (Nat.le_refl _))
  replace x3 := hide (x3.out.later hb)
  replace x4 := hide (x4.out.later hb)
  clear N3 hb
  go_wp2_with fail
  go_at_call 36
  refine (unhide L1 _ _ _ _ _ _ _ _ rfl x3.out x4.out x5.out).mono ?_
  rintro e w6 ⟨g6, rfl, x6, hb⟩
  replace HB := hide (bchain HB.out hb (Nat.le_refl _))
  clear L1 hb x3 x4 x5
  go_wp2_with fail
  go_at_call 54
  refine (unhide KS _ _ HB.out x6.out).mono ?_
  rintro e w' ⟨rfl, rfl⟩
  clear KS
  go_wp2_with fail
  go_at_call 37
  refine (unhide N4 _ _ rfl).mono ?_
  rintro e w7 ⟨a7, c7, rfl, x7, hb⟩
  replace HB := hide (bchain HB.out hb (Nat.le_refl _))
  replace x6 := hide (x6.out.later hb)
  clear N4 hb
  go_wp2_with fail
  go_at_call 36
  refine (unhide L2 _ _ _ _ _ _ rfl x7.out x6.out).mono ?_
  rintro e w8 ⟨g8, rfl, hg8, x8, hb⟩
  have hg : Hid (w.heap.size ≤ g8) := Nat.le_trans HB.out.size hg8
  replace HB := hide (bchain HB.out hb (Nat.le_refl _))
  clear L2 hb x6 x7 hg8
  go_wp2_with fail
  go_ret2
  exact ⟨g8, rfl, hg.out, x8, HB.out⟩

theorem desc_value (q : Int) (a : Option Addr) (len cap : Nat) (ns : List Int) (b : Int) (w : World) (h : isSize b) (hi : IHas w a len ns) (hl : len ≤ 17592186043904) (hf : descF q ns = false) :
    Calls Tryd.prog 18 #[.int .i64 q, .slice a len cap, .int .i64 b] w fun e w' => e = .returned (.tuple #[.slice none 0 0, .int .i64 3]) ∧ Below w.heap.size w w' := by
  unfold descF at hf
  by_cases h4 : fitB 4 [q] = true
  · exact desc_v2 q a len cap ns b w h hi hl h4 (by rw [h4] at hf; simpa using hf)
  · exact desc_v4 q a len cap ns b w h (by simpa using h4)

theorem desc_err (q : Int) (a : Option Addr) (len cap : Nat) (ns : List Int) (b : Int) (w : World) (hi : IHas w a len ns) (hl : len ≤ 17592186043904) (he : descE b q ns ≠ 0) :
    Calls Tryd.prog 18 #[.int .i64 q, .slice a len cap, .int .i64 b] w fun e w' => e = .returned (.tuple #[.slice none 0 0, .int .i64 (descE b q ns)]) ∧ Below w.heap.size w w' := by
  have hlen := hi.1
  unfold descE at he ⊢
  by_cases h : isSize b
  · rw [if_pos (show (b = 64 ∨ b = 128 ∨ b = 256 ∨ b = 512 ∨ b = 1024 ∨ b = 2048 ∨ b = 4096) from h)] at he ⊢
    by_cases hf : descF q ns = true
    · rw [if_pos hf] at he ⊢
      by_cases hn : (b - 10) / 2 < (ns.length : Int)
      · rw [if_pos hn]
        unfold descF at hf
        rw [Bool.and_eq_true] at hf
        exact desc_large q a len cap ns b w h hi hl hf.1 hf.2 (by rw [← hlen]; exact hn)
      · rw [if_neg hn] at he; exact absurd rfl he
    · rw [if_neg hf]
      exact desc_value q a len cap ns b w h hi hl (by simpa using hf)
  · rw [if_neg (show ¬ (b = 64 ∨ b = 128 ∨ b = 256 ∨ b = 512 ∨ b = 1024 ∨ b = 2048 ∨ b = 4096) from h)]
    exact desc_arg q a len cap ns b w h

/-- **codec.Desc**. -/
theorem desc_ok (q : Int) (a : Option Addr) (len cap : Nat) (ns : List Int) (b : Nat) (w : World) (hi : IHas w a len ns) (hT : Tab w) (he : descE (b : Int) q ns = 0) :
    Calls Tryd.prog 18 #[.int .i64 q, .slice a len cap, .int .i64 (b : Int)] w fun e w' => ∃ g, e = .returned (.tuple #[.slice (some ⟨g, 0, none⟩) b b, .int .i64 0]) ∧ w.heap.size ≤ g ∧ Hid (Block w' g (descB b q ns)) ∧ Below w.heap.size w w' := by
  have hlen := hi.1
  unfold descE at he
  by_cases h : isSize (b : Int)
  · have hbd := size_bd h
    rw [if_pos (show ((b : Int) = 64 ∨ (b : Int) = 128 ∨ (b : Int) = 256 ∨ (b : Int) = 512 ∨ (b : Int) = 1024 ∨ (b : Int) = 2048 ∨ (b : Int) = 4096) from h)] at he
    by_cases hf : descF q ns = true
    · rw [if_pos hf] at he
      by_cases hn : ((b : Int) - 10) / 2 < (ns.length : Int)
      · rw [if_pos hn] at he; omega
      · unfold descF at hf
        rw [Bool.and_eq_true] at hf
        exact desc_good q a len cap ns b w h hi hf.1 hf.2 (by omega) hT
    · rw [if_neg hf] at he; omega
  · rw [if_neg (show ¬ ((b : Int) = 64 ∨ (b : Int) = 128 ∨ (b : Int) = 256 ∨ (b : Int) = 512 ∨ (b : Int) = 1024 ∨ (b : Int) = 2048 ∨ (b : Int) = 4096) from h)] at he; omega

end Go.Proofs.YtmdkcoenjadieaaDoor
