/- Joined: CIno, CIno2. -/
import Derived.Test.YtmdkcoenjadieaaDoorWCEq
/- Contracts of codec.isKind and codec.Inode. -/
namespace Go.Proofs.YtmdkcoenjadieaaDoor
open Go.RowKit Go.Shelf
set_option linter.unusedVariables false
set_option maxRecDepth 100000

/-- The zero inode. -/
def zeroX : Nat → Int := fun _ => 0

/-- Is it a kind of inode? -/
def kindB (k : Int) : Bool := decide (k = 0) || decide (k = 1) || decide (k = 2)

set_option maxHeartbeats 2000000 in
theorem isKind_any (k : Int) (w : World) : Calls Tryd.prog 63 #[.int .i64 k] w fun e w' => e = .returned (.bool (kindB k)) ∧ w = w' := by
  obtain ⟨b, hb⟩ : ∃ b, kindB k = b := ⟨_, rfl⟩
  rw [hb]
  unfold kindB at hb
  by_cases h0 : k = 0
  · subst h0
    obtain rfl : b = true := by rw [← hb]; rfl
    clear hb
    go_enter Tryd.func63, Tryd.ntmps63
    go_wp2
    go_ret
    exact ⟨rfl, rfl⟩
  · by_cases h1 : k = 1
    · subst h1
      obtain rfl : b = true := by rw [← hb]; rfl
      clear hb h0
      go_enter Tryd.func63, Tryd.ntmps63
      go_wp2
      go_ret
      exact ⟨rfl, rfl⟩
    · by_cases h2 : k = 2
      · subst h2
        obtain rfl : b = true := by rw [← hb]; rfl
        clear hb h0 h1
        go_enter Tryd.func63, Tryd.ntmps63
        go_wp2
        go_ret
        exact ⟨rfl, rfl⟩
      · obtain rfl : b = false := by rw [← hb]; simp [h0, h1, h2]
        have d0 : (k == 0) = false := by simpa using h0
        have d1 : (k == 1) = false := by simpa using h1
        have d2 : (k == 2) = false := by simpa using h2
        clear hb h0 h1 h2
        go_enter Tryd.func63, Tryd.ntmps63
        go_wp2
        go_ret
        exact ⟨rfl, rfl⟩

theorem fit_lst (wd : Nat) (hw : wd = 2 ∨ wd = 4) (ns : List Int) (u : World) (hl : ns.length ≤ 1000) (r : Bool) (hr : fitB wd ns = r) :
    Calls Tryd.prog 44 #[.int .i64 (wd : Int), .slice (some ⟨u.heap.size, 0, none⟩) ns.length ns.length] (u.alloc (.cells (ns.map (Value.int .i64)).toArray 3)) fun e w' => e = .returned (.bool r) ∧ Below u.heap.size u w' := by
  subst hr
  refine (fit_any wd hw _ ns.length ns.length ns _ (ihas_list u ns) (by omega)).mono ?_
  rintro e w' ⟨rfl, rfl⟩
  exact ⟨rfl, (Below.refl _ u).alloc (Nat.le_refl _) _⟩

/-- An inode's blocks. -/
def dirs (X : Nat → Int) : List Int := [X 3, X 4, X 5, X 6, X 7, X 8, X 9, X 10]

theorem dirs_has {w u : World} {X : Nat → Int} (h : Bx w (Ic X) u) : IHas u (some ⟨w.heap.size, 3, none⟩) 8 (dirs X) := by
  refine ⟨rfl, fun _ => ⟨w.heap.size, 3, rfl, fun j hj => ?_⟩⟩
  have : j = 0 ∨ j = 1 ∨ j = 2 ∨ j = 3 ∨ j = 4 ∨ j = 5 ∨ j = 6 ∨ j = 7 := by omega
  rcases this with rfl | rfl | rfl | rfl | rfl | rfl | rfl | rfl
  all_goals exact h.1 _ _ rfl

theorem fit_dirs {w u : World} {X : Nat → Int} (h : Bx w (Ic X) u) (r : Bool) (hr : fitB 2 (dirs X) = r) :
    Calls Tryd.prog 44 #[.int .i64 2, .slice (some ⟨w.heap.size, 3, none⟩) 8 8] u fun e w' => e = .returned (.bool r) ∧ u = w' := by
  subst hr
  exact fit_any 2 (.inl rfl) _ 8 8 (dirs X) u (dirs_has h) (by omega)

/-- Is it an inode that can't be? -/
def inoBad (X : Nat → Int) : Bool := !kindB (X 0) || (X 0 == 0 && !inoSame X zeroX)

/-- Do its numbers fit? -/
def inoF (X : Nat → Int) : Bool := fitB 4 [X 2] && fitB 2 [X 1, X 11, X 12] && fitB 2 (dirs X)

/-- An inode's bytes, but the last four. -/
def inoL (X : Nat → Int) : List Int := numsB 1 [X 0, 0] ++ (numsB 2 [X 1] ++ (numsB 4 [X 2] ++ (numsB 2 (dirs X) ++ numsB 2 [X 11, X 12])))

theorem inoL_length (X : Nat → Int) : (inoL X).length = 28 := by simp [inoL, length_numsB, dirs]

theorem inoL_byts (X : Nat → Int) : ∀ z ∈ inoL X, 0 ≤ z ∧ z ≤ 255 := by
  intro z hz
  simp only [inoL, List.mem_append] at hz
  rcases hz with hz | hz | hz | hz | hz
  all_goals exact numsB_byte _ _ z hz

set_option maxHeartbeats 800000 in
theorem inode_kind (X : Nat → Int) (w : World) (hk : kindB (X 0) = false) :
    Calls Tryd.prog 27 #[Iv X] w fun e w' => e = .returned (.tuple #[.slice none 0 0, .int .i64 4]) ∧ Below w.heap.size w w' := by
  have HK := hide (Bx.start w (Ic X) 55)
  have KK : Hid (∀ u, Calls Tryd.prog 63 #[.int .i64 (X 0)] u fun e w' => e = .returned (.bool false) ∧ Below u.heap.size u w') := fun u => (isKind_any (X 0) u).mono fun e w' ⟨h1, h2⟩ => ⟨by rw [h1, hk], h2 ▸ Below.refl _ _⟩
  clear hk
  go_enter Tryd.func27, Tryd.ntmps27
  go_wp2_with fail
  go_at_call 63
  refine (unhide KK _).mono ?_
  rintro e w1 ⟨rfl, hb⟩
  replace HK := hide ((unhide HK).call hb)
  clear KK hb
  go_wp2_with fail
  go_ret2
  exact ⟨rfl, HK.out.2.1⟩

set_option maxHeartbeats 800000 in
theorem inode_free (X : Nat → Int) (w : World) (h0 : X 0 = 0) (hs : inoSame X zeroX = false) :
    Calls Tryd.prog 27 #[Iv X] w fun e w' => e = .returned (.tuple #[.slice none 0 0, .int .i64 4]) ∧ Below w.heap.size w w' := by
  have HK := hide (Bx.start w (Ic X) 55)
  have hk : kindB (X 0) = true := by rw [h0]; rfl
  have KK : Hid (∀ u, Calls Tryd.prog 63 #[.int .i64 (X 0)] u fun e w' => e = .returned (.bool true) ∧ Below u.heap.size u w') := fun u => (isKind_any (X 0) u).mono fun e w' ⟨h1, h2⟩ => ⟨by rw [h1, hk], h2 ▸ Below.refl _ _⟩
  have hq : ∀ u : World, (binOp .neq 55 (Iv X) (.agg Iz)).run Tryd.prog u = .ok (.bool true) u := fun u => by
    have := neq_inode X zeroX u
    rw [hs] at this
    exact this
  have h0' : (X 0 == 0) = true := by simpa using h0
  clear hk hs h0
  go_enter Tryd.func27, Tryd.ntmps27
  go_wp2_with fail
  go_at_call 63
  refine (unhide KK _).mono ?_
  rintro e w1 ⟨rfl, hb⟩
  replace HK := hide ((unhide HK).call hb)
  clear KK hb
  have f0 := HK.out.1 0 _ rfl
  have f1 := HK.out.1 1 _ rfl
  have f2 := HK.out.1 2 _ rfl
  have f3 := HK.out.1 3 _ rfl
  have f4 := HK.out.1 4 _ rfl
  have f5 := HK.out.1 5 _ rfl
  have f6 := HK.out.1 6 _ rfl
  have f7 := HK.out.1 7 _ rfl
  have f8 := HK.out.1 8 _ rfl
  have f9 := HK.out.1 9 _ rfl
  have f10 := HK.out.1 10 _ rfl
  have f11 := HK.out.1 11 _ rfl
  have f12 := HK.out.1 12 _ rfl
  go_wp2_with fail
  go_ret2
  exact ⟨rfl, HK.out.2.1⟩

set_option maxHeartbeats 800000 in
theorem inode_v4 (X : Nat → Int) (w : World) (hk : kindB (X 0) = true) (h0 : (X 0 == 0) = false) (h4 : fitB 4 [X 2] = false) :
    Calls Tryd.prog 27 #[Iv X] w fun e w' => e = .returned (.tuple #[.slice none 0 0, .int .i64 3]) ∧ Below w.heap.size w w' := by
  have HK := hide (Bx.start w (Ic X) 55)
  have KK : Hid (∀ u, Calls Tryd.prog 63 #[.int .i64 (X 0)] u fun e w' => e = .returned (.bool true) ∧ Below u.heap.size u w') := fun u => (isKind_any (X 0) u).mono fun e w' ⟨h1, h2⟩ => ⟨by rw [h1, hk], h2 ▸ Below.refl _ _⟩
  have F4 : Hid (∀ u : World, Calls Tryd.prog 44 #[.int .i64 4, .slice (some ⟨u.heap.size, 0, none⟩) 1 1] (u.alloc (.cells #[.int .i64 (X 2)] 3)) fun e w' => e = .returned (.bool false) ∧ Below u.heap.size u w') :=
    fun u => fit_lst 4 (.inr rfl) [X 2] u (by simp) _ h4
  clear hk h4
  go_enter Tryd.func27, Tryd.ntmps27
  go_wp2_with fail
  go_at_call 63
  refine (unhide KK _).mono ?_
  rintro e w1 ⟨rfl, hb⟩
  replace HK := hide ((unhide HK).call hb)
  clear KK hb
  have f0 := HK.out.1 0 _ rfl
  have f2 := HK.out.1 2 _ rfl
  go_wp2_with fail
  go_at_call 44
  refine (unhide F4 _).mono ?_
  rintro e w2 ⟨rfl, hb⟩
  replace HK := hide ((unhide HK).call hb)
  clear hb F4 f0 f2
  go_wp2_with fail
  go_ret2
  exact ⟨rfl, HK.out.2.1⟩

set_option maxHeartbeats 800000 in
theorem inode_v2 (X : Nat → Int) (w : World) (hk : kindB (X 0) = true) (h0 : (X 0 == 0) = false) (h4 : fitB 4 [X 2] = true) (h2 : fitB 2 [X 1, X 11, X 12] = false) :
    Calls Tryd.prog 27 #[Iv X] w fun e w' => e = .returned (.tuple #[.slice none 0 0, .int .i64 3]) ∧ Below w.heap.size w w' := by
  have HK := hide (Bx.start w (Ic X) 55)
  have KK : Hid (∀ u, Calls Tryd.prog 63 #[.int .i64 (X 0)] u fun e w' => e = .returned (.bool true) ∧ Below u.heap.size u w') := fun u => (isKind_any (X 0) u).mono fun e w' ⟨h1, h2⟩ => ⟨by rw [h1, hk], h2 ▸ Below.refl _ _⟩
  have F4 : Hid (∀ u : World, Calls Tryd.prog 44 #[.int .i64 4, .slice (some ⟨u.heap.size, 0, none⟩) 1 1] (u.alloc (.cells #[.int .i64 (X 2)] 3)) fun e w' => e = .returned (.bool true) ∧ Below u.heap.size u w') :=
    fun u => fit_lst 4 (.inr rfl) [X 2] u (by simp) _ h4
  have F2 : Hid (∀ u : World, Calls Tryd.prog 44 #[.int .i64 2, .slice (some ⟨u.heap.size, 0, none⟩) 3 3] (u.alloc (.cells #[.int .i64 (X 1), .int .i64 (X 11), .int .i64 (X 12)] 3)) fun e w' => e = .returned (.bool false) ∧ Below u.heap.size u w') :=
    fun u => fit_lst 2 (.inl rfl) [X 1, X 11, X 12] u (by simp) _ h2
  clear hk h4 h2
  go_enter Tryd.func27, Tryd.ntmps27
  go_wp2_with fail
  go_at_call 63
  refine (unhide KK _).mono ?_
  rintro e w1 ⟨rfl, hb⟩
  replace HK := hide ((unhide HK).call hb)
  clear KK hb
  have f0 := HK.out.1 0 _ rfl
  have f2 := HK.out.1 2 _ rfl
  go_wp2_with fail
  go_at_call 44
  refine (unhide F4 _).mono ?_
  rintro e w2 ⟨rfl, hb⟩
  replace HK := hide ((unhide HK).call hb)
  clear hb F4 f0 f2
  have f1 := HK.out.1 1 _ rfl
  have f11 := HK.out.1 11 _ rfl
  have f12 := HK.out.1 12 _ rfl
  go_wp2_with fail
  go_at_call 44
  refine (unhide F2 _).mono ?_
  rintro e w3 ⟨rfl, hb⟩
  replace HK := hide ((unhide HK).call hb)
  clear hb F2 f1 f11 f12
  go_wp2_with fail
  go_ret2
  exact ⟨rfl, HK.out.2.1⟩

set_option maxHeartbeats 800000 in
theorem inode_v8 (X : Nat → Int) (w : World) (hk : kindB (X 0) = true) (h0 : (X 0 == 0) = false) (h4 : fitB 4 [X 2] = true) (h2 : fitB 2 [X 1, X 11, X 12] = true) (h8 : fitB 2 (dirs X) = false) :
    Calls Tryd.prog 27 #[Iv X] w fun e w' => e = .returned (.tuple #[.slice none 0 0, .int .i64 3]) ∧ Below w.heap.size w w' := by
  have HK := hide (Bx.start w (Ic X) 55)
  have KK : Hid (∀ u, Calls Tryd.prog 63 #[.int .i64 (X 0)] u fun e w' => e = .returned (.bool true) ∧ Below u.heap.size u w') := fun u => (isKind_any (X 0) u).mono fun e w' ⟨h1, h2⟩ => ⟨by rw [h1, hk], h2 ▸ Below.refl _ _⟩
  have F4 : Hid (∀ u : World, Calls Tryd.prog 44 #[.int .i64 4, .slice (some ⟨u.heap.size, 0, none⟩) 1 1] (u.alloc (.cells #[.int .i64 (X 2)] 3)) fun e w' => e = .returned (.bool true) ∧ Below u.heap.size u w') :=
    fun u => fit_lst 4 (.inr rfl) [X 2] u (by simp) _ h4
  have F2 : Hid (∀ u : World, Calls Tryd.prog 44 #[.int .i64 2, .slice (some ⟨u.heap.size, 0, none⟩) 3 3] (u.alloc (.cells #[.int .i64 (X 1), .int .i64 (X 11), .int .i64 (X 12)] 3)) fun e w' => e = .returned (.bool true) ∧ Below u.heap.size u w') :=
    fun u => fit_lst 2 (.inl rfl) [X 1, X 11, X 12] u (by simp) _ h2
  have F8 : Hid (∀ u : World, Bx w (Ic X) u → Calls Tryd.prog 44 #[.int .i64 2, .slice (some ⟨w.heap.size, 3, none⟩) 8 8] u fun e w' => e = .returned (.bool false) ∧ u = w') :=
    fun u hB => fit_dirs hB _ h8
  clear hk h4 h2 h8
  go_enter Tryd.func27, Tryd.ntmps27
  go_wp2_with fail
  go_at_call 63
  refine (unhide KK _).mono ?_
  rintro e w1 ⟨rfl, hb⟩
  replace HK := hide ((unhide HK).call hb)
  clear KK hb
  have f0 := HK.out.1 0 _ rfl
  have f2 := HK.out.1 2 _ rfl
  go_wp2_with fail
  go_at_call 44
  refine (unhide F4 _).mono ?_
  rintro e w2 ⟨rfl, hb⟩
  replace HK := hide ((unhide HK).call hb)
  clear hb F4 f0 f2
  have f1 := HK.out.1 1 _ rfl
  have f11 := HK.out.1 11 _ rfl
  have f12 := HK.out.1 12 _ rfl
  go_wp2_with fail
  go_at_call 44
  refine (unhide F2 _).mono ?_
  rintro e w3 ⟨rfl, hb⟩
  replace HK := hide ((unhide HK).call hb)
  clear hb F2 f1 f11 f12
  go_wp2_with fail
  go_at_call 44
  refine (unhide F8 _ HK.out).mono ?_
  rintro e w' ⟨rfl, rfl⟩
  clear F8
  go_wp2_with fail
  go_ret2
  exact ⟨rfl, HK.out.2.1⟩

end Go.Proofs.YtmdkcoenjadieaaDoor

/- Contract of codec.Inode: the bytes. -/
namespace Go.Proofs.YtmdkcoenjadieaaDoor
open Go.RowKit Go.Shelf
set_option linter.unusedVariables false
set_option maxRecDepth 100000

theorem fit_a {x y z : Int} (h : fitB 2 [x, y, z] = true) : fitB 2 [x] = true := by
  rw [fitB_iff] at h ⊢
  exact fun v hv => h v (by simp at hv ⊢; exact .inl hv)

theorem fit_b {x y z : Int} (h : fitB 2 [x, y, z] = true) : fitB 2 [y, z] = true := by
  rw [fitB_iff] at h ⊢
  exact fun v hv => h v (by simp at hv ⊢; exact .inr hv)

theorem kind_fit {k : Int} (h : kindB k = true) : fitB 1 [k, 0] = true := by
  rw [fitB_iff]
  intro v hv
  simp [kindB] at h
  simp at hv
  omega

set_option maxHeartbeats 8000000 in
theorem inode_good (X : Nat → Int) (w : World) (hk : kindB (X 0) = true) (h0 : (X 0 == 0) = false) (h4 : fitB 4 [X 2] = true) (h2 : fitB 2 [X 1, X 11, X 12] = true) (h8 : fitB 2 (dirs X) = true) :
    Calls Tryd.prog 27 #[Iv X] w fun e w' => ∃ a c, e = .returned (.tuple #[.slice a 32 c, .int .i64 0]) ∧ Hid (Has w' a 32 (layB 32 (inoL X)) ∧ 32 ≤ c ∧ c ≤ 9223372036854775807) ∧ Below w.heap.size w w' := by
  have HK := hide (Bx.start w (Ic X) 55)
  have KK : Hid (∀ u, Calls Tryd.prog 63 #[.int .i64 (X 0)] u fun e w' => e = .returned (.bool true) ∧ Below u.heap.size u w') := fun u => (isKind_any (X 0) u).mono fun e w' ⟨h1, h2⟩ => ⟨by rw [h1, hk], h2 ▸ Below.refl _ _⟩
  have F4 : Hid (∀ u : World, Calls Tryd.prog 44 #[.int .i64 4, .slice (some ⟨u.heap.size, 0, none⟩) 1 1] (u.alloc (.cells #[.int .i64 (X 2)] 3)) fun e w' => e = .returned (.bool true) ∧ Below u.heap.size u w') :=
    fun u => fit_lst 4 (.inr rfl) [X 2] u (by simp) _ h4
  have F2 : Hid (∀ u : World, Calls Tryd.prog 44 #[.int .i64 2, .slice (some ⟨u.heap.size, 0, none⟩) 3 3] (u.alloc (.cells #[.int .i64 (X 1), .int .i64 (X 11), .int .i64 (X 12)] 3)) fun e w' => e = .returned (.bool true) ∧ Below u.heap.size u w') :=
    fun u => fit_lst 2 (.inl rfl) [X 1, X 11, X 12] u (by simp) _ h2
  have F8 : Hid (∀ u : World, Bx w (Ic X) u → Calls Tryd.prog 44 #[.int .i64 2, .slice (some ⟨w.heap.size, 3, none⟩) 8 8] u fun e w' => e = .returned (.bool true) ∧ u = w') :=
    fun u hB => fit_dirs hB _ h8
  have HH := hide hk
  have H4 := hide h4
  have H2 := hide h2
  have H8 := hide h8
  clear hk h4 h2 h8
  go_enter Tryd.func27, Tryd.ntmps27
  go_wp2_with fail
  go_at_call 63
  refine (unhide KK _).mono ?_
  rintro e w1 ⟨rfl, hb⟩
  replace HK := hide ((unhide HK).call hb)
  clear KK hb
  have f0 := HK.out.1 0 _ rfl
  have f2 := HK.out.1 2 _ rfl
  go_wp2_with fail
  go_at_call 44
  refine (unhide F4 _).mono ?_
  rintro e w2 ⟨rfl, hb⟩
  replace HK := hide ((unhide HK).call hb)
  clear hb F4 f0 f2
  have f1 := HK.out.1 1 _ rfl
  have f11 := HK.out.1 11 _ rfl
  have f12 := HK.out.1 12 _ rfl
  go_wp2_with fail
  go_at_call 44
  refine (unhide F2 _).mono ?_
  rintro e w3 ⟨rfl, hb⟩
  replace HK := hide ((unhide HK).call hb)
  clear hb F2 f1 f11 f12
  go_wp2_with fail
  go_at_call 44
  refine (unhide F8 _ HK.out).mono ?_
  rintro e w' ⟨rfl, rfl⟩
  clear F8
  go_upto_region 5 with fail
  go_cut [2, 3] (fun c q wx => ∃ a0 c0, c = .slice a0 32 c0 ∧ q = .int .i64 0 ∧ Hid (Has wx a0 32 (layB 32 (inoL X)) ∧ 32 ≤ c0 ∧ c0 ≤ 9223372036854775807) ∧ Hid (Bx w (Ic X) wx))
  case first =>
    refine wp_region_sp (by kernel_rfl) w.heap.size [spVal (.pointer (some ⟨w.heap.size, 0, none⟩)), spVal (.int .i64 (X 0)), spInts [X 0, 0], spBytes 2 (numsB 1 [X 0, 0]), spVal (.pointer (some ⟨w.heap.size, 1, none⟩)), spVal (.int .i64 (X 1)), spInts [X 1], spBytes 2 (numsB 2 [X 1]), spVal (.pointer (some ⟨w.heap.size, 2, none⟩)), spVal (.int .i64 (X 2)), spInts [X 2], spBytes 4 (numsB 4 [X 2]), spVal (.pointer (some ⟨w.heap.size, 3, none⟩)), spInts (dirs X), spBytes 16 (numsB 2 (dirs X)), spVal (.pointer (some ⟨w.heap.size, 11, none⟩)), spVal (.int .i64 (X 11)), spVal (.pointer (some ⟨w.heap.size, 12, none⟩)), spVal (.int .i64 (X 12)), spInts [X 11, X 12], spBytes 4 (numsB 2 [X 11, X 12]), spParts 5 (inoL X), spBytes 32 (layB 32 (inoL X)), spBytes 32 (layB 32 (inoL X)), spVal (.int .i64 0)] ?_ (by kernel_rfl) (by kernel_rfl) ?_ ?_
    · intro S hS
      simp only [List.mem_cons, List.not_mem_nil, or_false] at hS
      rcases hS with rfl | rfl | rfl | rfl | rfl | rfl | rfl | rfl | rfl | rfl | rfl | rfl | rfl | rfl | rfl | rfl | rfl | rfl | rfl | rfl | rfl | rfl | rfl | rfl | rfl <;> first | exact mono_val _ _ | exact mono_bytes _ _ _ | exact mono_lit _ _ | exact mono_ints _ _ | exact mono_parts _ _ _
    · intro i o a u hi hF hA hG
      have hB := HK.out.drew.grw hG
      have hn : w.heap.size ≤ u.heap.size := hB.2.1.size
      have tb : a.tmps[1]?.getD undef = .pointer (some ⟨w.heap.size, 0, none⟩) := fr_at hF 1 (by kernel_rfl)
      have hlt := (Array.getElem?_eq_some_iff.1 hi).1
      have hcs : i = 0 ∨ i = 1 ∨ i = 2 ∨ i = 3 ∨ i = 4 ∨ i = 5 ∨ i = 6 ∨ i = 7 ∨ i = 8 ∨ i = 9 ∨ i = 10 ∨ i = 11 ∨ i = 12 ∨ i = 13 ∨ i = 14 ∨ i = 15 ∨ i = 16 ∨ i = 17 ∨ i = 18 ∨ i = 19 ∨ i = 20 ∨ i = 21 ∨ i = 22 ∨ i = 23 ∨ i = 24 := by simp at hlt; omega
      clear hlt
      rcases hcs with rfl | rfl | rfl | rfl | rfl | rfl | rfl | rfl | rfl | rfl | rfl | rfl | rfl | rfl | rfl | rfl | rfl | rfl | rfl | rfl | rfl | rfl | rfl | rfl | rfl
      · have ho := Option.some.inj hi; subst ho
        have h0 := tb
        refine st_val (w' := u) rfl rfl (.pointer (some ⟨w.heap.size, 0, none⟩)) ?_ rfl (Grw.refl _ _)
        simp [execOp, Act.eval, h0, go_sem]
      · have ho := Option.some.inj hi; subst ho
        have h0 : a.tmps[40]?.getD undef = .pointer (some ⟨w.heap.size, 0, none⟩) := ahead_at hA 0 40 (by kernel_rfl) rfl
        have f0 := hB.1 0 _ rfl
        refine st_val (w' := u) rfl rfl (.int .i64 (X 0)) ?_ rfl (Grw.refl _ _)
        simp [execOp, Act.eval, h0, f0, go_sem]
      · have ho := Option.some.inj hi; subst ho
        have h0 : a.tmps[41]?.getD undef = .int .i64 (X 0) := ahead_at hA 1 41 (by kernel_rfl) rfl
        refine st_val (w' := u.alloc (.cells ([X 0, 0].map (Value.int .i64)).toArray 3)) rfl rfl (.slice (some ⟨u.heap.size, 0, none⟩) 2 2) ?_ ⟨_, _, rfl, ihas_list u [X 0, 0]⟩ (Grw.alloc _ _ _ hn)
        simp [execOp, Act.eval, h0, go_sem]
      · have ho := Option.some.inj hi; subst ho
        have h0 : spInts [X 0, 0] (a.tmps[42]?.getD undef) u := ahead_at hA 2 42 (by kernel_rfl) rfl
        refine st_call rfl rfl 37 #[.int .i64 (1 : Nat), a.tmps[42]?.getD undef] ?_ hn (numbers_sp 1 (.inl rfl) [X 0, 0] _ u h0 (by first | (simp; done) | simp [dirs]) (kind_fit HH.out) 2 rfl)
        simp [execOp, Act.eval, go_sem]
      · have ho := Option.some.inj hi; subst ho
        have h0 := tb
        refine st_val (w' := u) rfl rfl (.pointer (some ⟨w.heap.size, 1, none⟩)) ?_ rfl (Grw.refl _ _)
        simp [execOp, Act.eval, h0, go_sem]
      · have ho := Option.some.inj hi; subst ho
        have h0 : a.tmps[44]?.getD undef = .pointer (some ⟨w.heap.size, 1, none⟩) := ahead_at hA 4 44 (by kernel_rfl) rfl
        have f0 := hB.1 1 _ rfl
        refine st_val (w' := u) rfl rfl (.int .i64 (X 1)) ?_ rfl (Grw.refl _ _)
        simp [execOp, Act.eval, h0, f0, go_sem]
      · have ho := Option.some.inj hi; subst ho
        have h0 : a.tmps[45]?.getD undef = .int .i64 (X 1) := ahead_at hA 5 45 (by kernel_rfl) rfl
        refine st_val (w' := u.alloc (.cells ([X 1].map (Value.int .i64)).toArray 3)) rfl rfl (.slice (some ⟨u.heap.size, 0, none⟩) 1 1) ?_ ⟨_, _, rfl, ihas_list u [X 1]⟩ (Grw.alloc _ _ _ hn)
        simp [execOp, Act.eval, h0, go_sem]
      · have ho := Option.some.inj hi; subst ho
        have h0 : spInts [X 1] (a.tmps[46]?.getD undef) u := ahead_at hA 6 46 (by kernel_rfl) rfl
        refine st_call rfl rfl 37 #[.int .i64 (2 : Nat), a.tmps[46]?.getD undef] ?_ hn (numbers_sp 2 (.inr (.inl rfl)) [X 1] _ u h0 (by first | (simp; done) | simp [dirs]) (fit_a H2.out) 2 rfl)
        simp [execOp, Act.eval, go_sem]
      · have ho := Option.some.inj hi; subst ho
        have h0 := tb
        refine st_val (w' := u) rfl rfl (.pointer (some ⟨w.heap.size, 2, none⟩)) ?_ rfl (Grw.refl _ _)
        simp [execOp, Act.eval, h0, go_sem]
      · have ho := Option.some.inj hi; subst ho
        have h0 : a.tmps[48]?.getD undef = .pointer (some ⟨w.heap.size, 2, none⟩) := ahead_at hA 8 48 (by kernel_rfl) rfl
        have f0 := hB.1 2 _ rfl
        refine st_val (w' := u) rfl rfl (.int .i64 (X 2)) ?_ rfl (Grw.refl _ _)
        simp [execOp, Act.eval, h0, f0, go_sem]
      · have ho := Option.some.inj hi; subst ho
        have h0 : a.tmps[49]?.getD undef = .int .i64 (X 2) := ahead_at hA 9 49 (by kernel_rfl) rfl
        refine st_val (w' := u.alloc (.cells ([X 2].map (Value.int .i64)).toArray 3)) rfl rfl (.slice (some ⟨u.heap.size, 0, none⟩) 1 1) ?_ ⟨_, _, rfl, ihas_list u [X 2]⟩ (Grw.alloc _ _ _ hn)
        simp [execOp, Act.eval, h0, go_sem]
      · have ho := Option.some.inj hi; subst ho
        have h0 : spInts [X 2] (a.tmps[50]?.getD undef) u := ahead_at hA 10 50 (by kernel_rfl) rfl
        refine st_call rfl rfl 37 #[.int .i64 (4 : Nat), a.tmps[50]?.getD undef] ?_ hn (numbers_sp 4 (.inr (.inr rfl)) [X 2] _ u h0 (by first | (simp; done) | simp [dirs]) H4.out 4 rfl)
        simp [execOp, Act.eval, go_sem]
      · have ho := Option.some.inj hi; subst ho
        have h0 := tb
        refine st_val (w' := u) rfl rfl (.pointer (some ⟨w.heap.size, 3, none⟩)) ?_ rfl (Grw.refl _ _)
        simp [execOp, Act.eval, h0, go_sem]
      · have ho := Option.some.inj hi; subst ho
        have h0 : a.tmps[52]?.getD undef = .pointer (some ⟨w.heap.size, 3, none⟩) := ahead_at hA 12 52 (by kernel_rfl) rfl
        refine st_val (w' := u) rfl rfl (.slice (some ⟨w.heap.size, 3, none⟩) 8 8) ?_ ⟨_, _, rfl, dirs_has hB⟩ (Grw.refl _ _)
        simp [execOp, Act.eval, h0, go_sem]
      · have ho := Option.some.inj hi; subst ho
        have h0 : spInts (dirs X) (a.tmps[53]?.getD undef) u := ahead_at hA 13 53 (by kernel_rfl) rfl
        refine st_call rfl rfl 37 #[.int .i64 (2 : Nat), a.tmps[53]?.getD undef] ?_ hn (numbers_sp 2 (.inr (.inl rfl)) (dirs X) _ u h0 (by first | (simp; done) | simp [dirs]) H8.out 16 rfl)
        simp [execOp, Act.eval, go_sem]
      · have ho := Option.some.inj hi; subst ho
        have h0 := tb
        refine st_val (w' := u) rfl rfl (.pointer (some ⟨w.heap.size, 11, none⟩)) ?_ rfl (Grw.refl _ _)
        simp [execOp, Act.eval, h0, go_sem]
      · have ho := Option.some.inj hi; subst ho
        have h0 : a.tmps[55]?.getD undef = .pointer (some ⟨w.heap.size, 11, none⟩) := ahead_at hA 15 55 (by kernel_rfl) rfl
        have f0 := hB.1 11 _ rfl
        refine st_val (w' := u) rfl rfl (.int .i64 (X 11)) ?_ rfl (Grw.refl _ _)
        simp [execOp, Act.eval, h0, f0, go_sem]
      · have ho := Option.some.inj hi; subst ho
        have h0 := tb
        refine st_val (w' := u) rfl rfl (.pointer (some ⟨w.heap.size, 12, none⟩)) ?_ rfl (Grw.refl _ _)
        simp [execOp, Act.eval, h0, go_sem]
      · have ho := Option.some.inj hi; subst ho
        have h0 : a.tmps[57]?.getD undef = .pointer (some ⟨w.heap.size, 12, none⟩) := ahead_at hA 17 57 (by kernel_rfl) rfl
        have f0 := hB.1 12 _ rfl
        refine st_val (w' := u) rfl rfl (.int .i64 (X 12)) ?_ rfl (Grw.refl _ _)
        simp [execOp, Act.eval, h0, f0, go_sem]
      · have ho := Option.some.inj hi; subst ho
        have h0 : a.tmps[56]?.getD undef = .int .i64 (X 11) := ahead_at hA 16 56 (by kernel_rfl) rfl
        have h1 : a.tmps[58]?.getD undef = .int .i64 (X 12) := ahead_at hA 18 58 (by kernel_rfl) rfl
        refine st_val (w' := u.alloc (.cells ([X 11, X 12].map (Value.int .i64)).toArray 3)) rfl rfl (.slice (some ⟨u.heap.size, 0, none⟩) 2 2) ?_ ⟨_, _, rfl, ihas_list u [X 11, X 12]⟩ (Grw.alloc _ _ _ hn)
        simp [execOp, Act.eval, h0, h1, go_sem]
      · have ho := Option.some.inj hi; subst ho
        have h0 : spInts [X 11, X 12] (a.tmps[59]?.getD undef) u := ahead_at hA 19 59 (by kernel_rfl) rfl
        refine st_call rfl rfl 37 #[.int .i64 (2 : Nat), a.tmps[59]?.getD undef] ?_ hn (numbers_sp 2 (.inr (.inl rfl)) [X 11, X 12] _ u h0 (by first | (simp; done) | simp [dirs]) (fit_b H2.out) 4 rfl)
        simp [execOp, Act.eval, go_sem]
      · have ho := Option.some.inj hi; subst ho
        obtain ⟨p0, c0, e0, b0, _, _⟩ : spBytes 2 (numsB 1 [X 0, 0]) (a.tmps[43]?.getD undef) u := ahead_at hA 3 43 (by kernel_rfl) rfl
        obtain ⟨p1, c1, e1, b1, _, _⟩ : spBytes 2 (numsB 2 [X 1]) (a.tmps[47]?.getD undef) u := ahead_at hA 7 47 (by kernel_rfl) rfl
        obtain ⟨p2, c2, e2, b2, _, _⟩ : spBytes 4 (numsB 4 [X 2]) (a.tmps[51]?.getD undef) u := ahead_at hA 11 51 (by kernel_rfl) rfl
        obtain ⟨p3, c3, e3, b3, _, _⟩ : spBytes 16 (numsB 2 (dirs X)) (a.tmps[54]?.getD undef) u := ahead_at hA 14 54 (by kernel_rfl) rfl
        obtain ⟨p4, c4, e4, b4, _, _⟩ : spBytes 4 (numsB 2 [X 11, X 12]) (a.tmps[60]?.getD undef) u := ahead_at hA 20 60 (by kernel_rfl) rfl
        have hp := phas_list u [(p0, 2, c0, (numsB 1 [X 0, 0])), (p1, 2, c1, (numsB 2 [X 1])), (p2, 4, c2, (numsB 4 [X 2])), (p3, 16, c3, (numsB 2 (dirs X))), (p4, 4, c4, (numsB 2 [X 11, X 12]))] (by
          intro p hp
          simp only [List.mem_cons, List.not_mem_nil, or_false] at hp
          rcases hp with rfl | rfl | rfl | rfl | rfl
          · exact b0
          · exact b1
          · exact b2
          · exact b3
          · exact b4)
        refine st_val (w' := u.alloc (.cells ([(p0, 2, c0, (numsB 1 [X 0, 0])), (p1, 2, c1, (numsB 2 [X 1])), (p2, 4, c2, (numsB 4 [X 2])), (p3, 16, c3, (numsB 2 (dirs X))), (p4, 4, c4, (numsB 2 [X 11, X 12]))].map pv).toArray 26)) rfl rfl (.slice (some ⟨u.heap.size, 0, none⟩) 5 5) ?_ ⟨_, _, _, rfl, hp, by simp [allP, inoL]⟩ (Grw.alloc _ _ _ hn)
        simp [execOp, Act.eval, e0, e1, e2, e3, e4, go_sem]
        all_goals rfl
      · have ho := Option.some.inj hi; subst ho
        have h0 : spParts 5 (inoL X) (a.tmps[61]?.getD undef) u := ahead_at hA 21 61 (by kernel_rfl) rfl
        refine st_call rfl rfl 36 #[.int .i64 ((32 : Nat) : Int), a.tmps[61]?.getD undef] ?_ hn ((lay_sp (32) 5 (inoL X) _ u h0 (by omega) (by rw [inoL_length]; omega) (by omega) (inoL_byts X)).mono fun e w' ⟨v, e1, h1, h2⟩ => ⟨v, e1, h1.1, h2⟩)
        simp [execOp, Act.eval, go_sem]
      · have ho := Option.some.inj hi; subst ho
        have h0 : spBytes 32 (layB 32 (inoL X)) (a.tmps[62]?.getD undef) u := ahead_at hA 22 62 (by kernel_rfl) rfl
        refine st_val (w' := u) rfl rfl (a.tmps[62]?.getD undef) ?_ h0 (Grw.refl _ _)
        simp [execOp, Act.eval, go_sem]
      · have ho := Option.some.inj hi; subst ho
        refine st_val (w' := u) rfl rfl (.int .i64 0) ?_ rfl (Grw.refl _ _)
        simp [execOp, Act.eval, go_sem]
    · intro a u hF hR hG
      have q0 := fr_at hF 0 (by kernel_rfl)
      have q1 := fr_at hF 1 (by kernel_rfl)
      obtain ⟨r0, r1, r2, r3, r4, r5⟩ : spBytes 32 (layB 32 (inoL X)) (a.tmps[2]?.getD undef) u := by have := hR 23 _ 2 rfl rfl; rwa [Array.getD_eq_getD_getElem?] at this
      obtain p3 : a.tmps[3]?.getD undef = (.int .i64 0) := by have := hR 24 _ 3 rfl rfl; rwa [Array.getD_eq_getD_getElem?] at this
      have hB := HK.out.drew.grw hG
      obtain ⟨tm, df⟩ := a
      obtain ⟨hs, hdf, _⟩ := hF
      have hs' : tm.size = 63 := hs
      have hdf' : df = [] := hdf
      subst hdf'
      have he : tm = #[tm[0]?.getD undef, tm[1]?.getD undef, tm[2]?.getD undef, tm[3]?.getD undef, tm[4]?.getD undef, tm[5]?.getD undef, tm[6]?.getD undef, tm[7]?.getD undef, tm[8]?.getD undef, tm[9]?.getD undef, tm[10]?.getD undef, tm[11]?.getD undef, tm[12]?.getD undef, tm[13]?.getD undef, tm[14]?.getD undef, tm[15]?.getD undef, tm[16]?.getD undef, tm[17]?.getD undef, tm[18]?.getD undef, tm[19]?.getD undef, tm[20]?.getD undef, tm[21]?.getD undef, tm[22]?.getD undef, tm[23]?.getD undef, tm[24]?.getD undef, tm[25]?.getD undef, tm[26]?.getD undef, tm[27]?.getD undef, tm[28]?.getD undef, tm[29]?.getD undef, tm[30]?.getD undef, tm[31]?.getD undef, tm[32]?.getD undef, tm[33]?.getD undef, tm[34]?.getD undef, tm[35]?.getD undef, tm[36]?.getD undef, tm[37]?.getD undef, tm[38]?.getD undef, tm[39]?.getD undef, tm[40]?.getD undef, tm[41]?.getD undef, tm[42]?.getD undef, tm[43]?.getD undef, tm[44]?.getD undef, tm[45]?.getD undef, tm[46]?.getD undef, tm[47]?.getD undef, tm[48]?.getD undef, tm[49]?.getD undef, tm[50]?.getD undef, tm[51]?.getD undef, tm[52]?.getD undef, tm[53]?.getD undef, tm[54]?.getD undef, tm[55]?.getD undef, tm[56]?.getD undef, tm[57]?.getD undef, tm[58]?.getD undef, tm[59]?.getD undef, tm[60]?.getD undef, tm[61]?.getD undef, tm[62]?.getD undef] := tmps_eq tm 63 hs'
      simp at q0
      simp at q1
      rw [he]
      simp only [q0, q1, r2, p3]
      clear he hR hG hs hs' hdf q0 q1 r2 p3
      go_wp2_with fail
      go_meet
      exact ⟨r0, r1, rfl, rfl, ⟨r3, r5.1, r5.2⟩, hB⟩
  case rest =>
    obtain ⟨a0, c0, rfl, rfl, hh, hB⟩ := hcut
    clear HK
    go_wp2_with fail
    go_ret2
    exact ⟨a0, c0, rfl, hh, hB.out.2.1⟩

set_option maxHeartbeats 8000000 in
theorem inode_zero (X : Nat → Int) (w : World) (hk : kindB (X 0) = true) (h0 : (X 0 == 0) = true) (hs : inoSame X zeroX = true) (h4 : fitB 4 [X 2] = true) (h2 : fitB 2 [X 1, X 11, X 12] = true) (h8 : fitB 2 (dirs X) = true) :
    Calls Tryd.prog 27 #[Iv X] w fun e w' => ∃ a c, e = .returned (.tuple #[.slice a 32 c, .int .i64 0]) ∧ Hid (Has w' a 32 (layB 32 (inoL X)) ∧ 32 ≤ c ∧ c ≤ 9223372036854775807) ∧ Below w.heap.size w w' := by
  have HK := hide (Bx.start w (Ic X) 55)
  have KK : Hid (∀ u, Calls Tryd.prog 63 #[.int .i64 (X 0)] u fun e w' => e = .returned (.bool true) ∧ Below u.heap.size u w') := fun u => (isKind_any (X 0) u).mono fun e w' ⟨h1, h2⟩ => ⟨by rw [h1, hk], h2 ▸ Below.refl _ _⟩
  have F4 : Hid (∀ u : World, Calls Tryd.prog 44 #[.int .i64 4, .slice (some ⟨u.heap.size, 0, none⟩) 1 1] (u.alloc (.cells #[.int .i64 (X 2)] 3)) fun e w' => e = .returned (.bool true) ∧ Below u.heap.size u w') :=
    fun u => fit_lst 4 (.inr rfl) [X 2] u (by simp) _ h4
  have F2 : Hid (∀ u : World, Calls Tryd.prog 44 #[.int .i64 2, .slice (some ⟨u.heap.size, 0, none⟩) 3 3] (u.alloc (.cells #[.int .i64 (X 1), .int .i64 (X 11), .int .i64 (X 12)] 3)) fun e w' => e = .returned (.bool true) ∧ Below u.heap.size u w') :=
    fun u => fit_lst 2 (.inl rfl) [X 1, X 11, X 12] u (by simp) _ h2
  have F8 : Hid (∀ u : World, Bx w (Ic X) u → Calls Tryd.prog 44 #[.int .i64 2, .slice (some ⟨w.heap.size, 3, none⟩) 8 8] u fun e w' => e = .returned (.bool true) ∧ u = w') :=
    fun u hB => fit_dirs hB _ h8
  have HH := hide hk
  have H4 := hide h4
  have H2 := hide h2
  have H8 := hide h8
  clear hk h4 h2 h8
  have hq : ∀ u : World, (binOp .neq 55 (Iv X) (.agg Iz)).run Tryd.prog u = .ok (.bool false) u := fun u => by
    have := neq_inode X zeroX u
    rw [hs] at this
    exact this
  clear hs
  go_enter Tryd.func27, Tryd.ntmps27
  go_wp2_with fail
  go_at_call 63
  refine (unhide KK _).mono ?_
  rintro e w1 ⟨rfl, hb⟩
  replace HK := hide ((unhide HK).call hb)
  clear KK hb
  have f0 := HK.out.1 0 _ rfl
  have f1 := HK.out.1 1 _ rfl
  have f2 := HK.out.1 2 _ rfl
  have f3 := HK.out.1 3 _ rfl
  have f4 := HK.out.1 4 _ rfl
  have f5 := HK.out.1 5 _ rfl
  have f6 := HK.out.1 6 _ rfl
  have f7 := HK.out.1 7 _ rfl
  have f8 := HK.out.1 8 _ rfl
  have f9 := HK.out.1 9 _ rfl
  have f10 := HK.out.1 10 _ rfl
  have f11 := HK.out.1 11 _ rfl
  have f12 := HK.out.1 12 _ rfl
  go_upto_region 3 with fail
  clear f0 f1 f2 f3 f4 f5 f6 f7 f8 f9 f10 f11 f12
  clear hq
  have f0 := HK.out.1 0 _ rfl
  have f2 := HK.out.1 2 _ rfl
  go_wp2_with fail
  go_at_call 44
  refine (unhide F4 _).mono ?_
  rintro e w2 ⟨rfl, hb⟩
  replace HK := hide ((unhide HK).call hb)
  clear hb F4 f0 f2
  have f1 := HK.out.1 1 _ rfl
  have f11 := HK.out.1 11 _ rfl
  have f12 := HK.out.1 12 _ rfl
  go_wp2_with fail
  go_at_call 44
  refine (unhide F2 _).mono ?_
  rintro e w3 ⟨rfl, hb⟩
  replace HK := hide ((unhide HK).call hb)
  clear hb F2 f1 f11 f12
  go_wp2_with fail
  go_at_call 44
  refine (unhide F8 _ HK.out).mono ?_
  rintro e w' ⟨rfl, rfl⟩
  clear F8
  go_upto_region 5 with fail
  go_cut [2, 3] (fun c q wx => ∃ a0 c0, c = .slice a0 32 c0 ∧ q = .int .i64 0 ∧ Hid (Has wx a0 32 (layB 32 (inoL X)) ∧ 32 ≤ c0 ∧ c0 ≤ 9223372036854775807) ∧ Hid (Bx w (Ic X) wx))
  case first =>
    refine wp_region_sp (by kernel_rfl) w.heap.size [spVal (.pointer (some ⟨w.heap.size, 0, none⟩)), spVal (.int .i64 (X 0)), spInts [X 0, 0], spBytes 2 (numsB 1 [X 0, 0]), spVal (.pointer (some ⟨w.heap.size, 1, none⟩)), spVal (.int .i64 (X 1)), spInts [X 1], spBytes 2 (numsB 2 [X 1]), spVal (.pointer (some ⟨w.heap.size, 2, none⟩)), spVal (.int .i64 (X 2)), spInts [X 2], spBytes 4 (numsB 4 [X 2]), spVal (.pointer (some ⟨w.heap.size, 3, none⟩)), spInts (dirs X), spBytes 16 (numsB 2 (dirs X)), spVal (.pointer (some ⟨w.heap.size, 11, none⟩)), spVal (.int .i64 (X 11)), spVal (.pointer (some ⟨w.heap.size, 12, none⟩)), spVal (.int .i64 (X 12)), spInts [X 11, X 12], spBytes 4 (numsB 2 [X 11, X 12]), spParts 5 (inoL X), spBytes 32 (layB 32 (inoL X)), spBytes 32 (layB 32 (inoL X)), spVal (.int .i64 0)] ?_ (by kernel_rfl) (by kernel_rfl) ?_ ?_
    · intro S hS
      simp only [List.mem_cons, List.not_mem_nil, or_false] at hS
      rcases hS with rfl | rfl | rfl | rfl | rfl | rfl | rfl | rfl | rfl | rfl | rfl | rfl | rfl | rfl | rfl | rfl | rfl | rfl | rfl | rfl | rfl | rfl | rfl | rfl | rfl <;> first | exact mono_val _ _ | exact mono_bytes _ _ _ | exact mono_lit _ _ | exact mono_ints _ _ | exact mono_parts _ _ _
    · intro i o a u hi hF hA hG
      have hB := HK.out.drew.grw hG
      have hn : w.heap.size ≤ u.heap.size := hB.2.1.size
      have tb : a.tmps[1]?.getD undef = .pointer (some ⟨w.heap.size, 0, none⟩) := fr_at hF 1 (by kernel_rfl)
      have hlt := (Array.getElem?_eq_some_iff.1 hi).1
      have hcs : i = 0 ∨ i = 1 ∨ i = 2 ∨ i = 3 ∨ i = 4 ∨ i = 5 ∨ i = 6 ∨ i = 7 ∨ i = 8 ∨ i = 9 ∨ i = 10 ∨ i = 11 ∨ i = 12 ∨ i = 13 ∨ i = 14 ∨ i = 15 ∨ i = 16 ∨ i = 17 ∨ i = 18 ∨ i = 19 ∨ i = 20 ∨ i = 21 ∨ i = 22 ∨ i = 23 ∨ i = 24 := by simp at hlt; omega
      clear hlt
      rcases hcs with rfl | rfl | rfl | rfl | rfl | rfl | rfl | rfl | rfl | rfl | rfl | rfl | rfl | rfl | rfl | rfl | rfl | rfl | rfl | rfl | rfl | rfl | rfl | rfl | rfl
      · have ho := Option.some.inj hi; subst ho
        have h0 := tb
        refine st_val (w' := u) rfl rfl (.pointer (some ⟨w.heap.size, 0, none⟩)) ?_ rfl (Grw.refl _ _)
        simp [execOp, Act.eval, h0, go_sem]
      · have ho := Option.some.inj hi; subst ho
        have h0 : a.tmps[40]?.getD undef = .pointer (some ⟨w.heap.size, 0, none⟩) := ahead_at hA 0 40 (by kernel_rfl) rfl
        have f0 := hB.1 0 _ rfl
        refine st_val (w' := u) rfl rfl (.int .i64 (X 0)) ?_ rfl (Grw.refl _ _)
        simp [execOp, Act.eval, h0, f0, go_sem]
      · have ho := Option.some.inj hi; subst ho
        have h0 : a.tmps[41]?.getD undef = .int .i64 (X 0) := ahead_at hA 1 41 (by kernel_rfl) rfl
        refine st_val (w' := u.alloc (.cells ([X 0, 0].map (Value.int .i64)).toArray 3)) rfl rfl (.slice (some ⟨u.heap.size, 0, none⟩) 2 2) ?_ ⟨_, _, rfl, ihas_list u [X 0, 0]⟩ (Grw.alloc _ _ _ hn)
        simp [execOp, Act.eval, h0, go_sem]
      · have ho := Option.some.inj hi; subst ho
        have h0 : spInts [X 0, 0] (a.tmps[42]?.getD undef) u := ahead_at hA 2 42 (by kernel_rfl) rfl
        refine st_call rfl rfl 37 #[.int .i64 (1 : Nat), a.tmps[42]?.getD undef] ?_ hn (numbers_sp 1 (.inl rfl) [X 0, 0] _ u h0 (by first | (simp; done) | simp [dirs]) (kind_fit HH.out) 2 rfl)
        simp [execOp, Act.eval, go_sem]
      · have ho := Option.some.inj hi; subst ho
        have h0 := tb
        refine st_val (w' := u) rfl rfl (.pointer (some ⟨w.heap.size, 1, none⟩)) ?_ rfl (Grw.refl _ _)
        simp [execOp, Act.eval, h0, go_sem]
      · have ho := Option.some.inj hi; subst ho
        have h0 : a.tmps[44]?.getD undef = .pointer (some ⟨w.heap.size, 1, none⟩) := ahead_at hA 4 44 (by kernel_rfl) rfl
        have f0 := hB.1 1 _ rfl
        refine st_val (w' := u) rfl rfl (.int .i64 (X 1)) ?_ rfl (Grw.refl _ _)
        simp [execOp, Act.eval, h0, f0, go_sem]
      · have ho := Option.some.inj hi; subst ho
        have h0 : a.tmps[45]?.getD undef = .int .i64 (X 1) := ahead_at hA 5 45 (by kernel_rfl) rfl
        refine st_val (w' := u.alloc (.cells ([X 1].map (Value.int .i64)).toArray 3)) rfl rfl (.slice (some ⟨u.heap.size, 0, none⟩) 1 1) ?_ ⟨_, _, rfl, ihas_list u [X 1]⟩ (Grw.alloc _ _ _ hn)
        simp [execOp, Act.eval, h0, go_sem]
      · have ho := Option.some.inj hi; subst ho
        have h0 : spInts [X 1] (a.tmps[46]?.getD undef) u := ahead_at hA 6 46 (by kernel_rfl) rfl
        refine st_call rfl rfl 37 #[.int .i64 (2 : Nat), a.tmps[46]?.getD undef] ?_ hn (numbers_sp 2 (.inr (.inl rfl)) [X 1] _ u h0 (by first | (simp; done) | simp [dirs]) (fit_a H2.out) 2 rfl)
        simp [execOp, Act.eval, go_sem]
      · have ho := Option.some.inj hi; subst ho
        have h0 := tb
        refine st_val (w' := u) rfl rfl (.pointer (some ⟨w.heap.size, 2, none⟩)) ?_ rfl (Grw.refl _ _)
        simp [execOp, Act.eval, h0, go_sem]
      · have ho := Option.some.inj hi; subst ho
        have h0 : a.tmps[48]?.getD undef = .pointer (some ⟨w.heap.size, 2, none⟩) := ahead_at hA 8 48 (by kernel_rfl) rfl
        have f0 := hB.1 2 _ rfl
        refine st_val (w' := u) rfl rfl (.int .i64 (X 2)) ?_ rfl (Grw.refl _ _)
        simp [execOp, Act.eval, h0, f0, go_sem]
      · have ho := Option.some.inj hi; subst ho
        have h0 : a.tmps[49]?.getD undef = .int .i64 (X 2) := ahead_at hA 9 49 (by kernel_rfl) rfl
        refine st_val (w' := u.alloc (.cells ([X 2].map (Value.int .i64)).toArray 3)) rfl rfl (.slice (some ⟨u.heap.size, 0, none⟩) 1 1) ?_ ⟨_, _, rfl, ihas_list u [X 2]⟩ (Grw.alloc _ _ _ hn)
        simp [execOp, Act.eval, h0, go_sem]
      · have ho := Option.some.inj hi; subst ho
        have h0 : spInts [X 2] (a.tmps[50]?.getD undef) u := ahead_at hA 10 50 (by kernel_rfl) rfl
        refine st_call rfl rfl 37 #[.int .i64 (4 : Nat), a.tmps[50]?.getD undef] ?_ hn (numbers_sp 4 (.inr (.inr rfl)) [X 2] _ u h0 (by first | (simp; done) | simp [dirs]) H4.out 4 rfl)
        simp [execOp, Act.eval, go_sem]
      · have ho := Option.some.inj hi; subst ho
        have h0 := tb
        refine st_val (w' := u) rfl rfl (.pointer (some ⟨w.heap.size, 3, none⟩)) ?_ rfl (Grw.refl _ _)
        simp [execOp, Act.eval, h0, go_sem]
      · have ho := Option.some.inj hi; subst ho
        have h0 : a.tmps[52]?.getD undef = .pointer (some ⟨w.heap.size, 3, none⟩) := ahead_at hA 12 52 (by kernel_rfl) rfl
        refine st_val (w' := u) rfl rfl (.slice (some ⟨w.heap.size, 3, none⟩) 8 8) ?_ ⟨_, _, rfl, dirs_has hB⟩ (Grw.refl _ _)
        simp [execOp, Act.eval, h0, go_sem]
      · have ho := Option.some.inj hi; subst ho
        have h0 : spInts (dirs X) (a.tmps[53]?.getD undef) u := ahead_at hA 13 53 (by kernel_rfl) rfl
        refine st_call rfl rfl 37 #[.int .i64 (2 : Nat), a.tmps[53]?.getD undef] ?_ hn (numbers_sp 2 (.inr (.inl rfl)) (dirs X) _ u h0 (by first | (simp; done) | simp [dirs]) H8.out 16 rfl)
        simp [execOp, Act.eval, go_sem]
      · have ho := Option.some.inj hi; subst ho
        have h0 := tb
        refine st_val (w' := u) rfl rfl (.pointer (some ⟨w.heap.size, 11, none⟩)) ?_ rfl (Grw.refl _ _)
        simp [execOp, Act.eval, h0, go_sem]
      · have ho := Option.some.inj hi; subst ho
        have h0 : a.tmps[55]?.getD undef = .pointer (some ⟨w.heap.size, 11, none⟩) := ahead_at hA 15 55 (by kernel_rfl) rfl
        have f0 := hB.1 11 _ rfl
        refine st_val (w' := u) rfl rfl (.int .i64 (X 11)) ?_ rfl (Grw.refl _ _)
        simp [execOp, Act.eval, h0, f0, go_sem]
      · have ho := Option.some.inj hi; subst ho
        have h0 := tb
        refine st_val (w' := u) rfl rfl (.pointer (some ⟨w.heap.size, 12, none⟩)) ?_ rfl (Grw.refl _ _)
        simp [execOp, Act.eval, h0, go_sem]
      · have ho := Option.some.inj hi; subst ho
        have h0 : a.tmps[57]?.getD undef = .pointer (some ⟨w.heap.size, 12, none⟩) := ahead_at hA 17 57 (by kernel_rfl) rfl
        have f0 := hB.1 12 _ rfl
        refine st_val (w' := u) rfl rfl (.int .i64 (X 12)) ?_ rfl (Grw.refl _ _)
        simp [execOp, Act.eval, h0, f0, go_sem]
      · have ho := Option.some.inj hi; subst ho
        have h0 : a.tmps[56]?.getD undef = .int .i64 (X 11) := ahead_at hA 16 56 (by kernel_rfl) rfl
        have h1 : a.tmps[58]?.getD undef = .int .i64 (X 12) := ahead_at hA 18 58 (by kernel_rfl) rfl
        refine st_val (w' := u.alloc (.cells ([X 11, X 12].map (Value.int .i64)).toArray 3)) rfl rfl (.slice (some ⟨u.heap.size, 0, none⟩) 2 2) ?_ ⟨_, _, rfl, ihas_list u [X 11, X 12]⟩ (Grw.alloc _ _ _ hn)
        simp [execOp, Act.eval, h0, h1, go_sem]
      · have ho := Option.some.inj hi; subst ho
        have h0 : spInts [X 11, X 12] (a.tmps[59]?.getD undef) u := ahead_at hA 19 59 (by kernel_rfl) rfl
        refine st_call rfl rfl 37 #[.int .i64 (2 : Nat), a.tmps[59]?.getD undef] ?_ hn (numbers_sp 2 (.inr (.inl rfl)) [X 11, X 12] _ u h0 (by first | (simp; done) | simp [dirs]) (fit_b H2.out) 4 rfl)
        simp [execOp, Act.eval, go_sem]
      · have ho := Option.some.inj hi; subst ho
        obtain ⟨p0, c0, e0, b0, _, _⟩ : spBytes 2 (numsB 1 [X 0, 0]) (a.tmps[43]?.getD undef) u := ahead_at hA 3 43 (by kernel_rfl) rfl
        obtain ⟨p1, c1, e1, b1, _, _⟩ : spBytes 2 (numsB 2 [X 1]) (a.tmps[47]?.getD undef) u := ahead_at hA 7 47 (by kernel_rfl) rfl
        obtain ⟨p2, c2, e2, b2, _, _⟩ : spBytes 4 (numsB 4 [X 2]) (a.tmps[51]?.getD undef) u := ahead_at hA 11 51 (by kernel_rfl) rfl
        obtain ⟨p3, c3, e3, b3, _, _⟩ : spBytes 16 (numsB 2 (dirs X)) (a.tmps[54]?.getD undef) u := ahead_at hA 14 54 (by kernel_rfl) rfl
        obtain ⟨p4, c4, e4, b4, _, _⟩ : spBytes 4 (numsB 2 [X 11, X 12]) (a.tmps[60]?.getD undef) u := ahead_at hA 20 60 (by kernel_rfl) rfl
        have hp := phas_list u [(p0, 2, c0, (numsB 1 [X 0, 0])), (p1, 2, c1, (numsB 2 [X 1])), (p2, 4, c2, (numsB 4 [X 2])), (p3, 16, c3, (numsB 2 (dirs X))), (p4, 4, c4, (numsB 2 [X 11, X 12]))] (by
          intro p hp
          simp only [List.mem_cons, List.not_mem_nil, or_false] at hp
          rcases hp with rfl | rfl | rfl | rfl | rfl
          · exact b0
          · exact b1
          · exact b2
          · exact b3
          · exact b4)
        refine st_val (w' := u.alloc (.cells ([(p0, 2, c0, (numsB 1 [X 0, 0])), (p1, 2, c1, (numsB 2 [X 1])), (p2, 4, c2, (numsB 4 [X 2])), (p3, 16, c3, (numsB 2 (dirs X))), (p4, 4, c4, (numsB 2 [X 11, X 12]))].map pv).toArray 26)) rfl rfl (.slice (some ⟨u.heap.size, 0, none⟩) 5 5) ?_ ⟨_, _, _, rfl, hp, by simp [allP, inoL]⟩ (Grw.alloc _ _ _ hn)
        simp [execOp, Act.eval, e0, e1, e2, e3, e4, go_sem]
        all_goals rfl
      · have ho := Option.some.inj hi; subst ho
        have h0 : spParts 5 (inoL X) (a.tmps[61]?.getD undef) u := ahead_at hA 21 61 (by kernel_rfl) rfl
        refine st_call rfl rfl 36 #[.int .i64 ((32 : Nat) : Int), a.tmps[61]?.getD undef] ?_ hn ((lay_sp (32) 5 (inoL X) _ u h0 (by omega) (by rw [inoL_length]; omega) (by omega) (inoL_byts X)).mono fun e w' ⟨v, e1, h1, h2⟩ => ⟨v, e1, h1.1, h2⟩)
        simp [execOp, Act.eval, go_sem]
      · have ho := Option.some.inj hi; subst ho
        have h0 : spBytes 32 (layB 32 (inoL X)) (a.tmps[62]?.getD undef) u := ahead_at hA 22 62 (by kernel_rfl) rfl
        refine st_val (w' := u) rfl rfl (a.tmps[62]?.getD undef) ?_ h0 (Grw.refl _ _)
        simp [execOp, Act.eval, go_sem]
      · have ho := Option.some.inj hi; subst ho
        refine st_val (w' := u) rfl rfl (.int .i64 0) ?_ rfl (Grw.refl _ _)
        simp [execOp, Act.eval, go_sem]
    · intro a u hF hR hG
      have q0 := fr_at hF 0 (by kernel_rfl)
      have q1 := fr_at hF 1 (by kernel_rfl)
      obtain ⟨r0, r1, r2, r3, r4, r5⟩ : spBytes 32 (layB 32 (inoL X)) (a.tmps[2]?.getD undef) u := by have := hR 23 _ 2 rfl rfl; rwa [Array.getD_eq_getD_getElem?] at this
      obtain p3 : a.tmps[3]?.getD undef = (.int .i64 0) := by have := hR 24 _ 3 rfl rfl; rwa [Array.getD_eq_getD_getElem?] at this
      have hB := HK.out.drew.grw hG
      obtain ⟨tm, df⟩ := a
      obtain ⟨hs, hdf, _⟩ := hF
      have hs' : tm.size = 63 := hs
      have hdf' : df = [] := hdf
      subst hdf'
      have he : tm = #[tm[0]?.getD undef, tm[1]?.getD undef, tm[2]?.getD undef, tm[3]?.getD undef, tm[4]?.getD undef, tm[5]?.getD undef, tm[6]?.getD undef, tm[7]?.getD undef, tm[8]?.getD undef, tm[9]?.getD undef, tm[10]?.getD undef, tm[11]?.getD undef, tm[12]?.getD undef, tm[13]?.getD undef, tm[14]?.getD undef, tm[15]?.getD undef, tm[16]?.getD undef, tm[17]?.getD undef, tm[18]?.getD undef, tm[19]?.getD undef, tm[20]?.getD undef, tm[21]?.getD undef, tm[22]?.getD undef, tm[23]?.getD undef, tm[24]?.getD undef, tm[25]?.getD undef, tm[26]?.getD undef, tm[27]?.getD undef, tm[28]?.getD undef, tm[29]?.getD undef, tm[30]?.getD undef, tm[31]?.getD undef, tm[32]?.getD undef, tm[33]?.getD undef, tm[34]?.getD undef, tm[35]?.getD undef, tm[36]?.getD undef, tm[37]?.getD undef, tm[38]?.getD undef, tm[39]?.getD undef, tm[40]?.getD undef, tm[41]?.getD undef, tm[42]?.getD undef, tm[43]?.getD undef, tm[44]?.getD undef, tm[45]?.getD undef, tm[46]?.getD undef, tm[47]?.getD undef, tm[48]?.getD undef, tm[49]?.getD undef, tm[50]?.getD undef, tm[51]?.getD undef, tm[52]?.getD undef, tm[53]?.getD undef, tm[54]?.getD undef, tm[55]?.getD undef, tm[56]?.getD undef, tm[57]?.getD undef, tm[58]?.getD undef, tm[59]?.getD undef, tm[60]?.getD undef, tm[61]?.getD undef, tm[62]?.getD undef] := tmps_eq tm 63 hs'
      simp at q0
      simp at q1
      rw [he]
      simp only [q0, q1, r2, p3]
      clear he hR hG hs hs' hdf q0 q1 r2 p3
      go_wp2_with fail
      go_meet
      exact ⟨r0, r1, rfl, rfl, ⟨r3, r5.1, r5.2⟩, hB⟩
  case rest =>
    obtain ⟨a0, c0, rfl, rfl, hh, hB⟩ := hcut
    clear HK
    go_wp2_with fail
    go_ret2
    exact ⟨a0, c0, rfl, hh, hB.out.2.1⟩

/-- **codec.Inode**. -/
theorem inode_bad (X : Nat → Int) (w : World) (h : inoBad X = true) : Calls Tryd.prog 27 #[Iv X] w fun e w' => e = .returned (.tuple #[.slice none 0 0, .int .i64 4]) ∧ Below w.heap.size w w' := by
  unfold inoBad at h
  by_cases hk : kindB (X 0) = true
  · rw [hk] at h
    simp at h
    exact inode_free X w h.1 h.2
  · exact inode_kind X w (by simpa using hk)

theorem zero_fits {X : Nat → Int} (h : inoSame X zeroX = true) : inoF X = true := by
  rw [inoSame_iff] at h
  have e : ∀ k, k < 13 → X k = 0 := fun k hk => h k hk
  simp [inoF, dirs, fitB, e]

theorem inode_value (X : Nat → Int) (w : World) (h : inoBad X = false) (hf : inoF X = false) : Calls Tryd.prog 27 #[Iv X] w fun e w' => e = .returned (.tuple #[.slice none 0 0, .int .i64 3]) ∧ Below w.heap.size w w' := by
  unfold inoBad at h
  simp only [Bool.or_eq_false_iff, Bool.not_eq_false', Bool.and_eq_false_iff] at h
  obtain ⟨hk, h0⟩ := h
  have h0 : (X 0 == 0) = false := by
    rcases h0 with h0 | h0
    · exact h0
    · rw [zero_fits h0] at hf
      cases hf
  unfold inoF at hf
  by_cases h4 : fitB 4 [X 2] = true
  · by_cases h2 : fitB 2 [X 1, X 11, X 12] = true
    · exact inode_v8 X w hk h0 h4 h2 (by rw [h4, h2] at hf; simpa using hf)
    · exact inode_v2 X w hk h0 h4 (by simpa using h2)
  · exact inode_v4 X w hk h0 (by simpa using h4)

theorem inode_ok (X : Nat → Int) (w : World) (h : inoBad X = false) (hf : inoF X = true) : Calls Tryd.prog 27 #[Iv X] w fun e w' => ∃ a c, e = .returned (.tuple #[.slice a 32 c, .int .i64 0]) ∧ Hid (Has w' a 32 (layB 32 (inoL X)) ∧ 32 ≤ c ∧ c ≤ 9223372036854775807) ∧ Below w.heap.size w w' := by
  unfold inoBad at h
  simp only [Bool.or_eq_false_iff, Bool.not_eq_false', Bool.and_eq_false_iff] at h
  obtain ⟨hk, h0⟩ := h
  unfold inoF at hf
  simp only [Bool.and_eq_true] at hf
  obtain ⟨⟨h4, h2⟩, h8⟩ := hf
  rcases h0 with h0 | h0
  · exact inode_good X w hk h0 h4 h2 h8
  · by_cases h1 : (X 0 == 0) = true
    · exact inode_zero X w hk h1 h0 h4 h2 h8
    · exact inode_good X w hk (by simpa using h1) h4 h2 h8

end Go.Proofs.YtmdkcoenjadieaaDoor

