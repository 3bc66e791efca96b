/- The contracts of full and wakes; a law's state. -/
import Derived.Test.YtpkhllpghjldhaaKAll
import Derived.Test.YtpkhllpghjldhaaDNew
import Derived.Test.YtpkhllpghjldhaaGSame
namespace Go.Proofs.Ytpkhllpghjldhaa
open Go.RowKit Go.Shelf
set_option linter.unusedVariables false

/-- A block of one byte. -/
def fl (x : Int) : List Int := List.replicate 64 x

theorem fl_len (x : Int) : (fl x).length = 64 := by simp [fl]

theorem fl_byt {x : Int} (h0 : 0 ≤ x) (h1 : x ≤ 255) : ∀ z ∈ fl x, 0 ≤ z ∧ z ≤ 255 := fun z hz => by
  have := List.eq_of_mem_replicate hz
  omega

theorem fl_set (x : Int) (k : Nat) (hk : k < 64) : (List.replicate k x ++ List.replicate (64 - k) 0).set k x = List.replicate (k + 1) x ++ List.replicate (64 - (k + 1)) 0 := by
  rw [List.set_append_right _ _ (by simp), List.length_replicate, Nat.sub_self, show 64 - k = (64 - (k + 1)) + 1 by omega, List.replicate_succ, List.set_cons_zero, List.replicate_succ', List.append_assoc]
  rfl

theorem full_any (x : Int) (w : World) :
    Calls Try.prog 11 #[.int .u8 x] w fun e w' => e = .returned (.slice (some ⟨w.heap.size, 0, none⟩) 64 64) ∧ Block w' w.heap.size (fl x) ∧ Below w.heap.size w w' := by
  have hmk : ∀ w : World, (Instr.makeSlice 36 (.int .i64 64) (.int .i64 64)).run Try.prog w = .ok (.slice (some ⟨w.heap.size, 0, none⟩) 64 64) (w.alloc (.cells (madeCells #[.int .u8 0] 64) 5)) := run_make_row' (P := Try.prog) 36 5 (.int .u8 0) 1 Try.underlying36 info5 rfl .i64 .i64 64 (by omega) (by omega)
  have B0 : Hid (Below w.heap.size w (w.alloc (.cells (madeCells #[.int .u8 0] 64) 5))) := (Below.refl _ w).alloc (Nat.le_refl _) _
  have I0 := hide (show Block (w.alloc (.cells (madeCells #[.int .u8 0] 64) 5)) w.heap.size (List.replicate 0 x ++ List.replicate (64 - 0) 0) by
    unfold Block
    rw [World.alloc_heap_new, ← Array.toArray_toList (xs := madeCells #[.int .u8 0] 64), toList_madeCells_one]
    simp)
  go_enter Try.func11, Try.ntmps11
  go_upto_region 3 with fail
  change Code.wp _ _ _ _ (w.alloc (.cells (madeCells #[.int .u8 0] 64) 5))
  generalize w.alloc (.cells (madeCells #[.int .u8 0] 64) 5) = w1 at *
  clear hmk
  go_loopw [4] (fun i wr => ∃ k : Nat, k ≤ 64 ∧ i = .int .i64 (k : Int) ∧ Hid (Block wr w.heap.size (List.replicate k x ++ List.replicate (64 - k) 0)) ∧ Hid (Below w.heap.size w wr)) (fun i _ => 64 - (intOf i).toNat)
  case atStart => exact ⟨0, Nat.zero_le _, rfl, I0, B0⟩
  case round =>
    obtain ⟨k, hk, rfl, hI, hX⟩ := hrel
    clear I0 B0
    by_cases hlt : k < 64
    · have c1 := (unhide hI).cell (i := k) (by simp; omega)
      have f1 := (unhide hI).free k
      have I2 := (unhide hI).set k x
      rw [fl_set x k hlt] at I2
      replace I2 := hide I2
      have X2 := hide ((unhide hX).setCell (p := ⟨w.heap.size, k, none⟩) (Nat.le_refl _) (.int .u8 x))
      generalize (List.replicate k x ++ List.replicate (64 - k) 0)[k]?.getD 0 = z at *
      clear hI hX
      generalize w.heap.size = g at *
      go_wp2_with fail
      exact ⟨⟨k + 1, by omega, by go_num, I2, X2⟩, by simp [intOf]; omega⟩
    · obtain rfl : k = 64 := by omega
      go_wp2_with fail
      go_ret
      refine ⟨rfl, ?_, unhide hX⟩
      have := unhide hI
      simpa [fl] using this

theorem full_row {x : Int} (h0 : 0 ≤ x) (h1 : x ≤ 255) {w : World} {g : Nat} (h : Block w g (fl x)) : Row w.heap.size w (some ⟨g, 0, none⟩) 64 64 (fl x) := h.row (fl_len x) (by omega) (fl_byt h0 h1)

/-- A law's cache and device; B is where its memory begins. -/
structure KL (B : Nat) (w : World) (g dg : Nat) (C : Cac) (D : Dev) (u : World) (S : Nat → Prop) : Prop where
  kv : Kv u S g dg C D
  low : ∀ k, S k → B ≤ k
  siz : B ≤ u.heap.size
  bel : Below B w u

theorem KL.later {B : Nat} {w : World} {g dg : Nat} {C : Cac} {D : Dev} {u u' : World} {S : Nat → Prop} (h : KL B w g dg C D u S) (hb : Below u.heap.size u u') : KL B w g dg C D u' S :=
  ⟨h.kv.below hb, h.low, Nat.le_trans h.siz hb.size, h.bel.trans (hb.mono h.siz)⟩

theorem KL.nx {B : Nat} {w : World} {g dg : Nat} {C C' : Cac} {D D' : Dev} {u u' : World} {S S' : Nat → Prop} (h : KL B w g dg C D u S) (hk : Kv u' S' g dg C' D') (hx : Nx S u S' u') : KL B w g dg C' D' u' S' :=
  ⟨hk, hx.base h.low h.siz, Nat.le_trans h.siz hx.fr.size, h.bel.trans (hx.below h.low h.siz)⟩

def KD (B : Nat) (w : World) (g dg : Nat) (C : Cac) (D : Dev) (u : World) : Prop := ∃ S, KL B w g dg C D u S

theorem KD.later {B : Nat} {w : World} {g dg : Nat} {C : Cac} {D : Dev} {u u' : World} (h : KD B w g dg C D u) (hb : Below u.heap.size u u') : KD B w g dg C D u' := by
  obtain ⟨S, h⟩ := h
  exact ⟨S, h.later hb⟩

theorem KD.bel {B : Nat} {w : World} {g dg : Nat} {C : Cac} {D : Dev} {u : World} (h : KD B w g dg C D u) : Below B w u := by obtain ⟨S, h⟩ := h; exact h.bel

/-- New of a device of eight blocks, and of a cache. -/
theorem l_new (w u : World) (hb : Below w.heap.size w u) (cap : Nat) (hc : 1 ≤ cap ∧ cap ≤ 512) (a : Option Addr) (len c : Nat) (ns : List Int) (h : IHas w a len ns) (hn : len ≤ 17592186043904) (ha : a = none → c = 0 ∧ len = 0) :
    Calls Try.prog 8 #[.int .i64 64, .int .i64 8] u fun e u1 => ∃ dg, e = .returned (.tuple #[.pointer (some ⟨dg, 0, none⟩), .int .i64 0]) ∧
      Hid (Calls Try.prog 9 #[.pointer (some ⟨dg, 0, none⟩), .int .i64 cap, .slice a len c] u1 fun e u2 => ∃ g, e = .returned (.tuple #[.pointer (some ⟨g, 0, none⟩), .int .i64 0]) ∧ Hid (KD w.heap.size w g dg (Cac.new cap ns) (Dev.new 64 8) u2)) := by
  refine (new_ok 64 8 u (by decide)).mono ?_
  rintro e u1 ⟨dg, Sd, rfl, a1, a2, a3⟩
  have b1 : Below w.heap.size w u1 := hb.trans (a3.mono hb.size)
  refine ⟨dg, rfl, (cnew_ok dg Sd (Dev.new 64 8) cap a len c ns u1 a1 hc ?_ hn ha).mono ?_⟩
  · exact h.later b1
  · rintro e u2 ⟨g, rfl, S, k1, k2, k3⟩
    refine ⟨g, rfl, S, k1, fun k hk => ?_, Nat.le_trans b1.size k3.size, b1.trans (k3.mono b1.size)⟩
    rcases k2 k hk with x | x
    · have := a2 k x
      have := hb.size
      omega
    · have := b1.size
      omega

/-- Put of a block of one byte. -/
theorem l_put {B : Nat} {w : World} {g dg : Nat} {C : Cac} {D : Dev} {u : World} (h : KD B w g dg C D u) (hk : D.blk = 64) {b : Nat} (hb : b < D.n) (x : Int) (h0 : 0 ≤ x) (h1 : x ≤ 255) :
    Calls Try.prog 11 #[.int .u8 x] u fun e u1 => ∃ k, e = .returned (.slice (some ⟨k, 0, none⟩) 64 64) ∧
      Hid (Calls Try.prog 10 #[.pointer (some ⟨g, 0, none⟩), .int .i64 b, .slice (some ⟨k, 0, none⟩) 64 64] u1 fun e u2 => e = .returned (.int .i64 (C.ptE D b)) ∧ Hid (KD B w g dg (C.ptC D b (fl x)) (C.ptD D b) u2)) := by
  obtain ⟨S, h⟩ := h
  refine (full_any x u).mono ?_
  rintro e u1 ⟨rfl, a1, a2⟩
  refine ⟨_, rfl, ?_⟩
  have := put_any g dg b ⟨u.heap.size, 0, none⟩ 64 (fl x) S C D u1 (h.kv.below a2) hb (by rw [hk]; exact full_row h0 h1 a1) (fun _ y e => by cases e; exact fun hs => Nat.lt_irrefl _ (h.kv.lt hs))
  rw [hk] at this
  refine this.mono ?_
  rintro e u2 ⟨rfl, S2, k2, x2⟩
  exact ⟨rfl, S2, (h.later a2).nx k2 x2⟩

/-- Get of a block that is there. -/
theorem l_get {B : Nat} {w : World} {g dg : Nat} {C : Cac} {D : Dev} {u : World} (h : KD B w g dg C D u) (hk : D.blk = 64) {b : Nat} (hb : b < D.n) (he : C.gtE D b = 0) :
    Calls Try.prog 13 #[.pointer (some ⟨g, 0, none⟩), .int .i64 b] u fun e u1 => ∃ a c, e = .returned (.tuple #[.slice a 64 c, .int .i64 0]) ∧ Hid (Has u1 a 64 (C.gtZ D b) ∧ KD B w g dg (C.gtC D b) (C.gtD D b) u1) := by
  obtain ⟨S, h⟩ := h
  have := get_ok g dg b S C D u h.kv hb he
  rw [hk] at this
  refine this.mono ?_
  rintro e u1 ⟨a, c, rfl, S1, o1, k1, x1, n1⟩
  exact ⟨a, c, rfl, o1.has, S1, h.nx k1 x1⟩

theorem l_get_err {B : Nat} {w : World} {g dg : Nat} {C : Cac} {D : Dev} {u : World} (h : KD B w g dg C D u) {b : Nat} (hb : b < D.n) (he : C.gtE D b ≠ 0) :
    Calls Try.prog 13 #[.pointer (some ⟨g, 0, none⟩), .int .i64 b] u fun e u1 => e = .returned (.tuple #[.slice none 0 0, .int .i64 (C.gtE D b)]) ∧ Hid (KD B w g dg (C.gtC D b) (C.gtD D b) u1) := by
  obtain ⟨S, h⟩ := h
  refine (get_err g dg b S C D u h.kv hb he).mono ?_
  rintro e u1 ⟨rfl, S1, k1, x1⟩
  exact ⟨rfl, S1, h.nx k1 x1⟩

/-- full(x), and whether bytes are the same. -/
theorem l_same {B : Nat} {w : World} {g dg : Nat} {C : Cac} {D : Dev} {u : World} (h : KD B w g dg C D u) {a : Option Addr} {c : Nat} {zs : List Int} (ha : Has u a 64 zs) (x : Int) (hz : zs = fl x) :
    Calls Try.prog 11 #[.int .u8 x] u fun e u1 => ∃ k, e = .returned (.slice (some ⟨k, 0, none⟩) 64 64) ∧
      Hid (Calls Try.prog 14 #[.slice a 64 c, .slice (some ⟨k, 0, none⟩) 64 64] u1 fun e u2 => e = .returned (.bool true) ∧ u1 = u2) ∧ Hid (KD B w g dg C D u1) := by
  refine (full_any x u).mono ?_
  rintro e u1 ⟨rfl, a1, a2⟩
  exact ⟨_, rfl, same_true _ _ 64 c 64 (fl x) u1 (by rw [← hz]; exact ha.later8 a2) (a1.has (fl_len x)), h.later a2⟩

theorem l_dirty {B : Nat} {w : World} {g dg : Nat} {C : Cac} {D : Dev} {u : World} (h : KD B w g dg C D u) :
    Calls Try.prog 16 #[.pointer (some ⟨g, 0, none⟩)] u fun e u1 => ∃ a c, e = .returned (.slice a (C.those D.n fDirty).length c) ∧ Hid (KD B w g dg C D u1) := by
  obtain ⟨S, h⟩ := h
  refine (dirty_kv g dg S C D u h.kv).mono ?_
  rintro e u1 ⟨v, rfl, g1, b1⟩
  obtain ⟨a, c, rfl, _⟩ := g1.ihas
  exact ⟨a, c, by simp [Cac.list], S, h.later b1⟩

theorem l_held {B : Nat} {w : World} {g dg : Nat} {C : Cac} {D : Dev} {u : World} (h : KD B w g dg C D u) :
    Calls Try.prog 15 #[.pointer (some ⟨g, 0, none⟩)] u fun e u1 => ∃ a c, e = .returned (.slice a (C.those D.n fHeld).length c) ∧ Hid (IHas u1 a (C.those D.n fHeld).length (C.list D.n fHeld) ∧ KD B w g dg C D u1) := by
  obtain ⟨S, h⟩ := h
  refine (held_kv g dg S C D u h.kv).mono ?_
  rintro e u1 ⟨v, rfl, g1, b1⟩
  obtain ⟨a, c, rfl, i1, _⟩ := g1.ihas
  have el : (C.list D.n fHeld).length = (C.those D.n fHeld).length := by simp [Cac.list]
  rw [el] at i1 ⊢
  exact ⟨a, c, rfl, i1, S, h.later b1⟩

/-- The cache of wakes behind Put. -/
def wC : Cac := (Cac.new 2 []).set 3 ⟨fl 7, true, 0⟩

theorem w_pt : (Cac.new 2 []).ptE (Dev.new 64 8) 3 = 0 ∧ (Cac.new 2 []).ptC (Dev.new 64 8) 3 (fl 7) = wC ∧ (Cac.new 2 []).ptD (Dev.new 64 8) 3 = Dev.new 64 8 := by
  have h1 : ((Cac.new 2 []).those (Dev.new 64 8).n fHeld).length < (Cac.new 2 []).cap := by decide
  have e1 : (Cac.new 2 []).rmE (Dev.new 64 8) = 0 := if_pos h1
  have e2 : (Cac.new 2 []).rmC (Dev.new 64 8) = Cac.new 2 [] := if_pos h1
  have e3 : (Cac.new 2 []).rmD (Dev.new 64 8) = Dev.new 64 8 := if_pos h1
  have hl : (Cac.new 2 []).L 3 = none := rfl
  refine ⟨?_, ?_, ?_⟩
  · simp [Cac.ptE, hl, e1]
  · simp [Cac.ptC, hl, e1, e2, wC]
  · simp [Cac.ptD, hl, e3]

theorem w_gt : wC.gtE (Dev.new 64 8) 3 = 0 ∧ wC.gtC (Dev.new 64 8) 3 = wC ∧ wC.gtD (Dev.new 64 8) 3 = Dev.new 64 8 ∧ wC.gtZ (Dev.new 64 8) 3 = fl 7 := by
  have hl : wC.L 3 = some ⟨fl 7, true, 0⟩ := by simp [wC, Cac.set]
  simp [Cac.gtE, Cac.gtC, Cac.gtD, Cac.gtZ, hl]

theorem w_dirty : (wC.those (Dev.new 64 8).n fDirty).length = 1 := by decide

set_option maxHeartbeats 1000000 in
theorem wakes_any (w : World) :
    Calls Try.prog 7 #[] w fun e w' => e = .returned (.bool true) ∧ Below w.heap.size w w' := by
  have K1 := hide (l_new w w (Below.refl _ _) 2 (by omega) none 0 0 [] ⟨rfl, fun h => by omega⟩ (by omega) (fun _ => ⟨rfl, rfl⟩))
  have KP : Hid (∀ g dg u, KD w.heap.size w g dg (Cac.new 2 []) (Dev.new 64 8) u → _) := fun g dg u h => l_put h rfl (b := 3) (by decide) 7 (by decide) (by decide)
  rw [w_pt.1, w_pt.2.1, w_pt.2.2] at KP
  have KG : Hid (∀ g dg u, KD w.heap.size w g dg wC (Dev.new 64 8) u → _) := fun g dg u h => l_get h rfl (b := 3) (by decide) w_gt.1
  rw [w_gt.2.1, w_gt.2.2.1, w_gt.2.2.2] at KG
  have KS : Hid (∀ g dg u, KD w.heap.size w g dg wC (Dev.new 64 8) u → ∀ a c, Has u a 64 (fl 7) → _) := fun g dg u h a c ha => l_same h (c := c) ha 7 rfl
  have KDy : Hid (∀ g dg u, KD w.heap.size w g dg wC (Dev.new 64 8) u → _) := fun g dg u h => l_dirty h
  rw [w_dirty] at KDy
  have KE : Hid (∀ g dg u, KD w.heap.size w g dg wC (Dev.new 64 8) u → Below w.heap.size w u) := fun g dg u h => h.bel
  generalize wC = C1 at *
  generalize Dev.new 64 8 = D1 at *
  generalize Cac.new 2 [] = C0 at *
  generalize fl 7 = z7 at *
  go_enter Try.func7, Try.ntmps7
  go_wp2_with fail
  go_at_call 8
  refine (unhide K1).mono ?_
  rintro e u1 ⟨dg, rfl, K2⟩
  clear K1
  go_wp2_with fail
  go_at_call 9
  refine (unhide K2).mono ?_
  rintro e u2 ⟨g, rfl, X2⟩
  have K3 := hide (unhide KP g dg u2 (unhide X2))
  clear K2 KP X2
  go_wp2_with fail
  go_at_call 11
  refine (unhide K3).mono ?_
  rintro e u3 ⟨k3, rfl, K4⟩
  clear K3
  go_wp2_with fail
  go_at_call 10
  refine (unhide K4).mono ?_
  rintro e u4 ⟨rfl, X4⟩
  have K5 := hide (unhide KG g dg u4 (unhide X4))
  clear K4 KG X4
  go_wp2_with fail
  go_at_call 13
  refine (unhide K5).mono ?_
  rintro e u5 ⟨a5, c5, rfl, X5⟩
  have K6 := hide (unhide KS g dg u5 (unhide X5).2 a5 c5 (unhide X5).1)
  clear K5 KS X5
  go_wp2_with fail
  go_at_call 11
  refine (unhide K6).mono ?_
  rintro e u6 ⟨k6, rfl, K7, X6⟩
  have K8 := hide (unhide KDy g dg u6 (unhide X6))
  clear K6 KDy X6
  go_wp2_with fail
  go_at_call 14
  refine (unhide K7).mono ?_
  rintro e u7 ⟨rfl, rfl⟩
  clear K7
  go_wp2_with fail
  go_at_call 16
  refine (unhide K8).mono ?_
  rintro e u8 ⟨a8, c8, rfl, X8⟩
  clear K8
  go_wp2_with fail
  go_ret
  exact ⟨rfl, unhide KE g dg u8 (unhide X8)⟩

/-- CacheNil's walk. -/
theorem nil_walk (w : World) :
    Calls Try.prog 5 #[] w fun e w' => e = .returned (.bool true) ∧ Below w.heap.size w w' := by
  have KW := hide (wakes_any w)
  go_enter Try.func5, Try.ntmps5
  go_wp2_with fail
  go_at_call 7
  refine (unhide KW).mono ?_
  rintro e w1 ⟨rfl, X⟩
  have HB := hide X
  clear KW X
  go_wp2_with (first
    | (go_at_call 13; refine (get_nil _ _).mono ?_; rintro e w' ⟨rfl, rfl⟩)
    | (go_at_call 10; refine (put_nil _ _ _).mono ?_; rintro e w' ⟨rfl, rfl⟩)
    | (go_at_call 21; refine (pin_nil _ _).mono ?_; rintro e w' ⟨rfl, rfl⟩)
    | (go_at_call 23; refine (unpin_nil _ _).mono ?_; rintro e w' ⟨rfl, rfl⟩)
    | (go_at_call 22; refine (drop_nil _ _).mono ?_; rintro e w' ⟨rfl, rfl⟩)
    | (go_at_call 24; refine (clean_nil _ _ _).mono ?_; rintro e w' ⟨rfl, rfl⟩)
    | (go_at_call 12; refine (out_nil _ _).mono ?_; rintro e w' ⟨rfl, rfl⟩)
    | (go_at_call 17; refine (all_nil _).mono ?_; rintro e w' ⟨rfl, rfl⟩)
    | (go_at_call 9; refine (new_nil _ _ _).mono ?_; rintro e w' ⟨rfl, rfl⟩)
    | (go_at_call 15; refine (held_nil _).mono ?_; rintro e w' ⟨rfl, rfl⟩)
    | (go_at_call 16; refine (dirty_nil _).mono ?_; rintro e w' ⟨rfl, rfl⟩))
  go_ret
  exact ⟨rfl, unhide HB⟩

end Go.Proofs.Ytpkhllpghjldhaa
