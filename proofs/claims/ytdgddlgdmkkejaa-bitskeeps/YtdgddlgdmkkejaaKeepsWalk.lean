/- The walk through BitsKeeps. -/
import Derived.Test.YtdgddlgdmkkejaaGApart
import Derived.Test.YtdgddlgdmkkejaaGRoom
import Derived.Test.YtdgddlgdmkkejaaGInts
import Derived.Test.YtdgddlgdmkkejaaBWakes
import Derived.Test.YtdgddlgdmkkejaaBFirst
namespace Go.Proofs.Ytdgddlgdmkkejaa
open Go.RowKit Go.Shelf
set_option linter.unusedVariables false

/-- What the four calls have answered stands apart. -/
theorem apart_four (w1 w2 w3 w4 w5 w6 w9 : World) (a1 a2 a3 a4 : Option Addr) (l1 l2 l3 l4 c1 c2 c3 c4 : Nat)
    (m1 : Made w1 w2 a1 l1 c1) (m2 : Made w2 w3 a2 l2 c2) (m3 : Made w4 w5 a3 l3 c3) (m4 : Made w5 w6 a4 l4 c4)
    (b1 : Below w1.heap.size w1 w2) (b2 : Below w2.heap.size w2 w3) (b3 : Below w3.heap.size w3 w4) (b4 : Below w4.heap.size w4 w5) (b5 : Below w5.heap.size w5 w6) (b6 : Below w6.heap.size w6 w9) :
    Calls Try.prog 24 #[.slice (some ⟨w9.heap.size, 0, none⟩) 4 4] (w9.alloc (.cells #[.slice a1 l1 c1, .slice a2 l2 c2, .slice a3 l3 c3, .slice a4 l4 c4] 22)) fun e w' => e = .returned (.bool true) ∧ Below w1.heap.size w9 w' := by
  obtain ⟨k1, x1, o1⟩ := m1
  obtain ⟨k2, x2, o2⟩ := m2
  obtain ⟨k3, x3, o3⟩ := m3
  obtain ⟨k4, x4, o4⟩ := m4
  have s1 := b1.size
  have s2 := b2.size
  have s3 := b3.size
  have s4 := b4.size
  have s5 := b5.size
  have s6 := b6.size
  obtain ⟨W, hW⟩ : ∃ W, w9.alloc (.cells #[.slice a1 l1 c1, .slice a2 l2 c2, .slice a3 l3 c3, .slice a4 l4 c4] 22) = W := ⟨_, rfl⟩
  have bW : Below w9.heap.size w9 W := by rw [← hW]; exact (Below.refl _ w9).alloc (Nat.le_refl _) _
  have hL : W.heap[w9.heap.size]? = some (.cells ([(a1, l1, c1), (a2, l2, c2), (a3, l3, c3), (a4, l4, c4)].map sval).toArray 22 (0, 0)) := by
    rw [← hW]; exact World.alloc_heap_new w9 _
  have e4 : Own w5.heap.size w9 a4 l4 c4 x4 := o4.below b6 (Nat.le_refl _)
  have e3 : Own w4.heap.size w9 a3 l3 c3 x3 := (o3.below b5 (Nat.le_refl _)).below b6 (Nat.le_refl _)
  have e2 : Own w2.heap.size w9 a2 l2 c2 x2 := (((o2.below b3 (Nat.le_refl _)).below b4 (Nat.le_refl _)).below b5 (Nat.le_refl _)).below b6 (Nat.le_refl _)
  have e1 : Own w1.heap.size w9 a1 l1 c1 x1 := ((((o1.below b2 (Nat.le_refl _)).below b3 (Nat.le_refl _)).below b4 (Nat.le_refl _)).below b5 (Nat.le_refl _)).below b6 (Nat.le_refl _)
  rw [hW]
  refine (apart_list w1.heap.size w9.heap.size 4 [(a1, l1, c1), (a2, l2, c2), (a3, l3, c3), (a4, l4, c4)] W rfl (by omega) ?_ (by omega) ?_ hL ?_).mono ?_
  · intro t ht
    simp at ht
    rcases ht with rfl | rfl | rfl | rfl <;> assumption
  · refine List.Pairwise.cons ?_ (List.Pairwise.cons ?_ (List.Pairwise.cons ?_ (List.Pairwise.cons ?_ List.Pairwise.nil)))
    · intro u hu
      simp at hu
      rcases hu with rfl | rfl | rfl
      · exact aside_of (t := (a1, l1, c1)) (u := (a2, l2, c2)) o1 o2 (by omega)
      · exact aside_of (t := (a1, l1, c1)) (u := (a3, l3, c3)) o1 o3 (by omega)
      · exact aside_of (t := (a1, l1, c1)) (u := (a4, l4, c4)) o1 o4 (by omega)
    · intro u hu
      simp at hu
      rcases hu with rfl | rfl
      · exact aside_of (t := (a2, l2, c2)) (u := (a3, l3, c3)) o2 o3 (by omega)
      · exact aside_of (t := (a2, l2, c2)) (u := (a4, l4, c4)) o2 o4 (by omega)
    · intro u hu
      simp at hu
      subst hu
      exact aside_of (t := (a3, l3, c3)) (u := (a4, l4, c4)) o3 o4 (by omega)
    · intro u hu
      simp at hu
  · intro t ht
    simp at ht
    rcases ht with rfl | rfl | rfl | rfl
    · exact ⟨x1, (e1.below bW (Nat.le_refl _)).base (by omega)⟩
    · exact ⟨x2, (e2.below bW (Nat.le_refl _)).base (by omega)⟩
    · exact ⟨x3, (e3.below bW (Nat.le_refl _)).base (by omega)⟩
    · exact ⟨x4, (e4.below bW (Nat.le_refl _)).base (by omega)⟩
  · rintro e w' ⟨rfl, hb⟩
    exact ⟨rfl, (bW.mono (by omega)).trans hb⟩

theorem Below.chain {n : Nat} {w w1 w2 : World} (h1 : Below n w w1) (h2 : Below w1.heap.size w1 w2) (hn : n ≤ w.heap.size) : Below n w w2 := h1.trans (h2.mono (by have := h1.size; omega))

/-- What is kept: what came in, and the roomy copy. -/
def KP (w : World) (R : Nat) (zs : List Int) (u : World) : Prop := Below w.heap.size w u ∧ Block u R (rm zs 4)

theorem KP.call {w : World} {R : Nat} {zs : List Int} {u u' : World} (h : KP w R zs u) (hb : Below u.heap.size u u') : KP w R zs u' :=
  ⟨h.1.trans (hb.mono h.1.size), h.2.below hb h.2.lt⟩

theorem KP.row {w : World} {R len : Nat} {zs : List Int} {u : World} (h : KP w R zs u) (hlen : zs.length = len) (hl : len ≤ 140737488351232) (hby : ∀ z ∈ zs, 0 ≤ z ∧ z ≤ 255) : Has u (some ⟨R, 0, none⟩) len zs := (room_row h.2 hlen hl hby).has

set_option maxRecDepth 100000 in
set_option maxHeartbeats 4000000 in
theorem keeps_walk (a : Option Addr) (len cap : Nat) (zs : List Int) (i : Int) (an : Option Addr) (ln cn : Nat) (ns : List Int) (w : World) (hr : Row w.heap.size w a len cap zs) (hI : IHas w an ln ns) (hln : ln ≤ 17592186043904) :
    Calls Try.prog 8 #[.slice a len cap, .int .i64 i, .slice an ln cn] w fun e w' => e = .returned (.bool true) ∧ Below w.heap.size w w' := by
  have hlen := hr.1
  have hl := hr.2.2.1.1
  have hby := hr.2.2.2.1
  have HR := hide hr
  have HI := hide hI
  have KW := hide (wakes_any w)
  have HK : Hid (∀ R u, Hid (KP w R zs u) → Has u (some ⟨R, 0, none⟩) len zs) := fun R u h => h.out.row hlen hl hby
  have KS : Hid (∀ R u on, Hid (KP w R zs u) → Calls Try.prog 12 #[.slice (some ⟨R, 0, none⟩) len (len + 4), .int .i64 i, .bool on] u fun e w' => ∃ a' l c x, e = .returned (.tuple #[.slice a' l c, .int .i64 x]) ∧ Hid (Made u w' a' l c) ∧ Hid (Below u.heap.size u w')) :=
    fun R u on h => (set_any _ len (len + 4) zs i on u (HK.out R u h) hby hl).mono fun e w' ⟨a', l, c, h, h1, h2⟩ => ⟨a', l, c, _, h, ⟨by have := h1.out.1; omega, _, h1.out.2⟩, h2⟩
  have KG : Hid (∀ R u, Hid (KP w R zs u) → Calls Try.prog 10 #[.slice (some ⟨R, 0, none⟩) len (len + 4), .int .i64 i] u fun e w' => ∃ x y, e = .returned (.tuple #[.bool x, .int .i64 y]) ∧ Hid (Below u.heap.size u w')) :=
    fun R u h => (get_any _ len (len + 4) zs i u (HK.out R u h) hby (by omega)).mono fun e w' ⟨h, m, hm⟩ => ⟨_, _, h, by subst hm; exact below_drewN (Below.refl _ _) m⟩
  have KC : Hid (∀ R u, Hid (KP w R zs u) → Calls Try.prog 15 #[.slice (some ⟨R, 0, none⟩) len (len + 4), .int .i64 0, .int .i64 i] u fun e w' => ∃ x y, e = .returned (.tuple #[.int .i64 x, .int .i64 y]) ∧ Hid (Below u.heap.size u w')) :=
    fun R u h => (count_any _ len (len + 4) zs 0 i u (HK.out R u h) hby (by omega)).mono fun e w' ⟨h, m, hm⟩ => ⟨_, _, h, by subst hm; exact below_drewN (Below.refl _ _) m⟩
  have KF : Hid (∀ R u, Hid (KP w R zs u) → Calls Try.prog 17 #[.slice (some ⟨R, 0, none⟩) len (len + 4), .int .i64 0, .int .i64 i] u fun e w' => ∃ x y, e = .returned (.tuple #[.int .i64 x, .int .i64 y]) ∧ Hid (Below u.heap.size u w')) :=
    fun R u h => (first_any _ len (len + 4) zs 0 i u (HK.out R u h) hby (by omega)).mono fun e w' ⟨h, m, hm⟩ => ⟨_, _, h, by subst hm; exact below_drewN (Below.refl _ _) m⟩
  have KM : Hid (∀ u a1 c1, Hid (IHas u a1 ln ns) → Calls Try.prog 19 #[.int .i64 64, .slice a1 ln c1] u fun e w' => ∃ a' l c x, e = .returned (.tuple #[.slice a' l c, .int .i64 x]) ∧ Hid (Made u w' a' l c) ∧ Hid (Below u.heap.size u w')) :=
    fun u a1 c1 h => (make_any a1 ln c1 64 ns u h.out (by omega)).mono fun e w' ⟨a', l, c, h, h1, h2⟩ => ⟨a', l, c, _, h, ⟨by have := h1.out.1; omega, _, h1.out.2⟩, h2⟩
  have KK : Hid (∀ R u, Hid (KP w R zs u) → Calls Try.prog 22 #[.slice (some ⟨R, 0, none⟩) len (len + 4), .slice a len cap] u fun e w' => e = .returned (.bool true) ∧ Hid (Below u.heap.size u w')) :=
    fun R u h => kept_any R a len cap zs u hl h.out.2 (hr.below h.out.1 h.out.1.size).has
  clear hr hby hI
  go_enter Try.func8, Try.ntmps8
  go_wp2_with fail
  go_at_call 9
  refine (unhide KW).mono ?_
  rintro e wa ⟨rfl, hb1⟩
  have B1 := hide hb1
  clear hb1 KW
  go_wp2_with fail
  go_at_call 21
  refine (roomy_any a len cap zs wa ((unhide HR).below (unhide B1) (unhide B1).size)).mono ?_
  rintro e w1 ⟨rfl, hR2, hb2⟩
  have P1 : Hid (KP w wa.heap.size zs w1) := ⟨(unhide B1).trans (hb2.mono (by have := (unhide B1).size; omega)), hR2⟩
  generalize wa.heap.size = R at *
  clear hR2 hb2 B1
  go_wp2_with fail
  go_at_call 12
  refine (unhide KS _ _ _ P1).mono ?_
  rintro e w2 ⟨a1, l1, c1, x1, rfl, M1, D1⟩
  have P2 : Hid (KP w R zs w2) := P1.out.call D1.out
  go_wp2_with fail
  go_at_call 12
  refine (unhide KS _ _ _ P2).mono ?_
  rintro e w3 ⟨a2, l2, c2, x2, rfl, M2, D2⟩
  have P3 : Hid (KP w R zs w3) := P2.out.call D2.out
  clear P2 KS
  go_wp2_with fail
  go_at_call 10
  refine (unhide KG _ _ P3).mono ?_
  rintro e w3a ⟨x3, y3, rfl, D3a⟩
  have P3a : Hid (KP w R zs w3a) := P3.out.call D3a.out
  clear P3 KG
  go_wp2_with fail
  go_at_call 15
  refine (unhide KC _ _ P3a).mono ?_
  rintro e w3b ⟨x4, y4, rfl, D3b⟩
  have P3b : Hid (KP w R zs w3b) := P3a.out.call D3b.out
  clear P3a KC
  go_wp2_with fail
  go_at_call 17
  refine (unhide KF _ _ P3b).mono ?_
  rintro e w3c ⟨x5, y5, rfl, D3c⟩
  have P3c : Hid (KP w R zs w3c) := P3b.out.call D3c.out
  clear P3b KF
  obtain ⟨an', cn', w4, r4, hI4, b4⟩ := app_ints (c := cn) (HI.out.later P3c.out.1) hln
  have R4 := hide r4
  have I4 := hide hI4
  have D3 : Hid (Below w3.heap.size w3 w4) := Below.chain (Below.chain (Below.chain D3a.out D3b.out (Nat.le_refl _)) D3c.out (Nat.le_refl _)) b4 (Nat.le_refl _)
  have P4 : Hid (KP w R zs w4) := P3c.out.call b4
  clear r4 hI4 b4 D3a D3b D3c P3c
  go_wp2_with (at_builtin; refine wpList_append_run 34 rfl _ _ rfl _ _ _ rfl rfl (unhide R4) ?_)
  go_at_call 19
  refine (unhide KM _ _ _ I4).mono ?_
  rintro e w5 ⟨a3, l3, c3, x6, rfl, M3, D4⟩
  have I5 : Hid (IHas w5 an' ln ns) := I4.out.later D4.out
  have P5 : Hid (KP w R zs w5) := P4.out.call D4.out
  clear I4 P4 R4
  go_wp2_with fail
  go_at_call 19
  refine (unhide KM _ _ _ I5).mono ?_
  rintro e w6 ⟨a4, l4, c4, x7, rfl, M4, D5⟩
  have I6 : Hid (IHas w6 an' ln ns) := I5.out.later D5.out
  have P6 : Hid (KP w R zs w6) := P5.out.call D5.out
  clear I5 P5 KM
  go_wp2_with fail
  go_at_call 22
  refine (unhide KK _ _ P6).mono ?_
  rintro e w7 ⟨rfl, D6⟩
  have P7 : Hid (KP w R zs w7) := P6.out.call D6.out
  have I7 : Hid (IHas w7 an' ln ns) := I6.out.later D6.out
  clear I6
  go_wp2_with fail
  go_at_call 23
  refine (sameInts_any an' an ln cn' cn ns w7 I7.out (HI.out.later P7.out.1) (by omega)).mono ?_
  rintro e w8 ⟨rfl, hm⟩
  have D7 : Hid (Below w6.heap.size w6 w8) := by
    obtain ⟨m, rfl⟩ := hm
    exact below_drewN D6.out m
  have P8 : Hid (KP w R zs w8) := P6.out.call D7.out
  clear hm I7 P7 D6 P6
  go_wp2_with fail
  go_at_call 24
  refine (apart_four w1 w2 w3 w4 w5 w6 w8 a1 a2 a3 a4 l1 l2 l3 l4 c1 c2 c3 c4 M1.out M2.out M3.out M4.out D1.out D2.out D3.out D4.out D5.out D7.out).mono ?_
  rintro e w9 ⟨rfl, hb9⟩
  have P9 : Hid (KP w R zs w9) := ⟨P8.out.1.trans (hb9.mono P1.out.1.size), P8.out.2.below hb9 P1.out.2.lt⟩
  clear hb9
  go_wp2_with fail
  go_at_call 22
  refine (unhide KK _ _ P9).mono ?_
  rintro e w10 ⟨rfl, D10⟩
  have P10 : Hid (KP w R zs w10) := P9.out.call D10.out
  go_wp2_with fail
  go_ret
  exact ⟨rfl, P10.out.1⟩

end Go.Proofs.Ytdgddlgdmkkejaa
