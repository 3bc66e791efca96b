/- FieldKeeps' walk. -/
import Derived.Test.YtmdnkkmlgjpdcaaApart5
import Derived.Test.YtmdnkkmlgjpdcaaRoomy
import Derived.Test.YtmdnkkmlgjpdcaaTextWalk
import Derived.Test.YtmdnkkmlgjpdcaaBackWalk
namespace Go.Proofs.Ytmdnkkmlgjpdcaa
open Go.RowKit Go.Shelf
set_option linter.unusedVariables false

/-- What a call has answered: nil, or a slice at the start of a new row. -/
def Made (w w' : World) (a : Option Addr) (l c : Nat) : Prop := l ≤ 140737488351232 ∧ ∃ xs, Own w.heap.size w' a l c xs

theorem put_item (a : Option Addr) (len cap : Nat) (zs : List Int) (at' n v : Int) (w : World) (hr : Row w.heap.size w a len cap zs) (ha : at' ≤ 9223372036854775807) :
    Calls Try.prog 11 #[.slice a len cap, .int .i64 at', .int .i64 n, .int .i64 v] w fun e w' => ∃ a' l c x, e = .returned (.tuple #[.slice a' l c, .int .i64 x]) ∧ Hid (Made w w' a' l c) ∧ Hid (Below w.heap.size w w') := by
  have hlen := hr.1
  have hl := hr.2.2.1.1
  refine (put_any a len cap zs at' n v w hr ha).mono ?_
  rintro e w' ⟨hb, ⟨h, rfl⟩ | ⟨h, g, rfl, hg, hB⟩⟩
  · exact ⟨none, 0, 0, _, rfl, ⟨Nat.zero_le _, [], Own.nil _ _⟩, hb⟩
  · obtain ⟨at0, wd, rfl, rfl, hw, hat, _, _⟩ := putErr_zero h
    rw [Int.toNat_natCast, Int.toNat_natCast] at hB
    exact ⟨_, len, len, 0, rfl, ⟨hl, _, hB.own (by rw [length_put _ _ _ (by rw [length_digits, hlen]; exact hat), hlen]) hg hl⟩, hb⟩

theorem putText_item (a : Option Addr) (len cap : Nat) (zs : List Int) (at' n : Int) (s : ByteArray) (w : World) (hr : Row w.heap.size w a len cap zs) (ha : at' ≤ 9223372036854775807) (hn : -9223372036854775808 ≤ n) (hs0 : s.size ≤ 140737488351232) :
    Calls Try.prog 16 #[.slice a len cap, .int .i64 at', .int .i64 n, .string s] w fun e w' => ∃ a' l c x, e = .returned (.tuple #[.slice a' l c, .int .i64 x]) ∧ Hid (Made w w' a' l c) ∧ Hid (Below w.heap.size w w') := by
  have hlen := hr.1
  have hl := hr.2.2.1.1
  refine (putText_any a len cap zs at' n s w hr ha hn hs0).mono ?_
  rintro e w' ⟨hb, ⟨h, rfl⟩ | ⟨h, rfl, hB⟩⟩
  · exact ⟨none, 0, 0, _, rfl, ⟨Nat.zero_le _, [], Own.nil _ _⟩, hb⟩
  · obtain ⟨at0, n0, rfl, rfl, hat, hs, _⟩ := ptErr_zero h
    rw [Int.toNat_natCast, Int.toNat_natCast] at hB
    exact ⟨_, len, len, 0, rfl, ⟨hl, _, hB.own (by rw [length_put _ _ _ (by rw [ptData_length hs, hlen]; exact hat), hlen]) (Nat.le_refl _) hl⟩, hb⟩

/-- What the four calls have answered stands apart. -/
theorem apart_four (w2 w3 w4 w5 w6 w9 : World) (a1 a2 a3 a4 : Option Addr) (l1 l2 l3 l4 c1 c2 c3 c4 : Nat)
    (m1 : Made w2 w3 a1 l1 c1) (m2 : Made w3 w4 a2 l2 c2) (m3 : Made w4 w5 a3 l3 c3) (m4 : Made w5 w6 a4 l4 c4)
    (b2 : Below w2.heap.size w2 w3) (b3 : Below w3.heap.size w3 w4) (b4 : Below w4.heap.size w4 w5) (b5 : Below w5.heap.size w5 w6) (b6 : Below w6.heap.size w6 w9) :
    Calls Try.prog 22 #[.slice (some ⟨w9.heap.size, 0, none⟩) 4 4] (w9.alloc (.cells #[.slice a1 l1 c1, .slice a2 l2 c2, .slice a3 l3 c3, .slice a4 l4 c4] 22)) fun e w' => e = .returned (.bool true) ∧ Below w2.heap.size w9 w' := by
  obtain ⟨k1, x1, o1⟩ := m1
  obtain ⟨k2, x2, o2⟩ := m2
  obtain ⟨k3, x3, o3⟩ := m3
  obtain ⟨k4, x4, o4⟩ := m4
  have s2 := b2.size
  have s3 := b3.size
  have s4 := b4.size
  have s5 := b5.size
  have s6 := b6.size
  obtain ⟨W, hW⟩ : ∃ W, w9.alloc (.cells #[.slice a1 l1 c1, .slice a2 l2 c2, .slice a3 l3 c3, .slice a4 l4 c4] 22) = W := ⟨_, rfl⟩
  have bW : Below w9.heap.size w9 W := by rw [← hW]; exact (Below.refl _ w9).alloc (Nat.le_refl _) _
  have hL : W.heap[w9.heap.size]? = some (.cells ([(a1, l1, c1), (a2, l2, c2), (a3, l3, c3), (a4, l4, c4)].map sval).toArray 22 (0, 0)) := by
    rw [← hW]; exact World.alloc_heap_new w9 _
  have e4 : Own w5.heap.size w9 a4 l4 c4 x4 := o4.below b6 (Nat.le_refl _)
  have e3 : Own w4.heap.size w9 a3 l3 c3 x3 := (o3.below b5 (Nat.le_refl _)).below b6 (Nat.le_refl _)
  have e2 : Own w3.heap.size w9 a2 l2 c2 x2 := ((o2.below b4 (Nat.le_refl _)).below b5 (Nat.le_refl _)).below b6 (Nat.le_refl _)
  have e1 : Own w2.heap.size w9 a1 l1 c1 x1 := (((o1.below b3 (Nat.le_refl _)).below b4 (Nat.le_refl _)).below b5 (Nat.le_refl _)).below b6 (Nat.le_refl _)
  rw [hW]
  refine (apart_list w2.heap.size w9.heap.size 4 [(a1, l1, c1), (a2, l2, c2), (a3, l3, c3), (a4, l4, c4)] W rfl (by omega) ?_ (by omega) ?_ hL ?_).mono ?_
  · intro t ht
    simp at ht
    rcases ht with rfl | rfl | rfl | rfl <;> assumption
  · refine List.Pairwise.cons ?_ (List.Pairwise.cons ?_ (List.Pairwise.cons ?_ (List.Pairwise.cons ?_ List.Pairwise.nil)))
    · intro u hu
      simp at hu
      rcases hu with rfl | rfl | rfl
      · exact aside_of (t := (a1, l1, c1)) (u := (a2, l2, c2)) o1 o2 (Nat.le_refl _)
      · exact aside_of (t := (a1, l1, c1)) (u := (a3, l3, c3)) o1 o3 (by omega)
      · exact aside_of (t := (a1, l1, c1)) (u := (a4, l4, c4)) o1 o4 (by omega)
    · intro u hu
      simp at hu
      rcases hu with rfl | rfl
      · exact aside_of (t := (a2, l2, c2)) (u := (a3, l3, c3)) o2 o3 (Nat.le_refl _)
      · exact aside_of (t := (a2, l2, c2)) (u := (a4, l4, c4)) o2 o4 (by omega)
    · intro u hu
      simp at hu
      subst hu
      exact aside_of (t := (a3, l3, c3)) (u := (a4, l4, c4)) o3 o4 (Nat.le_refl _)
    · intro u hu; simp at hu
  · intro t ht
    simp at ht
    rcases ht with rfl | rfl | rfl | rfl
    · exact ⟨x1, e1.below bW (Nat.le_refl _)⟩
    · exact ⟨x2, (e2.below bW (Nat.le_refl _)).base (by omega)⟩
    · exact ⟨x3, (e3.below bW (Nat.le_refl _)).base (by omega)⟩
    · exact ⟨x4, (e4.below bW (Nat.le_refl _)).base (by omega)⟩
  · rintro e w' ⟨rfl, hb⟩
    exact ⟨rfl, (bW.mono (by omega)).trans hb⟩

set_option maxRecDepth 100000 in
set_option maxHeartbeats 2000000 in
theorem keeps_walk (a : Option Addr) (len cap : Nat) (zs : List Int) (at' n v : Int) (s : ByteArray) (w : World) (hr : Row w.heap.size w a len cap zs) (ha : at' ≤ 9223372036854775807) (hn : -9223372036854775808 ≤ n) (hs0 : s.size ≤ 140737488351232) :
    Calls Try.prog 7 #[.slice a len cap, .int .i64 at', .int .i64 n, .int .i64 v, .string s] w fun e w' => e = .returned (.bool true) ∧ Below w.heap.size w w' := by
  have hlen := hr.1
  have hl := hr.2.2.1.1
  have hby := hr.2.2.2.1
  have HR := hide hr
  have HBY := hide hby
  have RR : Hid (∀ (R : Nat) (w : World), Hid (Block w R (rm zs 4)) → Row w.heap.size w (some ⟨R, 0, none⟩) len (len + 4) zs) := fun R w h => room_row h.out hlen hl hby
  clear hr hby
  go_enter Try.func7, Try.ntmps7
  go_wp2_with fail
  refine (wakes_any _).mono ?_
  rintro e w1 ⟨rfl, hb1⟩
  have B1 := hide hb1
  clear hb1
  go_wp2_with fail
  refine (roomy_any a len cap zs w1 ((unhide HR).below (unhide B1) (unhide B1).size)).mono ?_
  rintro e w2 ⟨rfl, hR2, hb2⟩
  obtain ⟨R, hRR⟩ : ∃ R, w1.heap.size = R := ⟨_, rfl⟩
  rw [hRR] at hR2 hb2 ⊢
  have R2 := hide hR2
  have B2 : Hid (Below w.heap.size w w2) := (unhide B1).trans (hb2.mono (by have := (unhide B1).size; omega))
  clear hR2 hb2 hRR B1
  go_wp2_with fail
  refine (put_item _ len (len + 4) zs at' n v w2 (unhide RR _ _ R2) ha).mono ?_
  rintro e w3 ⟨a1, l1, c1, x1, rfl, M1, D2⟩
  have R3 : Hid (Block w3 R (rm zs 4)) := R2.out.below D2.out R2.out.lt
  go_wp2_with fail
  refine (put_item _ len (len + 4) zs at' n v w3 (unhide RR _ _ R3) ha).mono ?_
  rintro e w4 ⟨a2, l2, c2, x2, rfl, M2, D3⟩
  have R4 : Hid (Block w4 R (rm zs 4)) := R3.out.below D3.out R3.out.lt
  go_wp2_with fail
  refine (putText_item _ len (len + 4) zs at' n s w4 (unhide RR _ _ R4) ha hn hs0).mono ?_
  rintro e w5 ⟨a3, l3, c3, x3, rfl, M3, D4⟩
  have R5 : Hid (Block w5 R (rm zs 4)) := R4.out.below D4.out R4.out.lt
  go_wp2_with fail
  refine (putText_item _ len (len + 4) zs at' n s w5 (unhide RR _ _ R5) ha hn hs0).mono ?_
  rintro e w6 ⟨a4, l4, c4, x4, rfl, M4, D5⟩
  have R6 : Hid (Block w6 R (rm zs 4)) := R5.out.below D5.out R5.out.lt
  go_wp2_with fail
  refine (get_any _ len (len + 4) zs at' n w6 (unhide RR _ _ R6) ha).mono ?_
  rintro e w7 ⟨rfl, hb7⟩
  have D6 := hide hb7
  clear hb7
  have R7 : Hid (Block w7 R (rm zs 4)) := R6.out.below D6.out R6.out.lt
  go_wp2_with fail
  refine (text_any _ len (len + 4) zs at' n w7 (unhide RR _ _ R7).has (by omega) hl ha hn).mono ?_
  rintro e w7' ⟨rfl, rfl⟩
  go_wp2_with fail
  refine (zero_any _ len (len + 4) zs at' n w7 (unhide RR _ _ R7).has (by omega) hl ha hn).mono ?_
  rintro e w7' ⟨rfl, rfl⟩
  -- all worlds up to here
  have B7 : Hid (Below w2.heap.size w2 w7) := by
    have s2 := D2.out.size
    have s3 := D3.out.size
    have s4 := D4.out.size
    have s5 := D5.out.size
    exact ((((D2.out.trans (D3.out.mono (by omega))).trans (D4.out.mono (by omega))).trans (D5.out.mono (by omega))).trans (D6.out.mono (by omega)))
  have BW7 : Hid (Below w.heap.size w w7) := B2.out.trans (B7.out.mono B2.out.size)
  go_wp2_with fail
  refine (kept_any R a len cap zs w7 hl R7.out ((unhide HR).below BW7.out BW7.out.size).has).mono ?_
  rintro e w8 ⟨rfl, hb8⟩
  have D7 := hide hb8
  clear hb8
  have D68 : Hid (Below w6.heap.size w6 w8) := D6.out.trans (D7.out.mono D6.out.size)
  have R8 : Hid (Block w8 R (rm zs 4)) := R7.out.below D7.out R7.out.lt
  have B8 : Hid (Below w.heap.size w w8) := BW7.out.trans (D7.out.mono BW7.out.size)
  go_wp2_with fail
  refine (apart_four w2 w3 w4 w5 w6 w8 a1 a2 a3 a4 l1 l2 l3 l4 c1 c2 c3 c4 M1.out M2.out M3.out M4.out D2.out D3.out D4.out D5.out D68.out).mono ?_
  rintro e w9 ⟨rfl, hb9⟩
  have R9 : Hid (Block w9 R (rm zs 4)) := R8.out.below hb9 R2.out.lt
  have B9 : Hid (Below w.heap.size w w9) := B8.out.trans (hb9.mono B2.out.size)
  clear hb9
  go_wp2_with fail
  refine (kept_any R a len cap zs w9 hl R9.out ((unhide HR).below B9.out B9.out.size).has).mono ?_
  rintro e w10 ⟨rfl, hb10⟩
  have B10 : Hid (Below w.heap.size w w10) := B9.out.trans (hb10.mono B9.out.size)
  clear hb10
  go_wp2_with fail
  go_ret
  exact ⟨rfl, B10.out⟩

end Go.Proofs.Ytmdnkkmlgjpdcaa
