/- Contracts of codec.Record. -/
import Derived.Test.YtmdkcoenjadieaaDoorWJ44
import Derived.Test.YtmdkcoenjadieaaDoorWJ24
import Derived.Test.YtmdkcoenjadieaaDoorWJ34
namespace Go.Proofs.YtmdkcoenjadieaaDoor
open Go.RowKit Go.Shelf
set_option linter.unusedVariables false
set_option maxRecDepth 100000

/-- A record's numbers and its text. -/
abbrev Rv (Z : Nat → Int) (s : ByteArray) : Value := .agg #[.int .i64 (Z 0), .int .i64 (Z 1), .int .i64 (Z 2), .int .i64 (Z 3), .int .i64 (Z 4), .int .i64 (Z 5), .int .i64 (Z 6), .int .i64 (Z 7), .string s]
abbrev Rc (Z : Nat → Int) (s : ByteArray) : Array Value := #[.int .i64 (Z 0), .int .i64 (Z 1), .int .i64 (Z 2), .int .i64 (Z 3), .int .i64 (Z 4), .int .i64 (Z 5), .int .i64 (Z 6), .int .i64 (Z 7), .string s]
abbrev Rz : Array Value := #[.int .i64 0, .int .i64 0, .int .i64 0, .int .i64 0, .int .i64 0, .int .i64 0, .int .i64 0, .int .i64 0, .string ⟨#[]⟩]

/-- A record's sealL. -/
def sealL (Z : Nat → Int) : List Int := [Z 2, Z 3, Z 4, Z 5]

theorem sealL_has {w u : World} {Z : Nat → Int} {s : ByteArray} (h : Bx w (Rc Z s) u) : IHas u (some ⟨w.heap.size, 2, none⟩) 4 (sealL Z) := by
  refine ⟨rfl, fun _ => ⟨w.heap.size, 2, rfl, fun j hj => ?_⟩⟩
  have : j = 0 ∨ j = 1 ∨ j = 2 ∨ j = 3 := by omega
  rcases this with rfl | rfl | rfl | rfl
  all_goals exact h.1 _ _ rfl

/-- Do a record's numbers fit? -/
def recF (Z : Nat → Int) : Bool := fitB 4 [Z 0, Z 1, Z 6, Z 7] && fitB 2 (sealL Z)

/-- What a record's frame holds. -/
def recL (Z : Nat → Int) (s : ByteArray) : List Int := numsB 4 [Z 0, Z 1, Z 6, Z 7] ++ (numsB 2 (sealL Z) ++ byts s)

theorem recL_length (Z : Nat → Int) (s : ByteArray) : (recL Z s).length = 24 + s.size := by
  simp [recL, length_numsB, sealL, byts_length]
  omega

theorem recL_byts (Z : Nat → Int) (s : ByteArray) : ∀ z ∈ recL Z s, 0 ≤ z ∧ z ≤ 255 := by
  intro z hz
  simp only [recL, List.mem_append] at hz
  rcases hz with hz | hz | hz
  · exact numsB_byte _ _ z hz
  · exact numsB_byte _ _ z hz
  · exact byts_byte _ z hz

theorem row_of_has {w : World} {a : Option Addr} {n c : Nat} {xs : List Int} (h : Has w a n xs) (hb : ∀ z ∈ xs, 0 ≤ z ∧ z ≤ 255) (hc : n ≤ c) (hm : c ≤ 9223372036854775807) (hn : n ≤ 140737488351232) : Row w.heap.size w a n c xs := by
  refine ⟨h.1, hc, ⟨hn, hm⟩, hb, fun hp => ?_⟩
  obtain ⟨b, off, e, hcs⟩ := h.2 hp
  refine ⟨b, off, e, ?_, hcs⟩
  have := hcs 0 (by omega)
  exact cell_block_lt this

set_option maxHeartbeats 1000000 in
theorem frame_big (a : Option Addr) (len cap : Nat) (w : World) (h : 65535 < len) (hl : len ≤ 140737488351300) :
    Calls Tryd.prog 58 #[.slice a len cap] w fun e w' => e = .returned (.tuple #[.slice none 0 0, .int .i64 5]) ∧ w = w' := by
  go_enter Tryd.func58, Tryd.ntmps58
  go_wp2
  go_ret2
  exact ⟨rfl, rfl⟩

def spTup (E : Int) (n : Nat) (xs : List Int) (v : Value) (w : World) : Prop := ∃ a c, v = .tuple #[.slice a n c, .int .i64 E] ∧ Has w a n xs ∧ (∀ z ∈ xs, 0 ≤ z ∧ z ≤ 255) ∧ n ≤ c ∧ c ≤ 9223372036854775807

theorem mono_tup (n0 : Nat) (E : Int) (n : Nat) (xs : List Int) : Mono n0 (spTup E n xs) := fun _ _ _ ⟨a, c, e, h, r⟩ hg => ⟨a, c, e, h.grw hg, r⟩

set_option maxHeartbeats 2000000 in
theorem record_v4 (Z : Nat → Int) (s : ByteArray) (w : World) (h4 : fitB 4 [Z 0, Z 1, Z 6, Z 7] = false) :
    Calls Tryd.prog 23 #[Rv Z s] w fun e w' => e = .returned (.tuple #[.slice none 0 0, .int .i64 3]) ∧ Below w.heap.size w w' := by
  have HK := hide (Bx.start w (Rc Z s) 48)
  have F4 : Hid (∀ (u : World) (g : Nat), g = u.heap.size → Calls Tryd.prog 44 #[.int .i64 4, .slice (some ⟨g, 0, none⟩) 4 4] (u.alloc (.cells #[.int .i64 (Z 0), .int .i64 (Z 1), .int .i64 (Z 6), .int .i64 (Z 7)] 3)) fun e w' => e = .returned (.bool false) ∧ Below u.heap.size u w') :=
    fun u g hg => by subst hg; exact fit_lst 4 (.inr rfl) [Z 0, Z 1, Z 6, Z 7] u (by simp) _ h4
  clear h4
  go_enter Tryd.func23, Tryd.ntmps23
  go_wp2_with fail
  go_at_call 44
  refine (unhide F4 _ _ (by simp)).mono ?_
  rintro e w1 ⟨rfl, hb⟩
  replace HK := hide ((unhide HK).call hb)
  clear hb F4
  go_wp2_with fail
  go_ret2
  exact ⟨rfl, HK.out.2.1⟩

set_option maxHeartbeats 2000000 in
theorem record_v2 (Z : Nat → Int) (s : ByteArray) (w : World) (h4 : fitB 4 [Z 0, Z 1, Z 6, Z 7] = true) (h2 : fitB 2 (sealL Z) = false) :
    Calls Tryd.prog 23 #[Rv Z s] w fun e w' => e = .returned (.tuple #[.slice none 0 0, .int .i64 3]) ∧ Below w.heap.size w w' := by
  have HK := hide (Bx.start w (Rc Z s) 48)
  have F4 : Hid (∀ (u : World) (g : Nat), g = u.heap.size → Calls Tryd.prog 44 #[.int .i64 4, .slice (some ⟨g, 0, none⟩) 4 4] (u.alloc (.cells #[.int .i64 (Z 0), .int .i64 (Z 1), .int .i64 (Z 6), .int .i64 (Z 7)] 3)) fun e w' => e = .returned (.bool true) ∧ Below u.heap.size u w') :=
    fun u g hg => by subst hg; exact fit_lst 4 (.inr rfl) [Z 0, Z 1, Z 6, Z 7] u (by simp) _ h4
  have F2 : Hid (∀ u : World, Bx w (Rc Z s) u → Calls Tryd.prog 44 #[.int .i64 2, .slice (some ⟨w.heap.size, 2, none⟩) 4 4] u fun e w' => e = .returned (.bool false) ∧ u = w') :=
    fun u hB => by have := fit_any 2 (.inl rfl) _ 4 4 (sealL Z) u (sealL_has hB) (by omega); rwa [h2] at this
  clear h4 h2
  go_enter Tryd.func23, Tryd.ntmps23
  go_wp2_with fail
  go_at_call 44
  refine (unhide F4 _ _ (by simp)).mono ?_
  rintro e w1 ⟨rfl, hb⟩
  replace HK := hide ((unhide HK).call hb)
  clear hb F4
  go_wp2_with fail
  go_at_call 44
  refine (unhide F2 _ HK.out).mono ?_
  rintro e w' ⟨rfl, rfl⟩
  clear F2
  go_wp2_with fail
  go_ret2
  exact ⟨rfl, HK.out.2.1⟩

theorem record_value (Z : Nat → Int) (s : ByteArray) (w : World) (h : recF Z = false) :
    Calls Tryd.prog 23 #[Rv Z s] w fun e w' => e = .returned (.tuple #[.slice none 0 0, .int .i64 3]) ∧ Below w.heap.size w w' := by
  unfold recF at h
  by_cases h4 : fitB 4 [Z 0, Z 1, Z 6, Z 7] = true
  · exact record_v2 Z s w h4 (by rw [h4] at h; simpa using h)
  · exact record_v4 Z s w (by simpa using h4)

end Go.Proofs.YtmdkcoenjadieaaDoor
