/- The contract of the document's Frame. -/
import Derived.Test.YtleknpgkghkekaaDoorFrame
import Derived.Test.YtleknpgkghkekaaDoorRefSum
namespace Go.Proofs.YtleknpgkghkekaaDoor
open Go.RowKit Go.Shelf
set_option linter.unusedVariables false

set_option maxHeartbeats 1000000 in
theorem refFrame_bad (a : Option Addr) (len cap : Nat) (w : World) (h : 65535 < len) (hl : len ≤ 140737488351232) :
    Calls Tryd.prog 15 #[.slice a len cap] w fun e w' => e = .returned (.tuple #[.slice none 0 0, .int .i64 5]) ∧ w = w' := by
  go_enter Tryd.func15, Tryd.ntmps15
  go_wp2
  go_ret2
  exact ⟨rfl, rfl⟩

theorem list_block (w : World) (zs : List Int) : Block (w.alloc (.cells (zs.map (Value.int .u8)).toArray 5)) w.heap.size zs := World.alloc_heap_new w _

theorem own_list (w : World) (x y : Int) : Own w.heap.size (w.alloc (.cells #[.int .u8 x, .int .u8 y] 5)) (some ⟨w.heap.size, 0, none⟩) 2 2 [x, y] :=
  (list_block w [x, y]).own rfl (Nat.le_refl _) (by omega)

theorem has_one (w : World) (x : Int) : Has (w.alloc (.cells #[.int .u8 x] 5)) (some ⟨w.heap.size, 0, none⟩) 1 [x] := (list_block w [x]).has rfl

set_option maxHeartbeats 2000000 in
theorem refFrame_good (a : Option Addr) (len cap : Nat) (zs : List Int) (w : World) (hr : Row w.heap.size w a len cap zs) (h : len ≤ 65535) :
    Calls Tryd.prog 15 #[.slice a len cap] w fun e w' => ∃ a' c', e = .returned (.tuple #[.slice a' (len + 6) c', .int .i64 0]) ∧ Hid (Own w.heap.size w' a' (len + 6) c' (frameB zs)) ∧ Below w.heap.size w w' := by
  have hlen := hr.1
  have hby := hr.byts
  have hd1 : ((len : Int) / 256) % 256 = (len : Int) / 256 := by omega
  have hdig : digits 2 (len : Int) = [(len : Int) % 256, (len : Int) / 256] := by
    show [(len : Int) % 256, (len : Int) / 256 % 256] = _
    rw [hd1]
  obtain ⟨a1, c1, w1, r1, h1⟩ : ∃ a1 c1 w1, (∀ ty, (Builtin.append_ #[22, 22] ty #[.slice (some ⟨w.heap.size, 0, none⟩) 2 2, .slice a len cap]).run Tryd.prog (w.alloc (.cells #[.int .u8 ((len : Int) % 256), .int .u8 ((len : Int) / 256)] 5)) = .ok (.slice a1 (2 + len) c1) w1) ∧ Hid (Own w.heap.size w1 a1 (2 + len) c1 (headB zs) ∧ Below w.heap.size w w1) := by
    have hb0 : Below w.heap.size w (w.alloc (.cells #[.int .u8 ((len : Int) % 256), .int .u8 ((len : Int) / 256)] 5)) := (Below.refl _ w).alloc (Nat.le_refl _) _
    obtain ⟨a1, c1, w1, r1, o1, _, b1⟩ := run_append_bytes (own_list w ((len : Int) % 256) ((len : Int) / 256)) hb0.size cap (hr.below hb0 hb0.size).has (by omega)
    refine ⟨a1, c1, w1, r1, ?_, hb0.trans b1⟩
    rw [headB, hlen, hdig]
    exact o1
  have hS := sumS_lt (headB_byts hby)
  have K : Hid (Calls Tryd.prog 13 #[.slice a1 (2 + len) c1] w1 fun e w' => e = .returned (.int .i64 ((sumS (headB zs) : Nat) : Int)) ∧ w1 = w') :=
    refSum_any a1 (2 + len) c1 (headB zs) w1 (unhide h1).1.has (by omega) (headB_byts hby)
  have R1 := hide r1
  have HF : Hid (frameB zs = headB zs ++ digits 4 ((sumS (headB zs) : Nat) : Int)) := rfl
  have hhl := headB_length zs
  generalize sumS (headB zs) = S at *
  generalize headB zs = hb at *
  have HD := hide digits_succ
  clear r1 hr hby hdig
  go_enter Tryd.func15, Tryd.ntmps15
  go_wp2_with (first
    | (at_builtin; refine wpList_append_run 22 rfl _ _ rfl _ _ _ rfl rfl (unhide R1) ?_)
    | (go_at_call 13; refine (unhide K).mono ?_; rintro e w5 ⟨rfl, rfl⟩))
  go_loopw [4, 5, 6] (fun f s i wr => ∃ (k : Nat) (u : Int) (a2 : Option Addr) (c2 : Nat), k ≤ 4 ∧ i = .int .i64 (k : Int) ∧ s = .int .i64 u ∧ f = .slice a2 (2 + len + k) c2 ∧ 0 ≤ u ∧ u ≤ 4294967295 ∧ Hid (u = (S : Int) / 256 ^ k) ∧ Hid (Own w.heap.size wr a2 (2 + len + k) c2 (hb ++ digits k (S : Int)) ∧ Below w.heap.size w wr)) (fun _ _ i _ => 4 - (intOf i).toNat)
  case atStart => exact ⟨0, S, a1, c1, by omega, rfl, rfl, rfl, by omega, by omega, (by show (S : Int) = (S : Int) / 256 ^ 0; simp), (by rw [show digits 0 (S : Int) = [] from rfl, List.append_nil]; exact unhide h1)⟩
  case round =>
    obtain ⟨k, u, a2, c2, hk, rfl, rfl, rfl, hu0, hu1, hu, h2⟩ := hrel
    by_cases hlt : k < 4
    · have hm : u % 256 % 256 = u % 256 := by omega
      obtain ⟨a3, c3, w3, r3, h3⟩ : ∃ a3 c3 w3, (∀ ty, (Builtin.append_ #[22, 22] ty #[.slice a2 (2 + len + k) c2, .slice (some ⟨wr.heap.size, 0, none⟩) 1 1]).run Tryd.prog (wr.alloc (.cells #[.int .u8 (u % 256)] 5)) = .ok (.slice a3 (2 + len + (k + 1)) c3) w3) ∧ Hid (Own w.heap.size w3 a3 (2 + len + (k + 1)) c3 (hb ++ digits (k + 1) (S : Int)) ∧ Below w.heap.size w w3) := by
        obtain ⟨o2, b2⟩ := unhide h2
        have hb0 : Below wr.heap.size wr (wr.alloc (.cells #[.int .u8 (u % 256)] 5)) := (Below.refl _ wr).alloc (Nat.le_refl _) _
        have hb2 := b2.trans (hb0.mono b2.size)
        obtain ⟨a3, c3, w3, r3, o3, _, b3⟩ := run_append_bytes (o2.below hb0 (Nat.le_refl _)) hb2.size 1 (has_one wr (u % 256)) (by omega)
        refine ⟨a3, c3, w3, r3, ?_, hb2.trans b3⟩
        rw [unhide HD k, ← hu.out, ← List.append_assoc]
        exact o3
      have R3 := hide r3
      have HU : Hid (u / 256 = (S : Int) / 256 ^ (k + 1)) := by
        show u / 256 = (S : Int) / 256 ^ (k + 1)
        rw [hu.out, Int.ediv_ediv_of_nonneg (Int.le_of_lt (Int.pow_pos (by omega))), Int.pow_succ]
      clear r3 h2 hu
      go_wp2_with (at_builtin; refine wpList_append_run 22 rfl _ _ rfl _ _ _ rfl rfl (unhide R3) ?_)
      exact ⟨⟨k + 1, u / 256, a3, c3, by omega, by go_num, rfl, rfl, by omega, by omega, HU, h3⟩, by simp [intOf]; omega⟩
    · obtain rfl : k = 4 := by omega
      have e : 2 + len + 4 = len + 6 := by omega
      obtain ⟨o2, b2⟩ := unhide h2
      have h2' : Hid (Own w.heap.size wr a2 (len + 6) c2 (frameB zs)) := by rw [unhide HF, ← e]; exact o2
      clear o2 h2
      rw [e]
      clear e
      go_wp2
      go_ret2
      exact ⟨a2, c2, rfl, h2', b2⟩

end Go.Proofs.YtleknpgkghkekaaDoor
