/- The contract of Make. -/
import Derived.Test.YtdgddlgdmkkejaaBRefSet
namespace Go.Proofs.Ytdgddlgdmkkejaa
open Go.RowKit Go.Shelf
set_option linter.unusedVariables false

/-- A slice holds these numbers. -/
def IHas (w : World) (a : Option Addr) (len : Nat) (ns : List Int) : Prop :=
  ns.length = len ∧ (0 < len → ∃ b off, a = some ⟨b, off, none⟩ ∧ ∀ j, j < len → w.cell? ⟨b, off + j, none⟩ = some (.int .i64 (ns[j]?.getD 0)))

theorem IHas.lt {w : World} {a : Option Addr} {len : Nat} {zs : List Int} (h : IHas w a len zs) {b off : Nat} (hp : 0 < len) (e : a = some ⟨b, off, none⟩) : b < w.heap.size := by
  obtain ⟨b', off', e', hc⟩ := h.2 hp
  rw [e] at e'
  cases e'
  exact cell_block_lt (hc 0 hp)

theorem IHas.later {w w' : World} {a : Option Addr} {len : Nat} {zs : List Int} (h : IHas w a len zs) (hb : Below w.heap.size w w') : IHas w' a len zs := by
  refine ⟨h.1, fun hp => ?_⟩
  obtain ⟨b, off, e, hc⟩ := h.2 hp
  exact ⟨b, off, e, fun j hj => (hb.cell (p := ⟨b, off + j, none⟩) (h.lt hp e)).trans (hc j hj)⟩

/-- L bytes 0, with these bits turned on. -/
def lay (L : Nat) (ns : List Int) : List Int := ns.foldl (fun b i => setB b i.toNat true) (List.replicate L 0)

theorem foldl_len (ns b : List Int) : (ns.foldl (fun b i => setB b i.toNat true) b).length = b.length := by
  induction ns generalizing b with
  | nil => rfl
  | cons x ns ih => rw [List.foldl_cons, ih, setB_length]

theorem foldl_byts (ns b : List Int) (h : ∀ z ∈ b, 0 ≤ z ∧ z ≤ 255) : ∀ z ∈ ns.foldl (fun b i => setB b i.toNat true) b, 0 ≤ z ∧ z ≤ 255 := by
  induction ns generalizing b with
  | nil => exact h
  | cons x ns ih => rw [List.foldl_cons]; exact ih _ (setB_byts h _ _)

theorem lay_length (L : Nat) (ns : List Int) : (lay L ns).length = L := by rw [lay, foldl_len, List.length_replicate]

theorem zero_byts (L : Nat) : ∀ z ∈ List.replicate L (0 : Int), 0 ≤ z ∧ z ≤ 255 := by intro z hz; rw [List.eq_of_mem_replicate hz]; omega

theorem lay_byts (L : Nat) (ns : List Int) : ∀ z ∈ lay L ns, 0 ≤ z ∧ z ≤ 255 := foldl_byts ns _ (zero_byts L)

theorem lay_succ (L : Nat) (ns : List Int) (k : Nat) (hk : k < ns.length) : lay L (ns.take (k + 1)) = setB (lay L (ns.take k)) (ns[k]?.getD 0).toNat true := by
  rw [List.take_succ_eq_append_getElem hk, lay, List.foldl_append, List.getElem?_eq_getElem hk]
  rfl

/-- Is every number of the list one of n? -/
def allIn (n : Int) (ns : List Int) : Prop := ∀ z ∈ ns, 0 ≤ z ∧ z < n

def allB (n : Int) (ns : List Int) : Bool := ns.all (fun z => decide (0 ≤ z ∧ z < n))

theorem allB_yes {n : Int} {ns : List Int} (h : allIn n ns) : allB n ns = true := by simpa [allB, allIn] using h

theorem allB_no {n : Int} {ns : List Int} (h : ¬ allIn n ns) : ¬ allB n ns = true := fun e => h (by simpa [allB, allIn] using e)

/-- What Make answers. -/
def mke (n : Int) (ns : List Int) : Int := if n < 0 ∨ 65536 < n then 1 else if allB n ns then 0 else 2
def mkv (n : Int) (ns : List Int) : List Int := if n < 0 ∨ 65536 < n then [] else if allB n ns then lay ((n.toNat + 7) / 8) ns else []

theorem allIn_bad {n : Int} {ns : List Int} {k : Nat} (hk : k < ns.length) (h : ns[k]?.getD 0 < 0 ∨ n ≤ ns[k]?.getD 0) : ¬ allIn n ns := by
  intro ha
  rw [List.getElem?_eq_getElem hk, Option.getD_some] at h
  have := ha _ (List.getElem_mem hk)
  omega

theorem allIn_all {n : Int} {ns : List Int} (h : ∀ j, j < ns.length → 0 ≤ ns[j]?.getD 0 ∧ ns[j]?.getD 0 < n) : allIn n ns := by
  intro z hz
  obtain ⟨j, hj, rfl⟩ := List.getElem_of_mem hz
  have := h j hj
  rw [List.getElem?_eq_getElem hj, Option.getD_some] at this
  exact this

theorem make_block (w : World) (n : Nat) : Block (w.alloc (.cells (madeCells #[.int .u8 0] n) 5)) w.heap.size (List.replicate n 0) := by
  show (w.alloc _).heap[w.heap.size]? = _
  rw [World.alloc_heap_new, List.map_replicate, ← toList_madeCells_one, Array.toArray_toList]

set_option maxHeartbeats 1000000 in
theorem make_bad (a : Option Addr) (len cap : Nat) (n : Int) (w : World) (h : n < 0 ∨ 65536 < n) :
    Calls Try.prog 19 #[.int .i64 n, .slice a len cap] w fun e w' => e = .returned (.tuple #[.slice none 0 0, .int .i64 1]) ∧ w = w' := by
  by_cases h1 : n < 0
  · go_enter Try.func19, Try.ntmps19
    go_wp2
    go_ret2
    exact ⟨rfl, rfl⟩
  · have h2 : 65536 < n := by omega
    clear h
    go_enter Try.func19, Try.ntmps19
    go_wp2
    go_ret2
    exact ⟨rfl, rfl⟩

set_option maxRecDepth 100000 in
set_option maxHeartbeats 4000000 in
theorem make_good (a : Option Addr) (len cap : Nat) (N : Nat) (ns : List Int) (w : World) (hh : IHas w a len ns) (hl : len ≤ 140737488351232) (hN : N ≤ 65536) :
    Calls Try.prog 19 #[.int .i64 (N : Int), .slice a len cap] w fun e w' => (e = .returned (.tuple #[.slice none 0 0, .int .i64 2]) ∧ ¬ allIn (N : Int) ns ∨ e = .returned (.tuple #[.slice (some ⟨w.heap.size, 0, none⟩) ((N + 7) / 8) ((N + 7) / 8), .int .i64 0]) ∧ allIn (N : Int) ns ∧ Hid (Block w' w.heap.size (lay ((N + 7) / 8) ns))) ∧ Below w.heap.size w w' := by
  obtain ⟨L, hL⟩ : ∃ L, (N + 7) / 8 = L := ⟨_, rfl⟩
  rw [hL]
  have hLi : ((N : Int) + 7) / 8 = (L : Int) := by omega
  have hL8 : L ≤ 8192 := by omega
  have hmk := run_make_row' (P := Try.prog) 22 5 (.int .u8 0) 1 Try.underlying22 info5 rfl .i64 .i64 L (by omega) (by omega)
  have hb0 : Below w.heap.size w (w.alloc (.cells (madeCells #[.int .u8 0] L) 5)) := (Below.refl _ w).alloc (Nat.le_refl _) _
  have HB := hide (make_block w L)
  have HH := hide hh
  have hlen := hh.1
  clear hh
  go_enter Try.func19, Try.ntmps19
  go_wp2
  go_loopw [21] (fun i wr => ∃ k : Nat, k ≤ len ∧ i = .int .i64 (k : Int) ∧ Hid (∀ j, j < k → 0 ≤ ns[j]?.getD 0 ∧ ns[j]?.getD 0 < (N : Int)) ∧ Hid (Block wr w.heap.size (lay L (ns.take k))) ∧ Hid (Below w.heap.size w wr)) (fun i _ => len - (intOf i).toNat)
  case atStart => exact ⟨0, Nat.zero_le _, rfl, fun j hj => by omega, HB, hb0⟩
  case round =>
    obtain ⟨k, hk, rfl, hj, hBk, hbk⟩ := hrel
    clear HB hmk hb0 hLi
    by_cases hlt : k < len
    · obtain ⟨b, off, rfl, hc⟩ := (HH.out.later hbk.out).2 (by omega)
      have hck := hc k hlt
      have HBad := hide (@allIn_bad (N : Int) ns k (by omega))
      have HL := hide (lay_succ L ns k (by omega))
      have HJ : Hid (0 ≤ ns[k]?.getD 0 ∧ ns[k]?.getD 0 < (N : Int) → ∀ j, j < k + 1 → 0 ≤ ns[j]?.getD 0 ∧ ns[j]?.getD 0 < (N : Int)) := by
        intro h j hjk
        by_cases he : j = k
        · subst he; exact h
        · exact hj.out j (by omega)
      generalize ns[k]?.getD 0 = z at *
      clear hc
      by_cases h1 : z < 0
      · have HN : Hid (¬ allIn (N : Int) ns) := HBad.out (.inl h1)
        clear HBad HL HJ
        go_wp2
        go_ret2
        exact ⟨.inl ⟨rfl, HN.out⟩, hbk.out⟩
      by_cases h2 : (N : Int) ≤ z
      · have HN : Hid (¬ allIn (N : Int) ns) := HBad.out (.inr h2)
        clear HBad HL HJ
        go_wp2
        go_ret2
        exact ⟨.inl ⟨rfl, HN.out⟩, hbk.out⟩
      · obtain ⟨m, rfl⟩ := Int.eq_ofNat_of_zero_le (show 0 ≤ z by omega)
        rw [Int.toNat_natCast] at HL
        have HJ' : Hid (∀ j, j < k + 1 → 0 ≤ ns[j]?.getD 0 ∧ ns[j]?.getD 0 < (N : Int)) := HJ.out ⟨by omega, by omega⟩
        have hll := lay_length L (ns.take k)
        have hby := lay_byts L (ns.take k)
        have hlt8 := byteN_lt hby (m / 8)
        have hcg := hBk.out.cell (i := m / 8) (by omega)
        have hfg := hBk.out.free (m / 8)
        rw [← byteN_int hby] at hcg
        have hr8 : m % 8 < 8 := Nat.mod_lt _ (by omega)
        obtain ⟨hp0, hp1⟩ := pow_bd hr8
        have hO := u8_or_nat (byteN (lay L (ns.take k)) (m / 8)) (2 ^ (m % 8)) hlt8 hp1
        rw [bit_or hlt8 hr8] at hO
        have M : Hid (∀ w, Calls Try.prog 26 #[.int .i64 (m : Int)] w fun e w' => e = .returned (.int .u8 ((2 ^ (m % 8) : Nat) : Int)) ∧ w' = w) := fun w => mask_same m w (by omega) _ rfl
        have HS : Hid (∀ (wx : World), Block wx w.heap.size (lay L (ns.take k)) → Block (wx.setCell ⟨w.heap.size, m / 8, none⟩ (.int .u8 ((sb (byteN (lay L (ns.take k)) (m / 8)) (m % 8) true : Nat) : Int))) w.heap.size (lay L (ns.take (k + 1)))) := fun wx h => by rw [HL.out]; exact h.set _ _
        have hqw : IntKind.i64.wrap ((m : Int) / 8) = ((m / 8 : Nat) : Int) := by rw [IntKind.wrap_i64]; omega
        have hql : m / 8 < L := by omega
        have hql' : ((m / 8 : Nat) : Int) < (L : Int) := by omega
        clear HBad HJ HL hby hll
        generalize sb (byteN (lay L (ns.take k)) (m / 8)) (m % 8) true = y at *
        generalize byteN (lay L (ns.take k)) (m / 8) = x at *
        generalize 2 ^ (m % 8) = p at *
        generalize m / 8 = q at *
        go_wp2
        go_region_with ((go_at_call 26; refine (unhide M _).mono ?_; rintro e w' ⟨rfl, rfl⟩))
        all_goals go_wp2
        all_goals exact ⟨⟨k + 1, by omega, by go_num, HJ', unhide HS _ hBk.out, (hbk.out.drew).setCell (Nat.le_refl _) _⟩, by simp [intOf]; omega⟩
    · obtain rfl : k = len := by omega
      have HA : Hid (allIn (N : Int) ns) := allIn_all (fun j hjl => hj.out j (by omega))
      go_wp2
      go_ret2
      refine ⟨.inr ⟨rfl, HA.out, ?_⟩, hbk.out⟩
      have := hBk.out
      rw [List.take_of_length_le (by omega)] at this
      exact this

end Go.Proofs.Ytdgddlgdmkkejaa
