/- Joined: CRUnDs, DescsWalk. -/
import Derived.Test.YtmdkcoenjadieaaDoorVJ44
import Derived.Test.YtmdkcoenjadieaaDoorVJ35
import Derived.OwnWalk
import Derived.Test.YtmdkcoenjadieaaDoorVJ28
import Derived.Test.YtmdkcoenjadieaaDoorVJ7
import Derived.Test.YtmdkcoenjadieaaDoorVJ5
/- Contracts of skerryref06.Undesc. -/
namespace Go.Proofs.YtmdkcoenjadieaaDoor
open Go.RowKit Go.Shelf
set_option linter.unusedVariables false
set_option maxRecDepth 100000

/-- append(l, x): one number behind a row of the call's own. -/
theorem append_int {B : Nat} {w : World} {a : Option Addr} {n c : Nat} {ns : List Int} (h : w.ownsRow B 3 1 (.slice a n c) n (ns.map (Value.int .i64))) (hB : B ≤ w.heap.size) (nb : Nat) (z : Int) (hz : w.cell? ⟨nb, 0, none⟩ = some (.int .i64 z)) (hn : n ≤ 65536) (hblk : ∀ k, (Value.slice a n c).ownBlock = some k → B ≤ k) :
    ∃ a' c' w', (∀ ty, (Builtin.append_ #[38, 38] ty #[.slice a n c, .slice (some ⟨nb, 0, none⟩) 1 1]).run Tryd.prog w = .ok (.slice a' (n + 1) c') w') ∧ w'.ownsRow B 3 1 (.slice a' (n + 1) c') (n + 1) ((ns ++ [z]).map (Value.int .i64)) ∧ Below B w w' := by
  obtain ⟨i0, hi, hz0, hz1, hz2⟩ := info_parts info3
  have hnews : ∀ (j : Nat) (u : Value), ([z].map (Value.int .i64))[j]? = some u → w.cell? ((⟨nb, 0, none⟩ : Addr).add j) = some u := by
    intro j u hj
    cases j with
    | zero => simp at hj; subst hj; simpa [Addr.add] using hz
    | succ j => simp at hj
  obtain ⟨v', w', hr, ho, hg, _⟩ := run_append_own (P := Tryd.prog) w B 38 0 3 i0 (.int .i64 0) 1 8 Tryd.underlying38 hi hz0 hz1 hz2 rfl (by decide) (.slice a n c) n _ h ⟨nb, 0, none⟩ 1 1 ([z].map (Value.int .i64)) rfl hnews (oneCell_ints [z]) (by unfold maxLen; omega) (by omega) hB
  rw [← List.map_append] at ho
  obtain ⟨a', c', rfl, hI⟩ := ihas_of_row ho
  exact ⟨a', c', w', fun ty => hr, ho, (Below.refl B w).grown hg hB hblk⟩

theorem own_blk {B : Nat} {w : World} {a : Option Addr} {n c : Nat} {xs : List Value} (h : w.ownsRow B 3 1 (.slice a n c) n xs) : ∀ k, (Value.slice a n c).ownBlock = some k → B ≤ k := by
  intro k e
  rcases h.2 with ⟨e1, _⟩ | ⟨g, cap, cur, e1, hg, _⟩
  · cases e1
    simp [Value.ownBlock] at e
  · cases e1
    simp [Value.ownBlock] at e
    omega

theorem own_alloc {B : Nat} {w : World} {v : Value} {n : Nat} {xs : List Value} (h : w.ownsRow B 3 1 v n xs) (o : Obj) : (w.alloc o).ownsRow B 3 1 v n xs := by
  refine ⟨h.1, ?_⟩
  rcases h.2 with h2 | ⟨g, cap, cur, e1, hg, hh, r⟩
  · exact .inl h2
  · refine .inr ⟨g, cap, cur, e1, hg, ?_, r⟩
    rw [Below.heap_alloc w o g (Array.getElem?_eq_some_iff.1 hh).1]
    exact hh

set_option maxHeartbeats 2000000 in
theorem refUndesc_size (a : Option Addr) (len cap : Nat) (w : World) (hl : len ≤ 140737488351232) (h : ¬ isSize (len : Int)) :
    Calls Tryd.prog 21 #[.slice a len cap] w fun e w' => e = .returned (.tuple #[.int .i64 0, .slice none 0 0, .int .i64 4]) ∧ Below w.heap.size w w' := by
  have K : Hid (∀ u, Calls Tryd.prog 45 #[.int .i64 (len : Int)] u fun e w' => e = .returned (.bool false) ∧ u = w') := fun u => size_no _ u h
  clear h
  go_enter Tryd.func21, Tryd.ntmps21
  go_wp2_with fail
  go_at_call 45
  refine (unhide K _).mono ?_
  rintro e w' ⟨rfl, rfl⟩
  clear K
  go_wp2_with fail
  go_ret3
  exact ⟨rfl, Below.refl _ _⟩

set_option maxHeartbeats 2000000 in
theorem refUndesc_big (a : Option Addr) (len cap : Nat) (zs : List Int) (w : World) (hr : Row w.heap.size w a len cap zs) (h : isSize (len : Int)) (hn : ((len : Int) - 10) / 2 < getVal zs 8 2) :
    Calls Tryd.prog 21 #[.slice a len cap] w fun e w' => e = .returned (.tuple #[.int .i64 0, .slice none 0 0, .int .i64 4]) ∧ Below w.heap.size w w' := by
  have hbd := size_bd h
  have K : Hid (∀ u, Calls Tryd.prog 45 #[.int .i64 (len : Int)] u fun e w' => e = .returned (.bool true) ∧ u = w') := fun u => size_yes _ u h
  have KG : Hid (∀ (at' n0 : Int) (u : World), at' ≤ 200000 → Below w.heap.size w u → Calls Tryd.prog 50 #[.slice a len cap, .int .i64 at', .int .i64 n0] u fun e w' => e = .returned (.int .i64 (getVal zs at' n0)) ∧ u = w') :=
    fun at' n0 u h1 hb => num_drop0 a len cap zs at' n0 u (hr.below hb hb.size) (by omega)
  obtain ⟨C, hC⟩ : ∃ C, getVal zs 8 2 = C := ⟨_, rfl⟩
  have KC : Hid (∀ u, Below w.heap.size w u → Calls Tryd.prog 50 #[.slice a len cap, .int .i64 8, .int .i64 2] u fun e w' => e = .returned (.int .i64 C) ∧ u = w') := fun u hb => by have := KG.out 8 2 u (by omega) hb; rwa [hC] at this
  rw [hC] at hn
  clear KG hC
  have hq1 : decide (C > ((len : Int) - 10) / 2) = true := by simpa using hn
  have hq2 : decide (C > Int.tdiv ((len : Int) - 10) 2) = true := by rw [Int.tdiv_eq_ediv_of_nonneg (by omega)]; exact hq1
  clear h hr hn
  go_enter Tryd.func21, Tryd.ntmps21
  go_wp2_with fail
  go_at_call 45
  refine (unhide K _).mono ?_
  rintro e w' ⟨rfl, rfl⟩
  clear K
  go_wp2_with fail
  go_at_call 50
  refine (unhide KC _ (Below.refl _ _)).mono ?_
  rintro e w' ⟨rfl, rfl⟩
  clear KC
  go_wp2_with fail
  go_ret3
  exact ⟨rfl, Below.refl _ _⟩

set_option maxHeartbeats 8000000 in
theorem refUndesc_cmp (a : Option Addr) (len cap : Nat) (zs xs : List Int) (w : World) (hr : Row w.heap.size w a len cap zs) (h : isSize (len : Int)) (N : Nat) (hN : getVal zs 8 2 = (N : Int)) (hn : 10 + 2 * N ≤ len) (hx : ∀ z ∈ xs, 0 ≤ z ∧ z ≤ 255) (r : Bool) (hd : decide (xs = zs) = !r)
    (KD : Hid (∀ u a' c', IHas u a' N (takeL zs N) → Calls Tryd.prog 19 #[.int .i64 (getVal zs 4 4), .slice a' N c', .int .i64 (len : Int)] u fun e w' => ∃ a5 n5 c5 E, e = .returned (.tuple #[.slice a5 n5 c5, .int .i64 E]) ∧ Hid (Has w' a5 n5 xs) ∧ Below u.heap.size u w')) :
    Calls Tryd.prog 21 #[.slice a len cap] w fun e w' => ∃ a' c', e = .returned (.tuple #[.int .i64 (if r then 0 else getVal zs 4 4), .slice a' (if r then 0 else N) c', .int .i64 (if r then 4 else 0)]) ∧ Hid (IHas w' a' (if r then 0 else N) (if r then [] else takeL zs N)) ∧ Below w.heap.size w w' := by
  have hbd := size_bd h
  have K : Hid (∀ u, Calls Tryd.prog 45 #[.int .i64 (len : Int)] u fun e w' => e = .returned (.bool true) ∧ u = w') := fun u => size_yes _ u h
  have KG : Hid (∀ (at' n0 : Int) (u : World), at' ≤ 200000 → Below w.heap.size w u → Calls Tryd.prog 50 #[.slice a len cap, .int .i64 at', .int .i64 n0] u fun e w' => e = .returned (.int .i64 (getVal zs at' n0)) ∧ u = w') :=
    fun at' n0 u h1 hb => num_drop0 a len cap zs at' n0 u (hr.below hb hb.size) (by omega)
  have KC : Hid (∀ u, Below w.heap.size w u → Calls Tryd.prog 50 #[.slice a len cap, .int .i64 8, .int .i64 2] u fun e w' => e = .returned (.int .i64 (N : Int)) ∧ u = w') := fun u hb => by have := KG.out 8 2 u (by omega) hb; rwa [hN] at this
  have hq1 : decide ((N : Int) > ((len : Int) - 10) / 2) = false := by simp; omega
  have hq2 : decide ((N : Int) > Int.tdiv ((len : Int) - 10) 2) = false := by rw [Int.tdiv_eq_ediv_of_nonneg (by omega)]; exact hq1
  have hN2 : N ≤ 2048 := by omega
  have hne := str_neq hx hr.2.2.2.1 r hd
  have HRow := hide hr
  have KH : Hid (∀ u a' c', Below w.heap.size w u → IHas u a' N (takeL zs N) → Calls Tryd.prog 19 #[.int .i64 (getVal zs 4 4), .slice a' N c', .int .i64 (len : Int)] u fun e w' => ∃ a5 n5 c5 E, e = .returned (.tuple #[.slice a5 n5 c5, .int .i64 E]) ∧ (convert 26 9 (.slice a5 n5 c5)).run Tryd.prog w' = .ok (.string (strOfNums xs)) w' ∧ (convert 26 9 (.slice a len cap)).run Tryd.prog w' = .ok (.string (strOfNums zs)) w' ∧ Hid (IHas w' a' N (takeL zs N)) ∧ Below u.heap.size u w') := by
    intro u a' c' hb hI
    refine (unhide KD u a' c' hI).mono ?_
    rintro e w' ⟨a5, n5, c5, E, rfl, hh, hb'⟩
    have hru := (hr.below hb hb.size).below hb' hb'.size
    exact ⟨a5, n5, c5, E, rfl, hh.out.conv c5, hru.has.conv cap, hI.later hb', hb'⟩
  clear h hr hd hn hN KD hx
  generalize strOfNums xs = S1 at *
  generalize strOfNums zs = S2 at *
  have HQ := hide (fun u (hb : Below w.heap.size w u) => unhide KG 4 4 u (by omega) hb)
  have HL : Hid (∀ k : Nat, takeL zs (k + 1) = takeL zs k ++ [getVal zs (10 + 2 * (k : Int)) 2]) := fun k => takeL_succ zs k
  go_enter Tryd.func21, Tryd.ntmps21
  go_wp2_with fail
  go_at_call 45
  refine (unhide K _).mono ?_
  rintro e w' ⟨rfl, rfl⟩
  clear K
  go_wp2_with fail
  go_at_call 50
  refine (unhide KC _ (Below.refl _ _)).mono ?_
  rintro e w' ⟨rfl, rfl⟩
  clear KC
  go_wp2_with fail
  go_loopw [6, 7] (fun s' i wr => ∃ (k : Nat) (a' : Option Addr) (c' : Nat), k ≤ N ∧ i = .int .i64 (k : Int) ∧ s' = .slice a' k c' ∧ Hid (wr.ownsRow w.heap.size 3 1 (.slice a' k c') k ((takeL zs k).map (Value.int .i64))) ∧ Hid (Below w.heap.size w wr)) (fun _ i _ => N - (intOf i).toNat)
  case atStart => exact ⟨0, none, 0, Nat.zero_le _, rfl, rfl, ⟨rfl, .inl ⟨rfl, rfl⟩⟩, Below.refl _ _⟩
  case round =>
    obtain ⟨k, a1, c1, hk, rfl, rfl, hO, hB⟩ := hrel
    by_cases hlt : k < N
    · have KV := hide (unhide KG (10 + 2 * (k : Int)) 2 wr (by omega) hB.out)
      have hsu := HL.out k
      obtain ⟨z, hz⟩ : ∃ z, getVal zs (10 + 2 * (k : Int)) 2 = z := ⟨_, rfl⟩
      rw [hz] at KV hsu
      have hcell : (wr.alloc (.cells #[.int .i64 z] 3)).cell? ⟨wr.heap.size, 0, none⟩ = some (.int .i64 z) := (Bl.new wr #[.int .i64 z] 3).cell 0 _ rfl
      have hbA : Below w.heap.size w (wr.alloc (.cells #[.int .i64 z] 3)) := hB.out.alloc hB.out.size _
      obtain ⟨a2, c2, w2, r2, o2, b2⟩ := append_int (own_alloc hO.out (.cells #[.int .i64 z] 3)) hbA.size wr.heap.size z hcell (by omega) (own_blk (own_alloc hO.out (.cells #[.int .i64 z] 3)))
      have HO : Hid (w2.ownsRow w.heap.size 3 1 (.slice a2 (k + 1) c2) (k + 1) ((takeL zs (k + 1)).map (Value.int .i64))) := by
        rw [hsu]; exact o2
      have HBn : Hid (Below w.heap.size w w2) := hbA.trans b2
      have R2 := hide r2
      clear r2 o2 b2 hcell hbA hO hB hsu hz
      go_wp2_with fail
      go_at_call 50
      refine (unhide KV).mono ?_
      rintro e w' ⟨rfl, rfl⟩
      clear KV
      go_wp2_with (at_builtin; refine wpList_append_run 38 rfl _ _ rfl _ _ _ rfl rfl (unhide R2) ?_; clear R2)
      exact ⟨⟨k + 1, a2, c2, by omega, by go_num, rfl, HO, HBn⟩, by simp [intOf]; omega⟩
    · obtain rfl : k = N := by omega
      obtain ⟨a3, c3, e3, hI⟩ := ihas_of_row hO.out
      cases e3
      have K4 := hide (unhide HQ wr hB.out)
      have K5 := hide (unhide KH wr a1 c1 hB.out hI)
      have K6 := hide (fun u (hb : Below w.heap.size w u) => unhide HQ u hb)
      clear hO hI HL KH HQ KG
      generalize hg : getVal zs 4 4 = q at *
      have HG := hide hg
      clear hg
      go_wp2_with fail
      go_at_call 50
      refine (unhide K4).mono ?_
      rintro e w' ⟨rfl, rfl⟩
      clear K4
      go_wp2_with fail
      go_at_call 19
      refine (unhide K5).mono ?_
      rintro e w5 ⟨a5, n5, c5, E, rfl, cv1, cv2, hI5, hb⟩
      replace hB := hide (bchain hB.out hb (Nat.le_refl _))
      clear hb K5
      cases r
      · go_wp2_with fail
        go_at_call 50
        refine (unhide K6 _ hB.out).mono ?_
        rintro e w' ⟨rfl, rfl⟩
        go_wp2_with fail
        go_ret3
        first
          | exact ⟨a1, c1, by first | rfl | (rw [← HG.out]; rfl), hI5, hB.out⟩
          | exact ⟨⟨a1, ⟨c1, by first | rfl | (rw [← HG.out]; rfl)⟩, hI5⟩, hB.out⟩
          | exact ⟨a1, ⟨c1, by first | rfl | (rw [← HG.out]; rfl)⟩, hI5, hB.out⟩
      · go_wp2_with fail
        go_ret3
        first
          | exact ⟨none, 0, rfl, ⟨rfl, fun h => absurd h (by simp)⟩, hB.out⟩
          | exact ⟨⟨none, ⟨0, rfl⟩, ⟨rfl, fun h => absurd h (by simp)⟩⟩, hB.out⟩
          | exact ⟨none, ⟨0, rfl⟩, ⟨rfl, fun h => absurd h (by simp)⟩, hB.out⟩

end Go.Proofs.YtmdkcoenjadieaaDoor

/- CodecDescs' walk. -/
namespace Go.Proofs.YtmdkcoenjadieaaDoor
open Go.RowKit Go.Shelf
set_option linter.unusedVariables false
set_option maxRecDepth 100000

theorem refDesc_err (q : Int) (a : Option Addr) (len cap : Nat) (ns : List Int) (b : Int) (w : World) (hi : IHas w a len ns) (hl : len ≤ 17592186043904) (he : descE b q ns ≠ 0) :
    Calls Tryd.prog 19 #[.int .i64 q, .slice a len cap, .int .i64 b] w fun e w' => e = .returned (.tuple #[.slice none 0 0, .int .i64 (descE b q ns)]) ∧ Below w.heap.size w w' := by
  have hlen := hi.1
  unfold descE at he ⊢
  by_cases h : isSize b
  · rw [if_pos (show (b = 64 ∨ b = 128 ∨ b = 256 ∨ b = 512 ∨ b = 1024 ∨ b = 2048 ∨ b = 4096) from h)] at he ⊢
    by_cases hf : descF q ns = true
    · rw [if_pos hf] at he ⊢
      by_cases hn : (b - 10) / 2 < (ns.length : Int)
      · rw [if_pos hn]
        exact refDesc_large q a len cap ns b w h hi hl hf (by rw [← hlen]; exact hn)
      · rw [if_neg hn] at he; exact absurd rfl he
    · rw [if_neg hf]
      exact refDesc_value q a len cap ns b w h hi hl (by simpa using hf)
  · rw [if_neg (show ¬ (b = 64 ∨ b = 128 ∨ b = 256 ∨ b = 512 ∨ b = 1024 ∨ b = 2048 ∨ b = 4096) from h)]
    exact refDesc_arg q a len cap ns b w h

theorem descE_fit {b q : Int} {ns : List Int} (h : descE b q ns = 0) : isSize b ∧ descF q ns = true := by
  unfold descE at h
  by_cases hs : isSize b
  · rw [if_pos (show (b = 64 ∨ b = 128 ∨ b = 256 ∨ b = 512 ∨ b = 1024 ∨ b = 2048 ∨ b = 4096) from hs)] at h
    by_cases hf : descF q ns = true
    · exact ⟨hs, hf⟩
    · rw [if_neg hf] at h; omega
  · rw [if_neg (show ¬ (b = 64 ∨ b = 128 ∨ b = 256 ∨ b = 512 ∨ b = 1024 ∨ b = 2048 ∨ b = 4096) from hs)] at h; omega

theorem refDesc_ok (q : Int) (a : Option Addr) (len cap : Nat) (ns : List Int) (b : Nat) (w : World) (hi : IHas w a len ns) (he : descE (b : Int) q ns = 0) :
    Calls Tryd.prog 19 #[.int .i64 q, .slice a len cap, .int .i64 (b : Int)] w fun e w' => ∃ a' c', e = .returned (.tuple #[.slice a' b c', .int .i64 0]) ∧ Hid (Has w' a' b (descB b q ns)) ∧ Below w.heap.size w w' := by
  have h := descE_fit he
  have h2 := descE_length he
  have hlen := hi.1
  exact refDesc_good q a len cap ns b w h.1 hi h.2 (by omega)

theorem desc_ans (q : Int) (a : Option Addr) (len cap : Nat) (ns : List Int) (b : Int) (hl : len ≤ 17592186043904) : ∃ E n L, ∀ u, Tab u → IHas u a len ns → WA 18 #[.int .i64 q, .slice a len cap, .int .i64 b] E n L u ∧ WA 19 #[.int .i64 q, .slice a len cap, .int .i64 b] E n L u := by
  by_cases he : descE b q ns = 0
  · obtain ⟨k, rfl⟩ := Int.eq_ofNat_of_zero_le (show 0 ≤ b by have := size_bd (descE_fit he).1; omega)
    refine ⟨0, k, descB k q ns, fun u hT hi => ⟨?_, refDesc_ok q a len cap ns k u hi he⟩⟩
    refine Calls.mono (desc_ok q a len cap ns k u hi hT he) ?_
    rintro e w' ⟨g, rfl, hg, hB, hb⟩
    exact ⟨_, _, rfl, hB.out.has (descB_length (descE_length he).1), hb⟩
  · refine ⟨descE b q ns, 0, [], fun u hT hi => ⟨?_, ?_⟩⟩
    · refine Calls.mono (desc_err q a len cap ns b u hi hl he) ?_
      rintro e w' ⟨rfl, hb⟩
      exact ⟨_, _, rfl, Has.nil _, hb⟩
    · refine Calls.mono (refDesc_err q a len cap ns b u hi hl he) ?_
      rintro e w' ⟨rfl, hb⟩
      exact ⟨_, _, rfl, Has.nil _, hb⟩

/-- A reader's answer with a list. -/
def RI (f : FuncId) (args : Array Value) (q : Int) (n : Nat) (ns : List Int) (qe : Int) (u : World) : Prop :=
  Calls Tryd.prog f args u fun e w' => ∃ a c, e = .returned (.tuple #[.int .i64 q, .slice a n c, .int .i64 qe]) ∧ Hid (IHas w' a n ns) ∧ Below u.heap.size u w'

theorem ri_err {f : FuncId} {args : Array Value} {u : World} (h : Calls Tryd.prog f args u fun e w' => e = .returned (.tuple #[.int .i64 0, .slice none 0 0, .int .i64 4]) ∧ Below u.heap.size u w') : RI f args 0 0 [] 4 u := by
  refine Calls.mono h ?_
  rintro e w' ⟨rfl, hb⟩
  exact ⟨_, _, rfl, ⟨rfl, fun h => absurd h (by omega)⟩, hb⟩

theorem undesc_ans (a : Option Addr) (len cap : Nat) (zs : List Int) : ∃ q n ns qe, n ≤ 65535 ∧ ∀ u, Tab u → Row u.heap.size u a len cap zs → RI 20 #[.slice a len cap] q n ns qe u ∧ RI 21 #[.slice a len cap] q n ns qe u := by
  by_cases h : descIs zs ∧ dN zs ≤ 65535
  · refine ⟨getVal zs 4 4, dN zs, takeL zs (dN zs), 0, h.2, fun u hT hr => ⟨?_, ?_⟩⟩
    · refine Calls.mono (undesc_is a len cap zs u hr hT h.1) ?_
      rintro e w' ⟨gr, rfl, hg, hR, hb⟩
      exact ⟨_, _, rfl, row_ihas hR.out, hb⟩
    · have hl := hr.1
      have hd := dN_le hr.2.2.2.1
      obtain ⟨h1, h2, h3⟩ := descE_length h.1.1
      rw [takeL_length] at h1
      have hN : getVal zs 8 2 = (dN zs : Int) := by
        unfold dN at h1 ⊢
        split
        · rename_i hc
          rw [if_pos hc] at h1
          omega
        · omega
      exact refUndesc_cmp a len cap zs zs u hr (by rw [← hl]; exact h3) (dN zs) hN (by omega) hr.2.2.2.1 false (by simp) fun u2 a' c' hI => by
        have hE := h.1.1
        rw [hl] at hE
        refine (refDesc_ok _ a' _ c' _ len u2 hI hE).mono ?_
        rintro e w' ⟨a5, c5, rfl, hh, hb⟩
        have hB := h.1.2
        rw [hl] at hB
        rw [hB] at hh
        exact ⟨_, _, _, _, rfl, hh, hb⟩
  · refine ⟨0, 0, [], 4, by omega, fun u hT hr => ?_⟩
    have hd := dN_le hr.2.2.2.1
    have hl := hr.1
    have hnot : ¬ descIs zs := fun hx => h ⟨hx, hd.1⟩
    refine ⟨ri_err (undesc_not a len cap zs u hr hT hnot), ?_⟩
    by_cases hs : isSize (len : Int)
    · have hbd := size_bd hs
      by_cases hc : ((len : Int) - 10) / 2 < getVal zs 8 2
      · exact ri_err (refUndesc_big a len cap zs u hr hs hc)
      · have hN : getVal zs 8 2 = (dN zs : Int) := by
          unfold dN
          rw [if_neg (by omega)]
          omega
        have hdn : 10 + 2 * dN zs ≤ len := by omega
        by_cases hE : descE (zs.length : Int) (getVal zs 4 4) (takeL zs (dN zs)) = 0
        · have he : descB zs.length (getVal zs 4 4) (takeL zs (dN zs)) ≠ zs := fun e => hnot ⟨hE, e⟩
          exact refUndesc_cmp a len cap zs (descB zs.length (getVal zs 4 4) (takeL zs (dN zs))) u hr hs (dN zs) hN hdn (descB_byts _ _ _) true (by simp; exact he) fun u2 a' c' hI => by
            have hE' := hE
            rw [hl] at hE'
            refine (refDesc_ok _ a' _ c' _ len u2 hI hE').mono ?_
            rintro e w' ⟨a5, c5, rfl, hh, hb⟩
            rw [← hl] at hh
            exact ⟨_, _, _, _, rfl, by rw [hl] at hh ⊢; exact hh, hb⟩
        · exact refUndesc_cmp a len cap zs [] u hr hs (dN zs) hN hdn (by simp) true (show decide ([] = zs) = false from decide_eq_false (fun e => by rw [← e] at hl; simp at hl; omega)) fun u2 a' c' hI => by
            refine (refDesc_err _ a' _ c' _ (len : Int) u2 hI (by omega) (by rw [← hl]; exact hE)).mono ?_
            rintro e w' ⟨rfl, hb⟩
            exact ⟨_, _, _, _, rfl, Has.nil _, hb⟩
    · exact ri_err (refUndesc_size a len cap u hr.2.2.1.1 hs)

set_option maxHeartbeats 16000000 in
theorem descs_walk (seq : Int) (al : Option Addr) (ll cl : Nat) (ns : List Int) (block : Int) (a : Option Addr) (len cap : Nat) (zs : List Int) (w : World) (hi : IHas w al ll ns) (hll : ll ≤ 17592186043904) (hr : Row w.heap.size w a len cap zs) (hT : Tab w) :
    Calls Tryd.prog 4 #[.int .i64 seq, .slice al ll cl, .int .i64 block, .slice a len cap] w fun e w' => e = .returned (.bool true) ∧ Below w.heap.size w w' := by
  obtain ⟨E1, n1, L1, S1⟩ := desc_ans seq al ll cl ns block hll
  obtain ⟨q, n2, ms, qe, hn2, S3⟩ := undesc_ans a len cap zs
  have K1 := hide (fun u (hb : Below w.heap.size w u) => (S1 u (hT.below hb (tab_size hT)) (hi.later hb)).1)
  have K2 := hide (fun u (hb : Below w.heap.size w u) => (S1 u (hT.below hb (tab_size hT)) (hi.later hb)).2)
  have K3 := hide (fun u (hb : Below w.heap.size w u) => (S3 u (hT.below hb (tab_size hT)) (hr.below hb hb.size)).1)
  have K4 := hide (fun u (hb : Below w.heap.size w u) => (S3 u (hT.below hb (tab_size hT)) (hr.below hb hb.size)).2)
  have KW := hide wakes_any
  have HB := hide (Below.refl w.heap.size w)
  clear hr hT hi S1 S3
  go_enter Tryd.func4, Tryd.ntmps4
  go_wp2_with fail
  go_at_call 8
  refine (unhide KW _).mono ?_
  rintro e w1 ⟨rfl, hb⟩
  replace HB := hide (bchain HB.out hb (Nat.le_refl _))
  clear hb KW
  go_wp2_with fail
  go_at_call 18
  refine Calls.mono (unhide K1 _ HB.out) ?_
  rintro e w2 ⟨a1, c1, rfl, h1, hb⟩
  replace HB := hide (bchain HB.out hb (Nat.le_refl _))
  clear hb K1
  go_wp2_with fail
  go_at_call 19
  refine Calls.mono (unhide K2 _ HB.out) ?_
  rintro e w3 ⟨a2, c2, rfl, h2, hb⟩
  replace HB := hide (bchain HB.out hb (Nat.le_refl _))
  replace h1 := hide (h1.out.later hb)
  clear hb K2
  go_wp2_with fail
  go_at_call 20
  refine Calls.mono (unhide K3 _ HB.out) ?_
  rintro e w4 ⟨a3, c3, rfl, h3, hb⟩
  replace HB := hide (bchain HB.out hb (Nat.le_refl _))
  replace h1 := hide (h1.out.later hb)
  replace h2 := hide (h2.out.later hb)
  clear hb K3
  go_wp2_with fail
  go_at_call 21
  refine Calls.mono (unhide K4 _ HB.out) ?_
  rintro e w5 ⟨a4, c4, rfl, h4, hb⟩
  replace HB := hide (bchain HB.out hb (Nat.le_refl _))
  have KA := hide (same_true a1 a2 n1 c1 c2 L1 w5 (h1.out.later hb) (h2.out.later hb))
  have KC := hide (sameInts_any a3 a4 n2 c3 c4 ms w5 (h3.out.later hb) h4.out (by omega))
  clear hb K4 h1 h2 h3 h4
  go_wp2_with fail
  go_at_call 17
  refine (unhide KA).mono ?_
  rintro e w' ⟨rfl, rfl⟩
  clear KA
  go_wp2_with fail
  go_at_call 22
  refine (unhide KC).mono ?_
  rintro e w' ⟨rfl, m, rfl⟩
  clear KC
  go_wp2_with fail
  go_ret
  exact ⟨rfl, below_drewN HB.out _⟩

end Go.Proofs.YtmdkcoenjadieaaDoor

