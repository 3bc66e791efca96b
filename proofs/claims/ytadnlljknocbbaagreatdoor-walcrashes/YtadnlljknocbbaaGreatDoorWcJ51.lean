/- Joined: WWrt, WCrs, WCrs2. -/
import Derived.Test.YtadnlljknocbbaaGreatDoorWcJ50
import Derived.Test.YtadnlljknocbbaaGreatDoorWcJ48
import Derived.ArgAppend
/- The contract of written: an image with blocks written. -/
namespace Go.Proofs.YtadnlljknocbbaaGreatDoor
open Go.RowKit Go.Shelf Go.Maps
set_option linter.unusedVariables false
set_option maxRecDepth 100000

/-- A row by its bytes. -/
def rowF (n : Nat) (f : Nat → Int) : List Int := (List.range n).map f

theorem rowF_len (n : Nat) (f : Nat → Int) : (rowF n f).length = n := by simp [rowF]

theorem rowF_congr {n : Nat} {f g : Nat → Int} (h : ∀ m, m < n → f m = g m) : rowF n f = rowF n g := List.map_congr_left (fun m hm => h m (List.mem_range.1 hm))

theorem rowF_set {n : Nat} (f : Nat → Int) {k : Nat} (hk : k < n) (v : Int) : (rowF n f).set k v = rowF n (fun m => if m = k then v else f m) := by
  refine List.ext_getElem? (fun m => ?_)
  rw [List.getElem?_set, rowF_len]
  by_cases e : k = m
  · subst e
    rw [if_pos rfl, if_pos hk]
    simp [rowF, hk]
  · rw [if_neg e]
    by_cases h : m < n
    · simp [rowF, h, show ¬ m = k from fun x => e x.symm]
    · simp [rowF, h]

theorem range_split (a b : Nat) : List.range (a + b) = List.range a ++ (List.range b).map (a + ·) := by
  rw [List.range_add]

/-- An image by its bytes. -/
theorem img_row (t : Nat → List Int) : ∀ k, (∀ i, i < k → (t (sG.ib + i)).length = 64) → imgL sG t k = rowF (k * 64) (fun m => (t (11 + m / 64))[m % 64]?.getD 0)
  | 0, _ => rfl
  | k + 1, h => by
    rw [imgL_succ, img_row t k (fun i hi => h i (by omega))]
    unfold rowF
    rw [Nat.succ_mul, range_split, List.map_append, List.map_map]
    congr 1
    have hl := h k (by omega)
    have ib : sG.ib = 11 := rfl
    rw [ib] at hl ⊢
    refine List.ext_getElem? (fun m => ?_)
    by_cases hm : m < 64
    · have e1 : (k * 64 + m) / 64 = k := by omega
      simp [hm, Function.comp_def, e1, Nat.mod_eq_of_lt hm, List.getElem?_eq_getElem (show m < (t (11 + k)).length by omega)]
    · rw [List.getElem?_eq_none (by omega)]
      simp [hm]

/-- The bytes while block b is written: k of z are there. -/
def wF (f : Nat → Int) (b : Nat) (z : List Int) (k m : Nat) : Int := if 11 + m / 64 = b ∧ m % 64 < k then z[m % 64]?.getD 0 else f m

theorem wF_zero (f : Nat → Int) (b : Nat) (z : List Int) (m : Nat) : wF f b z 0 m = f m := by
  unfold wF
  rw [if_neg (by omega)]

theorem wF_step (f : Nat → Int) {b : Nat} (hb : 11 ≤ b) (z : List Int) {k : Nat} (hk : k < 64) (m : Nat) : (if m = (b - 11) * 64 + k then z[k]?.getD 0 else wF f b z k m) = wF f b z (k + 1) m := by
  unfold wF
  by_cases e : m = (b - 11) * 64 + k
  · rw [if_pos e, if_pos (by omega)]
    have : m % 64 = k := by omega
    rw [this]
  · rw [if_neg e]
    by_cases h : 11 + m / 64 = b ∧ m % 64 < k
    · rw [if_pos h, if_pos (by omega)]
    · rw [if_neg h, if_neg (by omega)]

/-- The bytes when the first i of a list are written. -/
def tF (t : Nat → List Int) (W : Wl) (m : Nat) : Int := (wrt t W (11 + m / 64))[m % 64]?.getD 0

theorem wF_done (t : Nat → List Int) (W : Wl) (b : Nat) (z : List Int) (m : Nat) : wF (tF t W) b z 64 m = tF t (W ++ [(b, z)]) m := by
  unfold wF tF
  rw [wrt_snoc]
  have : m % 64 < 64 := Nat.mod_lt _ (by omega)
  by_cases e : 11 + m / 64 = b
  · rw [if_pos ⟨e, this⟩, if_pos e]
  · rw [if_neg (fun h => e h.1), if_neg e]

/-- The law's row, while it is written. -/
structure WI (w : World) (B : Nat) (g c : Nat) (f : Nat → Int) (u : World) : Prop where
  own : Own B u (some ⟨g, 0, none⟩) 3136 c (rowF 3136 f)
  kp : Kp w sP u
  gw : w.heap.size < g

theorem WI.drewN {w : World} {B g c : Nat} {f : Nat → Int} {u : World} (h : WI w B g c f u) (q : Nat) : WI w B g c f (u.drewN q) := ⟨h.own, h.kp.drewN q, h.gw⟩

theorem WI.drew {w : World} {B g c : Nat} {f : Nat → Int} {u : World} (h : WI w B g c f u) : WI w B g c f u.drew := ⟨h.own, h.kp.drew, h.gw⟩

theorem WI.store {w : World} {B g c : Nat} {f : Nat → Int} {u : World} (h : WI w B g c f u) {m : Nat} (hm : m < 3136) (v : Int) : WI w B g c (fun j => if j = m then v else f j) (u.setCell ⟨g, m, none⟩ (.int .u8 v)) := by
  refine ⟨?_, ⟨?_, h.kp.2.setCell (p := ⟨g, m, none⟩) (Nat.le_of_lt h.gw) _⟩, h.gw⟩
  · have := h.own.set m v
    rwa [rowF_set f hm v] at this
  · have hb : Below g u (u.setCell ⟨g, m, none⟩ (.int .u8 v)) := (Below.refl _ u).setCell (p := ⟨g, m, none⟩) (Nat.le_refl _) _
    exact h.kp.1.below hb h.gw

theorem WI.congr {w : World} {B g c : Nat} {f f' : Nat → Int} {u : World} (h : WI w B g c f u) (e : ∀ m, m < 3136 → f m = f' m) : WI w B g c f' u := ⟨by rw [← rowF_congr e]; exact h.own, h.kp, h.gw⟩

/-- append([]byte{}, all...). -/
theorem wi_start {w : World} {a : Option Addr} {c : Nat} {f : Nat → Int} (h : Has w a 3136 (rowF 3136 f)) :
    ∃ g c' u, (∀ ty, (Builtin.append_ #[50, 50] ty #[.slice (some ⟨(w.alloc (.cells (Pc sP) 25)).heap.size, 0, none⟩) 0 0, .slice a 3136 c]).run Tryz.prog ((w.alloc (.cells (Pc sP) 25)).alloc (.cells #[] 5)) = .ok (.slice (some ⟨g, 0, none⟩) 3136 c') u) ∧ WI w w.heap.size g c' f u := by
  have k0 := Kp.start w sP
  have k1 := k0.alloc (.cells #[] 5)
  have hz : (w.alloc (.cells (Pc sP) 25)).heap.size = w.heap.size + 1 := by simp
  have h1 : Has ((w.alloc (.cells (Pc sP) 25)).alloc (.cells #[] 5)) a 3136 (rowF 3136 f) := by
    refine ⟨h.1, fun hp => ?_⟩
    obtain ⟨q, off, e, hc⟩ := h.2 hp
    exact ⟨q, off, e, fun j hj => (k1.2.cell (p := ⟨q, off + j, none⟩) (cell_block_lt (hc j hj))).trans (hc j hj)⟩
  have hn := World.alloc_heap_new (w.alloc (.cells (Pc sP) 25)) (.cells #[] 5)
  have ho : Own (w.heap.size + 1) ((w.alloc (.cells (Pc sP) 25)).alloc (.cells #[] 5)) (some ⟨(w.alloc (.cells (Pc sP) 25)).heap.size, 0, none⟩) 0 0 [] :=
    ⟨rfl, Nat.le_refl _, by unfold maxLen; omega, .inr ⟨_, #[], rfl, by omega, hn, rfl, rfl⟩⟩
  obtain ⟨a', c', u, r, o, _, b⟩ := run_append_bytes ho (by simp) c h1 (by omega)
  rw [Nat.zero_add, List.nil_append] at o
  obtain ⟨g, rfl, hg, _⟩ := o.cell (j := 0) (by omega)
  refine ⟨g, c', u, fun ty => by have := r ty; rwa [Nat.zero_add] at this, o.base (by omega), ⟨k1.1.below b (by have := k1.1.lt; omega), k1.2.trans (b.mono (by omega))⟩, by omega⟩

set_option maxHeartbeats 4000000 in
theorem written_any (a0 : Option Addr) (c0 : Nat) (t : Nat → List Int) (ht : ∀ i, i < 49 → (t (sG.ib + i)).length = 64) (a : Option Addr) (len cap : Nat) (V : List Wr) (w : World) (hA : Has w a0 3136 (imgL sG t 49)) (hV : WHas w a len V) (hl : len ≤ 4398046511104) (hok : LOk V len) :
    Calls Tryz.prog 40 #[.slice a0 3136 c0, Pv sP, .slice a len cap] w fun e w' => ∃ a' c', e = .returned (.slice a' 3136 c') ∧ Hid (Own w.heap.size w' a' 3136 c' (imgL sG (wrt t (wl V)) 49) ∧ (∀ i, i < 49 → (wrt t (wl V) (sG.ib + i)).length = 64) ∧ Below w.heap.size w w') := by
  rw [img_row t 49 ht] at hA
  obtain ⟨g, c', u0, hrun, hI⟩ := wi_start (c := c0) hA
  have hln := hV.ln
  have hwl : (wl V).length = len := by rw [wl_len, hln]
  have hwz : ∀ j, j < len → (wat V j).z.length = 64 := fun j hj => by
    have := (hV.row j hj).1
    rw [(hok j hj).1] at this
    exact this
  have htk : ∀ k, k < len → (wl V).take (k + 1) = (wl V).take k ++ [((wat V k).b.toNat, (wat V k).z)] := fun k hk => by
    rw [List.take_add_one]
    congr 1
    unfold wl wat
    rw [List.getElem?_map, List.getElem?_eq_getElem (show k < V.length by omega)]
    rfl
  have hwl64 : ∀ i, i < 49 → (wrt t (wl V) (sG.ib + i)).length = 64 := fun i hi => by
    have : ∀ n, n ≤ len → (wrt t ((wl V).take n) (sG.ib + i)).length = 64 := by
      intro n
      induction n with
      | zero => intro _; rw [List.take_zero]; exact ht i hi
      | succ n ih =>
        intro hn
        rw [htk n (by omega), wrt_snoc]
        split
        · exact hwz n (by omega)
        · exact ih (by omega)
    have := this len (Nat.le_refl _)
    rwa [List.take_of_length_le (by omega)] at this
  have J0 : Hid (WI w w.heap.size g c' (tF t ((wl V).take 0)) u0) := hI.congr (fun m _ => by rw [List.take_zero]; rfl)
  have R := hide hrun
  have KI : Hid (∀ k u, k < len → WI w w.heap.size g c' (tF t ((wl V).take k)) u → WI w w.heap.size g c' (wF (tF t ((wl V).take k)) (wat V k).b.toNat (wat V k).z 0) u) := fun k u _ h => h.congr (fun m _ => (wF_zero _ _ _ m).symm)
  have KE : Hid (∀ k u, k < len → WI w w.heap.size g c' (wF (tF t ((wl V).take k)) (wat V k).b.toNat (wat V k).z 64) u → WI w w.heap.size g c' (tF t ((wl V).take (k + 1))) u) := fun k u hk h => h.congr (fun m _ => by rw [wF_done, htk k hk])
  have KS : Hid (∀ k i u, k < len → i < 64 → WI w w.heap.size g c' (wF (tF t ((wl V).take k)) (wat V k).b.toNat (wat V k).z i) u → ∃ kb off b da dc qb qo z, a = some ⟨kb, off, none⟩ ∧ da = some ⟨qb, qo, none⟩ ∧ u.cell? ⟨kb, off + k * 2, none⟩ = some (.int .i64 b) ∧ u.cell? ⟨kb, off + k * 2 + 1, none⟩ = some (.slice da 64 dc) ∧ u.cell? ⟨qb, qo + i, none⟩ = some (.int .u8 z) ∧ ∃ m : Nat, m < 3136 ∧ IntKind.i64.wrap (b - 11) = b - 11 ∧ IntKind.i64.wrap ((b - 11) * 64) = (b - 11) * 64 ∧ IntKind.i64.wrap ((b - 11) * 64 + (i : Int)) = (m : Int) ∧
      (∃ y, u.cell? ⟨g, m, none⟩ = some (.int .u8 y)) ∧ u.frozen? ⟨g, m, none⟩ = false ∧ Hid (WI w w.heap.size g c' (wF (tF t ((wl V).take k)) (wat V k).b.toNat (wat V k).z (i + 1)) (u.setCell ⟨g, m, none⟩ (.int .u8 z)))) := fun k i u hk hi h => by
    obtain ⟨kb, off, e, hkb, hc⟩ := hV.cel (by omega)
    obtain ⟨o1, o2, o3⟩ := hok k hk
    obtain ⟨r1, r2, r3, r4, r5⟩ := hV.row k hk
    obtain ⟨qb, qo, eq, hqb, hqc⟩ := r5 (by omega)
    have c2 := (h.kp.2.cell (p := ⟨kb, off + k * 2 + 1, none⟩) hkb).trans (hc k hk).2
    rw [o1] at c2
    have hm : ((wat V k).b.toNat - 11) * 64 + i < 3136 := by omega
    obtain ⟨g2, eg, _, hgc, hgf⟩ := h.own.cell (j := ((wat V k).b.toNat - 11) * 64 + i) hm
    cases eg
    refine ⟨kb, off, (wat V k).b, (wat V k).da, (wat V k).dc, qb, qo, (wat V k).z[i]?.getD 0, e, eq, (h.kp.2.cell (p := ⟨kb, off + k * 2, none⟩) hkb).trans (hc k hk).1, c2, (h.kp.2.cell (p := ⟨qb, qo + i, none⟩) hqb).trans (hqc i (by omega)), ((wat V k).b.toNat - 11) * 64 + i, hm, by rw [IntKind.wrap_i64]; omega, by rw [IntKind.wrap_i64]; omega, by rw [IntKind.wrap_i64]; omega, ⟨_, hgc⟩, hgf, ?_⟩
    exact (h.store hm _).congr (fun m _ => wF_step _ (by omega) _ hi m)
  have KP : Hid (∀ f u, WI w w.heap.size g c' f u → u.cell? ⟨w.heap.size, 0, none⟩ = some (.int .i64 64) ∧ u.cell? ⟨w.heap.size, 5, none⟩ = some (.int .i64 11)) := fun f u h => ⟨h.kp.1.cell 0 (by omega), h.kp.1.cell 5 (by omega)⟩
  have KD : Hid (∀ f u q, WI w w.heap.size g c' f u → WI w w.heap.size g c' f (u.drewN q)) := fun f u q h => h.drewN q
  have KZ : Hid (∀ u, WI w w.heap.size g c' (tF t ((wl V).take len)) u → Own w.heap.size u (some ⟨g, 0, none⟩) 3136 c' (imgL sG (wrt t (wl V)) 49) ∧ (∀ i, i < 49 → (wrt t (wl V) (sG.ib + i)).length = 64) ∧ Below w.heap.size w u) := fun u h => by
    rw [List.take_of_length_le (by omega)] at h
    refine ⟨?_, hwl64, h.kp.2⟩
    rw [img_row _ 49 hwl64]
    exact h.own
  have hgw := hI.gw
  clear hA hV hok hI hrun hln hwl hwz htk hwl64 ht
  generalize sP = p at *
  go_enter Tryz.func40, Tryz.ntmps40
  go_upto_region 3 with (at_builtin; refine wpList_append_run 50 rfl _ _ rfl _ _ _ rfl rfl (unhide R) ?_; clear R)
  go_loopw [8] (fun i wr => ∃ k : Nat, k ≤ len ∧ i = .int .i64 (k : Int) ∧ Hid (WI w w.heap.size g c' (tF t ((wl V).take k)) wr)) (fun i _ => len - (intOf i).toNat)
  case atStart => exact ⟨0, Nat.zero_le _, rfl, J0⟩
  case round =>
    obtain ⟨k, hk, rfl, hJ⟩ := hrel
    clear J0
    by_cases hlt : k < len
    · have I0 := hide (unhide KI k wr hlt (unhide hJ))
      have KS2 : Hid (∀ i u, i < 64 → WI w w.heap.size g c' (wF (tF t ((wl V).take k)) (wat V k).b.toNat (wat V k).z i) u → _) := fun i u hi h => unhide KS k i u hlt hi h
      have KE2 : Hid (∀ u, WI w w.heap.size g c' (wF (tF t ((wl V).take k)) (wat V k).b.toNat (wat V k).z 64) u → WI w w.heap.size g c' (tF t ((wl V).take (k + 1))) u) := fun u h => unhide KE k u hlt h
      have i1 : (k : Int) < (len : Int) := by omega
      clear KI KS KE KZ hJ
      go_upto_region 6 with fail
      go_loopw [9] (fun i wr => ∃ j : Nat, j ≤ 64 ∧ i = .int .i64 (j : Int) ∧ Hid (WI w w.heap.size g c' (wF (tF t ((wl V).take k)) (wat V k).b.toNat (wat V k).z j) wr)) (fun i _ => 64 - (intOf i).toNat)
      case atStart => exact ⟨0, Nat.zero_le _, rfl, I0⟩
      case round =>
        obtain ⟨j, hj, rfl, hI⟩ := hrel
        clear I0
        obtain ⟨p0, p5⟩ := unhide KP _ _ (unhide hI)
        by_cases hlt2 : j < 64
        · obtain ⟨kb, off, b, da, dc, qb, qo, z, rfl, rfl, c1, c2, c3, m, hm, s1, s2, s3, ⟨y, c4⟩, c5, J2⟩ := unhide KS2 j wr hlt2 (unhide hI)
          have J3 := hide (unhide J2).drew
          have i2 : (j : Int) < 64 := by omega
          have j0 : (0 : Int) ≤ (j : Int) := by omega
          have k0 : (0 : Int) ≤ (k : Int) := by omega
          have m0 : (0 : Int) ≤ (m : Int) := by omega
          have m1 : (m : Int) < 3136 := by omega
          clear KS2 KE2 KD KP hI J2
          generalize w.heap.size = pb at *
          go_upto_region 8 with fail
          go_big_region
          go_wp2_with fail
          exact ⟨⟨j + 1, by omega, by go_num, J3⟩, by simp [intOf]; omega⟩
        · have i2 : ¬ (j : Int) < 64 := by omega
          obtain rfl : j = 64 := by omega
          have J2 := hide (unhide KE2 _ (unhide hI))
          clear KS2 KE2 KD hI
          go_wp2_with fail
          exact ⟨⟨k + 1, by omega, by go_num, J2⟩, by simp [intOf]; omega⟩
    · have i1 : ¬ (k : Int) < (len : Int) := by omega
      have ek : k = len := by omega
      rw [ek] at hJ
      have Z := hide (unhide KZ _ (unhide hJ))
      clear KI KS KE KZ hJ KP KD
      go_wp2_with fail
      go_ret
      exact ⟨_, _, rfl, Z⟩

end Go.Proofs.YtadnlljknocbbaaGreatDoor

/- WalCrashes: its memory and its calls. -/
namespace Go.Proofs.YtadnlljknocbbaaGreatDoor
open Go.RowKit Go.Shelf Go.Maps
set_option linter.unusedVariables false
set_option maxRecDepth 100000

/-- An image as a string. -/
def imgT (t : Nat → List Int) : ByteArray := strOfNums (imgL sG t 49)

theorem imgL_congr {t t' : Nat → List Int} (h : ∀ j, sG.ib ≤ j → j < sG.n → t j = t' j) : imgL sG t 49 = imgL sG t' 49 := by
  unfold imgL
  congr 1
  refine List.map_congr_left (fun i hi => h _ (by omega) ?_)
  have := List.mem_range.1 hi
  show 11 + i < 60
  omega

/-- What stays of a row of the law. -/
theorem TG.own {w : World} {g dg : Nat} {L : Lg} {D : Dev} {us : List (Nat × World)} {u : World} {S : Nat → Prop} (h : TG w g dg L D us u S) {B : Nat} {ub : World} (hm : (B, ub) ∈ us) {a : Option Addr} {n c : Nat} {xs : List Int} (ho : Own B ub a n c xs) : Own B u a n c xs :=
  ho.kept (fun k e => ((h.kp _ hm).2 k (ho.lt e).2.1 (ho.lt e).1).2)

/-- While commits are made: the image that the law has is t. -/
structure CL (w : World) (g dg : Nat) (v12 v14 : Value) (t : Nat → List Int) (L : Lg) (D : Dev) (us : List (Nat × World)) (u : World) (S : Nat → Prop) : Prop where
  tg : TG w g dg L D us u S
  len : ∀ i, i < 49 → (t (sG.ib + i)).length = 64
  st : ∃ B ub ao co, (B, ub) ∈ us ∧ v12 = .slice ao 3136 co ∧ Own B ub ao 3136 co (imgL sG t 49)
  ss : ∃ B ub ks, (B, ub) ∈ us ∧ v14 = .slice (some ⟨ks, 0, none⟩) 1 1 ∧ B ≤ ks ∧ Bl ub ks #[.string (imgT t)] 9

/-- Before a call of the first loop. -/
def C1 (w : World) (g dg : Nat) (v12 v14 : Value) (u : World) : Prop := ∃ t L D us S, CL w g dg v12 v14 t L D us u S ∧ Sb sG L D ∧ ∀ j, sG.ib ≤ j → j < sG.n → imgf L D.rd j = t j

/-- Behind it: done (0) or cut off (7). -/
def C2 (w : World) (g dg : Nat) (v12 v14 : Value) (W : Wl) (E : Int) (u : World) : Prop := ∃ t L D us S, CL w g dg v12 v14 t L D us u S ∧ ((E = 0 ∧ Sb sG L D ∧ ∀ j, sG.ib ≤ j → j < sG.n → imgf L D.rd j = wrt t W j) ∨ (E = 7 ∧ Cra sG D [t, wrt t W]))

theorem CL.later {w : World} {g dg : Nat} {v12 v14 : Value} {t : Nat → List Int} {L : Lg} {D : Dev} {us : List (Nat × World)} {u u' : World} {S : Nat → Prop} (h : CL w g dg v12 v14 t L D us u S) (hb : Below u.heap.size u u') : CL w g dg v12 v14 t L D us u' S := ⟨h.tg.later hb, h.len, h.st, h.ss⟩

theorem C2.later {w : World} {g dg : Nat} {v12 v14 : Value} {W : Wl} {E : Int} {u u' : World} (h : C2 w g dg v12 v14 W E u) (hb : Below u.heap.size u u') : C2 w g dg v12 v14 W E u' := by
  obtain ⟨t, L, D, us, S, h, r⟩ := h
  exact ⟨t, L, D, us, S, h.later hb, r⟩

theorem C2.bel {w : World} {g dg : Nat} {v12 v14 : Value} {W : Wl} {E : Int} {u : World} (h : C2 w g dg v12 v14 W E u) : Below w.heap.size w u := by
  obtain ⟨t, L, D, us, S, h, r⟩ := h
  exact h.tg.bel

theorem C1.bel {w : World} {g dg : Nat} {v12 v14 : Value} {u : World} (h : C1 w g dg v12 v14 u) : Below w.heap.size w u := by
  obtain ⟨t, L, D, us, S, h, r⟩ := h
  exact h.tg.bel

/-- What a call answers, and leaves. -/
def CA (w : World) (g dg : Nat) (v12 v14 : Value) (V : List Wr) (xl : Nat) (E : Int) (u : World) : Prop := (E ≠ 0 ∧ E ≠ 7 ∧ C1 w g dg v12 v14 u) ∨ ((E = 0 ∨ E = 7) ∧ LOk V xl ∧ C2 w g dg v12 v14 (wl V) E u)

theorem c_commit {w : World} {g dg : Nat} {v12 v14 : Value} {u : World} (h : C1 w g dg v12 v14 u) {xa : Option Addr} {xl xc : Nat} {V : List Wr} (hV : WArg w xa xl xc V) (h0 : xl ≠ 0) :
    Calls Tryz.prog 15 #[.pointer (some ⟨g, 0, none⟩), .slice xa xl xc] u fun e u' => ∃ E : Int, e = .returned (.int .i64 E) ∧ Hid (CA w g dg v12 v14 V xl E u') := by
  obtain ⟨t, L, D, us, S, h, hs, ht⟩ := h
  have hln := hV.has.ln
  refine (tg_commit h.tg hV).mono ?_
  rintro e u' ⟨rfl, X⟩
  obtain ⟨S', h'⟩ := unhide X
  refine ⟨_, rfl, ?_⟩
  rcases hs.cmt sG_ok V (by omega) with ⟨c1, c2, c3, c4⟩ | ⟨c0, c1⟩
  · rw [c3, c4] at h'
    exact .inl ⟨c1, c2, t, L, D, us, S', ⟨h', h.len, h.st, h.ss⟩, hs, ht⟩
  · obtain ⟨Ps, hI⟩ := hs.inv
    refine .inr ⟨by rcases c1 with c | c; exact .inl c.1; exact .inr c.1, lok_of c0 hI.ok.seq hln, t, _, _, us, S', ⟨h', h.len, h.st, h.ss⟩, ?_⟩
    rcases c1 with ⟨c1, c2, c3⟩ | ⟨c1, c2⟩
    · exact .inl ⟨c1, c2, fun j a b => (c3 j a b).trans (wrt_congr (ht j a b) _)⟩
    · refine .inr ⟨c1, c2.congr (fun s hs => ?_)⟩
      simp only [List.mem_cons, List.not_mem_nil, or_false] at hs
      rcases hs with rfl | rfl
      · exact ⟨t, by simp, ht⟩
      · exact ⟨wrt t (wl V), by simp, fun j a b => wrt_congr (ht j a b) _⟩

theorem c_apply {w : World} {g dg : Nat} {v12 v14 : Value} {u : World} (h : C1 w g dg v12 v14 u) {xa : Option Addr} {xl xc : Nat} {V : List Wr} (hV : WArg w xa xl xc V) (h0 : xl = 0) :
    Calls Tryz.prog 17 #[.pointer (some ⟨g, 0, none⟩)] u fun e u' => ∃ E : Int, e = .returned (.int .i64 E) ∧ Hid (CA w g dg v12 v14 V xl E u') := by
  obtain ⟨t, L, D, us, S, h, hs, ht⟩ := h
  have hln := hV.has.ln
  have hn : V = [] := List.length_eq_zero_iff.1 (by omega)
  refine (tg_apply h.tg).mono ?_
  rintro e u' ⟨rfl, X⟩
  obtain ⟨S', h'⟩ := unhide X
  refine ⟨_, rfl, .inr ⟨?_, fun j hj => by omega, t, _, _, us, S', ⟨h', h.len, h.st, h.ss⟩, ?_⟩⟩
  · rcases hs.aply sG_ok with c | c
    · exact .inl c.1
    · exact .inr c.1
  · rw [hn]
    rcases hs.aply sG_ok with ⟨c1, c2, c3, _⟩ | ⟨c1, _, c3⟩
    · exact .inl ⟨c1, c2, fun j a b => (c3 j a b).trans (ht j a b)⟩
    · refine .inr ⟨c1, c3.congr (fun s hs => ?_)⟩
      simp only [List.mem_cons, List.not_mem_nil, or_false] at hs
      subst hs
      exact ⟨t, by simp, ht⟩

theorem c_sound {w : World} {g dg : Nat} {v12 v14 : Value} {W : Wl} {E : Int} {u : World} (h : C2 w g dg v12 v14 W E u) {xa : Option Addr} {xl xc : Nat} {V : List Wr} (hV : WArg w xa xl xc V) (hok : LOk V xl) :
    Calls Tryz.prog 39 #[Pv sP, .slice xa xl xc] u fun e u' => e = .returned (.bool true) ∧ Hid (C2 w g dg v12 v14 W E u') := by
  refine (sound_yes xa xl xc V u (hV.has.later h.bel) hV.lb hok).mono ?_
  rintro e u' ⟨rfl, b⟩
  exact ⟨rfl, h.later b⟩

/-- Behind written, all done. -/
def C3 (w : World) (g dg : Nat) (a : Option Addr) (c : Nat) (u : World) : Prop := ∃ t L D B ub S, TG w g dg L D [(B, ub)] u S ∧ (∀ i, i < 49 → (t (sG.ib + i)).length = 64) ∧ Own B ub a 3136 c (imgL sG t 49) ∧ Sb sG L D ∧ ∀ j, sG.ib ≤ j → j < sG.n → imgf L D.rd j = t j

/-- .., cut off. -/
def C4 (w : World) (g dg : Nat) (a : Option Addr) (c : Nat) (v14 : Value) (u : World) : Prop := ∃ t t' L D B ub S B2 ub2 ks, TG w g dg L D [(B, ub), (B2, ub2)] u S ∧ Own B ub a 3136 c (imgL sG t' 49) ∧ v14 = .slice (some ⟨ks, 0, none⟩) 1 1 ∧ B2 ≤ ks ∧ Bl ub2 ks #[.string (imgT t)] 9 ∧ Cra sG D [t, t']

theorem c_written {w : World} {g dg : Nat} {v12 v14 : Value} {E : Int} {u : World} {xa : Option Addr} {xl xc : Nat} {V : List Wr} (h : C2 w g dg v12 v14 (wl V) E u) (hV : WArg w xa xl xc V) (hok : LOk V xl) :
    Calls Tryz.prog 40 #[v12, Pv sP, .slice xa xl xc] u fun e u' => ∃ a c, e = .returned (.slice a 3136 c) ∧ Hid ((E = 0 → C3 w g dg a c u') ∧ (E = 7 → C4 w g dg a c v14 u')) := by
  obtain ⟨t, L, D, us, S, h, r⟩ := h
  obtain ⟨B, ub, ao, co, hm, rfl, ho⟩ := h.st
  refine (written_any ao co t h.len xa xl xc V u (h.tg.own hm ho).has (hV.has.later h.tg.bel) hV.lb hok).mono ?_
  rintro e u' ⟨a, c, rfl, X⟩
  obtain ⟨o1, l1, b1⟩ := unhide X
  refine ⟨a, c, rfl, fun e0 => ?_, fun e7 => ?_⟩
  · rcases r with ⟨_, r1, r2⟩ | ⟨r0, _⟩
    · exact ⟨_, L, D, u.heap.size, u', S, (h.tg.add b1).sub (fun p hp => by simp at hp; rw [hp]; simp), l1, o1, r1, r2⟩
    · omega
  · rcases r with ⟨r0, _⟩ | ⟨_, r1⟩
    · omega
    · obtain ⟨B2, ub2, ks, hm2, e14, hks, hbl⟩ := h.ss
      refine ⟨t, _, L, D, u.heap.size, u', S, B2, ub2, ks, (h.tg.add b1).sub (fun p hp => ?_), o1, e14, hks, hbl, r1⟩
      simp only [List.mem_cons, List.not_mem_nil, or_false] at hp
      rcases hp with rfl | rfl
      · simp
      · exact List.mem_cons_of_mem _ hm2

/-- states = []string{string(start)}. -/
theorem c_new {w : World} {g dg : Nat} {a : Option Addr} {c : Nat} {u : World} (h : C3 w g dg a c u) :
    ∃ s, (convert 50 9 (.slice a 3136 c)).run Tryz.prog u = .ok (.string s) u ∧ Hid (C1 w g dg (.slice a 3136 c) (.slice (some ⟨u.heap.size, 0, none⟩) 1 1) (u.alloc (.cells #[.string s] 9))) := by
  obtain ⟨t, L, D, B, ub, S, h, hl, ho, hs, ht⟩ := h
  refine ⟨imgT t, (h.own (by simp) ho).has.conv c, ?_⟩
  have hb : Below u.heap.size u (u.alloc (.cells #[.string (imgT t)] 9)) := (Below.refl _ _).alloc (Nat.le_refl _) _
  exact ⟨t, L, D, _, S, ⟨h.add hb, hl, ⟨B, ub, a, c, by simp, rfl, ho⟩, ⟨_, _, _, by simp, rfl, Nat.le_refl _, Bl.new u _ 9⟩⟩, hs, ht⟩

/-- What the law will compare with. -/
structure CS (ks m cs : Nat) (T : List (Nat → List Int)) (B : Nat) (ub : World) : Prop where
  eq : m = T.length
  le : m ≤ 2
  cap : m ≤ cs
  low : B ≤ ks
  lt : ks < ub.heap.size
  cel : ∀ i t, T[i]? = some t → ub.cell? ⟨ks, i, none⟩ = some (.string (imgT t))

/-- In the second loop, ahead of a crash. -/
def CE (w : World) (dg : Nat) (T : List (Nat → List Int)) (B : Nat) (ub u : World) : Prop := ∃ g L D S, TG w g dg L D [(B, ub)] u S ∧ Cra sG D T

theorem info9s : (Tryz.prog.info? 9).map (fun i => (i.zero, i.size, i.bytes)) = some (some (.string ⟨#[]⟩), 1, 16) := by kernel_rfl

/-- states = append(states, string(start)). -/
theorem c_app {w : World} {g dg : Nat} {a : Option Addr} {c : Nat} {v14 : Value} {u : World} (h : C4 w g dg a c v14 u) :
    ∃ s ks cs T u2, (convert 50 9 (.slice a 3136 c)).run Tryz.prog u = .ok (.string s) u ∧ (∀ ty, (Builtin.append_ #[71, 71] ty #[v14, .slice (some ⟨u.heap.size, 0, none⟩) 1 1]).run Tryz.prog (u.alloc (.cells #[.string s] 9)) = .ok (.slice (some ⟨ks, 0, none⟩) 2 cs) u2) ∧ Hid (∃ B ub, CS ks 2 cs T B ub ∧ CE w dg T B ub u2) := by
  obtain ⟨t, t', L, D, B, ub, S, B2, ub2, ks, h, ho, rfl, hks, hbl, hc⟩ := h
  have hb : Below u.heap.size u (u.alloc (.cells #[.string (imgT t')] 9)) := (Below.refl _ _).alloc (Nat.le_refl _) _
  have hk1 : Bl u ks #[.string (imgT t)] 9 := ((h.kp (B2, ub2) (by simp)).2 ks hks hbl.lt).2.trans hbl
  have hk2 := hk1.call hb
  have hn := Bl.new u #[.string (imgT t')] 9
  obtain ⟨i0, hi, hz0, hz1, hz2⟩ := info_parts info9s
  have hz := hb.size
  have hrun : ∀ ty, ∃ v' w', (Builtin.append_ #[71, 71] ty #[.slice (some ⟨ks, 0, none⟩) 1 1, .slice (some ⟨u.heap.size, 0, none⟩) 1 1]).run Tryz.prog (u.alloc (.cells #[.string (imgT t')] 9)) = .ok v' w' ∧ w'.ownsRow (u.alloc (.cells #[.string (imgT t')] 9)).heap.size 9 1 v' (1 + 1) ([.string (imgT t)] ++ [.string (imgT t')]) ∧ (u.alloc (.cells #[.string (imgT t')] 9)).grownBy w' none := fun ty =>
    run_append_arg_grows (P := Tryz.prog) _ 71 ty 9 i0 (.string ⟨#[]⟩) 1 16 Tryz.underlying71 hi hz0 hz1 hz2 rfl (by decide) ⟨ks, 0, none⟩ 1 1 [.string (imgT t)] rfl (fun j z hj => by
      rw [World.add_zero_spot, Nat.zero_add]
      exact hk2.cell j z (by simpa using hj)) ⟨u.heap.size, 0, none⟩ 1 1 [.string (imgT t')] rfl (fun j z hj => by
      rw [World.add_zero_spot, Nat.zero_add]
      exact hn.cell j z (by simpa using hj)) (by omega) (by unfold maxLen; omega) (by omega)
  obtain ⟨v', w', r0, ow, hg⟩ := hrun 0
  have hty : ∀ ty, (Builtin.append_ #[71, 71] ty #[.slice (some ⟨ks, 0, none⟩) 1 1, .slice (some ⟨u.heap.size, 0, none⟩) 1 1]).run Tryz.prog (u.alloc (.cells #[.string (imgT t')] 9)) = .ok v' w' := fun ty => r0
  obtain ⟨_, ho2⟩ := ow
  rcases ho2 with ⟨_, hx⟩ | ⟨k2, cs, cur, rfl, hk, hh, hcs, hm, hsz, htk⟩
  · omega
  have bw : Below u.heap.size u w' := hb.grown hg hz (fun k e => by cases e)
  have hcur : ∀ j v, ([Value.string (imgT t), .string (imgT t')] : List Value)[j]? = some v → w'.cell? ⟨k2, j, none⟩ = some v := fun j v hj => by
    have hj2 : j < 2 := by have := (List.getElem?_eq_some_iff.1 hj).1; simpa using this
    have e4 : cur.toList[j]? = ([Value.string (imgT t), .string (imgT t')] : List Value)[j]? := by
      have : ([Value.string (imgT t), .string (imgT t')] : List Value) = cur.toList.take ((1 + 1) * 1) := htk.symm
      rw [this, List.getElem?_take, if_pos (by omega)]
    have B : Bl w' k2 cur 9 := hh
    exact B.cell j v (by rw [← Array.getElem?_toList, e4, hj])
  refine ⟨imgT t', k2, cs, [t, t'], w', (h.own (by simp) ho).has.conv c, hty, u.heap.size, w', ⟨rfl, Nat.le_refl _, hcs, by omega, (Array.getElem?_eq_some_iff.1 hh).1, fun i s hs => ?_⟩, g, L, D, S, (h.add bw).sub (fun p hp => by simp at hp; rw [hp]; simp), hc⟩
  match i, hs with
  | 0, hs => cases hs; exact hcur 0 _ rfl
  | 1, hs => cases hs; exact hcur 1 _ rfl
  | (i + 2), hs => simp at hs

/-- The first loop has ended without a death. -/
theorem c_end {w : World} {g dg : Nat} {v12 v14 : Value} {u : World} (h : C1 w g dg v12 v14 u) : ∃ ks cs T, v14 = .slice (some ⟨ks, 0, none⟩) 1 cs ∧ Hid (∃ B ub, CS ks 1 cs T B ub ∧ CE w dg T B ub u) := by
  obtain ⟨t, L, D, us, S, h, hs, ht⟩ := h
  obtain ⟨B2, ub2, ks, hm2, e14, hks, hbl⟩ := h.ss
  refine ⟨ks, 1, [t], e14, B2, ub2, ⟨rfl, by omega, Nat.le_refl _, hks, hbl.lt, fun i s hs => ?_⟩, g, L, D, S, h.tg.sub (fun p hp => by simp at hp; rw [hp]; exact hm2), (hs.cra sG_ok).congr (fun s hs => ?_)⟩
  · match i, hs with
    | 0, hs => cases hs; exact hbl.cell 0 _ rfl
    | (i + 1), hs => simp at hs
  · simp at hs
    subst hs
    exact ⟨t, by simp, ht⟩

end Go.Proofs.YtadnlljknocbbaaGreatDoor

/- WalCrashes: the crashes, and what is found at last. -/
namespace Go.Proofs.YtadnlljknocbbaaGreatDoor
open Go.RowKit Go.Shelf Go.Maps
set_option linter.unusedVariables false
set_option maxRecDepth 100000

/-- Behind a crash: a log stands there that will give one of T. -/
def CF (w : World) (dg : Nat) (T : List (Nat → List Int)) (B : Nat) (ub : World) (fz : Prop) (u : World) : Prop := ∃ g L D S L0 t, TG w g dg L D [(B, ub)] u S ∧ t ∈ T ∧ Sb sG L0 D ∧ (fz → D.f = -1) ∧ ∀ j, sG.ib ≤ j → j < sG.n → imgf L0 D.rd j = t j

/-- .. and it was opened. -/
def CG (w : World) (gn dg : Nat) (T : List (Nat → List Int)) (B : Nat) (ub : World) (fz : Prop) (u : World) : Prop := ∃ D S L0 t, TG w gn dg L0 D [(B, ub)] u S ∧ t ∈ T ∧ Sb sG L0 D ∧ (fz → D.f = -1) ∧ ∀ j, sG.ib ≤ j → j < sG.n → imgf L0 D.rd j = t j

theorem CE.bel {w : World} {dg : Nat} {T : List (Nat → List Int)} {B : Nat} {ub u : World} (h : CE w dg T B ub u) : Below w.heap.size w u := by
  obtain ⟨g, L, D, S, h, _⟩ := h
  exact h.bel

theorem CF.bel {w : World} {dg : Nat} {T : List (Nat → List Int)} {B : Nat} {ub : World} {fz : Prop} {u : World} (h : CF w dg T B ub fz u) : Below w.heap.size w u := by
  obtain ⟨g, L, D, S, L0, t, h, _⟩ := h
  exact h.bel

theorem ihas_later {w u : World} {a : Option Addr} {len : Nat} {ns : List Int} (h : IHas w a len ns) (hb : Below w.heap.size w u) (hlt : 0 < len → ∀ x, a = some x → x.block < w.heap.size) : IHas u a len ns := by
  refine ⟨h.1, fun hp => ?_⟩
  obtain ⟨b, off, e, hc⟩ := h.2 hp
  exact ⟨b, off, e, fun j hj => (hb.cell (p := ⟨b, off + j, none⟩) (hlt hp ⟨b, off, none⟩ e)).trans (hc j hj)⟩

/-- Crash. -/
theorem ce_crash {w : World} {dg : Nat} {T : List (Nat → List Int)} {B : Nat} {ub u : World} (h : CE w dg T B ub u) {a : Option Addr} {len cap : Nat} {ps : List Int} (hp : IArgW w a len cap ps) :
    Calls Tryz.prog 21 #[.pointer (some ⟨dg, 0, none⟩), .slice a len cap] u fun e u' => e = .returned (.int .i64 0) ∧ Hid (CF w dg T B ub True u') := by
  obtain ⟨g, L, D, S, h, hc⟩ := h
  refine (tg_crash h hp.cb hp.lt (ihas_later hp.has h.bel hp.lt)).mono ?_
  rintro e u' ⟨rfl, X⟩
  obtain ⟨S', h'⟩ := unhide X
  obtain ⟨L0, t, ht, hs, hf, hj⟩ := hc.crash ps
  exact ⟨rfl, g, L, _, S', L0, t, h', ht, hs, fun _ => hf, hj⟩

/-- Fuse. -/
theorem cf_fuse {w : World} {dg : Nat} {T : List (Nat → List Int)} {B : Nat} {ub : World} {fz : Prop} {u : World} (h : CF w dg T B ub fz u) (n : Int) (hn : n ≤ 9223372036854775807) :
    Calls Tryz.prog 19 #[.pointer (some ⟨dg, 0, none⟩), .int .i64 n] u fun e u' => ∃ E : Int, e = .returned (.int .i64 E) ∧ Hid (CF w dg T B ub False u') := by
  obtain ⟨g, L, D, S, L0, t, h, ht, hs, hf, hj⟩ := h
  obtain ⟨Sl, Sd, m, x⟩ := h.wl.lv
  refine (fuse_any dg n Sd D u x.dd hn).mono ?_
  rintro e u' ⟨rfl, d1, n1⟩
  have hbn : (D.fuseD n).n = D.n ∧ (D.fuseD n).blk = D.blk := by
    unfold Dev.fuseD
    split
    · exact ⟨rfl, rfl⟩
    · split <;> exact ⟨rfl, rfl⟩
  obtain ⟨l1, n2⟩ := x.dev d1 n1 hbn
  obtain ⟨s1, s2⟩ := hs.fuse n
  exact ⟨_, rfl, g, L, _, _, L0, t, h.nx (fun _ x => x) l1.lv n2, ht, s1, fun hx => hx.elim, fun j a b => by rw [s2]; exact hj j a b⟩

/-- Open. -/
theorem cf_open {w : World} {dg : Nat} {T : List (Nat → List Int)} {B : Nat} {ub : World} {fz : Prop} {u : World} (h : CF w dg T B ub fz u) :
    Calls Tryz.prog 23 #[.pointer (some ⟨dg, 0, none⟩), Pv sP] u fun e u' => ∃ gn, e = .returned (.tuple #[.pointer (some ⟨gn, 0, none⟩), .int .i64 0]) ∧ Hid (CG w gn dg T B ub fz u') := by
  obtain ⟨g, L, D, S, L0, t, h, ht, hs, hf, hj⟩ := h
  refine (tg_open h hs.dd (hs.parse sG_ok)).mono ?_
  rintro e u' ⟨gn, rfl, X⟩
  obtain ⟨_, S2, h2⟩ := unhide X
  exact ⟨gn, rfl, D, S2, L0, t, h2, ht, hs, hf, hj⟩

/-- Apply. -/
theorem cg_apply {w : World} {gn dg : Nat} {T : List (Nat → List Int)} {B : Nat} {ub : World} {fz : Prop} {u : World} (h : CG w gn dg T B ub fz u) :
    Calls Tryz.prog 17 #[.pointer (some ⟨gn, 0, none⟩)] u fun e u' => ∃ E : Int, e = .returned (.int .i64 E) ∧ (E = 0 ∨ E = 7) ∧ Hid (CE w dg T B ub u') ∧ Hid (E = 7 → Calls Tryz.prog 41 #[.pointer (some ⟨dg, 0, none⟩)] u' fun e u2 => e = .returned (.bool true) ∧ u' = u2) := by
  obtain ⟨D, S, L0, t, h, ht, hs, hf, hj⟩ := h
  refine (tg_apply h).mono ?_
  rintro e u' ⟨rfl, X⟩
  obtain ⟨S', h'⟩ := unhide X
  rcases hs.aply sG_ok with ⟨c1, c2, c3, _⟩ | ⟨c1, c2, c3⟩
  · refine ⟨_, rfl, .inl c1, ⟨gn, _, _, S', h', (c2.cra sG_ok).congr (fun s hs => ?_)⟩, fun e7 => by omega⟩
    simp at hs
    subst hs
    exact ⟨t, ht, fun j a b => (c3 j a b).trans (hj j a b)⟩
  · refine ⟨_, rfl, .inr c1, ⟨gn, _, _, S', h', c3.congr (fun s hs => ?_)⟩, fun e7 => ?_⟩
    · simp at hs
      subst hs
      exact ⟨t, ht, hj⟩
    · obtain ⟨Sl, Sd, m, x⟩ := h'.wl.lv
      obtain ⟨md, hD⟩ := x.dd
      obtain ⟨d0, d1, d2, d3, d4, d5⟩ := hD.cells
      rw [c2] at d4
      exact dead_dev dg u' true d4

/-- At last: Apply, image, and the string. -/
theorem cg_last {w : World} {gn dg : Nat} {T : List (Nat → List Int)} {B : Nat} {ub : World} {u : World} (h : CG w gn dg T B ub True u) {ks m cs : Nat} (hS : CS ks m cs T B ub) :
    Calls Tryz.prog 17 #[.pointer (some ⟨gn, 0, none⟩)] u fun e u' => e = .returned (.int .i64 0) ∧ Hid (Below w.heap.size w u') ∧ Hid (
      Calls Tryz.prog 38 #[.pointer (some ⟨dg, 0, none⟩), Pv sP] u' fun e u2 => ∃ a c s i0, e = .returned (.tuple #[.slice a 3136 c, .bool true]) ∧ i0 < m ∧ Hid (Below w.heap.size w u2) ∧ Hid (∀ v, Below u2.heap.size u2 v → (convert 50 9 (.slice a 3136 c)).run Tryz.prog v = .ok (.string s) v) ∧
        Hid (∀ i, i < m → ∃ si, (∀ v, Below u2.heap.size u2 v → v.cell? ⟨ks, i, none⟩ = some (.string si)) ∧ (i = i0 → si = s))) := by
  obtain ⟨D, S, L0, t, h, ht, hs, hf, hj⟩ := h
  have hst := hs.st (hf trivial)
  obtain ⟨y1, y2, y3⟩ := hst.aply sG_ok
  obtain ⟨a1, a2, a3, a4, a5, a6⟩ := hst.apl sG_ok
  refine (tg_apply h).mono ?_
  rintro e u' ⟨rfl, X⟩
  obtain ⟨S', h'⟩ := unhide X
  rw [y2, y3] at h'
  refine ⟨by rw [y1], h'.bel, (tg_image h' a2.live.2).mono ?_⟩
  rintro e u2 ⟨a, c, rfl, X2⟩
  obtain ⟨o2, b2, h2⟩ := unhide X2
  obtain ⟨i0, hi0⟩ := List.getElem?_of_mem ht
  have hlt : i0 < m := by
    have := (List.getElem?_eq_some_iff.1 hi0).1
    have := hS.eq
    omega
  have himg : imgL sG (apD sG L0 D).rd 49 = imgL sG t 49 := imgL_congr (fun j x y => by rw [a6 j x y]; exact hj j x y)
  rw [himg] at o2
  refine ⟨a, c, imgT t, i0, rfl, hlt, h2.bel, fun v hv => ?_, fun i hi => ?_⟩
  · exact (o2.below hv (Nat.le_refl _)).has.conv c
  · obtain ⟨ti, hti⟩ : ∃ ti, T[i]? = some ti := ⟨_, List.getElem?_eq_getElem (by have := hS.eq; omega)⟩
    have hc := hS.cel i ti hti
    have hk := ((h2.kp (B, ub) (by simp)).2 ks hS.low hS.lt).2
    have hkl : ks < u2.heap.size := Nat.lt_of_lt_of_le hS.lt (h2.kp (B, ub) (by simp)).1
    refine ⟨imgT ti, fun v hv => ?_, fun e => ?_⟩
    · rw [hv.cell (p := ⟨ks, i, none⟩) hkl, cell_eq hk i]
      exact hc
    · subst e
      rw [hi0] at hti
      cases hti
      rfl

theorem IArgW.later {w u : World} {a : Option Addr} {len cap : Nat} {ns : List Int} (h : IArgW w a len cap ns) (hb : Below w.heap.size w u) : IArgW u a len cap ns :=
  ⟨ihas_later h.has hb h.lt, h.lb, h.cb, fun hp x e => Nat.lt_of_lt_of_le (h.lt hp x e) hb.size, h.num⟩

theorem ILs.later {w u : World} {a : Option Addr} {len : Nat} (h : ILs w a len) (hb : Below w.heap.size w u) : ILs u a len :=
  ⟨h.1, fun hp => by
    obtain ⟨b, off, e, hlt, hc⟩ := h.2 hp
    refine ⟨b, off, e, Nat.lt_of_lt_of_le hlt hb.size, fun i hi => ?_⟩
    obtain ⟨xa, xl, xc, V, c1, hV⟩ := hc i hi
    exact ⟨xa, xl, xc, V, (hb.cell (p := ⟨b, off + i, none⟩) hlt).trans c1, hV.later hb⟩⟩

/-- The start. -/
theorem c_begin {w : World} {g dg : Nat} {u : World} (h : WD w.heap.size w g dg sL sD u) :
    Calls Tryz.prog 38 #[.pointer (some ⟨dg, 0, none⟩), Pv sP] u fun e u' => ∃ a c, e = .returned (.tuple #[.slice a 3136 c, .bool true]) ∧ Hid (C3 w g dg a c u') := by
  obtain ⟨S, h⟩ := h
  have hT : TG w g dg sL sD [] u S := ⟨h, fun p hp => by simp at hp⟩
  refine (tg_image hT sD_live.1).mono ?_
  rintro e u' ⟨a, c, rfl, X⟩
  obtain ⟨o, b, h'⟩ := unhide X
  refine ⟨a, c, rfl, sD.rd, sL, sD, u.heap.size, u', S, h', fun i hi => ?_, o, sL_st.sb, fun j _ _ => rfl⟩
  obtain ⟨Sl, Sd, m, x⟩ := h.lv
  have hn : sD.n = 60 := x.nd
  have hb : sD.blk = 64 := x.bd
  have ib : sG.ib = 11 := rfl
  rw [← hb]
  exact (x.dd.rd_byt (by omega)).1

theorem c3_fuse {w : World} {g dg : Nat} {a : Option Addr} {c : Nat} {u : World} (h : C3 w g dg a c u) (n : Int) (hn : n ≤ 9223372036854775807) :
    Calls Tryz.prog 19 #[.pointer (some ⟨dg, 0, none⟩), .int .i64 n] u fun e u' => ∃ E : Int, e = .returned (.int .i64 E) ∧ Hid (C3 w g dg a c u') := by
  obtain ⟨t, L, D, B, ub, S, h, hl, ho, hs, ht⟩ := h
  obtain ⟨Sl, Sd, m, x⟩ := h.wl.lv
  refine (fuse_any dg n Sd D u x.dd hn).mono ?_
  rintro e u' ⟨rfl, d1, n1⟩
  have hbn : (D.fuseD n).n = D.n ∧ (D.fuseD n).blk = D.blk := by
    unfold Dev.fuseD
    split
    · exact ⟨rfl, rfl⟩
    · split <;> exact ⟨rfl, rfl⟩
  obtain ⟨l1, n2⟩ := x.dev d1 n1 hbn
  obtain ⟨s1, s2⟩ := hs.fuse n
  exact ⟨_, rfl, t, L, _, B, ub, _, h.nx (fun _ x => x) l1.lv n2, hl, ho, s1, fun j a b => by rw [s2]; exact ht j a b⟩

theorem C3.bel {w : World} {g dg : Nat} {a : Option Addr} {c : Nat} {u : World} (h : C3 w g dg a c u) : Below w.heap.size w u := by
  obtain ⟨t, L, D, B, ub, S, h, _⟩ := h
  exact h.bel

theorem C4.bel {w : World} {g dg : Nat} {a : Option Addr} {c : Nat} {v : Value} {u : World} (h : C4 w g dg a c v u) : Below w.heap.size w u := by
  obtain ⟨t, t', L, D, B, ub, S, B2, ub2, ks, h, _⟩ := h
  exact h.bel

theorem C1.drewN {w : World} {g dg : Nat} {v12 v14 : Value} {u : World} (h : C1 w g dg v12 v14 u) (q : Nat) : C1 w g dg v12 v14 (u.drewN q) := by
  obtain ⟨t, L, D, us, S, h, r⟩ := h
  exact ⟨t, L, D, us, S, h.later (below_drewN (Below.refl _ _) q), r⟩

theorem C2.drewN {w : World} {g dg : Nat} {v12 v14 : Value} {W : Wl} {E : Int} {u : World} (h : C2 w g dg v12 v14 W E u) (q : Nat) : C2 w g dg v12 v14 W E (u.drewN q) := h.later (below_drewN (Below.refl _ _) q)

theorem C2.drew {w : World} {g dg : Nat} {v12 v14 : Value} {W : Wl} {E : Int} {u : World} (h : C2 w g dg v12 v14 W E u) : C2 w g dg v12 v14 W E u.drew := h.later ((Below.refl _ _).drew)

end Go.Proofs.YtadnlljknocbbaaGreatDoor

