/- Joined: WCommit, WCommit2, WOps. -/
import Derived.Test.YtadnlljknocbbaaGreatDoorWcJ44
import Derived.Test.YtadnlljknocbbaaGreatDoorWcJ42
/- The contract of commit. -/
namespace Go.Proofs.YtadnlljknocbbaaGreatDoor
open Go.RowKit Go.Shelf Go.Maps
set_option linter.unusedVariables false
set_option maxRecDepth 100000

/-- A row that bytes.Clone has made, as one of the log's. -/
theorem Own.at9 {B : Nat} {w : World} {a : Option Addr} {n c : Nat} {zs : List Int} (h : Own B w a n c zs) (hp : 0 < n) (hz : ∀ z ∈ zs, 0 ≤ z ∧ z ≤ 255) {S : Nat → Prop} (hS : ∀ k, B ≤ k → k < w.heap.size → S k) : ∃ r, a = some ⟨r, 0, none⟩ ∧ RowAt w S n (r, c) zs := by
  obtain ⟨h1, h2, h3, h4⟩ := h
  rcases h4 with ⟨_, h0, _⟩ | ⟨g, cur, e, hg, hh, hc, ht⟩
  · omega
  · refine ⟨g, e, ⟨⟨h1, cur, hh, ?_⟩, hS g hg (Array.getElem?_eq_some_iff.1 hh).1, h2, h3, hz⟩⟩
    exact ht

/-- l.pending[b] = bytes.Clone(data). -/
theorem lj_put {w : World} {S : Nat → Prop} {g dg : Nat} {P : Nat → Int} {G : Geo} {cs : Array Value} {a : Option Addr} {len : Nat} {V : List Wr} {L : Lg} {D : Dev} {u : World} (h : LJ w S g dg P G cs a len V L D u) {k : Nat} (hk : k < len) (hd : (wat V k).dl = G.blk) (b : Nat) (hi : b < G.n) :
    ∃ mb, u.cell? ⟨g, 16, none⟩ = some (.map (some mb)) ∧ Hid (Calls Tryz.prog 73 #[.slice (wat V k).da (wat V k).dl (wat V k).dc] u fun e u1 => ∃ a' c', e = .returned (.slice a' G.blk c') ∧ Below u.heap.size u u1 ∧ u1.cell? ⟨g, 16, none⟩ = some (.map (some mb)) ∧ ∃ u2, (Instr.mapUpdate 95 (.map (some mb)) (.int .i64 (b : Int)) (.slice a' G.blk c')).run Tryz.prog u1 = .ok () u2 ∧
      Hid (LJ w S g dg P G cs a len V { L with Q := fun j => if j = b then some (wat V k).z else L.Q j } D u2)) := by
  obtain ⟨Sd, _, _, _, _, _, d6, _⟩ := h.step
  have hr := d6.row k hk
  have hG : G.Ok := by obtain ⟨_, _, x⟩ := h.lg; exact x.pg.ok
  have hbk := hG.blk
  obtain ⟨x, ex⟩ : ∃ x, (wat V k).da = some x := by
    obtain ⟨_, _, _, _, h5⟩ := hr
    obtain ⟨q, off, e, _⟩ := h5 (by rw [hd]; omega)
    exact ⟨_, e⟩
  obtain ⟨Sl, m, l1, l2⟩ := h.own
  refine ⟨m.mb, l1.cells.2.2.2.2.2.1, ?_⟩
  have hh := hr.has
  rw [ex, hd] at hh ⊢
  refine (bclone_any x G.blk (wat V k).dc (wat V k).z u hh (by omega)).mono ?_
  rintro e u1 ⟨a', c', rfl, o1, b1⟩
  obtain ⟨_, _, _, hbyt, _⟩ := hr
  have hlu : LgM u1 (exS Sl u u1) g dg P G L m := l1.kept (fun k hk => b1.block k (l1.lt k hk)) (fun k hk => .inl hk) (fun k hk => by
    rcases hk with hk | hk
    · exact Nat.lt_of_lt_of_le (l1.lt k hk) b1.size
    · exact hk.2)
  obtain ⟨r, er, hrow⟩ := o1.at9 (S := exS Sl u u1) (by omega) hbyt (fun k h1 h2 => .inr ⟨h1, h2⟩)
  obtain ⟨u2, r2, l3, n3⟩ := hlu.put hi hrow
  have e1 : rv G.blk (r, c') = .slice a' G.blk c' := by rw [er]
  rw [e1] at r2
  exact ⟨a', c', rfl, b1, hlu.cells.2.2.2.2.2.1, u2, r2, l2 _ _ _ _ l3 ((Nx.grow b1).trans n3)⟩

/-- What is pending when k of the list are. -/
theorem setW_snoc {Q : Nat → Option (List Int)} {V : List Wr} {k : Nat} (hk : k < V.length) (b : Nat) (hb : (wat V k).b = (b : Int)) : setW Q ((wl V).take (k + 1)) = fun j => if j = b then some (wat V k).z else setW Q ((wl V).take k) j := by
  have h1 : k < (wl V).length := by rw [wl_len]; exact hk
  rw [List.take_succ_eq_append_getElem h1, setW_append]
  have e : (wl V)[k] = (b, (wat V k).z) := by
    have : (wl V)[k]? = some ((wat V k).b.toNat, (wat V k).z) := by simp [wl, wat, List.getElem?_eq_getElem hk]
    rw [List.getElem?_eq_getElem h1, hb] at this
    simpa using this
  rw [e]
  rfl

/-- The list is one that is not refused. -/
structure Acc (G : Geo) (L : Lg) (len cap : Nat) (V : List Wr) : Prop where
  vok : VOk G V
  us : G.uses len ≤ G.lg
  sq : L.h.seq + G.parts len ≤ 4294967295
  cp : len ≤ cap ∧ cap ≤ 9223372036854775807

theorem after_ok {G : Geo} {H : Hd} (h : H.Ok G) {n : Nat} (hs : H.seq + G.parts n ≤ 4294967295) (hu : H.used + G.uses n ≤ G.lg) : (G.after H n).Ok G := ⟨hs, h.tail, hu⟩

/-- Behind writeParts: the header settles, then all of the list is pending. -/
theorem com_settle {w : World} {S : Nat → Prop} {g dg : Nat} {P : Nat → Int} {G : Geo} {L : Lg} {D : Dev} {u : World} {Su : Nat → Prop} (h : Lv u Su g dg P G L D) (hx : Nx S w Su u) {a : Option Addr} {len : Nat} {V : List Wr} (hV : WHas u a len V) (hO : WOut Su a len V) (H : Hd) (hH : H.Ok G) (u1 : World) (hu : Below u.heap.size u u1) :
    Calls Tryz.prog 100 #[.pointer (some ⟨g, 0, none⟩), Hv H.fn] u1 fun e u2 => e = .returned (.int .i64 (runE (stlS G H) D)) ∧
      Hid (Nx S w Su u1 ∧ LJ u1 Su g dg P G (Hc H.fn) a len V (if runE (stlS G H) D = 0 then { L with h := H } else L) (runD (stlS G H) D) u2) := by
  refine (settle_lj g dg Su P G L D H hH u1 (h.below hu) a len V (hV.later hu) hO).mono ?_
  rintro e u2 ⟨rfl, J⟩
  exact ⟨rfl, hx.below' hu, unhide J⟩

end Go.Proofs.YtadnlljknocbbaaGreatDoor

/- The contract of commit: the walk. -/
namespace Go.Proofs.YtadnlljknocbbaaGreatDoor
open Go.RowKit Go.Shelf Go.Maps
set_option linter.unusedVariables false
set_option maxRecDepth 100000

/-- There is room for the list. -/
def CJ0 (w : World) (S : Nat → Prop) (g dg : Nat) (P : Nat → Int) (G : Geo) (a : Option Addr) (len : Nat) (V : List Wr) (eE : Int) (eD : Dev) (eL : Lg) (u : World) : Prop :=
  ∃ Su L1 D1, Lv u Su g dg P G L1 D1 ∧ Nx S w Su u ∧ WHas u a len V ∧ WOut Su a len V ∧ L1.h.used + G.uses len ≤ G.lg ∧ L1.h.seq + G.parts len ≤ 4294967295 ∧ cmE0 G L1 (wl V) D1 = eE ∧ cmD0 G L1 (wl V) D1 = eD ∧ cmL0 G L1 (wl V) D1 = eL

/-- All parts are written. -/
def CJ1 (w : World) (S : Nat → Prop) (g dg : Nat) (P : Nat → Int) (G : Geo) (a : Option Addr) (len : Nat) (V : List Wr) (eE : Int) (eD : Dev) (eL : Lg) (H : Hd) (L1 : Lg) (u : World) : Prop :=
  ∃ Su D1, Lv u Su g dg P G L1 D1 ∧ Nx S w Su u ∧ WHas u a len V ∧ WOut Su a len V ∧ H.Ok G ∧ runE (stlS G H) D1 = eE ∧ runD (stlS G H) D1 = eD ∧ (eE = 0 → eL = { L1 with h := H, Q := setW L1.Q (wl V) }) ∧ (eE ≠ 0 → eL = L1)

theorem com_first {w : World} {S : Nat → Prop} {g dg : Nat} {P : Nat → Int} {G : Geo} {a : Option Addr} {len cap : Nat} {V : List Wr} {eE : Int} {eD : Dev} {eL : Lg} {u : World} (h : CJ0 w S g dg P G a len V eE eD eL u) (hv : VOk G V) (hc : len ≤ cap ∧ cap ≤ 9223372036854775807) :
    Calls Tryz.prog 99 #[.pointer (some ⟨g, 0, none⟩), .slice a len cap] u fun e u1 =>
      (e = .returned (.tuple #[Hv (fun _ => 0), .int .i64 7]) ∧ Hid (eE = 7 ∧ ∃ S', Lv u1 S' g dg P G eL eD ∧ Nx S w S' u1)) ∨
      ∃ H L1, e = .returned (.tuple #[.agg #[.int .i64 (H.seq : Int), .int .i64 (H.tail : Int), .int .i64 (H.used : Int)], .int .i64 0]) ∧ Hid (CJ1 w S g dg P G a len V eE eD eL H L1 u1) := by
  obtain ⟨Su, L1, D1, h1, h2, h3, h4, h5, h6, h7, h8, h9⟩ := h
  have hG : G.Ok := by obtain ⟨_, _, _, x⟩ := h1; exact x.ll.pg.ok
  have hh : L1.h.Ok G := by obtain ⟨_, _, _, x⟩ := h1; exact x.ll.hok
  have hl2 := hG.l2
  have htl := hh.tail
  refine (writeParts_any g dg Su P G L1 D1 u h1 a len cap V h3 h4 hv hc h6 (by omega)).mono ?_
  rintro e u1 ⟨p0, p7, X⟩
  obtain ⟨S', l1, n1⟩ := unhide X
  obtain ⟨y1, y2⟩ := h3.nx n1 h4
  have hwl : (wl V).length = len := by rw [wl_len, h3.ln]
  unfold cmE0 comS at h7
  unfold cmD0 comS at h8
  unfold cmL0 comS at h9
  rw [runE_append] at h7 h9
  rw [runD_append] at h8
  rw [hwl] at h7 h8 h9
  by_cases hp : runE (partsS G L1.h.seq (L1.h.tail + L1.h.used) (wl V)) D1 = 0
  · rw [if_pos hp] at h7 h8 h9
    refine .inr ⟨G.after L1.h len, L1, p0 hp, S', _, l1, h2.trans n1, y1, y2, after_ok hh h6 h5, h7, h8, fun h0 => ?_, fun h0 => ?_⟩
    · rw [h7, if_pos h0] at h9; exact h9.symm
    · rw [h7, if_neg h0] at h9; exact h9.symm
  · rw [if_neg hp] at h7 h8 h9
    refine .inl ⟨p7 hp, h7.symm, S', ?_, h2.trans n1⟩
    rw [← h8, ← h9, if_neg (by decide)]
    exact l1

/-- In the loop: k of the list are pending. -/
def CJ2 (w : World) (S : Nat → Prop) (g dg : Nat) (P : Nat → Int) (G : Geo) (a : Option Addr) (len : Nat) (V : List Wr) (eD : Dev) (eL : Lg) (k : Nat) (u : World) : Prop :=
  ∃ (u0 : World) (S0 : Nat → Prop) (H : Hd) (L1 : Lg), Nx S w S0 u0 ∧ LJ u0 S0 g dg P G (Hc H.fn) a len V { L1 with h := H, Q := setW L1.Q ((wl V).take k) } eD u ∧ eL = { L1 with h := H, Q := setW L1.Q (wl V) }

theorem CJ2.done {w : World} {S : Nat → Prop} {g dg : Nat} {P : Nat → Int} {G : Geo} {a : Option Addr} {len : Nat} {V : List Wr} {eD : Dev} {eL : Lg} {u : World} (h : CJ2 w S g dg P G a len V eD eL len u) : ∃ S', Lv u S' g dg P G eL eD ∧ Nx S w S' u := by
  obtain ⟨u0, S0, H, L1, n0, J, e⟩ := h
  obtain ⟨S', l1, n1, w1, _⟩ := J.fin2
  rw [List.take_of_length_le (by rw [wl_len, w1.ln]; omega)] at l1
  exact ⟨S', by rw [e]; exact l1, n0.trans n1⟩

/-- One round, in the world in which the copy stands. -/
theorem CJ2.step {w : World} {S : Nat → Prop} {g dg : Nat} {P : Nat → Int} {G : Geo} {a : Option Addr} {len : Nat} {V : List Wr} {eD : Dev} {eL : Lg} {k : Nat} {u : World} (h : CJ2 w S g dg P G a len V eD eL k u) (hv : VOk G V) (hk : k < len) (b : Nat) (hb : (wat V k).b = (b : Int)) (u1 : World) (hu : Below u.heap.size u u1) :
    ∃ mb, u1.cell? ⟨g, 16, none⟩ = some (.map (some mb)) ∧ Hid (Calls Tryz.prog 73 #[.slice (wat V k).da (wat V k).dl (wat V k).dc] u1 fun e u2 => ∃ a' c', e = .returned (.slice a' G.blk c') ∧ Below u1.heap.size u1 u2 ∧ u2.cell? ⟨g, 16, none⟩ = some (.map (some mb)) ∧ ∃ u3, (Instr.mapUpdate 95 (.map (some mb)) (.int .i64 (b : Int)) (.slice a' G.blk c')).run Tryz.prog u2 = .ok () u3 ∧
      Hid (CJ2 w S g dg P G a len V eD eL (k + 1) u3)) := by
  obtain ⟨u0, S0, H, L1, n0, J, e⟩ := h
  have hln : V.length = len := by
    obtain ⟨_, _, _, w1, _⟩ := J.fin2
    exact w1.ln
  have hvk := hv _ (wat_mem (V := V) (j := k) (by omega))
  obtain ⟨mb, c1, K⟩ := lj_put (J.below hu) hk hvk.1 b (by omega)
  refine ⟨mb, c1, (unhide K).mono ?_⟩
  rintro e' u2 ⟨a', c', rfl, hb2, c2, u3, r3, J3⟩
  refine ⟨a', c', rfl, hb2, c2, u3, r3, u0, S0, H, L1, n0, ?_, e⟩
  rw [setW_snoc (by omega) b hb]
  exact unhide J3

theorem CJ2.cell {w : World} {S : Nat → Prop} {g dg : Nat} {P : Nat → Int} {G : Geo} {a : Option Addr} {len : Nat} {V : List Wr} {eD : Dev} {eL : Lg} {k : Nat} {u : World} (h : CJ2 w S g dg P G a len V eD eL k u) (hv : VOk G V) (hk : k < len) : ∃ kb off b, a = some ⟨kb, off, none⟩ ∧ u.cell? ⟨kb, off + k * 2, none⟩ = some (.int .i64 ((b : Nat) : Int)) ∧ u.cell? ⟨kb, off + k * 2 + 1, none⟩ = some (.slice (wat V k).da (wat V k).dl (wat V k).dc) ∧ (wat V k).b = (b : Int) := by
  obtain ⟨u0, S0, H, L1, n0, J, e⟩ := h
  obtain ⟨_, _, _, w1, _⟩ := J.fin2
  obtain ⟨kb, off, ea, _, hc⟩ := w1.cel (by omega)
  have hvk := hv _ (wat_mem (V := V) (j := k) (by rw [w1.ln]; exact hk))
  have eb : (wat V k).b = ((wat V k).b.toNat : Int) := by have := hvk.2.1; omega
  refine ⟨kb, off, (wat V k).b.toNat, ea, ?_, (hc k hk).2, eb⟩
  rw [← eb]
  exact (hc k hk).1

set_option maxHeartbeats 4000000 in
theorem commit_any (g dg : Nat) (S : Nat → Prop) (P : Nat → Int) (G : Geo) (L : Lg) (D : Dev) (w : World) (h : Lv w S g dg P G L D) (a : Option Addr) (len cap : Nat) (V : List Wr) (hV : WHas w a len V) (hO : WOut S a len V) (hA : Acc G L len cap V) (hz : len ≠ 0) :
    Calls Tryz.prog 57 #[.pointer (some ⟨g, 0, none⟩), .slice a len cap] w fun e w' => e = .returned (.int .i64 (cmE G L (wl V) D)) ∧ ∃ S', Lv w' S' g dg P G (cmL G L (wl V) D) (cmD G L (wl V) D) ∧ Nx S w S' w' := by
  have hG : G.Ok := by obtain ⟨_, _, _, x⟩ := h; exact x.ll.pg.ok
  have hh : L.h.Ok G := by obtain ⟨_, _, _, x⟩ := h; exact x.ll.hok
  have hln := hV.ln
  have hus := hA.us
  have hl2 := hG.l2
  have hwl : (wl V).length = len := by rw [wl_len, hln]
  have hll : len ≤ 512 := by have : len ≤ G.uses len := Nat.le_add_right _ _; omega
  have KU : Hid (∀ u, Calls Tryz.prog 82 #[Pv P, .int .i64 (len : Int)] u fun e w' => e = .returned (.int .i64 (G.uses len : Int)) ∧ Below u.heap.size u w') := fun u => by
    obtain ⟨_, _, _, x⟩ := h
    exact uses_any P G x.ll.pg len (by omega) u
  have KR : Hid (∀ u, Below w.heap.size w u → Calls Tryz.prog 29 #[.pointer (some ⟨g, 0, none⟩)] u fun e w' => e = .returned (.int .i64 ((G.lg - L.h.used : Nat) : Int)) ∧ ∃ q, w' = u.drewN q) := fun u hb => by
    obtain ⟨Sl, _, m, x⟩ := h.below hb
    exact room_any g dg Sl P G L m u x.ll
  have KA : Hid (∀ u, Below w.heap.size w u → Calls Tryz.prog 63 #[.pointer (some ⟨g, 0, none⟩)] u fun e w' => e = .returned (.int .i64 (apE G L D)) ∧ Hid (∃ S', Lv w' S' g dg P G (apL G L D) (apD G L D) ∧ Nx S w S' w')) := fun u hb => by
    refine (apply_any g dg S P G L D u (h.below hb)).mono ?_
    rintro e w' ⟨rfl, S', l1, n1⟩
    exact ⟨rfl, S', l1, ((Nx.refl S w).below' hb).trans n1⟩
  have hap : apE G L D = 0 ∨ apE G L D = 7 := by
    unfold apE
    split
    · exact .inl rfl
    · exact runE_two _ _
  have K0 : Hid (∀ u, Below w.heap.size w u → ¬ G.lg - L.h.used < G.uses len → CJ0 w S g dg P G a len V (cmE G L (wl V) D) (cmD G L (wl V) D) (cmL G L (wl V) D) u) := fun u hb hr => by
    unfold cmE cmD cmL
    rw [hwl, if_neg hr, if_neg hr, if_neg hr]
    have := hh.used
    exact ⟨S, L, D, h.below hb, (Nx.refl S w).below' hb, hV.later hb, hO, by omega, hA.sq, rfl, rfl, rfl⟩
  have K1 : Hid (∀ u S', G.lg - L.h.used < G.uses len → apE G L D = 0 → Lv u S' g dg P G (apL G L D) (apD G L D) → Nx S w S' u → CJ0 w S g dg P G a len V (cmE G L (wl V) D) (cmD G L (wl V) D) (cmL G L (wl V) D) u) := fun u S' hr ha hl hx => by
    unfold cmE cmD cmL
    rw [hwl, if_pos hr, if_pos hr, if_pos hr, if_pos ha, if_pos ha, if_pos ha]
    obtain ⟨y1, y2⟩ := hV.nx hx hO
    have hu0 : (apL G L D).h.used = 0 ∧ (apL G L D).h.seq = L.h.seq := by
      unfold apE at ha
      unfold apL
      by_cases e0 : L.h.used = 0
      · rw [if_pos e0]; exact ⟨e0, rfl⟩
      · rw [if_neg e0] at ha
        rw [if_neg e0, if_pos ha]
        exact ⟨rfl, rfl⟩
    exact ⟨S', _, _, hl, hx, y1, y2, by rw [hu0.1]; omega, by rw [hu0.2]; exact hA.sq, rfl, rfl, rfl⟩
  have K2 : Hid (G.lg - L.h.used < G.uses len → apE G L D ≠ 0 → 7 = cmE G L (wl V) D ∧ apL G L D = cmL G L (wl V) D ∧ apD G L D = cmD G L (wl V) D) := fun hr ha => by
    unfold cmE cmD cmL
    rw [hwl, if_pos hr, if_pos hr, if_pos hr, if_neg ha, if_neg ha, if_neg ha]
    exact ⟨by omega, rfl, rfl⟩
  have KW : Hid (∀ u eE eD eL, CJ0 w S g dg P G a len V eE eD eL u → _) := fun u eE eD eL hC => com_first hC hA.vok hA.cp
  have KT : Hid (∀ u eE eD eL H L1 u1, CJ1 w S g dg P G a len V eE eD eL H L1 u → Below u.heap.size u u1 → Calls Tryz.prog 100 #[.pointer (some ⟨g, 0, none⟩), .agg #[.int .i64 (H.seq : Int), .int .i64 (H.tail : Int), .int .i64 (H.used : Int)]] u1 fun e u2 => e = .returned (.int .i64 eE) ∧ (eE = 0 ∨ eE = 7) ∧ (eE ≠ 0 → Hid (∃ S', Lv u2 S' g dg P G eL eD ∧ Nx S w S' u2)) ∧ (eE = 0 → Hid (CJ2 w S g dg P G a len V eD eL 0 u2))) := fun u eE eD eL H L1 u1 hC hu => by
    obtain ⟨Su, D1, h1, h2, h3, h4, h5, h6, h7, h8, h9⟩ := hC
    refine (com_settle h1 h2 h3 h4 H h5 u1 hu).mono ?_
    rintro e u2 ⟨rfl, X⟩
    obtain ⟨n1, J⟩ := unhide X
    rw [h6, h7] at J
    refine ⟨by rw [h6], by rw [← h6]; exact runE_two _ _, fun h0 => ?_, fun h0 => ?_⟩
    · rw [if_neg h0] at J
      obtain ⟨S', l1, n2⟩ := J.fin
      exact ⟨S', by rw [h9 h0]; exact l1, n1.trans n2⟩
    · rw [if_pos h0] at J
      exact ⟨u1, Su, H, L1, n1, by rw [List.take_zero]; exact J, h8 h0⟩
  have KC : Hid (∀ eD eL k u, CJ2 w S g dg P G a len V eD eL k u → k < len → _) := fun eD eL k u hC hk => hC.cell hA.vok hk
  have KS : Hid (∀ eD eL k u, CJ2 w S g dg P G a len V eD eL k u → k < len → ∀ b : Nat, (wat V k).b = (b : Int) → ∀ u1, Below u.heap.size u u1 → _) := fun eD eL k u hC hk b hb u1 hu => hC.step hA.vok hk b hb u1 hu
  have KE : Hid (∀ eD eL u, CJ2 w S g dg P G a len V eD eL len u → _) := fun eD eL u hC => hC.done
  have KP := hide (show ∀ u, Below w.heap.size w u → _ from fun u hb => (by obtain ⟨_, _, _, x⟩ := h.below hb; exact x.ll.plan : u.cell? ⟨g, 1, none⟩ = some (.int .i64 (P 0)) ∧ u.cell? ⟨g, 2, none⟩ = some (.int .i64 (P 1)) ∧ u.cell? ⟨g, 3, none⟩ = some (.int .i64 (P 2)) ∧ u.cell? ⟨g, 4, none⟩ = some (.int .i64 (P 3)) ∧ u.cell? ⟨g, 5, none⟩ = some (.int .i64 (P 4)) ∧ u.cell? ⟨g, 6, none⟩ = some (.int .i64 (P 5)) ∧ u.cell? ⟨g, 7, none⟩ = some (.int .i64 (P 6)) ∧ u.cell? ⟨g, 8, none⟩ = some (.int .i64 (P 7)) ∧ u.cell? ⟨g, 9, none⟩ = some (.int .i64 (P 8)) ∧ u.cell? ⟨g, 10, none⟩ = some (.int .i64 (P 9)) ∧ u.cell? ⟨g, 11, none⟩ = some (.int .i64 (P 10)) ∧ u.cell? ⟨g, 12, none⟩ = some (.int .i64 (P 11))))
  have d0 : ((len : Int) == 0) = false := by simpa using hz
  clear h hV hO hA hG hh hln hus hl2 hwl hz
  generalize cmE G L (wl V) D = eE at *
  generalize cmD G L (wl V) D = eD at *
  generalize cmL G L (wl V) D = eL at *
  generalize apE G L D = aE at *
  generalize apL G L D = aL at *
  generalize apD G L D = aD at *
  generalize hr1 : G.lg - L.h.used = rm at *
  generalize G.uses len = us at *
  clear hr1
  obtain ⟨q0, q1, q2, q3, q4, q5, q6, q7, q8, q9, q10, q11⟩ := unhide KP w (Below.refl _ _)
  clear KP
  go_enter Tryz.func57, Tryz.ntmps57
  go_wp2_with fail
  go_at_call 82
  refine (unhide KU _).mono ?_
  rintro e w1 ⟨rfl, hb1⟩
  have B1 := hide hb1
  clear KU hb1 q0 q1 q2 q3 q4 q5 q6 q7 q8 q9 q10 q11
  go_wp2_with fail
  go_at_call 29
  refine (unhide KR _ (unhide B1)).mono ?_
  rintro e w2 ⟨rfl, q, rfl⟩
  have B2 : Hid (Below w.heap.size w (w1.drewN q)) := below_drewN (unhide B1) q
  generalize w1.drewN q = w2 at *
  clear KR B1
  go_upto_if 23 with fail
  go_cut [] (fun wx => Hid (CJ0 w S g dg P G a len V eE eD eL wx))
  case first =>
    clear KW KT KC KS KE
    by_cases hr : rm < us
    · have d1 : (rm : Int) < (us : Int) := by omega
      rcases hap with rfl | rfl
      · go_wp2_with fail
        go_at_call 63
        refine (unhide KA _ (unhide B2)).mono ?_
        rintro e w3 ⟨rfl, X⟩
        have X2 : Hid (CJ0 w S g dg P G a len V eE eD eL w3) := by
          obtain ⟨S', l1, n1⟩ := unhide X
          exact unhide K1 w3 S' hr trivial l1 n1
        clear KA X K0 K1 K2 hr d1
        go_wp2_with fail
        go_meet
        exact X2
      · go_wp2_with fail
        go_at_call 63
        refine (unhide KA _ (unhide B2)).mono ?_
        rintro e w3 ⟨rfl, X⟩
        have Y := hide (unhide K2 hr (by decide))
        clear KA K0 K1 K2 hr d1
        go_wp2_with fail
        go_ret
        obtain ⟨y1, y2, y3⟩ := unhide Y
        subst y1 y2 y3
        exact ⟨rfl, unhide X⟩
    · have d1 : ¬ (rm : Int) < (us : Int) := by omega
      have X2 := hide (unhide K0 _ (unhide B2) hr)
      clear KA K0 K1 K2 hr
      go_wp2_with fail
      go_meet
      exact X2
  case rest =>
    clear KA K0 K1 K2 B2 hap
    go_wp2_with fail
    go_at_call 99
    refine (unhide KW _ _ _ _ (unhide hcut)).mono ?_
    rintro e w3 (⟨rfl, X⟩ | ⟨H, L1, rfl, X⟩)
    · clear hcut KW KT KC KS KE
      go_wp2_with fail
      go_ret
      obtain ⟨e7, S', l1, n1⟩ := unhide X
      subst e7
      have hb : Below w3.heap.size w3 (w3.alloc (.cells #[.int .i64 0, .int .i64 0, .int .i64 0] 57)) := (Below.refl _ w3).alloc (Nat.le_refl _) _
      exact ⟨rfl, S', l1.below hb, n1.below' hb⟩
    · clear hcut KW
      have KT2 := hide (unhide KT _ _ _ _ _ _ (w3.alloc (.cells #[.int .i64 (H.seq : Int), .int .i64 (H.tail : Int), .int .i64 (H.used : Int)] 57)) (unhide X) ((Below.refl _ w3).alloc (Nat.le_refl _) _))
      clear KT X
      go_wp2_with fail
      go_at_call 100
      refine (unhide KT2).mono ?_
      rintro e w4 ⟨rfl, hE, X7, X0⟩
      have Y7 := hide X7
      have Y0 := hide X0
      clear KT2 X7 X0
      rcases hE with rfl | rfl
      · have Z0 := (unhide Y0) rfl
        clear Y0 Y7
        go_wp2_with fail
        go_loopw [46] (fun i wr => ∃ k : Nat, k ≤ len ∧ i = .int .i64 (k : Int) ∧ Hid (CJ2 w S g dg P G a len V eD eL k wr)) (fun i _ => len - (intOf i).toNat)
        case atStart => exact ⟨0, Nat.zero_le _, rfl, Z0⟩
        case round =>
          obtain ⟨k, hk, rfl, hJ⟩ := hrel
          clear Z0
          by_cases hlt : k < len
          · obtain ⟨kb, off, b, ea, x1, x2, hb⟩ := unhide KC _ _ _ _ (unhide hJ) hlt
            obtain ⟨mb, d0, KX⟩ := unhide KS _ _ _ _ (unhide hJ) hlt b hb (wr.alloc (.cells #[.int .i64 (b : Int), .slice (wat V k).da (wat V k).dl (wat V k).dc] 52)).drew (((Below.refl _ wr).alloc (Nat.le_refl _) _).drew)
            have HC := hide (Bl.new wr #[.int .i64 (b : Int), .slice (wat V k).da (wat V k).dl (wat V k).dc] 52)
            clear KC KS KE hJ hb
            subst ea
            go_upto_region 16 with fail
            change Code.wp _ _ _ _ (wr.alloc (.cells #[.int .i64 (b : Int), .slice (wat V k).da (wat V k).dl (wat V k).dc] 52))
            have d0' : (wr.alloc (.cells #[.int .i64 (b : Int), .slice (wat V k).da (wat V k).dl (wat V k).dc] 52)).cell? ⟨g, 16, none⟩ = some (.map (some mb)) := d0
            clear d0
            have HBL : Hid (wr.heap.size < (wr.alloc (.cells #[.int .i64 (b : Int), .slice (wat V k).da (wat V k).dl (wat V k).dc] 52)).heap.size) := (unhide HC).lt
            generalize wr.alloc (.cells #[.int .i64 (b : Int), .slice (wat V k).da (wat V k).dl (wat V k).dc] 52) = ub at *
            generalize wr.heap.size = gb at *
            have b0 := (unhide HC).cell 0 (.int .i64 (b : Int)) rfl
            have b1 := (unhide HC).cell 1 (.slice (wat V k).da (wat V k).dl (wat V k).dc) rfl
            clear x1 x2
            have KY : Hid (∀ u2, Below ub.heap.size ub u2 → u2.cell? ⟨gb, 0, none⟩ = some (.int .i64 (b : Int))) := fun u2 hb => (hb.cell (p := ⟨gb, 0, none⟩) (unhide HBL)).trans b0
            clear HC HBL
            go_region_with (go_at_call 73; refine (unhide KX).mono ?_; rintro e u2 ⟨a', c', rfl, hb2, m2, u3, r3, Z⟩; have b2 := unhide KY _ (undrew hb2); clear hb2)
            all_goals
              clear KX KY d0' b0 b1
              go_wp2_with fail
              go_roundw
              case rel => exact ⟨k + 1, by omega, by go_num, Z⟩
              case measure => simp [intOf]; omega
          · have ek : k = len := by omega
            rw [ek] at hJ
            have Z := hide (unhide KE _ _ _ (unhide hJ))
            clear KC KS KE hJ
            go_wp2_with fail
            go_ret
            exact ⟨rfl, unhide Z⟩
      · have Z7 := (unhide Y7) (by decide)
        clear Y0 Y7 KC KS KE
        go_wp2_with fail
        go_ret
        exact ⟨rfl, unhide Z7⟩

end Go.Proofs.YtadnlljknocbbaaGreatDoor

/- The contracts of Commit and Apply. -/
namespace Go.Proofs.YtadnlljknocbbaaGreatDoor
open Go.RowKit Go.Shelf Go.Maps
set_option linter.unusedVariables false
set_option maxRecDepth 100000

/-- What Commit answers, and leaves. -/
def cmtE (G : Geo) (L : Lg) (V : List Wr) (D : Dev) : Int := if lstE G L.h.seq (wv V) = 0 then (if L.dead = true then 7 else if V.length = 0 then 0 else cmE G L (wl V) D) else lstE G L.h.seq (wv V)

def cmtL (G : Geo) (L : Lg) (V : List Wr) (D : Dev) : Lg := if lstE G L.h.seq (wv V) = 0 then (if L.dead = true then L else if V.length = 0 then L else (cmL G L (wl V) D).met (cmE G L (wl V) D)) else L

def cmtD (G : Geo) (L : Lg) (V : List Wr) (D : Dev) : Dev := if lstE G L.h.seq (wv V) = 0 then (if L.dead = true then D else if V.length = 0 then D else cmD G L (wl V) D) else D

theorem acc_of {G : Geo} {L : Lg} {V : List Wr} (hs : L.h.seq ≤ 4294967295) (h : lstE G L.h.seq (wv V) = 0) {cap : Nat} (hc : V.length ≤ cap ∧ cap ≤ 9223372036854775807) : Acc G L V.length cap V := by
  unfold lstE at h
  by_cases h1 : (wv V).all (fun x => decide (x.2 = G.blk)) = true
  · rw [if_pos h1] at h
    by_cases h2 : blkE G ((wv V).map (·.1)) = 0
    · rw [if_pos h2] at h
      have hl : (wv V).length = V.length := by simp [wv]
      rw [hl] at h
      by_cases h3 : G.lg < G.uses V.length
      · rw [if_pos h3] at h; omega
      · rw [if_neg h3] at h
        by_cases h4 : 4294967295 - L.h.seq < G.parts V.length
        · rw [if_pos h4] at h; omega
        · refine ⟨fun v hv => ?_, by omega, by omega, hc⟩
          have e1 := List.all_eq_true.1 h1 (v.b, v.dl) (List.mem_map.2 ⟨v, hv, rfl⟩)
          unfold blkE at h2
          by_cases h5 : ((wv V).map (·.1)).all (fun b => decide ((G.ib : Int) ≤ b ∧ b < G.n)) = true
          · have e2 := List.all_eq_true.1 h5 v.b (List.mem_map.2 ⟨(v.b, v.dl), List.mem_map.2 ⟨v, hv, rfl⟩, rfl⟩)
            simp only [decide_eq_true_eq] at e1 e2
            exact ⟨e1, e2.1, e2.2⟩
          · rw [if_neg h5] at h2; omega
    · rw [if_neg h2] at h; exact absurd h h2
  · rw [if_neg h1] at h; omega

theorem commit_nil (v : Value) (w : World) : Calls Tryz.prog 15 #[.pointer none, .slice none 0 0] w fun e w' => e = .returned (.int .i64 1) ∧ w = w' := by
  go_enter Tryz.func15, Tryz.ntmps15
  go_wp2
  go_ret
  exact ⟨rfl, rfl⟩

theorem apply_nil (w : World) : Calls Tryz.prog 17 #[.pointer none] w fun e w' => e = .returned (.int .i64 1) ∧ w = w' := by
  go_enter Tryz.func17, Tryz.ntmps17
  go_wp2
  go_ret
  exact ⟨rfl, rfl⟩

/-- commit of an empty list. -/
theorem commit_zero (g cap : Nat) (a : Option Addr) (w : World) : Calls Tryz.prog 57 #[.pointer (some ⟨g, 0, none⟩), .slice a 0 cap] w fun e w' => e = .returned (.int .i64 0) ∧ w = w' := by
  go_enter Tryz.func57, Tryz.ntmps57
  go_wp2_with fail
  go_ret
  exact ⟨rfl, rfl⟩

theorem Lv.deadc {w : World} {S : Nat → Prop} {g dg : Nat} {P : Nat → Int} {G : Geo} {L : Lg} {D : Dev} (h : Lv w S g dg P G L D) : w.cell? ⟨g, 17, none⟩ = some (.bool L.dead) := by
  obtain ⟨_, _, m, x⟩ := h
  exact x.ll.cells.2.2.2.2.2.2.1

set_option maxHeartbeats 1000000 in
theorem Commit_any (g dg : Nat) (S : Nat → Prop) (P : Nat → Int) (G : Geo) (L : Lg) (D : Dev) (w : World) (h : Lv w S g dg P G L D) (a : Option Addr) (len cap : Nat) (V : List Wr) (hV : WHas w a len V) (hO : WOut S a len V) (hl : len ≤ 4398046511104) (hc : len ≤ cap ∧ cap ≤ 9223372036854775807) :
    Calls Tryz.prog 15 #[.pointer (some ⟨g, 0, none⟩), .slice a len cap] w fun e w' => e = .returned (.int .i64 (cmtE G L V D)) ∧ ∃ S', Lv w' S' g dg P G (cmtL G L V D) (cmtD G L V D) ∧ Nx S w S' w' := by
  have hln := hV.ln
  have hsq : L.h.seq ≤ 4294967295 := by obtain ⟨_, _, _, x⟩ := h; exact x.ll.hok.seq
  have K2 : Hid (Calls Tryz.prog 55 #[.pointer (some ⟨g, 0, none⟩), .slice a len cap] w fun e w' => e = .returned (.int .i64 (lstE G L.h.seq (wv V))) ∧ Below w.heap.size w w') := by
    obtain ⟨Sl, _, m, x⟩ := h
    exact refl_any g dg Sl P G L m w x.ll a len cap V hV hl
  have X : Hid (∀ u, Below w.heap.size w u → ∃ S', Lv u S' g dg P G L D ∧ Nx S w S' u) := fun u hb => ⟨S, h.below hb, (Nx.refl S w).below' hb⟩
  have HD : Hid (∀ u, Below w.heap.size w u → u.cell? ⟨g, 17, none⟩ = some (.bool L.dead)) := fun u hb => (h.below hb).deadc
  unfold cmtE cmtL cmtD
  rw [hln]
  by_cases hE : lstE G L.h.seq (wv V) = 0
  · rw [if_pos hE, if_pos hE, if_pos hE]
    by_cases hd : L.dead = true
    · rw [if_pos hd, if_pos hd, if_pos hd]
      rw [hE] at K2
      rw [hd] at HD
      clear h hV hO hl hc hsq hln hd hE
      go_enter Tryz.func15, Tryz.ntmps15
      go_wp2_with fail
      go_at_call 55
      refine (unhide K2).mono ?_
      rintro e w1 ⟨rfl, hb1⟩
      have X2 := hide (unhide X _ hb1)
      have c17 := unhide HD _ hb1
      clear K2 X hb1 HD
      go_wp2_with fail
      go_ret
      exact ⟨rfl, unhide X2⟩
    · rw [if_neg hd, if_neg hd, if_neg hd]
      have hd' : L.dead = false := by simpa using hd
      rw [hE] at K2
      rw [hd'] at HD
      by_cases h0 : len = 0
      · rw [if_pos h0, if_pos h0, if_pos h0]
        subst h0
        have K3 : Hid (∀ u, Below w.heap.size w u → Calls Tryz.prog 57 #[.pointer (some ⟨g, 0, none⟩), .slice a 0 cap] u fun e w1 => e = .returned (.int .i64 0) ∧ Hid (Calls Tryz.prog 56 #[.pointer (some ⟨g, 0, none⟩), .int .i64 0] w1 fun e w' => e = .returned (.int .i64 0) ∧ Hid (∃ S', Lv w' S' g dg P G L D ∧ Nx S w S' w'))) := fun u hb => by
          refine (commit_zero g cap a u).mono ?_
          rintro e w1 ⟨rfl, rfl⟩
          refine ⟨rfl, (met_any g dg 0 S P G _ _ u (h.below hb)).mono ?_⟩
          rintro e w2 ⟨rfl, S2, l2, n2⟩
          exact ⟨rfl, S2, l2, ((Nx.refl S w).below' hb).trans n2⟩
        clear h hV hO hl hc hsq hln hd hd' hE X
        go_enter Tryz.func15, Tryz.ntmps15
        go_wp2_with fail
        go_at_call 55
        refine (unhide K2).mono ?_
        rintro e w1 ⟨rfl, hb1⟩
        have K4 := hide (unhide K3 _ hb1)
        have c17 := unhide HD _ hb1
        clear K2 K3 hb1 HD
        go_wp2_with fail
        go_at_call 57
        refine (unhide K4).mono ?_
        rintro e w2 ⟨rfl, K5⟩
        clear K4 c17
        go_wp2_with fail
        go_at_call 56
        refine (unhide K5).mono ?_
        rintro e w3 ⟨rfl, X⟩
        clear K5
        go_wp2_with fail
        go_ret
        exact ⟨rfl, unhide X⟩
      · rw [if_neg h0, if_neg h0, if_neg h0]
        have hA : Acc G L len cap V := by rw [← hln] at hc ⊢; exact acc_of hsq hE hc
        have K3 : Hid (∀ u, Below w.heap.size w u → Calls Tryz.prog 57 #[.pointer (some ⟨g, 0, none⟩), .slice a len cap] u fun e w1 => e = .returned (.int .i64 (cmE G L (wl V) D)) ∧ Hid (Calls Tryz.prog 56 #[.pointer (some ⟨g, 0, none⟩), .int .i64 (cmE G L (wl V) D)] w1 fun e w' => e = .returned (.int .i64 (cmE G L (wl V) D)) ∧ Hid (∃ S', Lv w' S' g dg P G ((cmL G L (wl V) D).met (cmE G L (wl V) D)) (cmD G L (wl V) D) ∧ Nx S w S' w'))) := fun u hb => by
          refine (commit_any g dg S P G L D u (h.below hb) a len cap V (hV.later hb) hO hA h0).mono ?_
          rintro e w1 ⟨rfl, S1, l1, n1⟩
          refine ⟨rfl, (met_any g dg (cmE G L (wl V) D) S1 P G _ _ w1 l1).mono ?_⟩
          rintro e w2 ⟨rfl, S2, l2, n2⟩
          exact ⟨rfl, S2, l2, (((Nx.refl S w).below' hb).trans n1).trans n2⟩
        generalize (cmL G L (wl V) D).met (cmE G L (wl V) D) = LL at *
        generalize cmE G L (wl V) D = cE at *
        generalize cmD G L (wl V) D = DD at *
        clear h hV hO hd hd' hl hc hsq hln h0 hE hA X
        go_enter Tryz.func15, Tryz.ntmps15
        go_wp2_with fail
        go_at_call 55
        refine (unhide K2).mono ?_
        rintro e w1 ⟨rfl, hb1⟩
        have K4 := hide (unhide K3 _ hb1)
        have c17 := unhide HD _ hb1
        clear K2 K3 hb1 HD
        go_wp2_with fail
        go_at_call 57
        refine (unhide K4).mono ?_
        rintro e w2 ⟨rfl, K5⟩
        clear K4 c17
        go_wp2_with fail
        go_at_call 56
        refine (unhide K5).mono ?_
        rintro e w3 ⟨rfl, X⟩
        clear K5
        go_wp2_with fail
        go_ret
        exact ⟨rfl, unhide X⟩
  · rw [if_neg hE, if_neg hE, if_neg hE]
    have d1 : (lstE G L.h.seq (wv V) != 0) = true := by simpa using hE
    generalize lstE G L.h.seq (wv V) = lE at *
    clear h hV hO hl hc hsq hln hE HD
    go_enter Tryz.func15, Tryz.ntmps15
    go_wp2_with fail
    go_at_call 55
    refine (unhide K2).mono ?_
    rintro e w1 ⟨rfl, hb1⟩
    have X2 := hide (unhide X _ hb1)
    clear K2 X hb1
    go_wp2_with fail
    go_ret
    exact ⟨rfl, unhide X2⟩

/-- What Apply answers, and leaves. -/
def aplyE (G : Geo) (L : Lg) (D : Dev) : Int := if L.dead = true then 7 else apE G L D

def aplyL (G : Geo) (L : Lg) (D : Dev) : Lg := if L.dead = true then L else (apL G L D).met (apE G L D)

def aplyD (G : Geo) (L : Lg) (D : Dev) : Dev := if L.dead = true then D else apD G L D

set_option maxHeartbeats 1000000 in
theorem Apply_any (g dg : Nat) (S : Nat → Prop) (P : Nat → Int) (G : Geo) (L : Lg) (D : Dev) (w : World) (h : Lv w S g dg P G L D) :
    Calls Tryz.prog 17 #[.pointer (some ⟨g, 0, none⟩)] w fun e w' => e = .returned (.int .i64 (aplyE G L D)) ∧ ∃ S', Lv w' S' g dg P G (aplyL G L D) (aplyD G L D) ∧ Nx S w S' w' := by
  have c17 := h.deadc
  unfold aplyE aplyL aplyD
  by_cases hd : L.dead = true
  · rw [if_pos hd, if_pos hd, if_pos hd]
    rw [hd] at c17
    have X : Hid (∃ S', Lv w S' g dg P G L D ∧ Nx S w S' w) := ⟨S, h, Nx.refl _ _⟩
    clear h hd
    go_enter Tryz.func17, Tryz.ntmps17
    go_wp2_with fail
    go_ret
    exact ⟨rfl, unhide X⟩
  · rw [if_neg hd, if_neg hd, if_neg hd]
    have hd' : L.dead = false := by simpa using hd
    rw [hd'] at c17
    have K4 : Hid (Calls Tryz.prog 63 #[.pointer (some ⟨g, 0, none⟩)] w fun e w1 => e = .returned (.int .i64 (apE G L D)) ∧ Hid (Calls Tryz.prog 56 #[.pointer (some ⟨g, 0, none⟩), .int .i64 (apE G L D)] w1 fun e w' => e = .returned (.int .i64 (apE G L D)) ∧ Hid (∃ S', Lv w' S' g dg P G ((apL G L D).met (apE G L D)) (apD G L D) ∧ Nx S w S' w'))) := by
      refine (apply_any g dg S P G L D w h).mono ?_
      rintro e w1 ⟨rfl, S1, l1, n1⟩
      refine ⟨rfl, (met_any g dg (apE G L D) S1 P G _ _ w1 l1).mono ?_⟩
      rintro e w2 ⟨rfl, S2, l2, n2⟩
      exact ⟨rfl, S2, l2, n1.trans n2⟩
    generalize (apL G L D).met (apE G L D) = LL at *
    generalize apE G L D = cE at *
    generalize apD G L D = DD at *
    clear h hd hd'
    go_enter Tryz.func17, Tryz.ntmps17
    go_wp2_with fail
    go_at_call 63
    refine (unhide K4).mono ?_
    rintro e w2 ⟨rfl, K5⟩
    clear K4 c17
    go_wp2_with fail
    go_at_call 56
    refine (unhide K5).mono ?_
    rintro e w3 ⟨rfl, X⟩
    clear K5
    go_wp2_with fail
    go_ret
    exact ⟨rfl, unhide X⟩

end Go.Proofs.YtadnlljknocbbaaGreatDoor

