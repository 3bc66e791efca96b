/- Joined: RNoted, RNotM, RLog. -/
import Derived.Test.YtadnlljknocbbaaGreatDoorWoJ38
import Derived.Deep.DeepBigQuietO
import Derived.Deep.RegionHeld3
import Derived.Test.YtadnlljknocbbaaGreatDoorWoJ20
import Derived.Test.YtadnlljknocbbaaGreatDoorWoWBase
/- The document's Noted: a list of writes with one more. -/
namespace Go.Proofs.YtadnlljknocbbaaGreatDoor
open Go.RowKit Go.Shelf
set_option linter.unusedVariables false
set_option maxRecDepth 100000

/-- A list of writes that was made since B: its own row alone. -/
def Lw (B : Nat) (u : World) (v : Value) (V : List Wr) : Prop := u.ownsRow B 52 2 v V.length (cellsW V)

theorem Lw.nil (B : Nat) (u : World) : Lw B u (.slice none 0 0) [] := World.ownsRow_nil u B _ 2

theorem Lw.below {B : Nat} {u u' : World} {v : Value} {V : List Wr} (h : Lw B u v V) (hb : Below u.heap.size u u') : Lw B u' v V :=
  ownsRow_other h (fun k e => by
    obtain ⟨_, cur, h2⟩ := ownsRow_blk2 h e
    exact hb.block k (Array.getElem?_eq_some_iff.1 h2).1)

theorem Lw.shape {B : Nat} {u : World} {v : Value} {V : List Wr} (h : Lw B u v V) : ∃ a c, v = .slice a V.length c ∧ V.length ≤ c ∧ c ≤ maxLen := by
  obtain ⟨_, h2⟩ := h
  rcases h2 with ⟨rfl, h0⟩ | ⟨g, cap, cur, rfl, hb, hg, hn, hm, r⟩
  · exact ⟨none, 0, by rw [h0], by omega, by omega⟩
  · exact ⟨_, cap, rfl, hn, hm⟩

/-- Its cells. -/
theorem Lw.cel {B : Nat} {u : World} {a : Option Addr} {n c : Nat} {V : List Wr} (h : Lw B u (.slice a n c) V) (hp : 0 < n) : n = V.length ∧ ∃ k, a = some ⟨k, 0, none⟩ ∧ B ≤ k ∧ k < u.heap.size ∧ ∀ j, j < n → u.cell? ⟨k, j * 2, none⟩ = some (.int .i64 (wat V j).b) ∧ u.cell? ⟨k, j * 2 + 1, none⟩ = some (.slice (wat V j).da (wat V j).dl (wat V j).dc) := by
  obtain ⟨_, h2⟩ := h
  rcases h2 with ⟨e, h0⟩ | ⟨g, cap, cur, e, hb, hg, hn, hm, hs, ht⟩
  · cases e; omega
  · cases e
    refine ⟨rfl, g, rfl, hb, (Array.getElem?_eq_some_iff.1 hg).1, fun j hj => ?_⟩
    have B : Bl u g cur 52 := hg
    have hc : ∀ i v, i < V.length * 2 → (cellsW V)[i]? = some v → cur[i]? = some v := fun i v hi hv => by
      rw [← Array.getElem?_toList]
      have : cur.toList[i]? = (cur.toList.take (V.length * 2))[i]? := by rw [List.getElem?_take, if_pos hi]
      rw [this, ht, hv]
    obtain ⟨c1, c2⟩ := cellsW_at V j hj
    exact ⟨B.cell _ _ (hc _ _ (by omega) c1), B.cell _ _ (hc _ _ (by omega) c2)⟩

/-- append(m, w). -/
theorem Lw.one {B : Nat} {u : World} {v : Value} {V : List Wr} (h : Lw B u v V) (hB : B ≤ u.heap.size) (hl : V.length ≤ 100000) (x : Wr) :
    ∃ v' w', (∀ ty, (Builtin.append_ #[39, 39] ty #[v, .slice (some ⟨u.heap.size, 0, none⟩) 1 1]).run Tryz.prog (u.alloc (.cells #[.int .i64 x.b, .slice x.da x.dl x.dc] 52)) = .ok v' w') ∧ Lw B w' v' (V ++ [x]) ∧ Below B u w' := by
  obtain ⟨i0, hi, hz0, hz1, hz2⟩ := info_parts infoW
  have hb : Below u.heap.size u (u.alloc (.cells #[.int .i64 x.b, .slice x.da x.dl x.dc] 52)) := (Below.refl _ _).alloc (Nat.le_refl _) _
  have h1 := h.below hb
  have hnw := Bl.new u #[.int .i64 x.b, .slice x.da x.dl x.dc] 52
  obtain ⟨v', w', hrun, ho, hg, _⟩ := run_append_own (P := Tryz.prog) (u.alloc (.cells #[.int .i64 x.b, .slice x.da x.dl x.dc] 52)) B 39 0 52 i0 (.agg #[.int .i64 0, .slice none 0 0]) 2 32 Tryz.underlying39 hi hz0 hz1 hz2 rfl (by decide) v V.length (cellsW V) h1 ⟨u.heap.size, 0, none⟩ 1 1 [.int .i64 x.b, .slice x.da x.dl x.dc] rfl (by
      intro j z hj
      rw [World.add_zero_spot, Nat.zero_add]
      refine hnw.cell j z ?_
      simpa using hj) (by intro z hz; simp at hz; rcases hz with rfl | rfl <;> rfl) (by unfold maxLen; omega) (by omega) (Nat.le_trans hB hb.size)
  refine ⟨v', w', fun ty => hrun, ?_, (hb.mono hB).grown hg (Nat.le_trans hB hb.size) (fun k e => (ownsRow_blk2 h e).1)⟩
  unfold Lw
  rw [cellsW_append, List.length_append]
  exact ho

/-- What Noted makes: put says whether the new one is there. -/
def notG (x : Wr) : Bool → List Wr → List Wr
  | put, [] => if put = true then [] else [x]
  | put, y :: r => (if put = false ∧ x.b ≤ y.b then [x] else []) ++ ((if y.b ≠ x.b then [y] else []) ++ notG x (put || decide (x.b ≤ y.b)) r)

/-- In the loop. -/
def NJ (w0 : World) (x : Wr) (V : List Wr) (k : Nat) (v : Value) (put : Bool) (u : World) : Prop := ∃ M, Lw w0.heap.size u v M ∧ M ++ notG x put (V.drop k) = notG x false V ∧ M.length ≤ 2 * k ∧ Below w0.heap.size w0 u

/-- .. behind its first test. -/
def NJ1 (w0 : World) (x : Wr) (V : List Wr) (k : Nat) (v : Value) (put : Bool) (u : World) : Prop := ∃ M, Lw w0.heap.size u v M ∧ M ++ ((if (wat V k).b ≠ x.b then [wat V k] else []) ++ notG x put (V.drop (k + 1))) = notG x false V ∧ M.length ≤ 2 * k + 1 ∧ Below w0.heap.size w0 u

theorem NJ.later {w0 : World} {x : Wr} {V : List Wr} {k : Nat} {v : Value} {put : Bool} {u u' : World} (h : NJ w0 x V k v put u) (hb : Below u.heap.size u u') : NJ w0 x V k v put u' := by
  obtain ⟨M, h1, h2, h3, h4⟩ := h
  exact ⟨M, h1.below hb, h2, h3, h4.trans (hb.mono h4.size)⟩

theorem NJ1.later {w0 : World} {x : Wr} {V : List Wr} {k : Nat} {v : Value} {put : Bool} {u u' : World} (h : NJ1 w0 x V k v put u) (hb : Below u.heap.size u u') : NJ1 w0 x V k v put u' := by
  obtain ⟨M, h1, h2, h3, h4⟩ := h
  exact ⟨M, h1.below hb, h2, h3, h4.trans (hb.mono h4.size)⟩

theorem drop_wat {V : List Wr} {k : Nat} (hk : k < V.length) : V.drop k = wat V k :: V.drop (k + 1) := by
  rw [List.drop_eq_getElem_cons hk]
  simp [wat, List.getElem?_eq_getElem hk]

theorem NJ.skip {w0 : World} {x : Wr} {V : List Wr} {k : Nat} {v : Value} {put : Bool} {u : World} (h : NJ w0 x V k v put u) (hk : k < V.length) (hn : ¬ (put = false ∧ x.b ≤ (wat V k).b)) : NJ1 w0 x V k v put u := by
  obtain ⟨M, h1, h2, h3, h4⟩ := h
  refine ⟨M, h1, ?_, by omega, h4⟩
  rw [drop_wat hk, notG, if_neg hn, List.nil_append] at h2
  have : (put || decide (x.b ≤ (wat V k).b)) = put := by
    cases put with
    | true => rfl
    | false => simp at hn ⊢; omega
  rw [this] at h2
  exact h2

theorem NJ.put {w0 : World} {x : Wr} {V : List Wr} {k : Nat} {v : Value} {u : World} (h : NJ w0 x V k v false u) (hk : k < V.length) (hl : V.length ≤ 10000) (hn : x.b ≤ (wat V k).b) :
    ∃ v' u', (∀ ty, (Builtin.append_ #[39, 39] ty #[v, .slice (some ⟨u.heap.size, 0, none⟩) 1 1]).run Tryz.prog (u.alloc (.cells #[.int .i64 x.b, .slice x.da x.dl x.dc] 52)) = .ok v' u') ∧ NJ1 w0 x V k v' true u' := by
  obtain ⟨M, h1, h2, h3, h4⟩ := h
  obtain ⟨v', u', r, l, b⟩ := h1.one h4.size (by omega) x
  refine ⟨v', u', r, M ++ [x], l, ?_, by simp; omega, h4.trans b⟩
  rw [drop_wat hk, notG, if_pos ⟨rfl, hn⟩] at h2
  have : (false || decide (x.b ≤ (wat V k).b)) = true := by simp [hn]
  rw [this] at h2
  rw [List.append_assoc]
  exact h2

theorem NJ1.skip {w0 : World} {x : Wr} {V : List Wr} {k : Nat} {v : Value} {put : Bool} {u : World} (h : NJ1 w0 x V k v put u) (hn : (wat V k).b = x.b) : NJ w0 x V (k + 1) v put u := by
  obtain ⟨M, h1, h2, h3, h4⟩ := h
  refine ⟨M, h1, ?_, by omega, h4⟩
  rw [if_neg (by omega), List.nil_append] at h2
  exact h2

theorem NJ1.put {w0 : World} {x : Wr} {V : List Wr} {k : Nat} {v : Value} {put : Bool} {u : World} (h : NJ1 w0 x V k v put u) (hk : k < V.length) (hl : V.length ≤ 10000) (hn : (wat V k).b ≠ x.b) :
    ∃ v' u', (∀ ty, (Builtin.append_ #[39, 39] ty #[v, .slice (some ⟨u.heap.size, 0, none⟩) 1 1]).run Tryz.prog (u.alloc (.cells #[.int .i64 (wat V k).b, .slice (wat V k).da (wat V k).dl (wat V k).dc] 52)) = .ok v' u') ∧ NJ w0 x V (k + 1) v' put u' := by
  obtain ⟨M, h1, h2, h3, h4⟩ := h
  obtain ⟨v', u', r, l, b⟩ := h1.one h4.size (by omega) (wat V k)
  refine ⟨v', u', r, M ++ [wat V k], l, ?_, by simp; omega, h4.trans b⟩
  rw [if_pos hn] at h2
  rw [List.append_assoc]
  exact h2

theorem NJ.last {w0 : World} {x : Wr} {V : List Wr} {v : Value} {u : World} (h : NJ w0 x V V.length v false u) (hl : V.length ≤ 10000) :
    ∃ v' u', (∀ ty, (Builtin.append_ #[39, 39] ty #[v, .slice (some ⟨u.heap.size, 0, none⟩) 1 1]).run Tryz.prog (u.alloc (.cells #[.int .i64 x.b, .slice x.da x.dl x.dc] 52)) = .ok v' u') ∧ Lw w0.heap.size u' v' (notG x false V) ∧ Below w0.heap.size w0 u' := by
  obtain ⟨M, h1, h2, h3, h4⟩ := h
  obtain ⟨v', u', r, l, b⟩ := h1.one h4.size (by omega) x
  refine ⟨v', u', r, ?_, h4.trans b⟩
  rw [List.drop_of_length_le (Nat.le_refl _), notG, if_neg (by decide)] at h2
  rw [← h2]
  exact l

theorem NJ.end' {w0 : World} {x : Wr} {V : List Wr} {v : Value} {u : World} (h : NJ w0 x V V.length v true u) : Lw w0.heap.size u v (notG x false V) ∧ Below w0.heap.size w0 u := by
  obtain ⟨M, h1, h2, h3, h4⟩ := h
  rw [List.drop_of_length_le (Nat.le_refl _), notG, if_pos rfl, List.append_nil] at h2
  rw [← h2]
  exact ⟨h1, h4⟩

set_option maxHeartbeats 4000000 in
theorem noted_any (a : Option Addr) (len cap : Nat) (V : List Wr) (x : Wr) (w : World) (hV : WHas w a len V) (hl : len ≤ 10000) :
    Calls Tryz.prog 61 #[.slice a len cap, .agg #[.int .i64 x.b, .slice x.da x.dl x.dc]] w fun e w' => ∃ v, e = .returned v ∧ Hid (Lw w.heap.size w' v (notG x false V) ∧ Below w.heap.size w w') := by
  have hmix : Tryz.prog.follows Departure.mixedOrders = true := by kernel_rfl
  have hln := hV.ln
  have hb0 : Below w.heap.size w (w.alloc (.cells #[.int .i64 x.b, .slice x.da x.dl x.dc] 52)) := (Below.refl _ _).alloc (Nat.le_refl _) _
  have hbx := Bl.new w #[.int .i64 x.b, .slice x.da x.dl x.dc] 52
  have hs0 : (w.alloc (.cells #[.int .i64 x.b, .slice x.da x.dl x.dc] 52)).heap.size = w.heap.size + 1 := by simp
  have J0 : Hid (NJ (w.alloc (.cells #[.int .i64 x.b, .slice x.da x.dl x.dc] 52)) x V 0 (.slice none 0 0) false (w.alloc (.cells #[.int .i64 x.b, .slice x.da x.dl x.dc] 52))) := ⟨[], Lw.nil _ _, by simp, by simp, Below.refl _ _⟩
  have KX : Hid (∀ u, Below (w.alloc (.cells #[.int .i64 x.b, .slice x.da x.dl x.dc] 52)).heap.size (w.alloc (.cells #[.int .i64 x.b, .slice x.da x.dl x.dc] 52)) u → u.cell? ⟨w.heap.size, 0, none⟩ = some (.int .i64 x.b) ∧ u.cell? ⟨w.heap.size, 1, none⟩ = some (.slice x.da x.dl x.dc)) := fun u hu => ⟨(hbx.call hu).cell 0 _ rfl, (hbx.call hu).cell 1 _ rfl⟩
  have KC : Hid (∀ u k, k < len → Below (w.alloc (.cells #[.int .i64 x.b, .slice x.da x.dl x.dc] 52)).heap.size (w.alloc (.cells #[.int .i64 x.b, .slice x.da x.dl x.dc] 52)) u → ∃ kb off, a = some ⟨kb, off, none⟩ ∧ u.cell? ⟨kb, off + k * 2, none⟩ = some (.int .i64 (wat V k).b) ∧ u.cell? ⟨kb, off + k * 2 + 1, none⟩ = some (.slice (wat V k).da (wat V k).dl (wat V k).dc)) := fun u k hk hu => by
    obtain ⟨kb, off, e, hkb, hc⟩ := hV.cel (by omega)
    have bu : Below w.heap.size w u := hb0.trans (hu.mono hb0.size)
    exact ⟨kb, off, e, (bu.cell (p := ⟨kb, off + k * 2, none⟩) hkb).trans (hc k hk).1, (bu.cell (p := ⟨kb, off + k * 2 + 1, none⟩) hkb).trans (hc k hk).2⟩
  have KBel : Hid (∀ k v put u, NJ (w.alloc (.cells #[.int .i64 x.b, .slice x.da x.dl x.dc] 52)) x V k v put u → Below (w.alloc (.cells #[.int .i64 x.b, .slice x.da x.dl x.dc] 52)).heap.size (w.alloc (.cells #[.int .i64 x.b, .slice x.da x.dl x.dc] 52)) u) := fun k v put u h => by obtain ⟨_, _, _, _, b⟩ := h; exact b
  have KBel1 : Hid (∀ k v put u, NJ1 (w.alloc (.cells #[.int .i64 x.b, .slice x.da x.dl x.dc] 52)) x V k v put u → Below (w.alloc (.cells #[.int .i64 x.b, .slice x.da x.dl x.dc] 52)).heap.size (w.alloc (.cells #[.int .i64 x.b, .slice x.da x.dl x.dc] 52)) u) := fun k v put u h => by obtain ⟨_, _, _, _, b⟩ := h; exact b
  have KS : Hid (∀ k v put u, NJ (w.alloc (.cells #[.int .i64 x.b, .slice x.da x.dl x.dc] 52)) x V k v put u → k < len → ¬ (put = false ∧ x.b ≤ (wat V k).b) → NJ1 (w.alloc (.cells #[.int .i64 x.b, .slice x.da x.dl x.dc] 52)) x V k v put u) := fun k v put u h hk hn => h.skip (by omega) hn
  have KPu : Hid (∀ k v u, NJ (w.alloc (.cells #[.int .i64 x.b, .slice x.da x.dl x.dc] 52)) x V k v false u → k < len → x.b ≤ (wat V k).b → _) := fun k v u h hk hn => h.put (by omega) (by omega) hn
  have KS1 : Hid (∀ k v put u, NJ1 (w.alloc (.cells #[.int .i64 x.b, .slice x.da x.dl x.dc] 52)) x V k v put u → (wat V k).b = x.b → NJ (w.alloc (.cells #[.int .i64 x.b, .slice x.da x.dl x.dc] 52)) x V (k + 1) v put u) := fun k v put u h hn => h.skip hn
  have KP1 : Hid (∀ k v put u, NJ1 (w.alloc (.cells #[.int .i64 x.b, .slice x.da x.dl x.dc] 52)) x V k v put u → k < len → (wat V k).b ≠ x.b → _) := fun k v put u h hk hn => h.put (by omega) (by omega) hn
  have KLa : Hid (∀ v u, NJ (w.alloc (.cells #[.int .i64 x.b, .slice x.da x.dl x.dc] 52)) x V len v false u → ∃ v' u', (∀ ty, (Builtin.append_ #[39, 39] ty #[v, .slice (some ⟨u.heap.size, 0, none⟩) 1 1]).run Tryz.prog (u.alloc (.cells #[.int .i64 x.b, .slice x.da x.dl x.dc] 52)) = .ok v' u') ∧ Hid (Lw w.heap.size u' v' (notG x false V) ∧ Below w.heap.size w u')) := fun v u h => by
    rw [← hln] at h
    obtain ⟨v', u', r, l, b⟩ := h.last (by omega)
    exact ⟨v', u', r, ⟨l.1, by
      rcases l.2 with x1 | ⟨g, cap, cur, y1, y2, y3⟩
      · exact .inl x1
      · exact .inr ⟨g, cap, cur, y1, by omega, y3⟩⟩, hb0.trans (b.mono hb0.size)⟩
  have KEn : Hid (∀ v u, NJ (w.alloc (.cells #[.int .i64 x.b, .slice x.da x.dl x.dc] 52)) x V len v true u → Hid (Lw w.heap.size u v (notG x false V) ∧ Below w.heap.size w u)) := fun v u h => by
    rw [← hln] at h
    obtain ⟨l, b⟩ := h.end'
    exact ⟨⟨l.1, by
      rcases l.2 with x1 | ⟨g, cap, cur, y1, y2, y3⟩
      · exact .inl x1
      · exact .inr ⟨g, cap, cur, y1, by omega, y3⟩⟩, hb0.trans (b.mono hb0.size)⟩
  clear hV hln hb0 hbx hs0
  generalize hxb : x.b = xb at *
  generalize hxa : x.da = xa at *
  generalize hxl : x.dl = xl at *
  generalize hxc : x.dc = xc at *
  go_enter Tryz.func61, Tryz.ntmps61
  go_upto_region 4 with fail
  change Code.wp _ _ _ _ (w.alloc (.cells #[.int .i64 xb, .slice xa xl xc] 52))
  generalize w.alloc (.cells #[.int .i64 xb, .slice xa xl xc] 52) = w0 at *
  go_loopw [5, 6, 7] (fun y z i wr => ∃ (k : Nat) (v : Value) (put : Bool), k ≤ len ∧ v = y ∧ z = .bool put ∧ i = .int .i64 (k : Int) ∧ Hid (NJ w0 x V k v put wr)) (fun _ _ i _ => len - (intOf i).toNat)
  case atStart => exact ⟨0, _, false, Nat.zero_le _, rfl, rfl, rfl, J0⟩
  case round =>
    obtain ⟨k, v, put, hk, rfl, rfl, rfl, hJ⟩ := hrel
    clear J0
    by_cases hlt : k < len
    · have HC : Hid (∀ u, Below w0.heap.size w0 u → _) := fun u hu => unhide KC u k hlt hu
      obtain ⟨kb, off, ea, c1, c2⟩ := unhide HC wr (unhide KBel _ _ _ _ (unhide hJ))
      obtain ⟨x1, x2⟩ := unhide KX wr (unhide KBel _ _ _ _ (unhide hJ))
      subst ea
      have HC2 : Hid (∀ u, Below w0.heap.size w0 u → u.cell? ⟨kb, off + k * 2, none⟩ = some (.int .i64 (wat V k).b) ∧ u.cell? ⟨kb, off + k * 2 + 1, none⟩ = some (.slice (wat V k).da (wat V k).dl (wat V k).dc)) := fun u hu => by
        obtain ⟨kb', off', e, d1, d2⟩ := unhide HC u hu
        cases e
        exact ⟨d1, d2⟩
      have JD : Hid (∀ q, NJ w0 x V k v put (wr.drewN q)) := fun q => (unhide hJ).later (below_drewN (Below.refl _ _) q)
      have S0 : Hid (∀ u, NJ w0 x V k v put u → ¬ (put = false ∧ xb ≤ (wat V k).b) → NJ1 w0 x V k v put u) := fun u h hn => unhide KS _ _ _ _ h hlt hn
      have P0 : Hid (∀ u, NJ w0 x V k v false u → xb ≤ (wat V k).b → _) := fun u h hn => unhide KPu _ _ _ h hlt hn
      have S1 : Hid (∀ v put u, NJ1 w0 x V k v put u → (wat V k).b = xb → NJ w0 x V (k + 1) v put u) := fun v put u h hn => unhide KS1 _ _ _ _ h hn
      have P1 : Hid (∀ v put u, NJ1 w0 x V k v put u → (wat V k).b ≠ xb → _) := fun v put u h hn => unhide KP1 _ _ _ _ h hlt hn
      have HB1 : Hid (∀ v put u, NJ1 w0 x V k v put u → Below w0.heap.size w0 u) := fun v put u h => unhide KBel1 _ _ _ _ h
      have HB0 : Hid (∀ v put u, NJ w0 x V k v put u → Below w0.heap.size w0 u) := fun v put u h => unhide KBel _ _ _ _ h
      have i1 : (k : Int) < (len : Int) := by omega
      have i0 : (0 : Int) ≤ (k : Int) := by omega
      clear HC KC KBel KBel1 KS KPu KS1 KP1 KLa KEn hJ
      generalize (wat V k).b = yb at *
      generalize (wat V k).da = ya at *
      generalize (wat V k).dl = yl at *
      generalize (wat V k).dc = yc at *
      go_upto_region 6 with fail
      go_cut [25] (fun c wx => c = .bool (!put && decide (xb ≤ yb)) ∧ Hid (NJ w0 x V k v put wx))
      case first =>
        clear S0 P0 S1 P1 HB1 HB0 HC2 KX
        cases put with
        | true =>
          go_big_quiet_o (fail)
          go_wp2
          go_meet
          exact ⟨rfl, unhide JD _⟩
        | false =>
          by_cases h : xb ≤ yb
          · go_big_quiet_o (fail)
            go_wp2
            go_meet
            exact ⟨by simp [h], unhide JD _⟩
          · have dn : decide (xb ≤ yb) = false := decide_eq_false h
            go_big_quiet_o (fail)
            go_wp2
            go_meet
            exact ⟨by simp [h], unhide JD _⟩
      case rest =>
        obtain ⟨rfl, hJ2⟩ := hcut
        clear JD c1 c2 x1 x2
        go_upto_if 25 with fail
        go_cut [5, 6] (fun y z wx => ∃ (v' : Value) (put' : Bool), v' = y ∧ z = .bool put' ∧ Hid (NJ1 w0 x V k v' put' wx))
        case first =>
          by_cases hp : put = false ∧ xb ≤ yb
          · obtain ⟨rfl, hle⟩ := hp
            have eb : (!false && decide (xb ≤ yb)) = true := by simp [hle]
            rw [eb]
            obtain ⟨v', u', r, n1⟩ := unhide P0 _ (unhide hJ2) hle
            have R := hide r
            have N1 := hide n1
            obtain ⟨x1, x2⟩ := unhide KX _ (unhide HB0 _ _ _ (unhide hJ2))
            clear S0 P0 S1 P1 HB1 HB0 HC2 KX r n1 hJ2
            go_wp2_with (at_builtin; refine wpList_append_run 39 rfl _ _ rfl _ _ _ rfl rfl (unhide R) ?_; clear R)
            go_meet
            exact ⟨v', true, rfl, rfl, N1⟩
          · have eb : (!put && decide (xb ≤ yb)) = false := by
              cases put with
              | true => rfl
              | false => simp at hp ⊢; omega
            rw [eb]
            have N1 := hide (unhide S0 _ (unhide hJ2) hp)
            clear S0 P0 S1 P1 HB1 HB0 HC2 KX hJ2
            go_wp2_with fail
            go_meet
            exact ⟨v, put, rfl, rfl, N1⟩
        case rest =>
          obtain ⟨v', put', rfl, rfl, N1⟩ := hcut
          obtain ⟨c1, c2⟩ := unhide HC2 _ (unhide HB1 _ _ _ (unhide N1))
          obtain ⟨x1, x2⟩ := unhide KX _ (unhide HB1 _ _ _ (unhide N1))
          have ND : Hid (∀ q, NJ1 w0 x V k v' put' (wc.drewN q)) := fun q => (unhide N1).later (below_drewN (Below.refl _ _) q)
          clear S0 P0 HB0 hJ2
          go_upto_region 9 with fail
          go_cut [37] (fun c wx => c = .bool (yb != xb) ∧ Hid (NJ1 w0 x V k v' put' wx))
          case first =>
            clear S1 P1 HB1 HC2 KX N1
            go_big_quiet_o (fail)
            go_wp2
            go_meet
            exact ⟨rfl, unhide ND _⟩
          case rest =>
            obtain ⟨rfl, N2⟩ := hcut
            clear ND c1 c2 x1 x2 N1
            by_cases hq : yb = xb
            · have eb : (yb != xb) = false := by simp [hq]
              rw [eb]
              have Z := hide (unhide S1 _ _ _ (unhide N2) hq)
              clear S1 P1 HB1 HC2 KX N2
              go_wp2_with fail
              go_roundw
              case rel => exact ⟨k + 1, v', put', by omega, rfl, rfl, by go_num, Z⟩
              case measure => simp [intOf]; omega
            · have eb : (yb != xb) = true := by simpa using hq
              rw [eb]
              obtain ⟨v2, u2, r, z2⟩ := unhide P1 _ _ _ (unhide N2) hq
              have R := hide r
              have Z := hide z2
              obtain ⟨c1, c2⟩ := unhide HC2 _ (unhide HB1 _ _ _ (unhide N2))
              clear S1 P1 HB1 HC2 KX r z2 N2
              go_wp2_with (at_builtin; refine wpList_append_run 39 rfl _ _ rfl _ _ _ rfl rfl (unhide R) ?_; clear R)
              go_roundw
              case rel => exact ⟨k + 1, v2, put', by omega, rfl, rfl, by go_num, Z⟩
              case measure => simp [intOf]; omega
    · have ek : k = len := by omega
      subst ek
      have i1 : ¬ (k : Int) < (k : Int) := by omega
      cases put with
      | true =>
        have Z := unhide KEn _ _ (unhide hJ)
        clear KC KBel KBel1 KS KPu KS1 KP1 KLa KEn hJ KX
        go_wp2_with fail
        go_ret
        exact ⟨v, rfl, Z⟩
      | false =>
        obtain ⟨v2, u2, r, Z⟩ := unhide KLa _ _ (unhide hJ)
        have R := hide r
        obtain ⟨x1, x2⟩ := unhide KX _ (unhide KBel _ _ _ _ (unhide hJ))
        clear KC KBel KBel1 KS KPu KS1 KP1 KLa KEn hJ KX r
        go_wp2_with (at_builtin; refine wpList_append_run 39 rfl _ _ rfl _ _ _ rfl rfl (unhide R) ?_; clear R)
        go_ret
        exact ⟨v2, rfl, Z⟩

end Go.Proofs.YtadnlljknocbbaaGreatDoor

/- Noted as a change of what is pending. -/
namespace Go.Proofs.YtadnlljknocbbaaGreatDoor
open Go.RowKit Go.Shelf
set_option linter.unusedVariables false

/-- A pair put into a rising list. -/
def insW (b : Nat) (z : List Int) : Wl → Wl
  | [] => [(b, z)]
  | y :: r => if b < y.1 then (b, z) :: y :: r else if b = y.1 then (b, z) :: r else y :: insW b z r

theorem insW_low {b : Nat} {z : List Int} : ∀ {R : Wl}, (∀ y ∈ R, b < y.1) → insW b z R = (b, z) :: R
  | [], _ => rfl
  | y :: r, h => by rw [insW, if_pos (h y (by simp))]

/-- Writes that rise. -/
def Ris (V : List Wr) : Prop := V.Pairwise (fun y z => y.b < z.b)

theorem notG_true {x : Wr} : ∀ {r : List Wr}, (∀ y ∈ r, x.b < y.b) → notG x true r = r
  | [], _ => rfl
  | y :: r, h => by
    have hy := h y (by simp)
    rw [notG, if_neg (by simp), List.nil_append, if_pos (by omega), Bool.true_or, notG_true (fun z hz => h z (List.mem_cons_of_mem _ hz))]
    rfl

theorem notG_ins {x : Wr} (hx : 0 ≤ x.b) : ∀ {V : List Wr}, Ris V → (∀ y ∈ V, 0 ≤ y.b) → wl (notG x false V) = insW x.b.toNat x.z (wl V)
  | [], _, _ => rfl
  | y :: r, hr, h0 => by
    obtain ⟨h1, h2⟩ := List.pairwise_cons.1 hr
    have hy := h0 y (by simp)
    show _ = insW x.b.toNat x.z ((y.b.toNat, y.z) :: wl r)
    rw [notG, insW]
    by_cases hle : x.b ≤ y.b
    · rw [if_pos ⟨rfl, hle⟩, show (false || decide (x.b ≤ y.b)) = true by simp [hle], notG_true (fun z hz => by have := h1 z hz; omega)]
      by_cases he : y.b = x.b
      · rw [if_neg (by omega), if_neg (by omega), if_pos (by omega)]
        rfl
      · rw [if_pos he, if_pos (by omega)]
        rfl
    · rw [if_neg (by omega), show (false || decide (x.b ≤ y.b)) = false by simp; omega, if_pos (by omega), if_neg (by omega), if_neg (by omega), ← notG_ins hx h2 (fun z hz => h0 z (List.mem_cons_of_mem _ hz))]
      rfl

/-- The new list rises, too. -/
theorem ris_of {V : List Wr} {W : Wl} (h : wl V = W) (h0 : ∀ y ∈ V, 0 ≤ y.b) (hW : W.Pairwise (fun y z => y.1 < z.1)) : Ris V := by
  subst h
  unfold wl at hW
  rw [List.pairwise_map] at hW
  exact hW.imp_of_mem (fun ha hb hab => by have := h0 _ ha; have := h0 _ hb; omega)

theorem pend_ris (G : Geo) (Q : Nat → Option (List Int)) : (pendW G Q).Pairwise (fun y z => y.1 < z.1) := by
  unfold pendW pendL
  rw [List.pairwise_map]
  exact (List.pairwise_lt_range).filter _

theorem ins_filter {b : Nat} {z : List Int} {Q : Nat → Option (List Int)} : ∀ {l : List Nat}, l.Pairwise (· < ·) → b ∈ l →
    ((l.filter (fun j => ((if j = b then some z else Q j)).isSome)).map (fun j => (j, ((if j = b then some z else Q j)).getD []))) = insW b z ((l.filter (fun j => (Q j).isSome)).map (fun j => (j, (Q j).getD [])))
  | [], _, h => by simp at h
  | c :: r, hs, hb => by
    obtain ⟨h1, h2⟩ := List.pairwise_cons.1 hs
    by_cases e : c = b
    · subst e
      have hr : ∀ j ∈ r, j ≠ c := fun j hj => by have := h1 j hj; omega
      have e1 : (r.filter (fun j => ((if j = c then some z else Q j)).isSome)).map (fun j => (j, ((if j = c then some z else Q j)).getD [])) = (r.filter (fun j => (Q j).isSome)).map (fun j => (j, (Q j).getD [])) := by
        rw [List.filter_congr (q := fun j => (Q j).isSome) (fun j hj => by simp [hr j hj])]
        exact List.map_congr_left (fun j hj => by simp [hr j (List.mem_filter.1 hj).1])
      have low : ∀ y ∈ (r.filter (fun j => (Q j).isSome)).map (fun j => (j, (Q j).getD [])), c < y.1 := fun y hy => by
        obtain ⟨j, hj, rfl⟩ := List.mem_map.1 hy
        exact h1 j (List.mem_filter.1 hj).1
      rw [List.filter_cons_of_pos (by simp), List.map_cons, e1]
      by_cases hq : (Q c).isSome = true
      · rw [List.filter_cons_of_pos (by simpa using hq), List.map_cons, insW, if_neg (Nat.lt_irrefl _), if_pos rfl]
        simp
      · rw [List.filter_cons_of_neg (by simpa using hq), insW_low low]
        simp
    · have hbr : b ∈ r := by
        rcases List.mem_cons.1 hb with h | h
        · exact absurd h.symm e
        · exact h
      have hcb := h1 b hbr
      have ih := ins_filter (z := z) (Q := Q) h2 hbr
      by_cases hq : (Q c).isSome = true
      · rw [List.filter_cons_of_pos (by simpa [e] using hq), List.filter_cons_of_pos (by simpa using hq), List.map_cons, List.map_cons, ih, if_neg e, insW, if_neg (show ¬ b < c by omega), if_neg (show ¬ b = c by omega)]
      · rw [List.filter_cons_of_neg (by simpa [e] using hq), List.filter_cons_of_neg (by simpa using hq), ih]

/-- Noted of what is pending. -/
theorem noted_pend {G : Geo} {Q : Nat → Option (List Int)} {V : List Wr} (hV : wl V = pendW G Q) (h0 : ∀ y ∈ V, 0 ≤ y.b) {x : Wr} (hx : 0 ≤ x.b) (hn : x.b.toNat < G.n) : wl (notG x false V) = pendW G (fun j => if j = x.b.toNat then some x.z else Q j) := by
  rw [notG_ins hx (ris_of hV h0 (pend_ris G Q)) h0, hV]
  unfold pendW pendL
  exact (ins_filter List.pairwise_lt_range (List.mem_range.2 hn)).symm

theorem notG_mem {x : Wr} : ∀ {V : List Wr} {put : Bool} {y : Wr}, y ∈ notG x put V → y = x ∨ y ∈ V
  | [], put, y, h => by
    unfold notG at h
    split at h
    · simp at h
    · simp at h; exact .inl h
  | z :: r, put, y, h => by
    rw [notG] at h
    rcases List.mem_append.1 h with h | h
    · split at h
      · simp at h; exact .inl h
      · simp at h
    · rcases List.mem_append.1 h with h | h
      · split at h
        · simp at h; exact .inr (by simp [h])
        · simp at h
      · rcases notG_mem h with h | h
        · exact .inl h
        · exact .inr (List.mem_cons_of_mem _ h)

end Go.Proofs.YtadnlljknocbbaaGreatDoor

/- The document's log in memory; its Head and Room. -/
namespace Go.Proofs.YtadnlljknocbbaaGreatDoor
open Go.RowKit Go.Shelf Go.Maps
set_option linter.unusedVariables false
set_option maxRecDepth 100000

/-- The cells of the document's log; pv is its list of what is pending. -/
def rlcell (dg : Nat) (P : Nat → Int) (L : Lg) (pv : Value) (k : Nat) : Value :=
  if k = 0 then .pointer (some ⟨dg, 0, none⟩) else if k < 13 then .int .i64 (P (k - 1)) else if k < 16 then .int .i64 (L.h.fn (k - 13)) else if k = 16 then pv else .bool L.dead

structure RlM (u : World) (S : Nat → Prop) (g dg : Nat) (P : Nat → Int) (G : Geo) (L : Lg) (V : List Wr) (pv : Value) : Prop where
  str : u.rowIs g 94 18 (rlcell dg P L pv)
  lw : Lw 0 u pv V
  lb : ∀ k, pv.ownBlock = some k → S k
  row : ∀ j, j < V.length → ∃ k, (wat V j).da = some ⟨k, 0, none⟩ ∧ S k ∧ Own 0 u (wat V j).da (wat V j).dl (wat V j).dc (wat V j).z ∧ ∀ z ∈ (wat V j).z, 0 ≤ z ∧ z ≤ 255
  is : wl V = pendW G L.Q
  nb : ∀ y ∈ V, 0 ≤ y.b ∧ y.dl = G.blk
  sg : S g
  lt : ∀ k, S k → k < u.heap.size
  pg : PG P G
  hok : L.h.Ok G

theorem RlM.kept {u u' : World} {S S' : Nat → Prop} {g dg : Nat} {P : Nat → Int} {G : Geo} {L : Lg} {V : List Wr} {pv : Value} (h : RlM u S g dg P G L V pv) (hk : ∀ k, S k → u'.heap[k]? = u.heap[k]?) (hS : ∀ k, S k → S' k) (hl : ∀ k, S' k → k < u'.heap.size) : RlM u' S' g dg P G L V pv :=
  ⟨h.str.of_block (hk _ h.sg), ownsRow_other h.lw (fun k e => hk k (h.lb k e)), fun k e => hS k (h.lb k e), fun j hj => by
    obtain ⟨k, e, hs, ho, hz⟩ := h.row j hj
    exact ⟨k, e, hS k hs, ho.kept (fun q eq => by rw [e] at eq; cases eq; exact hk k hs), hz⟩, h.is, h.nb, hS _ h.sg, hl, h.pg, h.hok⟩

theorem RlM.below {u u' : World} {S : Nat → Prop} {g dg : Nat} {P : Nat → Int} {G : Geo} {L : Lg} {V : List Wr} {pv : Value} (h : RlM u S g dg P G L V pv) (hb : Below u.heap.size u u') : RlM u' S g dg P G L V pv := h.kept (fun k hk => hb.block k (h.lt k hk)) (fun _ x => x) (fun k hk => Nat.lt_of_lt_of_le (h.lt k hk) hb.size)

theorem RlM.cells {u : World} {S : Nat → Prop} {g dg : Nat} {P : Nat → Int} {G : Geo} {L : Lg} {V : List Wr} {pv : Value} (h : RlM u S g dg P G L V pv) :
    u.cell? ⟨g, 0, none⟩ = some (.pointer (some ⟨dg, 0, none⟩)) ∧ (∀ k, k < 12 → u.cell? ⟨g, 1 + k, none⟩ = some (.int .i64 (P k))) ∧ u.cell? ⟨g, 13, none⟩ = some (.int .i64 (L.h.seq : Int)) ∧ u.cell? ⟨g, 14, none⟩ = some (.int .i64 (L.h.tail : Int)) ∧ u.cell? ⟨g, 15, none⟩ = some (.int .i64 (L.h.used : Int)) ∧
      u.cell? ⟨g, 16, none⟩ = some pv ∧ u.cell? ⟨g, 17, none⟩ = some (.bool L.dead) ∧ (∀ k, u.frozen? ⟨g, k, none⟩ = false) := by
  refine ⟨h.str.cell (i := 0) (by omega), fun k hk => ?_, h.str.cell (i := 13) (by omega), h.str.cell (i := 14) (by omega), h.str.cell (i := 15) (by omega), h.str.cell (i := 16) (by omega), h.str.cell (i := 17) (by omega), fun k => h.str.frozen k⟩
  rw [h.str.cell (i := 1 + k) (by omega)]
  unfold rlcell
  rw [if_neg (by omega), if_pos (by omega)]
  congr 3
  omega

/-- Head. -/
theorem rhead_any (g dg : Nat) (S : Nat → Prop) (P : Nat → Int) (G : Geo) (L : Lg) (V : List Wr) (pv : Value) (w : World) (h : RlM w S g dg P G L V pv) :
    Calls Tryz.prog 32 #[.pointer (some ⟨g, 0, none⟩)] w fun e w' => e = .returned (Hv L.h.fn) ∧ Below w.heap.size w w' := by
  obtain ⟨_, _, c3, c4, c5, _⟩ := h.cells
  have hg := h.lt g h.sg
  have hb := (Below.refl w.heap.size w).alloc (Nat.le_refl _) (.cells #[.int .i64 0, .int .i64 0, .int .i64 0] 57)
  have d3 := (hb.cell (p := ⟨g, 13, none⟩) hg).trans c3
  have d4 := (hb.cell (p := ⟨g, 14, none⟩) hg).trans c4
  have d5 := (hb.cell (p := ⟨g, 15, none⟩) hg).trans c5
  clear c3 c4 c5 h hb
  change Calls Tryz.prog 32 #[.pointer (some ⟨g, 0, none⟩)] w fun e w' => e = .returned (.agg #[.int .i64 (L.h.seq : Int), .int .i64 (L.h.tail : Int), .int .i64 (L.h.used : Int)]) ∧ Below w.heap.size w w'
  generalize (L.h.seq : Int) = x at *
  generalize (L.h.tail : Int) = y at *
  generalize (L.h.used : Int) = z at *
  have HA := hide (Bl.new w #[.int .i64 x, .int .i64 y, .int .i64 z] 57)
  have HB := hide ((Below.refl _ w).alloc (Nat.le_refl _) (.cells #[.int .i64 x, .int .i64 y, .int .i64 z] 57))
  go_enter Tryz.func32, Tryz.ntmps32
  go_wp2
  have hA := unhide HA
  have hW := unhide HB
  generalize w.alloc (.cells #[.int .i64 x, .int .i64 y, .int .i64 z] 57) = wf at *
  refine bodyPost_ret (v := .agg #[.int .i64 x, .int .i64 y, .int .i64 z]) ?_ rfl ⟨rfl, hW⟩
  simp [results, Tryz.results32, go_sem, hA.cell 0 _ rfl, hA.cell 1 _ rfl, hA.cell 2 _ rfl]

/-- Room. -/
theorem rroom_any (g dg : Nat) (S : Nat → Prop) (P : Nat → Int) (G : Geo) (L : Lg) (V : List Wr) (pv : Value) (w : World) (h : RlM w S g dg P G L V pv) :
    Calls Tryz.prog 30 #[.pointer (some ⟨g, 0, none⟩)] w fun e w' => e = .returned (.int .i64 ((G.lg - L.h.used : Nat) : Int)) ∧ ∃ q, w' = w.drewN q := by
  have hmix : Tryz.prog.follows Departure.mixedOrders = true := by kernel_rfl
  obtain ⟨_, cp, _, _, c5, _⟩ := h.cells
  have c4 := cp 3 (by omega)
  rw [h.pg.p3] at c4
  have hu := h.hok.used
  have hl := h.pg.ok.l2
  have e1 : IntKind.i64.wrap ((G.lg : Int) - (L.h.used : Int)) = ((G.lg - L.h.used : Nat) : Int) := by rw [IntKind.wrap_i64]; omega
  clear h cp
  generalize L.h.used = us at *
  generalize hr : G.lg - us = rm at *
  generalize G.lg = lg at *
  clear hr
  go_enter Tryz.func30, Tryz.ntmps30
  go_upto_region 1 with fail
  go_big_quiet_o (fail)
  go_wp2
  go_ret
  exact ⟨rfl, _, rfl⟩

/-- did. -/
theorem RlM.die {u : World} {S : Nat → Prop} {g dg : Nat} {P : Nat → Int} {G : Geo} {L : Lg} {V : List Wr} {pv : Value} (h : RlM u S g dg P G L V pv) : RlM (u.setCell ⟨g, 17, none⟩ (.bool true)) S g dg P G { L with dead := true } V pv := by
  have ne : ∀ k' c t, t ≠ 94 → u.heap[k']? = some (Obj.cells c t (0, 0)) → (u.setCell ⟨g, 17, none⟩ (.bool true)).heap[k']? = u.heap[k']? := fun k' c t ht hh =>
    Below.heap_setCell _ _ _ _ (row_ne h.str hh (fun e => ht e.symm))
  refine ⟨(h.str.set 17 _).congr (fun j hj => ?_), ownsRow_other h.lw (fun k e => ?_), h.lb, fun j hj => ?_, h.is, h.nb, h.sg, fun k hk => by simpa [World.setCell] using h.lt k hk, h.pg, h.hok⟩
  · rcases cell18 j hj with rfl | ⟨h1, h2⟩ | rfl | rfl | rfl | rfl | rfl
    · simp [rlcell]
    · simp [rlcell, show ¬ j = 0 by omega, h2, show ¬ j = 17 by omega]
    all_goals simp [rlcell]
  · obtain ⟨_, cur, h2⟩ := ownsRow_blk2 h.lw e
    exact ne k cur _ (by decide) h2
  · obtain ⟨k, e, hs, ho, hz⟩ := h.row j hj
    refine ⟨k, e, hs, ho.kept (fun q eq => ?_), hz⟩
    obtain ⟨_, _, cur, h2⟩ := ho.lt eq
    exact ne q cur 5 (by decide) h2

theorem rdid_any (g dg : Nat) (e0 : Int) (S : Nat → Prop) (P : Nat → Int) (G : Geo) (L : Lg) (V : List Wr) (pv : Value) (w : World) (h : RlM w S g dg P G L V pv) :
    Calls Tryz.prog 60 #[.pointer (some ⟨g, 0, none⟩), .int .i64 e0] w fun e w' => e = .returned (.bool (e0 == 0)) ∧ RlM w' S g dg P G (if e0 = 0 then L else { L with dead := true }) V pv ∧ Nx S w S w' := by
  by_cases he : e0 = 0
  · subst he
    rw [if_pos rfl]
    have X := hide h
    clear h
    go_enter Tryz.func60, Tryz.ntmps60
    go_wp2
    go_ret
    exact ⟨rfl, unhide X, Nx.refl _ _⟩
  · rw [if_neg he]
    have hx : Hid (Nx S w S (w.setCell ⟨g, 17, none⟩ (.bool true))) := Nx.set (p := ⟨g, 17, none⟩) h.sg _
    have X := hide h.die
    obtain ⟨_, _, _, _, _, _, c7, fr⟩ := h.cells
    have f7 := fr 17
    have d1 : (e0 != 0) = true := by simpa using he
    have d2 : (e0 == 0) = false := by simpa using he
    clear h fr he
    go_enter Tryz.func60, Tryz.ntmps60
    go_wp2
    go_ret
    exact ⟨by rw [d2]; rfl, unhide X, unhide hx⟩

end Go.Proofs.YtadnlljknocbbaaGreatDoor

