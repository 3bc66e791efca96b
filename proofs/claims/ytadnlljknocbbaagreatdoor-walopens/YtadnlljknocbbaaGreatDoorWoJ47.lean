/- Joined: WOpenW, WTwL. -/
import Derived.Test.YtadnlljknocbbaaGreatDoorWoGOpen
import Derived.Test.YtadnlljknocbbaaGreatDoorWoJ38
import Derived.Deep.Slices
import Derived.SizedLaws
/- Writes that came in, and lists of them, opened. -/
namespace Go.Proofs.YtadnlljknocbbaaGreatDoor
open Go.ChangeAt Go.ChangeShapes Go.RowKit Go.Shelf Go.WideShapes Go.Deep
set_option linter.unusedVariables false
set_option maxRecDepth 100000

/-- A list of writes that came in. -/
structure WArg (W : World) (a : Option Addr) (len cap : Nat) (V : List Wr) : Prop where
  has : WHas W a len V
  lb : len ≤ 4398046511104
  cb : len ≤ cap ∧ cap ≤ 9223372036854775807
  num : ∀ j, j < len → -9223372036854775808 ≤ (wat V j).b ∧ (wat V j).b ≤ 9223372036854775807
  dlt : ∀ j, j < len → 0 < (wat V j).dl → ∃ q off, (wat V j).da = some ⟨q, off, none⟩ ∧ q < W.heap.size

theorem cellsW1 : Tryz.prog.cellsOf 52 = 2 := by kernel_rfl

theorem bytesW1 : Tryz.prog.bytesOf 52 = 32 := by kernel_rfl

theorem cellsWB : Tryz.prog.cellsOf 50 = 1 := by kernel_rfl

theorem cellsWI : Tryz.prog.cellsOf 3 = 1 := by kernel_rfl

theorem wfields_under {t : TypeId} {L : List (String × TypeId × Nat)} (h : (match Tryz.prog.underlying t with | some (.struct fs) => fs.toList.map (fun f => (f.name, f.type, f.offset)) | _ => []) = L) (hL : L ≠ []) :
    ∃ fs, Tryz.prog.underlying t = some (.struct fs) ∧ fs.toList.map (fun f => (f.name, f.type, f.offset)) = L := by
  split at h
  · exact ⟨_, by assumption, h⟩
  · exact absurd h.symm hL

theorem underW : ∃ fs, Tryz.prog.underlying 52 = some (.struct fs) ∧ fs.toList.map (fun f => (f.name, f.type, f.offset)) = [("Block", 3, 0), ("Data", 50, 1)] :=
  wfields_under (by kernel_rfl) (by simp)

theorem wall_mem {H : Type} {P : Program} {e : TypeId} : ∀ {ds : List (DataW H)} {d : DataW H}, d ∈ ds → ∀ x ∈ d.weights P e, x ∈ DataW.weightsAll P e ds
  | d0 :: ds, d, hd, x, hx => by
    simp only [DataW.weightsAll, List.mem_append]
    rcases List.mem_cons.1 hd with rfl | hd
    · exact .inl hx
    · exact .inr (wall_mem hd x hx)

theorem wslice_of {H : Type} {enc : TypeId × Value → H} {W : World} {fuel : Nat} {t e : TypeId} {v : Value} {x : DataW H × List MemPlace} (ht : Tryz.prog.underlying t = some (.slice e)) (h : DataW.trod enc Tryz.prog W 0 (fun _ => true) true fuel t [v] = some x) : ∃ a l c, v = .slice a l c := by
  rcases open_slice ht h with ⟨e, _⟩ | ⟨a, len, cap, m, n, D, Pl, e, _⟩
  · cases e; exact ⟨_, _, _, rfl⟩
  · cases e; exact ⟨_, _, _, rfl⟩

theorem wfield_of {fs : Array Field} {L : List (String × TypeId × Nat)} (h : fs.toList.map (fun f => (f.name, f.type, f.offset)) = L) (k : Nat) (n : String) (t : TypeId) (o : Nat) (hk : L[k]? = some (n, t, o)) : ∃ f, fs[k]? = some f ∧ f.type = t ∧ f.offset = o := by
  rw [← h, List.getElem?_map, Array.getElem?_toList] at hk
  cases hf : fs[k]? with
  | none => rw [hf] at hk; cases hk
  | some f =>
    rw [hf] at hk
    simp at hk
    exact ⟨f, rfl, hk.2.1, hk.2.2⟩

/-- One write, in memory. -/
structure WrAt (W : World) (b off i : Nat) (o : Wr) : Prop where
  c0 : W.cell? ⟨b, off + i * 2, none⟩ = some (.int .i64 o.b)
  c1 : W.cell? ⟨b, off + i * 2 + 1, none⟩ = some (.slice o.da o.dl o.dc)
  row : Row W.heap.size W o.da o.dl o.dc o.z
  nb : -9223372036854775808 ≤ o.b ∧ o.b ≤ 9223372036854775807

theorem open_wr {H : Type} {enc : TypeId × Value → H} {W : World} {b off i fuel : Nat} {cs : List Value} {x : DataW H × List MemPlace} (hc : ∀ j, j < 2 → W.cell? ⟨b, off + i * 2 + j, none⟩ = cs[j]?) (hl : cs.length = 2) (h : DataW.trod enc Tryz.prog W 0 (fun _ => true) true fuel 52 cs = some x)
    (hw : ∀ q ∈ DataW.weights Tryz.prog 52 x.1, decide (q ≤ reachBytes) = true) : ∃ o, WrAt W b off i o := by
  obtain ⟨fs, hu, hfs⟩ := underW
  obtain ⟨xs, n, rfl, rfl, _, hxl, hall⟩ := DataW.trod_struct hu h
  have hlen : fs.size = 2 := by have := congrArg List.length hfs; simpa using this
  obtain ⟨x0, x1, rfl⟩ : ∃ x0 x1, xs = [x0, x1] := by
    match xs, hxl.trans hlen with
    | [x0, x1], _ => exact ⟨_, _, rfl⟩
  obtain ⟨y0, y1, rfl⟩ : ∃ y0 y1, cs = [y0, y1] := by
    match cs, hl with
    | [y0, y1], _ => exact ⟨_, _, rfl⟩
  have fld : ∀ (j : Nat) (nm : String) (t : TypeId) (o : Nat), ([("Block", 3, 0), ("Data", 50, 1)] : List (String × TypeId × Nat))[j]? = some (nm, t, o) → DataW.trod enc Tryz.prog W 0 (fun _ => true) true n t (([y0, y1].drop o).take (Tryz.prog.cellsOf t)) = [x0, x1][j]? := by
    intro j nm t o hj
    obtain ⟨f, h1, h2, h3⟩ := wfield_of hfs j nm t o hj
    have h4 := hall j f h1
    rw [h2, h3] at h4
    exact h4
  have f0 := fld 0 "Block" 3 0 rfl
  have f1 := fld 1 "Data" 50 1 rfl
  rw [cellsWI] at f0
  rw [cellsWB] at f1
  simp only [List.drop_zero, List.drop_succ_cons, List.take_succ_cons, List.take_zero, List.getElem?_cons_zero, List.getElem?_cons_succ] at f0 f1
  obtain ⟨z0, e0, _, hz0⟩ := DataW.trod_int Tryz.underlying3 f0
  cases e0
  obtain ⟨da, dl, dc, rfl⟩ := wslice_of Tryz.underlying50 f1
  have hty : fs.toList.map (·.type) = [3, 50] := by
    have := congrArg (List.map (fun q : String × TypeId × Nat => q.2.1)) hfs
    rw [List.map_map] at this
    exact this
  have wmem : ∀ (j : Nat) (t : TypeId) (d : DataW H), [3, 50][j]? = some t → [x0.1, x1.1][j]? = some d → ∀ q ∈ DataW.weights Tryz.prog t d, q ≤ reachBytes := by
    intro j t d ht hd q hq
    refine of_decide_eq_true (hw q ?_)
    simp only [List.map_cons, List.map_nil, DataW.weights, hu, hty]
    exact DataW.weights_mem_each ht hd q hq
  obtain ⟨zs, hrow⟩ := open_row (enc := enc) (d0 := x1.1) (p0 := x1.2) ⟨n, f1⟩ (fun elems spare e => by
    refine wmem 1 50 x1.1 rfl rfl _ ?_
    rw [e]
    simp [DataW.weights, Tryz.underlying50])
  exact ⟨⟨z0, da, dl, dc, zs⟩, hc 0 (by omega), hc 1 (by omega), hrow, int_max hz0⟩

open Classical in
theorem warg_of {W : World} {b off len cap : Nat} (hl : len ≤ 4398046511104) (hc : len ≤ cap ∧ cap ≤ 9223372036854775807) (hb : b < W.heap.size) (h : ∀ i, i < len → ∃ o, WrAt W b off i o) : ∃ V, WArg W (some ⟨b, off, none⟩) len cap V := by
  have hf : ∀ i, ∃ o, i < len → WrAt W b off i o := fun i => by
    by_cases hi : i < len
    · obtain ⟨o, ho⟩ := h i hi
      exact ⟨o, fun _ => ho⟩
    · exact ⟨W0, fun hx => absurd hx hi⟩
  obtain ⟨f, hf⟩ := Classical.axiomOfChoice hf
  have hw : ∀ j, j < len → wat ((List.range len).map f) j = f j := fun j hj => by simp [wat, hj]
  refine ⟨(List.range len).map f, ⟨by simp, fun _ => ⟨b, off, rfl, hb, fun j hj => ?_⟩, fun j hj => ?_⟩, hl, hc, fun j hj => ?_, fun j hj hp => ?_⟩
  · rw [hw j hj]
    exact ⟨(hf j hj).c0, (hf j hj).c1⟩
  · rw [hw j hj]
    exact (hf j hj).row
  · rw [hw j hj]
    exact (hf j hj).nb
  · rw [hw j hj] at hp ⊢
    obtain ⟨_, _, _, _, hcell⟩ := (hf j hj).row
    obtain ⟨q, o, e, hq, _⟩ := hcell hp
    exact ⟨q, o, e, hq⟩

theorem warg_nil (W : World) : WArg W none 0 0 [] := ⟨⟨rfl, fun h => by omega, fun j h => by omega⟩, by omega, by omega, fun j h => by omega, fun j h => by omega⟩

theorem open_writes {H : Type} {enc : TypeId × Value → H} {W : World} {a0 : Option Addr} {len0 cap0 : Nat} {d0 : DataW H} {p0 : List MemPlace} (h0 : DataW.Trod enc Tryz.prog W 0 (fun _ => true) true 39 (.slice a0 len0 cap0) d0 p0)
    (hw : ∀ q ∈ DataW.weights Tryz.prog 39 d0, decide (q ≤ reachBytes) = true) : ∃ V, WArg W a0 len0 cap0 V := by
  obtain ⟨fuel, hf⟩ := h0
  rcases open_slice Tryz.underlying39 hf with ⟨e, _⟩ | ⟨a, len, cap, m, n, D, Pl, e, _, hl, hm, hmm, hx, hel⟩
  · simp [Value.cells] at e
    obtain ⟨rfl, rfl, rfl⟩ := e
    exact ⟨[], warg_nil W⟩
  · simp [Value.cells] at e
    obtain ⟨rfl, rfl, rfl⟩ := e
    simp only [if_true] at hmm
    subst hmm
    have hd := congrArg Prod.fst hx
    simp only at hd
    have hW : ∀ q ∈ DataW.weights Tryz.prog 39 d0, q ≤ reachBytes := fun q hq => of_decide_eq_true (hw q hq)
    have hlen : len0 ≤ 4398046511104 := by
      have := hW ((((List.range len0).map D).length + ((List.range (m - len0)).map fun j => D (len0 + j)).length) * Tryz.prog.bytesOf 52) (by rw [hd]; simp [DataW.weights, Tryz.underlying39])
      rw [bytesW1] at this
      simp [reachBytes] at this
      omega
    have hcap : len0 ≤ m ∧ m ≤ 9223372036854775807 := by
      unfold maxLen at hm
      omega
    by_cases hp : 0 < len0
    · obtain ⟨b, off, spot⟩ := a
      have hspot : spot = none := by
        obtain ⟨cs', h1, _⟩ := hel 0 (by omega)
        rw [cellsW1] at h1
        obtain ⟨_, h2, h3⟩ := World.cells?_some h1
        have h4 := h3 0 (by omega)
        rw [List.getElem?_eq_getElem (by omega)] at h4
        have := World.cell?_spot h4
        simpa [Addr.add] using this
      subst hspot
      have hop : ∀ i, i < len0 → ∃ o, WrAt W b off i o := by
        intro i hi
        obtain ⟨cs', h1, h2⟩ := hel i (by omega)
        rw [cellsW1] at h1
        obtain ⟨_, h3, h4⟩ := World.cells?_some h1
        refine open_wr (enc := enc) (x := (D i, Pl i)) (fun j hj => ?_) h3 h2 (fun q hq => hw q ?_)
        · have := h4 j hj
          rw [World.add_zero_spot, World.add_zero_spot] at this
          exact this
        · rw [hd]
          simp only [DataW.weights, Tryz.underlying39, List.mem_cons, List.mem_append]
          refine .inr (.inl (wall_mem (d := D i) ?_ q hq))
          exact List.mem_map.2 ⟨i, List.mem_range.2 hi, rfl⟩
      refine warg_of hlen hcap ?_ hop
      obtain ⟨o, ho⟩ := hop 0 hp
      exact cell_block_lt ho.c0
    · obtain rfl : len0 = 0 := by omega
      exact ⟨[], ⟨rfl, fun h => by omega, fun j h => by omega⟩, by omega, by omega, fun j h => by omega, fun j h => by omega⟩

/-- Lists of writes that came in. -/
def WLs (W : World) (a : Option Addr) (len : Nat) : Prop := len ≤ 140737488351232 ∧ (0 < len → ∃ b off, a = some ⟨b, off, none⟩ ∧ b < W.heap.size ∧ ∀ i, i < len → ∃ xa xl xc V, W.cell? ⟨b, off + i, none⟩ = some (.slice xa xl xc) ∧ WArg W xa xl xc V)

theorem cellsWL : Tryz.prog.cellsOf 39 = 1 := by kernel_rfl

theorem bytesWL : Tryz.prog.bytesOf 39 = 24 := by kernel_rfl

theorem open_wlists {H : Type} {enc : TypeId × Value → H} {W : World} {a0 : Option Addr} {len0 cap0 : Nat} {d0 : DataW H} {p0 : List MemPlace} (h0 : DataW.Trod enc Tryz.prog W 0 (fun _ => true) true 67 (.slice a0 len0 cap0) d0 p0)
    (hw : ∀ q ∈ DataW.weights Tryz.prog 67 d0, decide (q ≤ reachBytes) = true) : WLs W a0 len0 := by
  obtain ⟨fuel, hf⟩ := h0
  rcases open_slice Tryz.underlying67 hf with ⟨e, _⟩ | ⟨a, len, cap, m, n, D, Pl, e, _, hl, hm, hmm, hx, hel⟩
  · simp [Value.cells] at e
    obtain ⟨rfl, rfl, rfl⟩ := e
    exact ⟨by omega, fun h => by omega⟩
  · simp [Value.cells] at e
    obtain ⟨rfl, rfl, rfl⟩ := e
    simp only [if_true] at hmm
    subst hmm
    have hd := congrArg Prod.fst hx
    simp only at hd
    have hW : ∀ q ∈ DataW.weights Tryz.prog 67 d0, q ≤ reachBytes := fun q hq => of_decide_eq_true (hw q hq)
    have hlen : len0 ≤ 140737488351232 := by
      have := hW ((((List.range len0).map D).length + ((List.range (m - len0)).map fun j => D (len0 + j)).length) * Tryz.prog.bytesOf 39) (by rw [hd]; simp [DataW.weights, Tryz.underlying67])
      rw [bytesWL] at this
      simp [reachBytes] at this
      omega
    refine ⟨hlen, fun hp => ?_⟩
    obtain ⟨b, off, spot⟩ := a
    have hspot : spot = none := by
      obtain ⟨cs', h1, _⟩ := hel 0 (by omega)
      rw [cellsWL] at h1
      obtain ⟨_, h2, h3⟩ := World.cells?_some h1
      have h4 := h3 0 (by omega)
      rw [List.getElem?_eq_getElem (by omega)] at h4
      have := World.cell?_spot h4
      simpa [Addr.add] using this
    subst hspot
    have hop : ∀ i, i < len0 → ∃ xa xl xc V, W.cell? ⟨b, off + i, none⟩ = some (.slice xa xl xc) ∧ WArg W xa xl xc V := by
      intro i hi
      obtain ⟨cs', h1, h2⟩ := hel i (by omega)
      rw [cellsWL] at h1
      obtain ⟨_, h3, h4⟩ := World.cells?_some h1
      obtain ⟨y, rfl⟩ : ∃ y, cs' = [y] := by
        match cs', h3 with
        | [y], _ => exact ⟨_, rfl⟩
      obtain ⟨xa, xl, xc, rfl⟩ := wslice_of Tryz.underlying39 h2
      obtain ⟨V, hV⟩ := open_writes (enc := enc) (d0 := D i) (p0 := Pl i) ⟨_, h2⟩ (fun q hq => hw q (by
        rw [hd]
        simp only [DataW.weights, Tryz.underlying67, List.mem_cons, List.mem_append]
        refine .inr (.inl (wall_mem (d := D i) ?_ q hq))
        exact List.mem_map.2 ⟨i, List.mem_range.2 hi, rfl⟩))
      refine ⟨xa, xl, xc, V, ?_, hV⟩
      have := h4 0 (by omega)
      rw [World.add_zero_spot, World.add_zero_spot, Nat.mul_one, Nat.add_zero] at this
      exact this
    refine ⟨b, off, rfl, ?_, hop⟩
    obtain ⟨xa, xl, xc, V, hc, _⟩ := hop 0 hp
    exact cell_block_lt hc

end Go.Proofs.YtadnlljknocbbaaGreatDoor

/- Lists that came in, later. -/
namespace Go.Proofs.YtadnlljknocbbaaGreatDoor
open Go.RowKit Go.Shelf
set_option linter.unusedVariables false

theorem WArg.later {w u : World} {a : Option Addr} {len cap : Nat} {V : List Wr} (h : WArg w a len cap V) (hb : Below w.heap.size w u) : WArg u a len cap V :=
  ⟨h.has.later hb, h.lb, h.cb, h.num, fun j hj hp => by
    obtain ⟨q, off, e, hq⟩ := h.dlt j hj hp
    exact ⟨q, off, e, Nat.lt_of_lt_of_le hq hb.size⟩⟩

theorem WLs.later {w u : World} {a : Option Addr} {len : Nat} (h : WLs w a len) (hb : Below w.heap.size w u) : WLs u a len :=
  ⟨h.1, fun hp => by
    obtain ⟨b, off, e, hlt, hc⟩ := h.2 hp
    refine ⟨b, off, e, Nat.lt_of_lt_of_le hlt hb.size, fun i hi => ?_⟩
    obtain ⟨xa, xl, xc, V, c1, hV⟩ := hc i hi
    exact ⟨xa, xl, xc, V, (hb.cell (p := ⟨b, off + i, none⟩) hlt).trans c1, hV.later hb⟩⟩

end Go.Proofs.YtadnlljknocbbaaGreatDoor

