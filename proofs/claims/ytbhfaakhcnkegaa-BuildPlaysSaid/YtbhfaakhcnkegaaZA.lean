/-
  The reference's sheet: New, Bytes, Open, OpenSet, Put.
-/
import Derived.Test.YtbhfaakhcnkegaaWk
import Derived.Test.YtbhfaakhcnkegaaWq
import Derived.Test.YtbhfaakhcnkegaaWp
namespace Go.Proofs.Ytbhfaakhcnkegaa
open Go.RowKit Go.Joins
set_option linter.unusedVariables false
set_option linter.unusedSimpArgs false
set_option maxRecDepth 4000

/-! ### Za -/
/-- The reference's sheet at block T: its frames, the sheet's own first, its error; rp: the blocks that are its own. -/
structure Rst (w : World) (T : Nat) (rp : List Nat) (fs : List Fr) (e : Int) (va : Value) (vs : List Value) : Prop where
  blk : Blk w T 50 [va, .int .i64 e]
  row : w.ownsRow 0 88 5 va fs.length (frCs fs vs)
  held : FrB w fs vs
  inT : T ∈ rp
  inA : ∀ k, va.ownBlock = some k → k ∈ rp
  inV : ∀ u ∈ vs, ∀ k, u.ownBlock = some k → k ∈ rp
  lt : ∀ k ∈ rp, k < w.heap.size
/-- .. without its insides. -/
def Rs (w : World) (T : Nat) (rp : List Nat) (fs : List Fr) (e : Int) : Prop := ∃ va vs, Rst w T rp fs e va vs
/-- What a call on it leaves. -/
def RsOk (w : World) (T : Nat) (rp : List Nat) (fs : List Fr) (e : Int) (w' : World) : Prop := ∃ rp', Rs w' T rp' fs e ∧ OnlyF rp w w' ∧ Grew w.heap.size rp rp'

theorem Rst.apart {w w' : World} {T : Nat} {rp fq : List Nat} {fs : List Fr} {e : Int} {va : Value} {vs : List Value} (h : Rst w T rp fs e va vs) (hO : OnlyF fq w w') (hd : ∀ k ∈ rp, k ∉ fq) : Rst w' T rp fs e va vs := by
  have hkeep : ∀ {te : TypeId} {size n : Nat} {u : Value} {xs : List Value}, w.ownsRow 0 te size u n xs → (∀ k, u.ownBlock = some k → k ∈ rp) → w'.ownsRow 0 te size u n xs := by
    intro te size n u xs ho hin
    refine ⟨ho.1, ?_⟩
    rcases ho.2 with h2 | ⟨g, cap, cur, rfl, h0, hh, r⟩
    · exact .inl h2
    · have hg := hin g rfl
      exact .inr ⟨g, cap, cur, rfl, h0, by rw [hO.block g (h.lt g hg) (hd g hg)]; exact hh, r⟩
  exact ⟨(hO.block T (h.lt T h.inT) (hd T h.inT)).trans h.blk, hkeep h.row h.inA, h.held.keep fun u hu l ho => hkeep ho (h.inV u hu), h.inT, h.inA, h.inV, fun k hk => Nat.lt_of_lt_of_le (h.lt k hk) hO.size⟩
theorem Rst.below {w w' : World} {T : Nat} {rp : List Nat} {fs : List Fr} {e : Int} {va : Value} {vs : List Value} (h : Rst w T rp fs e va vs) (hb : Below w.heap.size w w') : Rst w' T rp fs e va vs :=
  h.apart (fq := []) (.of_below hb) (fun _ _ h => by cases h)
theorem Rs.below {w w' : World} {T : Nat} {rp : List Nat} {fs : List Fr} {e : Int} (h : Rs w T rp fs e) (hb : Below w.heap.size w w') : Rs w' T rp fs e := by
  obtain ⟨va, vs, hT⟩ := h
  exact ⟨va, vs, hT.below hb⟩
theorem RsOk.same {w w' : World} {T : Nat} {rp : List Nat} {fs : List Fr} {e : Int} (h : Rs w T rp fs e) (hb : Below w.heap.size w w') : RsOk w T rp fs e w' := ⟨rp, h.below hb, .of_below hb, Grew.refl _ _⟩
theorem Rst.cells {w : World} {T : Nat} {rp : List Nat} {fs : List Fr} {e : Int} {va : Value} {vs : List Value} (h : Rst w T rp fs e va vs) :
    (w.cell? ⟨T, 0, none⟩ = some va ∧ w.cell? ⟨T, 1, none⟩ = some (.int .i64 e)) ∧ ∀ i, w.frozen? ⟨T, i, none⟩ = false := ⟨⟨h.blk.cell 0, h.blk.cell 1⟩, fun i => h.blk.free i⟩
theorem Rst.vaForm {w : World} {T : Nat} {rp : List Nat} {fs : List Fr} {e : Int} {va : Value} {vs : List Value} (h : Rst w T rp fs e va vs) (hne : fs ≠ []) :
    ∃ g c, va = .slice (some ⟨g, 0, none⟩) fs.length c ∧ fs.length ≤ c ∧ g ∈ rp := by
  have hin := h.inA
  rcases h.row.2 with ⟨rfl, h0⟩ | ⟨g, cap, cur, rfl, _, _, hle, _⟩
  · exact absurd (List.eq_nil_of_length_eq_zero h0) hne
  · exact ⟨g, cap, rfl, hle, hin g rfl⟩
theorem frCs_at : ∀ {fs : List Fr} {vs : List Value} {i : Nat} {f : Fr} {v : Value}, fs[i]? = some f → vs[i]? = some v → fs.length = vs.length →
    (frCs fs vs)[5 * i]? = some (.int .i64 f.t.cls) ∧ (frCs fs vs)[5 * i + 1]? = some (.int .i64 f.t.num) ∧ (frCs fs vs)[5 * i + 2]? = some (.bool f.t.made) ∧ (frCs fs vs)[5 * i + 3]? = some (.bool f.set) ∧ (frCs fs vs)[5 * i + 4]? = some v
  | [], _, _, _, _, h, _, _ => by simp at h
  | _ :: _, [], _, _, _, _, h, _ => by simp at h
  | f :: fs, v :: vs, 0, _, _, hf, hv, _ => by
    cases hf; cases hv
    simp [frCs, frC]
  | f :: fs, v :: vs, i + 1, g, u, hf, hv, hl => by
    have := frCs_at (fs := fs) (vs := vs) (i := i) (f := g) (v := u) (by simpa using hf) (by simpa using hv) (by simpa using hl)
    have e : ∀ j, (frCs (f :: fs) (v :: vs))[5 * (i + 1) + j]? = (frCs fs vs)[5 * i + j]? := by
      intro j
      show (frC f v ++ frCs fs vs)[5 * (i + 1) + j]? = _
      rw [List.getElem?_append_right (by simp [frC]; omega)]
      congr 1
      simp [frC]; omega
    have e0 := e 0
    rw [Nat.add_zero, Nat.add_zero] at e0
    rw [e0, e 1, e 2, e 3, e 4]
    exact this
theorem frCs_set : ∀ {fs : List Fr} {vs : List Value} {i : Nat} {f : Fr} (v : Value) (l : List UInt8), fs[i]? = some f → fs.length = vs.length →
    (frCs fs vs).set (5 * i + 4) v = frCs (fs.set i ⟨f.t, f.set, l⟩) (vs.set i v)
  | [], _, _, _, _, _, h, _ => by simp at h
  | _ :: _, [], _, _, _, _, _, h => by simp at h
  | f :: fs, u :: vs, 0, _, v, l, hf, _ => by
    cases hf
    simp [frCs, frC]
  | f :: fs, u :: vs, i + 1, g, v, l, hf, hl => by
    have := frCs_set (fs := fs) (vs := vs) (i := i) (f := g) v l (by simpa using hf) (by simpa using hl)
    show (frC f u ++ frCs fs vs).set (5 * (i + 1) + 4) v = frC f u ++ frCs (fs.set i ⟨g.t, g.set, l⟩) (vs.set i v)
    rw [List.set_append_right _ _ (by simp [frC]; omega)]
    congr 1
/-- A frame's bytes are another row. -/
theorem Rst.setB {w : World} {T g n c i : Nat} {rp : List Nat} {fs : List Fr} {e : Int} {vs : List Value} {f : Fr} {v : Value} {l : List UInt8} (h : Rst w T rp fs e (.slice (some ⟨g, 0, none⟩) n c) vs) (hf : fs[i]? = some f) (ho : Ob w 0 5 v l)
    (hlt : ∀ k, v.ownBlock = some k → k < w.heap.size) :
    Rst (w.setCell ⟨g, 5 * i + 4, none⟩ v) T (rp ++ v.ownBlock.toList) (fs.set i ⟨f.t, f.set, l⟩) e (.slice (some ⟨g, 0, none⟩) n c) (vs.set i v) ∧ OnlyF rp w (w.setCell ⟨g, 5 * i + 4, none⟩ v) := by
  have hgr : g ∈ rp := h.inA g rfl
  have hn : n = fs.length := by
    rcases h.row.2 with ⟨h', _⟩ | ⟨g', cap, cur, h', _⟩
    · simp at h'
    · simp at h'; exact h'.2.1
  subst hn
  have hst := World.ownsRow.stored h.row (5 * i + 4) v
  have hTg : T ≠ g := by
    intro e'; subst e'
    exact h.blk.notRow h.row (by decide) rfl
  have hO : OnlyF rp w (w.setCell ⟨g, 5 * i + 4, none⟩ v) := (OnlyF.refl rp w).setCell (.inl hgr) v
  have hrow : ∀ {u : Value} {r : List UInt8}, Ob w 0 5 u r → Ob (w.setCell ⟨g, 5 * i + 4, none⟩ v) 0 5 u r := fun hr => ownsRow_setCell_other hr (by
    rcases hr.notRow h.row (by decide) with h1 | h1
    · rw [h1]; simp
    · exact h1) _
  refine ⟨⟨?_, ?_, ?_, ?_, ?_, ?_, ?_⟩, hO⟩
  · exact (Below.heap_setCell _ _ _ T hTg).trans h.blk
  · rw [List.length_set, ← frCs_set v l hf h.held.1]; exact hst.1
  · refine ⟨by simp [h.held.1], fun j f' hf' => ?_⟩
    by_cases hj : i = j
    · subst hj
      have hil : i < fs.length := (List.getElem?_eq_some_iff.1 hf).1
      rw [List.getElem?_set_self hil] at hf'
      cases hf'
      exact ⟨v, List.getElem?_set_self (by rw [← h.held.1]; exact hil), hrow ho⟩
    · rw [List.getElem?_set_ne hj] at hf'
      obtain ⟨u, hu, hr⟩ := h.held.2 j f' hf'
      exact ⟨u, by rw [List.getElem?_set_ne hj]; exact hu, hrow hr⟩
  · exact List.mem_append_left _ h.inT
  · exact fun k hk => List.mem_append_left _ (h.inA k hk)
  · intro u hu k hk
    rcases List.mem_or_eq_of_mem_set hu with h1 | h1
    · exact List.mem_append_left _ (h.inV u h1 k hk)
    · subst h1; exact List.mem_append_right _ (by rw [hk]; simp)
  · intro k hk
    have hs : (w.setCell ⟨g, 5 * i + 4, none⟩ v).heap.size = w.heap.size := by simp [World.setCell]
    rw [hs]
    rcases List.mem_append.1 hk with h1 | h1
    · exact h.lt k h1
    · exact hlt k (by simpa using h1)
/-- Its error. -/
theorem Rst.setE {w : World} {T : Nat} {rp : List Nat} {fs : List Fr} {e : Int} {va : Value} {vs : List Value} (h : Rst w T rp fs e va vs) (x : Int) :
    Rst (w.setCell ⟨T, 1, none⟩ (.int .i64 x)) T rp fs x va vs ∧ OnlyF rp w (w.setCell ⟨T, 1, none⟩ (.int .i64 x)) := by
  refine ⟨⟨?_, ownsRow_setCell_other h.row (h.blk.notRow h.row (by decide)) _, ?_, h.inT, h.inA, h.inV, fun k hk => by have := h.lt k hk; simpa [World.setCell] using this⟩, (OnlyF.refl rp w).setCell (.inl h.inT) _⟩
  · have := h.blk.set 1 (.int .i64 x)
    simpa using this
  · exact h.held.keep fun u hu l ho => ownsRow_setCell_other ho (h.blk.notRow ho (by decide)) _
/-- Its row is another one, with one frame more. -/
theorem Rst.push {w w1 : World} {T : Nat} {rp : List Nat} {fs : List Fr} {e : Int} {va va' : Value} {vs : List Value} (f : Fr) (h : Rst w T rp fs e va vs) (hg : w.grownBy w1 va.ownBlock) (hb : f.b = [])
    (hr : w1.ownsRow 0 88 5 va' (fs.length + 1) (frCs fs vs ++ frC f (.slice none 0 0))) (hv : va'.ownBlock = va.ownBlock ∨ ∃ k, va'.ownBlock = some k ∧ w.heap.size ≤ k) :
    Rst (w1.setCell ⟨T, 0, none⟩ va') T (rp ++ va'.ownBlock.toList) (fs ++ [f]) e va' (vs ++ [.slice none 0 0]) ∧ OnlyF rp w (w1.setCell ⟨T, 0, none⟩ va') := by
  have hTv : va.ownBlock ≠ some T := h.blk.notRow h.row (by decide)
  have hblk1 : Blk w1 T 50 [va, .int .i64 e] := (hg.block T h.blk.lt (fun e' => hTv e'.symm)).trans h.blk
  have hO1 : OnlyF rp w w1 := .of_grown hg fun k hk => .inl (h.inA k hk)
  have hheld1 : FrB w1 fs vs := h.held.keep fun u hu l ho => Ob.grown ho hg (ho.notRow h.row (by decide))
  have hset : ∀ {u : Value} {r : List UInt8}, Ob w1 0 5 u r → Ob (w1.setCell ⟨T, 0, none⟩ va') 0 5 u r := fun hr => ownsRow_setCell_other hr (hblk1.notRow hr (by decide)) _
  have hlt1 : ∀ k, va'.ownBlock = some k → k < w1.heap.size := fun k hk => (World.ownsRow.lt hr k hk).2
  refine ⟨⟨?_, ?_, ?_, ?_, ?_, ?_, ?_⟩, hO1.setCell (.inl h.inT) _⟩
  · have := hblk1.set 0 va'
    simpa using this
  · have hc : frCs (fs ++ [f]) (vs ++ [.slice none 0 0]) = frCs fs vs ++ frC f (.slice none 0 0) := by rw [frCs_append h.held.1]; simp [frCs]
    rw [hc, List.length_append]
    exact ownsRow_setCell_other hr (hblk1.notRow hr (by decide)) _
  · refine ⟨by simp [h.held.1], fun i f' hf' => ?_⟩
    by_cases hi : i < fs.length
    · rw [List.getElem?_append_left hi] at hf'
      obtain ⟨u, hu, ho⟩ := hheld1.2 i f' hf'
      exact ⟨u, by rw [List.getElem?_append_left (by rw [← h.held.1]; exact hi)]; exact hu, hset ho⟩
    · rw [List.getElem?_append_right (by omega)] at hf'
      have hi0 : i - fs.length = 0 := by
        rcases Nat.eq_zero_or_pos (i - fs.length) with q | q
        · exact q
        · rw [List.getElem?_eq_none (by simp; omega)] at hf'; cases hf'
      rw [hi0] at hf'
      cases hf'
      refine ⟨.slice none 0 0, by rw [List.getElem?_append_right (by rw [← h.held.1]; omega), ← h.held.1, hi0]; rfl, ?_⟩
      rw [hb]; exact Ob.nil _ _ _
  · exact List.mem_append_left _ h.inT
  · exact fun k hk => List.mem_append_right _ (by rw [hk]; simp)
  · intro u hu k hk
    rcases List.mem_append.1 hu with h1 | h1
    · exact List.mem_append_left _ (h.inV u h1 k hk)
    · simp at h1; subst h1; simp [Value.ownBlock] at hk
  · intro k hk
    have hs : (w1.setCell ⟨T, 0, none⟩ va').heap.size = w1.heap.size := by simp [World.setCell]
    rw [hs]
    rcases List.mem_append.1 hk with h1 | h1
    · exact Nat.lt_of_lt_of_le (h.lt k h1) hg.size
    · exact hlt1 k (by simpa using h1)
theorem frCs_take : ∀ {fs : List Fr} {vs : List Value} (k : Nat), fs.length = vs.length → (frCs fs vs).take (k * 5) = frCs (fs.take k) (vs.take k)
  | [], [], k, _ => by simp [frCs]
  | f :: fs, v :: vs, 0, _ => by simp [frCs]
  | f :: fs, v :: vs, k + 1, h => by
    have := frCs_take (fs := fs) (vs := vs) k (by simpa using h)
    show (frC f v ++ frCs fs vs).take ((k + 1) * 5) = frC f v ++ frCs (fs.take k) (vs.take k)
    rw [List.take_append]
    have e1 : (frC f v).length = 5 := rfl
    rw [e1, show (k + 1) * 5 - 5 = k * 5 by omega, this, List.take_of_length_le (by rw [e1]; omega)]
  | [], _ :: _, _, h => by simp at h
  | _ :: _, [], _, h => by simp at h
/-- Its last frame is dropped. -/
theorem Rst.pop {w : World} {T g n c k : Nat} {rp : List Nat} {fs : List Fr} {e : Int} {vs : List Value} (h : Rst w T rp fs e (.slice (some ⟨g, 0, none⟩) n c) vs) (hk : k ≤ fs.length) :
    Rst (w.setCell ⟨T, 0, none⟩ (.slice (some ⟨g, 0, none⟩) k c)) T rp (fs.take k) e (.slice (some ⟨g, 0, none⟩) k c) (vs.take k) ∧ OnlyF rp w (w.setCell ⟨T, 0, none⟩ (.slice (some ⟨g, 0, none⟩) k c)) := by
  have hTv : (Value.slice (some ⟨g, 0, none⟩) n c).ownBlock ≠ some T := h.blk.notRow h.row (by decide)
  have hrow : w.ownsRow 0 88 5 (.slice (some ⟨g, 0, none⟩) k c) (fs.take k).length (frCs (fs.take k) (vs.take k)) := by
    have hl : (fs.take k).length = k := by simp; omega
    rw [hl]
    refine ⟨by rw [frCs_len (by simp [h.held.1]), hl], ?_⟩
    rcases h.row.2 with ⟨h', _⟩ | ⟨g', cap, cur, h', hb, hh, hle, hcm, hcs, htk⟩
    · simp at h'
    · simp only [Value.slice.injEq, Option.some.injEq, Addr.mk.injEq, and_true, true_and] at h'
      obtain ⟨rfl, rfl, rfl⟩ := h'
      refine .inr ⟨g, c, cur, rfl, hb, hh, by omega, hcm, hcs, ?_⟩
      rw [← frCs_take k h.held.1, ← htk, List.take_take]
      congr 1
      omega
  refine ⟨⟨?_, ?_, ?_, h.inT, h.inA, fun u hu => h.inV u (List.mem_of_mem_take hu), fun k' hk' => by have := h.lt k' hk'; simpa [World.setCell] using this⟩, (OnlyF.refl rp w).setCell (.inl h.inT) _⟩
  · have := h.blk.set 0 (.slice (some ⟨g, 0, none⟩) k c)
    simpa using this
  · exact ownsRow_setCell_other hrow (by simpa [Value.ownBlock] using hTv) _
  · refine ⟨by simp [h.held.1], fun i f hf => ?_⟩
    rw [List.getElem?_take] at hf
    split at hf
    · rename_i hik
      obtain ⟨u, hu, ho⟩ := h.held.2 i f hf
      exact ⟨u, by rw [List.getElem?_take, if_pos hik]; exact hu, ownsRow_setCell_other ho (h.blk.notRow ho (by decide)) _⟩
    · cases hf

/-! ### Zb -/
/-- A call, as it stands in Go. -/
def actv (k : Int) (rv : Value) (t : Tg) (x : Int) : Value := .agg #[.int .i64 k, rv, .int .i64 t.cls, .int .i64 t.num, .bool t.made, .int .i64 x]
def actC (k : Int) (rv : Value) (t : Tg) (x : Int) : List Value := [.int .i64 k, rv, .int .i64 t.cls, .int .i64 t.num, .bool t.made, .int .i64 x]

set_option maxHeartbeats 1600000 in
theorem ref8New (w : World) : Calls Try.prog 9 #[] w fun e w' => ∃ T, e = .returned (.pointer (some ⟨T, 0, none⟩)) ∧ w.heap.size ≤ T ∧ Rs w' T [w.heap.size, T] [fr0] 0 ∧ Below w.heap.size w w' := by
  have hf : Rst ((w.alloc (.cells #[.int .i64 0, .int .i64 0, .bool false, .bool false, .slice none 0 0] 88)).alloc (.cells #[.slice (some ⟨w.heap.size, 0, none⟩) 1 1, .int .i64 0] 50)) (w.heap.size + 1) [w.heap.size, w.heap.size + 1] [fr0] 0 (.slice (some ⟨w.heap.size, 0, none⟩) 1 1) [.slice none 0 0] := by
    have hb := Blk.new2 (w.alloc (.cells #[.int .i64 0, .int .i64 0, .bool false, .bool false, .slice none 0 0] 88)) (.slice (some ⟨w.heap.size, 0, none⟩) 1 1) (.int .i64 0) 50
    rw [World.size_alloc] at hb
    refine ⟨hb, ?_, ?_, by simp, ?_, ?_, ?_⟩
    · have h1 : (w.alloc (.cells #[.int .i64 0, .int .i64 0, .bool false, .bool false, .slice none 0 0] 88)).ownsRow 0 88 5 (.slice (some ⟨w.heap.size, 0, none⟩) 1 1) 1 (frCs [fr0] [.slice none 0 0]) :=
        ⟨rfl, .inr ⟨w.heap.size, 1, _, rfl, Nat.zero_le _, heap_alloc_new w _, Nat.le_refl _, by unfold maxLen; omega, rfl, rfl⟩⟩
      exact World.ownsRow.alloc h1 _
    · refine ⟨rfl, fun i f hf => ?_⟩
      rcases i with _ | i
      · cases hf; exact ⟨_, rfl, Ob.nil _ _ _⟩
      · simp at hf
    · intro k hk; simp [Value.ownBlock] at hk; simp [hk]
    · intro u hu k hk; simp at hu; subst hu; simp [Value.ownBlock] at hk
    · intro k hk; simp at hk; simp; omega
  go_enter Try.func9, Try.ntmps9
  go_wp2
  go_ret
  exact ⟨w.heap.size + 1, rfl, by omega, ⟨_, _, hf⟩, below_alloc2 _ _ _⟩

set_option maxHeartbeats 1600000 in
theorem ref8Bytes (T : Nat) (rp : List Nat) (fs : List Fr) (er : Int) (w : World) (h : Rs w T rp fs er) (hne : fs ≠ []) :
    Calls Try.prog 19 #[.pointer (some ⟨T, 0, none⟩)] w fun e w' => (∃ A n c, e = .returned (.tuple #[.slice A n c, .int .i64 (if er ≠ 0 then er else if 1 < fs.length then 17 else 0)]) ∧ Bs w' A n (if er ≠ 0 then [] else if 1 < fs.length then [] else (fs.head hne).b) ∧ n ≤ c) ∧ Qt w w' := by
  obtain ⟨va, vs, hT⟩ := h
  obtain ⟨⟨c0, c1⟩, _⟩ := hT.cells
  obtain ⟨g, c, rfl, hc, _⟩ := hT.vaForm hne
  by_cases q : er = 0
  rotate_left
  · have e1 : (er != 0) = true := by simpa using q
    rw [if_pos q, if_pos q]
    clear hT q hc
    go_enter Try.func19, Try.ntmps19
    go_wp2_with fail
    go_quiet (fail)
    go_wp2
    go_ret2
    exact ⟨⟨none, 0, 0, rfl, Bs.nil _ _, Nat.le_refl _⟩, Qt.of _ _⟩
  subst q
  simp only [ne_eq, not_true_eq_false, if_false]
  by_cases q : 1 < fs.length
  · have e1 : (1 : Int) < (fs.length : Int) := by omega
    rw [if_pos q, if_pos q]
    clear hT hc q
    generalize fs.length = N at *
    go_enter Try.func19, Try.ntmps19
    go_wp2
    go_ret2
    exact ⟨⟨none, 0, 0, rfl, Bs.nil _ _, Nat.le_refl _⟩, Qt.refl _⟩
  · have hl : fs.length = 1 := by have : 0 < fs.length := List.length_pos_iff.2 hne; omega
    rw [if_neg q, if_neg q]
    have e1 : ¬ (1 : Int) < (fs.length : Int) := by omega
    obtain ⟨f, rfl⟩ : ∃ f, fs = [f] := by
      match fs, hl with
      | [f], _ => exact ⟨f, rfl⟩
    obtain ⟨u, hu, ho⟩ := hT.held.2 0 f rfl
    obtain ⟨A, c', rfl, hcc, hbs⟩ := ho.slice
    have hcell : w.cell? ⟨g, 4, none⟩ = some (.slice A f.b.length c') := by
      have h5 := (frCs_at (fs := [f]) (i := 0) rfl hu hT.held.1).2.2.2.2
      have hcells := @World.ownsRow.cells _ _ _ _ _ _ _ hT.row
      have := hcells (g := g) rfl 4 _ h5
      rw [Addr.add_none] at this
      simpa using this
    have HB := Lib.hid hbs
    clear hT q e1 hl hu ho hbs hc
    simp only [List.length_singleton] at c0 ⊢
    simp only [List.head_cons]
    generalize f.b.length = N at *
    go_enter Try.func19, Try.ntmps19
    go_wp2
    go_ret2
    exact ⟨⟨_, _, _, rfl, HB.out, hcc⟩, Qt.refl _⟩

set_option maxHeartbeats 1600000 in
theorem ref8DoDead (T : Nat) (rp : List Nat) (fs : List Fr) (er : Int) (k : Int) (rv : Value) (t : Tg) (x : Int) (w : World) (h : Rs w T rp fs er) (he : er ≠ 0) :
    Calls Try.prog 17 #[.pointer (some ⟨T, 0, none⟩), actv k rv t x] w fun e w' => e = .returned (.tuple #[]) ∧ RsOk w T rp fs er w' := by
  have hb := below_alloc1 w (.cells #[.int .i64 k, rv, .int .i64 t.cls, .int .i64 t.num, .bool t.made, .int .i64 x] 31)
  have HOK := Lib.hid (RsOk.same h hb)
  obtain ⟨va, vs, hT⟩ := h
  obtain ⟨⟨c0, c1⟩, _⟩ := (hT.below hb).cells
  have e1 : (er != 0) = true := by simpa using he
  unfold actv
  clear hT hb he
  go_enter Try.func17, Try.ntmps17
  go_wp2
  refine bodyPost_ret (results_none rfl _ _ _) rfl ?_
  exact ⟨rfl, HOK.out⟩

set_option maxHeartbeats 1600000 in
theorem ref8DoFail (T : Nat) (rp : List Nat) (fs : List Fr) (rv : Value) (t : Tg) (x : Int) (w : World) (h : Rs w T rp fs 0) (hne : fs ≠ []) (hl : fs.length ≤ 1000000) :
    Calls Try.prog 17 #[.pointer (some ⟨T, 0, none⟩), actv 4 rv t x] w fun e w' => e = .returned (.tuple #[]) ∧ RsOk w T rp fs x w' := by
  have hb := below_alloc1 w (.cells #[.int .i64 4, rv, .int .i64 t.cls, .int .i64 t.num, .bool t.made, .int .i64 x] 31)
  have hA := Blk.new w [.int .i64 4, rv, .int .i64 t.cls, .int .i64 t.num, .bool t.made, .int .i64 x] 31
  have a0 : (w.alloc (.cells #[.int .i64 4, rv, .int .i64 t.cls, .int .i64 t.num, .bool t.made, .int .i64 x] 31)).cell? ⟨w.heap.size, 0, none⟩ = some (.int .i64 4) := hA.cell 0
  have a5 : (w.alloc (.cells #[.int .i64 4, rv, .int .i64 t.cls, .int .i64 t.num, .bool t.made, .int .i64 x] 31)).cell? ⟨w.heap.size, 5, none⟩ = some (.int .i64 x) := hA.cell 5
  obtain ⟨va, vs, hT⟩ := h
  have hT2 := hT.below hb
  obtain ⟨⟨c0, c1⟩, hfr⟩ := hT2.cells
  have f1 := hfr 1
  obtain ⟨g, c, rfl, hc, _⟩ := hT2.vaForm hne
  have hset := hT2.setE x
  have FIN : Hid (∀ W, W = (w.alloc (.cells #[.int .i64 4, rv, .int .i64 t.cls, .int .i64 t.num, .bool t.made, .int .i64 x] 31)).setCell ⟨T, 1, none⟩ (.int .i64 x) → RsOk w T rp fs x W) := by
    rintro W rfl
    exact ⟨rp, ⟨_, _, hset.1⟩, (OnlyF.of_below (fp := rp) hb).trans hset.2 (Grew.refl _ _), Grew.refl _ _⟩
  unfold actv
  generalize fs.length = N at *
  clear hT hT2 hA hset hfr hb
  go_enter Try.func17, Try.ntmps17
  go_upto_region 1 with (fail)
  generalize w.alloc (.cells #[.int .i64 4, rv, .int .i64 t.cls, .int .i64 t.num, .bool t.made, .int .i64 x] 31) = W0 at *
  go_wp2
  go_end0
  exact ⟨rfl, FIN.out _ rfl⟩

/-! ### Zc -/
theorem rfr_info : (Try.prog.info? 88).map (fun i => (i.zero, i.size, i.bytes)) = some (some (.agg #[.int .i64 0, .int .i64 0, .bool false, .bool false, .slice none 0 0]), 5, 56) := by kernel_rfl
theorem Rst.blkA {w w1 : World} {T : Nat} {rp : List Nat} {fs : List Fr} {e : Int} {va : Value} {vs : List Value} (h : Rst w T rp fs e va vs) (hg : w.grownBy w1 va.ownBlock) : Blk w1 T 50 [va, .int .i64 e] := by
  have hTv : va.ownBlock ≠ some T := h.blk.notRow h.row (by decide)
  exact (hg.block T h.blk.lt (fun e' => hTv e'.symm)).trans h.blk
/-- Behind the push of a frame. -/
theorem RsOk.pushed {w W0 W1 w9 : World} {T : Nat} {rp : List Nat} {fs : List Fr} {va v9 : Value} {vs : List Value} (f : Fr) (hT : Rst W0 T rp fs 0 va vs) (hb : Below w.heap.size w W0) (hW : Below W0.heap.size W0 W1) (hg : W1.grownBy w9 va.ownBlock) (hf : f.b = [])
    (hr : w9.ownsRow 0 88 5 v9 (fs.length + 1) (frCs fs vs ++ frC f (.slice none 0 0))) (hv : v9.ownBlock = va.ownBlock ∨ ∃ k, v9.ownBlock = some k ∧ W1.heap.size ≤ k) :
    RsOk w T rp (fs ++ [f]) 0 (w9.setCell ⟨T, 0, none⟩ v9) := by
  obtain ⟨p1, p2⟩ := (hT.below hW).push f hg hf hr hv
  refine ⟨_, ⟨_, _, p1⟩, ?_, ?_⟩
  · have h1 : OnlyF rp w W1 := .of_below (hb.trans (hW.mono hb.size))
    exact h1.trans p2 (Grew.refl _ _)
  · intro k hk
    rcases List.mem_append.1 hk with h1 | h1
    · exact .inl h1
    · rcases hv with hv | ⟨k', hv, hk'⟩
      · rw [hv] at h1; exact .inl (hT.inA k (by simpa using h1))
      · rw [hv] at h1
        simp at h1; subst h1
        exact .inr (Nat.le_trans (Nat.le_trans hb.size hW.size) hk')

set_option maxHeartbeats 6400000 in
theorem ref8DoOpen (T : Nat) (rp : List Nat) (fs : List Fr) (rv : Value) (t : Tg) (x : Int) (w : World) (h : Rs w T rp fs 0) (hne : fs ≠ []) (hl : fs.length ≤ 1000) :
    Calls Try.prog 17 #[.pointer (some ⟨T, 0, none⟩), actv 1 rv t x] w fun e w' => e = .returned (.tuple #[]) ∧ RsOk w T rp (fs ++ [⟨t, false, []⟩]) 0 w' := by
  obtain ⟨i1, hi1, hz0, hz1, hz2⟩ := info_parts rfr_info
  have hb := below_alloc1 w (.cells #[.int .i64 1, rv, .int .i64 t.cls, .int .i64 t.num, .bool t.made, .int .i64 x] 31)
  have hA : Blk (w.alloc (.cells #[.int .i64 1, rv, .int .i64 t.cls, .int .i64 t.num, .bool t.made, .int .i64 x] 31)) w.heap.size 31 [.int .i64 1, rv, .int .i64 t.cls, .int .i64 t.num, .bool t.made, .int .i64 x] := Blk.new w _ _
  obtain ⟨va, vs, hT0⟩ := h
  have hT := hT0.below hb
  have hrpl := hT0.lt
  obtain ⟨g, c, rfl, hc, hgr⟩ := hT.vaForm hne
  have hgl : g < w.heap.size := hrpl g hgr
  have hTl : T < w.heap.size := hrpl T hT0.inT
  unfold actv
  have hsz : w.heap.size < (w.alloc (.cells #[.int .i64 1, rv, .int .i64 t.cls, .int .i64 t.num, .bool t.made, .int .i64 x] 31)).heap.size := hA.lt
  obtain ⟨⟨c0, c1⟩, hfr⟩ := hT.cells
  have f0 := hfr 0
  have k0 : (w.alloc (.cells #[.int .i64 1, rv, .int .i64 t.cls, .int .i64 t.num, .bool t.made, .int .i64 x] 31)).cell? ⟨w.heap.size, 0, none⟩ = some (.int .i64 1) := hA.cell 0
  have HT := Lib.hid hT
  have HA := Lib.hid hA
  have HB := Lib.hid hb
  have HSZ := Lib.hid hsz
  have HGL := Lib.hid hgl
  have HTL := Lib.hid hTl
  have HHL := Lib.hid hl
  have FN := Lib.hid (fun (v9 : Value) (W1 w9 : World) (hW : Below (w.alloc (.cells #[.int .i64 1, rv, .int .i64 t.cls, .int .i64 t.num, .bool t.made, .int .i64 x] 31)).heap.size (w.alloc (.cells #[.int .i64 1, rv, .int .i64 t.cls, .int .i64 t.num, .bool t.made, .int .i64 x] 31)) W1) (hg : W1.grownBy w9 (some g)) hr hv => RsOk.pushed (w := w) (v9 := v9) (⟨t, false, []⟩) hT hb hW hg rfl hr hv)
  have ROW := Lib.hid hT.row
  have ROWB := Lib.hid (fun (W : World) (hW : Below (w.alloc (.cells #[.int .i64 1, rv, .int .i64 t.cls, .int .i64 t.num, .bool t.made, .int .i64 x] 31)).heap.size (w.alloc (.cells #[.int .i64 1, rv, .int .i64 t.cls, .int .i64 t.num, .bool t.made, .int .i64 x] 31)) W) => (hT.below hW).row)
  clear hT hT0 hA hb hsz hgl hTl hrpl hgr hfr hl hne
  generalize hN : fs.length = N at *
  have HHN := Lib.hid hN
  clear hN
  go_enter Try.func17, Try.ntmps17
  go_upto_region 1 with (fail)
  generalize w.alloc (.cells #[.int .i64 1, rv, .int .i64 t.cls, .int .i64 t.num, .bool t.made, .int .i64 x] 31) = W0 at *
  go_upto_region 7 with (fail)
  have CEL : Hid (∀ W, Below W0.heap.size W0 W → W.cell? ⟨w.heap.size, 2, none⟩ = some (.int .i64 t.cls) ∧ W.cell? ⟨w.heap.size, 3, none⟩ = some (.int .i64 t.num) ∧ W.cell? ⟨w.heap.size, 4, none⟩ = some (.bool t.made)) := fun W hW => ⟨(HA.out.below hW).cell 2, (HA.out.below hW).cell 3, (HA.out.below hW).cell 4⟩
  refine wp_region_held_drew (S := fun W => W.cell? ⟨w.heap.size, 2, none⟩ = some (.int .i64 t.cls) ∧ W.cell? ⟨w.heap.size, 3, none⟩ = some (.int .i64 t.num) ∧ W.cell? ⟨w.heap.size, 4, none⟩ = some (.bool t.made)) (by kernel_rfl) ?hb0 (fun hHeld => ?_)
  case hb0 => (try dsimp only); exact CEL.out _ (Below.drew (Below.refl W0.heap.size W0))
  refine wpAnyH_take (i := 0) (v := ?qv0) rfl (by kernel_rfl) (by kernel_rfl) (by kernel_rfl) (fun _ _ _ h => h) (Or.inl ⟨by kernel_rfl, ?qy0⟩) (by assumption) ?_
  case qy0 => (intro w hSw; (try dsimp only at hSw); go_simp) <;> (try with_reducible rfl)
  try simp only [Act.put, List.setIfInBounds_toArray, List.set_cons_zero, List.set_cons_succ, List.getElem_toArray, List.getElem_cons_succ, List.getElem_cons_zero]
  refine wpAnyH_take (i := 1) (v := ?qv1) rfl (by kernel_rfl) (by kernel_rfl) (by kernel_rfl) (fun _ _ _ h => h) (Or.inl ⟨by kernel_rfl, ?qy1⟩) (by assumption) ?_
  case qy1 => (intro w hSw; (try dsimp only at hSw); go_simp) <;> (try with_reducible rfl)
  try simp only [Act.put, List.setIfInBounds_toArray, List.set_cons_zero, List.set_cons_succ, List.getElem_toArray, List.getElem_cons_succ, List.getElem_cons_zero]
  refine wpAnyH_take (i := 2) (v := ?qv2) rfl (by kernel_rfl) (by kernel_rfl) (by kernel_rfl) (fun _ _ _ h => h) (Or.inl ⟨by kernel_rfl, ?qy2⟩) (by assumption) ?_
  case qy2 => (intro w hSw; (try dsimp only at hSw); go_simp) <;> (try with_reducible rfl)
  try simp only [Act.put, List.setIfInBounds_toArray, List.set_cons_zero, List.set_cons_succ, List.getElem_toArray, List.getElem_cons_succ, List.getElem_cons_zero]
  refine wpAnyH_take (i := 3) (v := ?qv3) rfl (by kernel_rfl) (by kernel_rfl) (by kernel_rfl) (fun _ _ _ h => h) (Or.inl ⟨by kernel_rfl, ?qy3⟩) (by assumption) ?_
  case qy3 => (intro w hSw; (try dsimp only at hSw); go_simp) <;> (try with_reducible rfl)
  try simp only [Act.put, List.setIfInBounds_toArray, List.set_cons_zero, List.set_cons_succ, List.getElem_toArray, List.getElem_cons_succ, List.getElem_cons_zero]
  refine wpAnyH_take (i := 5) (v := ?qv5) rfl (by kernel_rfl) (by kernel_rfl) (by kernel_rfl) (fun _ _ _ h => h) (Or.inl ⟨by kernel_rfl, ?qy5⟩) (by assumption) ?_
  case qy5 => (intro w hSw; (try dsimp only at hSw); go_simp) <;> (try with_reducible rfl)
  try simp only [Act.put, List.setIfInBounds_toArray, List.set_cons_zero, List.set_cons_succ, List.getElem_toArray, List.getElem_cons_succ, List.getElem_cons_zero]
  refine wpAnyH_take (i := 6) (v := ?qv6) rfl (by kernel_rfl) (by kernel_rfl) (by kernel_rfl) (fun _ _ _ h => h) (Or.inl ⟨by kernel_rfl, ?qy6⟩) (by assumption) ?_
  case qy6 => (intro w hSw; (try dsimp only at hSw); go_simp) <;> (try with_reducible rfl)
  try simp only [Act.put, List.setIfInBounds_toArray, List.set_cons_zero, List.set_cons_succ, List.getElem_toArray, List.getElem_cons_succ, List.getElem_cons_zero]
  refine wpAnyH_take (i := 7) (v := ?qv7) rfl (by kernel_rfl) (by kernel_rfl) (by kernel_rfl) (fun _ _ _ h => h) (Or.inl ⟨by kernel_rfl, ?qy7⟩) (by assumption) ?_
  case qy7 => (intro w hSw; (try dsimp only at hSw); go_simp) <;> (try with_reducible rfl)
  try simp only [Act.put, List.setIfInBounds_toArray, List.set_cons_zero, List.set_cons_succ, List.getElem_toArray, List.getElem_cons_succ, List.getElem_cons_zero]
  refine wpAnyH_ready (rs := [4, 8]) (by kernel_rfl) (by simp) ?_
  refine AllReadyH.cons rfl (fun K hK => ?_) (AllReadyH.cons rfl (fun K hK => ?_) (AllReadyH.nil))
  · go_simp
    refine hK.out _ _ ?hs4a (fun hHeld => ?_)
    case hs4a => (try dsimp only); exact CEL.out _ (Below.drew (Below.refl W0.heap.size W0))
    clear hK K
    try simp only [Act.put, List.setIfInBounds_toArray, List.set_cons_zero, List.set_cons_succ, List.getElem_toArray, List.getElem_cons_succ, List.getElem_cons_zero]
    refine wpAnyH_ready (rs := [8]) (by kernel_rfl) (by simp) ?_
    refine AllReadyH.cons rfl (fun K hK => ?_) AllReadyH.nil
    go_simp
    refine hK.out _ _ ?hs8w4a (fun hHeld => ?_)
    case hs8w4a => (try dsimp only); exact CEL.out _ ((below_alloc1 W0 (.cells #[.int .i64 t.cls, .int .i64 t.num, .bool t.made, .bool false, .slice none 0 0] 88)).drew)
    clear hK K
    try simp only [Act.put, List.setIfInBounds_toArray, List.set_cons_zero, List.set_cons_succ, List.getElem_toArray, List.getElem_cons_succ, List.getElem_cons_zero]
    refine wpAnyH_ready (rs := [9]) (by kernel_rfl) (by simp) ?_
    refine AllReadyH.cons rfl (fun K hK => ?_) AllReadyH.nil
    have hoA : (W0.alloc (.cells #[.int .i64 t.cls, .int .i64 t.num, .bool t.made, .bool false, .slice none 0 0] 88)).drew.ownsRow 0 88 5 (.slice (some ⟨g, 0, none⟩) N c) N (frCs fs vs) := World.ownsRow.alloc ROW.out _
    refine step_appendF (by rfl) _ _ 48 (by rfl) 0 88 i1 (.agg #[.int .i64 0, .int .i64 0, .bool false, .bool false, .slice none 0 0]) 5 56 Try.underlying48 hi1 hz0 hz1 hz2 (by rfl) (by omega) _ N (frCs fs vs) (by rfl) hoA ⟨W0.heap.size, 0, none⟩ 1 _ (frC ⟨t, false, []⟩ (.slice none 0 0)) (by rfl) (by rfl) (news_new _ _ _) (by intro u hu; simp [frC] at hu; rcases hu with rfl | rfl | rfl | rfl | rfl <;> rfl) (by have := HHL.out; unfold maxLen; omega) (by have := HHL.out; omega) (Nat.zero_le _) ?_
    intro v9 w9 hrow9 hg9 hv9
    have hW1 : Below W0.heap.size W0 (W0.alloc (.cells #[.int .i64 t.cls, .int .i64 t.num, .bool t.made, .bool false, .slice none 0 0] 88)).drew := (below_alloc1 W0 (.cells #[.int .i64 t.cls, .int .i64 t.num, .bool t.made, .bool false, .slice none 0 0] 88)).drew
    have hA9 : Blk w9 w.heap.size 31 _ := (hg9.block _ (Nat.lt_of_lt_of_le HSZ.out hW1.size) (by simp [Value.ownBlock]; have := HGL.out; omega)).trans (HA.out.below hW1)
    have hT9 := Rst.blkA (HT.out.below hW1) hg9
    obtain ⟨A9, c9, rfl, _⟩ := row_form hrow9
    refine hK.out _ _ ?hs9w4a (fun hHeld => ?_)
    case hs9w4a => (try dsimp only); exact ⟨hA9.cell 2, hA9.cell 3, hA9.cell 4⟩
    clear hK K
    try simp only [Act.put, List.setIfInBounds_toArray, List.set_cons_zero, List.set_cons_succ, List.getElem_toArray, List.getElem_cons_succ, List.getElem_cons_zero]
    refine wpAnyH_take (i := 10) (v := ?qv10w4) rfl (by kernel_rfl) (by kernel_rfl) (by kernel_rfl) (fun _ _ _ h => h) (Or.inl ⟨by kernel_rfl, ?qy10w4⟩) (by assumption) ?_
    case qy10w4 => (intro w hSw; (try dsimp only at hSw); go_simp) <;> (try with_reducible rfl)
    try simp only [Act.put, List.setIfInBounds_toArray, List.set_cons_zero, List.set_cons_succ, List.getElem_toArray, List.getElem_cons_succ, List.getElem_cons_zero]
    refine wpAnyH_take (i := 11) (v := ?qv11w4) rfl (by kernel_rfl) (by kernel_rfl) (by kernel_rfl) (fun _ _ _ h => h) (Or.inl ⟨by kernel_rfl, ?qy11w4⟩) (by assumption) ?_
    case qy11w4 => (intro w hSw; (try dsimp only at hSw); go_simp) <;> (try with_reducible rfl)
    try simp only [Act.put, List.setIfInBounds_toArray, List.set_cons_zero, List.set_cons_succ, List.getElem_toArray, List.getElem_cons_succ, List.getElem_cons_zero]
    refine wpAnyH_ready (rs := [12]) (by kernel_rfl) (by simp) ?_
    refine AllReadyH.cons rfl (fun K hK => ?_) AllReadyH.nil
    have s0 := hT9.cell 0
    have s1 := hT9.free 0
    simp only [List.getElem?_cons_zero] at s0
    go_simp
    refine hK.out _ _ ?hs12w4a (fun hHeld => ?_)
    case hs12w4a => (try dsimp only); exact ⟨(hA9.setOther (by have := HTL.out; omega) 0 _).cell 2, (hA9.setOther (by have := HTL.out; omega) 0 _).cell 3, (hA9.setOther (by have := HTL.out; omega) 0 _).cell 4⟩
    clear hK K
    try simp only [Act.put, List.setIfInBounds_toArray, List.set_cons_zero, List.set_cons_succ, List.getElem_toArray, List.getElem_cons_succ, List.getElem_cons_zero]
    refine wpAnyH_done (by kernel_rfl) ?_ _
    have HFN := Lib.hid (FN.out _ _ _ hW1 hg9 hrow9 (by rcases hv9 with h | h; exact .inl h; exact .inr ⟨_, h, Nat.le_refl _⟩))
    go_wp2
    go_end0
    exact ⟨rfl, HFN.out⟩
  · go_simp
    refine hK.out _ _ ?hs8a (fun hHeld => ?_)
    case hs8a => (try dsimp only); exact CEL.out _ ((below_alloc1 W0 (.cells #[.int .i64 t.cls, .int .i64 t.num, .bool t.made, .bool false, .slice none 0 0] 88)).drew)
    clear hK K
    try simp only [Act.put, List.setIfInBounds_toArray, List.set_cons_zero, List.set_cons_succ, List.getElem_toArray, List.getElem_cons_succ, List.getElem_cons_zero]
    refine wpAnyH_ready (rs := [4]) (by kernel_rfl) (by simp) ?_
    refine AllReadyH.cons rfl (fun K hK => ?_) AllReadyH.nil
    have c0' := (HT.out.below (below_alloc1 W0 (.cells #[.int .i64 t.cls, .int .i64 t.num, .bool t.made, .bool false, .slice none 0 0] 88))).cells.1.1
    go_simp
    refine hK.out _ _ ?hs4w8a (fun hHeld => ?_)
    case hs4w8a => (try dsimp only); exact CEL.out _ ((below_alloc1 W0 (.cells #[.int .i64 t.cls, .int .i64 t.num, .bool t.made, .bool false, .slice none 0 0] 88)).drew)
    clear hK K
    try simp only [Act.put, List.setIfInBounds_toArray, List.set_cons_zero, List.set_cons_succ, List.getElem_toArray, List.getElem_cons_succ, List.getElem_cons_zero]
    refine wpAnyH_ready (rs := [9]) (by kernel_rfl) (by simp) ?_
    refine AllReadyH.cons rfl (fun K hK => ?_) AllReadyH.nil
    have hoA : (W0.alloc (.cells #[.int .i64 t.cls, .int .i64 t.num, .bool t.made, .bool false, .slice none 0 0] 88)).drew.ownsRow 0 88 5 (.slice (some ⟨g, 0, none⟩) N c) N (frCs fs vs) := World.ownsRow.alloc ROW.out _
    refine step_appendF (by rfl) _ _ 48 (by rfl) 0 88 i1 (.agg #[.int .i64 0, .int .i64 0, .bool false, .bool false, .slice none 0 0]) 5 56 Try.underlying48 hi1 hz0 hz1 hz2 (by rfl) (by omega) _ N (frCs fs vs) (by rfl) hoA ⟨W0.heap.size, 0, none⟩ 1 _ (frC ⟨t, false, []⟩ (.slice none 0 0)) (by rfl) (by rfl) (news_new _ _ _) (by intro u hu; simp [frC] at hu; rcases hu with rfl | rfl | rfl | rfl | rfl <;> rfl) (by have := HHL.out; unfold maxLen; omega) (by have := HHL.out; omega) (Nat.zero_le _) ?_
    intro v9 w9 hrow9 hg9 hv9
    have hW1 : Below W0.heap.size W0 (W0.alloc (.cells #[.int .i64 t.cls, .int .i64 t.num, .bool t.made, .bool false, .slice none 0 0] 88)).drew := (below_alloc1 W0 (.cells #[.int .i64 t.cls, .int .i64 t.num, .bool t.made, .bool false, .slice none 0 0] 88)).drew
    have hA9 : Blk w9 w.heap.size 31 _ := (hg9.block _ (Nat.lt_of_lt_of_le HSZ.out hW1.size) (by simp [Value.ownBlock]; have := HGL.out; omega)).trans (HA.out.below hW1)
    have hT9 := Rst.blkA (HT.out.below hW1) hg9
    obtain ⟨A9, c9, rfl, _⟩ := row_form hrow9
    refine hK.out _ _ ?hs9w8a (fun hHeld => ?_)
    case hs9w8a => (try dsimp only); exact ⟨hA9.cell 2, hA9.cell 3, hA9.cell 4⟩
    clear hK K
    try simp only [Act.put, List.setIfInBounds_toArray, List.set_cons_zero, List.set_cons_succ, List.getElem_toArray, List.getElem_cons_succ, List.getElem_cons_zero]
    refine wpAnyH_take (i := 10) (v := ?qv10w8) rfl (by kernel_rfl) (by kernel_rfl) (by kernel_rfl) (fun _ _ _ h => h) (Or.inl ⟨by kernel_rfl, ?qy10w8⟩) (by assumption) ?_
    case qy10w8 => (intro w hSw; (try dsimp only at hSw); go_simp) <;> (try with_reducible rfl)
    try simp only [Act.put, List.setIfInBounds_toArray, List.set_cons_zero, List.set_cons_succ, List.getElem_toArray, List.getElem_cons_succ, List.getElem_cons_zero]
    refine wpAnyH_take (i := 11) (v := ?qv11w8) rfl (by kernel_rfl) (by kernel_rfl) (by kernel_rfl) (fun _ _ _ h => h) (Or.inl ⟨by kernel_rfl, ?qy11w8⟩) (by assumption) ?_
    case qy11w8 => (intro w hSw; (try dsimp only at hSw); go_simp) <;> (try with_reducible rfl)
    try simp only [Act.put, List.setIfInBounds_toArray, List.set_cons_zero, List.set_cons_succ, List.getElem_toArray, List.getElem_cons_succ, List.getElem_cons_zero]
    refine wpAnyH_ready (rs := [12]) (by kernel_rfl) (by simp) ?_
    refine AllReadyH.cons rfl (fun K hK => ?_) AllReadyH.nil
    have s0 := hT9.cell 0
    have s1 := hT9.free 0
    simp only [List.getElem?_cons_zero] at s0
    go_simp
    refine hK.out _ _ ?hs12w8a (fun hHeld => ?_)
    case hs12w8a => (try dsimp only); exact ⟨(hA9.setOther (by have := HTL.out; omega) 0 _).cell 2, (hA9.setOther (by have := HTL.out; omega) 0 _).cell 3, (hA9.setOther (by have := HTL.out; omega) 0 _).cell 4⟩
    clear hK K
    try simp only [Act.put, List.setIfInBounds_toArray, List.set_cons_zero, List.set_cons_succ, List.getElem_toArray, List.getElem_cons_succ, List.getElem_cons_zero]
    refine wpAnyH_done (by kernel_rfl) ?_ _
    have HFN := Lib.hid (FN.out _ _ _ hW1 hg9 hrow9 (by rcases hv9 with h | h; exact .inl h; exact .inr ⟨_, h, Nat.le_refl _⟩))
    go_wp2
    go_end0
    exact ⟨rfl, HFN.out⟩

set_option maxHeartbeats 6400000 in
theorem ref8DoOpenSet (T : Nat) (rp : List Nat) (fs : List Fr) (rv : Value) (t : Tg) (x : Int) (w : World) (h : Rs w T rp fs 0) (hne : fs ≠ []) (hl : fs.length ≤ 1000) :
    Calls Try.prog 17 #[.pointer (some ⟨T, 0, none⟩), actv 2 rv t x] w fun e w' => e = .returned (.tuple #[]) ∧ RsOk w T rp (fs ++ [⟨⟨0, 17, true⟩, true, []⟩]) 0 w' := by
  obtain ⟨i1, hi1, hz0, hz1, hz2⟩ := info_parts rfr_info
  have hb := below_alloc1 w (.cells #[.int .i64 2, rv, .int .i64 t.cls, .int .i64 t.num, .bool t.made, .int .i64 x] 31)
  have hA : Blk (w.alloc (.cells #[.int .i64 2, rv, .int .i64 t.cls, .int .i64 t.num, .bool t.made, .int .i64 x] 31)) w.heap.size 31 [.int .i64 2, rv, .int .i64 t.cls, .int .i64 t.num, .bool t.made, .int .i64 x] := Blk.new w _ _
  obtain ⟨va, vs, hT0⟩ := h
  have hT := hT0.below hb
  have hrpl := hT0.lt
  obtain ⟨g, c, rfl, hc, hgr⟩ := hT.vaForm hne
  have hgl : g < w.heap.size := hrpl g hgr
  have hTl : T < w.heap.size := hrpl T hT0.inT
  unfold actv
  have hsz : w.heap.size < (w.alloc (.cells #[.int .i64 2, rv, .int .i64 t.cls, .int .i64 t.num, .bool t.made, .int .i64 x] 31)).heap.size := hA.lt
  obtain ⟨⟨c0, c1⟩, hfr⟩ := hT.cells
  have f0 := hfr 0
  have k0 : (w.alloc (.cells #[.int .i64 2, rv, .int .i64 t.cls, .int .i64 t.num, .bool t.made, .int .i64 x] 31)).cell? ⟨w.heap.size, 0, none⟩ = some (.int .i64 2) := hA.cell 0
  have HT := Lib.hid hT
  have HA := Lib.hid hA
  have HB := Lib.hid hb
  have HSZ := Lib.hid hsz
  have HGL := Lib.hid hgl
  have HTL := Lib.hid hTl
  have HHL := Lib.hid hl
  have FN := Lib.hid (fun (v9 : Value) (W1 w9 : World) (hW : Below (w.alloc (.cells #[.int .i64 2, rv, .int .i64 t.cls, .int .i64 t.num, .bool t.made, .int .i64 x] 31)).heap.size (w.alloc (.cells #[.int .i64 2, rv, .int .i64 t.cls, .int .i64 t.num, .bool t.made, .int .i64 x] 31)) W1) (hg : W1.grownBy w9 (some g)) hr hv => RsOk.pushed (w := w) (v9 := v9) (⟨⟨0, 17, true⟩, true, []⟩) hT hb hW hg rfl hr hv)
  have ROW := Lib.hid hT.row
  have ROWB := Lib.hid (fun (W : World) (hW : Below (w.alloc (.cells #[.int .i64 2, rv, .int .i64 t.cls, .int .i64 t.num, .bool t.made, .int .i64 x] 31)).heap.size (w.alloc (.cells #[.int .i64 2, rv, .int .i64 t.cls, .int .i64 t.num, .bool t.made, .int .i64 x] 31)) W) => (hT.below hW).row)
  clear hT hT0 hA hb hsz hgl hTl hrpl hgr hfr hl hne
  generalize hN : fs.length = N at *
  have HHN := Lib.hid hN
  clear hN
  go_enter Try.func17, Try.ntmps17
  go_upto_region 1 with (fail)
  generalize w.alloc (.cells #[.int .i64 2, rv, .int .i64 t.cls, .int .i64 t.num, .bool t.made, .int .i64 x] 31) = W0 at *
  have HOf := Lib.hid (fun W => refOf 17 W)
  unfold Tg.v at HOf
  go_upto_region 9 with (fail)
  refine wp_region_held_drew (S := fun W => W0.heap.size ≤ W.heap.size) (by kernel_rfl) ?hb0 (fun hHeld => ?_)
  case hb0 => (try dsimp only); exact (Below.drew (Below.refl W0.heap.size W0)).size
  refine wpAnyH_take (i := 0) (v := ?qv0s) rfl (by kernel_rfl) (by kernel_rfl) (by kernel_rfl) (fun _ _ _ h => h) (Or.inl ⟨by kernel_rfl, ?qy0s⟩) (by assumption) ?_
  case qy0s => (intro w hSw; (try dsimp only at hSw); go_simp) <;> (try with_reducible rfl)
  try simp only [Act.put, List.setIfInBounds_toArray, List.set_cons_zero, List.set_cons_succ, List.getElem_toArray, List.getElem_cons_succ, List.getElem_cons_zero]
  refine wpAnyH_take (i := 1) (v := ?qv1s) rfl (by kernel_rfl) (by kernel_rfl) (by kernel_rfl) (fun _ _ _ h => h) (Or.inl ⟨by kernel_rfl, ?qy1s⟩) (by assumption) ?_
  case qy1s => (intro w hSw; (try dsimp only at hSw); go_simp) <;> (try with_reducible rfl)
  try simp only [Act.put, List.setIfInBounds_toArray, List.set_cons_zero, List.set_cons_succ, List.getElem_toArray, List.getElem_cons_succ, List.getElem_cons_zero]
  refine wpAnyH_take (i := 2) (v := ?qv2s) rfl (by kernel_rfl) (by kernel_rfl) (by kernel_rfl) (fun _ _ _ h => h) (Or.inl ⟨by kernel_rfl, ?qy2s⟩) (by assumption) ?_
  case qy2s => (intro w hSw; (try dsimp only at hSw); go_simp) <;> (try with_reducible rfl)
  try simp only [Act.put, List.setIfInBounds_toArray, List.set_cons_zero, List.set_cons_succ, List.getElem_toArray, List.getElem_cons_succ, List.getElem_cons_zero]
  refine wpAnyH_take (i := 3) (v := ?qv3s) rfl (by kernel_rfl) (by kernel_rfl) (by kernel_rfl) (fun _ _ _ h => h) (Or.inl ⟨by kernel_rfl, ?qy3s⟩) (by assumption) ?_
  case qy3s => (intro w hSw; (try dsimp only at hSw); go_simp) <;> (try with_reducible rfl)
  try simp only [Act.put, List.setIfInBounds_toArray, List.set_cons_zero, List.set_cons_succ, List.getElem_toArray, List.getElem_cons_succ, List.getElem_cons_zero]
  refine wpAnyH_ready (rs := [4, 5]) (by kernel_rfl) (by simp) ?_
  refine AllReadyH.cons rfl (fun K hK => ?_) (AllReadyH.cons rfl (fun K hK => ?_) (AllReadyH.nil))
  · go_simp
    refine hK.out _ _ ?hs4sa (fun hHeld => ?_)
    case hs4sa => (try dsimp only); exact (Below.drew (Below.refl W0.heap.size W0)).size
    clear hK K
    try simp only [Act.put, List.setIfInBounds_toArray, List.set_cons_zero, List.set_cons_succ, List.getElem_toArray, List.getElem_cons_succ, List.getElem_cons_zero]
    refine wpAnyH_ready (rs := [5]) (by kernel_rfl) (by simp) ?_
    refine AllReadyH.cons rfl (fun K hK => ?_) AllReadyH.nil
    go_simp
    refine (HOf.out _).mono ?_
    rintro e w5 ⟨rfl, hy5⟩
    have z5 := (Below.drew (Below.refl W0.heap.size W0)).trans hy5
    clear hy5
    go_wp2_with fail
    refine hK.out _ _ ?hs5sw4a (fun hHeld => ?_)
    case hs5sw4a => (try dsimp only); exact z5.size
    clear hK K
    try simp only [Act.put, List.setIfInBounds_toArray, List.set_cons_zero, List.set_cons_succ, List.getElem_toArray, List.getElem_cons_succ, List.getElem_cons_zero]
    refine wpAnyH_take (i := 6) (v := ?qv6sw4) rfl (by kernel_rfl) (by kernel_rfl) (by kernel_rfl) (fun _ _ _ h => h) (Or.inl ⟨by kernel_rfl, ?qy6sw4⟩) (by assumption) ?_
    case qy6sw4 => (intro w hSw; (try dsimp only at hSw); go_simp) <;> (try with_reducible rfl)
    try simp only [Act.put, List.setIfInBounds_toArray, List.set_cons_zero, List.set_cons_succ, List.getElem_toArray, List.getElem_cons_succ, List.getElem_cons_zero]
    refine wpAnyH_ready (rs := [7]) (by kernel_rfl) (by simp) ?_
    refine AllReadyH.cons rfl (fun K hK => ?_) AllReadyH.nil
    go_simp
    refine hK.out _ _ ?hs7sw4a (fun hHeld => ?_)
    case hs7sw4a => (try dsimp only); exact ((z5.alloc z5.size _)).size
    clear hK K
    try simp only [Act.put, List.setIfInBounds_toArray, List.set_cons_zero, List.set_cons_succ, List.getElem_toArray, List.getElem_cons_succ, List.getElem_cons_zero]
    refine wpAnyH_ready (rs := [8]) (by kernel_rfl) (by simp) ?_
    refine AllReadyH.cons rfl (fun K hK => ?_) AllReadyH.nil
    have hoA : (w5.alloc (.cells #[.int .i64 0, .int .i64 17, .bool true, .bool true, .slice none 0 0] 88)).ownsRow 0 88 5 (.slice (some ⟨g, 0, none⟩) N c) N (frCs fs vs) := World.ownsRow.alloc (ROWB.out _ z5) _
    refine step_appendF (by rfl) _ _ 48 (by rfl) 0 88 i1 (.agg #[.int .i64 0, .int .i64 0, .bool false, .bool false, .slice none 0 0]) 5 56 Try.underlying48 hi1 hz0 hz1 hz2 (by rfl) (by omega) _ N (frCs fs vs) (by rfl) hoA ⟨w5.heap.size, 0, none⟩ 1 _ (frC ⟨⟨0, 17, true⟩, true, []⟩ (.slice none 0 0)) (by rfl) (by rfl) (news_new _ _ _) (by intro u hu; simp [frC] at hu; rcases hu with rfl | rfl | rfl | rfl | rfl <;> rfl) (by have := HHL.out; unfold maxLen; omega) (by have := HHL.out; omega) (Nat.zero_le _) ?_
    intro v9 w9 hrow9 hg9 hv9
    have hW1 : Below W0.heap.size W0 (w5.alloc (.cells #[.int .i64 0, .int .i64 17, .bool true, .bool true, .slice none 0 0] 88)) := (z5.alloc z5.size _)
    have hT9 := Rst.blkA (HT.out.below hW1) hg9
    obtain ⟨A9, c9, rfl, _⟩ := row_form hrow9
    refine hK.out _ _ ?hs8sw4a (fun hHeld => ?_)
    case hs8sw4a => (try dsimp only); exact Nat.le_trans hW1.size hg9.size
    clear hK K
    try simp only [Act.put, List.setIfInBounds_toArray, List.set_cons_zero, List.set_cons_succ, List.getElem_toArray, List.getElem_cons_succ, List.getElem_cons_zero]
    refine wpAnyH_take (i := 9) (v := ?qv9sw4) rfl (by kernel_rfl) (by kernel_rfl) (by kernel_rfl) (fun _ _ _ h => h) (Or.inl ⟨by kernel_rfl, ?qy9sw4⟩) (by assumption) ?_
    case qy9sw4 => (intro w hSw; (try dsimp only at hSw); go_simp) <;> (try with_reducible rfl)
    try simp only [Act.put, List.setIfInBounds_toArray, List.set_cons_zero, List.set_cons_succ, List.getElem_toArray, List.getElem_cons_succ, List.getElem_cons_zero]
    refine wpAnyH_take (i := 10) (v := ?qv10sw4) rfl (by kernel_rfl) (by kernel_rfl) (by kernel_rfl) (fun _ _ _ h => h) (Or.inl ⟨by kernel_rfl, ?qy10sw4⟩) (by assumption) ?_
    case qy10sw4 => (intro w hSw; (try dsimp only at hSw); go_simp) <;> (try with_reducible rfl)
    try simp only [Act.put, List.setIfInBounds_toArray, List.set_cons_zero, List.set_cons_succ, List.getElem_toArray, List.getElem_cons_succ, List.getElem_cons_zero]
    refine wpAnyH_ready (rs := [11]) (by kernel_rfl) (by simp) ?_
    refine AllReadyH.cons rfl (fun K hK => ?_) AllReadyH.nil
    have s0 := hT9.cell 0
    have s1 := hT9.free 0
    simp only [List.getElem?_cons_zero] at s0
    go_simp
    refine hK.out _ _ ?hs11sw4a (fun hHeld => ?_)
    case hs11sw4a => (try dsimp only); exact (show W0.heap.size ≤ (w9.setCell _ _).heap.size by simp [World.setCell]; exact Nat.le_trans hW1.size hg9.size)
    clear hK K
    try simp only [Act.put, List.setIfInBounds_toArray, List.set_cons_zero, List.set_cons_succ, List.getElem_toArray, List.getElem_cons_succ, List.getElem_cons_zero]
    refine wpAnyH_done (by kernel_rfl) ?_ _
    have HFN := Lib.hid (FN.out _ _ _ hW1 hg9 hrow9 (by rcases hv9 with h | h; exact .inl h; exact .inr ⟨_, h, Nat.le_refl _⟩))
    go_wp2
    go_end0
    exact ⟨rfl, HFN.out⟩
  · go_simp
    refine (HOf.out _).mono ?_
    rintro e w5 ⟨rfl, hy5⟩
    have z5 := (Below.drew (Below.refl W0.heap.size W0)).trans hy5
    clear hy5
    go_wp2_with fail
    refine hK.out _ _ ?hs5sa (fun hHeld => ?_)
    case hs5sa => (try dsimp only); exact z5.size
    clear hK K
    try simp only [Act.put, List.setIfInBounds_toArray, List.set_cons_zero, List.set_cons_succ, List.getElem_toArray, List.getElem_cons_succ, List.getElem_cons_zero]
    refine wpAnyH_take (i := 6) (v := ?qv6sw5) rfl (by kernel_rfl) (by kernel_rfl) (by kernel_rfl) (fun _ _ _ h => h) (Or.inl ⟨by kernel_rfl, ?qy6sw5⟩) (by assumption) ?_
    case qy6sw5 => (intro w hSw; (try dsimp only at hSw); go_simp) <;> (try with_reducible rfl)
    try simp only [Act.put, List.setIfInBounds_toArray, List.set_cons_zero, List.set_cons_succ, List.getElem_toArray, List.getElem_cons_succ, List.getElem_cons_zero]
    refine wpAnyH_ready (rs := [4, 7]) (by kernel_rfl) (by simp) ?_
    refine AllReadyH.cons rfl (fun K hK => ?_) (AllReadyH.cons rfl (fun K hK => ?_) (AllReadyH.nil))
    · have c0' := (HT.out.below z5).cells.1.1
      go_simp
      refine hK.out _ _ ?hs4sw5a (fun hHeld => ?_)
      case hs4sw5a => (try dsimp only); exact z5.size
      clear hK K
      try simp only [Act.put, List.setIfInBounds_toArray, List.set_cons_zero, List.set_cons_succ, List.getElem_toArray, List.getElem_cons_succ, List.getElem_cons_zero]
      refine wpAnyH_ready (rs := [7]) (by kernel_rfl) (by simp) ?_
      refine AllReadyH.cons rfl (fun K hK => ?_) AllReadyH.nil
      go_simp
      refine hK.out _ _ ?hs7sw5w4a (fun hHeld => ?_)
      case hs7sw5w4a => (try dsimp only); exact ((z5.alloc z5.size _)).size
      clear hK K
      try simp only [Act.put, List.setIfInBounds_toArray, List.set_cons_zero, List.set_cons_succ, List.getElem_toArray, List.getElem_cons_succ, List.getElem_cons_zero]
      refine wpAnyH_ready (rs := [8]) (by kernel_rfl) (by simp) ?_
      refine AllReadyH.cons rfl (fun K hK => ?_) AllReadyH.nil
      have hoA : (w5.alloc (.cells #[.int .i64 0, .int .i64 17, .bool true, .bool true, .slice none 0 0] 88)).ownsRow 0 88 5 (.slice (some ⟨g, 0, none⟩) N c) N (frCs fs vs) := World.ownsRow.alloc (ROWB.out _ z5) _
      refine step_appendF (by rfl) _ _ 48 (by rfl) 0 88 i1 (.agg #[.int .i64 0, .int .i64 0, .bool false, .bool false, .slice none 0 0]) 5 56 Try.underlying48 hi1 hz0 hz1 hz2 (by rfl) (by omega) _ N (frCs fs vs) (by rfl) hoA ⟨w5.heap.size, 0, none⟩ 1 _ (frC ⟨⟨0, 17, true⟩, true, []⟩ (.slice none 0 0)) (by rfl) (by rfl) (news_new _ _ _) (by intro u hu; simp [frC] at hu; rcases hu with rfl | rfl | rfl | rfl | rfl <;> rfl) (by have := HHL.out; unfold maxLen; omega) (by have := HHL.out; omega) (Nat.zero_le _) ?_
      intro v9 w9 hrow9 hg9 hv9
      have hW1 : Below W0.heap.size W0 (w5.alloc (.cells #[.int .i64 0, .int .i64 17, .bool true, .bool true, .slice none 0 0] 88)) := (z5.alloc z5.size _)
      have hT9 := Rst.blkA (HT.out.below hW1) hg9
      obtain ⟨A9, c9, rfl, _⟩ := row_form hrow9
      refine hK.out _ _ ?hs8sw5w4a (fun hHeld => ?_)
      case hs8sw5w4a => (try dsimp only); exact Nat.le_trans hW1.size hg9.size
      clear hK K
      try simp only [Act.put, List.setIfInBounds_toArray, List.set_cons_zero, List.set_cons_succ, List.getElem_toArray, List.getElem_cons_succ, List.getElem_cons_zero]
      refine wpAnyH_take (i := 9) (v := ?qv9sw5w4) rfl (by kernel_rfl) (by kernel_rfl) (by kernel_rfl) (fun _ _ _ h => h) (Or.inl ⟨by kernel_rfl, ?qy9sw5w4⟩) (by assumption) ?_
      case qy9sw5w4 => (intro w hSw; (try dsimp only at hSw); go_simp) <;> (try with_reducible rfl)
      try simp only [Act.put, List.setIfInBounds_toArray, List.set_cons_zero, List.set_cons_succ, List.getElem_toArray, List.getElem_cons_succ, List.getElem_cons_zero]
      refine wpAnyH_take (i := 10) (v := ?qv10sw5w4) rfl (by kernel_rfl) (by kernel_rfl) (by kernel_rfl) (fun _ _ _ h => h) (Or.inl ⟨by kernel_rfl, ?qy10sw5w4⟩) (by assumption) ?_
      case qy10sw5w4 => (intro w hSw; (try dsimp only at hSw); go_simp) <;> (try with_reducible rfl)
      try simp only [Act.put, List.setIfInBounds_toArray, List.set_cons_zero, List.set_cons_succ, List.getElem_toArray, List.getElem_cons_succ, List.getElem_cons_zero]
      refine wpAnyH_ready (rs := [11]) (by kernel_rfl) (by simp) ?_
      refine AllReadyH.cons rfl (fun K hK => ?_) AllReadyH.nil
      have s0 := hT9.cell 0
      have s1 := hT9.free 0
      simp only [List.getElem?_cons_zero] at s0
      go_simp
      refine hK.out _ _ ?hs11sw5w4a (fun hHeld => ?_)
      case hs11sw5w4a => (try dsimp only); exact (show W0.heap.size ≤ (w9.setCell _ _).heap.size by simp [World.setCell]; exact Nat.le_trans hW1.size hg9.size)
      clear hK K
      try simp only [Act.put, List.setIfInBounds_toArray, List.set_cons_zero, List.set_cons_succ, List.getElem_toArray, List.getElem_cons_succ, List.getElem_cons_zero]
      refine wpAnyH_done (by kernel_rfl) ?_ _
      have HFN := Lib.hid (FN.out _ _ _ hW1 hg9 hrow9 (by rcases hv9 with h | h; exact .inl h; exact .inr ⟨_, h, Nat.le_refl _⟩))
      go_wp2
      go_end0
      exact ⟨rfl, HFN.out⟩
    · go_simp
      refine hK.out _ _ ?hs7sw5a (fun hHeld => ?_)
      case hs7sw5a => (try dsimp only); exact ((z5.alloc z5.size _)).size
      clear hK K
      try simp only [Act.put, List.setIfInBounds_toArray, List.set_cons_zero, List.set_cons_succ, List.getElem_toArray, List.getElem_cons_succ, List.getElem_cons_zero]
      refine wpAnyH_ready (rs := [4]) (by kernel_rfl) (by simp) ?_
      refine AllReadyH.cons rfl (fun K hK => ?_) AllReadyH.nil
      have c0' := (HT.out.below (w' := w5.alloc (.cells #[.int .i64 0, .int .i64 17, .bool true, .bool true, .slice none 0 0] 88)) (z5.alloc z5.size _)).cells.1.1
      go_simp
      refine hK.out _ _ ?hs4sw5w7a (fun hHeld => ?_)
      case hs4sw5w7a => (try dsimp only); exact ((z5.alloc z5.size _)).size
      clear hK K
      try simp only [Act.put, List.setIfInBounds_toArray, List.set_cons_zero, List.set_cons_succ, List.getElem_toArray, List.getElem_cons_succ, List.getElem_cons_zero]
      refine wpAnyH_ready (rs := [8]) (by kernel_rfl) (by simp) ?_
      refine AllReadyH.cons rfl (fun K hK => ?_) AllReadyH.nil
      have hoA : (w5.alloc (.cells #[.int .i64 0, .int .i64 17, .bool true, .bool true, .slice none 0 0] 88)).ownsRow 0 88 5 (.slice (some ⟨g, 0, none⟩) N c) N (frCs fs vs) := World.ownsRow.alloc (ROWB.out _ z5) _
      refine step_appendF (by rfl) _ _ 48 (by rfl) 0 88 i1 (.agg #[.int .i64 0, .int .i64 0, .bool false, .bool false, .slice none 0 0]) 5 56 Try.underlying48 hi1 hz0 hz1 hz2 (by rfl) (by omega) _ N (frCs fs vs) (by rfl) hoA ⟨w5.heap.size, 0, none⟩ 1 _ (frC ⟨⟨0, 17, true⟩, true, []⟩ (.slice none 0 0)) (by rfl) (by rfl) (news_new _ _ _) (by intro u hu; simp [frC] at hu; rcases hu with rfl | rfl | rfl | rfl | rfl <;> rfl) (by have := HHL.out; unfold maxLen; omega) (by have := HHL.out; omega) (Nat.zero_le _) ?_
      intro v9 w9 hrow9 hg9 hv9
      have hW1 : Below W0.heap.size W0 (w5.alloc (.cells #[.int .i64 0, .int .i64 17, .bool true, .bool true, .slice none 0 0] 88)) := (z5.alloc z5.size _)
      have hT9 := Rst.blkA (HT.out.below hW1) hg9
      obtain ⟨A9, c9, rfl, _⟩ := row_form hrow9
      refine hK.out _ _ ?hs8sw5w7a (fun hHeld => ?_)
      case hs8sw5w7a => (try dsimp only); exact Nat.le_trans hW1.size hg9.size
      clear hK K
      try simp only [Act.put, List.setIfInBounds_toArray, List.set_cons_zero, List.set_cons_succ, List.getElem_toArray, List.getElem_cons_succ, List.getElem_cons_zero]
      refine wpAnyH_take (i := 9) (v := ?qv9sw5w7) rfl (by kernel_rfl) (by kernel_rfl) (by kernel_rfl) (fun _ _ _ h => h) (Or.inl ⟨by kernel_rfl, ?qy9sw5w7⟩) (by assumption) ?_
      case qy9sw5w7 => (intro w hSw; (try dsimp only at hSw); go_simp) <;> (try with_reducible rfl)
      try simp only [Act.put, List.setIfInBounds_toArray, List.set_cons_zero, List.set_cons_succ, List.getElem_toArray, List.getElem_cons_succ, List.getElem_cons_zero]
      refine wpAnyH_take (i := 10) (v := ?qv10sw5w7) rfl (by kernel_rfl) (by kernel_rfl) (by kernel_rfl) (fun _ _ _ h => h) (Or.inl ⟨by kernel_rfl, ?qy10sw5w7⟩) (by assumption) ?_
      case qy10sw5w7 => (intro w hSw; (try dsimp only at hSw); go_simp) <;> (try with_reducible rfl)
      try simp only [Act.put, List.setIfInBounds_toArray, List.set_cons_zero, List.set_cons_succ, List.getElem_toArray, List.getElem_cons_succ, List.getElem_cons_zero]
      refine wpAnyH_ready (rs := [11]) (by kernel_rfl) (by simp) ?_
      refine AllReadyH.cons rfl (fun K hK => ?_) AllReadyH.nil
      have s0 := hT9.cell 0
      have s1 := hT9.free 0
      simp only [List.getElem?_cons_zero] at s0
      go_simp
      refine hK.out _ _ ?hs11sw5w7a (fun hHeld => ?_)
      case hs11sw5w7a => (try dsimp only); exact (show W0.heap.size ≤ (w9.setCell _ _).heap.size by simp [World.setCell]; exact Nat.le_trans hW1.size hg9.size)
      clear hK K
      try simp only [Act.put, List.setIfInBounds_toArray, List.set_cons_zero, List.set_cons_succ, List.getElem_toArray, List.getElem_cons_succ, List.getElem_cons_zero]
      refine wpAnyH_done (by kernel_rfl) ?_ _
      have HFN := Lib.hid (FN.out _ _ _ hW1 hg9 hrow9 (by rcases hv9 with h | h; exact .inl h; exact .inr ⟨_, h, Nat.le_refl _⟩))
      go_wp2
      go_end0
      exact ⟨rfl, HFN.out⟩

/-! ### Zd -/
theorem Rst.lastAt {w : World} {T g n c : Nat} {rp : List Nat} {Gs : List Fr} {F : Fr} {e : Int} {vs : List Value} (h : Rst w T rp (Gs ++ [F]) e (.slice (some ⟨g, 0, none⟩) n c) vs) :
    ∃ A m d, w.cell? ⟨g, Gs.length * 5 + 4, none⟩ = some (.slice A m d) ∧ Bs w A m F.b ∧ m ≤ d ∧ w.frozen? ⟨g, Gs.length * 5 + 4, none⟩ = false := by
  have hF : (Gs ++ [F])[Gs.length]? = some F := by simp
  obtain ⟨u, hu, ho⟩ := h.held.2 Gs.length F hF
  obtain ⟨A, d, rfl, hd, hbs⟩ := ho.slice
  have h5 := (frCs_at hF hu h.held.1).2.2.2.2
  have hcells := @World.ownsRow.cells _ _ _ _ _ _ _ h.row
  have hc := hcells (g := g) rfl (5 * Gs.length + 4) _ h5
  rw [Addr.add_none, Nat.zero_add, Nat.mul_comm] at hc
  refine ⟨A, _, d, hc, hbs, hd, ?_⟩
  rcases h.row.2 with ⟨h', _⟩ | ⟨g', cap, cur, h', _, hh, _⟩
  · simp at h'
  · simp at h'
    obtain ⟨rfl, _⟩ := h'
    exact blk_frozen hh _
theorem Rst.setLast {w : World} {T g n c : Nat} {rp : List Nat} {Gs : List Fr} {F : Fr} {e : Int} {vs : List Value} {v : Value} {l : List UInt8} (h : Rst w T rp (Gs ++ [F]) e (.slice (some ⟨g, 0, none⟩) n c) vs) (ho : Ob w 0 5 v l) :
    Rst (w.setCell ⟨g, Gs.length * 5 + 4, none⟩ v) T (rp ++ v.ownBlock.toList) (Gs ++ [⟨F.t, F.set, l⟩]) e (.slice (some ⟨g, 0, none⟩) n c) (vs.set Gs.length v) ∧ OnlyF rp w (w.setCell ⟨g, Gs.length * 5 + 4, none⟩ v) := by
  have hF : (Gs ++ [F])[Gs.length]? = some F := by simp
  have := h.setB hF ho (fun k hk => (ho.lt k hk).2)
  rw [Nat.mul_comm] at this
  have e1 : (Gs ++ [F]).set Gs.length ⟨F.t, F.set, l⟩ = Gs ++ [⟨F.t, F.set, l⟩] := by rw [List.set_append_right _ _ (Nat.le_refl _)]; simp
  rw [e1] at this
  exact this
/-- Behind a frame's bytes being laid anew. -/
theorem RsOk.laid {w W0 w9 : World} {T g n c : Nat} {rp : List Nat} {Gs : List Fr} {F : Fr} {vs : List Value} {v9 : Value} {l : List UInt8} (hT : Rst W0 T rp (Gs ++ [F]) 0 (.slice (some ⟨g, 0, none⟩) n c) vs) (hb : Below w.heap.size w W0) (hW : Below W0.heap.size W0 w9) (ho : Ob w9 W0.heap.size 5 v9 l) :
    RsOk w T rp (Gs ++ [⟨F.t, F.set, l⟩]) 0 (w9.setCell ⟨g, Gs.length * 5 + 4, none⟩ v9) := by
  obtain ⟨p1, p2⟩ := (hT.below hW).setLast (ho.mono (Nat.zero_le _))
  refine ⟨_, ⟨_, _, p1⟩, ?_, ?_⟩
  · have h1 : OnlyF rp w w9 := .of_below (hb.trans (hW.mono hb.size))
    exact h1.trans p2 (Grew.refl _ _)
  · intro k hk
    rcases List.mem_append.1 hk with h1 | h1
    · exact .inl h1
    · exact .inr (Nat.le_trans hb.size (ho.lt k (by simpa using h1)).1)

theorem cell_other {w : World} {R Q i j : Nat} (hne : R ≠ Q) (v : Value) (u : Unit := ()) : (w.setCell ⟨Q, j, none⟩ v).cell? ⟨R, i, none⟩ = w.cell? ⟨R, i, none⟩ := by
  unfold World.cell?
  rw [Below.heap_setCell _ _ _ R hne]

set_option maxHeartbeats 6400000 in
theorem ref8DoPut (T : Nat) (rp : List Nat) (Gs : List Fr) (F : Fr) (A : Option Addr) (n c : Nat) (ls : List (List UInt8)) (t : Tg) (x : Int) (w : World) (h : Rs w T rp (Gs ++ [F]) 0) (hl : Gs.length ≤ 1000) (hr : Bss w A n ls) (hn : n ≤ 1000)
    (hF : F.b.length ≤ 10000000) (hls : ls.flatten.length ≤ 10000000) :
    Calls Try.prog 17 #[.pointer (some ⟨T, 0, none⟩), actv 0 (.slice A n c) t x] w fun e w' => e = .returned (.tuple #[]) ∧ RsOk w T rp (Gs ++ [⟨F.t, F.set, F.b ++ ls.flatten⟩]) 0 w' := by
  obtain ⟨i0, hi, hz0, hz1, hz2⟩ := info_parts u8_info
  have hb := below_alloc1 w (.cells #[.int .i64 0, .slice A n c, .int .i64 t.cls, .int .i64 t.num, .bool t.made, .int .i64 x] 31)
  have hA : Blk (w.alloc (.cells #[.int .i64 0, .slice A n c, .int .i64 t.cls, .int .i64 t.num, .bool t.made, .int .i64 x] 31)) w.heap.size 31 [.int .i64 0, .slice A n c, .int .i64 t.cls, .int .i64 t.num, .bool t.made, .int .i64 x] := Blk.new w _ _
  obtain ⟨va, vs, hT0⟩ := h
  have hT := hT0.below hb
  have hrpl := hT0.lt
  obtain ⟨g, cg, rfl, hc, hgr⟩ := hT.vaForm (by simp)
  have hgl : g < w.heap.size := hrpl g hgr
  have hTl : T < w.heap.size := hrpl T hT0.inT
  have hTg : T ≠ g := by
    intro e'; subst e'
    exact hT.blk.notRow hT.row (by decide) rfl
  unfold actv
  rw [List.length_append, List.length_singleton] at hT hc
  have hsz : w.heap.size < (w.alloc (.cells #[.int .i64 0, .slice A n c, .int .i64 t.cls, .int .i64 t.num, .bool t.made, .int .i64 x] 31)).heap.size := hA.lt
  obtain ⟨⟨c0, c1⟩, hfr⟩ := hT.cells
  obtain ⟨Ab, nb, cb, q0, hbb, hnb, qf⟩ := hT.lastAt
  have k0 : (w.alloc (.cells #[.int .i64 0, .slice A n c, .int .i64 t.cls, .int .i64 t.num, .bool t.made, .int .i64 x] 31)).cell? ⟨w.heap.size, 0, none⟩ = some (.int .i64 0) := hA.cell 0
  have HT := Lib.hid hT
  have HA := Lib.hid hA
  have HSZ := Lib.hid hsz
  have HGL := Lib.hid hgl
  have HTG := Lib.hid hTg
  have HTL := Lib.hid hTl
  have HHL := Lib.hid hl
  have HQ := Lib.hid q0
  have HQF := Lib.hid qf
  have HBB := Lib.hid hbb
  have HRW := Lib.hid (hr.below hb)
  have hgW : g < (w.alloc (.cells #[.int .i64 0, .slice A n c, .int .i64 t.cls, .int .i64 t.num, .bool t.made, .int .i64 x] 31)).heap.size := Nat.lt_trans hgl hsz
  have HGW := Lib.hid hgW
  have HJ := Lib.hid (fun W (hW : Bss W A n ls) => refJoin A n c ls W hW (by omega) (by omega))
  have FN := Lib.hid (fun (v9 : Value) (w9 : World) (l : List UInt8) hW ho => RsOk.laid (w := w) (v9 := v9) (w9 := w9) (l := l) hT hb hW ho)
  have hFl := Lib.hid hF
  have hLl := Lib.hid hls
  have hnb2 : nb ≤ 10000000 := by have := hbb.len; omega
  clear hT hT0 hA hb hsz hgl hTl hTg hrpl hgr hfr hgW hbb hr hF hls qf
  generalize hN : Gs.length = N at *
  generalize hFBl : F.b = FB at *
  generalize hLSl : ls.flatten = LS at *
  clear hN hFBl hLSl
  go_enter Try.func17, Try.ntmps17
  go_upto_region 1 with (fail)
  generalize w.alloc (.cells #[.int .i64 0, .slice A n c, .int .i64 t.cls, .int .i64 t.num, .bool t.made, .int .i64 x] 31) = W0 at *
  go_upto_region 5 with (fail)
  have CEL : Hid (∀ W, Below W0.heap.size W0 W → W.cell? ⟨T, 0, none⟩ = some (.slice (some ⟨g, 0, none⟩) (N + 1) cg) ∧ W.cell? ⟨w.heap.size, 1, none⟩ = some (.slice A n c)) := fun W hW => ⟨(HT.out.below hW).cells.1.1, (HA.out.below hW).cell 1⟩
  have BBS : Hid (∀ W, Below W0.heap.size W0 W → Bs W Ab nb FB) := fun W hW => HBB.out.below hW
  have RWS : Hid (∀ W, Below W0.heap.size W0 W → Bss W A n ls) := fun W hW => HRW.out.below hW
  have QB : Hid (∀ W, Below W0.heap.size W0 W → W.cell? ⟨g, N * 5 + 4, none⟩ = some (.slice Ab nb cb) ∧ W.frozen? ⟨g, N * 5 + 4, none⟩ = false) := fun W hW => ⟨(hW.cell HGW.out).trans HQ.out, by
    have h1 := hW.block g HGW.out
    have h2 := HQF.out
    unfold World.frozen? at h2 ⊢
    rw [h1]; exact h2⟩
  clear q0
  have i1 : (N : Int) < (N : Int) + 1 := by omega
  refine wp_region_held_drew (S := fun W => W.cell? ⟨T, 0, none⟩ = some (.slice (some ⟨g, 0, none⟩) (N + 1) cg) ∧ W.cell? ⟨w.heap.size, 1, none⟩ = some (.slice A n c)) (by kernel_rfl) ?hb0 (fun hHeld => ?_)
  case hb0 => (try dsimp only); exact CEL.out _ (Below.drew (Below.refl W0.heap.size W0))
  refine wpAnyH_take (i := 0) (v := ?qv0) rfl (by kernel_rfl) (by kernel_rfl) (by kernel_rfl) (fun _ _ _ h => h) (Or.inl ⟨by kernel_rfl, ?qy0⟩) (by assumption) ?_
  case qy0 => (intro w hSw; (try dsimp only at hSw); go_simp) <;> (try with_reducible rfl)
  try simp only [Act.put, List.setIfInBounds_toArray, List.set_cons_zero, List.set_cons_succ, List.getElem_toArray, List.getElem_cons_succ, List.getElem_cons_zero]
  refine wpAnyH_take (i := 1) (v := ?qv1) rfl (by kernel_rfl) (by kernel_rfl) (by kernel_rfl) (fun _ _ _ h => h) (Or.inl ⟨by kernel_rfl, ?qy1⟩) (by assumption) ?_
  case qy1 => (intro w hSw; (try dsimp only at hSw); go_simp) <;> (try with_reducible rfl)
  try simp only [Act.put, List.setIfInBounds_toArray, List.set_cons_zero, List.set_cons_succ, List.getElem_toArray, List.getElem_cons_succ, List.getElem_cons_zero]
  refine wpAnyH_take (i := 2) (v := ?qv2) rfl (by kernel_rfl) (by kernel_rfl) (by kernel_rfl) (fun _ _ _ h => h) (Or.inl ⟨by kernel_rfl, ?qy2⟩) (by assumption) ?_
  case qy2 => (intro w hSw; (try dsimp only at hSw); go_simp) <;> (try with_reducible rfl)
  try simp only [Act.put, List.setIfInBounds_toArray, List.set_cons_zero, List.set_cons_succ, List.getElem_toArray, List.getElem_cons_succ, List.getElem_cons_zero]
  refine wpAnyH_take (i := 3) (v := ?qv3) rfl (by kernel_rfl) (by kernel_rfl) (by kernel_rfl) (fun _ _ _ h => h) (Or.inl ⟨by kernel_rfl, ?qy3⟩) (by assumption) ?_
  case qy3 => (intro w hSw; (try dsimp only at hSw); go_simp) <;> (try with_reducible rfl)
  try simp only [Act.put, List.setIfInBounds_toArray, List.set_cons_zero, List.set_cons_succ, List.getElem_toArray, List.getElem_cons_succ, List.getElem_cons_zero]
  refine wpAnyH_take (i := 4) (v := ?qv4) rfl (by kernel_rfl) (by kernel_rfl) (by kernel_rfl) (fun _ _ _ h => h) (Or.inl ⟨by kernel_rfl, ?qy4⟩) (by assumption) ?_
  case qy4 => (intro w hSw; (try dsimp only at hSw); go_simp) <;> (try with_reducible rfl)
  try simp only [Act.put, List.setIfInBounds_toArray, List.set_cons_zero, List.set_cons_succ, List.getElem_toArray, List.getElem_cons_succ, List.getElem_cons_zero]
  refine wpAnyH_take (i := 6) (v := ?qv6) rfl (by kernel_rfl) (by kernel_rfl) (by kernel_rfl) (fun _ _ _ h => h) (Or.inl ⟨by kernel_rfl, ?qy6⟩) (by assumption) ?_
  case qy6 => (intro w hSw; (try dsimp only at hSw); go_simp) <;> (try with_reducible rfl)
  try simp only [Act.put, List.setIfInBounds_toArray, List.set_cons_zero, List.set_cons_succ, List.getElem_toArray, List.getElem_cons_succ, List.getElem_cons_zero]
  refine wpAnyH_take (i := 7) (v := ?qv7) rfl (by kernel_rfl) (by kernel_rfl) (by kernel_rfl) (fun _ _ _ h => h) (Or.inl ⟨by kernel_rfl, ?qy7⟩) (by assumption) ?_
  case qy7 => (intro w hSw; (try dsimp only at hSw); go_simp) <;> (try with_reducible rfl)
  try simp only [Act.put, List.setIfInBounds_toArray, List.set_cons_zero, List.set_cons_succ, List.getElem_toArray, List.getElem_cons_succ, List.getElem_cons_zero]
  refine wpAnyH_take (i := 8) (v := ?qv8) rfl (by kernel_rfl) (by kernel_rfl) (by kernel_rfl) (fun _ _ _ h => h) (Or.inl ⟨by kernel_rfl, ?qy8⟩) (by assumption) ?_
  case qy8 => (intro w hSw; (try dsimp only at hSw); go_simp) <;> (try with_reducible rfl)
  try simp only [Act.put, List.setIfInBounds_toArray, List.set_cons_zero, List.set_cons_succ, List.getElem_toArray, List.getElem_cons_succ, List.getElem_cons_zero]
  refine wpAnyH_take (i := 9) (v := ?qv9) rfl (by kernel_rfl) (by kernel_rfl) (by kernel_rfl) (fun _ _ _ h => h) (Or.inl ⟨by kernel_rfl, ?qy9⟩) (by assumption) ?_
  case qy9 => (intro w hSw; (try dsimp only at hSw); go_simp) <;> (try with_reducible rfl)
  try simp only [Act.put, List.setIfInBounds_toArray, List.set_cons_zero, List.set_cons_succ, List.getElem_toArray, List.getElem_cons_succ, List.getElem_cons_zero]
  refine wpAnyH_take (i := 10) (v := ?qv10) rfl (by kernel_rfl) (by kernel_rfl) (by kernel_rfl) (fun _ _ _ h => h) (Or.inl ⟨by kernel_rfl, ?qy10⟩) (by assumption) ?_
  case qy10 => (intro w hSw; (try dsimp only at hSw); go_simp) <;> (try with_reducible rfl)
  try simp only [Act.put, List.setIfInBounds_toArray, List.set_cons_zero, List.set_cons_succ, List.getElem_toArray, List.getElem_cons_succ, List.getElem_cons_zero]
  refine wpAnyH_take (i := 11) (v := ?qv11) rfl (by kernel_rfl) (by kernel_rfl) (by kernel_rfl) (fun _ _ _ h => h) (Or.inl ⟨by kernel_rfl, ?qy11⟩) (by assumption) ?_
  case qy11 => (intro w hSw; (try dsimp only at hSw); go_simp) <;> (try with_reducible rfl)
  try simp only [Act.put, List.setIfInBounds_toArray, List.set_cons_zero, List.set_cons_succ, List.getElem_toArray, List.getElem_cons_succ, List.getElem_cons_zero]
  refine wpAnyH_take (i := 12) (v := ?qv12) rfl (by kernel_rfl) (by kernel_rfl) (by kernel_rfl) (fun _ _ _ h => h) (Or.inl ⟨by kernel_rfl, ?qy12⟩) (by assumption) ?_
  case qy12 => (intro w hSw; (try dsimp only at hSw); go_simp) <;> (try with_reducible rfl)
  try simp only [Act.put, List.setIfInBounds_toArray, List.set_cons_zero, List.set_cons_succ, List.getElem_toArray, List.getElem_cons_succ, List.getElem_cons_zero]
  refine wpAnyH_take (i := 15) (v := ?qv15) rfl (by kernel_rfl) (by kernel_rfl) (by kernel_rfl) (fun _ _ _ h => h) (Or.inl ⟨by kernel_rfl, ?qy15⟩) (by assumption) ?_
  case qy15 => (intro w hSw; (try dsimp only at hSw); go_simp) <;> (try with_reducible rfl)
  try simp only [Act.put, List.setIfInBounds_toArray, List.set_cons_zero, List.set_cons_succ, List.getElem_toArray, List.getElem_cons_succ, List.getElem_cons_zero]
  refine wpAnyH_take (i := 16) (v := ?qv16) rfl (by kernel_rfl) (by kernel_rfl) (by kernel_rfl) (fun _ _ _ h => h) (Or.inl ⟨by kernel_rfl, ?qy16⟩) (by assumption) ?_
  case qy16 => (intro w hSw; (try dsimp only at hSw); go_simp) <;> (try with_reducible rfl)
  try simp only [Act.put, List.setIfInBounds_toArray, List.set_cons_zero, List.set_cons_succ, List.getElem_toArray, List.getElem_cons_succ, List.getElem_cons_zero]
  refine wpAnyH_ready (rs := [5, 13]) (by kernel_rfl) (by simp) ?_
  refine AllReadyH.cons rfl (fun K hK => ?_) (AllReadyH.cons rfl (fun K hK => ?_) (AllReadyH.nil))
  · go_simp
    refine hK.out _ _ ?hs5a (fun hHeld => ?_)
    case hs5a => (try dsimp only); exact CEL.out _ ((below_alloc1 W0 (.cells #[] 5)).drew)
    clear hK K
    try simp only [Act.put, List.setIfInBounds_toArray, List.set_cons_zero, List.set_cons_succ, List.getElem_toArray, List.getElem_cons_succ, List.getElem_cons_zero]
    refine wpAnyH_ready (rs := [13]) (by kernel_rfl) (by simp) ?_
    refine AllReadyH.cons rfl (fun K hK => ?_) AllReadyH.nil
    obtain ⟨s0, _⟩ := QB.out _ ((below_alloc1 W0 (.cells #[] 5)).drew)
    go_simp
    refine hK.out _ _ ?hs13w5a (fun hHeld => ?_)
    case hs13w5a => (try dsimp only); exact CEL.out _ ((below_alloc1 W0 (.cells #[] 5)).drew)
    clear hK K
    try simp only [Act.put, List.setIfInBounds_toArray, List.set_cons_zero, List.set_cons_succ, List.getElem_toArray, List.getElem_cons_succ, List.getElem_cons_zero]
    refine wpAnyH_ready (rs := [14]) (by kernel_rfl) (by simp) ?_
    refine AllReadyH.cons rfl (fun K hK => ?_) AllReadyH.nil
    have hoA : Ob (W0.alloc (.cells #[] 5)).drew W0.heap.size 5 (.slice (some ⟨W0.heap.size, 0, none⟩) 0 0) [] := World.ownsRow_made W0 #[] 0 (Nat.le_refl _) (Nat.zero_le _) rfl
    have hbA := BBS.out (W0.alloc (.cells #[] 5)).drew ((below_alloc1 W0 (.cells #[] 5)).drew)
    refine step_appendB rfl _ _ 41 rfl W0.heap.size 5 i0 (.int .u8 0) Try.underlying41 hi hz0 hz1 hz2 rfl _ [] rfl hoA _ _ _ FB rfl hbA (by simp; omega) (by simp) ?_
    intro v7 w7 hob7 hg7 _ _
    rw [List.nil_append] at hob7
    have z7 : Below W0.heap.size W0 w7 := ((below_alloc1 W0 (.cells #[] 5)).drew).grown ⟨hg7.os, hg7.tape, hg7.output, hg7.size, hg7.block⟩ (by simp) (fun k hk => (hoA.lt k hk).1)
    obtain ⟨A7, c7, rfl, _, _⟩ := hob7.slice
    refine hK.out _ _ ?hs14w5a (fun hHeld => ?_)
    case hs14w5a => (try dsimp only); exact CEL.out _ z7
    clear hK K
    try simp only [Act.put, List.setIfInBounds_toArray, List.set_cons_zero, List.set_cons_succ, List.getElem_toArray, List.getElem_cons_succ, List.getElem_cons_zero]
    refine wpAnyH_ready (rs := [17]) (by kernel_rfl) (by simp) ?_
    refine AllReadyH.cons rfl (fun K hK => ?_) AllReadyH.nil
    go_simp
    refine (HJ.out _ (RWS.out _ z7)).mono ?_
    rintro e w8 ⟨A8, n8, c8, rfl, ho8, hB8⟩
    have z8 := z7.trans (hB8.mono z7.size)
    have hob8 := Ob.below hob7 hB8
    have hbs8 := ho8.bs.1
    have hn8 : n8 ≤ 10000000 := by have := hbs8.len; have := hLl.out; omega
    have hf8 := hFl.out
    go_wp2_with fail
    refine hK.out _ _ ?hs17w5a (fun hHeld => ?_)
    case hs17w5a => (try dsimp only); exact CEL.out _ z8
    clear hK K
    try simp only [Act.put, List.setIfInBounds_toArray, List.set_cons_zero, List.set_cons_succ, List.getElem_toArray, List.getElem_cons_succ, List.getElem_cons_zero]
    refine wpAnyH_ready (rs := [18]) (by kernel_rfl) (by simp) ?_
    refine AllReadyH.cons rfl (fun K hK => ?_) AllReadyH.nil
    refine step_appendB rfl _ _ 41 rfl W0.heap.size 5 i0 (.int .u8 0) Try.underlying41 hi hz0 hz1 hz2 rfl _ FB rfl hob8 _ _ _ LS rfl hbs8 (by omega) z8.size ?_
    intro v9 w9 hob9 hg9 _ _
    have z9 : Below W0.heap.size W0 w9 := z8.grown ⟨hg9.os, hg9.tape, hg9.output, hg9.size, hg9.block⟩ z8.size (fun k hk => (hob8.lt k hk).1)
    obtain ⟨A9, c9, rfl, _, _⟩ := hob9.slice
    have hX := Lib.hid (FN.out _ _ _ z9 hob9)
    refine hK.out _ _ ?hs18w5a (fun hHeld => ?_)
    case hs18w5a => (try dsimp only); exact CEL.out _ z9
    clear hK K
    try simp only [Act.put, List.setIfInBounds_toArray, List.set_cons_zero, List.set_cons_succ, List.getElem_toArray, List.getElem_cons_succ, List.getElem_cons_zero]
    refine wpAnyH_take (i := 19) (v := ?qv19w5) rfl (by kernel_rfl) (by kernel_rfl) (by kernel_rfl) (fun _ _ _ h => h) (Or.inl ⟨by kernel_rfl, ?qy19w5⟩) (by assumption) ?_
    case qy19w5 => (intro w hSw; (try dsimp only at hSw); go_simp) <;> (try with_reducible rfl)
    try simp only [Act.put, List.setIfInBounds_toArray, List.set_cons_zero, List.set_cons_succ, List.getElem_toArray, List.getElem_cons_succ, List.getElem_cons_zero]
    refine wpAnyH_take (i := 20) (v := ?qv20w5) rfl (by kernel_rfl) (by kernel_rfl) (by kernel_rfl) (fun _ _ _ h => h) (Or.inl ⟨by kernel_rfl, ?qy20w5⟩) (by assumption) ?_
    case qy20w5 => (intro w hSw; (try dsimp only at hSw); go_simp) <;> (try with_reducible rfl)
    try simp only [Act.put, List.setIfInBounds_toArray, List.set_cons_zero, List.set_cons_succ, List.getElem_toArray, List.getElem_cons_succ, List.getElem_cons_zero]
    refine wpAnyH_ready (rs := [21]) (by kernel_rfl) (by simp) ?_
    refine AllReadyH.cons rfl (fun K hK => ?_) AllReadyH.nil
    obtain ⟨s0, s1⟩ := QB.out _ z9
    go_simp
    refine hK.out _ _ ?hs21w5a (fun hHeld => ?_)
    case hs21w5a => (try dsimp only); exact ⟨(cell_other (HTG.out) _).trans (CEL.out _ z9).1, (cell_other (by have := HGL.out; omega) _).trans (CEL.out _ z9).2⟩
    clear hK K
    try simp only [Act.put, List.setIfInBounds_toArray, List.set_cons_zero, List.set_cons_succ, List.getElem_toArray, List.getElem_cons_succ, List.getElem_cons_zero]
    refine wpAnyH_done (by kernel_rfl) ?_ _
    go_wp2
    go_end0
    exact ⟨rfl, by have h := hX.out; rw [List.length_append] at h; exact h⟩
  · obtain ⟨s0, _⟩ := QB.out _ (Below.drew (Below.refl W0.heap.size W0))
    go_simp
    refine hK.out _ _ ?hs13a (fun hHeld => ?_)
    case hs13a => (try dsimp only); exact CEL.out _ (Below.drew (Below.refl W0.heap.size W0))
    clear hK K
    try simp only [Act.put, List.setIfInBounds_toArray, List.set_cons_zero, List.set_cons_succ, List.getElem_toArray, List.getElem_cons_succ, List.getElem_cons_zero]
    refine wpAnyH_ready (rs := [5]) (by kernel_rfl) (by simp) ?_
    refine AllReadyH.cons rfl (fun K hK => ?_) AllReadyH.nil
    go_simp
    refine hK.out _ _ ?hs5w13a (fun hHeld => ?_)
    case hs5w13a => (try dsimp only); exact CEL.out _ ((below_alloc1 W0 (.cells #[] 5)).drew)
    clear hK K
    try simp only [Act.put, List.setIfInBounds_toArray, List.set_cons_zero, List.set_cons_succ, List.getElem_toArray, List.getElem_cons_succ, List.getElem_cons_zero]
    refine wpAnyH_ready (rs := [14]) (by kernel_rfl) (by simp) ?_
    refine AllReadyH.cons rfl (fun K hK => ?_) AllReadyH.nil
    have hoA : Ob (W0.alloc (.cells #[] 5)).drew W0.heap.size 5 (.slice (some ⟨W0.heap.size, 0, none⟩) 0 0) [] := World.ownsRow_made W0 #[] 0 (Nat.le_refl _) (Nat.zero_le _) rfl
    have hbA := BBS.out (W0.alloc (.cells #[] 5)).drew ((below_alloc1 W0 (.cells #[] 5)).drew)
    refine step_appendB rfl _ _ 41 rfl W0.heap.size 5 i0 (.int .u8 0) Try.underlying41 hi hz0 hz1 hz2 rfl _ [] rfl hoA _ _ _ FB rfl hbA (by simp; omega) (by simp) ?_
    intro v7 w7 hob7 hg7 _ _
    rw [List.nil_append] at hob7
    have z7 : Below W0.heap.size W0 w7 := ((below_alloc1 W0 (.cells #[] 5)).drew).grown ⟨hg7.os, hg7.tape, hg7.output, hg7.size, hg7.block⟩ (by simp) (fun k hk => (hoA.lt k hk).1)
    obtain ⟨A7, c7, rfl, _, _⟩ := hob7.slice
    refine hK.out _ _ ?hs14w13a (fun hHeld => ?_)
    case hs14w13a => (try dsimp only); exact CEL.out _ z7
    clear hK K
    try simp only [Act.put, List.setIfInBounds_toArray, List.set_cons_zero, List.set_cons_succ, List.getElem_toArray, List.getElem_cons_succ, List.getElem_cons_zero]
    refine wpAnyH_ready (rs := [17]) (by kernel_rfl) (by simp) ?_
    refine AllReadyH.cons rfl (fun K hK => ?_) AllReadyH.nil
    go_simp
    refine (HJ.out _ (RWS.out _ z7)).mono ?_
    rintro e w8 ⟨A8, n8, c8, rfl, ho8, hB8⟩
    have z8 := z7.trans (hB8.mono z7.size)
    have hob8 := Ob.below hob7 hB8
    have hbs8 := ho8.bs.1
    have hn8 : n8 ≤ 10000000 := by have := hbs8.len; have := hLl.out; omega
    have hf8 := hFl.out
    go_wp2_with fail
    refine hK.out _ _ ?hs17w13a (fun hHeld => ?_)
    case hs17w13a => (try dsimp only); exact CEL.out _ z8
    clear hK K
    try simp only [Act.put, List.setIfInBounds_toArray, List.set_cons_zero, List.set_cons_succ, List.getElem_toArray, List.getElem_cons_succ, List.getElem_cons_zero]
    refine wpAnyH_ready (rs := [18]) (by kernel_rfl) (by simp) ?_
    refine AllReadyH.cons rfl (fun K hK => ?_) AllReadyH.nil
    refine step_appendB rfl _ _ 41 rfl W0.heap.size 5 i0 (.int .u8 0) Try.underlying41 hi hz0 hz1 hz2 rfl _ FB rfl hob8 _ _ _ LS rfl hbs8 (by omega) z8.size ?_
    intro v9 w9 hob9 hg9 _ _
    have z9 : Below W0.heap.size W0 w9 := z8.grown ⟨hg9.os, hg9.tape, hg9.output, hg9.size, hg9.block⟩ z8.size (fun k hk => (hob8.lt k hk).1)
    obtain ⟨A9, c9, rfl, _, _⟩ := hob9.slice
    have hX := Lib.hid (FN.out _ _ _ z9 hob9)
    refine hK.out _ _ ?hs18w13a (fun hHeld => ?_)
    case hs18w13a => (try dsimp only); exact CEL.out _ z9
    clear hK K
    try simp only [Act.put, List.setIfInBounds_toArray, List.set_cons_zero, List.set_cons_succ, List.getElem_toArray, List.getElem_cons_succ, List.getElem_cons_zero]
    refine wpAnyH_take (i := 19) (v := ?qv19w13) rfl (by kernel_rfl) (by kernel_rfl) (by kernel_rfl) (fun _ _ _ h => h) (Or.inl ⟨by kernel_rfl, ?qy19w13⟩) (by assumption) ?_
    case qy19w13 => (intro w hSw; (try dsimp only at hSw); go_simp) <;> (try with_reducible rfl)
    try simp only [Act.put, List.setIfInBounds_toArray, List.set_cons_zero, List.set_cons_succ, List.getElem_toArray, List.getElem_cons_succ, List.getElem_cons_zero]
    refine wpAnyH_take (i := 20) (v := ?qv20w13) rfl (by kernel_rfl) (by kernel_rfl) (by kernel_rfl) (fun _ _ _ h => h) (Or.inl ⟨by kernel_rfl, ?qy20w13⟩) (by assumption) ?_
    case qy20w13 => (intro w hSw; (try dsimp only at hSw); go_simp) <;> (try with_reducible rfl)
    try simp only [Act.put, List.setIfInBounds_toArray, List.set_cons_zero, List.set_cons_succ, List.getElem_toArray, List.getElem_cons_succ, List.getElem_cons_zero]
    refine wpAnyH_ready (rs := [21]) (by kernel_rfl) (by simp) ?_
    refine AllReadyH.cons rfl (fun K hK => ?_) AllReadyH.nil
    obtain ⟨s0, s1⟩ := QB.out _ z9
    go_simp
    refine hK.out _ _ ?hs21w13a (fun hHeld => ?_)
    case hs21w13a => (try dsimp only); exact ⟨(cell_other (HTG.out) _).trans (CEL.out _ z9).1, (cell_other (by have := HGL.out; omega) _).trans (CEL.out _ z9).2⟩
    clear hK K
    try simp only [Act.put, List.setIfInBounds_toArray, List.set_cons_zero, List.set_cons_succ, List.getElem_toArray, List.getElem_cons_succ, List.getElem_cons_zero]
    refine wpAnyH_done (by kernel_rfl) ?_ _
    go_wp2
    go_end0
    exact ⟨rfl, by have h := hX.out; rw [List.length_append] at h; exact h⟩
end Go.Proofs.Ytbhfaakhcnkegaa
