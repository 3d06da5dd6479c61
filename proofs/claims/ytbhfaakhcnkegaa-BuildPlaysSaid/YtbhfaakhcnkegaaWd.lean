/-
  A sheet in memory: its frames, and what a call on it may change.
-/
import Derived.Test.YtbhfaakhcnkegaaWc
namespace Go.Proofs.Ytbhfaakhcnkegaa
open Go.RowKit
set_option linter.unusedVariables false
set_option linter.unusedSimpArgs false
set_option maxRecDepth 4000

/-- Only the blocks of fp, and what is new, may have changed. -/
structure OnlyF (fp : List Nat) (w w' : World) : Prop where
  os : w'.os = w.os
  tape : w'.tape = w.tape
  output : w'.output = w.output
  size : w.heap.size ≤ w'.heap.size
  block : ∀ k, k < w.heap.size → k ∉ fp → w'.heap[k]? = w.heap[k]?
theorem OnlyF.refl (fp : List Nat) (w : World) : OnlyF fp w w := ⟨rfl, rfl, rfl, Nat.le_refl _, fun _ _ _ => rfl⟩
/-- What a footprint may grow to. -/
def Grew (n : Nat) (fp fp' : List Nat) : Prop := ∀ k ∈ fp', k ∈ fp ∨ n ≤ k
theorem Grew.refl (n : Nat) (fp : List Nat) : Grew n fp fp := fun _ h => .inl h
theorem Grew.trans {n m : Nat} {a b c : List Nat} (h : Grew n a b) (k : Grew m b c) (hnm : n ≤ m) : Grew n a c := fun x hx => by
  rcases k x hx with h1 | h1
  · exact h x h1
  · exact .inr (by omega)
theorem OnlyF.trans {fp fp' : List Nat} {a b c : World} (h : OnlyF fp a b) (k : OnlyF fp' b c) (hg : Grew a.heap.size fp fp') : OnlyF fp a c :=
  ⟨k.os.trans h.os, k.tape.trans h.tape, k.output.trans h.output, Nat.le_trans h.size k.size, fun i hi hn => by
    rw [k.block i (Nat.lt_of_lt_of_le hi h.size) (fun hm => by rcases hg i hm with h1 | h1; exact hn h1; omega)]
    exact h.block i hi hn⟩
theorem OnlyF.of_below {fp : List Nat} {a w : World} (h : Below a.heap.size a w) : OnlyF fp a w := ⟨h.os, h.tape, h.output, h.size, fun i hi _ => h.block i hi⟩
theorem OnlyF.of_qt {fp : List Nat} {a w : World} (h : Qt a w) : OnlyF fp a w := .of_below h.below
theorem OnlyF.of_only {fp : List Nat} {g : Nat} {a w : World} (h : Only g a w) (hg : g ∈ fp) : OnlyF fp a w := ⟨h.os, h.tape, h.output, h.size, fun i hi hn => h.block i hi (by rintro e; cases e; exact hn hg)⟩
theorem OnlyF.of_grown {fp : List Nat} {row : Option Nat} {a w : World} (h : a.grownBy w row) (hg : ∀ k, row = some k → k ∈ fp ∨ a.heap.size ≤ k) : OnlyF fp a w :=
  ⟨h.os, h.tape, h.output, h.size, fun i hi hn => h.block i hi (by intro e; rcases hg i e.symm with h1 | h1; exact hn h1; omega)⟩
theorem OnlyF.below {fp : List Nat} {B : Nat} {a w w' : World} (h : OnlyF fp w w') (hb : Below B a w) (hB : B ≤ w.heap.size) (hf : ∀ k ∈ fp, B ≤ k) : Below B a w' :=
  ⟨h.os.trans hb.os, h.tape.trans hb.tape, h.output.trans hb.output, Nat.le_trans hb.size h.size, fun k hk => (h.block k (by omega) (fun hm => by have := hf k hm; omega)).trans (hb.block k hk)⟩
theorem OnlyF.mono {fp fp' : List Nat} {w w' : World} (h : OnlyF fp w w') (hf : ∀ k ∈ fp, k ∈ fp') : OnlyF fp' w w' := ⟨h.os, h.tape, h.output, h.size, fun i hi hn => h.block i hi (fun hm => hn (hf i hm))⟩
theorem OnlyF.setCell {fp : List Nat} {a w : World} (h : OnlyF fp a w) {p : Addr} (hp : p.block ∈ fp ∨ a.heap.size ≤ p.block) (u : Value) : OnlyF fp a (w.setCell p u) :=
  ⟨h.os, h.tape, h.output, by simpa [World.setCell] using h.size, fun i hi hn => (Below.heap_setCell w p u i (by
    rintro rfl
    rcases hp with h1 | h1
    · exact hn h1
    · omega)).trans (h.block i hi hn)⟩
theorem OnlyF.drewN {fp : List Nat} {a w : World} (h : OnlyF fp a w) (n : Nat) : OnlyF fp a (w.drewN n) := ⟨h.os, h.tape, h.output, h.size, h.block⟩
theorem OnlyF.drew {fp : List Nat} {a w : World} (h : OnlyF fp a w) : OnlyF fp a w.drew := ⟨h.os, h.tape, h.output, h.size, h.block⟩
theorem OnlyF.alloc {fp : List Nat} {a w : World} (h : OnlyF fp a w) (o : Obj) : OnlyF fp a (w.alloc o) := h.trans (.of_below (fp := fp) (below_alloc1 w o)) (Grew.refl _ _)

/-- A frame: its tag, whether it is a set's, its bytes. -/
structure Fr where
  t : Tg
  set : Bool
  b : List UInt8
def fr0 : Fr := ⟨tg0, false, []⟩
/-- A frame's cells, its bytes at v. -/
def frC (f : Fr) (v : Value) : List Value := [.int .i64 f.t.cls, .int .i64 f.t.num, .bool f.t.made, .bool f.set, v]
def frCs : List Fr → List Value → List Value
  | f :: fs, v :: vs => frC f v ++ frCs fs vs
  | _, _ => []
theorem frCs_len : ∀ {fs : List Fr} {vs : List Value}, fs.length = vs.length → (frCs fs vs).length = fs.length * 5
  | [], [], _ => rfl
  | f :: fs, v :: vs, h => by
    have := frCs_len (fs := fs) (vs := vs) (by simpa using h)
    simp [frCs, frC, this]; omega
theorem frCs_append : ∀ {fs gs : List Fr} {vs us : List Value}, fs.length = vs.length → frCs (fs ++ gs) (vs ++ us) = frCs fs vs ++ frCs gs us
  | [], gs, [], us, _ => rfl
  | f :: fs, gs, v :: vs, us, h => by
    have := frCs_append (fs := fs) (gs := gs) (vs := vs) (us := us) (by simpa using h)
    simp [frCs, this]
/-- The rows of bytes of frames. -/
def FrB (w : World) (fs : List Fr) (vs : List Value) : Prop := fs.length = vs.length ∧ ∀ (i : Nat) (f : Fr), fs[i]? = some f → ∃ v, vs[i]? = some v ∧ Ob w 0 5 v f.b
/-- A sheet at block S: the innermost frame, those around it, outermost first, its error; fp: the blocks that are its own. -/
structure Sht (w : World) (S : Nat) (fp : List Nat) (F : Fr) (Fs : List Fr) (e : Int) (v va : Value) (vs : List Value) : Prop where
  blk : Blk w S 86 (frC F v ++ [va, .int .i64 e])
  row : w.ownsRow 0 83 5 va Fs.length (frCs Fs vs)
  held : FrB w (F :: Fs) (v :: vs)
  nodup : ((v :: vs).filterMap Value.ownBlock).Nodup
  inS : S ∈ fp
  inA : ∀ k, va.ownBlock = some k → k ∈ fp
  inV : ∀ u ∈ v :: vs, ∀ k, u.ownBlock = some k → k ∈ fp
  lt : ∀ k ∈ fp, k < w.heap.size
/-- .. without its insides. -/
def Sh (w : World) (S : Nat) (fp : List Nat) (F : Fr) (Fs : List Fr) (e : Int) : Prop := ∃ v va vs, Sht w S fp F Fs e v va vs

theorem FrB.keep {w w' : World} {fs : List Fr} {vs : List Value} (h : FrB w fs vs) (hk : ∀ u ∈ vs, ∀ l, Ob w 0 5 u l → Ob w' 0 5 u l) : FrB w' fs vs :=
  ⟨h.1, fun i f hf => by
    obtain ⟨u, hu, ho⟩ := h.2 i f hf
    exact ⟨u, hu, hk u (List.mem_of_getElem? hu) _ ho⟩⟩
/-- What isn't of a sheet may change. -/
theorem Sht.apart {w w' : World} {S : Nat} {fp fq : List Nat} {F : Fr} {Fs : List Fr} {e : Int} {v va : Value} {vs : List Value} (h : Sht w S fp F Fs e v va vs) (hO : OnlyF fq w w') (hd : ∀ k ∈ fp, k ∉ fq) : Sht w' S fp F Fs e v va vs := by
  have hkeep : ∀ {te : TypeId} {size n : Nat} {u : Value} {xs : List Value}, w.ownsRow 0 te size u n xs → (∀ k, u.ownBlock = some k → k ∈ fp) → w'.ownsRow 0 te size u n xs := by
    intro te size n u xs ho hin
    refine ⟨ho.1, ?_⟩
    rcases ho.2 with h2 | ⟨g, cap, cur, rfl, h0, hh, r⟩
    · exact .inl h2
    · have hg := hin g rfl
      exact .inr ⟨g, cap, cur, rfl, h0, by rw [hO.block g (h.lt g hg) (hd g hg)]; exact hh, r⟩
  exact ⟨(hO.block S (h.lt S h.inS) (hd S h.inS)).trans h.blk, hkeep h.row h.inA, h.held.keep fun u hu l ho => hkeep ho (h.inV u hu), h.nodup, h.inS, h.inA, h.inV, fun k hk => Nat.lt_of_lt_of_le (h.lt k hk) hO.size⟩
theorem Sht.below {w w' : World} {S : Nat} {fp : List Nat} {F : Fr} {Fs : List Fr} {e : Int} {v va : Value} {vs : List Value} (h : Sht w S fp F Fs e v va vs) (hb : Below w.heap.size w w') : Sht w' S fp F Fs e v va vs :=
  h.apart (fq := []) (.of_below hb) (fun _ _ h => by cases h)
theorem Sht.cells {w : World} {S : Nat} {fp : List Nat} {F : Fr} {Fs : List Fr} {e : Int} {v va : Value} {vs : List Value} (h : Sht w S fp F Fs e v va vs) :
    (w.cell? ⟨S, 0, none⟩ = some (.int .i64 F.t.cls) ∧ w.cell? ⟨S, 1, none⟩ = some (.int .i64 F.t.num) ∧ w.cell? ⟨S, 2, none⟩ = some (.bool F.t.made) ∧ w.cell? ⟨S, 3, none⟩ = some (.bool F.set) ∧ w.cell? ⟨S, 4, none⟩ = some v ∧ w.cell? ⟨S, 5, none⟩ = some va ∧ w.cell? ⟨S, 6, none⟩ = some (.int .i64 e)) ∧
    ∀ i, w.frozen? ⟨S, i, none⟩ = false :=
  ⟨⟨h.blk.cell 0, h.blk.cell 1, h.blk.cell 2, h.blk.cell 3, h.blk.cell 4, h.blk.cell 5, h.blk.cell 6⟩, fun i => h.blk.free i⟩

/-- The innermost frame's bytes are another row. -/
theorem Sht.put {w w1 : World} {S : Nat} {fp : List Nat} {F : Fr} {Fs : List Fr} {e : Int} {v va v' : Value} {vs : List Value} {l : List UInt8} (h : Sht w S fp F Fs e v va vs) (hg : w.grownBy w1 v.ownBlock) (ho : Ob w1 0 5 v' l)
    (hv : v'.ownBlock = v.ownBlock ∨ v'.ownBlock = some w.heap.size) (hlt : ∀ k, v'.ownBlock = some k → k < w1.heap.size) :
    Sht (w1.setCell ⟨S, 4, none⟩ v') S (fp ++ (v'.ownBlock.toList)) ⟨F.t, F.set, l⟩ Fs e v' va vs ∧ OnlyF fp w (w1.setCell ⟨S, 4, none⟩ v') := by
  have hSv : v.ownBlock ≠ some S := h.blk.notRow (h.held.2 0 F rfl |>.elim fun u ⟨hu, ho⟩ => by simp at hu; subst hu; exact ho) (by decide)
  have hblk1 : Blk w1 S 86 (frC F v ++ [va, .int .i64 e]) := (hg.block S h.blk.lt (fun e => hSv e.symm)).trans h.blk
  have hblk2 := hblk1.set 4 v'
  have hO1 : OnlyF fp w w1 := .of_grown hg fun k hk => .inl (h.inV v (by simp) k hk)
  have hnv : ∀ u ∈ vs, u.ownBlock = none ∨ u.ownBlock ≠ v.ownBlock := by
    intro u hu
    cases hq : u.ownBlock with
    | none => exact .inl rfl
    | some k =>
      right
      intro hvk
      have hn := h.nodup
      rw [List.filterMap_cons, ← hvk] at hn
      simp only [List.nodup_cons] at hn
      exact hn.1 (List.mem_filterMap.2 ⟨u, hu, hq⟩)
  have hSrow : ∀ {u : Value} {r : List UInt8}, Ob w1 0 5 u r → Ob (w1.setCell ⟨S, 4, none⟩ v') 0 5 u r := fun hr => ownsRow_setCell_other hr (hblk1.notRow hr (by decide)) _
  have hvsl : ∀ u ∈ vs, ∀ r, Ob w 0 5 u r → Ob (w1.setCell ⟨S, 4, none⟩ v') 0 5 u r := fun u hu r hr => hSrow (Ob.grown hr hg (hnv u hu))
  have hrow1 : w1.ownsRow 0 83 5 va Fs.length (frCs Fs vs) := by
    refine h.row.kept hg ?_
    cases hq : va.ownBlock with
    | none => exact .inl rfl
    | some k =>
      right
      intro hvk
      rcases h.row.2 with ⟨rfl, _⟩ | ⟨g', cap, cur, rfl, _, hh, _⟩
      · simp [Value.ownBlock] at hq
      · have hob := (h.held.2 0 F rfl)
        obtain ⟨u, hu, hob⟩ := hob
        simp at hu; subst hu
        simp [Value.ownBlock] at hq
        subst hq
        rcases hob.notBlk hh (by decide) with h1 | h1
        · rw [h1] at hvk; cases hvk
        · exact h1 hvk.symm
  refine ⟨⟨?_, ?_, ?_, ?_, ?_, ?_, ?_, ?_⟩, hO1.setCell (.inl h.inS) _⟩
  · simpa [frC] using hblk2
  · exact ownsRow_setCell_other hrow1 (hblk1.notRow hrow1 (by decide)) _
  · refine ⟨by simpa using h.held.1, fun i f hf => ?_⟩
    rcases i with _ | i
    · cases hf; exact ⟨v', rfl, hSrow ho⟩
    · obtain ⟨u, hu, hr⟩ := h.held.2 (i + 1) f hf
      exact ⟨u, hu, hvsl u (List.mem_of_getElem? (by simpa using hu)) _ hr⟩
  · have hn := h.nodup
    rw [List.filterMap_cons] at hn ⊢
    have hnold : ∀ k ∈ vs.filterMap Value.ownBlock, k < w.heap.size := by
      intro k hk
      obtain ⟨u, hu, hq⟩ := List.mem_filterMap.1 hk
      exact h.lt k (h.inV u (List.mem_cons_of_mem _ hu) k hq)
    rcases hv with hv | hv
    · rw [hv]; exact hn
    · rw [hv]
      simp only [List.nodup_cons]
      refine ⟨fun hm => by have := hnold _ hm; omega, ?_⟩
      cases hq : v.ownBlock with
      | none => rw [hq] at hn; exact hn
      | some k => rw [hq] at hn; simp only [List.nodup_cons] at hn; exact hn.2
  · exact List.mem_append_left _ h.inS
  · exact fun k hk => List.mem_append_left _ (h.inA k hk)
  · intro u hu k hk
    rcases List.mem_cons.1 hu with rfl | hu
    · exact List.mem_append_right _ (by rw [hk]; simp)
    · exact List.mem_append_left _ (h.inV u (List.mem_cons_of_mem _ hu) k hk)
  · intro k hk
    have hs : (w1.setCell ⟨S, 4, none⟩ v').heap.size = w1.heap.size := by simp [World.setCell]
    rw [hs]
    rcases List.mem_append.1 hk with h1 | h1
    · exact Nat.lt_of_lt_of_le (h.lt k h1) hg.size
    · exact hlt k (by simpa using h1)
theorem Sht.put_grew {n : Nat} {w : World} {fp : List Nat} {v v' : Value} (hn : n ≤ w.heap.size) (hv : v'.ownBlock = v.ownBlock ∨ v'.ownBlock = some w.heap.size) (hin : ∀ k, v.ownBlock = some k → k ∈ fp) : Grew n fp (fp ++ v'.ownBlock.toList) := by
  intro k hk
  rcases List.mem_append.1 hk with h1 | h1
  · exact .inl h1
  · simp at h1
    rcases hv with h2 | h2
    · exact .inl (hin k (by rw [← h2, h1]))
    · rw [h1] at h2; cases h2; exact .inr hn

end Go.Proofs.Ytbhfaakhcnkegaa
