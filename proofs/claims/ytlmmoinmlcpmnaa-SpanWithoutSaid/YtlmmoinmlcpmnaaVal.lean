/-
  What needs no program: rows of values in memory (ints, strings), rows that the call itself made, append.
-/
import Derived.Test.YtlmmoinmlcpmnaaBase
namespace Go.Proofs.Ytlmmoinmlcpmnaa
open Go.RowKit
set_option linter.unusedVariables false
set_option linter.unusedSimpArgs false
set_option maxRecDepth 4000

/-- The slice at address A, of length n, reads as the values l, a cell each. -/
def Vs (w : World) (A : Option Addr) (n : Nat) (l : List Value) : Prop :=
  l.length = n ∧ ∀ i x, l[i]? = some x → ∃ b o, A = some ⟨b, o, none⟩ ∧ w.cell? ⟨b, o + i, none⟩ = some x
theorem Vs.keep {w w' : World} {A : Option Addr} {n : Nat} {l : List Value} (h : Vs w A n l)
    (hk : ∀ (p : Addr) (x : Value), w.cell? p = some x → w'.cell? p = some x) : Vs w' A n l :=
  ⟨h.1, fun i x hx => let ⟨b, o, e, hc⟩ := h.2 i x hx; ⟨b, o, e, hk _ _ hc⟩⟩
theorem Vs.below {w w' : World} {A : Option Addr} {n : Nat} {l : List Value} (h : Vs w A n l) (hb : Below w.heap.size w w') : Vs w' A n l :=
  h.keep fun _ _ hc => (hb.cell (World.block_lt_of_cell? w _ hc)).trans hc
theorem Vs.qt {w w' : World} {A : Option Addr} {n : Nat} {l : List Value} (h : Vs w A n l) (hb : Qt w w') : Vs w' A n l := h.below hb.below
theorem Vs.drew {w : World} {A : Option Addr} {n : Nat} {l : List Value} (h : Vs w A n l) : Vs w.drew A n l := h
theorem Vs.drewN {w : World} {A : Option Addr} {n : Nat} {l : List Value} (h : Vs w A n l) (k : Nat) : Vs (w.drewN k) A n l := h
theorem Vs.nil (w : World) (A : Option Addr) : Vs w A 0 [] := ⟨rfl, fun i x h => by simp at h⟩
theorem Vs.newF (w : World) (l : List Value) (e : TypeId) (f : Nat × Nat) : Vs (w.alloc (.cells l.toArray e f)) (some ⟨w.heap.size, 0, none⟩) l.length l :=
  ⟨rfl, fun i x hx => ⟨_, _, rfl, by unfold World.cell?; rw [heap_alloc_new]; simp [hx]⟩⟩
theorem Vs.new1 (w : World) (a : Value) (e : TypeId) : Vs (w.alloc (.cells #[a] e)) (some ⟨w.heap.size, 0, none⟩) 1 [a] := Vs.newF w [a] e _
theorem Vs.new2 (w : World) (a b : Value) (e : TypeId) : Vs (w.alloc (.cells #[a, b] e)) (some ⟨w.heap.size, 0, none⟩) 2 [a, b] := Vs.newF w [a, b] e _
theorem Vs.cut {w : World} {A : Option Addr} {n : Nat} {l : List Value} (h : Vs w A n l) {i j : Nat} (hij : i ≤ j) (hj : j ≤ n) :
    Vs w (Option.map (fun x => x.add i) A) (j - i) ((l.drop i).take (j - i)) := by
  refine ⟨by simp [h.1]; omega, fun k x hx => ?_⟩
  rw [List.getElem?_take] at hx
  split at hx
  · rw [List.getElem?_drop] at hx
    obtain ⟨b, o, rfl, hc⟩ := h.2 _ x hx
    refine ⟨b, o + i, by simp [Addr.add_none], ?_⟩
    rw [Nat.add_assoc]; exact hc
  · cases hx
theorem Vs.take {w : World} {A : Option Addr} {n : Nat} {l : List Value} (h : Vs w A n l) {m : Nat} (hm : m ≤ n) : Vs w A m (l.take m) :=
  ⟨by simp [h.1]; omega, fun i x hx => h.2 i x (by rw [List.getElem?_take] at hx; split at hx <;> simp_all)⟩
theorem Vs.bs {w : World} {A : Option Addr} {n : Nat} {l : List UInt8} (h : Vs w A n (l.map byteV)) : Bs w A n l :=
  ⟨by simpa using h.1, fun i x hx => h.2 i (byteV x) (by simp [hx])⟩

/-- An int. -/
def intV (z : Int) : Value := .int .i64 z
/-- The slice reads as the ints l. -/
def Zs (w : World) (A : Option Addr) (n : Nat) (l : List Int) : Prop := Vs w A n (l.map intV)
/-- The int at place k. -/
def zth (l : List Int) (k : Nat) : Int := l.getD k 0
theorem Zs.len {w : World} {A : Option Addr} {n : Nat} {l : List Int} (h : Zs w A n l) : l.length = n := by simpa using h.1
theorem Zs.at_ {w : World} {A : Option Addr} {n : Nat} {l : List Int} (h : Zs w A n l) {k : Nat} (hk : k < n) :
    ∃ b o, A = some ⟨b, o, none⟩ ∧ w.cell? ⟨b, o + k, none⟩ = some (.int .i64 (zth l k)) := by
  have hl : k < l.length := by have := h.len; omega
  have := h.2 k (intV l[k]) (by simp [List.getElem?_eq_getElem hl])
  simpa [zth, List.getD, List.getElem?_eq_getElem hl, intV] using this
theorem Zs.below {w w' : World} {A : Option Addr} {n : Nat} {l : List Int} (h : Zs w A n l) (hb : Below w.heap.size w w') : Zs w' A n l := Vs.below h hb
theorem Zs.qt {w w' : World} {A : Option Addr} {n : Nat} {l : List Int} (h : Zs w A n l) (hb : Qt w w') : Zs w' A n l := Vs.qt h hb
theorem Zs.drew {w : World} {A : Option Addr} {n : Nat} {l : List Int} (h : Zs w A n l) : Zs w.drew A n l := h
theorem Zs.drewN {w : World} {A : Option Addr} {n : Nat} {l : List Int} (h : Zs w A n l) (k : Nat) : Zs (w.drewN k) A n l := h
theorem Zs.nil (w : World) (A : Option Addr) : Zs w A 0 [] := Vs.nil w A
theorem Zs.take {w : World} {A : Option Addr} {n : Nat} {l : List Int} (h : Zs w A n l) {m : Nat} (hm : m ≤ n) : Zs w A m (l.take m) := by
  have := Vs.take h hm; unfold Zs; rw [List.map_take]; exact this
theorem Zs.cut {w : World} {A : Option Addr} {n : Nat} {l : List Int} (h : Zs w A n l) {i j : Nat} (hij : i ≤ j) (hj : j ≤ n) :
    Zs w (Option.map (fun x => x.add i) A) (j - i) ((l.drop i).take (j - i)) := by
  have := Vs.cut h hij hj; unfold Zs; rw [List.map_take, List.map_drop]; exact this
theorem Zs.cut0 {w : World} {A : Option Addr} {n : Nat} {l : List Int} (h : Zs w A n l) {i j : Nat} (hij : i ≤ j) (hj : j ≤ n) (hi : n ≤ i) :
    Zs w A (j - i) ((l.drop i).take (j - i)) := by
  have e : j - i = 0 := by omega
  rw [e, List.take_zero]; exact Zs.nil _ _
theorem Zs.newL (w : World) (l : List Int) (cs : Array Value) (e : TypeId) (f : Nat × Nat) (h : cs = (l.map intV).toArray) : Zs (w.alloc (.cells cs e f)) (some ⟨w.heap.size, 0, none⟩) l.length l := by
  subst h
  have := Vs.newF w (l.map intV) e f
  rw [List.length_map] at this
  exact this
theorem IsRow.zs {w : World} {a : Option Addr} {len cap : Nat} {zs : List Int} (h : IsRow .i64 w a len cap zs) : ∃ l, Zs w a len l ∧ len ≤ cap ∧ ∀ z ∈ l, -9223372036854775808 ≤ z ∧ z ≤ 9223372036854775807 := by
  rcases h with ⟨rfl, rfl, rfl, rfl⟩ | ⟨x, rfl, hl, hm, hz, hc, hw⟩
  · exact ⟨[], Zs.nil _ _, Nat.le_refl _, by simp⟩
  · refine ⟨zs.take len, ⟨by simp; omega, fun i y hy => ?_⟩, hl, fun z hz' => ?_⟩
    · rw [List.getElem?_map] at hy
      obtain ⟨z, hz', rfl⟩ := Option.map_eq_some_iff.1 hy
      rw [List.getElem?_take] at hz'
      split at hz'
      · have hil : i < zs.length := (List.getElem?_eq_some_iff.1 hz').1
        have hci := hc i hil
        have hg : zs.getD i 0 = z := by rw [List.getD_eq_getElem?_getD, hz']; rfl
        rw [hg] at hci
        obtain ⟨b, o, sp⟩ := x
        have hsp : sp = none := by
          have := World.cell?_spot hci
          unfold Addr.add at this
          split at this <;> simp_all
          have h0 := hc 0 (by omega)
          have := World.cell?_spot h0
          simpa [Addr.add] using this
        subst hsp
        rw [Addr.add_none] at hci
        exact ⟨b, o, rfl, hci⟩
      · cases hz'
    · exact bounds_i64 (hw z (List.mem_of_mem_take hz'))

/-- A row of values of the call's own. -/
def Ov (w : World) (base : Nat) (e : TypeId) (v : Value) (l : List Value) : Prop := w.ownsRow base e 1 v l.length l
theorem Ov.slice {w : World} {base : Nat} {e : TypeId} {v : Value} {l : List Value} (h : Ov w base e v l) : ∃ A c, v = .slice A l.length c ∧ l.length ≤ c ∧ Vs w A l.length l := by
  have hc := @World.ownsRow.cells _ _ _ _ _ _ _ h
  rcases h.2 with ⟨rfl, h0⟩ | ⟨g, cap, cur, rfl, _, _, hle, _, _, _⟩
  · have : l = [] := List.eq_nil_of_length_eq_zero h0
    subst this
    exact ⟨none, 0, rfl, Nat.le_refl _, Vs.nil _ _⟩
  · refine ⟨_, cap, rfl, hle, rfl, fun i x hx => ⟨g, 0, rfl, ?_⟩⟩
    have := hc (g := g) rfl i x hx
    rw [Addr.add_none] at this
    exact this
theorem Ov.vs {w : World} {base : Nat} {e : TypeId} {A : Option Addr} {n c : Nat} {l : List Value} (h : Ov w base e (.slice A n c) l) : Vs w A n l ∧ n ≤ c := by
  obtain ⟨A', c', he, hc, hb⟩ := h.slice
  cases he
  exact ⟨hb, hc⟩
theorem Ov.mono {w : World} {base base' : Nat} {e : TypeId} {v : Value} {l : List Value} (h : Ov w base e v l) (hb : base' ≤ base) : Ov w base' e v l := by
  refine ⟨h.1, ?_⟩
  rcases h.2 with h2 | ⟨g, cap, cur, hv, hg, r⟩
  · exact .inl h2
  · exact .inr ⟨g, cap, cur, hv, by omega, r⟩
theorem Ov.lt {w : World} {base : Nat} {e : TypeId} {v : Value} {l : List Value} (h : Ov w base e v l) : ∀ k, v.ownBlock = some k → base ≤ k ∧ k < w.heap.size := World.ownsRow.lt h
theorem Ov.grown {w w' : World} {base : Nat} {e : TypeId} {v : Value} {l : List Value} {row : Option Nat} (h : Ov w base e v l) (hg : w.grownBy w' row) (hne : v.ownBlock = none ∨ v.ownBlock ≠ row) : Ov w' base e v l := World.ownsRow.kept h hg hne
theorem Ov.below {w w' : World} {base : Nat} {e : TypeId} {v : Value} {l : List Value} (h : Ov w base e v l) (hb : Below w.heap.size w w') : Ov w' base e v l :=
  h.grown (row := none) ⟨hb.os, hb.tape, hb.output, hb.size, fun i hi _ => hb.block i hi⟩ (by cases hv : v.ownBlock <;> simp)
theorem Ov.nil (w : World) (base : Nat) (e : TypeId) : Ov w base e (.slice none 0 0) [] := World.ownsRow_nil w base e 1
theorem Ov.alloc {w : World} {base : Nat} {e : TypeId} {v : Value} {l : List Value} (h : Ov w base e v l) (o : Obj) : Ov (w.alloc o) base e v l := World.ownsRow.alloc h o
theorem Ov.drew {w : World} {base : Nat} {e : TypeId} {v : Value} {l : List Value} (h : Ov w base e v l) : Ov w.drew base e v l := h
theorem Ov.drewN {w : World} {base : Nat} {e : TypeId} {v : Value} {l : List Value} (h : Ov w base e v l) (n : Nat) : Ov (w.drewN n) base e v l := h
theorem Ov.grew {w w1 w2 : World} {B : Nat} {e : TypeId} {v : Value} {l : List Value} (h : Ov w1 B e v l) (hb : Below B w w1) (hB : B ≤ w.heap.size) (hg : w1.grownBy w2 v.ownBlock) : Below B w w2 :=
  hb.grown hg (Nat.le_trans hB hb.size) fun k hk => (h.lt k hk).1
theorem Ov.lit (w : World) (base : Nat) (e : TypeId) (l : List Value) (cs : Array Value) (hb : base ≤ w.heap.size) (hcs : cs = l.toArray) (hn : l.length ≤ 1000) : Ov (w.alloc (.cells cs e)) base e (.slice (some ⟨w.heap.size, 0, none⟩) l.length l.length) l := by
  subst hcs
  refine ⟨by simp, .inr ⟨w.heap.size, l.length, l.toArray, rfl, hb, heap_alloc_new w _, Nat.le_refl _, by unfold maxLen; omega, by simp, by simp⟩⟩

/-- append(own, src..), values of one cell. -/
theorem run_appendV {P : Program} {w : World} (base : Nat) (t ty e : TypeId) (i : TypeInfo) (z : Value) (ht : P.underlying t = some (.slice e)) (hi : P.info? e = some i) (hz : i.zero = some z)
    (hsize : i.size = 1) (hby : i.bytes ≤ 16) (hzs : z.cells.size = 1) {v : Value} {l : List Value} (hown : Ov w base e v l)
    {A : Option Addr} {m c : Nat} {r : List Value} (hr : Vs w A m r) (h1 : ∀ u ∈ r, u.oneCell' = true) (hb : l.length + m ≤ 1099511627776) (hbase : base ≤ w.heap.size) :
    ∃ v' w', (Builtin.append_ #[t, t] ty #[v, .slice A m c]).run P w = .ok v' w' ∧ Ov w' base e v' (l ++ r) ∧ w.grownBy w' v.ownBlock ∧
      (v' = .slice none 0 0 ↔ v = .slice none 0 0 ∧ m = 0) ∧ (v'.ownBlock = v.ownBlock ∨ v'.ownBlock = some w.heap.size) := by
  obtain ⟨rfl, hr⟩ := hr
  have hml : l.length + r.length ≤ maxLen := by unfold maxLen; omega
  rcases A with _ | ad
  · have hn : r = [] := by
      rcases r with _ | ⟨x, r⟩
      · rfl
      · obtain ⟨_, _, e, _⟩ := hr 0 x rfl; cases e
    subst hn
    refine ⟨v, w, ?_, by simpa using hown, World.grownBy.refl w _, by simp, .inl rfl⟩
    rcases hown.2 with ⟨rfl, h0⟩ | ⟨g, cap, cur, rfl, _, _, hnc, _⟩
    · simp [Builtin.append_, run_underlying ht, sizeOf, typeInfo, hi, Builtin.lenOf, Builtin.firstCells]
    · simp [Builtin.append_, run_underlying ht, sizeOf, typeInfo, hi, Builtin.lenOf, Builtin.firstCells, hnc, storeCells]
  · have hcells : ∀ j u, r[j]? = some u → w.cell? (ad.add j) = some u := by
      intro j u hu
      obtain ⟨b, o, e', hc⟩ := hr j u hu
      cases e'
      rw [Addr.add_none]; exact hc
    have hmul : (l.length + r.length) * i.bytes ≤ (l.length + r.length) * 16 := Nat.mul_le_mul_left _ hby
    obtain ⟨v', w', hrun, h2, h3, h4, h5⟩ := run_append_own_at (P := P) w base t ty e i z 1 i.bytes ht hi hz hsize rfl hzs (by omega) v l.length l hown ad r.length c r (by simp) hcells
      h1 hml (by omega) hbase
    exact ⟨v', w', hrun, by simpa [Ov] using h2, h3, h4, h5⟩

theorem wp_appendV {P : Program} {w : World} {o : Oper} {a : Act} {K : Act → World → Prop} {Q : Exit → Act → World → Prop} (s x : Operand) (t : TypeId)
    (ho : o.op = .call { callee := .builtin .append, args := #[s, x], argTypes := #[t, t] })
    (base : Nat) (e : TypeId) (i : TypeInfo) (z : Value) (ht : P.underlying t = some (.slice e)) (hi : P.info? e = some i) (hz : i.zero = some z)
    (hsize : i.size = 1) (hby : i.bytes ≤ 16) (hzs : z.cells.size = 1) (v : Value) (l : List Value) (hs : a.eval s = v) (hown : Ov w base e v l)
    (A : Option Addr) (m c : Nat) (r : List Value) (hx : a.eval x = .slice A m c) (hr : Vs w A m r) (h1 : ∀ u ∈ r, u.oneCell' = true) (hb : l.length + m ≤ 1099511627776) (hbase : base ≤ w.heap.size)
    (h : ∀ v' w', Ov w' base e v' (l ++ r) → w.grownBy w' v.ownBlock → (v' = .slice none 0 0 ↔ v = .slice none 0 0 ∧ m = 0) → (v'.ownBlock = v.ownBlock ∨ v'.ownBlock = some w.heap.size) → K (a.put o.dst v') w') : o.wp P a w K Q := by
  obtain ⟨v', w', hrun, h2, h3, h4, h5⟩ := run_appendV (P := P) base t o.type e i z ht hi hz hsize hby hzs hown (c := c) hr h1 hb hbase
  unfold Oper.wp execOp
  simp only [ho, resolve, invoke, builtin, Sem.run_bind, Sem.run_pure, Result.andThen_ok, List.map_toArray, List.map_cons, List.map_nil, hs, hx, hrun]
  exact h v' w' h2 h3 h4 h5

theorem wpList_appendV {P : Program} {w : World} {ops : Array Oper} {rest : List Oper} {o : Oper} {a : Act} {Q : Exit → Act → World → Prop} (hgd : o.guard = none) (s x : Operand) (t : TypeId)
    (ho : o.op = .call { callee := .builtin .append, args := #[s, x], argTypes := #[t, t] })
    (base : Nat) (e : TypeId) (i : TypeInfo) (z : Value) (ht : P.underlying t = some (.slice e)) (hi : P.info? e = some i) (hz : i.zero = some z)
    (hsize : i.size = 1) (hby : i.bytes ≤ 16) (hzs : z.cells.size = 1) (v : Value) (l : List Value) (hs : a.eval s = v) (hown : Ov w base e v l)
    (A : Option Addr) (m c : Nat) (r : List Value) (hx : a.eval x = .slice A m c) (hr : Vs w A m r) (h1 : ∀ u ∈ r, u.oneCell' = true) (hb : l.length + m ≤ 1099511627776) (hbase : base ≤ w.heap.size)
    (h : ∀ v' w', Ov w' base e v' (l ++ r) → w.grownBy w' v.ownBlock → (v' = .slice none 0 0 ↔ v = .slice none 0 0 ∧ m = 0) → (v'.ownBlock = v.ownBlock ∨ v'.ownBlock = some w.heap.size) → wpList P ops Q rest (a.put o.dst v') w') : wpList P ops Q (o :: rest) a w :=
  wpList_plain hgd fun _ hK => wp_appendV s x t ho base e i z ht hi hz hsize hby hzs v l hs hown A m c r hx hr h1 hb hbase fun v' w' h2 h3 h4 h5 => hK _ _ (h v' w' h2 h3 h4 h5)

theorem step_appendV {P : Program} {w : World} {ops : Array Oper} {o : Oper} {a : Act} {K : Act → World → Prop} {Q : Exit → Act → World → Prop} {E : Prop} (hgd : o.guard = none) (s x : Operand) (t : TypeId)
    (ho : o.op = .call { callee := .builtin .append, args := #[s, x], argTypes := #[t, t] })
    (base : Nat) (e : TypeId) (i : TypeInfo) (z : Value) (ht : P.underlying t = some (.slice e)) (hi : P.info? e = some i) (hz : i.zero = some z)
    (hsize : i.size = 1) (hby : i.bytes ≤ 16) (hzs : z.cells.size = 1) (v : Value) (l : List Value) (hs : a.eval s = v) (hown : Ov w base e v l)
    (A : Option Addr) (m c : Nat) (r : List Value) (hx : a.eval x = .slice A m c) (hr : Vs w A m r) (h1 : ∀ u ∈ r, u.oneCell' = true) (hb : l.length + m ≤ 1099511627776) (hbase : base ≤ w.heap.size)
    (h : ∀ v' w', Ov w' base e v' (l ++ r) → w.grownBy w' v.ownBlock → (v' = .slice none 0 0 ↔ v = .slice none 0 0 ∧ m = 0) → (v'.ownBlock = v.ownBlock ∨ v'.ownBlock = some w.heap.size) → K (a.put o.dst v') w') :
    if Region.wanted o (yielded ops a.tmps) = true then Oper.wp P o a w K Q else E := by
  have hw : Region.wanted o (yielded ops a.tmps) = true := by simp [Region.wanted, hgd]
  rw [if_pos hw]
  exact wp_appendV s x t ho base e i z ht hi hz hsize hby hzs v l hs hown A m c r hx hr h1 hb hbase h

end Go.Proofs.Ytlmmoinmlcpmnaa
