/-
  Frames within frames: plain facts; a list of tags as an argument; append onto a row of the call's own.
-/
import Derived.Test.YtbhfaakhcnkegaaHdAlone
import Derived.Test.YtbhfaakhcnkegaaWo
import Derived.Test.YtbhfaakhcnkegaaWk
import Derived.Test.YtbhfaakhcnkegaaOpen
namespace Go.Proofs.Ytbhfaakhcnkegaa
open Go.RowKit Go.ChangeShapes Go.WideShapes Go.Joins
set_option linter.unusedVariables false
set_option linter.unusedSimpArgs false
set_option maxRecDepth 4000

instance : Inhabited Tg := ⟨tg0⟩
/-- Wholes within wholes. -/
def nestB : List Tg → List UInt8 → List UInt8
  | [], b => b
  | t :: ts, b => wrapB t (nestB ts b)
def fT (t : Tg) : Fr := ⟨t, false, []⟩
def fullF (ts : List Tg) : List Fr := fr0 :: ts.map fT
theorem fullF_snoc (ts : List Tg) (t : Tg) : fullF (ts ++ [t]) = fullF ts ++ [fT t] := by simp [fullF]
theorem nestB_le : ∀ (ts : List Tg) (b : List UInt8), (nestB ts b).length ≤ b.length + 9 * ts.length
  | [], b => by simp [nestB]
  | t :: ts, b => by
    have h1 := nestB_le ts b
    have h2 : (wrapB t (nestB ts b)).length ≤ (nestB ts b).length + 9 := by
      unfold wrapB
      have h1 := tagB_len t
      have h2 := lenB_len (nestB ts b).length
      simp; omega
    simp only [nestB, List.length_cons]; omega
theorem rAlone_wrapB (t : Tg) (l : List UInt8) (h : t.right) (hl : l.length ≤ 16777216) : rAlone (wrapB t l) t = (l, 0) := by
  have h1 := rOpen_wrapB [] [] l t h hl
  simp at h1
  unfold rAlone
  rw [h1]; simp
/-- The tags that are right, of the first k. -/
def goodT (ts : List Tg) (k : Nat) : List Tg := (ts.take k).filter (fun t => t.rightB)
theorem goodT_succ {ts : List Tg} {k : Nat} {t : Tg} (h : ts[k]? = some t) : goodT ts (k + 1) = goodT ts k ++ (if t.rightB then [t] else []) := by
  unfold goodT
  rw [List.take_add_one, h, List.filter_append]
  cases hr : t.rightB <;> simp [hr]
theorem goodT_len (ts : List Tg) (k : Nat) : (goodT ts k).length ≤ k := by
  unfold goodT
  exact Nat.le_trans (List.length_filter_le _ _) (by simp; omega)
theorem goodT_right (ts : List Tg) (k : Nat) : ∀ t ∈ goodT ts k, t.rightB = true := by
  intro t ht
  unfold goodT at ht
  exact (List.mem_filter.1 ht).2
/-- A tag's cells. -/
def tC (t : Tg) : List Value := [.int .i64 t.cls, .int .i64 t.num, .bool t.made]
def tCs (ts : List Tg) : List Value := ts.flatMap tC
theorem tCs_snoc (ts : List Tg) (t : Tg) : tCs (ts ++ [t]) = tCs ts ++ tC t := by simp [tCs]
theorem tCs_at : ∀ (ts : List Tg) (i : Nat) (t : Tg), ts[i]? = some t → (tCs ts)[i * 3]? = some (.int .i64 t.cls) ∧ (tCs ts)[i * 3 + 1]? = some (.int .i64 t.num) ∧ (tCs ts)[i * 3 + 2]? = some (.bool t.made)
  | t :: ts, 0, u, h => by simp at h; subst h; simp [tCs, tC]
  | t :: ts, i + 1, u, h => by
    have := tCs_at ts i u (by simpa using h)
    have e : tCs (t :: ts) = tC t ++ tCs ts := by simp [tCs]
    rw [e]
    have l3 : (tC t).length = 3 := rfl
    refine ⟨?_, ?_, ?_⟩
    · rw [List.getElem?_append_right (by omega), l3, show (i + 1) * 3 - 3 = i * 3 by omega]; exact this.1
    · rw [List.getElem?_append_right (by omega), l3, show (i + 1) * 3 + 1 - 3 = i * 3 + 1 by omega]; exact this.2.1
    · rw [List.getElem?_append_right (by omega), l3, show (i + 1) * 3 + 2 - 3 = i * 3 + 2 by omega]; exact this.2.2
/-- The slice at A, of length n, reads as tags. -/
def Tgs (w : World) (A : Option Addr) (n : Nat) (ts : List Tg) : Prop :=
  ts.length = n ∧ ∀ i t, ts[i]? = some t → ∃ b o, A = some ⟨b, o, none⟩ ∧ w.cell? ⟨b, o + i * 3, none⟩ = some (.int .i64 t.cls) ∧ w.cell? ⟨b, o + i * 3 + 1, none⟩ = some (.int .i64 t.num) ∧ w.cell? ⟨b, o + i * 3 + 2, none⟩ = some (.bool t.made)
theorem Tgs.below {w w' : World} {A : Option Addr} {n : Nat} {ts : List Tg} (h : Tgs w A n ts) (hb : Below w.heap.size w w') : Tgs w' A n ts :=
  ⟨h.1, fun i t hi => let ⟨b, o, e, h0, h1, h2⟩ := h.2 i t hi; ⟨b, o, e, (hb.cell (World.block_lt_of_cell? w _ h0)).trans h0, (hb.cell (World.block_lt_of_cell? w _ h1)).trans h1, (hb.cell (World.block_lt_of_cell? w _ h2)).trans h2⟩⟩
theorem tgs_own {w : World} {base k : Nat} {e : TypeId} {v : Value} {ts : List Tg} (h : w.ownsRow base e 3 v k (tCs ts)) (hl : ts.length = k) : ∃ A c, v = .slice A k c ∧ k ≤ c ∧ Tgs w A k ts := by
  have hcells := @World.ownsRow.cells _ _ _ _ _ _ _ h
  rcases h.2 with ⟨rfl, h0⟩ | ⟨g, cap, cur, rfl, _, _, hle, _, _, _⟩
  · subst h0
    obtain rfl := List.eq_nil_of_length_eq_zero hl
    exact ⟨none, 0, rfl, by omega, rfl, fun i t h => by simp at h⟩
  · refine ⟨_, cap, rfl, hle, hl, fun i t hi => ⟨g, 0, rfl, ?_⟩⟩
    obtain ⟨h0, h1, h2⟩ := tCs_at ts i t hi
    have k0 := hcells (g := g) rfl _ _ h0
    have k1 := hcells (g := g) rfl _ _ h1
    have k2 := hcells (g := g) rfl _ _ h2
    rw [Addr.add_none] at k0 k1 k2
    rw [Nat.zero_add] at k0 k1 k2 ⊢
    exact ⟨k0, k1, k2⟩

section
variable {H : Type} {enc : TypeId × Value → H} {P : Program} {w : World} {held : Bool}
theorem trod_tags {t e : TypeId} {f0 f1 f2 : Field} {fuel : Nat} {cs : List Value} {x : DataW H × List MemPlace} (ht : P.underlying t = some (.slice e)) (he : P.underlying e = some (.struct #[f0, f1, f2])) (o0 : f0.offset = 0) (o1 : f1.offset = 1) (o2 : f2.offset = 2)
    (u0 : P.underlying f0.type = some (.int .i64)) (u1 : P.underlying f1.type = some (.int .i64)) (u2 : P.underlying f2.type = some .bool) (hc : P.cellsOf e = 3) (c0 : P.cellsOf f0.type = 1) (c1 : P.cellsOf f1.type = 1) (c2 : P.cellsOf f2.type = 1)
    (h : DataW.trod enc P w 0 (fun _ => true) held fuel t cs = some x) : ∃ A n c ts, cs = [.slice A n c] ∧ Tgs w A n ts := by
  rcases Deep.open_slice ht h with ⟨hcs, _⟩ | ⟨a, len, cap, m, n, D, Pl, hcs, _, hl, hm, hmm, _, hel⟩
  · exact ⟨none, 0, 0, [], hcs, rfl, fun i t hi => by simp at hi⟩
  · simp only [if_true] at hmm
    rw [hc] at hel
    have key : ∀ i, i < len → ∃ t : Tg, w.cell? (a.add (i * 3)) = some (.int .i64 t.cls) ∧ w.cell? ((a.add (i * 3)).add 1) = some (.int .i64 t.num) ∧ w.cell? ((a.add (i * 3)).add 2) = some (.bool t.made) := by
      intro j hj
      obtain ⟨cs', hcs', htr⟩ := hel j (by omega)
      obtain ⟨_, hlen, hcells⟩ := World.cells?_some hcs'
      obtain ⟨y0, y1, y2, n', _, _, t0, t1, t2⟩ := Deep.trod_struct3 he htr
      rw [o0, c0] at t0
      rw [o1, c1] at t1
      rw [o2, c2] at t2
      match cs', hlen with
      | [p, q, r], _ =>
        obtain ⟨x, e0, _, _⟩ := DataW.trod_int u0 t0
        obtain ⟨y, e1, _, _⟩ := DataW.trod_int u1 t1
        obtain ⟨z, e2, _⟩ := DataW.trod_bool u2 t2
        simp at e0 e1 e2
        subst e0 e1 e2
        have h0 := hcells 0 (by omega)
        have h1 := hcells 1 (by omega)
        have h2 := hcells 2 (by omega)
        simp at h0 h1 h2
        refine ⟨⟨x, y, z⟩, ?_, h1, h2⟩
        have : (a.add (j * 3)).add 0 = a.add (j * 3) := by simp [Addr.add]
        rw [this] at h0
        exact h0
    obtain ⟨f, hf⟩ := Deep.choose_lt key
    obtain ⟨b, o, sp⟩ := a
    refine ⟨some ⟨b, o, sp⟩, len, cap, (List.range len).map f, hcs, by simp, fun i t hi => ?_⟩
    rw [List.getElem?_map] at hi
    obtain ⟨j, hj, rfl⟩ := Option.map_eq_some_iff.1 hi
    obtain ⟨h2, h3⟩ := List.getElem?_eq_some_iff.1 hj
    simp at h2 h3
    subst h3
    obtain ⟨k0, k1, k2⟩ := hf i h2
    have hc0 : w.cell? ((⟨b, o, sp⟩ : Addr).add 0) = some (.int .i64 (f 0).cls) := (hf 0 (by omega)).1
    have hsp : sp = none := by
      refine spot_none (w := w) (v := .nilFunc) (x := ⟨b, o, sp⟩) (n := 1) (by omega) (fun j hj => ?_)
      obtain rfl : j = 0 := by omega
      exact ⟨_, hc0⟩
    subst hsp
    rw [Addr.add_none] at k0 k1 k2
    rw [Addr.add_none] at k1 k2
    exact ⟨b, o, rfl, k0, k1, k2⟩
end
theorem wpList_appendF {P : Program} {w : World} {ops : Array Oper} {rest : List Oper} {o : Oper} {a : Act} {Q : Exit → Act → World → Prop} (hgd : o.guard = none) (s x : Operand) (t : TypeId)
    (ho : o.op = .call { callee := .builtin .append, args := #[s, x], argTypes := #[t, t] })
    (base : Nat) (e : TypeId) (i : TypeInfo) (z : Value) (size bytes : Nat) (ht : P.underlying t = some (.slice e)) (hi : P.info? e = some i) (hz : i.zero = some z)
    (hsize : i.size = size) (hby : i.bytes = bytes) (hzs : z.cells.size = size) (hsz : 0 < size) (v : Value) (n : Nat) (xs : List Value) (hs : a.eval s = v) (hown : w.ownsRow base e size v n xs)
    (ad : Addr) (m c : Nat) (news : List Value) (hx : a.eval x = .slice (some ad) m c) (hl : news.length = m * size) (hnews : ∀ j u, news[j]? = some u → w.cell? (ad.add j) = some u) (h1 : ∀ u ∈ news, u.oneCell' = true)
    (h63 : n + m ≤ maxLen) (hbytes : (n + m) * bytes ≤ 140737488355328) (hbase : base ≤ w.heap.size)
    (h : ∀ v' w', w'.ownsRow base e size v' (n + m) (xs ++ news) → w.grownBy w' v.ownBlock → (v'.ownBlock = v.ownBlock ∨ v'.ownBlock = some w.heap.size) → wpList P ops Q rest (a.put o.dst v') w') : wpList P ops Q (o :: rest) a w :=
  wpList_plain hgd fun K hK => by
    have hw : Region.wanted o (yielded ops a.tmps) = true := by simp [Region.wanted, hgd]
    have := step_appendF (E := False) (Q := Q) (K := K) (ops := ops) hgd s x t ho base e i z size bytes ht hi hz hsize hby hzs hsz v n xs hs hown ad m c news hx hl hnews h1 h63 hbytes hbase fun v' w' h2 h3 h4 => hK _ _ (h v' w' h2 h3 h4)
    rw [if_pos hw] at this
    exact this
set_option maxHeartbeats 800000 in
theorem lw2To (t : Tg) (w : World) :
    Calls Try.prog 13 #[t.v] w fun e w' => e = .returned t.v ∧ Below w.heap.size w w' := by
  obtain ⟨tc, tn, tm⟩ := t
  unfold Tg.v
  go_enter Try.func13, Try.ntmps13
  go_wp2
  refine bodyPost_ret (v := .agg #[.int .i64 tc, .int .i64 tn, .bool tm]) (by simp [results, Try.results13, go_sem]) rfl ?_
  exact ⟨rfl, below_alloc2 _ _ _⟩
end Go.Proofs.Ytbhfaakhcnkegaa
