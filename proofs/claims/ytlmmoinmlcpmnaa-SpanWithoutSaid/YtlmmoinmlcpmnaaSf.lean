/-
  The project's span: rows of spans of the call's own; Clone, DeleteFunc of the library at spans.
-/
import Derived.Test.YtlmmoinmlcpmnaaSe
import Derived.Test.YtlmmoinmlcpmnaaShelf
import Derived.Laws.CopyRow
import Derived.Shelf.SlicesE.DeleteFunc
namespace Go.Proofs.Ytlmmoinmlcpmnaa
open Go.RowKit
set_option linter.unusedVariables false
set_option linter.unusedSimpArgs false
set_option maxRecDepth 4000

theorem sp_info : (Try.prog.info? 31).map (fun i => (i.zero, i.size, i.bytes)) = some (some (.agg #[.int .i64 0, .int .i64 0]), 2, 16) := by kernel_rfl
theorem info_parts {P : Program} {e : TypeId} {z : Value} {a b : Nat} (h : (P.info? e).map (fun i => (i.zero, i.size, i.bytes)) = some (some z, a, b)) : ∃ i, P.info? e = some i ∧ i.zero = some z ∧ i.size = a ∧ i.bytes = b := by
  cases hi : P.info? e with
  | none => rw [hi] at h; simp at h
  | some i => rw [hi] at h; simp at h; exact ⟨i, rfl, h.1, h.2.1, h.2.2⟩
/-- A row of spans of the call's own. -/
def Ow (w : World) (B : Nat) (v : Value) (l : List Sp) : Prop := w.ownsRow B 31 2 v l.length (spCs l)
theorem Ow.nil (w : World) (B : Nat) : Ow w B (.slice none 0 0) [] := World.ownsRow_nil _ _ _ _
theorem Ow.grown {w w' : World} {B : Nat} {v : Value} {l : List Sp} {row : Option Nat} (h : Ow w B v l) (hg : w.grownBy w' row) (hne : v.ownBlock = none ∨ v.ownBlock ≠ row) : Ow w' B v l := World.ownsRow.kept h hg hne
theorem Ow.below {w w' : World} {B : Nat} {v : Value} {l : List Sp} (h : Ow w B v l) (hb : Below w.heap.size w w') : Ow w' B v l :=
  h.grown (row := none) ⟨hb.os, hb.tape, hb.output, hb.size, fun i hi _ => hb.block i hi⟩ (by cases hv : v.ownBlock <;> simp)
theorem Ow.alloc {w : World} {B : Nat} {v : Value} {l : List Sp} (h : Ow w B v l) (o : Obj) : Ow (w.alloc o) B v l := World.ownsRow.alloc h o
theorem Ow.mono {w : World} {B B' : Nat} {v : Value} {l : List Sp} (h : Ow w B v l) (hb : B' ≤ B) : Ow w B' v l := by
  refine ⟨h.1, ?_⟩
  rcases h.2 with h2 | ⟨g, cap, cur, hv, hg, r⟩
  · exact .inl h2
  · exact .inr ⟨g, cap, cur, hv, by omega, r⟩
theorem Ow.grew {w w1 w2 : World} {B : Nat} {v : Value} {l : List Sp} (h : Ow w1 B v l) (hb : Below B w w1) (hB : B ≤ w.heap.size) (hg : w1.grownBy w2 v.ownBlock) : Below B w w2 :=
  hb.grown hg (Nat.le_trans hB hb.size) fun k hk => (World.ownsRow.lt h k hk).1
theorem Ow.form {w : World} {B : Nat} {v : Value} {l : List Sp} (h : Ow w B v l) : (v = .slice none 0 0 ∧ l = []) ∨ ∃ g c, v = .slice (some ⟨g, 0, none⟩) l.length c ∧ l.length ≤ c ∧ B ≤ g ∧ g < w.heap.size := by
  rcases h.2 with ⟨rfl, h0⟩ | ⟨g, cap, cur, rfl, hB, hh, hle, _⟩
  · exact .inl ⟨rfl, List.eq_nil_of_length_eq_zero h0⟩
  · exact .inr ⟨g, cap, rfl, hle, hB, (Array.getElem?_eq_some_iff.1 hh).1⟩
theorem Ow.cells {w : World} {B g n c : Nat} {l : List Sp} (h : Ow w B (.slice (some ⟨g, 0, none⟩) n c) l) (i : Nat) (x y : Int) (hx : l[i]? = some (x, y)) :
    (w.cell? ⟨g, i * 2, none⟩ = some (.int .i64 x) ∧ w.cell? ⟨g, i * 2 + 1, none⟩ = some (.int .i64 y)) ∧ w.frozen? ⟨g, i * 2, none⟩ = false ∧ w.frozen? ⟨g, i * 2 + 1, none⟩ = false := by
  have hn : n = l.length := by
    rcases h.2 with ⟨e, _⟩ | ⟨_, _, _, e, _⟩
    · cases e
    · cases e; rfl
  subst hn
  have hi : i < l.length := by
    rcases Nat.lt_or_ge i l.length with q | q
    · exact q
    · rw [List.getElem?_eq_none q] at hx; cases hx
  obtain ⟨h0, h1⟩ := spCs_at l i (x, y) hx
  have k0 := World.ownsRow.cellAt h (i * 2) (by omega)
  have k1 := World.ownsRow.cellAt h (i * 2 + 1) (by omega)
  rw [h0] at k0
  rw [h1] at k1
  exact ⟨⟨k0, k1⟩, World.ownsRow.frozenAt h _, World.ownsRow.frozenAt h _⟩
theorem Ow.sps {w : World} {B : Nat} {v : Value} {l : List Sp} (h : Ow w B v l) : ∃ A c, v = .slice A l.length c ∧ l.length ≤ c ∧ Sps w A l.length l := by
  rcases h.form with ⟨rfl, rfl⟩ | ⟨g, c, rfl, hle, _⟩
  · exact ⟨none, 0, rfl, Nat.le_refl _, Sps.nil _ _⟩
  · refine ⟨_, c, rfl, hle, rfl, fun i x hx => ⟨g, 0, rfl, ?_⟩⟩
    obtain ⟨⟨k0, k1⟩, _⟩ := h.cells i x.1 x.2 hx
    rw [Nat.zero_add]
    exact ⟨k0, k1⟩
theorem spCs_set : ∀ (l : List Sp) (i : Nat) (x : Sp), spCs (l.set i x) = ((spCs l).set (i * 2) (.int .i64 x.1)).set (i * 2 + 1) (.int .i64 x.2)
  | [], i, x => by simp [spCs]
  | y :: l, 0, x => by simp [spCs, spC]
  | y :: l, i + 1, x => by
    have e : ∀ (z : Sp) (r : List Sp), spCs (z :: r) = .int .i64 z.1 :: .int .i64 z.2 :: spCs r := fun z r => by simp [spCs, spC]
    rw [List.set_cons_succ, e, e, spCs_set l i x, show (i + 1) * 2 = i * 2 + 1 + 1 by omega]
    rfl
/-- Place i is written. -/
theorem Ow.put {w : World} {B g n c : Nat} {l : List Sp} (h : Ow w B (.slice (some ⟨g, 0, none⟩) n c) l) (i : Nat) (x y : Int) :
    Ow ((w.setCell ⟨g, i * 2, none⟩ (.int .i64 x)).setCell ⟨g, i * 2 + 1, none⟩ (.int .i64 y)) B (.slice (some ⟨g, 0, none⟩) n c) (l.set i (x, y)) ∧ w.grownBy ((w.setCell ⟨g, i * 2, none⟩ (.int .i64 x)).setCell ⟨g, i * 2 + 1, none⟩ (.int .i64 y)) (some g) := by
  have hn : n = l.length := by
    rcases h.2 with ⟨e, _⟩ | ⟨_, _, _, e, _⟩
    · cases e
    · cases e; rfl
  subst hn
  obtain ⟨h1, g1⟩ := World.ownsRow.stored h (i * 2) (.int .i64 x)
  obtain ⟨h2, g2⟩ := World.ownsRow.stored h1 (i * 2 + 1) (.int .i64 y)
  refine ⟨?_, ⟨g2.os.trans g1.os, g2.tape.trans g1.tape, g2.output.trans g1.output, Nat.le_trans g1.size g2.size, fun k hk hne => (g2.block k (Nat.lt_of_lt_of_le hk g1.size) hne).trans (g1.block k hk hne)⟩⟩
  unfold Ow
  rw [spCs_set, List.length_set]
  exact h2
theorem spC_one (l : List Sp) : ∀ u ∈ spCs l, u.oneCell' = true := by
  intro u hu
  simp only [spCs, List.mem_flatMap] at hu
  obtain ⟨t, _, ht⟩ := hu
  simp [spC] at ht
  rcases ht with rfl | rfl <;> rfl

theorem step_appendF {P : Program} {w : World} {ops : Array Oper} {o : Oper} {a : Act} {K : Act → World → Prop} {Q : Exit → Act → World → Prop} {E : Prop} (hgd : o.guard = none) (s x : Operand) (t : TypeId)
    (ho : o.op = .call { callee := .builtin .append, args := #[s, x], argTypes := #[t, t] })
    (base : Nat) (e : TypeId) (i : TypeInfo) (z : Value) (size bytes : Nat) (ht : P.underlying t = some (.slice e)) (hi : P.info? e = some i) (hz : i.zero = some z)
    (hsize : i.size = size) (hby : i.bytes = bytes) (hzs : z.cells.size = size) (hsz : 0 < size) (v : Value) (n : Nat) (xs : List Value) (hs : a.eval s = v) (hown : w.ownsRow base e size v n xs)
    (ad : Addr) (m c : Nat) (news : List Value) (hx : a.eval x = .slice (some ad) m c) (hl : news.length = m * size) (hnews : ∀ j u, news[j]? = some u → w.cell? (ad.add j) = some u) (h1 : ∀ u ∈ news, u.oneCell' = true)
    (h63 : n + m ≤ maxLen) (hbytes : (n + m) * bytes ≤ 140737488355328) (hbase : base ≤ w.heap.size)
    (h : ∀ v' w', w'.ownsRow base e size v' (n + m) (xs ++ news) → w.grownBy w' v.ownBlock → (v'.ownBlock = v.ownBlock ∨ v'.ownBlock = some w.heap.size) → K (a.put o.dst v') w') :
    if Region.wanted o (yielded ops a.tmps) = true then Oper.wp P o a w K Q else E := by
  have hw : Region.wanted o (yielded ops a.tmps) = true := by simp [Region.wanted, hgd]
  rw [if_pos hw]
  obtain ⟨v', w', hrun, h2, h3, _, h5⟩ := run_append_own_at (P := P) w base t o.type e i z size bytes ht hi hz hsize hby hzs hsz v n xs hown ad m c news hl hnews h1 h63 hbytes hbase
  unfold Oper.wp execOp
  simp only [ho, resolve, invoke, builtin, Sem.run_bind, Sem.run_pure, Result.andThen_ok, List.map_toArray, List.map_cons, List.map_nil, hs, hx, hrun]
  exact h v' w' h2 h3 h5

theorem wpList_appendF {P : Program} {w : World} {ops : Array Oper} {rest : List Oper} {o : Oper} {a : Act} {Q : Exit → Act → World → Prop} (hgd : o.guard = none) (s x : Operand) (t : TypeId)
    (ho : o.op = .call { callee := .builtin .append, args := #[s, x], argTypes := #[t, t] })
    (base : Nat) (e : TypeId) (i : TypeInfo) (z : Value) (size bytes : Nat) (ht : P.underlying t = some (.slice e)) (hi : P.info? e = some i) (hz : i.zero = some z)
    (hsize : i.size = size) (hby : i.bytes = bytes) (hzs : z.cells.size = size) (hsz : 0 < size) (v : Value) (n : Nat) (xs : List Value) (hs : a.eval s = v) (hown : w.ownsRow base e size v n xs)
    (ad : Addr) (m c : Nat) (news : List Value) (hx : a.eval x = .slice (some ad) m c) (hl : news.length = m * size) (hnews : ∀ j u, news[j]? = some u → w.cell? (ad.add j) = some u) (h1 : ∀ u ∈ news, u.oneCell' = true)
    (h63 : n + m ≤ maxLen) (hbytes : (n + m) * bytes ≤ 140737488355328) (hbase : base ≤ w.heap.size)
    (h : ∀ v' w', w'.ownsRow base e size v' (n + m) (xs ++ news) → w.grownBy w' v.ownBlock → (v'.ownBlock = v.ownBlock ∨ v'.ownBlock = some w.heap.size) → wpList P ops Q rest (a.put o.dst v') w') : wpList P ops Q (o :: rest) a w :=
  wpList_plain hgd fun K hK => by
    have hw : Region.wanted o (yielded ops a.tmps) = true := by simp [Region.wanted, hgd]
    have := step_appendF (E := False) (Q := Q) (K := K) (ops := ops) hgd s x t ho base e i z size bytes ht hi hz hsize hby hzs hsz v n xs hs hown ad m c news hx hl hnews h1 h63 hbytes hbase fun v' w' h2 h3 h4 => hK _ _ (h v' w' h2 h3 h4)
    rw [if_pos hw] at this
    exact this

set_option maxHeartbeats 800000 in
theorem spClone (A : Option Addr) (n c : Nat) (l : List Sp) (w : World) (h : Sps w A n l) (hn : n ≤ 1099511627776) :
    Calls Try.prog 49 #[.slice A n c] w fun e w' => ∃ v, e = .returned v ∧ Ow w' w.heap.size v l ∧ Below w.heap.size w w' := by
  have q : ∀ (w : World) (a : Option Addr) (n c : Nat), (binOp .eql 45 (.slice a n c) (.slice none 0 0)).run Try.prog w = .ok (.bool a.isNone) w := fun w a n c => Lib.run_eql_slice_nil w _ _ a n c 0 0 Try.underlying45
  obtain ⟨i1, hi1, hz0, hz1, hz2⟩ := info_parts sp_info
  have hlen := h.len
  rcases A with _ | a
  · have : l = [] := by
      rcases l with _ | ⟨x, l⟩
      · rfl
      · obtain ⟨_, _, e, _⟩ := h.2 0 x rfl; cases e
    subst this
    go_enter Try.func49, Try.ntmps49
    go_wp2
    go_ret
    exact ⟨_, rfl, Ow.nil _ _, Below.refl _ _⟩
  · have hown : (w.alloc (.cells #[] 31)).ownsRow w.heap.size 31 2 (.slice (some ⟨w.heap.size, 0, none⟩) 0 0) 0 [] := World.ownsRow_made w #[] 0 (Nat.le_refl _) (Nat.zero_le _) rfl
    have HN : Hid (∀ j u, (spCs l)[j]? = some u → (w.alloc (.cells #[] 31)).cell? (a.add j) = some u) := by
      intro j u hu
      have hj : j < l.length * 2 := by
        rcases Nat.lt_or_ge j (spCs l).length with q | q
        · rwa [spCs_len] at q
        · rw [List.getElem?_eq_none q] at hu; cases hu
      have hi : j / 2 < l.length := by omega
      obtain ⟨b, o, e, h0, h1⟩ := (h.below (below_alloc1 w (.cells #[] 31))).2 (j / 2) _ (List.getElem?_eq_getElem hi)
      cases e
      obtain ⟨e0, e1⟩ := spCs_at l (j / 2) _ (List.getElem?_eq_getElem hi)
      rw [Addr.add_none]
      rcases (show j = j / 2 * 2 ∨ j = j / 2 * 2 + 1 by omega) with q | q
      · rw [← q] at e0 h0
        rw [e0] at hu
        cases hu
        exact h0
      · rw [Nat.add_assoc, ← q] at h1
        rw [← q] at e1
        rw [e1] at hu
        cases hu
        exact h1
    have HL : Hid ((spCs l).length = n * 2) := by unfold Hid; rw [spCs_len, hlen]
    have HO := Lib.hid (spC_one l)
    clear h
    go_enter Try.func49, Try.ntmps49
    go_wp2_with (at_builtin; refine wpList_appendF rfl _ _ 45 rfl w.heap.size 31 i1 (.agg #[.int .i64 0, .int .i64 0]) 2 16 Try.underlying45 hi1 hz0 hz1 hz2 rfl (by omega) _ 0 [] rfl hown a n _ (spCs l) rfl HL.out HN.out HO.out ?ab1 ?ab2 ?ab3 ?_)
    case ab1 => unfold maxLen; omega
    case ab2 => omega
    case ab3 => simp
    intro v' w1 hrow hgrow hvv
    have hb : Below w.heap.size w w1 := (below_alloc1 w (.cells #[] 31)).grown hgrow (by simp) (by intro k hk; simp [Value.ownBlock] at hk; omega)
    go_wp2
    go_ret
    refine ⟨_, rfl, ?_, hb⟩
    unfold Ow
    rw [hlen]
    simpa using hrow

/-! ### DeleteFunc -/
def ne1 (s : Sp) : Bool := !decide (s.2 < s.1)
/-- What the row holds while it is gone through. -/
structure DInv (l : List Sp) (i j : Nat) (ds : List Sp) : Prop where
  len : ds.length = l.length
  lt : i < j
  le : j ≤ l.length
  low : ds.take i = (l.take j).filter ne1
  high : ds.drop j = l.drop j
theorem DInv.at_ {l : List Sp} {i j : Nat} {ds : List Sp} (h : DInv l i j ds) (hj : j < l.length) : ds[j]? = l[j]? := by
  have h1 : (ds.drop j)[0]? = (l.drop j)[0]? := by rw [h.high]
  simpa [List.getElem?_drop] using h1
theorem DInv.keep {l : List Sp} {i j : Nat} {ds : List Sp} (h : DInv l i j ds) {x : Sp} (hx : l[j]? = some x) (hp : ne1 x = true) : DInv l (i + 1) (j + 1) (ds.set i x) := by
  have hj : j < l.length := by
    rcases Nat.lt_or_ge j l.length with q | q
    · exact q
    · rw [List.getElem?_eq_none q] at hx; cases hx
  have hl := h.len
  have hij := h.lt
  refine ⟨by rw [List.length_set]; exact h.len, by omega, by omega, ?_, ?_⟩
  · rw [List.take_add_one, List.take_add_one, hx, List.take_set_of_le (Nat.le_refl _), h.low, List.getElem?_set_self (by omega)]
    simp [List.filter_append, hp]
  · rw [List.drop_set_of_lt (by omega)]
    have e := congrArg (List.drop 1) h.high
    simpa [List.drop_drop] using e
theorem DInv.skip {l : List Sp} {i j : Nat} {ds : List Sp} (h : DInv l i j ds) {x : Sp} (hx : l[j]? = some x) (hp : ne1 x = false) : DInv l i (j + 1) ds := by
  have hj : j < l.length := by
    rcases Nat.lt_or_ge j l.length with q | q
    · exact q
    · rw [List.getElem?_eq_none q] at hx; cases hx
  have hij := h.lt
  refine ⟨h.len, by omega, by omega, ?_, ?_⟩
  · rw [List.take_add_one, hx, h.low]; simp [List.filter_append, hp]
  · have e := congrArg (List.drop 1) h.high
    simpa [List.drop_drop] using e
theorem DInv.done {l : List Sp} {i : Nat} {ds : List Sp} (h : DInv l i l.length ds) : ds.take i = nonE l ∧ (nonE l).length = i := by
  have h1 := h.low
  rw [List.take_length] at h1
  refine ⟨h1, ?_⟩
  show (l.filter ne1).length = i
  rw [← h1, List.length_take]
  have := h.len; have := h.lt
  omega
theorem DInv.start {l : List Sp} {k : Nat} {x : Sp} (hx : l[k]? = some x) (hp : ne1 x = false) (ha : ∀ j y, j < k → l[j]? = some y → ne1 y = true) : DInv l k (k + 1) l := by
  have hj : k < l.length := by
    rcases Nat.lt_or_ge k l.length with q | q
    · exact q
    · rw [List.getElem?_eq_none q] at hx; cases hx
  refine ⟨rfl, by omega, by omega, ?_, rfl⟩
  rw [List.take_add_one, hx]
  have : (l.take k).filter ne1 = l.take k := by
    rw [List.filter_eq_self]
    intro y hy
    obtain ⟨j, hj2, e⟩ := List.mem_iff_getElem.1 hy
    rw [List.length_take] at hj2
    refine ha j y (by omega) ?_
    rw [List.getElem_take] at e
    rw [← e]; exact List.getElem?_eq_getElem (by omega)
  simp [List.filter_append, hp, this]

theorem zero_spans (n : Nat) : (Builtin.zeroCells (Value.agg #[.int .i64 0, .int .i64 0]).cells n).toList = spCs (List.replicate n (0, 0)) := by
  have key : ∀ n : Nat, (List.range (n * 2)).map (fun i => (#[Value.int .i64 0, .int .i64 0] : Array Value)[i % 2]!) = spCs (List.replicate n (0, 0)) := by
    intro n
    induction n with
    | zero => rfl
    | succ n ih =>
      rw [List.replicate_succ', spCs_snoc, ← ih, Nat.add_mul, List.range_add, List.map_append, List.map_map]
      congr 1
      simp only [Nat.one_mul]
      rw [show List.range 2 = [0, 1] from rfl]
      simp only [List.map_cons, List.map_nil, Function.comp_apply]
      rw [show (n * 2 + 0) % 2 = 0 by omega, show (n * 2 + 1) % 2 = 1 by omega]
      rfl
  rw [← key n]
  unfold Builtin.zeroCells
  have hc : (Value.agg #[.int .i64 0, .int .i64 0]).cells = #[Value.int .i64 0, .int .i64 0] := by rfl
  rw [hc]
  simp

theorem run_clearS {w : World} {g o m c : Nat} {cur : Array Value} (hg : w.heap[g]? = some (.cells cur 31 (0, 0))) (hb : o + m * 2 ≤ cur.size) (ty : TypeId) :
    (Builtin.clear_ #[45] ty #[.slice (some ⟨g, o, none⟩) m c]).run Try.prog w = .ok (.tuple #[]) (w.setRow g (cur.toList.take o ++ spCs (List.replicate m (0, 0)) ++ cur.toList.drop (o + m * 2)).toArray) := by
  obtain ⟨i1, hi1, hz0, hz1, hz2⟩ := info_parts sp_info
  have hv : ∀ w, (zeroValue 31).run Try.prog w = .ok (.agg #[.int .i64 0, .int .i64 0]) w := by
    intro w
    simp [zeroValue, typeInfo, hi1, hz0]
  have hl : (spCs (List.replicate m (0, 0))).length = m * 2 := by rw [spCs_len]; simp
  have hst := run_storeCells_at (P := Try.prog) g o 31 (spCs (List.replicate m (0, 0))) 0 cur w hg (by rw [hl]; omega) (spC_one _)
  simp only [Nat.add_zero, hl] at hst
  rcases m with _ | m
  · simp [Builtin.clear_, run_underlying Try.underlying45, spCs]
    exact (setRow_self w g cur _ _ hg).symm
  · simp [Builtin.clear_, run_underlying Try.underlying45, hv, zero_spans, hst]
/-- A row is cleared behind place i, and cut there. -/
theorem Ow.clear {w : World} {B g n c i : Nat} {l : List Sp} (h : Ow w B (.slice (some ⟨g, 0, none⟩) n c) l) (hi : i ≤ n) : ∃ w', (∀ ty, (Builtin.clear_ #[45] ty #[.slice (some ⟨g, i * 2, none⟩) (n - i) (c - i)]).run Try.prog w = .ok (.tuple #[]) w') ∧
    Ow w' B (.slice (some ⟨g, 0, none⟩) i c) (l.take i) ∧ w.grownBy w' (some g) := by
  have hn : n = l.length := by
    rcases h.2 with ⟨e, _⟩ | ⟨_, _, _, e, _⟩
    · cases e
    · cases e; rfl
  rcases h.2 with ⟨e, _⟩ | ⟨g', cap, cur, e, hB, hh, hle, hmx, hsz, htk⟩
  · cases e
  · cases e
    rw [← hn] at htk
    refine ⟨_, fun ty => run_clearS (o := i * 2) (c := c - i) hh (by omega) ty, ⟨?_, .inr ⟨g, c, _, ?_, hB, setRow_heap w g cur _ _ _ hh, ?_, hmx, ?_, ?_⟩⟩, ⟨rfl, rfl, rfl, by simp [World.setRow], fun k hk hne => setRow_other w g k _ (by intro e; subst e; exact hne rfl)⟩⟩
    · rw [spCs_len]
    · rw [List.length_take, ← hn, Nat.min_eq_left hi]
    · rw [List.length_take, ← hn]; omega
    · simp [spCs_len, hsz]; omega
    · have e1 : (l.take i).length = i := by rw [List.length_take, ← hn]; omega
      rw [e1, List.toList_toArray, List.append_assoc, List.take_append_of_le_length (by simp [hsz]; omega), List.take_take, Nat.min_self]
      have e2 : spCs (l.take i) = (spCs l).take (i * 2) := by
        have h0 : spCs l = spCs (l.take i) ++ spCs (l.drop i) := by rw [← spCs_append, List.take_append_drop]
        have hl2 : (spCs (l.take i)).length = i * 2 := by rw [spCs_len, e1]
        rw [h0, ← hl2, List.take_left]
      rw [e2, ← htk, List.take_take]
      congr 1
      omega
end Go.Proofs.Ytlmmoinmlcpmnaa
