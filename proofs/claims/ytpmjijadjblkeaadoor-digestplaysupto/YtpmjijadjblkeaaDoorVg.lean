import Derived.Test.YtpmjijadjblkeaaDoorVf
import Derived.Laws.BytesString
namespace Go.Proofs.YtpmjijadjblkeaaDoor
set_option linter.unusedVariables false
set_option linter.unusedSimpArgs false
open Go.RowKit
attribute [local go_sem ↓] Go.wp_at_zero Go.wp_at_succ

/-! What the second kind of step (Write) wants. -/
theorem Keeps.new {g p : Nat} {a b c : World} (h : Keeps g a b) (k : Keeps p b c) (hp : a.heap.size ≤ p) : Keeps g a c :=
  ⟨k.os.trans h.os, k.tape.trans h.tape, k.output.trans h.output, Nat.le_trans h.size k.size, fun i hi hne => (k.block i (Nat.lt_of_lt_of_le hi h.size) (by omega)).trans (h.block i hi hne)⟩
theorem Keeps.setAt {p : Nat} {a b : World} (h : Keeps p a b) (j : Nat) (v : Value) : Keeps p a (b.setCell ⟨p, j, none⟩ v) :=
  ⟨h.os, h.tape, h.output, by rw [World.size_setCell]; exact h.size, fun i hi hne => (heap_setCell_other _ _ _ _ (show i ≠ p from hne)).trans (h.block i hi hne)⟩
theorem Keeps.cell {g q i : Nat} {a b : World} {x : Option Value} (h : Keeps g a b) (hq : q < a.heap.size) (hne : q ≠ g) (hc : a.cell? ⟨q, i, none⟩ = x) : b.cell? ⟨q, i, none⟩ = x := by
  rw [← hc]; exact World.cell?_of_block (w := a) (a := ⟨q, i, none⟩) (h.block q hq hne)
theorem wpList_cutB {w : World} {ops : Array Oper} {rest : List Oper} {op : Oper} {a : Act} {Q : Exit → Act → World → Prop} (hg : op.guard = none) (x u : Operand) (ho : op.op = .slice 26 x none (some u) none) (b o n cap j : Nat)
    (hx : a.eval x = .slice (some ⟨b, o, none⟩) n cap) (hu : a.eval u = .int .i64 j) (hj : (j : Int) ≤ (cap : Int)) (hc : ¬ cap = 0) (h : wpList Tryd.prog ops Q rest (a.put op.dst (.slice (some ⟨b, o, none⟩) j cap)) w) : wpList Tryd.prog ops Q (op :: rest) a w := by
  refine wpList_plain hg fun K hK => ?_
  unfold Oper.wp execOp
  rw [ho]
  simp only [hx, hu, Option.map_some, Option.map_none]
  have h0 : (0 : Int) ≤ (j : Int) := by omega
  go_simp
  exact hK _ _ h
/-- append(own bytes, bytes..) in a drawn region. -/
theorem step_appW {w : World} {ops : Array Oper} {o : Oper} {a : Act} {K : Act → World → Prop} {Q : Exit → Act → World → Prop} {E : Prop} (hgd : o.guard = none) (s x : Operand)
    (ho : o.op = .call { callee := .builtin .append, args := #[s, x], argTypes := #[26, 26] })
    (base : Nat) (v : Value) (zs ys : List Int) (hs : a.eval s = v) (hown : Own w base v zs) (sp : Option Addr) (c : Nat) (hx : a.eval x = .slice sp ys.length c) (hnil : sp = none → c = 0) (hS : Src w sp c ys)
    (hlen : zs.length + ys.length ≤ 140737488351232) (hbase : base ≤ w.heap.size)
    (h : ∀ v' w', Own w' base v' (zs ++ ys) → w.grownBy w' v.ownBlock → (v'.ownBlock = v.ownBlock ∨ v'.ownBlock = some w.heap.size) → K (a.put o.dst v') w') :
    if Region.wanted o (yielded ops a.tmps) = true then Oper.wp Tryd.prog o a w K Q else E := by
  have hw : Region.wanted o (yielded ops a.tmps) = true := by simp [Region.wanted, hgd]
  rw [if_pos hw]
  obtain ⟨i5, hi5, hz5, hs5, hy5⟩ := Tryd.info5
  cases sp with
  | none =>
    obtain rfl := hnil rfl
    obtain rfl : ys = [] := List.eq_nil_of_length_eq_zero (by have := hS.1; omega)
    have hrun := run_append_owned_none (P := Tryd.prog) w base 26 o.type 5 i5 1 Tryd.underlying26 hi5 v _ _ hown
    unfold Oper.wp
    simp [execOp, ho, resolve, invoke, builtin, hs, hx, hrun, Result.andThen]
    exact h v w (by rw [List.append_nil]; exact hown) ⟨rfl, rfl, rfl, Nat.le_refl _, fun _ _ _ => rfl⟩ (Or.inl rfl)
  | some ad =>
    obtain ⟨v', w', hr, q1, q2, _, q4⟩ := run_append_own_at (P := Tryd.prog) w base 26 o.type 5 i5 (.int .u8 0) 1 1 Tryd.underlying26 hi5 hz5 hs5 hy5 rfl Nat.one_pos v zs.length (ints .u8 zs) hown ad ys.length c (ints .u8 ys) (by rw [ints_len]; omega) (src_news hS) (ints_one _ _) (by unfold maxLen; omega) (by omega) hbase
    unfold Oper.wp execOp
    simp only [ho, resolve, invoke, builtin, Sem.run_bind, Sem.run_pure, Result.andThen_ok, List.map_toArray, List.map_cons, List.map_nil, hs, hx, hr]
    exact h v' w' (Own.mk_append q1) q2 q4
/-- string(bytes). -/
def strOf (ns : List Int) : ByteArray := ns.foldl (fun r n => r.push (UInt8.ofNat n.toNat)) ByteArray.empty
theorem wpList_str {w : World} {ops : Array Oper} {rest : List Oper} {op : Oper} {a : Act} {Q : Exit → Act → World → Prop} (hg : op.guard = none) (x : Operand) (ho : op.op = .convert 26 9 x) (b o n cap : Nat) (ns : List Int) (hn : ns.length = n)
    (hx : a.eval x = .slice (some ⟨b, o, none⟩) n cap) (hc : ∀ j, j < ns.length → w.cell? ⟨b, o + j, none⟩ = some (.int .u8 (ns.getD j 0))) (h : wpList Tryd.prog ops Q rest (a.put op.dst (.string (strOf ns))) w) : wpList Tryd.prog ops Q (op :: rest) a w := by
  subst hn
  refine wpList_plain hg fun K hK => ?_
  have hl := run_loadCells_list (P := Tryd.prog) w ⟨b, o, none⟩ (ns.map (Value.int .u8)) (fun j v hv => by
    have hj : j < ns.length := by have := (List.getElem?_eq_some_iff.1 hv).1; simpa using this
    rw [Addr.add_mid, hc j hj]
    rw [List.getElem?_map, List.getElem?_eq_getElem hj] at hv
    rw [List.getD_eq_getElem?_getD, List.getElem?_eq_getElem hj]
    exact hv)
  rw [List.length_map] at hl
  unfold Oper.wp execOp
  rw [ho]
  simp only [hx, Sem.run_bind, run_convert_bytes_string w 26 9 5 (some ⟨b, o, none⟩) ns.length cap Tryd.underlying26 Tryd.underlying5 Tryd.underlying9, run_bytesToString w ⟨b, o, none⟩ ns.length cap ns hl, Result.andThen_ok, Sem.run_pure]
  exact hK _ _ h
/-! All bytes turned. -/
def x255 (x : Int) : Int := bits .xor .u8 x 255
def part (f : Int → Int) (val : List Int) (k : Nat) : List Int := (val.take k).map f ++ val.drop k
theorem part_len (f : Int → Int) (val : List Int) (k : Nat) (hk : k ≤ val.length) : (part f val k).length = val.length := by simp [part]; omega
theorem part_get (f : Int → Int) (val : List Int) (k : Nat) (hk : k < val.length) : (part f val k).getD k 0 = val.getD k 0 := by
  unfold part
  rw [List.getD_eq_getElem?_getD, List.getElem?_append_right (by simp; omega), List.length_map, List.length_take, Nat.min_eq_left (by omega), Nat.sub_self, List.getElem?_drop, Nat.add_zero, ← List.getD_eq_getElem?_getD]
theorem part_set (f : Int → Int) (val : List Int) (k : Nat) (hk : k < val.length) : (part f val k).set k (f (val.getD k 0)) = part f val (k + 1) := by
  unfold part
  have hl : ((val.take k).map f).length = k := by rw [List.length_map, List.length_take]; omega
  rw [List.set_append_right _ _ (by omega), hl, Nat.sub_self, List.drop_eq_getElem_cons hk, List.set_cons_zero, List.take_succ_eq_append_getElem hk, List.map_append, List.append_assoc, List.getD_eq_getElem?_getD, List.getElem?_eq_getElem hk]; rfl
end Go.Proofs.YtpmjijadjblkeaaDoor
