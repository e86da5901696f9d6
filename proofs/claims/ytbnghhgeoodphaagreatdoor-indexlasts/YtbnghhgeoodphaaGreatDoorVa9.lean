import Derived.Test.YtbnghhgeoodphaaGreatDoorKt
import Derived.Lib.AppendZeros
namespace Go.Proofs.YtbnghhgeoodphaaGreatDoor
set_option maxRecDepth 100000
set_option maxHeartbeats 40000000
set_option linter.unusedVariables false
set_option linter.unusedSimpArgs false
open Go.RowKit
attribute [local go_sem ↓] Go.wp_at_zero Go.wp_at_succ
theorem Tryz.und3 : Tryz.prog.underlying 3 = some (.int .i64) := by kernel_rfl
theorem grow_any (w : World) (n : Nat) (hn : n <= 140737488355328) :
   Calls Tryz.prog 136 #[.slice none 0 0, .int .i64 n] w fun e w' => ∃ v, e = .returned v /\ Own w' w.heap.size v [] /\ Below w.heap.size w w' := by
 have i0 : ¬ ((n : Int) < 0) := by omega
 by_cases hp : n = 0
 · subst hp
   rw [show ((0 : Nat) : Int) = 0 from rfl]
   go_enter Tryz.func136, Tryz.ntmps136
   go_wp2
   go_ret
   exact ⟨_, rfl, Own.nil _ _, Below.refl _ _⟩
 · obtain ⟨i5, hi5, hz5, hs5, hy5⟩ := Tryz.info5
   have i1 : (0 : Int) < n := by omega
   have i2 : (n : Int) <= 140737488355328 := by omega
   have hrz : ∀ ty, (Builtin.append_ #[58, 3] ty #[.slice none 0 0, .int .i64 n]).run Tryz.prog w =
     .ok (.slice (some ⟨w.heap.size, 0, none⟩) n (grownCap w n 0 5)) (w.drew.alloc (.cells (Builtin.zeroCells (Value.int .u8 0).cells n ++ Builtin.zeroCells (Value.int .u8 0).cells (grownCap w n 0 5 - n)) 5)) := fun ty =>
     Lib.run_append_nil_zeros w 58 3 ty 5 i5 (.int .u8 0) .i64 .i64 Tryz.underlying58 Tryz.und3 hi5 hz5 n (by omega) (by omega) (by omega) (by rw [hy5]; omega)
   have hG : n <= grownCap w n 0 5 := grownCap_ge w _ _ _
   have hG2 : grownCap w n 0 5 <= maxLen := grownCap_le_maxLen w n 0 5 (by unfold maxLen; omega)
   obtain ⟨G, hGe⟩ : ∃ G, G = grownCap w n 0 5 := ⟨_, rfl⟩
   rw [<- hGe] at hrz hG hG2
   have hrow : (Builtin.zeroCells (Value.int .u8 0).cells n ++ Builtin.zeroCells (Value.int .u8 0).cells (G - n)).size = G := by
     simp [Builtin.zeroCells, Value.cells]
     omega
   have hO : Own (w.drew.alloc (.cells (Builtin.zeroCells (Value.int .u8 0).cells n ++ Builtin.zeroCells (Value.int .u8 0).cells (G - n)) 5)) w.heap.size (.slice (some ⟨w.heap.size, 0, none⟩) 0 G) [] :=
     ⟨rfl, Or.inr ⟨w.heap.size, G, _, rfl, Nat.le_refl _, hnew w.drew _, Nat.zero_le _, hG2, by rw [hrow, Nat.mul_one], by simp [ints]⟩⟩
   have hB : Below w.heap.size w (w.drew.alloc (.cells (Builtin.zeroCells (Value.int .u8 0).cells n ++ Builtin.zeroCells (Value.int .u8 0).cells (G - n)) 5)) := (Below.refl w.heap.size w).drew.alloc (Nat.le_refl _) _
   have i3 : (n : Int) <= (G : Int) := by omega
   have i4 : (G : Int) <= 9223372036854775807 := by unfold maxLen at hG2; omega
   clear hrow hG hG2 hGe hi5
   generalize w.drew.alloc (.cells (Builtin.zeroCells (Value.int .u8 0).cells n ++ Builtin.zeroCells (Value.int .u8 0).cells (G - n)) 5) = w1 at *
   have HO := hid hO
   have HB := hid hB
   clear hO hB
   go_enter Tryz.func136, Tryz.ntmps136
   go_wp2_with (at_builtin; refine Lib.wpList_append_run _ rfl _ _ _ _ rfl _ _ rfl rfl _ _ (hrz _) ?_)
   go_ret
   exact ⟨_, rfl, HO.out, HB.out⟩
theorem wpList_append_most {w : World} {ops : Array Oper} {rest : List Oper} {o : Oper} {a : Act} {Q : Exit -> Act -> World -> Prop} (hgd : o.guard = none) (s x : Operand)
   (ho : o.op = .call { callee := .builtin .append, args := #[s, x], argTypes := #[58, 58] })
   (base : Nat) (v : Value) (zs ys : List Int) (hs : a.eval s = v) (hown : Own w base v zs) (sp : Option Addr) (c : Nat) (hx : a.eval x = .slice sp ys.length c) (hnil : sp = none -> c = 0) (hS : Src w sp c ys)
   (hlen : zs.length + ys.length <= 140737488355328) (hbase : base <= w.heap.size)
   (h : ∀ v' w', Own w' base v' (zs ++ ys) -> w.grownBy w' v.ownBlock -> (v'.ownBlock = v.ownBlock \/ v'.ownBlock = some w.heap.size) -> wpList Tryz.prog ops Q rest (a.put o.dst v') w') :
   wpList Tryz.prog ops Q (o :: rest) a w := by
 obtain ⟨i5, hi5, hz5, hs5, hy5⟩ := Tryz.info5
 cases sp with
 | none =>
   obtain rfl := hnil rfl
   obtain rfl : ys = [] := List.eq_nil_of_length_eq_zero (by have := hS.1; omega)
   refine wpList_append_own_none hgd s x 58 ho base 5 i5 1 Tryz.underlying58 hi5 v _ _ hs hown hx (h v w ?_ ⟨rfl, rfl, rfl, Nat.le_refl _, fun _ _ _ => rfl⟩ (Or.inl rfl))
   rw [List.append_nil]; exact hown
 | some ad =>
   refine wpList_append_own_at _ hgd s x 58 ho base 5 i5 (.int .u8 0) 1 1 Tryz.underlying58 hi5 hz5 hs5 hy5 rfl Nat.one_pos v zs.length (ints .u8 zs) hs hown ad ys.length c (ints .u8 ys) hx (by rw [ints_len]; omega) (src_news hS) (ints_one _ _) (by unfold maxLen; omega) (by omega) hbase ?_
   intro v' w' h1 h2 _ h4
   exact h v' w' (Own.mk_append h1) h2 h4
theorem flat_take (ps : List (List Int)) (k : Nat) (h : k < ps.length) : (ps.take (k + 1)).flatten = (ps.take k).flatten ++ ps.getD k [] := by
 rw [List.take_succ_eq_append_getElem h, List.flatten_append, List.getD_eq_getElem?_getD, List.getElem?_eq_getElem h]; simp
theorem flat_le (ps : List (List Int)) (k : Nat) : ((ps.take k).flatten).length <= ps.flatten.length := by
 rw [<- List.take_append_drop k ps, List.flatten_append]; simp
theorem concat_any (w : World) (ps : List (List Int)) (sp : Option Addr) (cap : Nat) (hS : Rws w sp ps) (hl : ps.length <= 1000) (hlen : ps.flatten.length <= 140737488355328) :
   Calls Tryz.prog 120 #[.slice sp ps.length cap] w fun e w' => ∃ v, e = .returned v /\ Own w' w.heap.size v ps.flatten /\ Below w.heap.size w w' := by
 have HS := hid hS
 have i0 : (ps.length : Int) <= 1000 := by omega
 have HL := hid hlen
 generalize hn : ps.length = n at *
 have HN := hid hn
 clear hn hlen hS
 go_enter Tryz.func120, Tryz.ntmps120
 go_wp2
 go_loopw [3, 11] (fun s i wr => w = wr /\ ∃ k : Nat, k <= n /\ i = .int .i64 k /\ s = .int .i64 ((ps.take k).flatten).length) (fun _ i _ => n - (intOf i).toNat)
 case atStart => exact ⟨rfl, 0, by omega, rfl, by simp⟩
 case round =>
   obtain ⟨rfl, k, hk, rfl, rfl⟩ := hrel
   by_cases hlt : k < n
   · have i1 : (k : Int) < (n : Int) := by omega
     obtain ⟨b, o, sp', c, rfl, c0, hnil, hsr, hb⟩ := HS.out.piece (Below.refl _ _) k (by rw [HN.out]; exact hlt)
     have HT := hid (show ((ps.take (k + 1)).flatten).length = ((ps.take k).flatten).length + (ps.getD k []).length by rw [flat_take ps k (by rw [HN.out]; exact hlt), List.length_append])
     have h1 := flat_le ps (k + 1)
     have h2 := HL.out
     rw [HT.out] at h1
     generalize (ps.getD k []).length = y at *
     generalize ((ps.take k).flatten).length = x at *
     generalize ps.flatten.length = z at *
     have i2 : (x : Int) + (y : Int) <= 140737488355328 := by omega
     have i3 : ¬ ((x : Int) + (y : Int) < 0) := by omega
     clear h1 h2
     go_wp2
     go_roundw
     case rel => exact ⟨trivial, k + 1, by omega, by go_num, by rw [HT.out]; go_num⟩
     case measure => simp [intOf]; omega
   · obtain rfl : k = n := by omega
     rw [show (ps.take k).flatten = ps.flatten by rw [<- HN.out, List.take_length]]
     clear hlt
     have hg := grow_any w ps.flatten.length (by have := HL.out; omega)
     generalize hz : ps.flatten.length = z at *
     have HZ := hid hz
     clear hz
     go_wp2_with fail
     refine hg.mono ?_
     rintro e w1 ⟨v, rfl, hO, hB⟩
     clear hg
     obtain ⟨spv, capv, rfl, -, -⟩ := hO.form
     go_wp2
     go_loopw [6, 27] (fun v i wr => ∃ j : Nat, j <= k /\ i = .int .i64 j /\ Own wr w.heap.size v (ps.take j).flatten /\ Below w.heap.size w wr) (fun _ i _ => k - (intOf i).toNat)
     case atStart => exact ⟨0, by omega, rfl, hO, hB⟩
     case round =>
       clear hO hB
       obtain ⟨j, hj, rfl, hO, hB⟩ := hrel
       by_cases hlt : j < k
       · have i1 : (j : Int) < (k : Int) := by omega
         obtain ⟨b, o, sp', c, rfl, c0, hnil, hsr, hb⟩ := HS.out.piece hB j (by rw [HN.out]; exact hlt)
         have HT := hid (flat_take ps j (by rw [HN.out]; exact hlt))
         have h1 := flat_le ps (j + 1)
         rw [HT.out, List.length_append, HZ.out] at h1
         have h2 := HL.out
         have hsr2 := hsr.below hB (Nat.le_refl _)
         generalize (ps.take j).flatten = x at *
         generalize ps.getD j [] = y at *
         have KL := hid (show x.length + y.length <= 140737488355328 by omega)
         have HB := hid hB.size
         clear h1 h2
         obtain ⟨spv, capv, rfl, -, -⟩ := hO.form
         go_wp2_with (first | (at_builtin; refine wpList_append_most rfl (.tmp 31) (.tmp 32) rfl w.heap.size _ x y rfl hO sp' c rfl hnil hsr2 KL.out HB.out ?_; intro v2 w2 hO2 hg2 _))
         have hB2 : Below w.heap.size w w2 := hB.trans (grown_keeps hg2 (fun q hq => (hO.block q hq).1) hB.size)
         go_roundw
         case rel => exact ⟨j + 1, by omega, by go_num, by rw [HT.out]; exact hO2, hB2⟩
         case measure => simp [intOf]; omega
       · obtain rfl : j = k := by omega
         rw [show (ps.take j).flatten = ps.flatten by rw [<- HN.out, List.take_length]] at hO
         clear hlt
         obtain ⟨spv, capv, rfl, -, -⟩ := hO.form
         go_wp2
         go_ret
         exact ⟨_, rfl, hO, hB⟩
end Go.Proofs.YtbnghhgeoodphaaGreatDoor
