import Derived.Test.YtihkjfbhmlfonaaSt25
import Derived.Test.YtihkjfbhmlfonaaSe
import Derived.Test.YtihkjfbhmlfonaaS15
import Derived.Laws.CopyRow
import Derived.ArgAppend
namespace Go.Proofs.Ytihkjfbhmlfonaa
set_option linter.unusedVariables false
set_option linter.unusedSimpArgs false
open Go.RowKit
open Go.Proofs.Ytihkjfbhmlfonaa.Ca (Ct ct0 ctC argV AS)
attribute [local go_sem ↓] Go.wp_at_zero Go.wp_at_succ

set_option maxRecDepth 100000 in
set_option maxHeartbeats 2000000 in
theorem oLoad_x (w : World) (base : Nat) (S : Sto) (h : SK w base S) (hlv : liveF S.D S.ep = 0) (hl : S.cts.length ≤ 100000) (m : Nat) (hm : S.s.ma = m) (hnx : S.nx = m) (hm2 : 2 ≤ m ∧ m ≤ 100000) (hN : S.N < 2500000000000000000) (hr : S.D.reads < 3000000000000000000) (q : Nat) (v : Int × List Int) (hk : Kn S q v) :
    Calls Try.prog 19 #[.pointer (some ⟨S.st, 0, none⟩), .int .i64 q] w fun e w' => ∃ S' u, e = .returned (.tuple #[.int .i64 v.1, u, .int .i64 0]) ∧ Own w' w.heap.size u v.2 ∧ (∀ k, u.ownBlock = some k → k ∉ S'.fp) ∧ (SK w' base S' ∧ Rd 1 S S') ∧ ((S.a.val (q : Int) ≠ none ∧ S'.a = S.a.get q ∧ S'.D.reads = S.D.reads) ∨ (S.a.val (q : Int) = none ∧ (∃ c : Ct, S'.a = (S.a.get q).put q c) ∧ S'.D.reads = S.D.reads + 1)) ∧ Below base w w' ∧ Fr S.fp w w' ∧ Gr w S.fp S'.fp := by
  have hbw := h.base
  have HIT : ∀ c, 2 ≤ (q : Int) ∧ (q : Int) < S.s.ma + S.cts.length → S.a.val (q : Int) = some c → CtIs w base S.lb c v → Calls Try.prog 19 #[.pointer (some ⟨S.st, 0, none⟩), .int .i64 q] w fun e w' => ∃ S' u, e = .returned (.tuple #[.int .i64 v.1, u, .int .i64 0]) ∧ Own w' w.heap.size u v.2 ∧ (∀ k, u.ownBlock = some k → k ∉ S'.fp) ∧ (SK w' base S' ∧ Rd 1 S S') ∧ ((S.a.val (q : Int) ≠ none ∧ S'.a = S.a.get q ∧ S'.D.reads = S.D.reads) ∨ (S.a.val (q : Int) = none ∧ (∃ c : Ct, S'.a = (S.a.get q).put q c) ∧ S'.D.reads = S.D.reads + 1)) ∧ Below base w w' ∧ Fr S.fp w w' ∧ Gr w S.fp S'.fp := fun c hq hv hc => by
    refine (oLoad_hitX w base S h hlv hl ⟨by omega, by omega⟩ (by omega) q hq c hv v.1 v.2 hc).mono fun e w' ⟨FC, u, he, hO, hX, hK, hF, hG⟩ => ⟨{ S with FC := FC, N := S.N + 1, a := S.a.get (q : Int) }, u, he, hO, hX, ⟨hK, ⟨rfl, rfl, rfl, rfl, rfl, rfl, rfl, rfl, rfl, rfl, ⟨Int.le_refl _, ?_⟩, ?_⟩⟩, Or.inl ⟨(by rw [hv]; exact fun z => (by cases z)), rfl, rfl⟩, ?_, ?_, ?_⟩
    · show S.D.reads ≤ S.D.reads + 1; omega
    · show S.N + 1 ≤ S.N + 2 * 1; omega
    · exact hF.below (fun k hk => (h.in_lt (by simp [hk])).1) hbw
    · exact ⟨hF.os, hF.tape, hF.output, hF.size, fun k hk hn => hF.block k hk (fun z => hn ((Sto.mem S k).2 (by simp [z])))⟩
    · intro k q
      rcases (Sto.mem _ k).1 q with e | e | e | e | e | e
      · exact Or.inl ((Sto.mem S k).2 (Or.inl e))
      · exact Or.inl ((Sto.mem S k).2 (Or.inr (Or.inl e)))
      · exact Or.inl ((Sto.mem S k).2 (Or.inr (Or.inr (Or.inl e))))
      · rcases hG k e with z | z
        · exact Or.inl ((Sto.mem S k).2 (Or.inr (Or.inr (Or.inr (Or.inl z)))))
        · exact Or.inr z
      · exact Or.inl ((Sto.mem S k).2 (Or.inr (Or.inr (Or.inr (Or.inr (Or.inl e))))))
      · exact Or.inl ((Sto.mem S k).2 (Or.inr (Or.inr (Or.inr (Or.inr (Or.inr e))))))
  rcases hk with ⟨h1, h2, h3, h4, h5, h6, h7⟩ | ⟨j, hj, e, hv⟩
  · by_cases hn : S.a.val (q : Int) = none
    · refine (oLoad_missX w base S h hlv hl m hm hnx hm2 hN q ⟨h1, by omega, h3⟩ hn hr v.1 v.2 h4 h5 h6 h7).mono fun e w' ⟨S', u, he, hO, hX, ⟨hK, hS, k1, k2, k3, k4⟩, hB⟩ => ⟨S', u, he, hO, hX, ⟨hK, ⟨hS.p, hS.g, hS.st, hS.pc, hS.s, hS.nx, hS.ep, k2, k3, ?_, ⟨?_, ?_⟩, ?_⟩⟩, Or.inr ⟨hn, k4, by rw [show S'.D = _ from hS.D]⟩, hB⟩
      · rw [show S'.D = _ from hS.D]
      · rw [show S'.D = _ from hS.D]; show S.D.reads ≤ S.D.reads + 1; omega
      · rw [show S'.D = _ from hS.D]; show S.D.reads + 1 ≤ S.D.reads + ((1 : Nat) : Int); omega
      · rw [k1]; omega
    · obtain ⟨c, hc⟩ := Option.ne_none_iff_exists'.1 hn
      refine HIT c ⟨by omega, by omega⟩ hc ?_
      unfold Ca.AS.val at hc
      rw [h.hd, heldL_no _ _ _ (Or.inl h2)] at hc
      have hc2 : Ca.findL S.a.clean (q : Int) = some c := by simpa using hc
      obtain ⟨v', c1, c2, c3, c4⟩ := h.ck _ (findL_memC hc2)
      have e4 : (v'.1, v'.2, (0 : Int)) = (v.1, v.2, 0) := c4.symm.trans (by show unpackF (q : Int) (S.D.readOf ((q : Int)).toNat) = _; rw [Int.toNat_natCast]; exact h4)
      obtain ⟨e5, e6⟩ := Prod.mk.inj e4
      obtain ⟨e7, _⟩ := Prod.mk.inj e6
      have : v' = v := Prod.ext e5 e7
      exact this ▸ c1
  · have hval := h.held_key j hj
    rw [← e] at hval
    exact HIT _ ⟨by omega, by omega⟩ hval (hv ▸ h.cv j hj)
set_option maxRecDepth 100000 in
/-- Load of a number that is no page's. -/
theorem oLoad_out (w : World) (base : Nat) (S : Sto) (h : SK w base S) (hlv : liveF S.D S.ep = 0) (hl : S.cts.length ≤ 100000) (hm : 0 ≤ S.s.ma ∧ S.s.ma ≤ 100000) (q : Int) (hq : ¬ (2 ≤ q ∧ q < S.s.ma + S.cts.length)) :
    Calls Try.prog 19 #[.pointer (some ⟨S.st, 0, none⟩), .int .i64 q] w fun e w' => e = .returned (.tuple #[.int .i64 0, .slice none 0 0, .int .i64 41]) ∧ Below w.heap.size w w' := by
  have HL := hid (oLive_any w base S h)
  rw [hlv] at HL
  have HA := hid (fun w1 (b : Below w.heap.size w w1) => ohas_any w1 base S (h.below b) hl hm q)
  rw [decide_eq_false hq] at HA
  clear h hlv hl hm hq
  go_enter Try.func19, Try.ntmps19
  go_wp2_with fail
  refine HL.out.mono ?_
  rintro e w1 ⟨rfl, hb1⟩
  have HB := hid hb1
  clear hb1
  go_wp2_with fail
  refine (HA.out w1 HB.out).mono ?_
  rintro e w2 ⟨rfl, hb2⟩
  go_wp2
  go_ret3
  exact ⟨rfl, HB.out.trans (hb2.mono HB.out.size)⟩
set_option maxRecDepth 100000 in
/-- .. at a store that isn't live. -/
theorem oLoad_dead (w : World) (base : Nat) (S : Sto) (h : SK w base S) (c : Int) (hlv : liveF S.D S.ep = c) (hc : c ≠ 0) (q : Int) :
    Calls Try.prog 19 #[.pointer (some ⟨S.st, 0, none⟩), .int .i64 q] w fun e w' => e = .returned (.tuple #[.int .i64 0, .slice none 0 0, .int .i64 c]) ∧ Below w.heap.size w w' := by
  have HL := hid (oLive_any w base S h)
  rw [hlv] at HL
  have hc1 : (c == 0) = false := by simpa using hc
  have hc2 : (c != 0) = true := by simpa using hc
  clear h hlv hc
  go_enter Try.func19, Try.ntmps19
  go_wp2_with fail
  refine HL.out.mono ?_
  rintro e w1 ⟨rfl, hb1⟩
  go_wp2
  go_ret3
  exact ⟨rfl, hb1⟩
set_option maxRecDepth 100000 in
/-- Stage of what is none, or too long, or has no room. -/
theorem oStage_bad (w : World) (base : Nat) (S : Sto) (h : SK w base S) (hlv : liveF S.D S.ep = 0) (hl : S.cts.length ≤ 100000) (hm : 0 ≤ S.s.ma ∧ S.s.ma ≤ 100000) (kd : Int) (n : Nat) (hn : n ≤ 1000000) (sp : Option Addr) (cap : Nat) (c : Int)
    (hc : c = if kd < 1 ∨ 3 < kd then 50 else if 246 < n then 51 else 5) (hb : (kd < 1 ∨ 3 < kd) ∨ 246 < n ∨ S.s.ma + S.cts.length = (S.D.np : Int)) :
    Calls Try.prog 18 #[.pointer (some ⟨S.st, 0, none⟩), .int .i64 kd, .slice sp n cap] w fun e w' => e = .returned (.tuple #[.int .i64 0, .int .i64 c]) ∧ Below w.heap.size w w' := by
  have HL := hid (oLive_any w base S h)
  rw [hlv] at HL
  have HN := hid (fun w1 (q : Below w.heap.size w w1) => oNext_any w1 base S (h.below q) hl hm)
  have HP := hid (fun w1 (q : Below w.heap.size w w1) => oPages_any w1 base S (h.below q))
  clear h hlv hl hm
  have hni : (n : Int) ≤ 1000000 := by omega
  by_cases k1 : kd < 1
  · rw [if_pos (Or.inl k1)] at hc
    subst hc
    clear hb
    go_enter Try.func18, Try.ntmps18
    go_wp2_with fail
    refine HL.out.mono ?_
    rintro e w1 ⟨rfl, hb1⟩
    go_wp2
    go_ret2
    exact ⟨rfl, hb1⟩
  · by_cases k2 : 3 < kd
    · rw [if_pos (Or.inr k2)] at hc
      subst hc
      clear hb
      go_enter Try.func18, Try.ntmps18
      go_wp2_with fail
      refine HL.out.mono ?_
      rintro e w1 ⟨rfl, hb1⟩
      go_wp2
      go_ret2
      exact ⟨rfl, hb1⟩
    · rw [if_neg (fun q => q.elim k1 k2)] at hc
      by_cases k3 : 246 < n
      · rw [if_pos k3] at hc
        subst hc
        have k3i : (246 : Int) < (n : Int) := by omega
        clear hb
        go_enter Try.func18, Try.ntmps18
        go_wp2_with fail
        refine HL.out.mono ?_
        rintro e w1 ⟨rfl, hb1⟩
        go_wp2
        go_ret2
        exact ⟨rfl, hb1⟩
      · rw [if_neg k3] at hc
        subst hc
        have k3i : ¬ (246 : Int) < (n : Int) := by omega
        have he : S.s.ma + (S.cts.length : Int) = (S.D.np : Int) := by
          rcases hb with (q | q) | q | q
          · exact absurd q k1
          · exact absurd q k2
          · exact absurd q k3
          · exact q
        rw [he] at HN
        clear hb he
        go_enter Try.func18, Try.ntmps18
        go_wp2_with fail
        refine HL.out.mono ?_
        rintro e w1 ⟨rfl, hb1⟩
        have HB := hid hb1
        clear hb1
        go_wp2_with fail
        refine (HN.out w1 HB.out).mono ?_
        rintro e w2 ⟨rfl, hb2⟩
        have HB2 := hid (HB.out.trans (hb2.mono HB.out.size))
        clear hb2
        go_wp2_with fail
        refine (HP.out w2 HB2.out).mono ?_
        rintro e w3 ⟨rfl, hw⟩
        obtain rfl := hw
        go_wp2
        go_ret2
        exact ⟨rfl, HB2.out⟩
set_option maxRecDepth 100000 in
theorem oTally_any (w : World) (base : Nat) (S : Sto) (h : SK w base S) :
    Calls Try.prog 8 #[.pointer (some ⟨S.st, 0, none⟩)] w fun e w' => e = .returned (.agg #[.int .i64 S.a.hits, .int .i64 S.a.misses, .int .i64 S.a.gone, .int .i64 S.a.clean.length, .int .i64 S.a.held.length]) ∧ Below w.heap.size w w' := by
  have hb0 : Below w.heap.size w (w.alloc (.cells #[.int .i64 0, .int .i64 0, .int .i64 0, .int .i64 0, .int .i64 0] 43)) := (Below.refl _ w).alloc (Nat.le_refl _) _
  have HT := hid (Ca.Tally_any _ base S.FC S.pc S.N S.a (h.below hb0).ca)
  have c2 := (h.below hb0).c2
  have HB := hid hb0
  clear h hb0
  go_enter Try.func8, Try.ntmps8
  go_wp2_with fail
  refine HT.out.mono ?_
  rintro _ w1 ⟨rfl, hb⟩
  have r0 : w1.heap[w.heap.size]? = some (.cells #[.int .i64 0, .int .i64 0, .int .i64 0, .int .i64 0, .int .i64 0] 43 (0, 0)) := (hb.block _ (by rw [World.size_alloc]; omega)).trans (hnew w _)
  have hb2 : Below w.heap.size w w1 := HB.out.trans (hb.mono (by rw [World.size_alloc]; omega))
  clear hb HT HB c2
  have hN : (Try.prog.info? 43).map (·.size) = some (#[.int .i64 (S.a.hits : Int), .int .i64 (S.a.misses : Int), .int .i64 (S.a.gone : Int), .int .i64 (S.a.clean.length : Int), .int .i64 (S.a.held.length : Int)] : Array Value).size := Ca.tal2N (S.a.hits : Int) (S.a.misses : Int) (S.a.gone : Int) (S.a.clean.length : Int) (S.a.held.length : Int)
  have hZ : (#[.int .i64 0, .int .i64 0, .int .i64 0, .int .i64 0, .int .i64 0] : Array Value).size = (#[.int .i64 (S.a.hits : Int), .int .i64 (S.a.misses : Int), .int .i64 (S.a.gone : Int), .int .i64 (S.a.clean.length : Int), .int .i64 (S.a.held.length : Int)] : Array Value).size := rfl
  have hO : (#[.int .i64 (S.a.hits : Int), .int .i64 (S.a.misses : Int), .int .i64 (S.a.gone : Int), .int .i64 (S.a.clean.length : Int), .int .i64 (S.a.held.length : Int)] : Array Value).all (·.oneCell') = true := Ca.tal2O (S.a.hits : Int) (S.a.misses : Int) (S.a.gone : Int) (S.a.clean.length : Int) (S.a.held.length : Int)
  have bd := below_setRow hb2 (Nat.le_refl _) #[.int .i64 (S.a.hits : Int), .int .i64 (S.a.misses : Int), .int .i64 (S.a.gone : Int), .int .i64 (S.a.clean.length : Int), .int .i64 (S.a.held.length : Int)]
  have r9 : (w1.setRow w.heap.size #[.int .i64 (S.a.hits : Int), .int .i64 (S.a.misses : Int), .int .i64 (S.a.gone : Int), .int .i64 (S.a.clean.length : Int), .int .i64 (S.a.held.length : Int)]).heap[w.heap.size]? = _ := setRow_heap w1 _ _ _ _ _ r0
  go_wp2_with (first
    | refine wpList_store_row (by rfl) 43 (.tmp 2) (.tmp 7) (by rfl) w.heap.size #[.int .i64 (S.a.hits : Int), .int .i64 (S.a.misses : Int), .int .i64 (S.a.gone : Int), .int .i64 (S.a.clean.length : Int), .int .i64 (S.a.held.length : Int)] (by rfl) (by rfl) 43 _ (by exact r0) hN hZ hO ?_)
  exact bodyPost_ret (v := .agg #[.int .i64 (S.a.hits : Int), .int .i64 (S.a.misses : Int), .int .i64 (S.a.gone : Int), .int .i64 (S.a.clean.length : Int), .int .i64 (S.a.held.length : Int)]) (results_c1 Try.results8 _ _ w.heap.size 43 _ _ _ rfl r9 Try.underlying43 rfl hN) rfl ⟨rfl, bd⟩
end Go.Proofs.Ytihkjfbhmlfonaa
namespace Go.Proofs.Ytihkjfbhmlfonaa
set_option linter.unusedVariables false
set_option linter.unusedSimpArgs false
open Go.RowKit
open Go.Proofs.Ytihkjfbhmlfonaa.Ca (Ct ct0 ctC argV AS)
attribute [local go_sem ↓] Go.wp_at_zero Go.wp_at_succ

/-- Nothing is appended. -/
theorem run_app0 (w : World) (g i c m ty : Nat) (a : Addr) (h : i ≤ c) : (Builtin.append_ #[77, 77] ty #[.slice (some ⟨g, 0, none⟩) i c, .slice (some a) 0 m]).run Try.prog w = .ok (.slice (some ⟨g, 0, none⟩) i c) w := by
  obtain ⟨ic, hi1, hi2⟩ := size_content
  have := run_append_room_cells (P := Try.prog) w 77 ty 81 ic Try.underlying77 hi1 g 0 i c a 0 m [] (by simp) (fun j u hu => by simp at hu) (fun u hu => by simp at hu) (by omega) (fun j hj => by simp at hj) (fun j hj => by simp at hj)
  simpa [World.setCells] using this
theorem zero_ct (w : World) : (zeroValue 81).run Try.prog w = .ok (.agg #[.int .i64 0, .slice none 0 0]) w := by kernel_rfl
theorem zc_len (n : Nat) : (Builtin.zeroCells #[Value.int .i64 0, .slice none 0 0] n).toList.length = n * 2 := by simp [Builtin.zeroCells]
theorem zc_one (n : Nat) : ∀ v ∈ (Builtin.zeroCells #[Value.int .i64 0, .slice none 0 0] n).toList, v.oneCell' = true := by
  intro v hv
  simp only [Builtin.zeroCells, Array.toList_map, List.mem_map] at hv
  obtain ⟨j, -, rfl⟩ := hv
  have h2 : j % 2 < 2 := Nat.mod_lt _ (by decide)
  show (#[Value.int .i64 0, .slice none 0 0][j % 2]!).oneCell' = true
  rcases (show j % 2 = 0 ∨ j % 2 = 1 by omega) with e | e <;> rw [e] <;> rfl
theorem run_clear (w : World) (g o k c ty : Nat) (cur : Array Value) (hg : w.heap[g]? = some (.cells cur 81 (0, 0))) (hk : 0 < k) (hl : o + k * 2 ≤ cur.size) :
    ∃ cur' : Array Value, (Builtin.clear_ #[77] ty #[.slice (some ⟨g, o, none⟩) k c]).run Try.prog w = .ok (.tuple #[]) (w.setRow g cur') ∧ cur'.size = cur.size ∧ cur'.toList.take o = cur.toList.take o := by
  have hst := run_storeCells_at (P := Try.prog) g o 81 (Builtin.zeroCells #[Value.int .i64 0, .slice none 0 0] k).toList 0 cur w hg (by rw [zc_len]; omega) (zc_one k)
  obtain ⟨k', rfl⟩ : ∃ k', k = k' + 1 := ⟨k - 1, by omega⟩
  refine ⟨(cur.toList.take (o + 0) ++ (Builtin.zeroCells #[Value.int .i64 0, .slice none 0 0] (k' + 1)).toList ++ cur.toList.drop (o + 0 + (Builtin.zeroCells #[Value.int .i64 0, .slice none 0 0] (k' + 1)).toList.length)).toArray, ?_, ?_, ?_⟩
  · simp only [Builtin.clear_, run_underlying Try.underlying77, Sem.run_bind, Result.andThen_ok, zero_ct, Value.cells]
    simp [hst, Result.andThen]
  · rw [List.size_toArray, List.length_append, List.length_append, List.length_take, List.length_drop, zc_len, Array.length_toList]; omega
  · show (cur.toList.take (o + 0) ++ (Builtin.zeroCells #[Value.int .i64 0, .slice none 0 0] (k' + 1)).toList ++ _).take o = _
    rw [Nat.add_zero, List.append_assoc, List.take_append_of_le_length (by rw [List.length_take, Array.length_toList]; omega), List.take_take, Nat.min_self]
theorem wpList_clear {w : World} {ops : Array Oper} {rest : List Oper} {op : Oper} {a : Act} {Q : Exit → Act → World → Prop} (hgd : op.guard = none) (x : Operand)
    (ho : op.op = .call { callee := .builtin .clear, args := #[x], argTypes := #[77] })
    (g o k c : Nat) (cur : Array Value) (hx : a.eval x = .slice (some ⟨g, o, none⟩) k c) (hg : w.heap[g]? = some (.cells cur 81 (0, 0))) (hk : 0 < k) (hl : o + k * 2 ≤ cur.size)
    (h : ∀ cur' : Array Value, cur'.size = cur.size → cur'.toList.take o = cur.toList.take o → wpList Try.prog ops Q rest (a.put op.dst (.tuple #[])) (w.setRow g cur')) : wpList Try.prog ops Q (op :: rest) a w := by
  obtain ⟨cur', e1, e2, e3⟩ := run_clear w g o k c op.type cur hg hk hl
  refine wpList_plain hgd fun K hK => ?_
  unfold Oper.wp
  simp [execOp, ho, resolve, invoke, builtin, hx, e1, Result.andThen]
  exact hK _ _ (h cur' e2 e3)
/-- The end of a list of contents is taken away. -/
def DelIs (w : World) (base : Nat) (v : Value) (n i : Nat) (cs : List Value) (e : Ending) (w' : World) : Prop := ∃ v', e = .returned v' ∧ v'.ownBlock = v.ownBlock ∧ w'.ownsRow base 81 2 v' i (cs.take (i * 2)) ∧ Below base w w' ∧ ∀ k, k < w.heap.size → v.ownBlock ≠ some k → w'.heap[k]? = w.heap[k]?
set_option maxRecDepth 100000 in
set_option maxHeartbeats 1000000 in
theorem Delete_any (w : World) (base : Nat) (v : Value) (n i : Nat) (cs : List Value) (h : w.ownsRow base 81 2 v n cs) (hi : i ≤ n) (hn : n ≤ 100000) :
    Calls Try.prog 50 #[v, .int .i64 i, .int .i64 n] w (DelIs w base v n i cs) := by
  have hni : (n : Int) ≤ 100000 := by omega
  have hii : (i : Int) ≤ (n : Int) := by omega
  obtain ⟨sp, cap, hv⟩ := ownsRow_form h
  by_cases e : i = n
  · subst e
    have hlen := h.1
    have HF : DelIs w base v i i cs (.returned v) w := ⟨v, rfl, rfl, by rw [List.take_of_length_le (by omega)]; exact h, Below.refl _ _, fun _ _ _ => rfl⟩
    have HH := hid HF
    have hcap : i ≤ cap := by
      rcases h.2 with ⟨r1, r2⟩ | ⟨g, c, cur, r1, _, _, r4, _⟩
      · omega
      · rw [hv] at r1; injection r1 with z1 z2 z3; omega
    have hcapi : (i : Int) ≤ (cap : Int) := by omega
    subst hv
    clear h HF hlen
    go_enter Try.func50, Try.ntmps50
    go_wp2
    go_ret
    exact HH.out
  · have hin : i < n := by omega
    obtain ⟨g, c, cur, rfl, hg, hr, hc, hm, hs, ht⟩ : ∃ g c cur, v = .slice (some ⟨g, 0, none⟩) n c ∧ base ≤ g ∧ w.heap[g]? = some (.cells cur 81 (0, 0)) ∧ n ≤ c ∧ c ≤ maxLen ∧ cur.size = c * 2 ∧ cur.toList.take (n * 2) = cs := by
      rcases h.2 with ⟨_, r2⟩ | r
      · omega
      · exact r
    clear hv
    have hci : (n : Int) ≤ (c : Int) := by omega
    have hcm : (c : Int) ≤ 9223372036854775807 := by unfold maxLen at hm; omega
    have hini : (i : Int) < (n : Int) := by omega
    have hne : ((i : Int) == (n : Int)) = false := by simp; omega
    have hne2 : ¬ c = i := by omega
    have hge : base ≤ g := hg
    have HX := hid (And.intro hg (And.intro hr (And.intro hc (And.intro hm (And.intro hs (And.intro ht hin))))))
    have hAP : ∀ (a : Addr) (m ty : Nat) (w : World), (Builtin.append_ #[77, 77] ty #[.slice (some ⟨g, 0, none⟩) i c, .slice (some a) 0 m]).run Try.prog w = .ok (.slice (some ⟨g, 0, none⟩) i c) w := fun a m ty w => run_app0 w g i c m ty a (by omega)
    clear h hr hs ht hg hm
    go_enter Try.func50, Try.ntmps50
    by_cases hcn : c = n
    · obtain rfl : n = c := hcn.symm
      go_wp2_with fail
      go_wp2
      go_quiet (fail)
      obtain ⟨cur', e1, e2, e3⟩ := run_clear (w.drewN nq) g (i * 2) (n - i) (n - i) 0 cur HX.out.2.1 (by omega) (by rw [HX.out.2.2.2.2.1]; omega)
      have HE := hid (And.intro e2 e3)
      clear e2 e3
      go_wp2
      go_ret
      obtain ⟨hg, hr, hc, hm, hs, ht, hin⟩ := HX.out
      obtain ⟨e2, e3⟩ := HE.out
      have hr2 : ((w.drewN nq).setRow g cur').heap[g]? = some (.cells cur' 81 (0, 0)) := setRow_heap _ _ _ _ _ _ (show (w.drewN nq).heap[g]? = _ from hr)
      refine ⟨_, rfl, rfl, ⟨?_, Or.inr ⟨g, n, cur', rfl, hg, hr2, by omega, hm, by rw [e2, hs], ?_⟩⟩, ?_, fun k hk hne => ?_⟩
      · rw [← ht, List.take_take, List.length_take, Array.length_toList, hs]; omega
      · rw [e3, ← ht, List.take_take]; congr 1; omega
      · exact below_setRow (below_drewN (Below.refl _ _) _) hge cur'
      · exact setRow_other (w.drewN nq) g k cur' (fun e => hne (by rw [e]; rfl))
    · go_wp2_with fail
      go_wp2
      go_quiet (fail)
      obtain ⟨cur', e1, e2, e3⟩ := run_clear (w.drewN nq) g (i * 2) (n - i) (c - i) 0 cur HX.out.2.1 (by omega) (by rw [HX.out.2.2.2.2.1]; omega)
      have HE := hid (And.intro e2 e3)
      clear e2 e3
      go_wp2
      go_ret
      obtain ⟨hg, hr, hc, hm, hs, ht, hin⟩ := HX.out
      obtain ⟨e2, e3⟩ := HE.out
      have hr2 : ((w.drewN nq).setRow g cur').heap[g]? = some (.cells cur' 81 (0, 0)) := setRow_heap _ _ _ _ _ _ (show (w.drewN nq).heap[g]? = _ from hr)
      refine ⟨_, rfl, rfl, ⟨?_, Or.inr ⟨g, c, cur', rfl, hg, hr2, by omega, hm, by rw [e2, hs], ?_⟩⟩, ?_, fun k hk hne => ?_⟩
      · rw [← ht, List.take_take, List.length_take, Array.length_toList, hs]; omega
      · rw [e3, ← ht, List.take_take]; congr 1; omega
      · exact below_setRow (below_drewN (Below.refl _ _) _) hge cur'
      · exact setRow_other (w.drewN nq) g k cur' (fun e => hne (by rw [e]; rfl))
end Go.Proofs.Ytihkjfbhmlfonaa
namespace Go.Proofs.Ytihkjfbhmlfonaa
set_option linter.unusedVariables false
set_option linter.unusedSimpArgs false
open Go.RowKit
open Go.Proofs.Ytihkjfbhmlfonaa.Ca (Ct ct0 ctC argV AS)
attribute [local go_sem ↓] Go.wp_at_zero Go.wp_at_succ

theorem flat_take : ∀ (l : List Ct) (i : Nat), (l.flatMap ctC).take (i * 2) = (l.take i).flatMap ctC
  | [], i => by simp
  | c :: l, 0 => by simp
  | c :: l, i + 1 => by
    rw [List.take_succ_cons, List.flatMap_cons, List.flatMap_cons, ← flat_take l i, show (i + 1) * 2 = (ctC c).length + i * 2 by rw [show (ctC c).length = 2 from rfl]; omega, List.take_append, List.take_of_length_le (by omega), Nat.add_sub_cancel_left]
theorem heldL_take : ∀ (l : List Ct) (n : Int) (i : Nat), (heldL n l).take i = heldL n (l.take i)
  | [], n, i => by simp [heldL]
  | c :: l, n, 0 => by simp [heldL]
  | c :: l, n, i + 1 => by simp only [heldL, List.take_succ_cons, heldL_take l (n + 1) i]
theorem getD_takeB {α : Type} (l : List α) (i j : Nat) (d : α) (h : j < i) : (l.take i).getD j d = l.getD j d := by
  simp [List.getD, List.getElem?_take, h]
theorem SK.rewound {w1 w3 w' : World} {base : Nat} {S : Sto} (h : SK w1 base S) (i : Nat) (hi : i ≤ S.cts.length) (v' : Value) (hov : v'.ownBlock = S.sv.ownBlock) (hO : w3.ownsRow base 81 2 v' i ((S.cts.flatMap ctC).take (i * 2))) (hb : Below base w1 w3) (hk : ∀ k, k < w1.heap.size → S.sv.ownBlock ≠ some k → w3.heap[k]? = w1.heap[k]?) (hX : Ca.Nx base S.FC S.pc S.N (w3.setCell ⟨S.st, 3, none⟩ v') (S.a.release i) w') :
    ∃ F2, SK w' base { S with FC := F2, N := S.N + 1, a := S.a.release i, sv := v', cts := S.cts.take i, vs := S.vs.take i } ∧ Fr S.fp w1 w' ∧ Gr w1 S.fp (Sto.fp { S with FC := F2, sv := v' }) := by
  obtain ⟨F2, hC, hF, hG⟩ := hX
  have hs3 : (w3.setCell ⟨S.st, 3, none⟩ v').heap.size = w3.heap.size := World.size_setCell _ _ _
  have s13 := hb.size
  have keep : ∀ k, k < w1.heap.size → S.sv.ownBlock ≠ some k → k ≠ S.st → k ∉ S.FC → w'.heap[k]? = w1.heap[k]? := fun k a b c d => ((hF.block k (by rw [hs3]; omega) d).trans (heap_setCell_other _ ⟨S.st, 3, none⟩ k _ c)).trans (hk k a b)
  have lt : ∀ k, (k = S.g ∨ k = S.st ∨ k ∈ S.F ∨ k ∈ S.FC ∨ S.sv.ownBlock = some k ∨ k ∈ S.lb) → k < w1.heap.size := fun k q => (h.in_lt q).2
  have r3 : w3.heap[S.st]? = some (.cells (stC S.g S.pc S.sv).toArray 79 (0, 0)) := (hk _ h.lt_st (fun e => (h.sv_apart e).2.1 rfl)).trans h.sk
  have r4 : (w3.setCell ⟨S.st, 3, none⟩ v').heap[S.st]? = some (.cells (stC S.g S.pc v').toArray 79 (0, 0)) := by rw [heap_setCell_same _ _ _ _ _ _ r3]; rfl
  have r5 : w'.heap[S.st]? = some (.cells (stC S.g S.pc v').toArray 79 (0, 0)) := (hF.block S.st (hlt_ r4) h.st_apart.2.2.1).trans r4
  have hl : ∀ k ∈ S.lb, w'.heap[k]? = w1.heap[k]? := fun k q => keep k (lt k (by simp [q])) (fun e => (h.sv_apart e).2.2.2.2 q) (fun e => h.st_apart.2.2.2 (e ▸ q)) (fun z => h.a3 k z q)
  have hF2 : ∀ k ∈ F2, k ∈ S.FC ∨ w3.heap.size ≤ k := fun k q => (hG k q).imp id (fun z => by rw [hs3] at z; exact z)
  have hlen : (S.cts.take i).length = i := by rw [List.length_take]; omega
  refine ⟨F2, ⟨h.da.of_heap fun k q => keep k (lt k (by simp [q])) (fun e => (h.sv_apart e).2.2.1 q) (fun e => h.st_apart.2.1 (e ▸ q)) (h.a1 k q), ?_, hC, r5, ?_, fun k q => ⟨(h.lb k q).1, ?_⟩, ?_, fun j hj => ?_, fun x hx => ?_, ?_, fun k q z => ?_, h.a2, fun k q z => ?_, h.bg, h.bs, h.bp⟩, ?_, ?_⟩
  · exact (keep S.g (lt _ (by simp)) (fun e => (h.sv_apart e).1 rfl) (fun e => h.st_apart.1 e.symm) h.g_apart.2.1).trans h.fk
  · show w'.ownsRow base 81 2 v' (S.cts.take i).length ((S.cts.take i).flatMap ctC)
    rw [hlen, ← flat_take]
    refine ownsRow_heap hO fun k e => ?_
    rw [hov] at e
    have hk1 := lt k (by simp [e])
    exact (hF.block k (by rw [hs3]; omega) (h.sv_apart e).2.2.2.1).trans (heap_setCell_other _ ⟨S.st, 3, none⟩ k _ (h.sv_apart e).2.1)
  · obtain ⟨cs, hc⟩ := (h.lb k q).2
    exact ⟨cs, (hl k q).trans hc⟩
  · show (S.cts.take i).length = (S.vs.take i).length
    rw [hlen, List.length_take, ← h.cl]; omega
  · have hj2 : j < i := by have : j < (S.cts.take i).length := hj; omega
    show CtIs w' base S.lb ((S.cts.take i).getD j ct0) ((S.vs.take i).getD j (0, []))
    rw [getD_takeB _ _ _ _ hj2, getD_takeB _ _ _ _ hj2]
    exact (h.cv j (by omega)).to (fun k q => q) hl
  · obtain ⟨v, c1, c2, c3, c4⟩ := h.ck x hx
    exact ⟨v, c1.to (fun k q => q) hl, c2, c3, c4⟩
  · show S.a.held.take i = heldL S.s.ma (S.cts.take i)
    rw [h.hd, heldL_take]
  · rcases hF2 k z with e | e
    · exact h.a1 k q e
    · have := lt k (by simp [show k ∈ S.F from q]); omega
  · rcases hF2 k q with e | e
    · exact h.a3 k e z
    · have := lt k (by simp [show k ∈ S.lb from z]); omega
  · refine ⟨hF.os.trans hb.os, hF.tape.trans hb.tape, hF.output.trans hb.output, by have := hF.size; rw [hs3] at this; omega, fun k a hn => ?_⟩
    have hm := mt (Sto.mem S k).2 hn
    exact keep k a (fun e => hm (by simp [e])) (fun e => hm (by simp [e])) (fun e => hm (by simp [e]))
  · intro k q
    rcases (Sto.mem _ k).1 q with e | e | e | e | e | e
    · exact Or.inl ((Sto.mem S k).2 (Or.inl e))
    · exact Or.inl ((Sto.mem S k).2 (Or.inr (Or.inl e)))
    · exact Or.inl ((Sto.mem S k).2 (Or.inr (Or.inr (Or.inl e))))
    · exact (hF2 k e).imp (fun z => (Sto.mem S k).2 (by simp [z])) (fun z => by omega)
    · exact Or.inl ((Sto.mem S k).2 (Or.inr (Or.inr (Or.inr (Or.inr (Or.inl e))))))
    · exact Or.inl ((Sto.mem S k).2 (Or.inr (Or.inr (Or.inr (Or.inr (Or.inr (hov ▸ e)))))))
set_option maxRecDepth 100000 in
set_option maxHeartbeats 1000000 in
/-- Rewind to a number from the mark on. -/
theorem oRewind_any (w : World) (base : Nat) (S : Sto) (h : SK w base S) (hlv : liveF S.D S.ep = 0) (hl : S.cts.length ≤ 100000) (hm : 0 ≤ S.s.ma ∧ S.s.ma ≤ 100000) (hN : S.N < 3000000000000000000) (i : Nat) (hi : i ≤ S.cts.length) (x : Int) (hx : x = S.s.ma + (i : Int)) :
    Calls Try.prog 26 #[.pointer (some ⟨S.st, 0, none⟩), .int .i64 x] w fun e w' => ∃ F2 v', e = .returned (.int .i64 0) ∧ SK w' base { S with FC := F2, N := S.N + 1, a := S.a.release i, sv := v', cts := S.cts.take i, vs := S.vs.take i } ∧ Fr S.fp w w' ∧ Gr w S.fp (Sto.fp { S with FC := F2, sv := v' }) := by
  have hbw := h.base
  refine Calls.mono ?_ (fun e w' (z : ∃ w3 v' w4, e = .returned (.int .i64 0) ∧ Below w.heap.size w w3 ∧ v'.ownBlock = S.sv.ownBlock ∧ w4.ownsRow base 81 2 v' i ((S.cts.flatMap ctC).take (i * 2)) ∧ Below base w3 w4 ∧ (∀ k, k < w3.heap.size → S.sv.ownBlock ≠ some k → w4.heap[k]? = w3.heap[k]?) ∧ Ca.Nx base S.FC S.pc S.N (w4.setCell ⟨S.st, 3, none⟩ v') (S.a.release i) w') => by
    obtain ⟨w3, v', w4, he, hB, h1, h2, h3, h4, h5⟩ := z
    obtain ⟨F2, k1, k2, k3⟩ := (h.below hB).rewound i hi v' h1 h2 h3 h4 h5
    exact ⟨F2, v', he, k1, (Fr.of_below (F := S.fp) hB).trans k2 (Gr.refl _ _), fun k q => (k3 k q).imp id (fun z => Nat.le_trans hB.size z)⟩)
  have HL := hid (oLive_any w base S h)
  rw [hlv] at HL
  have HM := hid (fun w1 (q : Below w.heap.size w w1) => omark_any w1 base S (h.below q))
  have HN := hid (fun w1 (q : Below w.heap.size w w1) => oNext_any w1 base S (h.below q) hl hm)
  have HH := hid (fun w1 (q : Below w.heap.size w w1) => h.below q)
  have hni : (S.cts.length : Int) ≤ 100000 := by omega
  have hii : (i : Int) ≤ (S.cts.length : Int) := by omega
  obtain ⟨svp, svc, esv⟩ := h.svf
  have HE := hid esv
  have Hi := hid hi
  have Hl := hid hl
  have HNN := hid hN
  obtain ⟨m0, m1⟩ := hm
  clear h hlv hl hi esv hN
  generalize hma : S.s.ma = ma at *
  generalize hn : S.cts.length = n at *
  generalize hst : S.st = st at *
  have Hma := hid hma
  have Hn := hid hn
  have Hst := hid hst
  have hxi : x - ma = (i : Int) := by omega
  have hlo : ¬ x < ma := by omega
  have hhi : ¬ ma + (n : Int) < x := by omega
  have hw : IntKind.i64.wrap (x - ma) = (i : Int) := by rw [hxi]; exact wrap_i64_id _ (by omega) (by omega)
  clear hma hn hst hx hxi
  go_enter Try.func26, Try.ntmps26
  go_wp2_with fail
  refine HL.out.mono ?_
  rintro e w1 ⟨rfl, hb1⟩
  have HB1 := hid hb1
  clear hb1 HL
  go_wp2_with fail
  refine (HM.out w1 HB1.out).mono ?_
  rintro e w2 ⟨rfl, hb2⟩
  have HB2 := hid (HB1.out.trans (hb2.mono HB1.out.size))
  clear hb2 HB1 w1
  go_wp2_with fail
  refine (HN.out w2 HB2.out).mono ?_
  rintro e w1 ⟨rfl, hb1⟩
  have HB1 := hid (HB2.out.trans (hb1.mono HB2.out.size))
  clear hb1 HB2 w2 HN
  go_wp2_with fail
  refine (HM.out w1 HB1.out).mono ?_
  rintro e w3 ⟨rfl, hb3⟩
  have HB3 := hid (HB1.out.trans (hb3.mono HB1.out.size))
  clear hb3 HB1 w1 HM
  go_wp2
  have H3 := hid (HH.out w3 HB3.out)
  have c3d : w3.drew.cell? ⟨st, 3, none⟩ = some (.slice svp n svc) := by rw [← Hst.out, ← HE.out]; exact H3.out.drew.c3
  have HDL : Hid (Calls Try.prog 50 #[.slice svp n svc, .int .i64 i, .int .i64 n] w3.drew (DelIs w3.drew base (.slice svp n svc) n i (S.cts.flatMap ctC))) := hid (Delete_any w3.drew base _ n i _ (by rw [← HE.out, ← Hn.out]; exact H3.out.drew.so) (by have := Hi.out; omega) Hl.out)
  have HS4 : Hid (∀ (w4 : World) (v4 : Value), v4.ownBlock = (Value.slice svp n svc).ownBlock → Below base w3.drew w4 → (∀ k, k < w3.drew.heap.size → (Value.slice svp n svc).ownBlock ≠ some k → w4.heap[k]? = w3.drew.heap[k]?) → w4.cell? ⟨st, 3, none⟩ = some (.slice svp n svc) ∧ w4.frozen? ⟨st, 3, none⟩ = false ∧ Ca.CA (w4.setCell ⟨st, 3, none⟩ v4) base S.FC S.pc S.N S.a ∧ (w4.setCell ⟨st, 3, none⟩ v4).cell? ⟨st, 2, none⟩ = some (.pointer (some ⟨S.pc, 0, none⟩))) := hid (fun w4 v4 _ _ hk => by
    rw [← HE.out] at hk
    rw [← HE.out, ← Hst.out]
    have h3 := H3.out.drew
    have r3 : w4.heap[S.st]? = some (.cells (stC S.g S.pc S.sv).toArray 79 (0, 0)) := (hk _ h3.lt_st (fun e => (h3.sv_apart e).2.1 rfl)).trans h3.sk
    have r4 : (w4.setCell ⟨S.st, 3, none⟩ v4).heap[S.st]? = some (.cells (stC S.g S.pc v4).toArray 79 (0, 0)) := by rw [heap_setCell_same _ _ _ _ _ _ r3]; rfl
    refine ⟨by rw [cell_of_row _ _ _ _ _ _ r3]; rfl, frozen_of_row _ _ _ _ _ r3, ?_, by rw [cell_of_row _ _ _ _ _ _ r4]; rfl⟩
    obtain ⟨mm, nn, s, L, e, c, r⟩ := h3.ca
    exact ⟨mm, nn, s, L, e, c.of_heap fun k hk2 => (heap_setCell_other _ ⟨S.st, 3, none⟩ k _ (fun q => h3.st_apart.2.2.1 (by rw [← show k = S.st from q, e]; exact hk2))).trans (hk k (h3.in_lt (by rw [e]; simp [hk2])).2 (fun q => (h3.sv_apart q).2.2.2.1 (by rw [e]; exact hk2))), r⟩)
  have HRE : Hid (∀ W5 : World, Ca.CA W5 base S.FC S.pc S.N S.a → Calls Try.prog 51 #[.pointer (some ⟨S.pc, 0, none⟩), .int .i64 i] W5 fun x w' => x = .returned (.tuple #[]) ∧ Ca.Nx base S.FC S.pc S.N W5 (S.a.release i) w') := hid (fun W5 q => Ca.Release_any W5 base S.FC S.pc S.N S.a q (i : Int) HNN.out)
  have HFN : Hid (∀ (w4 w6 : World) (v4 : Value), v4.ownBlock = (Value.slice svp n svc).ownBlock → w4.ownsRow base 81 2 v4 i ((S.cts.flatMap ctC).take (i * 2)) → Below base w3.drew w4 → (∀ k, k < w3.drew.heap.size → (Value.slice svp n svc).ownBlock ≠ some k → w4.heap[k]? = w3.drew.heap[k]?) → Ca.Nx base S.FC S.pc S.N (w4.setCell ⟨st, 3, none⟩ v4) (S.a.release i) w6 → ∃ w3 v' w4, Below w.heap.size w w3 ∧ v'.ownBlock = S.sv.ownBlock ∧ w4.ownsRow base 81 2 v' i ((S.cts.flatMap ctC).take (i * 2)) ∧ Below base w3 w4 ∧ (∀ k, k < w3.heap.size → S.sv.ownBlock ≠ some k → w4.heap[k]? = w3.heap[k]?) ∧ Ca.Nx base S.FC S.pc S.N (w4.setCell ⟨st, 3, none⟩ v') (S.a.release i) w6) := hid (fun w4 w6 v4 a b c d e => ⟨w3.drew, v4, w4, HB3.out.drew, by rw [HE.out]; exact a, b, c, by rw [HE.out]; exact d, e⟩)
  refine wp_region_noPanic ?_
  refine wp_region_held_drew (S := fun _ => True) (by kernel_rfl) trivial (fun hHeld => ?_)
  refine wpAnyH_take (i := 0) (oi := { dst := some 26, op := Op.move (Operand.tmp 0), type := 27, pos := "store.go:119", after := #[], guard := none }) (v := .pointer (some ⟨st, 0, none⟩)) rfl (by kernel_rfl) (by kernel_rfl) (by kernel_rfl) (fun _ _ _ h => h) (Or.inl ⟨by rfl, by intro w hS; go_simp⟩) hHeld ?_
  try simp only [Act.put, List.setIfInBounds_toArray, List.set_cons_zero, List.set_cons_succ]
  refine wpAnyH_take (i := 1) (oi := { dst := some 27, op := Op.move (Operand.tmp 0), type := 27, pos := "store.go:119", after := #[], guard := none }) (v := .pointer (some ⟨st, 0, none⟩)) rfl (by kernel_rfl) (by kernel_rfl) (by kernel_rfl) (fun _ _ _ h => h) (Or.inl ⟨by rfl, by intro w hS; go_simp⟩) hHeld ?_
  try simp only [Act.put, List.setIfInBounds_toArray, List.set_cons_zero, List.set_cons_succ]
  refine wpAnyH_take (i := 5) (oi := { dst := some 31, op := Op.move (Operand.tmp 6), type := 3, pos := "store.go:119", after := #[], guard := none }) (v := .int .i64 i) rfl (by kernel_rfl) (by kernel_rfl) (by kernel_rfl) (fun _ _ _ h => h) (Or.inl ⟨by rfl, by intro w hS; go_simp⟩) hHeld ?_
  try simp only [Act.put, List.setIfInBounds_toArray, List.set_cons_zero, List.set_cons_succ]
  refine wpAnyH_take (i := 6) (oi := { dst := some 32, op := Op.move (Operand.tmp 0), type := 27, pos := "store.go:119", after := #[], guard := none }) (v := .pointer (some ⟨st, 0, none⟩)) rfl (by kernel_rfl) (by kernel_rfl) (by kernel_rfl) (fun _ _ _ h => h) (Or.inl ⟨by rfl, by intro w hS; go_simp⟩) hHeld ?_
  try simp only [Act.put, List.setIfInBounds_toArray, List.set_cons_zero, List.set_cons_succ]
  refine wpAnyH_take (i := 2) (oi := { dst := some 28, op := Op.nilCheck (Operand.tmp 27), type := 0, pos := "store.go:119", after := #[{ on := 1, ground := Ground.data }], guard := none }) (v := .pointer (some ⟨st, 0, none⟩)) rfl (by kernel_rfl) (by kernel_rfl) (by kernel_rfl) (fun _ _ _ h => h) (Or.inl ⟨by rfl, by intro w hS; go_simp⟩) hHeld ?_
  try simp only [Act.put, List.setIfInBounds_toArray, List.set_cons_zero, List.set_cons_succ]
  refine wpAnyH_take (i := 7) (oi := { dst := some 33, op := Op.nilCheck (Operand.tmp 32), type := 0, pos := "store.go:119", after := #[{ on := 6, ground := Ground.data }], guard := none }) (v := .pointer (some ⟨st, 0, none⟩)) rfl (by kernel_rfl) (by kernel_rfl) (by kernel_rfl) (fun _ _ _ h => h) (Or.inl ⟨by rfl, by intro w hS; go_simp⟩) hHeld ?_
  try simp only [Act.put, List.setIfInBounds_toArray, List.set_cons_zero, List.set_cons_succ]
  refine wpAnyH_take (i := 3) (oi := { dst := some 29, op := Op.fieldAddr 79 (Operand.tmp 28) 3, type := 0, pos := "store.go:119", after := #[{ on := 2, ground := Ground.data }], guard := none }) (v := .pointer (some ⟨st, 3, none⟩)) rfl (by kernel_rfl) (by kernel_rfl) (by kernel_rfl) (fun _ _ _ h => h) (Or.inl ⟨by rfl, by intro w hS; go_simp⟩) hHeld ?_
  try simp only [Act.put, List.setIfInBounds_toArray, List.set_cons_zero, List.set_cons_succ]
  refine wpAnyH_take (i := 8) (oi := { dst := some 34, op := Op.fieldAddr 79 (Operand.tmp 33) 3, type := 0, pos := "store.go:119", after := #[{ on := 7, ground := Ground.data }], guard := none }) (v := .pointer (some ⟨st, 3, none⟩)) rfl (by kernel_rfl) (by kernel_rfl) (by kernel_rfl) (fun _ _ _ h => h) (Or.inl ⟨by rfl, by intro w hS; go_simp⟩) hHeld ?_
  try simp only [Act.put, List.setIfInBounds_toArray, List.set_cons_zero, List.set_cons_succ]
  refine wpAnyH_ready (rs := [4, 9]) (by kernel_rfl) (by simp) ?_
  refine (AllReadyH.cons (o := { dst := some 30, op := Op.load 77 (Operand.tmp 29), type := 77, pos := "store.go:119", after := #[{ on := 3, ground := Ground.data }], guard := none }) rfl (fun K hK => ?_) (AllReadyH.cons (o := { dst := some 35, op := Op.load 77 (Operand.tmp 34), type := 77, pos := "store.go:119", after := #[{ on := 8, ground := Ground.data }], guard := none }) rfl (fun K hK => ?_) AllReadyH.nil))
  · skip
    go_simp
    refine hK.out _ _ (trivial) (fun hHeld2 => ?_)
    clear hK K hHeld
    have hHeld := hHeld2
    clear hHeld2
    try simp only [Act.put, List.setIfInBounds_toArray, List.set_cons_zero, List.set_cons_succ]
    refine wpAnyH_ready (rs := [9]) (by kernel_rfl) (by simp) ?_
    refine (AllReadyH.cons (o := { dst := some 35, op := Op.load 77 (Operand.tmp 34), type := 77, pos := "store.go:119", after := #[{ on := 8, ground := Ground.data }], guard := none }) rfl (fun K hK => ?_) AllReadyH.nil)
    go_simp
    refine hK.out _ _ (trivial) (fun hHeld2 => ?_)
    clear hK K hHeld
    have hHeld := hHeld2
    clear hHeld2
    try simp only [Act.put, List.setIfInBounds_toArray, List.set_cons_zero, List.set_cons_succ]
    refine wpAnyH_take (i := 10) (oi := { dst := some 36, op := Op.call { callee := Callee.builtin Builtin.len, args := #[Operand.tmp 35], argTypes := #[77] }, type := 3, pos := "store.go:119", after := #[{ on := 9, ground := Ground.data }], guard := none }) (v := .int .i64 n) rfl (by kernel_rfl) (by kernel_rfl) (by kernel_rfl) (fun _ _ _ h => h) (Or.inl ⟨by rfl, by intro w hS; go_simp⟩) hHeld ?_
    try simp only [Act.put, List.setIfInBounds_toArray, List.set_cons_zero, List.set_cons_succ]
    refine wpAnyH_ready (rs := [11]) (by kernel_rfl) (by simp) ?_
    refine (AllReadyH.cons (o := { dst := some 37, op := Op.call { callee := Callee.value (Operand.func 50), args := #[Operand.tmp 30, Operand.tmp 31, Operand.tmp 36], argTypes := #[77, 3, 3] }, type := 77, pos := "store.go:119", after := #[{ on := 4, ground := Ground.data }, { on := 5, ground := Ground.data }, { on := 10, ground := Ground.data }], guard := none }) rfl (fun K hK => ?_) AllReadyH.nil)
    go_simp
    go_at_call 50
    refine (HDL.out).mono ?_
    rintro e w4 ⟨v4, rfl, hob, hO4, hb4, hk4⟩
    obtain ⟨sp4, cap4, rfl⟩ := ownsRow_form hO4
    obtain ⟨q1, q2, q3, q4⟩ := HS4.out w4 (.slice sp4 i cap4) hob hb4 hk4
    have HB4 := hid hb4
    have HOB := hid hob
    have HO4 := hid hO4
    have HK4 := hid hk4
    clear hb4 hob hO4 hk4
    go_wp2_with fail
    refine hK.out _ _ (trivial) (fun hHeld2 => ?_)
    clear hK K hHeld
    have hHeld := hHeld2
    clear hHeld2
    try simp only [Act.put, List.setIfInBounds_toArray, List.set_cons_zero, List.set_cons_succ]
    refine wpAnyH_take (i := 12) (oi := { dst := some 38, op := Op.nilCheck (Operand.tmp 26), type := 0, pos := "store.go:119", after := #[{ on := 0, ground := Ground.data }, { on := 0, ground := Ground.phase }, { on := 1, ground := Ground.phase }, { on := 2, ground := Ground.phase }, { on := 3, ground := Ground.phase }, { on := 4, ground := Ground.phase }, { on := 5, ground := Ground.phase }, { on := 6, ground := Ground.phase }, { on := 7, ground := Ground.phase }, { on := 8, ground := Ground.phase }, { on := 9, ground := Ground.phase }, { on := 10, ground := Ground.phase }, { on := 11, ground := Ground.phase }], guard := none }) (v := .pointer (some ⟨st, 0, none⟩)) rfl (by kernel_rfl) (by kernel_rfl) (by kernel_rfl) (fun _ _ _ h => h) (Or.inl ⟨by rfl, by intro w hS; go_simp⟩) hHeld ?_
    try simp only [Act.put, List.setIfInBounds_toArray, List.set_cons_zero, List.set_cons_succ]
    refine wpAnyH_take (i := 13) (oi := { dst := some 39, op := Op.fieldAddr 79 (Operand.tmp 38) 3, type := 0, pos := "store.go:119", after := #[{ on := 12, ground := Ground.data }, { on := 0, ground := Ground.phase }, { on := 1, ground := Ground.phase }, { on := 2, ground := Ground.phase }, { on := 3, ground := Ground.phase }, { on := 4, ground := Ground.phase }, { on := 5, ground := Ground.phase }, { on := 6, ground := Ground.phase }, { on := 7, ground := Ground.phase }, { on := 8, ground := Ground.phase }, { on := 9, ground := Ground.phase }, { on := 10, ground := Ground.phase }, { on := 11, ground := Ground.phase }], guard := none }) (v := .pointer (some ⟨st, 3, none⟩)) rfl (by kernel_rfl) (by kernel_rfl) (by kernel_rfl) (fun _ _ _ h => h) (Or.inl ⟨by rfl, by intro w hS; go_simp⟩) hHeld ?_
    try simp only [Act.put, List.setIfInBounds_toArray, List.set_cons_zero, List.set_cons_succ]
    refine wpAnyH_ready (rs := [14]) (by kernel_rfl) (by simp) ?_
    refine (AllReadyH.cons (o := { dst := none, op := Op.store 77 (Operand.tmp 39) (Operand.tmp 37), type := 0, pos := "store.go:119", after := #[{ on := 13, ground := Ground.data }, { on := 11, ground := Ground.data }, { on := 11, ground := Ground.chain }, { on := 0, ground := Ground.phase }, { on := 1, ground := Ground.phase }, { on := 2, ground := Ground.phase }, { on := 3, ground := Ground.phase }, { on := 4, ground := Ground.phase }, { on := 5, ground := Ground.phase }, { on := 6, ground := Ground.phase }, { on := 7, ground := Ground.phase }, { on := 8, ground := Ground.phase }, { on := 9, ground := Ground.phase }, { on := 10, ground := Ground.phase }, { on := 11, ground := Ground.phase }], guard := none }) rfl (fun K hK => ?_) AllReadyH.nil)
    go_simp
    refine hK.out _ _ (trivial) (fun hHeld2 => ?_)
    clear hK K hHeld
    have hHeld := hHeld2
    clear hHeld2
    try simp only [Act.put, List.setIfInBounds_toArray, List.set_cons_zero, List.set_cons_succ]
    refine wpAnyH_done (by kernel_rfl) ?_ _
    refine NoPanic.normal ?_
    clear hHeld
    have HRL := hid (HRE.out _ q3)
    have q4b := q4
    clear q3 q4 HS4 HRE
    generalize hW5 : w4.setCell ⟨st, 3, none⟩ (.slice sp4 i cap4) = W5 at *
    have HW5 := hid hW5
    clear hW5
    go_wp2_with fail
    refine HRL.out.mono ?_
    rintro e w6 ⟨rfl, hX⟩
    have HX := hid hX
    clear hX HRL
    go_wp2
    go_ret
    exact (fun z => by obtain ⟨a1, a2, a3, a4⟩ := z; exact ⟨a1, a2, a3, rfl, a4⟩) (HFN.out w4 w6 _ HOB.out HO4.out HB4.out HK4.out (by rw [HW5.out]; exact HX.out))
  · skip
    go_simp
    refine hK.out _ _ (trivial) (fun hHeld2 => ?_)
    clear hK K hHeld
    have hHeld := hHeld2
    clear hHeld2
    try simp only [Act.put, List.setIfInBounds_toArray, List.set_cons_zero, List.set_cons_succ]
    refine wpAnyH_take (i := 10) (oi := { dst := some 36, op := Op.call { callee := Callee.builtin Builtin.len, args := #[Operand.tmp 35], argTypes := #[77] }, type := 3, pos := "store.go:119", after := #[{ on := 9, ground := Ground.data }], guard := none }) (v := .int .i64 n) rfl (by kernel_rfl) (by kernel_rfl) (by kernel_rfl) (fun _ _ _ h => h) (Or.inl ⟨by rfl, by intro w hS; go_simp⟩) hHeld ?_
    try simp only [Act.put, List.setIfInBounds_toArray, List.set_cons_zero, List.set_cons_succ]
    refine wpAnyH_ready (rs := [4]) (by kernel_rfl) (by simp) ?_
    refine (AllReadyH.cons (o := { dst := some 30, op := Op.load 77 (Operand.tmp 29), type := 77, pos := "store.go:119", after := #[{ on := 3, ground := Ground.data }], guard := none }) rfl (fun K hK => ?_) AllReadyH.nil)
    go_simp
    refine hK.out _ _ (trivial) (fun hHeld2 => ?_)
    clear hK K hHeld
    have hHeld := hHeld2
    clear hHeld2
    try simp only [Act.put, List.setIfInBounds_toArray, List.set_cons_zero, List.set_cons_succ]
    refine wpAnyH_ready (rs := [11]) (by kernel_rfl) (by simp) ?_
    refine (AllReadyH.cons (o := { dst := some 37, op := Op.call { callee := Callee.value (Operand.func 50), args := #[Operand.tmp 30, Operand.tmp 31, Operand.tmp 36], argTypes := #[77, 3, 3] }, type := 77, pos := "store.go:119", after := #[{ on := 4, ground := Ground.data }, { on := 5, ground := Ground.data }, { on := 10, ground := Ground.data }], guard := none }) rfl (fun K hK => ?_) AllReadyH.nil)
    go_simp
    go_at_call 50
    refine (HDL.out).mono ?_
    rintro e w4 ⟨v4, rfl, hob, hO4, hb4, hk4⟩
    obtain ⟨sp4, cap4, rfl⟩ := ownsRow_form hO4
    obtain ⟨q1, q2, q3, q4⟩ := HS4.out w4 (.slice sp4 i cap4) hob hb4 hk4
    have HB4 := hid hb4
    have HOB := hid hob
    have HO4 := hid hO4
    have HK4 := hid hk4
    clear hb4 hob hO4 hk4
    go_wp2_with fail
    refine hK.out _ _ (trivial) (fun hHeld2 => ?_)
    clear hK K hHeld
    have hHeld := hHeld2
    clear hHeld2
    try simp only [Act.put, List.setIfInBounds_toArray, List.set_cons_zero, List.set_cons_succ]
    refine wpAnyH_take (i := 12) (oi := { dst := some 38, op := Op.nilCheck (Operand.tmp 26), type := 0, pos := "store.go:119", after := #[{ on := 0, ground := Ground.data }, { on := 0, ground := Ground.phase }, { on := 1, ground := Ground.phase }, { on := 2, ground := Ground.phase }, { on := 3, ground := Ground.phase }, { on := 4, ground := Ground.phase }, { on := 5, ground := Ground.phase }, { on := 6, ground := Ground.phase }, { on := 7, ground := Ground.phase }, { on := 8, ground := Ground.phase }, { on := 9, ground := Ground.phase }, { on := 10, ground := Ground.phase }, { on := 11, ground := Ground.phase }], guard := none }) (v := .pointer (some ⟨st, 0, none⟩)) rfl (by kernel_rfl) (by kernel_rfl) (by kernel_rfl) (fun _ _ _ h => h) (Or.inl ⟨by rfl, by intro w hS; go_simp⟩) hHeld ?_
    try simp only [Act.put, List.setIfInBounds_toArray, List.set_cons_zero, List.set_cons_succ]
    refine wpAnyH_take (i := 13) (oi := { dst := some 39, op := Op.fieldAddr 79 (Operand.tmp 38) 3, type := 0, pos := "store.go:119", after := #[{ on := 12, ground := Ground.data }, { on := 0, ground := Ground.phase }, { on := 1, ground := Ground.phase }, { on := 2, ground := Ground.phase }, { on := 3, ground := Ground.phase }, { on := 4, ground := Ground.phase }, { on := 5, ground := Ground.phase }, { on := 6, ground := Ground.phase }, { on := 7, ground := Ground.phase }, { on := 8, ground := Ground.phase }, { on := 9, ground := Ground.phase }, { on := 10, ground := Ground.phase }, { on := 11, ground := Ground.phase }], guard := none }) (v := .pointer (some ⟨st, 3, none⟩)) rfl (by kernel_rfl) (by kernel_rfl) (by kernel_rfl) (fun _ _ _ h => h) (Or.inl ⟨by rfl, by intro w hS; go_simp⟩) hHeld ?_
    try simp only [Act.put, List.setIfInBounds_toArray, List.set_cons_zero, List.set_cons_succ]
    refine wpAnyH_ready (rs := [14]) (by kernel_rfl) (by simp) ?_
    refine (AllReadyH.cons (o := { dst := none, op := Op.store 77 (Operand.tmp 39) (Operand.tmp 37), type := 0, pos := "store.go:119", after := #[{ on := 13, ground := Ground.data }, { on := 11, ground := Ground.data }, { on := 11, ground := Ground.chain }, { on := 0, ground := Ground.phase }, { on := 1, ground := Ground.phase }, { on := 2, ground := Ground.phase }, { on := 3, ground := Ground.phase }, { on := 4, ground := Ground.phase }, { on := 5, ground := Ground.phase }, { on := 6, ground := Ground.phase }, { on := 7, ground := Ground.phase }, { on := 8, ground := Ground.phase }, { on := 9, ground := Ground.phase }, { on := 10, ground := Ground.phase }, { on := 11, ground := Ground.phase }], guard := none }) rfl (fun K hK => ?_) AllReadyH.nil)
    go_simp
    refine hK.out _ _ (trivial) (fun hHeld2 => ?_)
    clear hK K hHeld
    have hHeld := hHeld2
    clear hHeld2
    try simp only [Act.put, List.setIfInBounds_toArray, List.set_cons_zero, List.set_cons_succ]
    refine wpAnyH_done (by kernel_rfl) ?_ _
    refine NoPanic.normal ?_
    clear hHeld
    have HRL := hid (HRE.out _ q3)
    have q4b := q4
    clear q3 q4 HS4 HRE
    generalize hW5 : w4.setCell ⟨st, 3, none⟩ (.slice sp4 i cap4) = W5 at *
    have HW5 := hid hW5
    clear hW5
    go_wp2_with fail
    refine HRL.out.mono ?_
    rintro e w6 ⟨rfl, hX⟩
    have HX := hid hX
    clear hX HRL
    go_wp2
    go_ret
    exact (fun z => by obtain ⟨a1, a2, a3, a4⟩ := z; exact ⟨a1, a2, a3, rfl, a4⟩) (HFN.out w4 w6 _ HOB.out HO4.out HB4.out HK4.out (by rw [HW5.out]; exact HX.out))
set_option maxRecDepth 100000 in
/-- Rewind to a number that is none. -/
theorem oRewind_bad (w : World) (base : Nat) (S : Sto) (h : SK w base S) (hlv : liveF S.D S.ep = 0) (hl : S.cts.length ≤ 100000) (hm : 0 ≤ S.s.ma ∧ S.s.ma ≤ 100000) (x : Int) (hx : x < S.s.ma ∨ S.s.ma + S.cts.length < x) :
    Calls Try.prog 26 #[.pointer (some ⟨S.st, 0, none⟩), .int .i64 x] w fun e w' => e = .returned (.int .i64 1) ∧ Below w.heap.size w w' := by
  have HL := hid (oLive_any w base S h)
  rw [hlv] at HL
  have HM := hid (fun w1 (q : Below w.heap.size w w1) => omark_any w1 base S (h.below q))
  have HN := hid (fun w1 (q : Below w.heap.size w w1) => oNext_any w1 base S (h.below q) hl hm)
  clear h hlv hl hm
  by_cases k1 : x < S.s.ma
  · clear hx HN
    go_enter Try.func26, Try.ntmps26
    go_wp2_with fail
    refine HL.out.mono ?_
    rintro e w1 ⟨rfl, hb1⟩
    have HB1 := hid hb1
    clear hb1 HL
    go_wp2_with fail
    refine (HM.out w1 HB1.out).mono ?_
    rintro e w2 ⟨rfl, hb2⟩
    have HB2 := hid (HB1.out.trans (hb2.mono HB1.out.size))
    clear hb2 HB1 w1
    go_wp2
    go_ret
    exact ⟨rfl, HB2.out⟩
  · have k2 : S.s.ma + (S.cts.length : Int) < x := hx.resolve_left k1
    clear hx
    go_enter Try.func26, Try.ntmps26
    go_wp2_with fail
    refine HL.out.mono ?_
    rintro e w1 ⟨rfl, hb1⟩
    have HB1 := hid hb1
    clear hb1 HL
    go_wp2_with fail
    refine (HM.out w1 HB1.out).mono ?_
    rintro e w2 ⟨rfl, hb2⟩
    have HB2 := hid (HB1.out.trans (hb2.mono HB1.out.size))
    clear hb2 HB1 w1
    go_wp2_with fail
    refine (HN.out w2 HB2.out).mono ?_
    rintro e w1 ⟨rfl, hb1⟩
    have HB1 := hid (HB2.out.trans (hb1.mono HB2.out.size))
    clear hb1 HB2 w2 HN
    go_wp2
    go_ret
    exact ⟨rfl, HB1.out⟩
end Go.Proofs.Ytihkjfbhmlfonaa
