import Derived.Test.YtjhocjjecfdphaaGreatDoorQ19
namespace Go.Proofs.YtjhocjjecfdphaaGreatDoor
set_option linter.unusedVariables false
set_option linter.unusedSimpArgs false
set_option maxRecDepth 100000
set_option maxHeartbeats 4000000
section
open Go.RowKit
attribute [local go_sem ↓] Go.wp_at_zero Go.wp_at_succ
def newR (b : List Int) : RF := ⟨b, [], 0, false, 0, 0⟩
theorem buildR (sp : Option Addr) (n c : Nat) (w : World) :
   (Instr.build 134 #[(0, .slice sp n c)]).run Tryz.prog w = .ok (.agg #[.slice sp n c, .slice none 0 0, .int .i64 0, .bool false, .int .i64 0, .int .i64 0]) w := by kernel_rfl
theorem rk_new {w1 : World} {base : Nat} {sp : Option Addr} {l c : Nat} {zs : List Int} (hO : Own w1 base (.slice sp l c) zs) (hb : base ≤ w1.heap.size) : RK (w1.alloc (.cells #[.slice sp l c, .slice none 0 0, .int .i64 0, .bool false, .int .i64 0, .int .i64 0] 134)) base ⟨w1.heap.size, .slice sp l c, .slice none 0 0, []⟩ (newR zs) :=
 ⟨hnew w1 _, own_heap hO fun i e => by obtain ⟨_, cur, hh⟩ := ownsRow_block hO i e; rw [hh]; exact hold hh, ownsRow_none _ _ _ _, rfl, (fun x hx => absurd hx (by simp)), hb⟩
theorem rNew_no (w : World) (n : Int) (h : n < 3 ∨ 4096 < n) :
   Calls Tryz.prog 26 #[.int .i64 n] w fun e w' => e = .returned (.tuple #[.pointer none, .int .i64 40]) ∧ w = w' := by
 by_cases c : n < 3
 · go_enter Tryz.func26, Tryz.ntmps26
   go_wp2
   go_ret2
   exact ⟨rfl, rfl⟩
 · have c2 : 4096 < n := by omega
   clear h
   go_enter Tryz.func26, Tryz.ntmps26
   go_wp2
   go_ret2
   exact ⟨rfl, rfl⟩
theorem own_made {w1 : World} {base g n : Nat} (h : w1.ownsRow base 5 1 (.slice (some ⟨g, 0, none⟩) n n) n (madeCells (Value.int IntKind.u8 0).cells (n * 1)).toList) : Own w1 base (.slice (some ⟨g, 0, none⟩) n n) (List.replicate n 0) := by
 have e : ints .u8 (List.replicate n 0) = (madeCells (Value.int IntKind.u8 0).cells (n * 1)).toList := by rw [Nat.mul_one, made_bytes]; rfl
 unfold Own
 rw [e, List.length_replicate]
 exact h
theorem rNew_ok (w : World) (n : Nat) (h3 : 3 ≤ n) (h4 : n ≤ 4096) :
   Calls Tryz.prog 26 #[.int .i64 n] w fun e w' => ∃ Q : RQ, e = .returned (.tuple #[.pointer (some ⟨Q.p, 0, none⟩), .int .i64 0]) ∧ RK w' w.heap.size Q (newR (List.replicate (256 * n) 0)) ∧ Below w.heap.size w w' := by
 obtain ⟨i5, hi5, hz5, hs5, hy5⟩ := Tryz.info5
 have HI := hid hi5
 have K1 := hid (show i5.bytes * (n * 256) ≤ 281474976710656 by rw [hy5]; omega)
 have K2 := hid (show n * 256 ≤ maxLen by unfold maxLen; omega)
 have i0 : (n : Int) ≤ 4096 := by omega
 have i3 : 3 ≤ (n : Int) := by omega
 have hbd := buildR
 clear hi5
 go_enter Tryz.func26, Tryz.ntmps26
 go_wp2_with (first
   | (refine wpList_make_full _ rfl _ _ 22 rfl w.heap.size 5 i5 (.int .u8 0) 1 Tryz.underlying22 HI.out hz5 hs5 .i64 .i64 _ _ (n * 256) rfl rfl (by push_cast; rfl) (by push_cast; rfl) K1.out K2.out (Nat.le_refl _) ?_; intro w1 hO1 hg1; have hB1 := grown_keeps hg1 (fun k hk => by cases hk) (Nat.le_refl w.heap.size); have hr1 := own_made hO1; clear hg1 hO1))
 go_ret2
 rw [Nat.mul_comm 256 n]
 exact ⟨⟨w1.heap.size, _, _, []⟩, rfl, rk_new hr1 hB1.size, hB1.alloc hB1.size _⟩
theorem emod256 (L : Nat) : ((L : Int)).tmod 256 = ((L % 256 : Nat) : Int) := by rw [Int.tmod_eq_emod_of_nonneg (by omega)]; omega
theorem ediv256 (L : Nat) : ((L : Int)).tdiv 256 = ((L / 256 : Nat) : Int) := by rw [Int.tdiv_eq_ediv_of_nonneg (by omega)]; omega
theorem rLoad_size (w : World) (sp : Option Addr) (L cap : Nat) (h : L % 256 ≠ 0) (hL : L ≤ 140737488355328) :
   Calls Tryz.prog 25 #[.slice sp L cap] w fun e w' => e = .returned (.tuple #[.pointer none, .int .i64 42]) ∧ w = w' := by
 have m1 := emod256 L
 have hne : (((L % 256 : Nat) : Int) != 0) = true := by simp; omega
 generalize L % 256 = r at *
 go_enter Tryz.func25, Tryz.ntmps25
 go_wp2
 go_ret2
 exact ⟨rfl, rfl⟩
theorem rLoad_pages (w : World) (sp : Option Addr) (L cap : Nat) (h0 : L % 256 = 0) (h : L / 256 < 3 ∨ 4096 < L / 256) (hL : L ≤ 140737488355328) :
   Calls Tryz.prog 25 #[.slice sp L cap] w fun e w' => e = .returned (.tuple #[.pointer none, .int .i64 40]) ∧ w = w' := by
 have m1 := emod256 L
 have d1 := ediv256 L
 rw [h0, show ((0 : Nat) : Int) = 0 from rfl] at m1
 have hnb : L / 256 ≤ 140737488355328 := Nat.le_trans (Nat.div_le_self _ _) hL
 generalize L / 256 = n at *
 have inb : (n : Int) ≤ 140737488355328 := by omega
 by_cases c : n < 3
 · have i1 : (n : Int) < 3 := by omega
   go_enter Tryz.func25, Tryz.ntmps25
   go_wp2
   go_ret2
   exact ⟨rfl, rfl⟩
 · have i1 : 3 ≤ (n : Int) := by omega
   have i2 : 4096 < (n : Int) := by omega
   clear h c
   go_enter Tryz.func25, Tryz.ntmps25
   go_wp2
   go_ret2
   exact ⟨rfl, rfl⟩
theorem rLoad_ok (w : World) (img : List Int) (n : Nat) (h3 : 3 ≤ n) (h4 : n ≤ 4096) (hi : img.length = 256 * n) (sp : Option Addr) (cap : Nat) (hS : Src w sp cap img) (hnil : sp = none → cap = 0) (L : Nat) (hL : img.length = L) :
   Calls Tryz.prog 25 #[.slice sp L cap] w fun e w' => ∃ Q : RQ, e = .returned (.tuple #[.pointer (some ⟨Q.p, 0, none⟩), .int .i64 0]) ∧ RK w' w.heap.size Q (newR img) ∧ Below w.heap.size w w' := by
 have KC := hid (rcopied_any w img sp cap hS hnil (by omega) L hL)
 have m1 := emod256 L
 have d1 := ediv256 L
 rw [show L % 256 = 0 by omega] at m1
 rw [show L / 256 = n by omega] at d1
 have i3 : 3 ≤ (n : Int) := by omega
 have i4 : (n : Int) ≤ 4096 := by omega
 have hbd := buildR
 have HL := hid hL
 clear hS hi hL
 go_enter Tryz.func25, Tryz.ntmps25
 go_wp2_with (first
   | (go_at_call 76; refine KC.out.mono ?_; rintro e w1 ⟨v, rfl, hO, hB1⟩; obtain ⟨s1, c1, hv, _, _⟩ := hO.form; rw [HL.out] at hv; subst hv))
 go_ret2
 exact ⟨⟨w1.heap.size, _, _, []⟩, rfl, rk_new hO hB1.size, hB1.alloc hB1.size _⟩
theorem Load_pages (w : World) (sp : Option Addr) (L cap : Nat) (h0 : L % 256 = 0) (h : L / 256 < 3 ∨ 4096 < L / 256) (hL : L ≤ 140737488355328) :
   Calls Tryz.prog 27 #[.slice sp L cap] w fun e w' => e = .returned (.tuple #[.pointer none, .int .i64 40]) ∧ w = w' := by
 have m1 := emod256 L
 have d1 := ediv256 L
 rw [h0, show ((0 : Nat) : Int) = 0 from rfl] at m1
 have hnb : L / 256 ≤ 140737488355328 := Nat.le_trans (Nat.div_le_self _ _) hL
 generalize L / 256 = n at *
 have inb : (n : Int) ≤ 140737488355328 := by omega
 have HP := hid (possible_any w n)
 have HE := hid (show decide (3 ≤ (n : Int) ∧ (n : Int) ≤ 4096) = false from decide_eq_false (fun q => by omega))
 go_enter Tryz.func27, Tryz.ntmps27
 go_wp2_with (go_at_call 77; refine HP.out.mono ?_; rintro e w0 ⟨rfl, rfl⟩; rw [HE.out])
 go_ret2
 exact ⟨rfl, rfl⟩
theorem Read_no (w : World) (base : Nat) (P : DP) (D : DS) (h : DK w base P D) (hok : DsOk D) (hpw : D.power = true) (q : Int) (hq : q < 0 ∨ (D.np : Int) ≤ q) :
   Calls Tryz.prog 75 #[.pointer (some ⟨P.p, 0, none⟩), .int .i64 q] w fun e w' => e = .returned (.tuple #[.slice none 0 0, .int .i64 41]) ∧ w = w' := by
 have HP := hid (has_in w base P D h D.np hok.np.2.2.1 hok.np.2.1 q)
 have HE := hid (show decide (0 ≤ q ∧ q < (D.np : Int)) = false from decide_eq_false (fun z => by omega))
 have c7 := h.c7
 rw [hpw] at c7
 clear hq
 go_enter Tryz.func75, Tryz.ntmps75
 go_wp2_with (go_at_call 102; refine HP.out.mono ?_; rintro e w0 ⟨rfl, rfl⟩; rw [HE.out])
 go_ret2
 exact ⟨rfl, rfl⟩
theorem Load_size (w : World) (sp : Option Addr) (L cap : Nat) (h : L % 256 ≠ 0) (hL : L ≤ 140737488355328) :
   Calls Tryz.prog 27 #[.slice sp L cap] w fun e w' => e = .returned (.tuple #[.pointer none, .int .i64 42]) ∧ w = w' := by
 have m1 := emod256 L
 have hrb : L % 256 < 256 := Nat.mod_lt _ (by decide)
 obtain ⟨r, hr⟩ : ∃ r, r = L % 256 := ⟨_, rfl⟩
 rw [← hr] at m1 h hrb
 clear hr
 have irb : (r : Int) < 256 := by omega
 have ir0 : ((r : Int) != 0) = true := by simp; omega
 clear h
 go_enter Tryz.func27, Tryz.ntmps27
 go_wp2
 go_ret2
 exact ⟨rfl, rfl⟩
def nats (l : List Nat) : List Value := l.map fun (x : Nat) => Value.int .i64 (x : Int)
theorem nats_get (l : List Nat) (j : Nat) (hj : j < l.length) : (nats l)[j]? = some (.int .i64 (l.getD j 0 : Nat)) := by
 simp [nats, List.getElem?_eq_getElem hj, List.getD_eq_getElem?_getD]
def OwnN (w : World) (base : Nat) (v : Value) (l : List Nat) : Prop := w.ownsRow base 3 1 v l.length (nats l)
theorem OwnN.nil (w : World) (base : Nat) : OwnN w base (.slice none 0 0) [] := ownsRow_none _ _ _ _
theorem OwnN.heap {w w1 : World} {base : Nat} {v : Value} {l : List Nat} (h : OwnN w base v l) (hk : ∀ i, v.ownBlock = some i → w1.heap[i]? = w.heap[i]?) : OwnN w1 base v l := ownsRow_heap h hk
theorem OwnN.below {w w1 : World} {base : Nat} {v : Value} {l : List Nat} (h : OwnN w base v l) (hb : Below w.heap.size w w1) : OwnN w1 base v l := h.heap fun i e => by
 obtain ⟨_, cur, hh⟩ := ownsRow_block h i e; exact hb.block i (hlt hh)
theorem OwnN.form {w : World} {base : Nat} {v : Value} {l : List Nat} (h : OwnN w base v l) : ∃ sp cap, v = .slice sp l.length cap := ownsRow_form h
theorem OwnN.at {w : World} {base : Nat} {v : Value} {l : List Nat} (h : OwnN w base v l) (j : Nat) (hj : j < l.length) : ∃ g cap, v = .slice (some ⟨g, 0, none⟩) l.length cap ∧ w.cell? ⟨g, j, none⟩ = some (.int .i64 (l.getD j 0 : Nat)) ∧ v.ownBlock = some g := by
 rcases h.2 with ⟨_, h0⟩ | ⟨g, cap, cur, e, hg, hh, hc, hm, hs, ht⟩
 · omega
 · refine ⟨g, cap, e, ?_, by rw [e]; rfl⟩
   have := nats_get l j hj
   rw [← ht, List.getElem?_take, if_pos (by omega)] at this
   rw [cell_of_row _ _ _ _ _ _ hh, ← this]
   simp
theorem info3m : (Tryz.prog.info? 3).map (fun i => (i.zero, i.size, i.bytes)) = some (some (.int .i64 0), 1, 8) := by kernel_rfl
theorem info3 : ∃ i, Tryz.prog.info? 3 = some i ∧ i.zero = some (.int .i64 0) ∧ i.size = 1 ∧ i.bytes = 8 := by
 have h := info3m
 cases hq : Tryz.prog.info? 3 with
 | none => rw [hq] at h; cases h
 | some i =>
   rw [hq] at h
   simp only [Option.map_some, Option.some.injEq, Prod.mk.injEq] at h
   exact ⟨i, rfl, h.1, h.2.1, h.2.2⟩
theorem wpList_pushN {w : World} {ops : Array Oper} {rest : List Oper} {o : Oper} {a : Act} {Q : Exit → Act → World → Prop} (hgd : o.guard = none) (s x : Operand)
   (ho : o.op = .call { callee := .builtin .append, args := #[s, x], argTypes := #[163, 163] })
   (base : Nat) (v : Value) (l : List Nat) (y : Nat) (hs : a.eval s = v) (hown : OwnN w base v l) (hx : a.eval x = .slice (some ⟨w.heap.size, 0, none⟩) 1 1)
   (hlen : l.length + 1 ≤ 17592186044416) (hbase : base ≤ w.heap.size) (t : TypeId) (fr : Nat × Nat)
   (h : ∀ v' w', OwnN w' base v' (l ++ [y]) → Below base w w' → (∀ k, k < w.heap.size → v.ownBlock ≠ some k → w'.heap[k]? = w.heap[k]?) → (v'.ownBlock = v.ownBlock ∨ ∃ k, v'.ownBlock = some k ∧ w.heap.size ≤ k) → wpList Tryz.prog ops Q rest (a.put o.dst v') w') :
   wpList Tryz.prog ops Q (o :: rest) a (w.alloc (.cells #[.int .i64 y] t fr)) := by
 obtain ⟨i5, hi5, hz5, hs5, hy5⟩ := info3
 have hown' : OwnN (w.alloc (.cells #[.int .i64 y] t fr)) base v l := hown.below ((Below.refl w.heap.size w).alloc (Nat.le_refl _) _)
 refine wpList_append_own_at _ hgd s x 163 ho base 3 i5 (.int .i64 0) 1 8 Tryz.underlying163 hi5 hz5 hs5 hy5 rfl (by decide) v l.length (nats l) hs hown' ⟨w.heap.size, 0, none⟩ 1 1 (nats [y]) hx rfl ?_ (by intro z hz; simp [nats] at hz; subst hz; rfl) (by unfold maxLen; omega) (by omega) (by simp; omega) ?_
 · intro j u hu
   have hj : j = 0 := by
     have := (List.getElem?_eq_some_iff.1 hu).1
     simp [nats] at this; exact this
   subst hj
   rw [show (⟨w.heap.size, 0, none⟩ : Addr).add 0 = ⟨w.heap.size, 0, none⟩ from rfl, cell_of_row _ _ _ _ _ _ (hnew w _)]
   simpa [nats] using hu
 · intro v' w' h1 h2 _ h4
   have hB1 : Below base w (w.alloc (.cells #[.int .i64 y] t fr)) := (Below.refl _ _).alloc hbase _
   refine h v' w' (by unfold OwnN; rw [List.length_append]; simpa [nats] using h1) (hB1.trans (grown_keeps h2 (fun k hk => (ownsRow_block hown k hk).1) (by simp; omega))) (fun k hk hne => ?_) ?_
   · rw [h2.block k (by simp; omega) (fun e => hne e.symm)]
     show (w.heap.push _)[k]? = _
     rw [Array.getElem?_push, if_neg (by omega)]
   · rcases h4 with e | e
     · exact Or.inl e
     · exact Or.inr ⟨_, e, by simp⟩
theorem sl_lhB (w : World) (g L cap l h : Nat) (h1 : l < h) (h2 : h ≤ cap) : (Instr.slice 22 (.slice (some ⟨g, 0, none⟩) L cap) (some (.int .i64 (l : Nat))) (some (.int .i64 (h : Nat))) none).run Tryz.prog w = .ok (.slice (some ⟨g, l, none⟩) (h - l) (cap - l)) w := by
 have hz : (sizeOf (Tryz.prog.elem 22)).run Tryz.prog w = .ok 1 w := by kernel_rfl
 rw [run_slice_lh w 22 _ _ _ (by kernel_rfl) .i64 .i64 l h (by omega) (by omega) (by omega), hz]
 simp only [Result.andThen_ok, sliced, Int.toNat_natCast, Nat.mul_one, if_neg (show ¬ cap = l by omega), Option.map_some, Addr.add_mid, Nat.zero_add]
structure PgM (w wr : World) (b : List Int) (L : List Ev) (p i : Nat) (mine place : List Nat) (nv mv pv : Value) : Prop where
 s : PgS b L p i mine place
 n : Own wr w.heap.size nv (pgI (play b (L.take i)).1 p)
 m : OwnN wr w.heap.size mv mine
 q : OwnN wr w.heap.size pv place
 d : ∀ k, mv.ownBlock = some k → pv.ownBlock ≠ some k
 bl : Below w.heap.size w wr
theorem PgM.below {w wr w1 : World} {b : List Int} {L : List Ev} {p i : Nat} {mine place : List Nat} {nv mv pv : Value} (h : PgM w wr b L p i mine place nv mv pv) (hb : Below wr.heap.size wr w1) : PgM w w1 b L p i mine place nv mv pv :=
 ⟨h.s, own_heap h.n fun k e => by obtain ⟨_, cur, hh⟩ := ownsRow_block h.n k e; exact hb.block k (hlt hh), h.m.below hb, h.q.below hb, h.d, h.bl.trans (hb.mono h.bl.size)⟩
theorem src_pg {w : World} {g : Nat} {zs : List Int} {rest : List Value} (h : w.heap[g]? = some (.cells (ints .u8 zs ++ rest).toArray 5 (0, 0))) (p n cap : Nat) (hp : p < n) (hl : zs.length = 256 * n) (hc : 256 * n ≤ cap) (hm : cap ≤ maxLen) : Src w (some ⟨g, 256 * p, none⟩) (cap - 256 * p) (pgI zs p) := by
 have e : pgI zs p = (zs.drop (256 * p)).take 256 := by unfold pgI; rw [Nat.mul_comm]
 rw [e]
 have el : ((zs.drop (256 * p)).take 256).length = 256 := by rw [List.length_take, List.length_drop, hl]; omega
 refine ⟨by omega, by omega, g, 256 * p, fun _ => hlt h, fun _ => rfl, fun j hj => ?_⟩
 rw [el] at hj
 rw [cell_of_row _ _ _ _ _ _ h, List.getElem?_toArray, List.getElem?_append_left (by rw [ints_len, hl]; omega), ints_get _ _ _ (by rw [hl]; omega), List.getD_eq_getElem?_getD (l := List.take _ _), List.getElem?_take, if_pos hj, List.getElem?_drop, ← List.getD_eq_getElem?_getD]
theorem PgM.push {w wA w5 w6 : World} {b : List Int} {L : List Ev} {p i : Nat} {mine place : List Nat} {nv mv pv v5 v6 : Value} (h : PgM w wA b L p i mine place nv mv pv) (hi : i < L.length) {d : List Int} (he : L.getD i .synced = .wrote p d)
   (hN5 : OwnN w5 w.heap.size v5 (mine ++ [i])) (hB5 : Below w.heap.size wA w5) (hs5 : wA.heap.size ≤ w5.heap.size) (hK5 : ∀ k, k < wA.heap.size → mv.ownBlock ≠ some k → w5.heap[k]? = wA.heap[k]?) (hD5 : v5.ownBlock = mv.ownBlock ∨ ∃ k, v5.ownBlock = some k ∧ wA.heap.size ≤ k)
   (hN6 : OwnN w6 w.heap.size v6 (place ++ [openN (L.take i)])) (hB6 : Below w.heap.size w5 w6) (hK6 : ∀ k, k < w5.heap.size → pv.ownBlock ≠ some k → w6.heap[k]? = w5.heap[k]?) (hD6 : v6.ownBlock = pv.ownBlock ∨ ∃ k, v6.ownBlock = some k ∧ w5.heap.size ≤ k) :
   PgM w w6 b L p (i + 1) (mine ++ [i]) (place ++ [openN (L.take i)]) nv v5 v6 := by
 have bl : ∀ {v : Value} {l : List Nat}, OwnN wA w.heap.size v l → ∀ k, v.ownBlock = some k → k < wA.heap.size := fun hv k e => by
   obtain ⟨_, cur, hh⟩ := ownsRow_block hv k e; exact hlt hh
 have v5l : ∀ k, v5.ownBlock = some k → k < w5.heap.size := fun k e => by
   obtain ⟨_, cur, hh⟩ := ownsRow_block hN5 k e; exact hlt hh
 have v5p : ∀ k, v5.ownBlock = some k → pv.ownBlock ≠ some k := fun k e q => by
   rcases hD5 with z | ⟨x, z, hx⟩
   · exact h.d k (z ▸ e) q
   · rw [z] at e; have := Option.some.inj e; have := bl h.q k q; omega
 refine ⟨?_, ?_, hN5.heap fun k e => hK6 k (v5l k e) (v5p k e), hN6, fun k e q => ?_, (h.bl.trans hB5).trans hB6⟩
 · have := h.s.mine hi he
   rw [openN_play] at this
   exact this
 · rw [pg_wrote hi he]
   refine own_heap h.n fun k e => ?_
   obtain ⟨_, cur, hh⟩ := ownsRow_block h.n k e
   have n1 : mv.ownBlock ≠ some k := fun q => by
     obtain ⟨_, c2, h2⟩ := ownsRow_block h.m k q; exact ne_ty hh h2 (by decide) rfl
   have n2 : pv.ownBlock ≠ some k := fun q => by
     obtain ⟨_, c2, h2⟩ := ownsRow_block h.q k q; exact ne_ty hh h2 (by decide) rfl
   rw [hK6 k (Nat.lt_of_lt_of_le (hlt hh) hs5) n2, hK5 k (hlt hh) n1]
 · rcases hD6 with z | ⟨x, z, hx⟩
   · exact v5p k e (z ▸ q)
   · rw [z] at q; have := Option.some.inj q; have := v5l k e; omega
end
end Go.Proofs.YtjhocjjecfdphaaGreatDoor
