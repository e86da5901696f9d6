import Derived.Test.YtjbfaalaogdniaaGreatDoorIr2
namespace Go.Proofs.YtjbfaalaogdniaaGreatDoor
set_option linter.unusedVariables false
set_option linter.unusedSimpArgs false
open Go.RowKit
open Go.Proofs.YtjbfaalaogdniaaGreatDoor.Ca (Ct ct0 ctC argV AS)
attribute [local go_sem ↓] Go.wp_at_zero Go.wp_at_succ

/-- A store with one page staged, of the kind 1. -/
structure Q1 (w : World) (base : Nat) (S : Sto) (st p : Nat) (n : Nat) : Prop where
  sk : SK w base S
  st : S.st = st
  p : S.p = p
  lv : liveF S.D S.ep = 0
  ma : S.s.ma = 2
  nx : S.nx = 2
  vs : S.vs = [(1, [1])]
  N : S.N ≤ n
  pw : S.D.power = true
  ep : 0 ≤ S.D.epoch ∧ S.D.epoch ≤ 1000
theorem Q1.below {w w1 : World} {base : Nat} {S : Sto} {st p n : Nat} (h : Q1 w base S st p n) (hb : Below w.heap.size w w1) : Q1 w1 base S st p n := ⟨h.sk.below hb, h.st, h.p, h.lv, h.ma, h.nx, h.vs, h.N, h.pw, h.ep⟩
theorem Q1.cl {w : World} {base : Nat} {S : Sto} {st p n : Nat} (h : Q1 w base S st p n) : S.cts.length = 1 := by rw [h.sk.cl, h.vs]; rfl
theorem Q1.live {w : World} {base : Nat} {S : Sto} {st p n : Nat} (h : Q1 w base S st p n) : Tel 18 #[.pointer (some ⟨st, 0, none⟩)] w 0 := fun w1 hb => by
  have := oLive_any w1 base S (h.sk.below hb)
  rw [h.lv, h.st] at this; exact this
theorem Q1.next {w : World} {base : Nat} {S : Sto} {st p n : Nat} (h : Q1 w base S st p n) : Tel 8 #[.pointer (some ⟨st, 0, none⟩)] w 3 := fun w1 hb => by
  have := oNext_any w1 base S (h.sk.below hb) (by rw [h.cl]; omega) (by rw [h.ma]; omega)
  rw [h.ma, h.cl, h.st] at this; exact this
theorem Q1.ready {w : World} {base : Nat} {S : Sto} {st p n : Nat} (h : Q1 w base S st p n) : Tel 23 #[.pointer (some ⟨st, 0, none⟩), .int .i64 2] w 0 := by
  have := ready_live w st 3 2 h.live h.next
  rw [if_pos (by omega)] at this; exact this
set_option maxRecDepth 100000 in
set_option maxHeartbeats 2000000 in
/-- A look at a page that is no record. -/
theorem ilook_bad (w : World) (base : Nat) (S : Sto) (st p n : Nat) (h : Q1 w base S st p n) (hn : n ≤ 1000) :
    Calls Tryz.prog 25 #[.pointer (some ⟨st, 0, none⟩), .int .i64 2] w fun e w' => ∃ S', e = .returned (.tuple #[.agg sp0.toArray, .int .i64 4]) ∧ Q1 w' base S' st p (n + 1) ∧ (∀ k, k < w.heap.size → k ∉ S.FC → w'.heap[k]? = w.heap[k]?) ∧ Below base w w' := by
  obtain rfl := h.st
  have hb0 := below_new w (.cells sp0.toArray 63)
  have h0 := h.below hb0
  have hk := h0.sk.held_key 0 (by rw [h0.cl]; omega)
  rw [h.ma, show (2 : Int) + ((0 : Nat) : Int) = 2 from rfl] at hk
  have hcv := h0.sk.cv 0 (by rw [h0.cl]; omega)
  rw [show S.vs.getD 0 (0, []) = (1, [1]) by rw [h.vs]; rfl] at hcv
  have LD := oLoad_hit _ base S h0.sk h.lv (by rw [h.cl]; omega) (by rw [h.ma]; omega) (by have := h.N; omega) 2 (by rw [h.ma, h.cl]; omega) _ hk 1 [1] hcv
  replace LD := hid LD
  have H := hid h
  have H0 := hid h0
  have hr0 := hnew w (.cells sp0.toArray 63)
  have HB0 := hid hb0
  have BS := hid built_sp0
  have hN := hid (show (Tryz.prog.info? 63).map (·.size) = some sp0.toArray.size by kernel_rfl)
  have hO := hid (all_oneCell_toArray sp0_one)
  have AL := hid (fun (w : World) (ops : Array Oper) (rest : List Oper) (o : Oper) (a : Act) (Q : Exit → Act → World → Prop) => @wpList_allocSp w ops rest o a Q)
  generalize sp0.toArray = C at *
  have HR0 := hid hr0
  clear h h0 hk hcv hb0 hr0
  go_enter Tryz.func25, Tryz.ntmps25
  go_wp2_with (first | refine AL.out _ _ _ _ _ _ rfl rfl ?_)
  refine LD.out.mono ?_
  rintro e w2 ⟨FC, v, rfl, hO2, hK2, hF2, hG2⟩
  have hni : w.heap.size ∉ S.FC := fun z => by have := (H.out.sk.in_lt (k := w.heap.size) (by simp [z])).2; omega
  have r2 := (hF2.block _ (hlt HR0.out) hni).trans HR0.out
  have HKP : Hid (∀ k, k < w.heap.size → k ∉ S.FC → (w2.setRow w.heap.size C).heap[k]? = w.heap[k]?) := hid (fun k hk hn => (setRow_other w2 _ _ _ (Nat.ne_of_lt hk)).trans ((hF2.block k (Nat.lt_of_lt_of_le hk HB0.out.size) hn).trans (HB0.out.block k hk)))
  have hbb := HB0.out.mono H.out.sk.base
  have hb2 : Below base w w2 := hbb.trans (hF2.below (fun k hk => (H0.out.sk.in_lt (by simp [hk])).1) H0.out.sk.base)
  have HB4 := hid (below_setRow hb2 H.out.sk.base C)
  have r4 : (w2.setRow w.heap.size C).heap[w.heap.size]? = _ := setRow_heap w2 _ _ _ _ _ r2
  have HQ : Hid (Q1 (w2.setRow w.heap.size C) base { S with FC := FC, N := S.N + 1, a := S.a.get 2 } S.st p (n + 1)) := hid ⟨hK2.of_heap (fun k hk => setRow_other w2 _ _ _ (fun e => by
    subst e
    have q := fun z => (H.out.sk.in_lt (k := w.heap.size) z).2
    rcases hk with z | z | z | z | z | z
    · exact Nat.lt_irrefl _ (q (Or.inl z))
    · exact Nat.lt_irrefl _ (q (Or.inr (Or.inl z)))
    · exact Nat.lt_irrefl _ (q (Or.inr (Or.inr (Or.inl z))))
    · rcases hG2 _ z with y | y
      · exact Nat.lt_irrefl _ (q (Or.inr (Or.inr (Or.inr (Or.inl y)))))
      · have := hlt HR0.out; omega
    · exact Nat.lt_irrefl _ (q (Or.inr (Or.inr (Or.inr (Or.inr (Or.inl z))))))
    · exact Nat.lt_irrefl _ (q (Or.inr (Or.inr (Or.inr (Or.inr (Or.inr z)))))))) (by rw [size_setRow]; exact Nat.le_refl _), rfl, H.out.p, H.out.lv, H.out.ma, H.out.nx, H.out.vs, by show S.N + 1 ≤ n + 1; have := H.out.N; omega, H.out.pw, H.out.ep⟩
  have HR4 := hid r4
  clear hO2 hK2 hF2 hG2 hni HR0 HB0 LD hbb hb2 H H0 r4
  go_wp2_with (first
    | refine wpList_built (by rfl) 63 _ rfl _ rfl _ BS.out ?_
    | refine wpList_store_row (by rfl) 63 (.tmp 4) (.tmp 23) (by rfl) w.heap.size C (by rfl) (by rfl) 63 C (by exact r2) hN.out rfl hO.out ?_)
  exact bodyPost_ret (v := .tuple #[.agg C, .int .i64 4]) (results_c2 Tryz.results25 _ _ w.heap.size 63 _ _ _ rfl HR4.out Tryz.underlying63 rfl hN.out) rfl ⟨_, rfl, HQ.out, HKP.out, HB4.out⟩
set_option maxRecDepth 100000 in
set_option maxHeartbeats 2000000 in
theorem icount_yes (w : World) (n : Int) : Calls Tryz.prog 42 #[.agg (rcC ⟨n, n, 0, 0, 0, 0, zD⟩).toArray] w fun e w' => e = .returned (.bool true) ∧ Below w.heap.size w w' := by
  have hr := hnew w (.cells (rcC ⟨n, n, 0, 0, 0, 0, zD⟩).toArray 36)
  have c4 : (w.alloc (.cells (rcC ⟨n, n, 0, 0, 0, 0, zD⟩).toArray 36)).cell? ⟨w.heap.size, 4, none⟩ = some (.int .i64 0) := by rw [cell_of_row _ _ _ _ _ _ hr]; rfl
  have c5 : (w.alloc (.cells (rcC ⟨n, n, 0, 0, 0, 0, zD⟩).toArray 36)).cell? ⟨w.heap.size, 5, none⟩ = some (.int .i64 0) := by rw [cell_of_row _ _ _ _ _ _ hr]; rfl
  have HB := hid (below_new w (.cells (rcC ⟨n, n, 0, 0, 0, 0, zD⟩).toArray 36))
  generalize (rcC ⟨n, n, 0, 0, 0, 0, zD⟩).toArray = C at *
  clear hr
  go_enter Tryz.func42, Tryz.ntmps42
  go_wp2
  go_ret
  exact ⟨rfl, HB.out⟩
/-- What a call that looks leaves. -/
def Lk (w : World) (base : Nat) (S : Sto) (st p n : Nat) (w' : World) : Prop := ∃ S', Q1 w' base S' st p (n + 1) ∧ (∀ k, k < w.heap.size → k ∉ S.FC → w'.heap[k]? = w.heap[k]?) ∧ Below base w w'
theorem Q1.nin {w : World} {base : Nat} {S : Sto} {st p n : Nat} (h : Q1 w base S st p n) {k : Nat} (hk : w.heap.size ≤ k) : k ∉ S.FC := fun z => by have := (h.sk.in_lt (k := k) (by simp [z])).2; omega
theorem Lk.from {w w0 w' : World} {base : Nat} {S : Sto} {st p n : Nat} (hb : Below w.heap.size w w0) (hB : base ≤ w.heap.size) (h : Lk w0 base S st p n w') : Lk w base S st p n w' := by
  obtain ⟨S', h1, h2, h3⟩ := h
  exact ⟨S', h1, fun k hk hn => (h2 k (Nat.lt_of_lt_of_le hk hb.size) hn).trans (hb.block k hk), (hb.mono hB).trans h3⟩
theorem Lk.then {w w1 w' : World} {base : Nat} {S : Sto} {st p n : Nat} (h : Lk w base S st p n w1) (hb : Below w1.heap.size w1 w') : Lk w base S st p n w' := by
  obtain ⟨S', h1, h2, h3⟩ := h
  exact ⟨S', h1.below hb, fun k hk hn => (hb.block k (Nat.lt_of_lt_of_le hk h3.size)).trans (h2 k hk hn), h3.trans (hb.mono h1.sk.base)⟩
/-- A row of the caller's own is written. -/
theorem Lk.row {w w1 : World} {base : Nat} {S : Sto} {st p n : Nat} (h : Lk w base S st p n w1) {g : Nat} {C : Array Value} {t : Nat} {cs : Array Value} (hr : w1.heap[g]? = some (.cells cs t (0, 0))) (hg : w.heap.size ≤ g) (hh : Q1 w base S st p n) (hC : C = cs) : Lk w base S st p n (w1.setRow g C) := by
  obtain ⟨S', h1, h2, h3⟩ := h
  have e : ∀ k, (w1.setRow g C).heap[k]? = w1.heap[k]? := fun k => by
    by_cases hk : k = g
    · subst hk
      have e1 : (w1.setRow k C).heap[k]? = some (.cells C t (0, 0)) := setRow_heap w1 _ _ _ _ _ hr
      rw [e1, hr, hC]
    · exact setRow_other w1 _ _ _ hk
  exact ⟨S', ⟨h1.sk.of_heap (fun k _ => e k) (by rw [size_setRow]; exact Nat.le_refl _), h1.st, h1.p, h1.lv, h1.ma, h1.nx, h1.vs, h1.N, h1.pw, h1.ep⟩, fun k hk hn => (e k).trans (h2 k hk hn), below_setRow h3 (Nat.le_trans hh.sk.base hg) C⟩
set_option maxRecDepth 100000 in
set_option maxHeartbeats 2000000 in
theorem ibehind_bad (w : World) (base : Nat) (S : Sto) (st p n : Nat) (h : Q1 w base S st p n) (hn : n ≤ 1000) (x : Rc) :
    Calls Tryz.prog 43 #[.pointer (some ⟨st, 0, none⟩), .int .i64 2, .agg (rcC x).toArray] w fun e w' => e = .returned (.tuple #[.agg (rcC rc0).toArray, .int .i64 4]) ∧ Lk w base S st p n w' := by
  generalize (rcC x).toArray = X at *
  have hb0 := (below_new w (.cells X 36)).trans ((below_new (w.alloc (.cells X 36)) (.cells (rcC rc0).toArray 36)).mono (below_new w (.cells X 36)).size)
  have hr6 := hnew (w.alloc (.cells X 36)) (.cells (rcC rc0).toArray 36)
  have hg6 := (below_new w (.cells X 36)).size
  have LK := hid (ilook_bad _ base S st p n (h.below hb0) hn)
  have H := hid h
  have HB0 := hid hb0
  have BR := hid built_rc0
  have hN := hid (show (Tryz.prog.info? 36).map (·.size) = some (rcC rc0).toArray.size by rw [Tryz.sizeRc, List.size_toArray, rcC_len rc0_ok])
  have hO := hid (all_oneCell_toArray (rcC_one rc0))
  have AL := hid (fun (w : World) (ops : Array Oper) (rest : List Oper) (o : Oper) (a : Act) (Q : Exit → Act → World → Prop) => @wpList_allocRc w ops rest o a Q)
  have AS2 := hid allocSp
  have LS := hid (show sp0.length = 39 from rfl)
  have OS := hid sp0_one
  generalize (rcC rc0).toArray = C at *
  generalize sp0 = Z at *
  have e6 : (w.alloc (.cells X 36)).heap.size = w.heap.size + 1 := by simp
  rw [e6] at hr6 hg6
  obtain ⟨G, hG⟩ : ∃ G, G = w.heap.size + 1 := ⟨_, rfl⟩
  rw [← hG] at hr6 hg6
  have HR6 := hid hr6
  have HG6 := hid hg6
  have HG := hid hG
  clear h hb0 hr6 hg6 hG e6
  go_enter Tryz.func43, Tryz.ntmps43
  go_wp2_with (first | refine AL.out _ _ _ _ _ _ rfl rfl ?_)
  refine LK.out.mono ?_
  rintro e w2 ⟨S2, rfl, hQ2, hk2, hb2⟩
  have hL2 : Lk w base S st p n w2 := Lk.from HB0.out H.out.sk.base ⟨S2, hQ2, hk2, hb2⟩
  have r2 := (hk2 G (hlt HR6.out) (H.out.nin HG6.out)).trans HR6.out
  rw [← HG.out]
  have HL2 := hid hL2
  have R2 := hid r2
  clear hQ2 hk2 hb2 hL2 r2 LK HR6 HB0
  go_wp2_with (first
    | (refine wpList_new AS2.out LS.out Tryz.sizeSp rfl rfl rfl _ _ rfl rfl Z rfl rfl LS.out OS.out ?_; refine Hid.out ?_))
  refine hid ?_
  have hb3 := below_new w2 (.cells Z.toArray 63)
  have hL3 := HL2.out.then hb3
  have r3 := (hb3.block G (hlt R2.out)).trans R2.out
  generalize w2.alloc (.cells Z.toArray 63) = w3 at *
  have hL4 := hL3.row (C := C) r3 HG6.out H.out rfl
  have r4 : (w3.setRow G C).heap[G]? = _ := setRow_heap w3 _ _ _ _ _ r3
  have HL4 := hid hL4
  have R4 := hid r4
  clear hb3 hL3 hL4 HL2 R2 r4
  go_wp2_with (first
    | refine wpList_built (by rfl) 36 _ rfl _ rfl _ BR.out ?_
    | refine wpList_store_row (by rfl) 36 (.tmp 6) (.tmp 24) (by rfl) G C (by rfl) (by rfl) 36 C (by exact r3) hN.out rfl hO.out ?_)
  exact bodyPost_ret (v := .tuple #[.agg C, .int .i64 4]) (results_c2 Tryz.results43 _ _ G 36 _ _ _ rfl R4.out Tryz.underlying36 rfl hN.out) rfl ⟨rfl, HL4.out⟩
set_option maxRecDepth 100000 in
set_option maxHeartbeats 2000000 in
theorem iadd_cor (w : World) (base : Nat) (S : Sto) (st p n : Nat) (h : Q1 w base S st p n) (hn : n ≤ 1000) (m : Int) :
    Calls Tryz.prog 16 #[.pointer (some ⟨st, 0, none⟩), .int .i64 2, .agg (rcC ⟨m, m, 0, 0, 0, 0, zD⟩).toArray] w fun e w' => e = .returned (.tuple #[.int .i64 0, .int .i64 4]) ∧ Lk w base S st p n w' := by
  have hr0 := hnew w (.cells (rcC ⟨m, m, 0, 0, 0, 0, zD⟩).toArray 36)
  have hb0 := below_new w (.cells (rcC ⟨m, m, 0, 0, 0, 0, zD⟩).toArray 36)
  have HRD := hid (h.ready _ hb0)
  have HPN := hid (fun w1 (hb : Below w.heap.size w w1) => show Calls Tryz.prog 41 #[.pointer (some ⟨st, 0, none⟩), .int .i64 0] w1 fun e w' => e = .returned (.bool true) ∧ Below w1.heap.size w1 w' from pageOrNone_any w1 st 3 0 (h.next.later hb))
  have HCF := hid (fun w1 => icount_yes w1 m)
  have HBH := hid (fun w1 (hb : Below w.heap.size w w1) => ibehind_bad w1 base S st p n (h.below hb) hn ⟨m, m, 0, 0, 0, 0, zD⟩)
  have C4 := hid (show ((rcC ⟨m, m, 0, 0, 0, 0, zD⟩).toArray)[4]? = some (.int .i64 0) from rfl)
  have hM := hid (show (Tryz.prog.info? 36).map (·.size) = some (rcC ⟨m, m, 0, 0, 0, 0, zD⟩).toArray.size by rw [Tryz.sizeRc, List.size_toArray, rcC_len ⟨rfl⟩])
  generalize (rcC ⟨m, m, 0, 0, 0, 0, zD⟩).toArray = X at *
  have AL := hid allocRc
  have LC := hid (rcC_len rc0_ok)
  have hO := hid (rcC_one rc0)
  generalize rcC rc0 = C at *
  have H := hid h
  have HR0 := hid hr0
  have HB0 := hid hb0
  clear h hr0 hb0
  go_enter Tryz.func16, Tryz.ntmps16
  go_wp2_with fail
  refine HRD.out.mono ?_
  rintro e w1 ⟨rfl, hb1⟩
  have HB1 := hid (HB0.out.trans (hb1.mono HB0.out.size))
  have r1 := (hb1.block _ (hlt HR0.out)).trans HR0.out
  have c4 : w1.cell? ⟨w.heap.size, 4, none⟩ = some (.int .i64 0) := by rw [cell_of_row _ _ _ _ _ _ r1]; exact C4.out
  have R1 := hid r1
  clear hb1 r1 HRD
  go_wp2_with fail
  refine (HPN.out w1 HB1.out).mono ?_
  rintro e w2 ⟨rfl, hb2⟩
  have HB2 := hid (HB1.out.trans (hb2.mono HB1.out.size))
  have r2 := (hb2.block _ (hlt R1.out)).trans R1.out
  clear hb2 c4 HPN
  go_wp2_with (first | refine wpList_load_row_w (by rfl) 36 _ (by rfl) _ (by rfl) 36 _ _ _ r2 Tryz.underlying36 rfl hM.out ?_)
  refine (HCF.out w2).mono ?_
  rintro e w3 ⟨rfl, hb3⟩
  have HB3 := hid (HB2.out.trans (hb3.mono HB2.out.size))
  have r3 := (hb3.block _ (hlt r2)).trans r2
  clear hb3 r2 HCF
  go_wp2_with (first | refine wpList_load_row_w (by rfl) 36 _ (by rfl) _ (by rfl) 36 _ _ _ r3 Tryz.underlying36 rfl hM.out ?_)
  refine (HBH.out w3 HB3.out).mono ?_
  rintro e w4 ⟨rfl, hL4⟩
  have HL4 := hid (Lk.from HB3.out H.out.sk.base hL4)
  clear hL4 r3 HBH
  go_wp2_with (first
    | (refine wpList_new AL.out LC.out Tryz.sizeRc rfl rfl rfl _ _ rfl rfl C rfl rfl LC.out hO.out ?_; refine Hid.out ?_))
  refine hid ?_
  have HL5 := hid (HL4.out.then (below_new w4 (.cells C.toArray 36)))
  clear HL4
  go_wp2
  go_ret2
  exact ⟨rfl, HL5.out⟩
set_option maxRecDepth 100000 in
set_option maxHeartbeats 2000000 in
theorem ifind_cor (w : World) (base : Nat) (S : Sto) (st p n : Nat) (h : Q1 w base S st p n) (hn : n ≤ 1000) (m : Int) (hm : 0 ≤ m) :
    Calls Tryz.prog 9 #[.pointer (some ⟨st, 0, none⟩), .int .i64 2, .int .i64 m] w fun e w' => e = .returned (.tuple #[.agg (rcC rc0).toArray, .int .i64 0, .int .i64 4]) ∧ Lk w base S st p n w' := by
  have hb0 := below_new w (.cells (rcC rc0).toArray 36)
  have hr0 := hnew w (.cells (rcC rc0).toArray 36)
  have HRD := hid (h.ready _ hb0)
  have LK := hid (fun w1 (hb : Below w.heap.size w w1) => ilook_bad w1 base S st p n (h.below hb) hn)
  have BR := hid built_rc0
  have hN := hid (show (Tryz.prog.info? 36).map (·.size) = some (rcC rc0).toArray.size by rw [Tryz.sizeRc, List.size_toArray, rcC_len rc0_ok])
  have hO := hid (all_oneCell_toArray (rcC_one rc0))
  have AL := hid (fun (w : World) (ops : Array Oper) (rest : List Oper) (o : Oper) (a : Act) (Q : Exit → Act → World → Prop) => @wpList_allocRc w ops rest o a Q)
  have AS2 := hid allocSp
  have LS := hid (show sp0.length = 39 from rfl)
  have OS := hid sp0_one
  generalize (rcC rc0).toArray = C at *
  generalize sp0 = Z at *
  have H := hid h
  have HR0 := hid hr0
  have HB0 := hid hb0
  clear h hb0 hr0
  go_enter Tryz.func9, Tryz.ntmps9
  go_wp2_with (first | refine AL.out _ _ _ _ _ _ rfl rfl ?_)
  refine HRD.out.mono ?_
  rintro e w1 ⟨rfl, hb1⟩
  have HB1 := hid (HB0.out.trans (hb1.mono HB0.out.size))
  have R1 := hid ((hb1.block _ (hlt HR0.out)).trans HR0.out)
  clear hb1 HRD HR0 HB0
  go_wp2_with fail
  refine (LK.out w1 HB1.out).mono ?_
  rintro e w2 ⟨S2, rfl, hQ2, hk2, hb2⟩
  have HL2 := hid (Lk.from HB1.out H.out.sk.base ⟨S2, hQ2, hk2, hb2⟩)
  have R2 := hid ((hk2 _ (hlt R1.out) (H.out.nin (Nat.le_refl _))).trans R1.out)
  clear hQ2 hk2 hb2 LK R1 HB1
  go_wp2_with (first
    | (refine wpList_new AS2.out LS.out Tryz.sizeSp rfl rfl rfl _ _ rfl rfl Z rfl rfl LS.out OS.out ?_; refine Hid.out ?_))
  refine hid ?_
  have hb3 := below_new w2 (.cells Z.toArray 63)
  have hL3 := HL2.out.then hb3
  have r3 := (hb3.block _ (hlt R2.out)).trans R2.out
  generalize w2.alloc (.cells Z.toArray 63) = w3 at *
  have hL4 := hL3.row (C := C) r3 (Nat.le_refl _) H.out rfl
  have r4 : (w3.setRow w.heap.size C).heap[w.heap.size]? = _ := setRow_heap w3 _ _ _ _ _ r3
  have HL4 := hid hL4
  have R4 := hid r4
  clear hb3 hL3 hL4 HL2 R2 r4
  go_wp2_with (first
    | refine wpList_built (by rfl) 36 _ rfl _ rfl _ BR.out ?_
    | refine wpList_store_row (by rfl) 36 (.tmp 6) (.tmp 41) (by rfl) w.heap.size C (by rfl) (by rfl) 36 C (by exact r3) hN.out rfl hO.out ?_)
  exact bodyPost_ret (v := .tuple #[.agg C, .int .i64 0, .int .i64 4]) (resC3 Tryz.results9 _ _ w.heap.size 36 _ _ _ rfl R4.out Tryz.underlying36 rfl hN.out) rfl ⟨rfl, HL4.out⟩
set_option maxRecDepth 100000 in
set_option maxHeartbeats 2000000 in
theorem ibounds_cor (w : World) (base : Nat) (S : Sto) (st p n : Nat) (h : Q1 w base S st p n) (hn : n ≤ 1000) :
    Calls Tryz.prog 17 #[.pointer (some ⟨st, 0, none⟩), .int .i64 2] w fun e w' => e = .returned (.tuple #[.int .i64 0, .int .i64 0, .int .i64 4]) ∧ Lk w base S st p n w' := by
  have HRD := hid (h.ready _ (Below.refl _ _))
  have LK := hid (fun w1 (hb : Below w.heap.size w w1) => ilook_bad w1 base S st p n (h.below hb) hn)
  have AS2 := hid allocSp
  have LS := hid (show sp0.length = 39 from rfl)
  have OS := hid sp0_one
  generalize sp0 = Z at *
  have H := hid h
  clear h
  go_enter Tryz.func17, Tryz.ntmps17
  go_wp2_with fail
  refine HRD.out.mono ?_
  rintro e w1 ⟨rfl, hb1⟩
  have HB1 := hid hb1
  clear hb1 HRD
  go_wp2_with fail
  refine (LK.out w1 HB1.out).mono ?_
  rintro e w2 ⟨S2, rfl, hQ2, hk2, hb2⟩
  have HL2 := hid (Lk.from HB1.out H.out.sk.base ⟨S2, hQ2, hk2, hb2⟩)
  clear hQ2 hk2 hb2 LK HB1
  go_wp2_with (first
    | (refine wpList_new AS2.out LS.out Tryz.sizeSp rfl rfl rfl _ _ rfl rfl Z rfl rfl LS.out OS.out ?_; refine Hid.out ?_))
  refine hid ?_
  have HL3 := hid (HL2.out.then (below_new w2 (.cells Z.toArray 63)))
  clear HL2
  go_wp2
  exact bodyPost_ret (resT3 Tryz.results17 _ _ _) rfl ⟨rfl, HL3.out⟩
set_option maxRecDepth 100000 in
set_option maxHeartbeats 2000000 in
theorem refused_cor (w : World) (base : Nat) (S : Sto) (st p : Nat) (h : Q1 w base S st p 10) (n : Int) (hn : 0 ≤ n) :
    Calls Tryz.prog 6 #[.pointer (some ⟨st, 0, none⟩), .int .i64 2, .int .i64 n, .int .i64 4] w fun e w' => e = .returned (.bool true) ∧ ∃ S', Q1 w' base S' st p 13 ∧ Below base w w' := by
  have ADD := hid (iadd_cor w base S st p 10 h (by omega) n)
  have FND := hid (fun w1 S1 (q : Q1 w1 base S1 st p 11) => ifind_cor w1 base S1 st p 11 q (by omega) n hn)
  have BND := hid (fun w1 S1 (q : Q1 w1 base S1 st p 12) => ibounds_cor w1 base S1 st p 12 q (by omega))
  have AL := hid allocRc
  have LC := hid (rcC_len rc0_ok)
  have hO := hid (rcC_one rc0)
  have BR := hid built_rc0
  have hN := hid (show (Tryz.prog.info? 36).map (·.size) = some (rcC rc0).toArray.size by rw [Tryz.sizeRc, List.size_toArray, rcC_len rc0_ok])
  have EQ := hid (eqRc rc0 rc0_ok)
  have GR := hid Tryz.guardRc
  have BR2 := hid (built_rc2 n n)
  generalize hC2 : (rcC ⟨n, n, 0, 0, 0, 0, zD⟩).toArray = C2 at *
  generalize hC : rcC rc0 = C at *
  clear hC2 hC
  go_enter Tryz.func6, Tryz.ntmps6
  go_wp2_with (first | refine wpList_built (by rfl) 36 _ rfl _ rfl _ BR2.out ?_)
  refine ADD.out.mono ?_
  rintro e w1 ⟨rfl, S1, hQ1, hk1, hb1⟩
  have HQ1 := hid hQ1
  have HB1 := hid hb1
  clear hQ1 hk1 hb1
  clear ADD
  go_wp2_with fail
  refine (FND.out w1 S1 HQ1.out).mono ?_
  rintro e w2 ⟨rfl, S2, hQ2, hk2, hb2⟩
  have HQ2 := hid hQ2
  have HB2 := hid (HB1.out.trans hb2)
  clear hQ2 hk2 hb2 FND
  go_wp2_with (first
    | (refine wpList_new AL.out LC.out Tryz.sizeRc rfl rfl rfl _ _ rfl rfl C rfl rfl LC.out hO.out ?_; refine Hid.out ?_))
  refine hid ?_
  have hr3 := hnew w2 (.cells C.toArray 36)
  have hb30 := below_new w2 (.cells C.toArray 36)
  have hQ3 := HQ2.out.below hb30
  have hb3 : Below base w (w2.alloc (.cells C.toArray 36)) := HB2.out.trans (hb30.mono HQ2.out.sk.base)
  have hni := HQ2.out.nin (k := w2.heap.size) (Nat.le_refl _)
  obtain ⟨G, hG⟩ : ∃ G, G = w2.heap.size := ⟨_, rfl⟩
  rw [← hG] at hr3 hni ⊢
  generalize w2.alloc (.cells C.toArray 36) = w3 at *
  have HR3 := hid hr3
  have HB3 := hid hb3
  have HQ3 := hid hQ3
  have HNI := hid hni
  clear hr3 hb3 hG hQ3 hni hb30
  go_wp2_with fail
  refine (BND.out w3 S2 HQ3.out).mono ?_
  rintro e w4 ⟨rfl, S4, hQ4, hk4, hb4⟩
  have R4 := hid ((hk4 G (hlt HR3.out) HNI.out).trans HR3.out)
  have HB4 := hid (HB3.out.trans hb4)
  have HQ4 := hid hQ4
  clear hQ4 hk4 hb4 BND HR3
  have KQ := EQ.out
  have KG := GR.out
  go_wp2_with (first
    | refine wpList_load_row_w (by rfl) 36 _ (by rfl) _ (by rfl) 36 _ _ _ R4.out Tryz.underlying36 rfl hN.out ?_
    | refine wpList_built (by rfl) 36 _ rfl _ rfl _ BR.out ?_)
  go_ret
  exact ⟨rfl, S4, HQ4.out, HB4.out⟩
end Go.Proofs.YtjbfaalaogdniaaGreatDoor
