import Derived.Maps.RangeWalk
import Derived.Test.YtbnghhgeoodphaaGreatDoorIe1
import Derived.Deep.DeepCutAuto
namespace Go.Proofs.YtbnghhgeoodphaaGreatDoor
set_option maxRecDepth 100000
set_option maxHeartbeats 40000000
set_option linter.unusedVariables false
set_option linter.unusedSimpArgs false
open Go.RowKit
open Go.Proofs.YtbnghhgeoodphaaGreatDoor.Ca (Ct ct0 ctC argV AS)
attribute [local go_sem ↓] Go.wp_at_zero Go.wp_at_succ
def irC (x : IR) : List Value := [.int .i64 x.root, .int .i64 x.count] ++ ints .u8 x.sum
theorem built_rc3' (v f : Int) (l : List Value) (hl : l.length = 32) : Tryz.prog.built 49 [(0, .int .i64 v), (1, .int .i64 f), (6, .agg l.toArray)] = some ([Value.int .i64 v, .int .i64 f, .int .i64 0, .int .i64 0, .int .i64 0, .int .i64 0] ++ l).toArray := by
 obtain ⟨x0, x1, x2, x3, x4, x5, x6, x7, x8, x9, x10, x11, x12, x13, x14, x15, x16, x17, x18, x19, x20, x21, x22, x23, x24, x25, x26, x27, x28, x29, x30, x31, rfl⟩ := list32 hl
 kernel_rfl
theorem built_rc3 (v f : Int) (sm : List Int) (h : sm.length = 32) : Tryz.prog.built 49 [(0, .int .i64 v), (1, .int .i64 f), (6, .agg (ints .u8 sm).toArray)] = some (rcC ⟨v, f, 0, 0, 0, 0, sm⟩).toArray := built_rc3' v f _ (by rw [ints_len, h])
theorem Cn.own {w : World} {base b c : Nat} {S : Sto} {P : List (Int × List Int)} {rv pv : Value} {recs : List Rc} {pgs : List Int} (h : Cn w base S P b c rv pv recs pgs) {B0 : Nat} (hB : c < B0 /\ (∀ i, rv.ownBlock = some i -> i < B0) /\ (∀ i, pv.ownBlock = some i -> i < B0)) {k : Nat} (hk : B0 <= k) (hf : k ∉ S.fp) (j : Nat) (v : Value) : Cn (w.setCell ⟨k, j, none⟩ v) base S P b c rv pv recs pgs :=
 h.keep (fun i q => heap_setCell_other w ⟨k, j, none⟩ i v (fun z => by
   rcases q with e | e | e | e
   · have z2 : i = k := z; exact hf (z2 ▸ e)
   · have := hB.1; have z2 : i = k := z; omega
   · have := hB.2.1 i e; have z2 : i = k := z; omega
   · have := hB.2.2 i e; have z2 : i = k := z; omega)) (by simp [World.size_setCell])
structure RX (w : World) (base : Nat) (S : Sto) (P : List (Int × List Int)) (b c : Nat) (rv pv : Value) (recs : List Rc) (pgs : List Int) (G7 G9 : Nat) (X7 : List Value) (r : Rc) (wx : World) : Prop where
 lc : Lc w base S P b wx S [(G9, rcC r, 49), (G7, X7, 61)]
 cn : Cn wx base S P b c rv pv recs pgs
section
variable {w wx : World} {base b c : Nat} {S : Sto} {P : List (Int × List Int)} {rv pv : Value} {recs : List Rc} {pgs : List Int} {G7 G9 : Nat} {X7 : List Value} {r : Rc}
theorem RX.set (h : RX w base S P b c rv pv recs pgs G7 G9 X7 r wx) (hB : c < w.heap.size /\ (∀ i, rv.ownBlock = some i -> i < w.heap.size) /\ (∀ i, pv.ownBlock = some i -> i < w.heap.size)) (hne : G7 ≠ G9) (j : Nat) (v : Value) (r' : Rc) (hr : (rcC r).set j v = rcC r') : RX w base S P b c rv pv recs pgs G7 G9 X7 r' (wx.setCell ⟨G9, j, none⟩ v) :=
 ⟨by rw [<- hr]; exact h.lc.setC (by simp) j v _ (by simp; exact hne), h.cn.own hB (h.lc.rows (G9, rcC r, 49) (by simp)).2.1 (h.lc.rows (G9, rcC r, 49) (by simp)).2.2 j v⟩
theorem RX.cell (h : RX w base S P b c rv pv recs pgs G7 G9 X7 r wx) {j : Nat} {v : Value} (hv : (rcC r)[j]? = some v) : wx.cell? ⟨G9, j, none⟩ = some v /\ wx.frozen? ⟨G9, j, none⟩ = false := ⟨h.lc.cell (k := G9) (C := rcC r) (t := 49) (by simp) hv, h.lc.fz (k := G9) (C := rcC r) (t := 49) (by simp) j⟩
theorem RX.row7 (h : RX w base S P b c rv pv recs pgs G7 G9 X7 r wx) {j : Nat} {v : Value} (hv : X7[j]? = some v) : wx.cell? ⟨G7, j, none⟩ = some v := h.lc.cell (k := G7) (C := X7) (t := 61) (by simp) hv
end
def recH (first : Int) (T m : Nat) (x : IR) : Rc := if m = 0 then ⟨verN first 1, first, 0, 0, rtOf T x, ctOf T x, x.sum⟩ else ⟨7, -9, 1, 0, rtOf T x, ctOf T x, x.sum⟩
theorem add_chn (w : World) (base : Nat) (S : Sto) (first : Int) (T : Nat) (xs : List IR) (x : IR) (b : Nat) (h : Ls w base S (chP first T xs) b) (hok : ChOk first T (xs ++ [x])) (hb : b <= 100000000000000000) (hnp : S.D.np = 4096) :
   Calls Tryz.prog 17 #[.pointer (some ⟨S.st, 0, none⟩), .int .i64 (pgN T xs.length), .agg (rcC (recH first T xs.length x)).toArray] w (fun e w' => ∃ S', e = .returned (.tuple #[.int .i64 (pgN T (xs.length + 1)), .int .i64 0]) /\ Ls w' base S' (chP first T (xs ++ [x])) (b + 5000) /\ Stp w S w' S') := by
 have hxo : IROk x := hok.ok x (by simp)
 have hn4 : xs.length <= 3999 := by have := hok.n4; simp at this; omega
 have hok2 : ChOk first T xs := ⟨hok.f0, hok.f1, hok.T8, by omega, fun y hy => hok.ok y (by simp [hy])⟩
 obtain ⟨hr, hrk⟩ := recN_right hok.f0 hok.f1 hok.T8 (k := xs.length + 1) (by omega) (by omega) hxo
 have hl := chP_len first T xs
 have hT := hok.T8
 have hpg : pgN T (xs.length + 1) = ((2 + (chP first T xs).length : Nat) : Int) := by rw [hl]; show (if _ then _ else _) = _; rw [if_neg (by omega)]; omega
 have hroot : (rtOf T x = 0 \/ (2 <= rtOf T x /\ rtOf T x < (2 + (chP first T xs).length : Nat))) := by
   have h1 := hr.2.1
   have h3 := (recN_low (first := first) (T := T) (k := xs.length + 1) (by omega) (by omega) x).2.2
   rw [hpg] at h3
   rcases h1 with z | z
   · exact Or.inl z
   · exact Or.inr ⟨z.1, h3⟩
 have e1 : (recH first T xs.length x).r = rtOf T x := by unfold recH; split <;> rfl
 have hcn : CntR (recH first T xs.length x) := by
   have := hr.2.2.1
   unfold recH; split <;> exact this
 have okH : RcOk (recH first T xs.length x) := by unfold recH; split <;> exact ⟨hxo.sm⟩
 have KB : ∃ m, m <= 4000 /\ ∀ (w1 : World) (S1 : Sto), Ls w1 base S1 (chP first T xs) b -> S1.st = S.st -> Calls Tryz.prog 43 #[.pointer (some ⟨S1.st, 0, none⟩), .int .i64 (pgN T xs.length), .agg (rcC (recH first T xs.length x)).toArray] w1 (BehP w1 base S1 (chP first T xs) (b + 1 + m) (recN first T (xs.length + 1) x)) := by
   by_cases hm : xs.length = 0
   · refine ⟨0, by omega, fun w1 S1 hl1 _ => ?_⟩
     have := behind_first w1 base S1 _ _ (hl1.more (b + 1 + 0) (by omega)) (recH first T xs.length x) okH
     rw [show pgN T xs.length = 0 by rw [hm]; rfl]
     have e : ({ recH first T xs.length x with p := 0, s := 0 } : Rc) = recN first T (xs.length + 1) x := by
       unfold recH
       rw [if_pos hm, hm]
       rfl
     rw [e] at this
     exact this
   · obtain ⟨k, hk⟩ : ∃ k, xs.length = k + 1 := ⟨xs.length - 1, by omega⟩
     obtain ⟨m, hm4, hs⟩ := hok2.skip k (by omega)
     refine ⟨m, hm4, fun w1 S1 hl1 _ => ?_⟩
     have hst := hok2.stands k (by omega)
     have hv : (recN first T (k + 1) (xs.getD k dIR)).v ≠ 1073741824 := by
       show verN first (k + 1) ≠ _
       have := hok.f1
       have := hok.f0
       unfold verN; split <;> omega
     have := behind_next w1 base S1 _ b hl1 (recH first T xs.length x) okH _ _ hst hv m _ hs (by omega)
     have e : (⟨(recN first T (k + 1) (xs.getD k dIR)).v + 1, (recN first T (k + 1) (xs.getD k dIR)).f, pgN T (k + 1), pgN T (farN (k + 2)), (recH first T xs.length x).r, (recH first T xs.length x).c, (recH first T xs.length x).sm⟩ : Rc) = recN first T (xs.length + 1) x := by
       unfold recH
       rw [if_neg hm, hk]
       show Rc.mk (verN first (k + 1) + 1) _ _ _ _ _ _ = Rc.mk (verN first (k + 1 + 1)) _ _ _ _ _ _
       rw [show verN first (k + 1) + 1 = verN first (k + 1 + 1) by unfold verN; split <;> omega]
       rfl
     rw [e] at this
     rw [hk] at this ⊢
     exact this
 obtain ⟨m, hm4, KB⟩ := KB
 have hq : pgN T xs.length = 0 \/ (2 <= pgN T xs.length /\ pgN T xs.length < (2 + (chP first T xs).length : Nat)) := by
   rw [hl]; unfold pgN; split <;> omega
 refine (add_ok w base S (chP first T xs) b (b + 1 + m) h (recH first T xs.length x) okH (pgN T xs.length) hq (by rw [e1]; exact hroot) hcn (recN first T (xs.length + 1) x) hrk hr hxo.by8 (by rw [hnp, hl]; omega) (by omega) KB).mono ?_
 rintro e w' ⟨S', he, hl', hs'⟩
 exact ⟨S', by rw [he, hpg], by rw [chP_snoc]; exact hl'.more _ (by omega), hs'⟩
structure RY (w : World) (base : Nat) (S0 S : Sto) (P : List (Int × List Int)) (b c : Nat) (rv pv : Value) (recs : List Rc) (pgs : List Int) (G7 G9 : Nat) (X7 : List Value) (r : Rc) (wx : World) : Prop where
 lc : Lc w base S0 P b wx S [(G9, rcC r, 49), (G7, X7, 61)]
 cn : Cn wx base S P b c rv pv recs pgs
section
variable {w wx : World} {base b c : Nat} {S0 S : Sto} {P : List (Int × List Int)} {rv pv : Value} {recs : List Rc} {pgs : List Int} {G7 G9 : Nat} {X7 : List Value} {r : Rc}
theorem RY.set (h : RY w base S0 S P b c rv pv recs pgs G7 G9 X7 r wx) (hB : c < w.heap.size /\ (∀ i, rv.ownBlock = some i -> i < w.heap.size) /\ (∀ i, pv.ownBlock = some i -> i < w.heap.size)) (hne : G7 ≠ G9) (j : Nat) (v : Value) (r' : Rc) (hr : (rcC r).set j v = rcC r') : RY w base S0 S P b c rv pv recs pgs G7 G9 X7 r' (wx.setCell ⟨G9, j, none⟩ v) :=
 ⟨by rw [<- hr]; exact h.lc.setC (by simp) j v _ (by simp; exact hne), h.cn.own hB (h.lc.rows (G9, rcC r, 49) (by simp)).2.1 (h.lc.rows (G9, rcC r, 49) (by simp)).2.2 j v⟩
theorem RY.cell (h : RY w base S0 S P b c rv pv recs pgs G7 G9 X7 r wx) {j : Nat} {v : Value} (hv : (rcC r)[j]? = some v) : wx.cell? ⟨G9, j, none⟩ = some v /\ wx.frozen? ⟨G9, j, none⟩ = false := ⟨h.lc.cell (k := G9) (C := rcC r) (t := 49) (by simp) hv, h.lc.fz (k := G9) (C := rcC r) (t := 49) (by simp) j⟩
theorem RY.call {w1 : World} (h : RY w base S0 S P b c rv pv recs pgs G7 G9 X7 r wx) (hb : Below wx.heap.size wx w1) : RY w base S0 S P b c rv pv recs pgs G7 G9 X7 r w1 := ⟨h.lc.call hb, h.cn.below hb⟩
end
theorem cadd_any (w : World) (base : Nat) (S : Sto) (first : Int) (T : Nat) (xs : List IR) (x : IR) (b c : Nat) (rv pv : Value) (h : Cn w base S (chP first T xs) b c rv pv (recsOf first T xs) (pgsOf T xs.length)) (hok : ChOk first T (xs ++ [x])) (hb : b <= 100000000000000000) (s0 : Sd) (hnp : NpS S s0) :
   Calls Tryz.prog 19 #[.pointer (some ⟨c, 0, none⟩), .int .i64 first, .int .i64 T, .agg (irC x).toArray] w fun e w' => ∃ S' rv' pv', e = .returned (.bool true) /\ Cn w' base S' (chP first T (xs ++ [x])) (b + 5000) c rv' pv' (recsOf first T (xs ++ [x])) (pgsOf T (xs.length + 1)) /\ S'.st = S.st /\ NpS S' s0 /\ Below base w w' := by
 obtain ⟨rsp, rcap, hrv⟩ := ownsRow_form h.ro
 obtain ⟨psp, pcap, hpv⟩ := ownsRow_form h.po
 rw [recsOf_len] at hrv
 rw [pgsOf_len] at hpv
 subst hrv
 subst hpv
 have hxo : IROk x := hok.ok x (by simp)
 have hf0 := hok.f0
 have hf1 := hok.f1
 have hT8 : (T : Int) <= 8 := by have := hok.T8; omega
 have hn4 : xs.length <= 3999 := by have := hok.n4; simp at this; omega
 have hB : c < w.heap.size /\ (∀ i, (Value.slice rsp xs.length rcap).ownBlock = some i -> i < w.heap.size) /\ (∀ i, (Value.slice psp xs.length pcap).ownBlock = some i -> i < w.heap.size) := ⟨hlt h.row, fun i e => (h.lt (by simp [e])).2, fun i e => (h.lt (by simp [e])).2⟩
 have L1 := ((Lc.start h.ls).alloc (irC x) 61).alloc (rcC ⟨first, first, 0, 0, 0, 0, x.sum⟩) 49
 simp only [World.size_alloc] at L1
 have C1 := (h.below (below_new w (.cells (irC x).toArray 61))).below (below_new _ (.cells (rcC ⟨first, first, 0, 0, 0, 0, x.sum⟩).toArray 49))
 obtain ⟨G9, hG9⟩ : ∃ G9, w.heap.size + 1 = G9 := ⟨_, rfl⟩
 rw [hG9] at L1
 have hne : w.heap.size ≠ G9 := by omega
 have HR1 : Hid (RX w base S (chP first T xs) b c (Value.slice rsp xs.length rcap) (Value.slice psp xs.length pcap) (recsOf first T xs) (pgsOf T xs.length) w.heap.size G9 (irC x) ⟨first, first, 0, 0, 0, 0, x.sum⟩ ((w.alloc (.cells (irC x).toArray 61)).alloc (.cells (rcC ⟨first, first, 0, 0, 0, 0, x.sum⟩).toArray 49))) := hid ⟨L1, C1⟩
 have HB := hid hB
 have HNE := hid hne
 have HG9 := hid hG9
 have HXO := hid hxo
 have HOK := hid hok
 have HNP := hid hnp
 have HH := hid h
 have rg : (w.alloc (.cells (irC x).toArray 61)).rangeAt w.heap.size 2 (ints .u8 x.sum) := fun j v hv => by
   rw [cell_of_row _ _ _ _ _ _ (hnew w _), List.getElem?_toArray]
   show ([Value.int .i64 x.root, .int .i64 x.count] ++ ints .u8 x.sum)[2 + j]? = some v
   rw [List.getElem?_append_right (by simp)]
   simpa using hv
 have RG := hid rg
 have SD := hid (show (Tryz.prog.info? 47).map (·.size) = some (ints .u8 x.sum).length by rw [Tryz.sizeD, ints_len, hxo.sm])
 have BR := hid (built_rc3 first first x.sum hxo.sm)
 have ARc := hid allocRc
 have LRc0 := hid (rcC_len rc0_ok)
 have okR : ∀ v f p s r c, RcOk ⟨v, f, p, s, r, c, x.sum⟩ := fun v f p s r c => ⟨hxo.sm⟩
 have OKR := hid okR
 have LX := hid (rcC_len (okR first first 0 0 0 0))
 have OX := hid (rcC_one ⟨first, first, 0, 0, 0, 0, x.sum⟩)
 generalize hX0 : rcC ⟨first, first, 0, 0, 0, 0, x.sum⟩ = X0 at RG BR LX OX ⊢
 have HX0 := hid hX0
 clear h hok hnp hB L1 C1 hG9 hne rg okR hxo hX0
 generalize rcC rc0 = C0 at ARc LRc0
 go_enter Tryz.func19, Tryz.ntmps19
 go_wp2_with (first
   | refine wpList_load_mid_w (by rfl) 47 _ (by rfl) w.heap.size 2 (by rfl) (ints .u8 x.sum) _ RG.out Tryz.underlying47 rfl SD.out ?_
   | refine wpList_built (by rfl) 49 _ rfl _ rfl _ BR.out ?_
   | (refine wpList_new ARc.out LRc0.out Tryz.sizeRc rfl rfl rfl _ _ rfl rfl X0 rfl rfl LX.out OX.out ?_; refine Hid.out ?_))
 refine hid ?_
 rw [HX0.out] at HR1
 rw [HG9.out]
 generalize (w.alloc (.cells (irC x).toArray 61)).alloc (.cells X0.toArray 49) = W1 at *
 clear RG SD BR ARc LRc0 LX OX HX0 HG9
 have c90 := (HR1.out.cell (j := 0) (v := .int .i64 first) rfl).1
 have f90 := (HR1.out.cell (j := 0) (v := .int .i64 first) rfl).2
 go_upto_if 22 with fail
 go_cut [9] from 22 to 23 (fun s9 wx => s9 = .pointer (some ⟨G9, 0, none⟩) /\ RX w base S (chP first T xs) b c (Value.slice rsp xs.length rcap) (Value.slice psp xs.length pcap) (recsOf first T xs) (pgsOf T xs.length) w.heap.size G9 (irC x) (⟨verN first 1, first, 0, 0, 0, 0, x.sum⟩) wx)
 case first =>
   by_cases hz : first = 0
   · have hz1 : (first == 0) = true := by simpa using hz
     have HZ := hid hz
     clear hz
     go_wp2_with fail
     go_meet
     exact ⟨rfl, HR1.out.set HB.out HNE.out 0 (.int .i64 1) _ (by rw [HZ.out]; rfl)⟩
   · have hz1 : (first == 0) = false := by simpa using hz
     have HZ := hid hz
     clear hz
     go_wp2_with fail
     go_meet
     exact ⟨rfl, by rw [show verN first 1 = first by unfold verN; rw [if_neg HZ.out]; omega]; exact HR1.out⟩
 case rest =>
 clear HR1 c90 f90
 obtain ⟨rfl, hR2⟩ := hcut
 have HR2 := hid hR2
 clear hR2
 obtain ⟨W2, hW2⟩ : ∃ W2, W2 = wc := ⟨_, rfl⟩
 rw [<- hW2] at HR2 ⊢
 clear hW2
 have c70 := HR2.out.row7 (j := 0) (v := .int .i64 x.root) rfl
 have c71 := HR2.out.row7 (j := 1) (v := .int .i64 x.count) rfl
 go_upto_region 4 with fail
 go_cut [30] from 24 to 30 (fun s30 wx => s30 = .bool (decide (0 <= x.root /\ 0 < T)) /\ wx = W2)
 case first =>
   by_cases h1 : 0 <= x.root
   · by_cases h2 : 0 < T
     · have h3 : (0 : Int) < (T : Int) := by omega
       have HD := hid (decide_eq_true (show 0 <= x.root /\ 0 < T from ⟨h1, h2⟩))
       clear h2
       go_wp2_with fail
       go_meet
       exact ⟨by rw [HD.out]; first | rfl | (congr 1; simp; omega), rfl⟩
     · have h3 : (T : Int) = 0 := by omega
       have HD := hid (decide_eq_false (show ¬ (0 <= x.root /\ 0 < T) from fun z => h2 z.2))
       clear h2
       go_wp2_with fail
       go_meet
       exact ⟨by rw [HD.out], rfl⟩
   · have HD := hid (decide_eq_false (show ¬ (0 <= x.root /\ 0 < T) from fun z => h1 z.1))
     go_wp2_with fail
     go_meet
     exact ⟨by rw [HD.out], rfl⟩
 case rest =>
 obtain ⟨rfl, rfl⟩ := hcut
 have c94 := HR2.out.cell (j := 4) (v := .int .i64 0) rfl
 have c95 := HR2.out.cell (j := 5) (v := .int .i64 0) rfl
 obtain ⟨k94, f94⟩ := c94
 obtain ⟨k95, f95⟩ := c95
 go_upto_if 30 with fail
 go_cut [9] from 30 to 48 (fun s9 wx => s9 = .pointer (some ⟨G9, 0, none⟩) /\ RX w base S (chP first T xs) b c (Value.slice rsp xs.length rcap) (Value.slice psp xs.length pcap) (recsOf first T xs) (pgsOf T xs.length) w.heap.size G9 (irC x) (⟨verN first 1, first, 0, 0, rtOf T x, ctOf T x, x.sum⟩) wx)
 case first =>
   by_cases hc : 0 <= x.root /\ 0 < T
   · rw [decide_eq_true hc]
     obtain ⟨q, hq⟩ : ∃ q, x.root.tmod (T : Int) = q := ⟨_, rfl⟩
     have hq1 : x.root % (T : Int) = q := by rw [<- hq, Int.tmod_eq_emod_of_nonneg hc.1]
     have hq2 : 0 <= q /\ q < 8 := by
       have a1 := Int.emod_nonneg x.root (b := (T : Int)) (by omega)
       have a2 := Int.emod_lt_of_pos x.root (b := (T : Int)) (by omega)
       omega
     obtain ⟨hq3, hq4⟩ := hq2
     have hT0 : (T : Int) ≠ 0 := by omega
     have ERT := hid (show rtOf T x = 2 + q by unfold rtOf; rw [if_pos hc, hq1])
     have hc1 := hc.1
     have hT1 : (0 : Int) < (T : Int) := by omega
     have R4 := HR2.out.set HB.out HNE.out 4 (.int .i64 (2 + q)) ⟨verN first 1, first, 0, 0, rtOf T x, 0, x.sum⟩ (by rw [ERT.out]; rfl)
     have R5 := hid (R4.set HB.out HNE.out 5 (.int .i64 1) ⟨verN first 1, first, 0, 0, rtOf T x, 1, x.sum⟩ rfl)
     have HC := hid hc
     by_cases g1 : 1 < x.count
     · by_cases g2 : x.count <= 4096
       · have R6 := hid (R5.out.set HB.out HNE.out 5 (.int .i64 x.count) ⟨verN first 1, first, 0, 0, rtOf T x, ctOf T x, x.sum⟩ (by rw [show ctOf T x = x.count by unfold ctOf; rw [if_pos hc, if_pos ⟨g1, g2⟩]]; rfl))
         clear hc hq1 R4
         go_wp2_with fail
         go_meet
         exact ⟨rfl, R6.out⟩
       · have EC := hid (show ctOf T x = 1 by unfold ctOf; rw [if_pos hc, if_neg (fun z => g2 z.2)])
         clear hc hq1 R4
         go_wp2_with fail
         go_meet
         exact ⟨rfl, by rw [EC.out]; exact R5.out⟩
     · have EC := hid (show ctOf T x = 1 by unfold ctOf; rw [if_pos hc, if_neg (fun z => g1 z.1)])
       clear hc hq1 R4
       go_wp2_with fail
       go_meet
       exact ⟨rfl, by rw [EC.out]; exact R5.out⟩
   · rw [decide_eq_false hc]
     have E1 := hid (show rtOf T x = 0 by unfold rtOf; rw [if_neg hc])
     have E2 := hid (show ctOf T x = 0 by unfold ctOf; rw [if_neg hc])
     clear hc
     go_wp2_with fail
     go_meet
     exact ⟨rfl, by rw [E1.out, E2.out]; exact HR2.out⟩
 case rest =>
 clear HR2 c70 c71 k94 f94 k95 f95
 obtain ⟨rfl, hR3⟩ := hcut
 have HR3 := hid hR3
 clear hR3
 obtain ⟨W3, hW3⟩ : ∃ W3, W3 = wc := ⟨_, rfl⟩
 rw [<- hW3] at HR3 ⊢
 clear hW3
 have k1 := HR3.out.cn.c1
 have k2 := HR3.out.cn.c2
 have hni : (xs.length : Int) <= 3999 := by omega
 go_upto_if 56 with fail
 go_cut [10] from 56 to 67 (fun s10 wx => s10 = .int .i64 (pgN T xs.length) /\ RX w base S (chP first T xs) b c (Value.slice rsp xs.length rcap) (Value.slice psp xs.length pcap) (recsOf first T xs) (pgsOf T xs.length) w.heap.size G9 (irC x) (recH first T xs.length x) wx)
 case first =>
   by_cases hm : xs.length = 0
   · have EM := hid hm
     have hm1 : (xs.length : Int) = 0 := by omega
     clear hm
     go_wp2_with fail
     go_meet
     exact ⟨by rw [EM.out]; rfl, by unfold recH; rw [if_pos EM.out]; exact HR3.out⟩
   · obtain ⟨k, hk⟩ : ∃ k, xs.length = k + 1 := ⟨xs.length - 1, by omega⟩
     obtain ⟨gp, cap, hpv, hcell, hcap1, hcap2⟩ := HR3.out.cn.page k (by rw [pgsOf_len]; omega)
     rw [pgsOf_len] at hpv
     rw [pgsOf_at T xs.length k (by omega), <- hk] at hcell
     obtain ⟨e1, _, e2⟩ := Value.slice.inj hpv
     subst e1
     have EM := hid hm
     have EK := hid hk
     have hm1 : (0 : Int) < (xs.length : Int) := by omega
     have c0 := HR3.out.cell (j := 0) (v := .int .i64 (verN first 1)) rfl
     have c1 := HR3.out.cell (j := 1) (v := .int .i64 first) rfl
     have c2 := HR3.out.cell (j := 2) (v := .int .i64 0) rfl
     obtain ⟨a0, b0⟩ := c0
     obtain ⟨a1, b1⟩ := c1
     obtain ⟨a2, b2⟩ := c2
     have hki : ((xs.length : Int) + 1 - 2).toNat = k := by omega
     have R7 := hid (((HR3.out.set HB.out HNE.out 0 (.int .i64 7) ⟨7, first, 0, 0, rtOf T x, ctOf T x, x.sum⟩ rfl).set HB.out HNE.out 1 (.int .i64 (-9)) ⟨7, -9, 0, 0, rtOf T x, ctOf T x, x.sum⟩ rfl).set HB.out HNE.out 2 (.int .i64 1) ⟨7, -9, 1, 0, rtOf T x, ctOf T x, x.sum⟩ rfl)
     clear hm hk hpv e2
     go_wp2_with fail
     go_meet
     exact ⟨rfl, by unfold recH; rw [if_neg EM.out]; exact R7.out⟩
 case rest =>
 clear HR3 k1 k2
 obtain ⟨rfl, hR4⟩ := hcut
 have HR4 := hid hR4
 clear hR4
 obtain ⟨W4, hW4⟩ : ∃ W4, W4 = wc := ⟨_, rfl⟩
 rw [<- hW4] at HR4 ⊢
 clear hW4
 have c0 := HR4.out.cn.c0
 have KN := hid (HR4.out.cn.ls.next W4 (Below.refl _ _))
 go_wp2_with fail
 refine KN.out.mono ?_
 rintro e W5 ⟨rfl, hb5⟩
 have HR5 : Hid (RX w base S (chP first T xs) b c (Value.slice rsp xs.length rcap) (Value.slice psp xs.length pcap) (recsOf first T xs) (pgsOf T xs.length) w.heap.size G9 (irC x) (recH first T xs.length x) W5) := hid ⟨HR4.out.lc.call hb5, HR4.out.cn.below hb5⟩
 clear HR4 c0 hb5 KN
 have HRD : Hid (RX w base S (chP first T xs) b c (Value.slice rsp xs.length rcap) (Value.slice psp xs.length pcap) (recsOf first T xs) (pgsOf T xs.length) w.heap.size G9 (irC x) (recH first T xs.length x) W5.drew) := hid ⟨HR5.out.lc.drew, HR5.out.cn.below (Below.refl _ _).drew⟩
 have KA := hid (add_chn W5.drew base S first T xs x b HRD.out.cn.ls HOK.out hb HNP.out.1)
 have SH := hid (show (Tryz.prog.info? 49).map (·.size) = some (rcC (recH first T xs.length x)).length by rw [Tryz.sizeRc, rcC_len]; unfold recH; split <;> exact ⟨HXO.out.sm⟩)
 have HPG := hid (show ((2 + (chP first T xs).length : Nat) : Int) = pgN T (xs.length + 1) by rw [chP_len]; unfold pgN; rw [if_neg (by omega)]; omega)
 rw [HPG.out]
 have Z0 := hid (HRD.out.cn.c0)
 have Z9 : Hid (W5.drew.rangeAt G9 0 (rcC (recH first T xs.length x))) := hid (fun j v hv => by rw [Nat.zero_add]; exact (HRD.out.cell hv).1)
 go_upto_region 17 with fail
 refine wp_region_noPanic ?_
 refine wp_region_held_drew (S := fun w' => w'.cell? ⟨c, 0, none⟩ = some (.pointer (some ⟨S.st, 0, none⟩)) /\ w'.rangeAt G9 0 (rcC (recH first T xs.length x))) (by kernel_rfl) ⟨Z0.out, Z9.out⟩ (fun hHeld => ?_)
 refine tkA 0 (.pointer (some ⟨c, 0, none⟩)) rfl hHeld ?_
 try go_frame
 refine tkA 1 (.pointer (some ⟨c, 0, none⟩)) rfl hHeld ?_
 try go_frame
 refine tkA 2 (.pointer (some ⟨c, 0, none⟩)) rfl hHeld ?_
 try go_frame
 refine tqA 3 (.pointer (some ⟨S.st, 0, none⟩)) rfl (yA (by intro w hS; have hc := hS.1; go_simp)) hHeld ?_
 try go_frame
 refine tkA 4 (.int .i64 (pgN T xs.length)) rfl hHeld ?_
 try go_frame
 refine tqA 5 (.agg (rcC (recH first T xs.length x)).toArray) rfl (yieldsIf_load_mid (by rfl) 49 _ rfl G9 0 rfl (rcC (recH first T xs.length x)) _ (fun w hS => hS.2) Tryz.underlying49 rfl SH.out) hHeld ?_
 try go_frame
 refine rdA 6 rfl (fun K hK => ?_)
 go_simp
 go_at_call 17
 refine KA.out.mono ?_
 rintro e W6 ⟨S6, rfl, hl6, hs6⟩
 have HL6 := hid (HRD.out.lc.store hl6 hs6)
 have HC6 := hid (HRD.out.cn.store hl6 hs6)
 have ST6 := hid hs6.st
 have NP6 := hid (HNP.out.of hs6)
 clear hl6 hs6
 go_wp2_with fail
 refine hK.out _ _ ⟨by rw [<- ST6.out]; exact HC6.out.c0, fun j v hv => by rw [Nat.zero_add]; exact HL6.out.cell (k := G9) (C := (rcC (recH first T xs.length x))) (t := 49) (by simp) hv⟩ ?_
 clear hK K hHeld
 intro hHeld
 try go_frame
 refine tkA 7 (.tuple #[.int .i64 (pgN T (xs.length + 1)), .int .i64 0]) rfl hHeld ?_
 try go_frame
 refine tkA 8 (.int .i64 (pgN T (xs.length + 1))) rfl hHeld ?_
 try go_frame
 refine tkA 9 (.int .i64 0) rfl hHeld ?_
 try go_frame
 refine tkA 10 (.int .i64 (pgN T (xs.length + 1))) rfl hHeld ?_
 try go_frame
 refine tkA 11 (.int .i64 0) rfl hHeld ?_
 try go_frame
 refine wdA ?_
 clear hHeld Z0 Z9 HRD HR5 KA
 have HY6 : Hid (RY w base S S6 (chP first T (xs ++ [x])) (b + 5000) c (Value.slice rsp xs.length rcap) (Value.slice psp xs.length pcap) (recsOf first T xs) (pgsOf T xs.length) w.heap.size G9 (irC x) (recH first T xs.length x) W6) := hid ⟨HL6.out, HC6.out⟩
 have c0 := HC6.out.c0
 rw [ST6.out] at c0
 have KN := hid (HC6.out.ls.next W6 (Below.refl _ _))
 rw [ST6.out] at KN
 have hpg : 2 <= pgN T (xs.length + 1) /\ pgN T (xs.length + 1) <= 4096 /\ ((2 + (chP first T (xs ++ [x])).length : Nat) : Int) = pgN T (xs.length + 1) + 1 := by
   have := HOK.out.T8
   rw [chP_len, List.length_append, List.length_singleton]
   unfold pgN
   rw [if_neg (by omega)]
   omega
 rw [hpg.2.2] at KN
 obtain ⟨hp1, hp2, _⟩ := hpg
 obtain ⟨pg, hPG⟩ : ∃ pg, pgN T (xs.length + 1) = pg := ⟨_, rfl⟩
 rw [hPG] at KN hp1 hp2 ⊢
 have HPGE := hid hPG
 clear HL6 HC6 hPG HPG
 go_wp2_with fail
 refine KN.out.mono ?_
 rintro e W7 ⟨rfl, hb7⟩
 have HY7 := hid (HY6.out.call hb7)
 clear HY6 c0 hb7 KN
 go_upto_region 20 with fail
 obtain ⟨a1, b1⟩ := HY7.out.cell (j := 1) (v := .int .i64 (recH first T xs.length x).f) rfl
 obtain ⟨a0, b0⟩ := HY7.out.cell (j := 0) (v := .int .i64 (recH first T xs.length x).v) rfl
 have HY8 := hid ((HY7.out.set HB.out HNE.out 1 (.int .i64 first) { recH first T xs.length x with f := first } rfl).set HB.out HNE.out 0 (.int .i64 ((xs.length : Int) + 1)) { recH first T xs.length x with f := first, v := (xs.length : Int) + 1 } rfl)
 clear HY7
 go_upto_if 105 with fail
 clear a0 a1 b0 b1
 generalize (W7.setCell ⟨G9, 1, none⟩ (.int .i64 first)).setCell ⟨G9, 0, none⟩ (.int .i64 ((xs.length : Int) + 1)) = W8 at *
 obtain ⟨a0, b0⟩ := HY8.out.cell (j := 0) (v := .int .i64 ((xs.length : Int) + 1)) rfl
 go_cut [9] from 105 to 110 (fun s9 wx => s9 = .pointer (some ⟨G9, 0, none⟩) /\ RY w base S S6 (chP first T (xs ++ [x])) (b + 5000) c (Value.slice rsp xs.length rcap) (Value.slice psp xs.length pcap) (recsOf first T xs) (pgsOf T xs.length) w.heap.size G9 (irC x) ({ recH first T xs.length x with f := first, v := verN first (xs.length + 1) }) wx)
 case first =>
   by_cases hz : first = 0
   · have HZ := hid hz
     have hz1 : ¬ (0 < first) := by omega
     clear hz
     go_wp2_with fail
     go_meet
     exact ⟨rfl, by rw [show verN first (xs.length + 1) = (xs.length : Int) + 1 by unfold verN; rw [if_pos HZ.out]; push_cast; rfl]; exact HY8.out⟩
   · have hz1 : 0 < first := by omega
     have HV := hid (show verN first (xs.length + 1) = first + ((xs.length : Int) + 1) - 1 by unfold verN; rw [if_neg hz]; push_cast; rfl)
     have HY9 := hid (HY8.out.set HB.out HNE.out 0 (.int .i64 (first + ((xs.length : Int) + 1) - 1)) { recH first T xs.length x with f := first, v := first + ((xs.length : Int) + 1) - 1 } rfl)
     clear hz
     go_wp2_with fail
     go_meet
     exact ⟨rfl, by rw [HV.out]; exact HY9.out⟩
 case rest =>
 clear HY8 a0 b0
 obtain ⟨rfl, hY9⟩ := hcut
 have HY9 := hid hY9
 clear hY9
 obtain ⟨W9, hW9⟩ : ∃ W9, W9 = wc := ⟨_, rfl⟩
 rw [<- hW9] at HY9 ⊢
 clear hW9
 obtain ⟨a2, b2⟩ := HY9.out.cell (j := 2) (v := .int .i64 (recH first T xs.length x).p) rfl
 obtain ⟨a3, b3⟩ := HY9.out.cell (j := 3) (v := .int .i64 (recH first T xs.length x).s) rfl
 have HYA := hid ((HY9.out.set HB.out HNE.out 2 (.int .i64 (pgN T xs.length)) { recH first T xs.length x with f := first, v := verN first (xs.length + 1), p := pgN T xs.length } rfl).set HB.out HNE.out 3 (.int .i64 0) { recH first T xs.length x with f := first, v := verN first (xs.length + 1), p := pgN T xs.length, s := 0 } rfl)
 clear HY9
 go_upto_if 119 with fail
 clear a2 b2 a3 b3
 generalize (W9.setCell ⟨G9, 2, none⟩ (.int .i64 (pgN T xs.length))).setCell ⟨G9, 3, none⟩ (.int .i64 0) = WA at *
 obtain ⟨fr, hfr⟩ : ∃ fr, farN (xs.length + 1) = fr := ⟨_, rfl⟩
 obtain ⟨hfl, hfe⟩ := farN_lt (xs.length + 1) (by omega) (by omega)
 rw [hfr] at hfl hfe
 have hbits : bits .and .i64 ((xs.length : Int) + 1) (xs.length : Int) = (fr : Int) := by
   rw [<- hfe]
   unfold far
   rw [show ((xs.length + 1 : Nat) : Int) = (xs.length : Int) + 1 by push_cast; rfl, show (xs.length : Int) + 1 - 1 = (xs.length : Int) by omega]
 rw [hbits]
 have HFR := hid hfr
 clear hfe hbits hfr
 obtain ⟨a3, b3⟩ := HYA.out.cell (j := 3) (v := .int .i64 0) rfl
 have k2 := HYA.out.cn.c2
 have EFN : Hid (({ recH first T xs.length x with f := first, v := verN first (xs.length + 1), p := pgN T xs.length, s := pgN T fr } : Rc) = recN first T (xs.length + 1) x) := hid (by
   unfold recH recN
   rw [HFR.out]
   split <;> rfl)
 go_cut [9] from 119 to 128 (fun s9 wx => s9 = .pointer (some ⟨G9, 0, none⟩) /\ RY w base S S6 (chP first T (xs ++ [x])) (b + 5000) c (Value.slice rsp xs.length rcap) (Value.slice psp xs.length pcap) (recsOf first T xs) (pgsOf T xs.length) w.heap.size G9 (irC x) (recN first T (xs.length + 1) x) wx)
 case first =>
   by_cases hz : fr = 0
   · have HZ := hid hz
     have hz1 : ¬ (0 < (fr : Int)) := by omega
     clear hz
     go_wp2_with fail
     go_meet
     exact ⟨rfl, by rw [<- EFN.out, HZ.out]; exact HYA.out⟩
   · obtain ⟨gp, cap, hpv, hcell, hcap1, hcap2⟩ := HYA.out.cn.page (fr - 1) (by rw [pgsOf_len]; omega)
     rw [pgsOf_len] at hpv
     rw [pgsOf_at T xs.length (fr - 1) (by omega), show fr - 1 + 1 = fr by omega] at hcell
     obtain ⟨e1, _, e2⟩ := Value.slice.inj hpv
     subst e1
     have hz1 : (0 : Int) < (fr : Int) := by omega
     have hfi : (fr : Int) <= (xs.length : Int) := by omega
     have hki : ((fr : Int) - 1).toNat = fr - 1 := by omega
     have HYB := hid (HYA.out.set HB.out HNE.out 3 (.int .i64 (pgN T fr)) { recH first T xs.length x with f := first, v := verN first (xs.length + 1), p := pgN T xs.length, s := pgN T fr } rfl)
     rw [EFN.out] at HYB
     clear hz hpv e2
     go_wp2_with fail
     go_meet
     exact ⟨rfl, HYB.out⟩
 case rest =>
 clear HYA a3 b3 k2 EFN hfl
 obtain ⟨rfl, hYC⟩ := hcut
 have HYC := hid hYC
 clear hYC
 obtain ⟨WC, hWC⟩ : ∃ WC, WC = wc := ⟨_, rfl⟩
 rw [<- hWC] at HYC ⊢
 clear hWC HFR
 have RXO := hid (show RcOk (recN first T (xs.length + 1) x) from ⟨HXO.out.sm⟩)
 have HCD := hid (HYC.out.cn.below (Below.refl _ _).drew)
 have HBD := hid ((HYC.out.lc.sp.below HH.out.ls.sk).drew)
 have Z9 : Hid (WC.drew.rangeAt G9 0 (rcC (recN first T (xs.length + 1) x))) := hid (fun j v hv => by rw [Nat.zero_add]; exact (HYC.out.cell hv).1)
 have k1 := HCD.out.c1
 have SR := hid (show (Tryz.prog.info? 49).map (·.size) = some (rcC (recN first T (xs.length + 1) x)).length by rw [Tryz.sizeRc, rcC_len RXO.out])
 have APP : Hid (∀ v' w', w'.ownsRow base 49 38 v' (xs.length + 1) ((recsOf first T xs).flatMap rcC ++ rcC (recN first T (xs.length + 1) x)) -> (WC.drew.alloc (.cells (rcC (recN first T (xs.length + 1) x)).toArray 49)).grownBy w' (Value.slice rsp xs.length rcap).ownBlock -> (v'.ownBlock = (Value.slice rsp xs.length rcap).ownBlock \/ v'.ownBlock = some (WC.drew.heap.size + 1)) -> w'.cell? ⟨c, 1, none⟩ = some (Value.slice rsp xs.length rcap) /\ w'.frozen? ⟨c, 1, none⟩ = false /\ Cn (w'.setCell ⟨c, 1, none⟩ v') base S6 (chP first T (xs ++ [x])) (b + 5000) c v' (Value.slice psp xs.length pcap) (recsOf first T (xs ++ [x])) (pgsOf T xs.length) /\ Below base w (w'.setCell ⟨c, 1, none⟩ v')) := hid (fun v' w' ho hg hd => by
   obtain ⟨q1, q2, q3, q4⟩ := HCD.out.appR (recN first T (xs.length + 1) x) (.cells (rcC (recN first T (xs.length + 1) x)).toArray 49) v' (by rw [recsOf_len]; exact ho) hg hd
   rw [<- recsOf_snoc] at q3
   exact ⟨q1, q2, q3, HBD.out.trans q4⟩)
 have ROW : Hid (WC.drew.ownsRow base 49 38 (Value.slice rsp xs.length rcap) xs.length ((recsOf first T xs).flatMap rcC)) := hid (by have := HCD.out.ro; rwa [recsOf_len] at this)
 have BSZ := hid (show base <= WC.drew.heap.size from HCD.out.ls.sk.base)
 have LR := hid (rcC_len RXO.out)
 have OR := hid (rcC_one (recN first T (xs.length + 1) x))
 have HK1 : Hid (∀ o : Obj, (WC.drew.alloc o).cell? ⟨c, 1, none⟩ = some (Value.slice rsp xs.length rcap)) := hid (fun o => (HCD.out.below (below_new _ o)).c1)
 have HK9 : Hid (∀ o : Obj, (WC.drew.alloc o).rangeAt G9 0 (rcC (recN first T (xs.length + 1) x))) := hid (fun o j v hv => by
   have := Z9.out j v hv
   exact ((below_new WC.drew o).cell (p := ⟨G9, 0 + j, none⟩) (World.block_lt_of_cell? _ _ this)).trans this)
 have RL := hid (show (recsOf first T xs).length = xs.length from recsOf_len _ _ _)
 clear HYC HBD
 go_upto_region 29 with fail
 go_cut [0] from 129 to 138 (fun s0 wx => s0 = .pointer (some ⟨c, 0, none⟩) /\ ∃ sp8 cp8, Cn wx base S6 (chP first T (xs ++ [x])) (b + 5000) c (.slice sp8 (xs.length + 1) cp8) (Value.slice psp xs.length pcap) (recsOf first T (xs ++ [x])) (pgsOf T xs.length) /\ Below base w wx)
 case first =>
   rename_i J1 K1 hJ1 hK1
   refine wp_region_noPanic ?_
   refine wp_region_held_drew (S := fun w' => w'.rangeAt G9 0 (rcC (recN first T (xs.length + 1) x)) \/ True) (by kernel_rfl) (Or.inr trivial) (fun hHeld => ?_)
   refine tkA 0 (.pointer (some ⟨c, 0, none⟩)) rfl hHeld ?_
   try go_frame
   refine tkA 1 (.pointer (some ⟨c, 0, none⟩)) rfl hHeld ?_
   try go_frame
   refine tkA 2 (.pointer (some ⟨c, 0, none⟩)) rfl hHeld ?_
   try go_frame
   refine tkA 3 (.pointer (some ⟨c, 1, none⟩)) rfl hHeld ?_
   try go_frame
   refine wpAnyH_ready (rs := [4, 5]) (by kernel_rfl) (by simp) ?_
   refine (consA rfl (fun K hK => ?_) (consA rfl (fun K hK => ?_) AllReadyH.nil))
   · skip
     have hc := k1
     go_simp
     refine hK.out _ _ (Or.inr trivial) ?_
     clear hK K hHeld
     intro hHeld
     try go_frame
     clear hc
     refine rdA 5 rfl (fun K hK => ?_)
     refine (if_pos (show Region.wanted _ _ = true from rfl)).mpr (wp_load_mid 49 _ rfl G9 0 rfl (rcC (recN first T (xs.length + 1) x)) _ (Z9.out) Tryz.underlying49 rfl SR.out ?_)
     refine hK.out _ _ (Or.inr trivial) ?_
     clear hK K hHeld
     intro hHeld
     try go_frame
     refine rdA 6 rfl (fun K hK => ?_)
     refine step_sliceR rfl _ rfl (rcC (recN first T (xs.length + 1) x)) LR.out rfl ?_
     refine hK.out _ _ (Or.inr trivial) ?_
     clear hK K hHeld
     intro hHeld
     try go_frame
     refine rdA 7 rfl (fun K hK => ?_)
     refine step_pushR rfl _ _ rfl base (.slice rsp xs.length rcap) xs.length ((recsOf first T xs).flatMap rcC) (rcC (recN first T (xs.length + 1) x)) rfl ROW.out rfl LR.out OR.out (by omega) BSZ.out 49 (0, 0) ?_
     intro v8 w8 ho8 hg8 hd8
     obtain ⟨q1, q2, q3, q4⟩ := APP.out v8 w8 ho8 hg8 hd8
     obtain ⟨sp8, cp8, hv8⟩ := ownsRow_form ho8
     subst hv8
     have Q3 := hid q3
     have Q4 := hid q4
     clear ho8 hg8 hd8 q3 q4
     refine hK.out _ _ (Or.inr trivial) ?_
     clear hK K hHeld
     intro hHeld
     try go_frame
     refine tkA 8 (.pointer (some ⟨c, 0, none⟩)) rfl hHeld ?_
     try go_frame
     refine tkA 9 (.pointer (some ⟨c, 1, none⟩)) rfl hHeld ?_
     try go_frame
     refine rdA 10 rfl (fun K hK => ?_)
     go_simp
     refine hK.out _ _ (Or.inr trivial) ?_
     clear hK K hHeld
     intro hHeld
     try go_frame
     clear q1 q2
     refine wdA ?_
     clear hHeld
     refine hK1 _ _ (Met.intro (hJ1 _ _ ?_))
     (repeat apply Exists.intro)
     refine ⟨⟨rfl, sp8, cp8, Q3.out, Q4.out⟩, rfl⟩
   · skip
     refine (if_pos (show Region.wanted _ _ = true from rfl)).mpr (wp_load_mid 49 _ rfl G9 0 rfl (rcC (recN first T (xs.length + 1) x)) _ (Z9.out) Tryz.underlying49 rfl SR.out ?_)
     refine hK.out _ _ (Or.inr trivial) ?_
     clear hK K hHeld
     intro hHeld
     try go_frame
     refine wpAnyH_ready (rs := [4, 6]) (by kernel_rfl) (by simp) ?_
     refine (consA rfl (fun K hK => ?_) (consA rfl (fun K hK => ?_) AllReadyH.nil))
     · skip
       have hc := k1
       go_simp
       refine hK.out _ _ (Or.inr trivial) ?_
       clear hK K hHeld
       intro hHeld
       try go_frame
       clear hc
       refine rdA 6 rfl (fun K hK => ?_)
       refine step_sliceR rfl _ rfl (rcC (recN first T (xs.length + 1) x)) LR.out rfl ?_
       refine hK.out _ _ (Or.inr trivial) ?_
       clear hK K hHeld
       intro hHeld
       try go_frame
       refine rdA 7 rfl (fun K hK => ?_)
       refine step_pushR rfl _ _ rfl base (.slice rsp xs.length rcap) xs.length ((recsOf first T xs).flatMap rcC) (rcC (recN first T (xs.length + 1) x)) rfl ROW.out rfl LR.out OR.out (by omega) BSZ.out 49 (0, 0) ?_
       intro v8 w8 ho8 hg8 hd8
       obtain ⟨q1, q2, q3, q4⟩ := APP.out v8 w8 ho8 hg8 hd8
       obtain ⟨sp8, cp8, hv8⟩ := ownsRow_form ho8
       subst hv8
       have Q3 := hid q3
       have Q4 := hid q4
       clear ho8 hg8 hd8 q3 q4
       refine hK.out _ _ (Or.inr trivial) ?_
       clear hK K hHeld
       intro hHeld
       try go_frame
       refine tkA 8 (.pointer (some ⟨c, 0, none⟩)) rfl hHeld ?_
       try go_frame
       refine tkA 9 (.pointer (some ⟨c, 1, none⟩)) rfl hHeld ?_
       try go_frame
       refine rdA 10 rfl (fun K hK => ?_)
       go_simp
       refine hK.out _ _ (Or.inr trivial) ?_
       clear hK K hHeld
       intro hHeld
       try go_frame
       clear q1 q2
       refine wdA ?_
       clear hHeld
       refine hK1 _ _ (Met.intro (hJ1 _ _ ?_))
       (repeat apply Exists.intro)
       refine ⟨⟨rfl, sp8, cp8, Q3.out, Q4.out⟩, rfl⟩
     · skip
       refine step_sliceR rfl _ rfl (rcC (recN first T (xs.length + 1) x)) LR.out rfl ?_
       refine hK.out _ _ (Or.inr trivial) ?_
       clear hK K hHeld
       intro hHeld
       try go_frame
       refine rdA 4 rfl (fun K hK => ?_)
       have hc := (show (WC.alloc (.cells (rcC (recN first T (xs.length + 1) x)).toArray 49)).drew.cell? ⟨c, 1, none⟩ = some (Value.slice rsp xs.length rcap) from HK1.out (.cells (rcC (recN first T (xs.length + 1) x)).toArray 49))
       go_simp
       refine hK.out _ _ (Or.inr trivial) ?_
       clear hK K hHeld
       intro hHeld
       try go_frame
       clear hc
       refine rdA 7 rfl (fun K hK => ?_)
       refine step_pushR rfl _ _ rfl base (.slice rsp xs.length rcap) xs.length ((recsOf first T xs).flatMap rcC) (rcC (recN first T (xs.length + 1) x)) rfl ROW.out rfl LR.out OR.out (by omega) BSZ.out 49 (0, 0) ?_
       intro v8 w8 ho8 hg8 hd8
       obtain ⟨q1, q2, q3, q4⟩ := APP.out v8 w8 ho8 hg8 hd8
       obtain ⟨sp8, cp8, hv8⟩ := ownsRow_form ho8
       subst hv8
       have Q3 := hid q3
       have Q4 := hid q4
       clear ho8 hg8 hd8 q3 q4
       refine hK.out _ _ (Or.inr trivial) ?_
       clear hK K hHeld
       intro hHeld
       try go_frame
       refine tkA 8 (.pointer (some ⟨c, 0, none⟩)) rfl hHeld ?_
       try go_frame
       refine tkA 9 (.pointer (some ⟨c, 1, none⟩)) rfl hHeld ?_
       try go_frame
       refine rdA 10 rfl (fun K hK => ?_)
       go_simp
       refine hK.out _ _ (Or.inr trivial) ?_
       clear hK K hHeld
       intro hHeld
       try go_frame
       clear q1 q2
       refine wdA ?_
       clear hHeld
       refine hK1 _ _ (Met.intro (hJ1 _ _ ?_))
       (repeat apply Exists.intro)
       refine ⟨⟨rfl, sp8, cp8, Q3.out, Q4.out⟩, rfl⟩
 case rest =>
 obtain ⟨rfl, sp8, cp8, hC8, hB8⟩ := hcut
 have HC8 := hid hC8
 have HB8 := hid hB8
 clear hC8 hB8 APP ROW BSZ HK1 HK9 Z9 k1 HCD
 have k2 := HC8.out.c2
 have ROP : Hid (wc.ownsRow base 3 1 (Value.slice psp xs.length pcap) xs.length ((pgsOf T xs.length).map (Value.int .i64))) := hid (by have := HC8.out.po; rwa [pgsOf_len] at this)
 have BSZ := hid (show base <= wc.heap.size from HC8.out.ls.sk.base)
 have APP : Hid (∀ v' w', w'.ownsRow base 3 1 v' (xs.length + 1) ((pgsOf T xs.length).map (Value.int .i64) ++ [.int .i64 pg]) -> (wc.alloc (.cells #[.int .i64 pg] 3)).grownBy w' (Value.slice psp xs.length pcap).ownBlock -> (v'.ownBlock = (Value.slice psp xs.length pcap).ownBlock \/ v'.ownBlock = some (wc.heap.size + 1)) -> w'.cell? ⟨c, 2, none⟩ = some (Value.slice psp xs.length pcap) /\ w'.frozen? ⟨c, 2, none⟩ = false /\ Cn (w'.setCell ⟨c, 2, none⟩ v') base S6 (chP first T (xs ++ [x])) (b + 5000) c (.slice sp8 (xs.length + 1) cp8) v' (recsOf first T (xs ++ [x])) (pgsOf T (xs.length + 1)) /\ Below base w (w'.setCell ⟨c, 2, none⟩ v')) := hid (fun v' w' ho hg hd => by
   obtain ⟨q1, q2, q3, q4⟩ := HC8.out.appP pg (.cells #[.int .i64 pg] 3) v' (by rw [pgsOf_len]; exact ho) hg hd
   rw [<- HPGE.out, <- pgsOf_succ] at q3
   exact ⟨q1, q2, q3, HB8.out.trans q4⟩)
 go_wp2_with (first
   | (refine wpList_pushI rfl _ _ rfl base (Value.slice psp xs.length pcap) xs.length ((pgsOf T xs.length).map (Value.int .i64)) pg rfl ROP.out rfl (by omega) BSZ.out ?_; intro v9 w9 ho9 hg9 hd9; have HV := hid (APP.out v9 w9 ho9 hg9 hd9); obtain ⟨sp9, cp9, hv9⟩ := ownsRow_form ho9; subst hv9; clear ho9 hg9 hd9; have kk2 := HV.out.1; have kf2 := HV.out.2.1; have kC := HV.out.2.2.1; have kB := HV.out.2.2.2))
 go_ret
 exact ⟨S6, _, _, rfl, by assumption, ST6.out, NP6.out, by assumption⟩
end Go.Proofs.YtbnghhgeoodphaaGreatDoor
namespace Go.Proofs.YtbnghhgeoodphaaGreatDoor
set_option maxRecDepth 100000
set_option maxHeartbeats 40000000
set_option linter.unusedVariables false
set_option linter.unusedSimpArgs false
open Go.RowKit
attribute [local go_sem ↓] Go.wp_at_zero Go.wp_at_succ
def SrcR (base : Nat) (w : World) (sp : Option Addr) (l : List IR) : Prop := ∃ b o, (0 < l.length -> b < base) /\ (0 < l.length -> sp = some ⟨b, o, none⟩) /\ ∀ j, j < l.length -> w.rangeAt b (o + j * 34) (irC (l.getD j dIR))
theorem SrcR.below {base : Nat} {w w1 : World} {sp : Option Addr} {l : List IR} (h : SrcR base w sp l) (hb : Below base w w1) : SrcR base w1 sp l := by
 obtain ⟨b, o, h1, h2, h3⟩ := h
 refine ⟨b, o, h1, h2, fun j hj i v hv => ?_⟩
 have := h3 j hj i v hv
 exact (hb.cell (p := ⟨b, o + j * 34 + i, none⟩) (h1 (by omega))).trans this
theorem irC_len (x : IR) (h : IROk x) : (irC x).length = 34 := by simp [irC, ints_len, h.sm]
theorem sizeIr : (Tryz.prog.info? 61).map (·.size) = some 34 := by kernel_rfl
theorem take_snoc (xs : List IR) (i : Nat) (hi : i < xs.length) : xs.take (i + 1) = xs.take i ++ [xs.getD i dIR] := by
 rw [List.take_add_one, List.getD_eq_getElem?_getD]
 rw [List.getElem?_eq_getElem hi]; rfl
theorem ChOk.take {first : Int} {T : Nat} {xs : List IR} (h : ChOk first T xs) (i : Nat) : ChOk first T (xs.take i) := ⟨h.f0, h.f1, h.T8, by rw [List.length_take]; have := h.n4; omega, fun x hx => h.ok x (List.mem_of_mem_take hx)⟩
theorem made_any (w : World) (base : Nat) (S : Sto) (b : Nat) (h : Ls w base S [] b) (hb : b <= 1000) (s0 : Sd) (hnp : NpS S s0) (first : Int) (T : Nat) (xs : List IR) (hok : ChOk first T xs) (sp : Option Addr) (cap : Nat) (hS : SrcR base w sp xs) :
   Calls Tryz.prog 9 #[.pointer (some ⟨S.st, 0, none⟩), .int .i64 first, .int .i64 T, .slice sp xs.length cap] w fun e w' => ∃ S' c rv pv b', e = .returned (.pointer (some ⟨c, 0, none⟩)) /\ Cn w' base S' (chP first T xs) b' c rv pv (recsOf first T xs) (pgsOf T xs.length) /\ S'.st = S.st /\ NpS S' s0 /\ Below base w w' /\ b' <= 100000000 := by
 have HC0 : Hid (Cn (w.alloc (.cells #[.pointer (some ⟨S.st, 0, none⟩), .slice none 0 0, .slice none 0 0] 42)) base S [] b w.heap.size (.slice none 0 0) (.slice none 0 0) [] []) := hid ⟨h.below (below_new w _), hnew w _, ownsRow_none _ _ _ _, ownsRow_none _ _ _ _, h.sk.base, fun q => absurd ((h.sk.fpIn q).2) (by omega), fun i e => (by cases e), fun i e => (by cases e)⟩
 have HBL0 : Hid (Below base w (w.alloc (.cells #[.pointer (some ⟨S.st, 0, none⟩), .slice none 0 0, .slice none 0 0] 42))) := hid ((below_new w _).mono h.sk.base)
 have KT := hid (trees_any _ base S b w.heap.size _ _ _ _ HC0.out (by omega) T hok.T8 s0 hnp)
 have BC := hid (show Tryz.prog.built 42 [(0, .pointer (some ⟨S.st, 0, none⟩))] = some #[.pointer (some ⟨S.st, 0, none⟩), .slice none 0 0, .slice none 0 0] by kernel_rfl)
 have HOK := hid hok
 have hn4 : (xs.length : Int) <= 4000 := by have := hok.n4; omega
 have HSR := hid hS
 obtain ⟨c, hc⟩ : ∃ c, w.heap.size = c := ⟨_, rfl⟩
 have HST := hid (show S.st = S.st from rfl)
 obtain ⟨st, hst⟩ : ∃ st, S.st = st := ⟨_, rfl⟩
 have HSTV := hid hst
 clear h hok hnp hS
 rw [hst] at HC0 HBL0 KT BC ⊢
 rw [hc] at KT
 go_enter Tryz.func9, Tryz.ntmps9
 go_wp2_with (first
   | refine wpList_built (by rfl) 42 _ rfl _ rfl _ BC.out ?_)
 refine KT.out.mono ?_
 rintro e w1 ⟨S1, rfl, hC1, hs1, hn1, hb1⟩
 have HC1 := hid hC1
 have HS1 := hid hs1
 have HN1 := hid hn1
 have HB1 := hid (HBL0.out.trans hb1)
 clear hC1 hs1 hn1 hb1 KT HC0 HBL0 BC
 go_wp2
 go_loopw [10, 11] (fun s10 i w' => ∃ (k : Nat) (S' : Sto) (rv pv : Value) (b' : Nat), k <= xs.length /\ s10 = .bool true /\ i = .int .i64 k /\ Cn w' base S' (chP first T (xs.take k)) b' c rv pv (recsOf first T (xs.take k)) (pgsOf T k) /\ S'.st = st /\ NpS S' s0 /\ Below base w w' /\ b' <= 2000 + 5000 * k) (fun _ i _ => xs.length - (intOf i).toNat)
 case atStart => exact ⟨0, S1, _, _, b + T, by omega, rfl, rfl, by have := HC1.out; rw [show trP T = chP first T (xs.take 0) by simp [chP, recsOf]] at this; exact this, HS1.out, HN1.out, HB1.out, by have := HOK.out.T8; omega⟩
 case round =>
   obtain ⟨k, S', rv, pv, b', hk, rfl, rfl, hC, hs, hn2, hbl, hb'⟩ := hrel
   have HC := hid hC
   have HS := hid hs
   have HN2 := hid hn2
   have HBL := hid hbl
   have HB' := hid hb'
   clear hC hs hn2 hbl hb'
   by_cases hk2 : k < xs.length
   · have i1 : (k : Int) < (xs.length : Int) := by omega
     obtain ⟨rb, ro, q1, q2, q3⟩ := HSR.out.below HBL.out
     have hsp := q2 (by omega)
     subst hsp
     have hxo : IROk (xs.getD k dIR) := HOK.out.at k hk2
     have RG := hid (q3 k hk2)
     have SZ := hid (show (Tryz.prog.info? 61).map (·.size) = some (irC (xs.getD k dIR)).length by rw [sizeIr, irC_len _ hxo])
     have hkn : (xs.take k).length = k := by rw [List.length_take]; omega
     have KA := hid (cadd_any wr base S' first T (xs.take k) (xs.getD k dIR) b' c rv pv (by rw [hkn]; exact HC.out) (by rw [<- take_snoc xs k hk2]; exact HOK.out.take (k + 1)) (by have := HB'.out; have := HOK.out.n4; omega) s0 HN2.out)
     rw [hkn, <- take_snoc xs k hk2] at KA
     clear q1 q2 q3 hxo
     generalize xs.getD k dIR = xk at RG SZ KA
     go_wp2_with (first
       | refine wpList_load_mid_w (by rfl) 61 _ (by rfl) rb (ro + k * 34) (by rfl) (irC xk) _ RG.out Tryz.underlying61 rfl SZ.out ?_)
     refine KA.out.mono ?_
     rintro e w3 ⟨S3, rv3, pv3, rfl, hC3, hs3, hn3, hb3⟩
     have HC3 := hid hC3
     have HS3 := hid (hs3.trans HS.out)
     have HN3 := hid hn3
     have HB3 := hid (HBL.out.trans hb3)
     clear hC3 hs3 hn3 hb3
     go_wp2
     go_roundw
     case rel => exact ⟨k + 1, S3, rv3, pv3, b' + 5000, by omega, rfl, by go_num, HC3.out, HS3.out, HN3.out, HB3.out, by have := HB'.out; omega⟩
     case measure => simp [intOf]; omega
   · obtain rfl : k = xs.length := by omega
     go_wp2
     go_ret
     exact ⟨S', c, rv, pv, b', rfl, by have := HC.out; rwa [List.take_length] at this, HS.out, HN2.out, HBL.out, by have := HB'.out; have := HOK.out.n4; omega⟩
theorem hbounded_yes (w : World) (first : Int) (T : Int) (sp : Option Addr) (n cap : Nat) (h : 0 <= first /\ first <= 536870912 /\ 0 <= T /\ T <= 8 /\ 1 <= (n : Int) /\ (n : Int) <= 4000) : Calls Tryz.prog 7 #[.int .i64 first, .int .i64 T, .slice sp n cap] w fun e w' => e = .returned (.bool true) /\ w = w' := by
 obtain ⟨h1, h2, h3, h4, h5, h6⟩ := h
 go_enter Tryz.func7, Tryz.ntmps7
 go_wp2
 go_ret
 exact ⟨congrArg (fun b => Ending.returned (Value.bool b)) (by first | rfl | (simp; omega)), rfl⟩
theorem hbounded_no (w : World) (first : Int) (T : Int) (sp : Option Addr) (n cap : Nat) (hn : (n : Int) < 9223372036854775807) (h : ¬ (0 <= first /\ first <= 536870912 /\ 0 <= T /\ T <= 8 /\ 1 <= (n : Int) /\ (n : Int) <= 4000)) : Calls Tryz.prog 7 #[.int .i64 first, .int .i64 T, .slice sp n cap] w fun e w' => e = .returned (.bool false) /\ w = w' := by
 by_cases h1 : 0 <= first
 · skip
   by_cases h2 : first <= 536870912
   · skip
     by_cases h3 : 0 <= T
     · skip
       by_cases h4 : T <= 8
       · skip
         by_cases h5 : 1 <= (n : Int)
         · skip
           have h6 : ¬ (n : Int) <= 4000 := fun q => h ⟨h1, h2, h3, h4, h5, q⟩
           clear h
           go_enter Tryz.func7, Tryz.ntmps7
           go_wp2
           go_ret
           exact ⟨congrArg (fun b => Ending.returned (Value.bool b)) (by first | rfl | (simp; omega)), rfl⟩
         · skip
           clear h
           go_enter Tryz.func7, Tryz.ntmps7
           go_wp2
           go_ret
           exact ⟨congrArg (fun b => Ending.returned (Value.bool b)) (by first | rfl | (simp; omega)), rfl⟩
       · skip
         clear h
         go_enter Tryz.func7, Tryz.ntmps7
         go_wp2
         go_ret
         exact ⟨congrArg (fun b => Ending.returned (Value.bool b)) (by first | rfl | (simp; omega)), rfl⟩
     · skip
       clear h
       go_enter Tryz.func7, Tryz.ntmps7
       go_wp2
       go_ret
       exact ⟨congrArg (fun b => Ending.returned (Value.bool b)) (by first | rfl | (simp; omega)), rfl⟩
   · skip
     clear h
     go_enter Tryz.func7, Tryz.ntmps7
     go_wp2
     go_ret
     exact ⟨congrArg (fun b => Ending.returned (Value.bool b)) (by first | rfl | (simp; omega)), rfl⟩
 · skip
   clear h
   go_enter Tryz.func7, Tryz.ntmps7
   go_wp2
   go_ret
   exact ⟨congrArg (fun b => Ending.returned (Value.bool b)) (by first | rfl | (simp; omega)), rfl⟩
theorem flat38 {α : Type} (f : α -> List Value) (n : Nat) (d : α) : ∀ (l : List α), (∀ x ∈ l, (f x).length = n) -> ∀ j, j < l.length -> ∀ i, i < n -> (l.flatMap f)[j * n + i]? = (f (l.getD j d))[i]?
 | [], _, j, hj, _, _ => by simp at hj
 | x :: l, h, 0, _, i, hi => by
   rw [List.flatMap_cons, Nat.zero_mul, Nat.zero_add, List.getElem?_append_left (by rw [h x (by simp)]; exact hi)]; rfl
 | x :: l, h, j + 1, hj, i, hi => by
   have hx := h x (by simp)
   rw [List.flatMap_cons, List.getElem?_append_right (by rw [hx, Nat.add_mul]; omega), hx, show (j + 1) * n + i - n = j * n + i by rw [Nat.add_mul]; omega]
   rw [flat38 f n d l (fun y hy => h y (by simp [hy])) j (by simpa using hj) i hi]; rfl
theorem Cn.rec' {w : World} {base b c : Nat} {S : Sto} {P : List (Int × List Int)} {rv pv : Value} {recs : List Rc} {pgs : List Int} (h : Cn w base S P b c rv pv recs pgs) (hok : ∀ r ∈ recs, RcOk r) (j : Nat) (hj : j < recs.length) : ∃ g cap, rv = .slice (some ⟨g, 0, none⟩) recs.length cap /\ w.rangeAt g (j * 38) (rcC (recs.getD j rc0)) /\ recs.length <= cap /\ cap <= maxLen := by
 obtain ⟨_, (⟨_, e⟩ | ⟨g, cap, cur, e, _, _, h5, h6, _, _⟩)⟩ := h.ro
 · omega
 · refine ⟨g, cap, e, fun i v hv => ?_, h5, h6⟩
   have this := h.ro
   rw [e] at this
   have hm : recs.getD j rc0 ∈ recs := by rw [List.getD_eq_getElem?_getD, List.getElem?_eq_getElem hj]; exact List.getElem_mem _
   have hi : i < 38 := by have := (List.getElem?_eq_some_iff.1 hv).1; rwa [rcC_len (hok _ hm)] at this
   rw [this.cellAt (j * 38 + i) (by
     have : (j + 1) * 38 <= recs.length * 38 := Nat.mul_le_mul_right _ hj
     rw [Nat.add_mul] at this; omega), flat38 rcC 38 rc0 recs (fun r hr => rcC_len (hok r hr)) j hj i hi]
   exact hv
theorem recsOf_at (first : Int) (T : Nat) (xs : List IR) (j : Nat) (hj : j < xs.length) : (recsOf first T xs).getD j rc0 = recN first T (j + 1) (xs.getD j dIR) := by
 unfold recsOf
 rw [List.getD_eq_getElem?_getD, List.getElem?_map, List.getElem?_range hj]; rfl
theorem recsOf_ok {first : Int} {T : Nat} {xs : List IR} (h : ChOk first T xs) : ∀ r ∈ recsOf first T xs, RcOk r := fun r hr => by
 unfold recsOf at hr
 obtain ⟨j, hj, rfl⟩ := List.mem_map.1 hr
 exact ⟨(h.at j (List.mem_range.1 hj)).sm⟩
structure RW (w0 : World) (base : Nat) (S0 S : Sto) (P : List (Int × List Int)) (b c : Nat) (rv pv : Value) (recs : List Rc) (pgs : List Int) (L : List (Nat × List Value × Nat)) (wx : World) : Prop where
 lc : Lc w0 base S0 P b wx S L
 cn : Cn wx base S P b c rv pv recs pgs
section
variable {w0 wx w1 : World} {base b c : Nat} {S0 S : Sto} {P : List (Int × List Int)} {rv pv : Value} {recs : List Rc} {pgs : List Int} {L : List (Nat × List Value × Nat)}
theorem RW.load {first : Int} {T : Nat} {xs : List IR} {rv pv : Value} (h : RW w0 base S0 S (chP first T xs) b c rv pv recs pgs L wx) (hok : ChOk first T xs) (hb : b <= 1000000000000000000) (k : Nat) (hk : k < xs.length) (st : Nat) (hst : S.st = st) (q : Int) (hq : q = pgN T (k + 1)) :
   Calls Tryz.prog 73 #[.pointer (some ⟨st, 0, none⟩), .int .i64 q] wx fun e w' => ∃ S' sp cap, e = .returned (.tuple #[.int .i64 3, .slice sp 56 cap, .int .i64 0]) /\ Src w' sp cap (loadR (recN first T (k + 1) (xs.getD k dIR))) /\ S'.st = st /\ RW w0 base S0 S' (chP first T xs) (b + 1) c rv pv recs pgs L w' := by
 subst hst hq
 have hn := hok.n4
 refine (h.lc.ls.load hb (T + k) (by rw [chP_len]; omega) (pgN T (k + 1)) (by unfold pgN; rw [if_neg (by omega)]; push_cast; omega)).mono ?_
 rw [chP_at first T xs k hk]
 rintro e w' ⟨S', u, he, hO, hl, hs⟩
 have hlen : (loadR (recN first T (k + 1) (xs.getD k dIR))).length = 56 := loadR_len ⟨(hok.at k hk).sm⟩
 obtain ⟨sp, cap, e1, hS, _⟩ := hO.form
 rw [hlen] at e1
 exact ⟨S', sp, cap, by rw [he, e1], hS, hs.st, ⟨h.lc.store hl hs, h.cn.store hl hs⟩⟩
end
end Go.Proofs.YtbnghhgeoodphaaGreatDoor
namespace Go.Proofs.YtbnghhgeoodphaaGreatDoor
set_option maxRecDepth 100000
set_option maxHeartbeats 40000000
set_option linter.unusedVariables false
set_option linter.unusedSimpArgs false
open Go.RowKit
open Go.Proofs.YtbnghhgeoodphaaGreatDoor.Ca (Ct ct0 ctC argV AS)
theorem Ls.vok {w : World} {base : Nat} {S : Sto} {P : List (Int × List Int)} {b : Nat} (h : Ls w base S P b) : ∀ v ∈ S.vs, (1 <= v.1 /\ v.1 <= 3) /\ v.2.length <= 246 /\ Byts v.2 := fun v hv => by
 obtain ⟨j, hj, e⟩ := List.getElem_of_mem hv
 have c := h.sk.cv j (by rw [h.sk.cl]; exact hj)
 rw [show S.vs.getD j (0, []) = v by rw [<- e]; simp [List.getD, hj]] at c
 exact ⟨c.kk, c.le, c.by8⟩
theorem Hk.val {S : Sto} {o : Sup} {L : List (Int × List Int)} {c : Nat} (h : Hk S o L c) (hc : c <= 1000000) (hfit : 2 + L.length + S.vs.length <= 4096) (hd : Int) (hh : 2 <= hd /\ hd < (2 + L.length + S.vs.length : Nat)) : validS ⟨S.s.wd, S.s.ge + 1, (2 + L.length + S.vs.length : Nat), hd, S.s.pg⟩ = true := by
 obtain ⟨v1, v2, v3, v4, v5, v6, v7, v8, v9⟩ := (validS_iff _).1 h.hs.gd.1
 have e4 := h.ge
 have e6 := h.hs.pg
 rw [validS_iff]; dsimp only
 exact ⟨v1, v2, by omega, by omega, v5, v6, by omega, by rw [e6]; omega, Or.inr hh⟩
structure Stq (w : World) (S : Sto) (w' : World) (S' : Sto) : Prop where
 fr : Fr S.fp w w'
 gr : Gr w S.fp S'.fp
 st : S'.st = S.st
 p : S'.p = S.p
theorem ls_flush (w : World) (base : Nat) (S : Sto) (P : List (Int × List Int)) (b : Nat) (h : Ls w base S P b) (o : Sup) (L : List (Int × List Int)) (c : Nat) (k : Hk S o L c) (hc : c <= 100000) (hb : b <= 100000000000000000) (hd : Int) (hh : 2 <= hd /\ hd < (2 + P.length : Nat)) :
   Calls Tryz.prog 11 #[.pointer (some ⟨S.st, 0, none⟩), .int .i64 hd] w fun e w' => e = .returned (.int .i64 0) /\ ∃ S', Ls w' base S' P (b + 1) /\ Hk S' S.s P (c + 5000) /\ S'.vs = [] /\ (S'.s.wd = S.s.wd /\ S'.s.hd = hd) /\ Stq w S w' S' /\ Below base w w' := by
 have hP := h.split k
 have hl := congrArg List.length hP
 rw [List.length_append] at hl
 have hn := h.np
 have hnp := k.hs.np
 rw [hnp] at hn
 have hN := h.N
 have hR := h.rd
 have e1 := k.wr
 have e2 := k.sy
 have e4 := k.ge
 have e5 := k.ep
 have b5 := ((validS_iff _).1 k.hs.gd.1).2.2.1
 obtain ⟨m, m1, m2, m3, m4⟩ := h.ma
 have hm := k.hs.ma
 have hme : m = 2 + L.length := by omega
 subst hme
 have hcl := h.sk.cl
 have hh2 : 2 <= hd /\ hd < (2 + L.length + S.vs.length : Nat) := ⟨hh.1, by have := hh.2; omega⟩
 have hfit : 2 + L.length + S.vs.length <= 4096 := by omega
 have hval := k.val (by omega) hfit hd hh2
 refine (flush_un w base S h.sk h.lv (by omega) (2 + L.length) m1 m2 ⟨by omega, by omega⟩ (by rw [hnp]; omega) ⟨b5, by omega⟩ hd (Or.inr hh2) hval k.ar (by rw [k.hs.ops]; simp) (by omega) (by omega) (by omega)).mono fun e w' ⟨F', F2, D', s2, he, hs2, hB, ⟨c1, c2, c3⟩, hK, hZ, hFr, hGr⟩ => ?_
 have hH := k.hs.flush h.vok hfit hs2 (by rw [hs2]; exact hval) hB
 rw [<- hP] at hH
 refine ⟨he, _, ⟨hK, ?_, ⟨2 + P.length, ?_, ?_, by omega, by show _ + 0 = _; omega⟩, fun i hi => ?_, ?_, ?_, ?_⟩, ⟨hH, c1, ?_, ?_, ?_, ?_⟩, rfl, ⟨by rw [show ({ S with F := F', FC := F2, D := D', s := s2, nx := 2 + L.length + S.vs.length, N := S.N + 1, a := S.a.settle, sv := .slice none 0 0, cts := [], vs := [] } : Sto).s = s2 from rfl, hs2], by show s2.hd = hd; rw [hs2]⟩, ⟨hFr, hGr, rfl, rfl⟩, hZ⟩
 · have := live_0 h.lv
   show liveF D' S.ep = 0
   unfold liveF
   rw [if_neg (by rw [hB.epoch, this.1]; simp), if_pos hB.pw]
 · show s2.ma = _; rw [hs2]; show ((2 + L.length + S.vs.length : Nat) : Int) = _; omega
 · show 2 + L.length + S.vs.length = 2 + P.length; omega
 · exact Hs.kn (S := { S with F := F', FC := F2, D := D', s := s2, nx := 2 + L.length + S.vs.length, N := S.N + 1, a := S.a.settle, sv := .slice none 0 0, cts := [], vs := [] }) hH i hi
 · show 2 + P.length <= D'.np /\ D'.np <= 4096; rw [hB.np, hnp]; omega
 · show S.N + 1 <= 2 * (b + 1); omega
 · show D'.reads <= 1000 + ((b + 1 : Nat) : Int); rw [hB.reads]; omega
 · show D'.writes <= _; omega
 · show D'.syncs <= _; omega
 · show s2.ge <= _; rw [hs2]; show S.s.ge + 1 <= _; omega
 · show D'.epoch <= _; rw [hB.epoch]; omega
theorem ls_arm (w : World) (base : Nat) (S : Sto) (P : List (Int × List Int)) (b : Nat) (h : Ls w base S P b) (o : Sup) (L : List (Int × List Int)) (c : Nat) (k : Hk S o L c) (a : Int) (ha : a <= 9223372036854775807) :
   Calls Tryz.prog 20 #[.pointer (some ⟨S.p, 0, none⟩), .int .i64 a] w fun e w' => e = .returned (.tuple #[]) /\ ∃ S5, (S5.s = S.s /\ S5.vs = S.vs /\ S5.D = { S.D with armed := max a 0 } /\ S5.nx = 2 + L.length /\ S5.N = S.N /\ S5.ep = S.ep) /\ SK w' base S5 /\ Stq w S w' S5 /\ Below base w w' := by
 have hpw : S.D.power = true := k.hs.pw
 have harm : S.D.arm a = { S.D with armed := max a 0 } := by unfold DS.arm; rw [if_pos hpw]
 obtain ⟨m, m1, m2, m3, m4⟩ := h.ma
 have hm := k.hs.ma
 refine (Arm_any w base S.F S.p S.D h.sk.da a ha).mono ?_
 rintro e w' ⟨rfl, F7, hD7, hF7, hG7⟩
 rw [harm] at hD7
 refine ⟨rfl, { S with F := F7, D := { S.D with armed := max a 0 }, nx := 2 + L.length }, ⟨rfl, rfl, rfl, rfl, rfl, rfl⟩, h.sk.disked (F' := F7) (D' := { S.D with armed := max a 0 }) hD7 (2 + L.length) hm ?_ (hF7.wide S.g) hG7 (fun x _ => rfl), ⟨hF7.wider fun x hx => (Sto.mem S x).2 (by simp [hx]), fun i q => ?_, rfl, rfl⟩, hF7.below (fun x hk => (h.sk.in_lt (by simp [hk])).1) h.sk.base⟩
 · have := h.sk.fk.other h.sk.da hF7
   rw [show S.nx = 2 + L.length by omega] at this
   rw [hm]; exact this
 · rcases (Sto.mem _ i).1 q with e | e | e | e | e | e
   · exact Or.inl ((Sto.mem S i).2 (Or.inl e))
   · exact Or.inl ((Sto.mem S i).2 (Or.inr (Or.inl e)))
   · exact (hG7 i e).imp (fun z => (Sto.mem S i).2 (by simp [z])) id
   · exact Or.inl ((Sto.mem S i).2 (Or.inr (Or.inr (Or.inr (Or.inl e)))))
   · exact Or.inl ((Sto.mem S i).2 (Or.inr (Or.inr (Or.inr (Or.inr (Or.inl e))))))
   · exact Or.inl ((Sto.mem S i).2 (Or.inr (Or.inr (Or.inr (Or.inr (Or.inr e))))))
theorem ls_flushA (w : World) (base : Nat) (S : Sto) (sk : SK w base S) (hlv : liveF S.D S.ep = 0) (o : Sup) (L P : List (Int × List Int)) (hs : Hs S.D 4096 S.s o L) (hP : P = L ++ S.vs) (hv : ∀ v ∈ S.vs, (1 <= v.1 /\ v.1 <= 3) /\ v.2.length <= 246 /\ Byts v.2) (hnx : S.nx = 2 + L.length) (ha : 0 <= S.D.armed) (hfit : 2 + P.length <= 4096) (c : Nat) (hc : c <= 100000) (e1 : S.D.writes <= c) (e2 : S.D.syncs <= c) (e4 : S.s.ge <= c) (e5 : S.D.epoch <= c) (hN : S.N < 3000000000000000000) (hd : Int) (hh : 2 <= hd /\ hd < (2 + P.length : Nat)) :
   Calls Tryz.prog 11 #[.pointer (some ⟨S.st, 0, none⟩), .int .i64 hd] w fun e w' => ∃ S' s2 x, e = .returned (.int .i64 x) /\ s2 = ⟨S.s.wd, S.s.ge + 1, (2 + P.length : Nat), hd, S.s.pg⟩ /\ SK w' base S' /\ (S'.D.epoch = S.D.epoch /\ S'.D.reads = S.D.reads) /\ (∀ fs, Hs (S'.D.crashed fs) 4096 s2 S.s P \/ Hs (S'.D.crashed fs) 4096 S.s o L) /\ Stq w S w' S' /\ Below base w w' := by
 have hl := congrArg List.length hP
 rw [List.length_append] at hl
 have b5 := ((validS_iff _).1 hs.gd.1).2.2.1
 have hcl := sk.cl
 have hm := hs.ma
 have hh2 : 2 <= hd /\ hd < (2 + L.length + S.vs.length : Nat) := ⟨hh.1, by have := hh.2; omega⟩
 have hft : 2 + L.length + S.vs.length <= 4096 := by omega
 have eP : 2 + P.length = 2 + L.length + S.vs.length := by omega
 have hval : validS ⟨S.s.wd, S.s.ge + 1, (2 + L.length + S.vs.length : Nat), hd, S.s.pg⟩ = true := by
   obtain ⟨v1, v2, v3, v4, v5, v6, v7, v8, v9⟩ := (validS_iff _).1 hs.gd.1
   have e6 := hs.pg
   rw [validS_iff]; dsimp only
   exact ⟨v1, v2, by omega, by omega, v5, v6, by omega, by rw [e6]; omega, Or.inr hh2⟩
 rw [eP]
 by_cases hz : S.D.armed = 0
 · refine (flush_un w base S sk hlv (by omega) (2 + L.length) hm hnx ⟨by omega, by omega⟩ (by rw [hs.np]; omega) ⟨b5, by omega⟩ hd (Or.inr hh2) hval hz (by rw [hs.ops]; simp) (by omega) (by omega) hN).mono fun e w' ⟨F', F2, D', s2, he, hs2, hB, _, hK, hZ, hFr, hGr⟩ => ?_
   have hH := hs.flush hv hft hs2 (by rw [hs2]; exact hval) hB
   rw [<- hP] at hH
   exact ⟨_, s2, 0, he, hs2, hK, ⟨hB.epoch, hB.reads⟩, fun fs => Or.inl (hH.crashA hB.ok (by rw [hB.epoch]; omega) rfl (fun x hx => by rw [hB.ops] at hx; cases hx) fs), ⟨hFr, hGr, rfl, rfl⟩, hZ⟩
 · refine (flush_arm2 w base S sk hlv (by omega) (2 + L.length) hm hnx ⟨by omega, by omega⟩ (by rw [hs.np]; omega) ⟨b5, by omega⟩ hd (Or.inr hh2) hval (by omega) hs.ops (by omega) (by omega) hN).mono ?_
   rintro e w' ⟨⟨hc1, F', F2, D', s2, he, hs2, hB, _, hK, hGr⟩ | ⟨hc1, F', D', s2, he, hs2, hD, hK, hGr⟩, hZ, hFr⟩
   · have hH := hs.flush hv hft hs2 (by rw [hs2]; exact hval) hB
     rw [<- hP] at hH
     exact ⟨_, s2, 0, he, hs2, hK, ⟨hB.epoch, hB.reads⟩, fun fs => Or.inl (hH.crashA hB.ok (by rw [hB.epoch]; omega) rfl (fun x hx => by rw [hB.ops] at hx; cases hx) fs), ⟨hFr, hGr, rfl, rfl⟩, hZ⟩
   · refine ⟨_, s2, 2, he, hs2, hK, ⟨hD.epoch, hD.reads⟩, fun fs => ?_, ⟨hFr, hGr, rfl, rfl⟩, hZ⟩
     show Hs (D'.crashed fs) _ _ _ _ \/ Hs (D'.crashed fs) _ _ _ _
     by_cases c : S.D.armed <= S.vs.length + 1
     · obtain ⟨l1, l2⟩ := hD.lo c
       exact Or.inr (hs.crashA hD.ok (by rw [hD.epoch]; omega) l1 l2 fs)
     · obtain ⟨l1, l2, l3⟩ := hD.hi (by omega)
       obtain ⟨k1, k2⟩ := hs.crashB hv hft hs2 (by rw [hs2]; exact hval) hD.ok (by rw [hD.epoch]; omega) (hD.np.trans hs.np) l1 (fun q hq => by rw [l2 q hq, readOf_nil hs.ops]) l3 fs
       rw [<- hP] at k1
       by_cases z : 0 < fs.length /\ (fateOf fs 0).testBit 0 = true
       · exact Or.inl (k1 z)
       · exact Or.inr (k2 z)
structure ChA (w : World) (base c st : Nat) (rv pv : Value) (recs : List Rc) (pgs : List Int) (X : List Nat) : Prop where
 row : w.heap[c]? = some (.cells #[.pointer (some ⟨st, 0, none⟩), rv, pv] 42 (0, 0))
 ro : w.ownsRow base 49 38 rv recs.length (recs.flatMap rcC)
 po : w.ownsRow base 3 1 pv pgs.length (pgs.map (Value.int .i64))
 bc : base <= c
 fc : c ∉ X
 rf : ∀ i, rv.ownBlock = some i -> i ∉ X
 pf : ∀ i, pv.ownBlock = some i -> i ∉ X
section
variable {w w1 : World} {base b c st : Nat} {S : Sto} {P : List (Int × List Int)} {rv pv : Value} {recs : List Rc} {pgs : List Int} {X X1 : List Nat}
theorem Cn.cha (h : Cn w base S P b c rv pv recs pgs) : ChA w base c S.st rv pv recs pgs S.fp := ⟨h.row, h.ro, h.po, h.bc, h.fc, h.rf, h.pf⟩
theorem ChA.cn (h : ChA w base c S.st rv pv recs pgs S.fp) (hl : Ls w base S P b) : Cn w base S P b c rv pv recs pgs := ⟨hl, h.row, h.ro, h.po, h.bc, h.fc, h.rf, h.pf⟩
theorem ChA.lt (h : ChA w base c st rv pv recs pgs X) {i : Nat} (hi : i = c \/ rv.ownBlock = some i \/ pv.ownBlock = some i) : i < w.heap.size := by
 rcases hi with rfl | e | e
 · exact hlt h.row
 · obtain ⟨_, cur, q⟩ := ownsRow_block h.ro i e; exact hlt_ q
 · obtain ⟨_, cur, q⟩ := ownsRow_block h.po i e; exact hlt_ q
theorem ChA.step (h : ChA w base c st rv pv recs pgs X) (hF : Fr X w w1) (hG : Gr w X X1) : ChA w1 base c st rv pv recs pgs X1 := by
 have go : ∀ i, i < w.heap.size -> i ∉ X -> w1.heap[i]? = w.heap[i]? /\ i ∉ X1 := fun i h1 h2 => ⟨hF.block i h1 h2, fun e => (hG i e).elim h2 (fun z => by omega)⟩
 exact ⟨(go c (h.lt (by simp)) h.fc).1.trans h.row, ownsRow_heap h.ro fun i e => (go i (h.lt (by simp [e])) (h.rf i e)).1, ownsRow_heap h.po fun i e => (go i (h.lt (by simp [e])) (h.pf i e)).1, h.bc, (go c (h.lt (by simp)) h.fc).2, fun i e => (go i (h.lt (by simp [e])) (h.rf i e)).2, fun i e => (go i (h.lt (by simp [e])) (h.pf i e)).2⟩
theorem ChA.below (h : ChA w base c st rv pv recs pgs X) (hb : Below w.heap.size w w1) : ChA w1 base c st rv pv recs pgs X := h.step (Fr.of_below hb) (Gr.refl _ _)
end
theorem owns_front {w : World} {base t k n g cap : Nat} {xs : List Value} (h : w.ownsRow base t k (.slice (some ⟨g, 0, none⟩) n cap) n xs) (m : Nat) (hm : m <= n) : w.ownsRow base t k (.slice (some ⟨g, 0, none⟩) m cap) m (xs.take (m * k)) := by
 obtain ⟨hl, (⟨e, _⟩ | ⟨g2, cap2, cur, e, h1, h2, h3, h4, h5, h6⟩)⟩ := h
 · cases e
 · obtain ⟨e1, e2, e3⟩ := Value.slice.inj e
   cases e1
   subst e3
   have hmk : m * k <= n * k := Nat.mul_le_mul_right _ hm
   refine ⟨by rw [List.length_take]; omega, Or.inr ⟨_, _, cur, rfl, h1, h2, by omega, h4, h5, ?_⟩⟩
   rw [<- h6, List.take_take, Nat.min_eq_left hmk]
theorem flat_front {α : Type} (f : α -> List Value) (k : Nat) : ∀ (l : List α) (m : Nat), (∀ x ∈ l, (f x).length = k) -> (l.flatMap f).take (m * k) = (l.take m).flatMap f
 | [], m, _ => by simp
 | x :: l, 0, _ => by simp
 | x :: l, m + 1, h => by
   rw [List.take_succ_cons, List.flatMap_cons, List.flatMap_cons, Nat.add_mul, Nat.one_mul, Nat.add_comm (m * k) k]
   have hx : (f x).length = k := h x (by simp)
   rw [<- hx, List.take_length_add_append, hx, flat_front f k l m (fun y hy => h y (by simp [hy]))]
theorem ChA.reset {w : World} {base c st gr gp n rc pc : Nat} {recs : List Rc} {pgs : List Int} {X : List Nat} (h : ChA w base c st (.slice (some ⟨gr, 0, none⟩) n rc) (.slice (some ⟨gp, 0, none⟩) n pc) recs pgs X) (hr : recs.length = n) (hp : pgs.length = n) (hok : ∀ r ∈ recs, RcOk r) (st' m : Nat) (hm : m <= n) :
   ChA (((w.setCell ⟨c, 0, none⟩ (.pointer (some ⟨st', 0, none⟩))).setCell ⟨c, 1, none⟩ (.slice (some ⟨gr, 0, none⟩) m rc)).setCell ⟨c, 2, none⟩ (.slice (some ⟨gp, 0, none⟩) m pc)) base c st' (.slice (some ⟨gr, 0, none⟩) m rc) (.slice (some ⟨gp, 0, none⟩) m pc) (recs.take m) (pgs.take m) X := by
 obtain ⟨w3, hw3⟩ : ∃ w3, ((w.setCell ⟨c, 0, none⟩ (.pointer (some ⟨st', 0, none⟩))).setCell ⟨c, 1, none⟩ (.slice (some ⟨gr, 0, none⟩) m rc)).setCell ⟨c, 2, none⟩ (.slice (some ⟨gp, 0, none⟩) m pc) = w3 := ⟨_, rfl⟩
 have ne : ∀ i, i ≠ c -> w3.heap[i]? = w.heap[i]? := fun i q => by
   rw [<- hw3]
   exact (heap_setCell_other _ ⟨c, 2, none⟩ i _ q).trans ((heap_setCell_other _ ⟨c, 1, none⟩ i _ q).trans (heap_setCell_other _ ⟨c, 0, none⟩ i _ q))
 have nr : gr ≠ c := fun z => by
   obtain ⟨_, cur, q⟩ := ownsRow_block h.ro gr rfl
   rw [z, h.row] at q; cases q
 have np : gp ≠ c := fun z => by
   obtain ⟨_, cur, q⟩ := ownsRow_block h.po gp rfl
   rw [z, h.row] at q; cases q
 rw [hw3]
 have r3 : w3.heap[c]? = some (.cells #[.pointer (some ⟨st', 0, none⟩), .slice (some ⟨gr, 0, none⟩) m rc, .slice (some ⟨gp, 0, none⟩) m pc] 42 (0, 0)) := by
   rw [<- hw3]
   have a1 := heap_setCell_same w c 0 _ _ (.pointer (some ⟨st', 0, none⟩)) h.row
   have a2 := heap_setCell_same _ c 1 _ _ (.slice (some ⟨gr, 0, none⟩) m rc) a1
   have a3 := heap_setCell_same _ c 2 _ _ (.slice (some ⟨gp, 0, none⟩) m pc) a2
   exact a3
 have ro := h.ro
 have po := h.po
 rw [hr] at ro
 rw [hp] at po
 have ro2 := owns_front ro m hm
 have po2 := owns_front po m hm
 rw [flat_front rcC 38 recs m (fun x hx => rcC_len (hok x hx))] at ro2
 rw [Nat.mul_one, <- List.map_take] at po2
 have lr : (recs.take m).length = m := by rw [List.length_take]; omega
 have lp : (pgs.take m).length = m := by rw [List.length_take]; omega
 refine ⟨r3, ?_, ?_, h.bc, h.fc, fun i e => h.rf i e, fun i e => h.pf i e⟩
 · rw [lr]; exact ownsRow_heap ro2 fun i e => ne i (fun z => nr (by have : gr = i := Option.some.inj e; omega))
 · rw [lp]; exact ownsRow_heap po2 fun i e => ne i (fun z => np (by have : gp = i := Option.some.inj e; omega))
theorem pages_cell {W : World} {base T n gg cc : Nat} (po : W.ownsRow base 3 1 (.slice (some ⟨gg, 0, none⟩) n cc) (pgsOf T n).length ((pgsOf T n).map (Value.int .i64))) (j : Nat) (hj : j < n) : W.cell? ⟨gg, j, none⟩ = some (.int .i64 (pgN T (j + 1))) := by
 rw [pgsOf_len] at po
 have e := pgsOf_at T n j hj
 rw [List.getD_eq_getElem?_getD, List.getElem?_eq_getElem (by rw [pgsOf_len]; exact hj)] at e
 rw [po.cellAt j (by omega), List.getElem?_map, List.getElem?_eq_getElem (by rw [pgsOf_len]; exact hj)]
 have e2 : (pgsOf T n)[j]'(by rw [pgsOf_len]; exact hj) = pgN T (j + 1) := e
 rw [e2]; rfl
theorem recsOf_take (first : Int) (T : Nat) (xs ys : List IR) : (recsOf first T (xs ++ ys)).take xs.length = recsOf first T xs := by
 apply List.ext_getElem?
 intro i
 rw [List.getElem?_take]
 by_cases hi : i < xs.length
 · rw [if_pos hi]
   unfold recsOf
   rw [List.getElem?_map, List.getElem?_map, List.getElem?_range (by rw [List.length_append]; omega), List.getElem?_range hi]
   simp only [Option.map_some]
   rw [List.getD_eq_getElem?_getD, List.getElem?_append_left hi, <- List.getD_eq_getElem?_getD]
 · rw [if_neg hi, List.getElem?_eq_none (by rw [recsOf_len]; omega)]
theorem pgsOf_take (T n m : Nat) : (pgsOf T (n + m)).take n = pgsOf T n := by
 unfold pgsOf
 rw [<- List.map_take, List.take_range, Nat.min_eq_left (by omega)]
theorem Hk.nps {S0 S : Sto} {o : Sup} {L : List (Int × List Int)} {b : Nat} (h : Hk S0 o L b) (k : NpS S S0.sd) (ok : DsOk S.D) : Hk S o L b := by
 have e : S.D = { S0.D with reads := S.D.reads } := k.2.2.1
 have es : S.s = S0.s := k.2.1
 refine ⟨?_, by rw [e]; exact h.ar, by rw [e]; exact h.wr, by rw [e]; exact h.sy, by rw [es]; exact h.ge, by rw [e]; exact h.ep⟩
 rw [es]
 exact h.hs.reads ok (by rw [e]) (by rw [e]) (by rw [e]; exact h.hs.pw)
theorem yieldsIf_fieldS3 {ops : Array Oper} {S : World -> Prop} {o : Oper} {a : Act} (hw : Region.wanted o (yielded ops a.tmps) = true) (x : Operand) (ho : o.op = .field 65 x 3) (s2 : Sup) (y : Int) (hy : s2.hd = y) (hx : a.eval x = .agg (supC s2)) : YieldsIf Tryz.prog ops S o (.int .i64 y) a :=
 .inl ⟨hw, fun w _ => by
   subst hy
   unfold execOp
   simp only [ho, hx]
   kernel_rfl⟩
end Go.Proofs.YtbnghhgeoodphaaGreatDoor
