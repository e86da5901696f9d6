import Derived.Test.YtjhocjjecfdphaaGreatDoorQ16
namespace Go.Proofs.YtjhocjjecfdphaaGreatDoor
set_option linter.unusedVariables false
set_option linter.unusedSimpArgs false
set_option maxRecDepth 100000
set_option maxHeartbeats 4000000
section
open Go.RowKit
attribute [local go_sem ↓] Go.wp_at_zero Go.wp_at_succ
theorem Own.base_le {w : World} {b b2 : Nat} {v : Value} {zs : List Int} (h : Own w b v zs) (hb : b2 ≤ b) : Own w b2 v zs := by
 refine ⟨h.1, ?_⟩
 rcases h.2 with q | ⟨g, cap, cur, e1, e2, r⟩
 · exact Or.inl q
 · exact Or.inr ⟨g, cap, cur, e1, Nat.le_trans hb e2, r⟩
theorem rcopied_any (w : World) (zs : List Int) (sp : Option Addr) (cap : Nat) (hS : Src w sp cap zs) (hnil : sp = none → cap = 0) (hlen : zs.length ≤ 140737488351232) (n : Nat) (hn : zs.length = n) :
   Calls Tryz.prog 76 #[.slice sp n cap] w fun e w' => ∃ v, e = .returned v ∧ Own w' w.heap.size v zs ∧ Below w.heap.size w w' := by
 subst hn
 have hE := Own.nil w w.heap.size
 go_enter Tryz.func76, Tryz.ntmps76
 go_wp2_with (first | (at_builtin; refine wpList_append_wide rfl (.tmp 4) (.tmp 5) rfl w.heap.size _ [] zs rfl hE sp cap rfl hnil hS (by simp; omega) (Nat.le_refl _) ?_; intro v2 w2 hO2 hg2 hd2))
 go_ret
 exact ⟨_, rfl, hO2, grown_keeps hg2 (fun k e => (hE.block k e).1) (Nat.le_refl _)⟩
structure Kps (g : Nat) (w w' : World) : Prop where
 os : w'.os = w.os
 tape : w'.tape = w.tape
 output : w'.output = w.output
 size : w.heap.size ≤ w'.heap.size
 block : ∀ k, k < w.heap.size → k ≠ g → w'.heap[k]? = w.heap[k]?
theorem Kps.refl (g : Nat) (w : World) : Kps g w w := ⟨rfl, rfl, rfl, Nat.le_refl _, fun _ _ _ => rfl⟩
theorem Kps.setAt {p : Nat} {a b : World} (h : Kps p a b) (j : Nat) (v : Value) : Kps p a (b.setCell ⟨p, j, none⟩ v) :=
 ⟨h.os, h.tape, h.output, by rw [World.size_setCell]; exact h.size, fun i hi hne => (heap_setCell_other _ _ _ _ (show i ≠ p from hne)).trans (h.block i hi hne)⟩
def tornQ (now data : List Int) (f i : Nat) : List Int := (tornP now data f).take i ++ now.drop i
theorem tornQ_len (now data : List Int) (f i : Nat) (hn : now.length = 256) (hi : i ≤ 256) : (tornQ now data f i).length = 256 := by
 unfold tornQ; rw [List.length_append, List.length_take, List.length_drop, tornP_len, hn]; omega
theorem tornQ_get (now data : List Int) (f i j : Nat) (hn : now.length = 256) (hi : i ≤ 256) (hj : j < 256) : (tornQ now data f i).getD j 0 = if j < i then (tornP now data f).getD j 0 else now.getD j 0 := by
 unfold tornQ
 have hl : ((tornP now data f).take i).length = i := by rw [List.length_take, tornP_len]; omega
 split
 · rename_i h
   rw [List.getD_eq_getElem?_getD, List.getElem?_append_left (by omega), List.getElem?_take, if_pos h, ← List.getD_eq_getElem?_getD]
 · rename_i h
   rw [List.getD_eq_getElem?_getD, List.getElem?_append_right (by omega), hl, List.getElem?_drop, show i + (j - i) = j by omega, ← List.getD_eq_getElem?_getD]
theorem tornQ_no (now data : List Int) (f i : Nat) (hn : now.length = 256) (hi : i < 256) (hb : f.testBit (i / 64) = false) : tornQ now data f (i + 1) = tornQ now data f i := by
 apply list_ext0
 · rw [tornQ_len _ _ _ _ hn (by omega), tornQ_len _ _ _ _ hn (by omega)]
 · intro j hj
   rw [tornQ_len _ _ _ _ hn (by omega)] at hj
   rw [tornQ_get _ _ _ _ _ hn (by omega) hj, tornQ_get _ _ _ _ _ hn (by omega) hj]
   by_cases e : j = i
   · subst e; rw [if_pos (by omega), if_neg (by omega), tornP_get _ _ _ _ hj, if_neg (by rw [hb]; decide)]
   · by_cases c : j < i
     · rw [if_pos (by omega), if_pos c]
     · rw [if_neg (by omega), if_neg c]
theorem tornQ_yes (now data : List Int) (f i : Nat) (hn : now.length = 256) (hi : i < 256) (hb : f.testBit (i / 64) = true) : (tornQ now data f i).set i (data.getD i 0) = tornQ now data f (i + 1) := by
 apply list_ext0
 · rw [List.length_set, tornQ_len _ _ _ _ hn (by omega), tornQ_len _ _ _ _ hn (by omega)]
 · intro j hj
   rw [List.length_set, tornQ_len _ _ _ _ hn (by omega)] at hj
   rw [getD_setI _ _ _ _ (by rw [tornQ_len _ _ _ _ hn (by omega)]; exact hi), tornQ_get _ _ _ _ _ hn (by omega) hj, tornQ_get _ _ _ _ _ hn (by omega) hj]
   by_cases e : j = i
   · subst e; rw [if_pos rfl, if_pos (by omega), tornP_get _ _ _ _ hj, if_pos hb]
   · rw [if_neg e]
     by_cases c : j < i
     · rw [if_pos c, if_pos (by omega)]
     · rw [if_neg c, if_neg (by omega)]
theorem tornQ_all (now data : List Int) (f : Nat) (hn : now.length = 256) : tornQ now data f 256 = tornP now data f := by
 unfold tornQ; rw [List.take_of_length_le (by rw [tornP_len]; exact Nat.le_refl _), List.drop_of_length_le (by omega), List.append_nil]
theorem set_rows {w : World} {g : Nat} {zs : List Int} {rest : List Value} (h : w.heap[g]? = some (.cells (ints .u8 zs ++ rest).toArray 5 (0, 0))) (i : Nat) (hi : i < zs.length) (x : Int) : (w.setCell ⟨g, i, none⟩ (.int .u8 x)).heap[g]? = some (.cells (ints .u8 (zs.set i x) ++ rest).toArray 5 (0, 0)) := by
 rw [heap_setCell_same _ _ _ _ _ _ h]
 congr 2
 rw [List.setIfInBounds_toArray, List.set_append_left _ _ (by rw [ints_len]; exact hi)]
 simp [ints, List.map_set]
theorem cell_rows {w : World} {g : Nat} {zs : List Int} {rest : List Value} (h : w.heap[g]? = some (.cells (ints .u8 zs ++ rest).toArray 5 (0, 0))) (i : Nat) (hi : i < zs.length) : w.cell? ⟨g, i, none⟩ = some (.int .u8 (zs.getD i 0)) := by
 rw [cell_of_row _ _ _ _ _ _ h, List.getElem?_toArray, List.getElem?_append_left (by rw [ints_len]; exact hi), ints_get _ _ _ hi]
theorem rtorn_any (w : World) (g cap : Nat) (now data : List Int) (rest : List Value) (hg : w.heap[g]? = some (.cells (ints .u8 now ++ rest).toArray 5 (0, 0))) (hn : now.length = 256) (hc : 256 ≤ cap) (hm : cap ≤ maxLen) (db dco : Nat) (dcap : Nat) (hd : data.length = 256) (hdg : db ≠ g) (hdb : db < w.heap.size) (hdc : ∀ j, j < 256 → w.cell? ⟨db, dco + j, none⟩ = some (.int .u8 (data.getD j 0))) (f : Nat) (hf : f < 256) :
   Calls Tryz.prog 109 #[.slice (some ⟨g, 0, none⟩) 256 cap, .slice (some ⟨db, dco, none⟩) 256 dcap, .int .u8 f] w fun e w' => e = .returned (.slice (some ⟨g, 0, none⟩) 256 cap) ∧ w'.heap[g]? = some (.cells (ints .u8 (tornP now data f) ++ rest).toArray 5 (0, 0)) ∧ Kps g w w' := by
 have HG0 := hid (show w.heap[g]? = some (.cells (ints .u8 (tornQ now data f 0) ++ rest).toArray 5 (0, 0)) from hg)
 have HDC := hid hdc
 have HN := hid hn
 clear hg hdc hn
 go_enter Tryz.func109, Tryz.ntmps109
 go_wp2
 go_loopw [7] (fun iv wr => ∃ i : Nat, i ≤ 256 ∧ iv = .int .i64 i ∧ wr.heap[g]? = some (.cells (ints .u8 (tornQ now data f i) ++ rest).toArray 5 (0, 0)) ∧ Kps g w wr) (fun iv _ => 256 - (intOf iv).toNat)
 case atStart => exact ⟨0, by omega, rfl, HG0.out, Kps.refl _ _⟩
 case round =>
   clear HG0
   obtain ⟨i, hi, rfl, hr, hK⟩ := hrel
   by_cases hlt : i < 256
   · have i1 : (i : Int) < 256 := by omega
     obtain ⟨d, hdd⟩ : ∃ d, d = i / 64 := ⟨_, rfl⟩
     have dt : (i : Int).tdiv 64 = (d : Int) := by rw [hdd, Int.tdiv_eq_ediv_of_nonneg (by omega)]; rfl
     have d4 : (d : Int) < 4 := by omega
     have hbb := bit_u8 f d hf
     have hlq := tornQ_len now data f i HN.out (by omega)
     have c1 : wr.cell? ⟨db, dco + i, none⟩ = some (.int .u8 (data.getD i 0)) := by
       rw [World.cell?, hK.block db hdb hdg]; exact HDC.out i hlt
     have c2 := cell_rows hr i (by rw [hlq]; exact hlt)
     have fz := frozen_of_row _ _ i _ _ hr
     have HS := hid (set_rows hr i (by rw [hlq]; exact hlt) (data.getD i 0))
     have HKS := hid (hK.setAt i (.int .u8 (data.getD i 0)))
     have HNO := hid (fun h => tornQ_no now data f i HN.out hlt (by rw [← hdd]; exact h))
     have HYS := hid (fun h => tornQ_yes now data f i HN.out hlt (by rw [← hdd]; exact h))
     have HR := hid hr
     have HK := hid hK
     clear hr hK hlq hdd
     generalize (tornQ now data f i).getD i 0 = y at *
     generalize hX : data.getD i 0 = x at *
     have HX := hid hX
     clear hX
     cases hc : f.testBit d with
     | false =>
       rw [hc] at hbb
       have HE := hid (HNO.out hc)
       clear HS HKS HNO HYS hc
       go_wp2
       go_roundw
       case rel => exact ⟨i + 1, by omega, by go_num, by rw [HE.out]; exact HR.out, HK.out⟩
       case measure => simp [intOf]; omega
     | true =>
       rw [hc] at hbb
       have HE := hid (HYS.out hc)
       clear HNO HYS hc HR HK
       go_wp2
       go_roundw
       case rel => exact ⟨i + 1, by omega, by go_num, by rw [← HE.out]; exact HS.out, HKS.out⟩
       case measure => simp [intOf]; omega
   · obtain rfl : i = 256 := by omega
     clear hlt
     rw [tornQ_all _ _ _ HN.out] at hr
     go_wp2
     go_ret
     exact ⟨rfl, hr, hK⟩
theorem rturned_any (w : World) (g cap : Nat) (now : List Int) (rest : List Value) (hg : w.heap[g]? = some (.cells (ints .u8 now ++ rest).toArray 5 (0, 0))) (hn : now.length = 256) (hc : 256 ≤ cap) (hm : cap ≤ maxLen) (bit : Nat) (hb : bit < 2048) (pat : Nat) (hp : pat < 4294967296) :
   Calls Tryz.prog 110 #[.slice (some ⟨g, 0, none⟩) 256 cap, .int .i64 bit, .int .u32 pat] w fun e w' => e = .returned (.slice (some ⟨g, 0, none⟩) 256 cap) ∧ w'.heap[g]? = some (.cells (ints .u8 (flipP now bit pat 32) ++ rest).toArray 5 (0, 0)) ∧ Kps g w w' := by
 have HG0 := hid (show w.heap[g]? = some (.cells (ints .u8 (flipP now bit pat 0) ++ rest).toArray 5 (0, 0)) from hg)
 have HN := hid hn
 have ib : (bit : Int) < 2048 := by omega
 clear hg hn
 go_enter Tryz.func110, Tryz.ntmps110
 go_wp2
 go_loopw [7] (fun iv wr => ∃ i : Nat, i ≤ 32 ∧ iv = .int .i64 i ∧ wr.heap[g]? = some (.cells (ints .u8 (flipP now bit pat i) ++ rest).toArray 5 (0, 0)) ∧ Kps g w wr) (fun iv _ => 32 - (intOf iv).toNat)
 case atStart => exact ⟨0, by omega, rfl, HG0.out, Kps.refl _ _⟩
 case round =>
   clear HG0
   obtain ⟨i, hi, rfl, hr, hK⟩ := hrel
   by_cases hlt : i < 32
   · have i1 : (i : Int) < 32 := by omega
     have hbb := bit_u32 pat i hp
     have hlq := (flipP_len now bit pat i).trans HN.out
     have HR := hid hr
     have HK := hid hK
     have HF := hid (show flipP now bit pat (i + 1) = if pat.testBit i = true ∧ bit + i < 2048 then (flipP now bit pat i).set ((bit + i) / 8) (bits .xor .u8 ((flipP now bit pat i).getD ((bit + i) / 8) 0) ((2 ^ ((bit + i) % 8) : Nat) : Int)) else flipP now bit pat i from rfl)
     cases hc : pat.testBit i with
     | false =>
       rw [hc] at hbb
       have HE := hid (show flipP now bit pat (i + 1) = flipP now bit pat i by rw [HF.out, if_neg (by rw [hc]; simp)])
       clear HF hc hr hK hlq
       go_wp2
       go_roundw
       case rel => exact ⟨i + 1, by omega, by go_num, by rw [HE.out]; exact HR.out, HK.out⟩
       case measure => simp [intOf]; omega
     | true =>
       rw [hc] at hbb
       by_cases h48 : bit + i < 2048
       · have i2 : (bit : Int) + (i : Int) < 2048 := by omega
         obtain ⟨d, hd⟩ : ∃ d, d = (bit + i) / 8 := ⟨_, rfl⟩
         obtain ⟨r, hrr⟩ : ∃ r, r = (bit + i) % 8 := ⟨_, rfl⟩
         have dt : ((bit : Int) + (i : Int)).tdiv 8 = (d : Int) := by rw [Int.tdiv_eq_ediv_of_nonneg (by omega)]; omega
         have rt : ((bit : Int) + (i : Int)).tmod 8 = (r : Int) := by rw [Int.tmod_eq_emod_of_nonneg (by omega)]; omega
         have d1 : (d : Int) < 256 := by omega
         have r1 : (r : Int) < 8 := by omega
         have hsh := shl8 r (by omega)
         have HE := hid (show flipP now bit pat (i + 1) = (flipP now bit pat i).set d (bits .xor .u8 ((flipP now bit pat i).getD d 0) ((2 ^ r : Nat) : Int)) by rw [HF.out, if_pos ⟨hc, h48⟩, hd, hrr])
         have c2 := cell_rows hr d (by rw [hlq]; omega)
         have fz := frozen_of_row _ _ d _ _ hr
         have HS := hid (fun (x : Int) => set_rows hr d (by rw [hlq]; omega) x)
         have HKS := hid (fun (x : Int) => hK.setAt d (.int .u8 x))
         clear HF hc hr hK hlq hd hrr HR HK
         generalize hY : (flipP now bit pat i).getD d 0 = y at *
         clear hY
         go_wp2
         go_roundw
         case rel => exact ⟨i + 1, by omega, by go_num, by rw [HE.out]; exact HS.out _, HKS.out _⟩
         case measure => simp [intOf]; omega
       · have i2 : ¬ (bit : Int) + (i : Int) < 2048 := by omega
         have HE := hid (show flipP now bit pat (i + 1) = flipP now bit pat i by rw [HF.out, if_neg (fun x => h48 x.2)])
         clear HF hc hr hK hlq
         go_wp2
         go_roundw
         case rel => exact ⟨i + 1, by omega, by go_num, by rw [HE.out]; exact HR.out, HK.out⟩
         case measure => simp [intOf]; omega
   · obtain rfl : i = 32 := by omega
     clear hlt
     go_wp2
     go_ret
     exact ⟨rfl, hr, hK⟩
def Ev.kind : Ev → Int
 | .wrote _ _ => 1
 | .synced => 2
 | .crashed _ => 3
 | .flipped _ _ _ => 4
def Ev.page : Ev → Nat
 | .wrote q _ => q
 | .flipped q _ _ => q
 | _ => 0
def Ev.bit : Ev → Nat
 | .flipped _ b _ => b
 | _ => 0
def Ev.pat : Ev → Nat
 | .flipped _ _ p => p
 | _ => 0
def Ev.data : Ev → List Int
 | .wrote _ d => d
 | .crashed fs => fs
 | _ => []
structure RF where
 base : List Int
 log : List Ev
 armed : Int
 down : Bool
 ages : Int
 seen : Int
structure RQ where
 p : Nat
 bv : Value
 lv : Value
 es : List (Ev × Value)
def encX (x : Ev × Value) : List Value := [.int .i64 x.1.kind, .int .i64 x.1.page, .int .i64 x.1.bit, x.2, .int .u32 x.1.pat]
def rcells (Q : RQ) (R : RF) : Array Value := #[Q.bv, Q.lv, .int .i64 R.armed, .bool R.down, .int .i64 R.ages, .int .i64 R.seen]
def RQ.fp (Q : RQ) : List Nat := Q.p :: (Q.bv.ownBlock.toList ++ Q.lv.ownBlock.toList ++ Q.es.flatMap fun x => x.2.ownBlock.toList)
theorem RQ.mem (Q : RQ) (k : Nat) : k ∈ Q.fp ↔ k = Q.p ∨ Q.bv.ownBlock = some k ∨ Q.lv.ownBlock = some k ∨ ∃ x ∈ Q.es, x.2.ownBlock = some k := by
 simp [RQ.fp, eq_comm, or_assoc]
structure RK (w : World) (base : Nat) (Q : RQ) (R : RF) : Prop where
 cell : w.heap[Q.p]? = some (.cells (rcells Q R) 134 (0, 0))
 bs : Own w base Q.bv R.base
 lg : w.ownsRow base 143 5 Q.lv Q.es.length (Q.es.flatMap encX)
 ln : R.log = Q.es.map (·.1)
 dt : ∀ x ∈ Q.es, Own w base x.2 x.1.data
 bp : base ≤ Q.p
theorem RK.lt {w : World} {base : Nat} {Q : RQ} {R : RF} (h : RK w base Q R) : ∀ k ∈ Q.fp, base ≤ k ∧ k < w.heap.size := by
 intro k hk
 rcases (Q.mem k).1 hk with rfl | e | e | ⟨x, hx, e⟩
 · exact ⟨h.bp, hlt h.cell⟩
 · obtain ⟨a, cur, b⟩ := ownsRow_block h.bs k e; exact ⟨a, hlt b⟩
 · obtain ⟨a, cur, b⟩ := ownsRow_block h.lg k e; exact ⟨a, hlt b⟩
 · obtain ⟨a, cur, b⟩ := ownsRow_block (h.dt x hx) k e; exact ⟨a, hlt b⟩
theorem own_heap {w w1 : World} {base : Nat} {v : Value} {zs : List Int} (h : Own w base v zs) (hk : ∀ i, v.ownBlock = some i → w1.heap[i]? = w.heap[i]?) : Own w1 base v zs := ownsRow_heap h hk
theorem RK.of_heap {w w1 : World} {base : Nat} {Q : RQ} {R : RF} (h : RK w base Q R) (hk : ∀ k ∈ Q.fp, w1.heap[k]? = w.heap[k]?) : RK w1 base Q R :=
 ⟨(hk _ ((Q.mem _).2 (Or.inl rfl))).trans h.cell, own_heap h.bs fun i e => hk i ((Q.mem _).2 (Or.inr (Or.inl e))), ownsRow_heap h.lg fun i e => hk i ((Q.mem _).2 (Or.inr (Or.inr (Or.inl e)))), h.ln, fun x hx => own_heap (h.dt x hx) fun i e => hk i ((Q.mem _).2 (Or.inr (Or.inr (Or.inr ⟨x, hx, e⟩)))), h.bp⟩
theorem RK.below {w w1 : World} {base : Nat} {Q : RQ} {R : RF} (h : RK w base Q R) (hb : Below w.heap.size w w1) : RK w1 base Q R := h.of_heap fun k hk => hb.block k (h.lt k hk).2
theorem RK.ne5 {w : World} {base : Nat} {Q : RQ} {R : RF} (h : RK w base Q R) {v : Value} {zs : List Int} (hv : Own w base v zs) : v.ownBlock ≠ some Q.p := fun e => by
 obtain ⟨_, cur, hh⟩ := ownsRow_block hv _ e; exact ne_ty hh h.cell (by decide) rfl
theorem RK.nel {w : World} {base : Nat} {Q : RQ} {R : RF} (h : RK w base Q R) : Q.lv.ownBlock ≠ some Q.p := fun e => by
 obtain ⟨_, cur, hh⟩ := ownsRow_block h.lg _ e; exact ne_ty hh h.cell (by decide) rfl
theorem RK.hp {w : World} {base : Nat} {Q : RQ} {R : RF} (h : RK w base Q R) : Q.p ∈ Q.fp := (Q.mem _).2 (Or.inl rfl)
theorem RK.put {w : World} {base : Nat} {Q : RQ} {R R' : RF} (h : RK w base Q R) (k : Nat) (v : Value) (hc : (rcells Q R).setIfInBounds k v = rcells Q R') (hb : R'.base = R.base) (hl : R'.log = R.log) : RK (w.setCell ⟨Q.p, k, none⟩ v) base Q R' := by
 have hne : ∀ i, i ≠ Q.p → (w.setCell ⟨Q.p, k, none⟩ v).heap[i]? = w.heap[i]? := fun i hi => heap_setCell_other w _ i v hi
 refine ⟨by rw [heap_setCell_same _ _ _ _ _ _ h.cell, ← hc], ?_, ownsRow_heap h.lg fun i e => hne i (fun q => h.nel (q ▸ e)), by rw [hl]; exact h.ln, fun x hx => own_heap (h.dt x hx) fun i e => hne i (fun q => h.ne5 (h.dt x hx) (q ▸ e)), h.bp⟩
 rw [hb]; exact own_heap h.bs fun i e => hne i (fun q => h.ne5 h.bs (q ▸ e))
theorem RK.c0 {w : World} {base : Nat} {Q : RQ} {R : RF} (h : RK w base Q R) : w.cell? ⟨Q.p, 0, none⟩ = some Q.bv := by rw [cell_of_row _ _ _ _ _ _ h.cell]; rfl
theorem RK.c1 {w : World} {base : Nat} {Q : RQ} {R : RF} (h : RK w base Q R) : w.cell? ⟨Q.p, 1, none⟩ = some Q.lv := by rw [cell_of_row _ _ _ _ _ _ h.cell]; rfl
theorem RK.c2 {w : World} {base : Nat} {Q : RQ} {R : RF} (h : RK w base Q R) : w.cell? ⟨Q.p, 2, none⟩ = some (.int .i64 R.armed) := by rw [cell_of_row _ _ _ _ _ _ h.cell]; rfl
theorem RK.c3 {w : World} {base : Nat} {Q : RQ} {R : RF} (h : RK w base Q R) : w.cell? ⟨Q.p, 3, none⟩ = some (.bool R.down) := by rw [cell_of_row _ _ _ _ _ _ h.cell]; rfl
theorem RK.c4 {w : World} {base : Nat} {Q : RQ} {R : RF} (h : RK w base Q R) : w.cell? ⟨Q.p, 4, none⟩ = some (.int .i64 R.ages) := by rw [cell_of_row _ _ _ _ _ _ h.cell]; rfl
theorem RK.c5 {w : World} {base : Nat} {Q : RQ} {R : RF} (h : RK w base Q R) : w.cell? ⟨Q.p, 5, none⟩ = some (.int .i64 R.seen) := by rw [cell_of_row _ _ _ _ _ _ h.cell]; rfl
theorem RK.fz {w : World} {base : Nat} {Q : RQ} {R : RF} (h : RK w base Q R) (k : Nat) : w.frozen? ⟨Q.p, k, none⟩ = false := frozen_of_row _ _ _ _ _ h.cell
structure RfOk (n : Nat) (R : RF) : Prop where
 n3 : 3 ≤ n
 n4 : n ≤ 4096
 bl : R.base.length = 256 * n
 ev : ∀ e ∈ R.log, e.ok n
 ll : R.log.length ≤ 400000000000
 armed : 0 ≤ R.armed ∧ R.armed ≤ 9223372036854775807
 ages : 0 ≤ R.ages ∧ R.ages ≤ 4000000000000000000
 seen : 0 ≤ R.seen ∧ R.seen ≤ 4000000000000000000
theorem RK.bv' {w : World} {base : Nat} {Q : RQ} {R : RF} (h : RK w base Q R) {n : Nat} (hl : R.base.length = 256 * n) (h3 : 3 ≤ n) : ∃ g cap rest, Q.bv = .slice (some ⟨g, 0, none⟩) (256 * n) cap ∧ w.heap[g]? = some (.cells (ints .u8 R.base ++ rest).toArray 5 (0, 0)) ∧ 256 * n ≤ cap ∧ cap ≤ maxLen ∧ Q.bv.ownBlock = some g := by
 obtain ⟨g, cap, rest, e, _, hh, hc, hm, ho⟩ := own_in h.bs (by rw [hl]; omega)
 rw [hl] at e hc
 exact ⟨g, cap, rest, e, hh, hc, hm, ho⟩
theorem rPages_in (w : World) (base : Nat) (Q : RQ) (R : RF) (h : RK w base Q R) (n : Nat) (h3 : 3 ≤ n) (h4 : n ≤ 4096) (hl : R.base.length = 256 * n) :
   Calls Tryz.prog 33 #[.pointer (some ⟨Q.p, 0, none⟩)] w fun e w' => e = .returned (.int .i64 n) ∧ w = w' := by
 have c := h.c0
 obtain ⟨g, cap, rest, e, _⟩ := h.bv' hl h3
 rw [e] at c
 have i4 : (n : Int) ≤ 4096 := by omega
 have d1 : (256 * (n : Int)).tdiv 256 = (n : Int) := Int.mul_tdiv_cancel_left _ (by decide)
 go_enter Tryz.func33, Tryz.ntmps33
 go_wp2
 go_ret
 exact ⟨rfl, rfl⟩
theorem rPower_in (w : World) (base : Nat) (Q : RQ) (R : RF) (h : RK w base Q R) :
   Calls Tryz.prog 30 #[.pointer (some ⟨Q.p, 0, none⟩)] w fun e w' => e = .returned (.bool (!R.down)) ∧ w = w' := by
 have c := h.c3
 cases hd : R.down with
 | false =>
   rw [hd] at c
   go_enter Tryz.func30, Tryz.ntmps30
   go_wp2
   go_ret
   exact ⟨rfl, rfl⟩
 | true =>
   rw [hd] at c
   go_enter Tryz.func30, Tryz.ntmps30
   go_wp2
   go_ret
   exact ⟨rfl, rfl⟩
theorem rEpoch_in (w : World) (base : Nat) (Q : RQ) (R : RF) (h : RK w base Q R) :
   Calls Tryz.prog 44 #[.pointer (some ⟨Q.p, 0, none⟩)] w fun e w' => e = .returned (.int .i64 R.ages) ∧ w = w' := by
 have c := h.c4
 go_enter Tryz.func44, Tryz.ntmps44
 go_wp2
 go_ret
 exact ⟨rfl, rfl⟩
theorem rClaim_in (w : World) (base : Nat) (Q : RQ) (R : RF) (h : RK w base Q R) (ha : 0 ≤ R.ages ∧ R.ages < 4000000000000000000) :
   Calls Tryz.prog 37 #[.pointer (some ⟨Q.p, 0, none⟩)] w fun e w' => e = .returned (.int .i64 (R.ages + 1)) ∧ RK w' base Q { R with ages := R.ages + 1 } ∧ Fr Q.fp w w' := by
 have c := h.c4
 have f := h.fz 4
 have hq := h.put (R' := { R with ages := R.ages + 1 }) 4 (.int .i64 (R.ages + 1)) rfl rfl rfl
 have q := hq.c4
 have HQ := hid hq
 have hp := h.hp
 clear hq
 simp only at q
 generalize R.ages = a at *
 go_enter Tryz.func37, Tryz.ntmps37
 go_wp2
 go_ret
 exact ⟨rfl, HQ.out, (Fr.refl _ w).setCell hp _ _⟩
def RF.arm (R : RF) (n : Int) : RF := if R.down then R else { R with armed := max n 0 }
theorem rArm_in (w : World) (base : Nat) (Q : RQ) (R : RF) (h : RK w base Q R) (n : Int) :
   Calls Tryz.prog 47 #[.pointer (some ⟨Q.p, 0, none⟩), .int .i64 n] w fun e w' => e = .returned (.tuple #[]) ∧ RK w' base Q (R.arm n) ∧ Fr Q.fp w w' := by
 have c3 := h.c3
 have c2 := h.c2
 have f2 := h.fz 2
 have hpp := h.hp
 cases hd : R.down with
 | false =>
   rw [hd] at c3
   have e : R.arm n = { R with armed := max n 0 } := by simp [RF.arm, hd]
   rw [e]
   clear hd e
   by_cases hn : n < 0
   · rw [show max n 0 = 0 by omega]
     have HQ := hid (h.put (R' := { R with armed := 0 }) 2 (.int .i64 0) rfl rfl rfl)
     go_enter Tryz.func47, Tryz.ntmps47
     go_wp2
     go_end0
     exact ⟨rfl, HQ.out, (Fr.refl _ w).setCell hpp _ _⟩
   · rw [show max n 0 = n by omega]
     have HQ := hid (h.put (R' := { R with armed := n }) 2 (.int .i64 n) rfl rfl rfl)
     go_enter Tryz.func47, Tryz.ntmps47
     go_wp2
     go_end0
     exact ⟨rfl, HQ.out, (Fr.refl _ w).setCell hpp _ _⟩
 | true =>
   rw [hd] at c3
   have e : R.arm n = R := by simp [RF.arm, hd]
   rw [e]
   by_cases hn : n < 0
   · go_enter Tryz.func47, Tryz.ntmps47
     go_wp2
     go_end0
     exact ⟨rfl, h, Fr.refl _ _⟩
   · go_enter Tryz.func47, Tryz.ntmps47
     go_wp2
     go_end0
     exact ⟨rfl, h, Fr.refl _ _⟩
def RF.acted (R : RF) : RF := if R.armed = 0 then R else if R.armed = 1 then { R with armed := 0, down := true } else { R with armed := R.armed - 1 }
theorem ract_in (w : World) (base : Nat) (Q : RQ) (R : RF) (h : RK w base Q R) (ha : 0 ≤ R.armed ∧ R.armed ≤ 9223372036854775807) :
   Calls Tryz.prog 87 #[.pointer (some ⟨Q.p, 0, none⟩)] w fun e w' => e = .returned (.bool (decide (R.armed ≠ 1))) ∧ RK w' base Q R.acted ∧ Fr Q.fp w w' := by
 have c2 := h.c2
 have c3 := h.c3
 have f2 := h.fz 2
 have f3 := h.fz 3
 by_cases h0 : R.armed = 0
 · have e1 : decide (R.armed ≠ 1) = true := decide_eq_true (by omega)
   have e2 : R.acted = R := by simp [RF.acted, h0]
   rw [e1, e2]
   rw [h0] at c2
   clear h0 e1 e2
   go_enter Tryz.func87, Tryz.ntmps87
   go_wp2
   go_ret
   exact ⟨rfl, h, Fr.refl _ _⟩
 · have hq := h.put (R' := { R with armed := R.armed - 1 }) 2 (.int .i64 (R.armed - 1)) rfl rfl rfl
   have hf := (Fr.refl Q.fp w).setCell h.hp 2 (.int .i64 (R.armed - 1))
   by_cases h1 : R.armed = 1
   · have e1 : decide (R.armed ≠ 1) = false := decide_eq_false (by omega)
     have e2 : R.acted = { R with armed := 0, down := true } := by simp [RF.acted, h1]
     rw [e1, e2]
     rw [h1] at c2 hq hf
     have q2 := hq.c2
     have q3 := hq.c3
     have g3 := hq.fz 3
     have HQ := hid (hq.put (R' := { R with armed := 0, down := true }) 3 (.bool true) rfl rfl rfl)
     have HF := hid (hf.setCell h.hp 3 (.bool true))
     clear hq hf h1 e1 e2 h0 ha
     simp only at q2 q3
     rw [show (1 : Int) - 1 = 0 from rfl] at *
     go_enter Tryz.func87, Tryz.ntmps87
     go_wp2
     go_ret
     exact ⟨rfl, HQ.out, HF.out⟩
   · have e1 : decide (R.armed ≠ 1) = true := decide_eq_true h1
     have e2 : R.acted = { R with armed := R.armed - 1 } := by simp [RF.acted, h0, h1]
     rw [e1, e2]
     have q2 := hq.c2
     have HQ := hid hq
     have HF := hid hf
     clear hq hf e1 e2
     simp only at q2
     have i1 : 1 < R.armed := by omega
     generalize R.armed = a at *
     have i2 : (a == 0) = false := by simp; omega
     clear h0 h1
     go_enter Tryz.func87, Tryz.ntmps87
     go_wp2
     go_ret
     exact ⟨rfl, HQ.out, HF.out⟩
end
end Go.Proofs.YtjhocjjecfdphaaGreatDoor
