import Derived.Test.YtihkjfbhmlfonaaBwA
namespace Go.Proofs.Ytihkjfbhmlfonaa
set_option linter.unusedVariables false
set_option linter.unusedSimpArgs false
open Go.RowKit
open Go.Proofs.Ytihkjfbhmlfonaa.Ca (Ct ct0 ctC argV AS)
attribute [local go_sem ↓] Go.wp_at_zero Go.wp_at_succ

/-- A step that came in. -/
structure LO where
  kd : Int
  at_ : Int
  n : Int
  m : Int
  zs : List Int
  bt : Nat
def dO : LO := ⟨0, 0, 0, 0, [], 0⟩
def loL (o : LO) (tp : Option Addr) (tc : Nat) : List Value := (opC o.kd o.at_ o.n o.m (.slice tp o.zs.length tc) o.bt).toList
def Scr (w : World) (B : Nat) (sp : Option Addr) (os : List LO) : Prop := ∃ b f, (0 < os.length → b < B ∧ sp = some ⟨b, f, none⟩) ∧ ∀ i, i < os.length → ∃ tp tc, w.rangeAt b (f + i * 6) (loL (os.getD i dO) tp tc) ∧ Src w tp tc (os.getD i dO).zs ∧ (0 < (os.getD i dO).zs.length → ∀ a, tp = some a → a.block < B) ∧ Byts (os.getD i dO).zs ∧ (os.getD i dO).zs.length ≤ 140737488352000
theorem Scr.below {w w1 : World} {B : Nat} {sp : Option Addr} {os : List LO} (h : Scr w B sp os) (hb : Below B w w1) : Scr w1 B sp os := by
  obtain ⟨b, f, h1, h2⟩ := h
  refine ⟨b, f, h1, fun i hi => ?_⟩
  obtain ⟨tp, tc, a1, a2, a3, a4⟩ := h2 i hi
  exact ⟨tp, tc, rng_below a1 hb (h1 (by omega)).1, SrcB a2 hb a3, a3, a4⟩
/-- Between two steps of the law. -/
def LI (w0 wr : World) (base n rm st p g : Nat) (i : Nat) : Prop := ∃ S W o L, Sb wr base S n o L (1000 + 200 * i) rm ∧ WO wr base W i ∧ RmO W S ∧ S.st = st ∧ S.p = p ∧ W.g = g ∧ Below base w0 wr
theorem whole_id (m : Int) (h : 0 ≤ m ∧ m ≤ 8) : wholeF m 0 4096 = m := by
  have e : m.tmod (4096 - 0 + 1) = m := Int.tmod_eq_of_lt h.1 (by omega)
  unfold wholeF
  rw [e, if_neg (by omega)]; omega
theorem size_counts : (Try.prog.info? 46).map (·.size) = some 4 := by kernel_rfl
theorem fieldSu (a b c d e : Int) (w : World) : (Instr.field 56 (.agg #[.int .i64 a, .int .i64 b, .int .i64 c, .int .i64 d, .int .i64 e]) 2).run Try.prog w = .ok (.int .i64 c) w := by kernel_rfl
theorem heldL_len : ∀ (l : List Ct) (n : Int), (heldL n l).length = l.length
  | [], _ => rfl
  | c :: r, n => by show (heldL (n + 1) r).length + 1 = r.length + 1; rw [heldL_len r]
theorem upA {w w1 : World} {A : Obj} {x : Obj} {k : Nat} (h : (w.alloc A).heap[k]? = some x) (hb : Below (w.alloc A).heap.size (w.alloc A) w1) (B : Obj) : (w1.alloc B).heap[k]? = some x := hold ((hb.block k (hlt_ h)).trans h)
theorem size_Op : (Try.prog.info? 41).map (·.size) = some 6 := by kernel_rfl
set_option maxRecDepth 100000 in
set_option maxHeartbeats 2000000 in
theorem storeBounds_any (w : World) (pages width room : Int) (sp : Option Addr) (cap : Nat) (os : List LO) (hL : Scr w w.heap.size sp os) (hc : os.length ≤ cap) (hcl : os.length ≤ 1048576) :
    Calls Try.prog 3 #[.int .i64 pages, .int .i64 width, .int .i64 room, .slice sp os.length cap] w fun e w' => e = .returned (.bool true) ∧ Below w.heap.size w w' := by
  have HLT := hid hL
  obtain ⟨base, hbase⟩ : ∃ base, base = w.heap.size := ⟨_, rfl⟩
  have HBASE := hid hbase
  have KP := hid (fun w' => hwhole_any w' pages 3 24 (by omega) (by omega) (by omega))
  have KW := hid (fun w' => hwhole_any w' width 1 32 (by omega) (by omega) (by omega))
  have KR := hid (fun w' => hwhole_any w' room 0 8 (by omega) (by omega) (by omega))
  have hp := wholeF_bd pages 3 24 (by omega)
  have hw := wholeF_bd width 1 32 (by omega)
  have hr := wholeF_bd room 0 8 (by omega)
  generalize wholeF pages 3 24 = ni at *
  generalize wholeF width 1 32 = wd at *
  generalize wholeF room 0 8 = ri at *
  obtain ⟨n, rfl⟩ : ∃ k : Nat, ni = (k : Int) := ⟨ni.toNat, by omega⟩
  obtain ⟨rm, rfl⟩ : ∃ k : Nat, ri = (k : Int) := ⟨ri.toNat, by omega⟩
  clear hL hbase
  have HLC := hid hcl
  generalize hn : os.length = m at *
  have HN := hid hn
  clear hn
  go_enter Try.func3, Try.ntmps3
  go_wp2_with fail
  refine (KP.out w).mono ?_
  rintro _ wx ⟨rfl, hx⟩
  obtain rfl := hx.symm
  go_wp2_with fail
  refine (KW.out w).mono ?_
  rintro _ wx ⟨rfl, hx⟩
  obtain rfl := hx.symm
  go_wp2_with fail
  refine (begun_hs w n wd ⟨by omega, by omega⟩ hw).mono ?_
  rintro _ w1 ⟨p, F, D, rfl, hD, ⟨hB1, hH1, hI1⟩, hb1⟩
  have HNB := hid (And.intro hp hw)
  have HD := hid (And.intro hD (And.intro hB1 (And.intro hH1 hI1)))
  rw [← HBASE.out] at hb1
  have HB1 := hid hb1
  have hni : (n : Int) ≤ 24 := by omega
  have hrm8 : (rm : Int) ≤ 8 := by omega
  clear hD hB1 hH1 hI1 hb1 hp hw
  go_wp2_with fail
  refine (known_any w1).mono ?_
  rintro _ w2 ⟨rfl, hb2⟩
  have HB2 := hid (HB1.out.trans (hb2.mono (Nat.le_trans (Nat.le_of_eq HBASE.out) HB1.out.size)))
  have HBD := hid (HD.out.1.below hb2)
  clear hb2
  go_wp2_with fail
  refine (KR.out w2).mono ?_
  rintro _ wx ⟨rfl, hx⟩
  obtain rfl := hx.symm
  clear KP KW KR
  have hBo := HD.out.2.1
  have HOP := hid (opened_rm w2 base F p D (by rw [HBASE.out]; exact HBD.out) (Nat.le_trans (Nat.le_of_eq HBASE.out) HB2.out.size) n _ _ _ HD.out.2.2.1 800 (by omega) (by rw [hBo.reads]; omega) (by rw [hBo.writes]; omega) (by rw [hBo.syncs]; omega) (by show (1 : Int) ≤ _; omega) (by rw [hBo.epoch]; omega) hBo.arm (rm : Int))
  clear hBo
  go_wp2_with fail
  refine HOP.out.mono ?_
  rintro _ w3 ⟨S0, rfl, hS0, ⟨hvs, hSp, hSs, hSr⟩, hb3⟩
  rw [whole_id rm (by omega), Int.toNat_natCast] at hSr
  have HS := hid (And.intro hS0 (And.intro hvs (And.intro hSp (And.intro hSs (And.intro hSr (HB2.out.trans hb3))))))
  clear hS0 hvs hSp hSs hSr hb3 HOP
  have HF := hid (show ∃ st, st = S0.st from ⟨_, rfl⟩)
  obtain ⟨st, hst⟩ := HF.out
  have HST := hid hst
  rw [← hst]
  clear hst HF
  go_wp2_with fail
  have HC0 := hid hc
  have h_init : LI w ((w3.alloc (.cells #[.slice none 0 0, .slice none 0 0, .slice none 0 0, .slice none 0 0] 33)).alloc (.cells #[.slice none 0 0, .slice none 0 0, .pointer (some ⟨w3.heap.size, 0, none⟩), .slice none 0 0, .slice none 0 0, .int .i64 0, .slice none 0 0] 38)) base n rm st p (w3.heap.size + 1) 0 := by
    obtain ⟨a1, a2, a3, a4, a5, a6⟩ := HS.out
    have hbw := a1.sk.base
    have b2 := Ca.below2 w3 (.cells #[.slice none 0 0, .slice none 0 0, .slice none 0 0, .slice none 0 0] 33) (.cells #[.slice none 0 0, .slice none 0 0, .pointer (some ⟨w3.heap.size, 0, none⟩), .slice none 0 0, .slice none 0 0, .int .i64 0, .slice none 0 0] 38)
    have n3 := HNB.out.1.1
    have n4 := HNB.out.1.2
    refine ⟨S0, ⟨w3.heap.size + 1, w3.heap.size, .slice none 0 0, .slice none 0 0, .slice none 0 0, .slice none 0 0, [], [], [], [], .slice none 0 0, .slice none 0 0, [], [], .slice none 0 0, [], 0⟩, _, [], ⟨a1.below b2, ?_, ?_, by omega, a5⟩, ⟨?_, ?_, ⟨hbw, Ca.hold2 _ _ _, Bo.OwnS.nil _ _, Bo.OwnS.nil _ _, Bo.OwnS.nil _ _, Bo.OwnS.nil _ _, ?_, ?_, ?_, ?_, ?_, ?_⟩, Bo.OwnS.nil _ _, Bo.OwnS.nil _ _, ?_, ?_, ?_, ?_, ?_, ?_, ?_, ?_, ?_, Own.nil _ _, Or.inl rfl, Nat.zero_le _, rfl, rfl, rfl, Nat.zero_le _, Nat.zero_le _, Nat.zero_le _⟩, (fun k (e : (none : Option Nat) = some k) => by cases e), HST.out.symm, a3, rfl, a6.trans (b2.mono hbw)⟩
    · rw [a2]; show 2 + 0 + 0 ≤ n; omega
    · rw [a4]; show (1 : Int) ≤ _; omega
    · show base ≤ w3.heap.size + 1; omega
    · exact Ca.hnew2 _ _ _
    all_goals exact fun k (e : (none : Option Nat) = some k) => by cases e
  go_loopw [13] (fun i wr => ∃ j : Nat, j ≤ m ∧ i = .int .i64 j ∧ LI w wr base n rm st p (w3.heap.size + 1) j) (fun i _ => m - (intOf i).toNat)
  case atStart => exact ⟨0, Nat.zero_le _, rfl, h_init⟩
  case round =>
    clear h_init
    obtain ⟨j, hj, rfl, hLI⟩ := hrel
    by_cases hlt' : j < m
    · have i1 : (j : Int) < (m : Int) := by omega
      obtain ⟨S, W, o, L, hSb, hWO, hRm, hSt, hSp, hWg, hB⟩ := hLI
      obtain ⟨bk, f0, hsp, hrows⟩ := HLT.out
      obtain ⟨hbk, rfl⟩ := hsp (by rw [HN.out]; omega)
      obtain ⟨tp, tc, rj, hsrc, hlow, h8, hzl⟩ := hrows j (by rw [HN.out]; exact hlt')
      clear hsp hrows
      generalize os.getD j dO = x at *
      obtain ⟨kd, at_, nn, mm, zr, bt⟩ := x
      replace rj : w.rangeAt bk (f0 + j * 6) (opC kd at_ nn mm (.slice tp zr.length tc) bt).toList := rj
      replace hsrc : Src w tp tc zr := hsrc
      replace hlow : 0 < zr.length → ∀ a, tp = some a → a.block < w.heap.size := hlow
      replace h8 : Byts zr := h8
      replace hzl : zr.length ≤ 140737488352000 := hzl
      rw [← HBASE.out] at hbk hlow
      have rj2 := rng_below rj hB hbk
      have HSRC := hid (fun (wv : World) (q : Below base w wv) => SrcB hsrc q hlow)
      have HLOW := hid hlow
      have H8 := hid h8
      have HZL := hid hzl
      clear rj hsrc hlow h8 hzl
      have hbq := below_new wr (.cells (opC kd at_ nn mm (.slice tp zr.length tc) bt) 41)
      have q0 : (wr.alloc (.cells (opC kd at_ nn mm (.slice tp zr.length tc) bt) 41)).cell? ⟨wr.heap.size, 0, none⟩ = some (.int .i64 kd) := by rw [cell_of_row _ _ _ _ _ _ (hnew wr _)]; rfl
      have HOO := hid (show (opC kd at_ nn mm (.slice tp zr.length tc) bt).all (·.oneCell') = true by simp [opC, Value.oneCell'])
      have HON := hid (show (Try.prog.info? 41).map (·.size) = some (opC kd at_ nn mm (.slice tp zr.length tc) bt).size by rw [size_Op]; rfl)
      have HSKIP : Hid (LI w (wr.alloc (.cells (opC kd at_ nn mm (.slice tp zr.length tc) bt) 41)) base n rm st p (w3.heap.size + 1) (j + 1)) := hid ⟨S, W, o, L, (hSb.below hbq).more _ (by omega), (hWO.below hbq).more _ (by omega), hRm, hSt, hSp, hWg, hB.trans (hbq.mono hSb.sx.sk.base)⟩
      by_cases h1 : kd < 2
      · clear hSb hWO hRm hB
        go_wp2_with (first | refine wpList_load_mid rfl 41 _ rfl bk (f0 + j * 6) rfl (opC kd at_ nn mm (.slice tp zr.length tc) bt).toList _ rj2 Try.underlying41 rfl HON.out ?_ | (refine wpList_store_row rfl 41 (.tmp 14) (.tmp 54) rfl wr.heap.size (opC kd at_ nn mm (.slice tp zr.length tc) bt).toList.toArray rfl rfl 41 _ (hnew wr (.cells #[.int .i64 0, .int .i64 0, .int .i64 0, .int .i64 0, .slice none 0 0, .int .u32 0] 41)) (by rw [Array.toArray_toList]; exact HON.out) rfl (by rw [Array.toArray_toList]; exact HOO.out) ?_; rw [setRow_alloc, Array.toArray_toList]))
        go_roundw
        case rel => exact ⟨j + 1, by omega, by go_num, HSKIP.out⟩
        case measure => simp [intOf]; omega
      by_cases h2 : 11 < kd
      · clear hSb hWO hRm hB
        go_wp2_with (first | refine wpList_load_mid rfl 41 _ rfl bk (f0 + j * 6) rfl (opC kd at_ nn mm (.slice tp zr.length tc) bt).toList _ rj2 Try.underlying41 rfl HON.out ?_ | (refine wpList_store_row rfl 41 (.tmp 14) (.tmp 54) rfl wr.heap.size (opC kd at_ nn mm (.slice tp zr.length tc) bt).toList.toArray rfl rfl 41 _ (hnew wr (.cells #[.int .i64 0, .int .i64 0, .int .i64 0, .int .i64 0, .slice none 0 0, .int .u32 0] 41)) (by rw [Array.toArray_toList]; exact HON.out) rfl (by rw [Array.toArray_toList]; exact HOO.out) ?_; rw [setRow_alloc, Array.toArray_toList]))
        go_roundw
        case rel => exact ⟨j + 1, by omega, by go_num, HSKIP.out⟩
        case measure => simp [intOf]; omega
      have HT1 := hid (fun (wv : World) (q : Below wr.heap.size wr wv) => oTally_any wv base S (hSb.below q).sx.sk)
      have HC1 := hid (fun (wv : World) (q : Below wr.heap.size wr wv) => Counts_any wv base S.F S.p S.D (hSb.below q).sx.sk.da)
      have HS1 := hid (fun (wv : World) (q : Below wr.heap.size wr wv) => oStaged_any wv base S (hSb.below q).sx.sk (by have := (hSb.below q).bd; have := hSb.fit; have := hSb.n64; omega))
      have HONE := hid (fun (wv : World) (q : Below wr.heap.size wr wv) => one_any wv base S n o L (1000 + 200 * j) rm (hSb.below q) (by have := HLC.out; omega) W j (hWO.below q) hRm (by have := HLC.out; omega) zr H8.out HZL.out kd (by omega) at_ nn mm tp tc bt (HSRC.out wv (hB.trans (q.mono hSb.sx.sk.base))) HLOW.out)
      have HSb := hid hSb
      have HBB := hid hB
      have HOFF := hid (fun (k : Nat) (hk : wr.heap.size ≤ k) => show k ∉ S.fp ++ W.fp from fun q => by
        rcases List.mem_append.1 q with q | q
        · have := (hSb.sx.sk.fp_lt q).2; omega
        · have := (hWO.ty q).2.1; omega)
      have HTN := hid (show (Try.prog.info? 43).map (·.size) = some (#[Value.int .i64 S.a.hits, Value.int .i64 S.a.misses, Value.int .i64 S.a.gone, Value.int .i64 S.a.clean.length, Value.int .i64 S.a.held.length] : Array Value).size by rw [size_tally]; rfl)
      have HTO := hid (show ((#[Value.int .i64 S.a.hits, Value.int .i64 S.a.misses, Value.int .i64 S.a.gone, Value.int .i64 S.a.clean.length, Value.int .i64 S.a.held.length] : Array Value)).all (·.oneCell') = true by simp [Value.oneCell'])
      have HCN := hid (show (Try.prog.info? 46).map (·.size) = some (#[Value.int .i64 S.D.reads, Value.int .i64 S.D.writes, Value.int .i64 S.D.syncs, Value.int .i64 S.D.ops.length] : Array Value).size by rw [size_counts]; rfl)
      have HCO := hid (show ((#[Value.int .i64 S.D.reads, Value.int .i64 S.D.writes, Value.int .i64 S.D.syncs, Value.int .i64 S.D.ops.length] : Array Value)).all (·.oneCell') = true by simp [Value.oneCell'])
      have HBD := hid (And.intro hSb.sx.N (And.intro hSb.sx.rd (And.intro hSb.sx.wr (And.intro hSb.sx.sy (And.intro hSb.sx.sk.da.ok hSb.bd)))))
      have HSt := hid hSt
      have HSp := hid hSp
      have HWg := hid hWg
      rw [hSt] at HT1 HS1 HONE
      rw [hSp] at HC1
      rw [hWg] at HONE
      clear hSb hWO hRm hB hSt hSp hWg
      go_wp2_with (first | refine wpList_load_mid rfl 41 _ rfl bk (f0 + j * 6) rfl (opC kd at_ nn mm (.slice tp zr.length tc) bt).toList _ rj2 Try.underlying41 rfl HON.out ?_ | (refine wpList_store_row rfl 41 (.tmp 14) (.tmp 54) rfl wr.heap.size (opC kd at_ nn mm (.slice tp zr.length tc) bt).toList.toArray rfl rfl 41 _ (hnew wr (.cells #[.int .i64 0, .int .i64 0, .int .i64 0, .int .i64 0, .slice none 0 0, .int .u32 0] 41)) (by rw [Array.toArray_toList]; exact HON.out) rfl (by rw [Array.toArray_toList]; exact HOO.out) ?_; rw [setRow_alloc, Array.toArray_toList]))
      refine (HT1.out _ hbq).mono ?_
      rintro e w4 ⟨rfl, hb4⟩
      have hb4q := hbq.trans (hb4.mono hbq.size)
      have hb5 := hb4q.alloc hb4q.size (.cells (#[Value.int .i64 S.a.hits, Value.int .i64 S.a.misses, Value.int .i64 S.a.gone, Value.int .i64 S.a.clean.length, Value.int .i64 S.a.held.length] : Array Value) 43)
      have HB4 := hid hb4
      clear hb4
      go_wp2_with (first | (refine wpList_store_row rfl 43 (.tmp 15) (.tmp 64) rfl w4.heap.size (#[Value.int .i64 S.a.hits, Value.int .i64 S.a.misses, Value.int .i64 S.a.gone, Value.int .i64 S.a.clean.length, Value.int .i64 S.a.held.length] : Array Value) rfl rfl 43 _ (hnew w4 (.cells #[.int .i64 0, .int .i64 0, .int .i64 0, .int .i64 0, .int .i64 0] 43)) HTN.out rfl HTO.out ?_; rw [setRow_alloc]))
      refine (HC1.out _ hb5).mono ?_
      rintro e w6 ⟨rfl, hb6⟩
      have hb6q := hb5.trans (hb6.mono hb5.size)
      have hb7 := hb6q.alloc hb6q.size (.cells (#[Value.int .i64 S.D.reads, Value.int .i64 S.D.writes, Value.int .i64 S.D.syncs, Value.int .i64 S.D.ops.length] : Array Value) 46)
      have HB6 := hid hb6
      clear hb6
      go_wp2_with (first | (refine wpList_store_row rfl 46 (.tmp 16) (.tmp 68) rfl w6.heap.size (#[Value.int .i64 S.D.reads, Value.int .i64 S.D.writes, Value.int .i64 S.D.syncs, Value.int .i64 S.D.ops.length] : Array Value) rfl rfl 46 _ (hnew w6 (.cells #[.int .i64 0, .int .i64 0, .int .i64 0, .int .i64 0] 46)) HCN.out rfl HCO.out ?_; rw [setRow_alloc]))
      refine (HS1.out _ hb7).mono ?_
      rintro e wx ⟨rfl, hx⟩
      obtain rfl := hx.symm
      have r7 := upA (upA (hnew wr (.cells (opC kd at_ nn mm (.slice tp zr.length tc) bt) 41)) HB4.out (.cells (#[Value.int .i64 S.a.hits, Value.int .i64 S.a.misses, Value.int .i64 S.a.gone, Value.int .i64 S.a.clean.length, Value.int .i64 S.a.held.length] : Array Value) 43)) HB6.out (.cells (#[Value.int .i64 S.D.reads, Value.int .i64 S.D.writes, Value.int .i64 S.D.syncs, Value.int .i64 S.D.ops.length] : Array Value) 46)
      have t7 := upA (hnew w4 (.cells (#[Value.int .i64 S.a.hits, Value.int .i64 S.a.misses, Value.int .i64 S.a.gone, Value.int .i64 S.a.clean.length, Value.int .i64 S.a.held.length] : Array Value) 43)) HB6.out (.cells (#[Value.int .i64 S.D.reads, Value.int .i64 S.D.writes, Value.int .i64 S.D.syncs, Value.int .i64 S.D.ops.length] : Array Value) 46)
      have c7 := hnew w6 (.cells (#[Value.int .i64 S.D.reads, Value.int .i64 S.D.writes, Value.int .i64 S.D.syncs, Value.int .i64 S.D.ops.length] : Array Value) 46)
      have HR7 := hid (And.intro r7 (And.intro t7 c7))
      clear t7 c7
      go_wp2_with (first | refine wpList_load_row rfl 41 (.tmp 14) rfl wr.heap.size rfl 41 (opC kd at_ nn mm (.slice tp zr.length tc) bt) _ _ r7 Try.underlying41 rfl HON.out ?_ | fail)
      refine (HONE.out _ hb7).mono ?_
      rintro e w8 ⟨S', W', E, N, rv, s5, x1, x2, x3, x4, x5, rfl, hrv, ⟨o', L', hSb'⟩, hst, hWO', hRm', hg', hB8, hF8⟩
      have hs6 := HB6.out.size
      have hs4 := HB4.out.size
      simp only [World.size_alloc] at hs6 hs4
      have r8 := (hF8.block _ (hlt_ HR7.out.1) (HOFF.out _ (Nat.le_refl _))).trans HR7.out.1
      have t8 := (hF8.block _ (hlt_ HR7.out.2.1) (HOFF.out _ (by omega))).trans HR7.out.2.1
      have c8 := (hF8.block _ (hlt_ HR7.out.2.2) (HOFF.out _ (by omega))).trans HR7.out.2.2
      have HR8 := hid (And.intro r8 (And.intro t8 c8))
      have HT2 := hid (fun (wv : World) (q : Below w8.heap.size w8 wv) => oTally_any wv base S' (hSb'.below q).sx.sk)
      have HC2 := hid (fun (wv : World) (q : Below w8.heap.size w8 wv) => Counts_any wv base S'.F S'.p S'.D (hSb'.below q).sx.sk.da)
      have HS2 := hid (fun (wv : World) (q : Below w8.heap.size w8 wv) => oStaged_any wv base S' (hSb'.below q).sx.sk (by have := (hSb'.below q).bd; have := hSb'.fit; have := hSb'.n64; omega))
      have HN2 := hid (fun (wv : World) (q : Below w8.heap.size w8 wv) => oNext_any wv base S' (hSb'.below q).sx.sk (by have := (hSb'.below q).bd; have := hSb'.fit; have := hSb'.n64; omega) (by have := (hSb'.below q).bd; have := hSb'.fit; have := hSb'.n64; omega))
      have HU2 := hid (fun (wv : World) (q : Below w8.heap.size w8 wv) => oSuper_any wv base S' (hSb'.below q).sx.sk)
      rw [show S'.a.held.length = S'.cts.length from by rw [hSb'.sx.sk.hd]; exact heldL_len _ _] at HT2
      rw [hst.st, HSt.out] at HT2 HS2 HN2 HU2
      rw [hst.p, HSp.out] at HC2
      have HAN := hid (anN E N rv s5 x1 x2 x3 x4 x5)
      have HAO := hid (show (anC E N rv s5 x1 x2 x3 x4 x5).all (·.oneCell') = true by (simp only [Value.oneCell'] at hrv; simp [anC, Value.oneCell', hrv]))
      have HTN2 := hid (show (Try.prog.info? 43).map (·.size) = some (#[Value.int .i64 S'.a.hits, Value.int .i64 S'.a.misses, Value.int .i64 S'.a.gone, Value.int .i64 S'.a.clean.length, Value.int .i64 S'.cts.length] : Array Value).size by rw [size_tally]; rfl)
      have HTO2 := hid (show ((#[Value.int .i64 S'.a.hits, Value.int .i64 S'.a.misses, Value.int .i64 S'.a.gone, Value.int .i64 S'.a.clean.length, Value.int .i64 S'.cts.length] : Array Value)).all (·.oneCell') = true by simp [Value.oneCell'])
      have HCN2 := hid (show (Try.prog.info? 46).map (·.size) = some (#[Value.int .i64 S'.D.reads, Value.int .i64 S'.D.writes, Value.int .i64 S'.D.syncs, Value.int .i64 S'.D.ops.length] : Array Value).size by rw [size_counts]; rfl)
      have HCO2 := hid (show ((#[Value.int .i64 S'.D.reads, Value.int .i64 S'.D.writes, Value.int .i64 S'.D.syncs, Value.int .i64 S'.D.ops.length] : Array Value)).all (·.oneCell') = true by simp [Value.oneCell'])
      have HST := hid hst
      have hb8b := HBB.out.trans ((hb7.mono HSb.out.sx.sk.base).trans hB8)
      have HLI : Hid (∀ wv, Below w8.heap.size w8 wv → LI w wv base n rm st p (w3.heap.size + 1) (j + 1)) := hid (fun wv q => ⟨S', W', o', L', (hSb'.below q).more _ (by omega), (hWO'.below q).more _ (by omega), hRm', hst.st.trans HSt.out, hst.p.trans HSp.out, hg'.trans HWg.out, hb8b.trans (q.mono hSb'.sx.sk.base)⟩)
      have HSb2 := hid hSb'
      have hb9 := below_new w8 (.cells (anC E N rv s5 x1 x2 x3 x4 x5) 58)
      clear hSb' hst hWO' hRm' hg' hB8 hF8 r7 r8 t8 c8 hb8b hb7 hb6q hb5 hb4q hbq HT1 HC1 HS1 HONE HTN HTO HCN HCO HB4 HB6 HR7
      go_wp2_with (first | (refine wpList_store_row rfl 58 (.tmp 18) (.tmp 74) rfl w8.heap.size (anC E N rv s5 x1 x2 x3 x4 x5) rfl rfl 58 _ (hnew w8 (.cells #[.int .i64 0, .int .i64 0, .bool false, .slice none 0 0, .int .i64 0, .int .i64 0, .int .i64 0, .int .i64 0, .int .i64 0, .int .i64 0, .int .i64 0, .int .i64 0, .int .i64 0, .int .i64 0, .int .i64 0, .int .i64 0, .int .i64 0, .int .i64 0] 58)) HAN.out rfl HAO.out ?_; rw [setRow_alloc]))
      refine (HT2.out _ hb9).mono ?_
      rintro e w10 ⟨rfl, hb10⟩
      have hb10q := hb9.trans (hb10.mono hb9.size)
      have hb11 := hb10q.alloc hb10q.size (.cells (#[Value.int .i64 S'.a.hits, Value.int .i64 S'.a.misses, Value.int .i64 S'.a.gone, Value.int .i64 S'.a.clean.length, Value.int .i64 S'.cts.length] : Array Value) 43)
      have HB10 := hid hb10
      clear hb10
      go_wp2_with (first | (refine wpList_store_row rfl 43 (.tmp 19) (.tmp 76) rfl w10.heap.size (#[Value.int .i64 S'.a.hits, Value.int .i64 S'.a.misses, Value.int .i64 S'.a.gone, Value.int .i64 S'.a.clean.length, Value.int .i64 S'.cts.length] : Array Value) rfl rfl 43 _ (hnew w10 (.cells #[.int .i64 0, .int .i64 0, .int .i64 0, .int .i64 0, .int .i64 0] 43)) HTN2.out rfl HTO2.out ?_; rw [setRow_alloc]))
      refine (HC2.out _ hb11).mono ?_
      rintro e w12 ⟨rfl, hb12⟩
      have hb12q := hb11.trans (hb12.mono hb11.size)
      have hb13 := hb12q.alloc hb12q.size (.cells (#[Value.int .i64 S'.D.reads, Value.int .i64 S'.D.writes, Value.int .i64 S'.D.syncs, Value.int .i64 S'.D.ops.length] : Array Value) 46)
      have HB12 := hid hb12
      clear hb12
      go_wp2_with (first | (refine wpList_store_row rfl 46 (.tmp 20) (.tmp 80) rfl w12.heap.size (#[Value.int .i64 S'.D.reads, Value.int .i64 S'.D.writes, Value.int .i64 S'.D.syncs, Value.int .i64 S'.D.ops.length] : Array Value) rfl rfl 46 _ (hnew w12 (.cells #[.int .i64 0, .int .i64 0, .int .i64 0, .int .i64 0] 46)) HCN2.out rfl HCO2.out ?_; rw [setRow_alloc]))
      have r13 := upA (upA (hold (o := .cells (anC E N rv s5 x1 x2 x3 x4 x5) 58) HR8.out.1) HB10.out (.cells (#[Value.int .i64 S'.a.hits, Value.int .i64 S'.a.misses, Value.int .i64 S'.a.gone, Value.int .i64 S'.a.clean.length, Value.int .i64 S'.cts.length] : Array Value) 43)) HB12.out (.cells (#[Value.int .i64 S'.D.reads, Value.int .i64 S'.D.writes, Value.int .i64 S'.D.syncs, Value.int .i64 S'.D.ops.length] : Array Value) 46)
      have t13 := upA (upA (hold (o := .cells (anC E N rv s5 x1 x2 x3 x4 x5) 58) HR8.out.2.1) HB10.out (.cells (#[Value.int .i64 S'.a.hits, Value.int .i64 S'.a.misses, Value.int .i64 S'.a.gone, Value.int .i64 S'.a.clean.length, Value.int .i64 S'.cts.length] : Array Value) 43)) HB12.out (.cells (#[Value.int .i64 S'.D.reads, Value.int .i64 S'.D.writes, Value.int .i64 S'.D.syncs, Value.int .i64 S'.D.ops.length] : Array Value) 46)
      have c13 := upA (upA (hold (o := .cells (anC E N rv s5 x1 x2 x3 x4 x5) 58) HR8.out.2.2) HB10.out (.cells (#[Value.int .i64 S'.a.hits, Value.int .i64 S'.a.misses, Value.int .i64 S'.a.gone, Value.int .i64 S'.a.clean.length, Value.int .i64 S'.cts.length] : Array Value) 43)) HB12.out (.cells (#[Value.int .i64 S'.D.reads, Value.int .i64 S'.D.writes, Value.int .i64 S'.D.syncs, Value.int .i64 S'.D.ops.length] : Array Value) 46)
      have a13 := upA (upA (hnew w8 (.cells (anC E N rv s5 x1 x2 x3 x4 x5) 58)) HB10.out (.cells (#[Value.int .i64 S'.a.hits, Value.int .i64 S'.a.misses, Value.int .i64 S'.a.gone, Value.int .i64 S'.a.clean.length, Value.int .i64 S'.cts.length] : Array Value) 43)) HB12.out (.cells (#[Value.int .i64 S'.D.reads, Value.int .i64 S'.D.writes, Value.int .i64 S'.D.syncs, Value.int .i64 S'.D.ops.length] : Array Value) 46)
      have u13 := upA (hnew w10 (.cells (#[Value.int .i64 S'.a.hits, Value.int .i64 S'.a.misses, Value.int .i64 S'.a.gone, Value.int .i64 S'.a.clean.length, Value.int .i64 S'.cts.length] : Array Value) 43)) HB12.out (.cells (#[Value.int .i64 S'.D.reads, Value.int .i64 S'.D.writes, Value.int .i64 S'.D.syncs, Value.int .i64 S'.D.ops.length] : Array Value) 46)
      have k13 := hnew w12 (.cells (#[Value.int .i64 S'.D.reads, Value.int .i64 S'.D.writes, Value.int .i64 S'.D.syncs, Value.int .i64 S'.D.ops.length] : Array Value) 46)
      have n1 := HST.out.rd
      have n2 : (S.a.misses : Int) ≤ S'.a.misses := Int.ofNat_le.2 HST.out.mi
      have n3 : (S.a.hits : Int) ≤ S'.a.hits := Int.ofNat_le.2 HST.out.hi
      have n4 : (S.a.gone : Int) ≤ S'.a.gone := Int.ofNat_le.2 HST.out.go
      have N5 := hid (show kd = 2 → E = 0 → (S'.a.misses : Int) + S'.a.hits = S.a.misses + S.a.hits + 1 from fun a b => by have := HST.out.ld a b; omega)
      have N67 := hid (show (kd = 5 → E = 0 → S'.D.writes = S.D.writes + ((S.cts.length : Int) + 1) ∧ S'.D.syncs = S.D.syncs + 2) ∧ (¬ (kd = 5 ∧ E = 0) → S'.D.writes = S.D.writes ∧ S'.D.syncs = S.D.syncs) from by
        have n6 := HST.out.wr
        have n7 := HST.out.sy
        refine ⟨fun a b => ?_, fun a => ?_⟩
        · rw [if_pos ⟨a, b⟩] at n6 n7; exact ⟨n6, n7⟩
        · rw [if_neg a] at n6 n7; exact ⟨by omega, by omega⟩)
      have n8 : (S'.a.clean.length : Int) ≤ rm := by
        obtain ⟨_, _, _, _, _, _, _, _, _, z⟩ := HSb2.out.sx.sk.ca
        have := HSb2.out.room; omega
      have n9 : (0 : Int) ≤ S'.a.clean.length := Int.natCast_nonneg _
      have n10 : (S'.D.ops.length : Int) = 0 := by rw [HSb2.out.sx.hs.ops]; rfl
      have m1 : (0 : Int) ≤ S'.a.misses ∧ (S'.a.misses : Int) ≤ 1000000000 ∧ (0 : Int) ≤ S'.a.hits ∧ (S'.a.hits : Int) ≤ 1000000000 := by
        obtain ⟨_, _, _, _, _, _, _, _, z, _⟩ := HSb2.out.sx.sk.ca
        have z2 := HSb2.out.sx.N
        have z3 := HLC.out
        unfold Ca.AS.tot at z
        omega
      have m2 : (0 : Int) ≤ S.a.misses ∧ (0 : Int) ≤ S.a.hits := ⟨Int.natCast_nonneg _, Int.natCast_nonneg _⟩
      have m3 : 0 ≤ S'.s.ma ∧ S'.s.ma ≤ 100 ∧ (0 : Int) ≤ S'.cts.length ∧ (S'.cts.length : Int) ≤ 100 := by
        have := HSb2.out.bd; have := HSb2.out.fit; have := HSb2.out.n64; omega
      have m4 : 0 ≤ S.D.reads ∧ 0 ≤ S.D.writes ∧ 0 ≤ S.D.syncs := by
        have := HSb.out.sx.sk.da.ok; exact ⟨this.reads.1, this.writes.1, this.syncs.1⟩
      have m5 : 0 ≤ S'.D.reads ∧ S'.D.reads ≤ 1000000000 ∧ 0 ≤ S'.D.writes ∧ S'.D.writes ≤ 1000000000 ∧ 0 ≤ S'.D.syncs ∧ S'.D.syncs ≤ 1000000000 := by
        have z := HSb2.out.sx.sk.da.ok
        have z1 := HSb2.out.sx.rd; have z2 := HSb2.out.sx.wr; have z3 := HSb2.out.sx.sy
        have z4 := HLC.out
        exact ⟨z.reads.1, by omega, z.writes.1, by omega, z.syncs.1, by omega⟩
      have m6 : (0 : Int) ≤ S.cts.length ∧ (S.cts.length : Int) ≤ 100 := by
        have := HSb.out.bd; have := HSb.out.fit; have := HSb.out.n64; omega
      have m7 : (0 : Int) ≤ S.a.gone := Int.natCast_nonneg _
      have HB13 := hid hb13
      obtain ⟨w13, hw13⟩ : ∃ w13, w13 = w12.alloc (.cells (#[Value.int .i64 S'.D.reads, Value.int .i64 S'.D.writes, Value.int .i64 S'.D.syncs, Value.int .i64 S'.D.ops.length] : Array Value) 46) := ⟨_, rfl⟩
      rw [← hw13] at HB13 r13 t13 c13 a13 u13 k13 ⊢
      clear hw13 hb13 hb12q hb11 hb10q hb9 HB10 HB12 HR8 HST HSb2 HSb HTN2 HTO2 HCN2 HCO2 HAN HAO HT2 HC2
      simp only [supC] at HU2
      have HCL : Hid (∀ wv, Below w13.heap.size w13 wv → wv.cell? ⟨wr.heap.size, 0, none⟩ = some (.int .i64 kd) ∧ wv.cell? ⟨w8.heap.size, 0, none⟩ = some (.int .i64 E) ∧ (wv.cell? ⟨w4.heap.size, 0, none⟩ = some (.int .i64 S.a.hits) ∧ wv.cell? ⟨w4.heap.size, 1, none⟩ = some (.int .i64 S.a.misses) ∧ wv.cell? ⟨w4.heap.size, 2, none⟩ = some (.int .i64 S.a.gone)) ∧ (wv.cell? ⟨w6.heap.size, 0, none⟩ = some (.int .i64 S.D.reads) ∧ wv.cell? ⟨w6.heap.size, 1, none⟩ = some (.int .i64 S.D.writes) ∧ wv.cell? ⟨w6.heap.size, 2, none⟩ = some (.int .i64 S.D.syncs)) ∧ (wv.cell? ⟨w10.heap.size, 0, none⟩ = some (.int .i64 S'.a.hits) ∧ wv.cell? ⟨w10.heap.size, 1, none⟩ = some (.int .i64 S'.a.misses) ∧ wv.cell? ⟨w10.heap.size, 2, none⟩ = some (.int .i64 S'.a.gone) ∧ wv.cell? ⟨w10.heap.size, 3, none⟩ = some (.int .i64 S'.a.clean.length) ∧ wv.cell? ⟨w10.heap.size, 4, none⟩ = some (.int .i64 S'.cts.length)) ∧ (wv.cell? ⟨w12.heap.size, 0, none⟩ = some (.int .i64 S'.D.reads) ∧ wv.cell? ⟨w12.heap.size, 1, none⟩ = some (.int .i64 S'.D.writes) ∧ wv.cell? ⟨w12.heap.size, 2, none⟩ = some (.int .i64 S'.D.syncs) ∧ wv.cell? ⟨w12.heap.size, 3, none⟩ = some (.int .i64 S'.D.ops.length))) := hid (fun wv q => by
        have up : ∀ {k : Nat} {x : Obj}, w13.heap[k]? = some x → wv.heap[k]? = some x := fun h => (q.block _ (hlt_ h)).trans h
        refine ⟨?_, ?_, ⟨?_, ?_, ?_⟩, ⟨?_, ?_, ?_⟩, ⟨?_, ?_, ?_, ?_, ?_⟩, ⟨?_, ?_, ?_, ?_⟩⟩
        · rw [cell_of_row _ _ _ _ _ _ (up r13)]; rfl
        · rw [cell_of_row _ _ _ _ _ _ (up a13)]; rfl
        · rw [cell_of_row _ _ _ _ _ _ (up t13)]; rfl
        · rw [cell_of_row _ _ _ _ _ _ (up t13)]; rfl
        · rw [cell_of_row _ _ _ _ _ _ (up t13)]; rfl
        · rw [cell_of_row _ _ _ _ _ _ (up c13)]; rfl
        · rw [cell_of_row _ _ _ _ _ _ (up c13)]; rfl
        · rw [cell_of_row _ _ _ _ _ _ (up c13)]; rfl
        · rw [cell_of_row _ _ _ _ _ _ (up u13)]; rfl
        · rw [cell_of_row _ _ _ _ _ _ (up u13)]; rfl
        · rw [cell_of_row _ _ _ _ _ _ (up u13)]; rfl
        · rw [cell_of_row _ _ _ _ _ _ (up u13)]; rfl
        · rw [cell_of_row _ _ _ _ _ _ (up u13)]; rfl
        · rw [cell_of_row _ _ _ _ _ _ (up k13)]; rfl
        · rw [cell_of_row _ _ _ _ _ _ (up k13)]; rfl
        · rw [cell_of_row _ _ _ _ _ _ (up k13)]; rfl
        · rw [cell_of_row _ _ _ _ _ _ (up k13)]; rfl)
      clear r13 t13 c13 a13 u13 k13
      have HSZ := hid (show wr.heap.size < w13.heap.size ∧ w10.heap.size < w13.heap.size ∧ w12.heap.size < w13.heap.size from by
        have z := HCL.out w13 (Below.refl _ _)
        exact ⟨World.block_lt_of_cell? _ _ z.1, World.block_lt_of_cell? _ _ z.2.2.2.2.1.1, World.block_lt_of_cell? _ _ z.2.2.2.2.2.1⟩)
      generalize (S.a.hits : Int) = t0 at *
      generalize (S.a.misses : Int) = t1 at *
      generalize (S.a.gone : Int) = t2 at *
      generalize (S.a.clean.length : Int) = t3 at *
      generalize (S.a.held.length : Int) = t4 at *
      generalize S.D.reads = c0 at *
      generalize S.D.writes = c1 at *
      generalize S.D.syncs = c2 at *
      generalize (S.D.ops.length : Int) = c3 at *
      generalize (S.cts.length : Int) = sg at *
      generalize (S'.a.hits : Int) = u0 at *
      generalize (S'.a.misses : Int) = u1 at *
      generalize (S'.a.gone : Int) = u2 at *
      generalize (S'.a.clean.length : Int) = u3 at *
      generalize S'.D.reads = k0 at *
      generalize S'.D.writes = k1 at *
      generalize S'.D.syncs = k2 at *
      generalize (S'.D.ops.length : Int) = k3 at *
      generalize (S'.cts.length : Int) = sg2 at *
      generalize S'.s.wd = wd2 at *
      generalize S'.s.ge = ge2 at *
      generalize S'.s.ma = ma at *
      generalize S'.s.hd = hd2 at *
      generalize S'.s.pg = pg2 at *
      subst n10
      have HU34 := hid (show w13.cell? ⟨w10.heap.size, 3, none⟩ = some (.int .i64 u3) ∧ w13.cell? ⟨w10.heap.size, 4, none⟩ = some (.int .i64 sg2) from by
        have z := (HCL.out w13 (Below.refl _ _)).2.2.2.2.1; exact ⟨z.2.2.2.1, z.2.2.2.2⟩)
      have HUB := hid HSZ.out.2.1
      refine wp_region_noPanic ?_
      refine wp_region_held_drew (S := fun w' => Below w13.heap.size w13 w') (by kernel_rfl) (Below.refl _ _).drew (fun hHeld => ?_)
      refine wpAnyH_take (i := 0) (oi := { dst := some 81, op := Op.fieldAddr 43 (Operand.tmp 19) 3, type := 0, pos := "law.go:576", after := #[], guard := none }) (v := .pointer (some ⟨w10.heap.size, 3, none⟩)) rfl (by kernel_rfl) (by kernel_rfl) (by kernel_rfl) (fun _ _ _ h => h) (Or.inl ⟨by rfl, by intro w hS; go_simp⟩) hHeld ?_
      try simp only [Act.put, List.setIfInBounds_toArray, List.set_cons_zero, List.set_cons_succ]
      refine wpAnyH_take (i := 2) (oi := { dst := some 83, op := Op.move (Operand.tmp 10), type := 3, pos := "law.go:576", after := #[], guard := none }) (v := .int .i64 rm) rfl (by kernel_rfl) (by kernel_rfl) (by kernel_rfl) (fun _ _ _ h => h) (Or.inl ⟨by rfl, by intro w hS; go_simp⟩) hHeld ?_
      try simp only [Act.put, List.setIfInBounds_toArray, List.set_cons_zero, List.set_cons_succ]
      refine wpAnyH_take (i := 1) (oi := { dst := some 82, op := Op.load 3 (Operand.tmp 81), type := 3, pos := "law.go:576", after := #[{ on := 0, ground := Ground.data }], guard := none }) (v := .int .i64 u3) rfl (by kernel_rfl) (by kernel_rfl) (by kernel_rfl) (fun _ _ _ h => h) (Or.inl ⟨by rfl, by intro w hS; have hc := ((hS.cell (p := ⟨w10.heap.size, 3, none⟩) HUB.out).trans HU34.out.1); go_simp⟩) hHeld ?_
      try simp only [Act.put, List.setIfInBounds_toArray, List.set_cons_zero, List.set_cons_succ]
      refine wpAnyH_take (i := 3) (oi := { dst := some 84, op := Op.binOp BinOp.gtr 3 (Operand.tmp 82) (Operand.tmp 83) 3, type := 4, pos := "law.go:576", after := #[{ on := 1, ground := Ground.data }, { on := 2, ground := Ground.data }], guard := none }) (v := .bool false) rfl (by kernel_rfl) (by kernel_rfl) (by kernel_rfl) (fun _ _ _ h => h) (Or.inl ⟨by rfl, by intro w hS; (go_simp; all_goals first | omega | (simp; omega))⟩) hHeld ?_
      try simp only [Act.put, List.setIfInBounds_toArray, List.set_cons_zero, List.set_cons_succ]
      refine wpAnyH_take (i := 4) (oi := { dst := some 85, op := Op.move (Operand.tmp 84), type := 4, pos := "law.go:576", after := #[{ on := 3, ground := Ground.data }], guard := none }) (v := .bool false) rfl (by kernel_rfl) (by kernel_rfl) (by kernel_rfl) (fun _ _ _ h => h) (Or.inl ⟨by rfl, by intro w hS; go_simp⟩) hHeld ?_
      try simp only [Act.put, List.setIfInBounds_toArray, List.set_cons_zero, List.set_cons_succ]
      refine wpAnyH_take (i := 5) (oi := { dst := some 86, op := Op.fieldAddr 43 (Operand.tmp 19) 3, type := 0, pos := "law.go:576", after := #[{ on := 4, ground := Ground.guard }], guard := some (4, false) }) (v := .pointer (some ⟨w10.heap.size, 3, none⟩)) rfl (by kernel_rfl) (by kernel_rfl) (by kernel_rfl) (fun _ _ _ h => h) (Or.inl ⟨by rfl, by intro w hS; go_simp⟩) hHeld ?_
      try simp only [Act.put, List.setIfInBounds_toArray, List.set_cons_zero, List.set_cons_succ]
      refine wpAnyH_take (i := 6) (oi := { dst := some 87, op := Op.load 3 (Operand.tmp 86), type := 3, pos := "law.go:576", after := #[{ on := 5, ground := Ground.data }, { on := 4, ground := Ground.guard }], guard := some (4, false) }) (v := .int .i64 u3) rfl (by kernel_rfl) (by kernel_rfl) (by kernel_rfl) (fun _ _ _ h => h) (Or.inl ⟨by rfl, by intro w hS; have hc := ((hS.cell (p := ⟨w10.heap.size, 3, none⟩) HUB.out).trans HU34.out.1); go_simp⟩) hHeld ?_
      try simp only [Act.put, List.setIfInBounds_toArray, List.set_cons_zero, List.set_cons_succ]
      refine wpAnyH_take (i := 7) (oi := { dst := some 88, op := Op.binOp BinOp.lss 3 (Operand.tmp 87) (Operand.const (Value.int IntKind.i64 0)) 3, type := 4, pos := "law.go:576", after := #[{ on := 6, ground := Ground.data }, { on := 4, ground := Ground.guard }], guard := some (4, false) }) (v := .bool false) rfl (by kernel_rfl) (by kernel_rfl) (by kernel_rfl) (fun _ _ _ h => h) (Or.inl ⟨by rfl, by intro w hS; (go_simp; all_goals first | omega | (simp; omega))⟩) hHeld ?_
      try simp only [Act.put, List.setIfInBounds_toArray, List.set_cons_zero, List.set_cons_succ]
      refine wpAnyH_take (i := 8) (oi := { dst := some 89, op := Op.pick (Operand.tmp 85) (Operand.const (Value.bool true)) (Operand.tmp 88), type := 4, pos := "law.go:576", after := #[{ on := 4, ground := Ground.data }, { on := 7, ground := Ground.data }], guard := none }) (v := .bool false) rfl (by kernel_rfl) (by kernel_rfl) (by kernel_rfl) (fun _ _ _ h => h) (Or.inl ⟨by rfl, by intro w hS; go_simp⟩) hHeld ?_
      try simp only [Act.put, List.setIfInBounds_toArray, List.set_cons_zero, List.set_cons_succ]
      refine wpAnyH_take (i := 9) (oi := { dst := some 90, op := Op.move (Operand.tmp 89), type := 4, pos := "law.go:576", after := #[{ on := 8, ground := Ground.data }, { on := 4, ground := Ground.chain }], guard := none }) (v := .bool false) rfl (by kernel_rfl) (by kernel_rfl) (by kernel_rfl) (fun _ _ _ h => h) (Or.inl ⟨by rfl, by intro w hS; go_simp⟩) hHeld ?_
      try simp only [Act.put, List.setIfInBounds_toArray, List.set_cons_zero, List.set_cons_succ]
      refine wpAnyH_take (i := 10) (oi := { dst := some 91, op := Op.fieldAddr 43 (Operand.tmp 19) 4, type := 0, pos := "law.go:576", after := #[{ on := 9, ground := Ground.guard }], guard := some (9, false) }) (v := .pointer (some ⟨w10.heap.size, 4, none⟩)) rfl (by kernel_rfl) (by kernel_rfl) (by kernel_rfl) (fun _ _ _ h => h) (Or.inl ⟨by rfl, by intro w hS; go_simp⟩) hHeld ?_
      try simp only [Act.put, List.setIfInBounds_toArray, List.set_cons_zero, List.set_cons_succ]
      refine wpAnyH_take (i := 12) (oi := { dst := some 93, op := Op.move (Operand.tmp 11), type := 27, pos := "law.go:576", after := #[{ on := 9, ground := Ground.guard }], guard := some (9, false) }) (v := .pointer (some ⟨st, 0, none⟩)) rfl (by kernel_rfl) (by kernel_rfl) (by kernel_rfl) (fun _ _ _ h => h) (Or.inl ⟨by rfl, by intro w hS; go_simp⟩) hHeld ?_
      try simp only [Act.put, List.setIfInBounds_toArray, List.set_cons_zero, List.set_cons_succ]
      refine wpAnyH_take (i := 11) (oi := { dst := some 92, op := Op.load 3 (Operand.tmp 91), type := 3, pos := "law.go:576", after := #[{ on := 10, ground := Ground.data }, { on := 9, ground := Ground.guard }], guard := some (9, false) }) (v := .int .i64 sg2) rfl (by kernel_rfl) (by kernel_rfl) (by kernel_rfl) (fun _ _ _ h => h) (Or.inl ⟨by rfl, by intro w hS; have hc := ((hS.cell (p := ⟨w10.heap.size, 4, none⟩) HUB.out).trans HU34.out.2); go_simp⟩) hHeld ?_
      try simp only [Act.put, List.setIfInBounds_toArray, List.set_cons_zero, List.set_cons_succ]
      refine wpAnyH_ready (rs := [13]) (by kernel_rfl) (by simp) ?_
      refine (AllReadyH.cons (o := { dst := some 94, op := Op.call { callee := Callee.value (Operand.func 10), args := #[Operand.tmp 93], argTypes := #[27] }, type := 3, pos := "law.go:576", after := #[{ on := 12, ground := Ground.data }, { on := 9, ground := Ground.chain }, { on := 9, ground := Ground.guard }], guard := some (9, false) }) rfl (fun K hK => ?_) AllReadyH.nil)
      go_simp
      go_at_call 10
      refine (HS2.out _ (HB13.out.trans (hHeld.mono HB13.out.size))).mono ?_
      rintro e w4 ⟨rfl, rfl⟩
      go_wp2_with fail
      refine hK.out _ _ (hHeld) (fun hHeld2 => ?_)
      clear hK K hHeld
      have hHeld := hHeld2
      clear hHeld2
      try simp only [Act.put, List.setIfInBounds_toArray, List.set_cons_zero, List.set_cons_succ]
      refine wpAnyH_take (i := 14) (oi := { dst := some 95, op := Op.binOp BinOp.neq 3 (Operand.tmp 92) (Operand.tmp 94) 3, type := 4, pos := "law.go:576", after := #[{ on := 11, ground := Ground.data }, { on := 13, ground := Ground.data }, { on := 9, ground := Ground.guard }], guard := some (9, false) }) (v := .bool false) rfl (by kernel_rfl) (by kernel_rfl) (by kernel_rfl) (fun _ _ _ h => h) (Or.inl ⟨by rfl, by intro w hS; (go_simp; all_goals first | omega | (simp; omega))⟩) hHeld ?_
      try simp only [Act.put, List.setIfInBounds_toArray, List.set_cons_zero, List.set_cons_succ]
      refine wpAnyH_take (i := 15) (oi := { dst := some 96, op := Op.pick (Operand.tmp 90) (Operand.const (Value.bool true)) (Operand.tmp 95), type := 4, pos := "law.go:576", after := #[{ on := 9, ground := Ground.data }, { on := 14, ground := Ground.data }], guard := none }) (v := .bool false) rfl (by kernel_rfl) (by kernel_rfl) (by kernel_rfl) (fun _ _ _ h => h) (Or.inl ⟨by rfl, by intro w hS; go_simp⟩) hHeld ?_
      try simp only [Act.put, List.setIfInBounds_toArray, List.set_cons_zero, List.set_cons_succ]
      refine wpAnyH_take (i := 16) (oi := { dst := some 97, op := Op.move (Operand.tmp 96), type := 4, pos := "law.go:576", after := #[{ on := 15, ground := Ground.data }, { on := 13, ground := Ground.chain }], guard := none }) (v := .bool false) rfl (by kernel_rfl) (by kernel_rfl) (by kernel_rfl) (fun _ _ _ h => h) (Or.inl ⟨by rfl, by intro w hS; go_simp⟩) hHeld ?_
      try simp only [Act.put, List.setIfInBounds_toArray, List.set_cons_zero, List.set_cons_succ]
      refine wpAnyH_take (i := 17) (oi := { dst := some 98, op := Op.move (Operand.tmp 11), type := 27, pos := "law.go:576", after := #[{ on := 16, ground := Ground.guard }], guard := some (16, false) }) (v := .pointer (some ⟨st, 0, none⟩)) rfl (by kernel_rfl) (by kernel_rfl) (by kernel_rfl) (fun _ _ _ h => h) (Or.inl ⟨by rfl, by intro w hS; go_simp⟩) hHeld ?_
      try simp only [Act.put, List.setIfInBounds_toArray, List.set_cons_zero, List.set_cons_succ]
      refine wpAnyH_take (i := 19) (oi := { dst := some 100, op := Op.move (Operand.tmp 11), type := 27, pos := "law.go:576", after := #[{ on := 16, ground := Ground.guard }], guard := some (16, false) }) (v := .pointer (some ⟨st, 0, none⟩)) rfl (by kernel_rfl) (by kernel_rfl) (by kernel_rfl) (fun _ _ _ h => h) (Or.inl ⟨by rfl, by intro w hS; go_simp⟩) hHeld ?_
      try simp only [Act.put, List.setIfInBounds_toArray, List.set_cons_zero, List.set_cons_succ]
      refine wpAnyH_take (i := 22) (oi := { dst := some 103, op := Op.move (Operand.tmp 11), type := 27, pos := "law.go:576", after := #[{ on := 16, ground := Ground.guard }], guard := some (16, false) }) (v := .pointer (some ⟨st, 0, none⟩)) rfl (by kernel_rfl) (by kernel_rfl) (by kernel_rfl) (fun _ _ _ h => h) (Or.inl ⟨by rfl, by intro w hS; go_simp⟩) hHeld ?_
      try simp only [Act.put, List.setIfInBounds_toArray, List.set_cons_zero, List.set_cons_succ]
      refine wpAnyH_ready (rs := [18]) (by kernel_rfl) (by simp) ?_
      refine (AllReadyH.cons (o := { dst := some 99, op := Op.call { callee := Callee.value (Operand.func 12), args := #[Operand.tmp 98], argTypes := #[27] }, type := 3, pos := "law.go:576", after := #[{ on := 17, ground := Ground.data }, { on := 16, ground := Ground.chain }, { on := 16, ground := Ground.guard }], guard := some (16, false) }) rfl (fun K hK => ?_) AllReadyH.nil)
      go_simp
      go_at_call 12
      refine (HN2.out _ (HB13.out.trans (hHeld.mono HB13.out.size))).mono ?_
      rintro e w4 ⟨rfl, hb4⟩
      go_wp2_with fail
      refine hK.out _ _ (hHeld.trans (hb4.mono hHeld.size)) (fun hHeld2 => ?_)
      clear hK K hHeld
      have hHeld := hHeld2
      clear hHeld2
      clear hb4
      try simp only [Act.put, List.setIfInBounds_toArray, List.set_cons_zero, List.set_cons_succ]
      refine wpAnyH_ready (rs := [20]) (by kernel_rfl) (by simp) ?_
      refine (AllReadyH.cons (o := { dst := some 101, op := Op.call { callee := Callee.value (Operand.func 13), args := #[Operand.tmp 100], argTypes := #[27] }, type := 56, pos := "law.go:576", after := #[{ on := 19, ground := Ground.data }, { on := 18, ground := Ground.chain }, { on := 16, ground := Ground.guard }], guard := some (16, false) }) rfl (fun K hK => ?_) AllReadyH.nil)
      go_simp
      go_at_call 13
      refine (HU2.out _ (HB13.out.trans (hHeld.mono HB13.out.size))).mono ?_
      rintro e w4 ⟨rfl, hb4⟩
      go_wp2_with fail
      refine hK.out _ _ (hHeld.trans (hb4.mono hHeld.size)) (fun hHeld2 => ?_)
      clear hK K hHeld
      have hHeld := hHeld2
      clear hHeld2
      clear hb4
      try simp only [Act.put, List.setIfInBounds_toArray, List.set_cons_zero, List.set_cons_succ]
      refine wpAnyH_take (i := 21) (oi := { dst := some 102, op := Op.field 56 (Operand.tmp 101) 2, type := 3, pos := "law.go:576", after := #[{ on := 20, ground := Ground.data }, { on := 16, ground := Ground.guard }], guard := some (16, false) }) (v := .int .i64 ma) rfl (by kernel_rfl) (by kernel_rfl) (by kernel_rfl) (fun _ _ _ h => h) (Or.inl ⟨by rfl, by intro w hS; go_simp; rw [fieldSu]; rfl⟩) hHeld ?_
      try simp only [Act.put, List.setIfInBounds_toArray, List.set_cons_zero, List.set_cons_succ]
      refine wpAnyH_ready (rs := [23]) (by kernel_rfl) (by simp) ?_
      refine (AllReadyH.cons (o := { dst := some 104, op := Op.call { callee := Callee.value (Operand.func 10), args := #[Operand.tmp 103], argTypes := #[27] }, type := 3, pos := "law.go:576", after := #[{ on := 22, ground := Ground.data }, { on := 20, ground := Ground.chain }, { on := 16, ground := Ground.guard }], guard := some (16, false) }) rfl (fun K hK => ?_) AllReadyH.nil)
      go_simp
      go_at_call 10
      refine (HS2.out _ (HB13.out.trans (hHeld.mono HB13.out.size))).mono ?_
      rintro e w4 ⟨rfl, rfl⟩
      go_wp2_with fail
      refine hK.out _ _ (hHeld) (fun hHeld2 => ?_)
      clear hK K hHeld
      have hHeld := hHeld2
      clear hHeld2
      try simp only [Act.put, List.setIfInBounds_toArray, List.set_cons_zero, List.set_cons_succ]
      refine wpAnyH_take (i := 24) (oi := { dst := some 105, op := Op.binOp BinOp.add 3 (Operand.tmp 102) (Operand.tmp 104) 3, type := 3, pos := "law.go:576", after := #[{ on := 21, ground := Ground.data }, { on := 23, ground := Ground.data }, { on := 16, ground := Ground.guard }], guard := some (16, false) }) (v := .int .i64 (ma + sg2)) rfl (by kernel_rfl) (by kernel_rfl) (by kernel_rfl) (fun _ _ _ h => h) (Or.inl ⟨by rfl, by intro w hS; (go_simp; all_goals exact wrap_i64_id _ (by omega) (by omega))⟩) hHeld ?_
      try simp only [Act.put, List.setIfInBounds_toArray, List.set_cons_zero, List.set_cons_succ]
      refine wpAnyH_take (i := 25) (oi := { dst := some 106, op := Op.binOp BinOp.neq 3 (Operand.tmp 99) (Operand.tmp 105) 3, type := 4, pos := "law.go:576", after := #[{ on := 18, ground := Ground.data }, { on := 24, ground := Ground.data }, { on := 16, ground := Ground.guard }], guard := some (16, false) }) (v := .bool false) rfl (by kernel_rfl) (by kernel_rfl) (by kernel_rfl) (fun _ _ _ h => h) (Or.inl ⟨by rfl, by intro w hS; (go_simp; all_goals first | omega | (simp; omega))⟩) hHeld ?_
      try simp only [Act.put, List.setIfInBounds_toArray, List.set_cons_zero, List.set_cons_succ]
      refine wpAnyH_take (i := 26) (oi := { dst := some 107, op := Op.pick (Operand.tmp 97) (Operand.const (Value.bool true)) (Operand.tmp 106), type := 4, pos := "law.go:576", after := #[{ on := 16, ground := Ground.data }, { on := 25, ground := Ground.data }], guard := none }) (v := .bool false) rfl (by kernel_rfl) (by kernel_rfl) (by kernel_rfl) (fun _ _ _ h => h) (Or.inl ⟨by rfl, by intro w hS; go_simp⟩) hHeld ?_
      try simp only [Act.put, List.setIfInBounds_toArray, List.set_cons_zero, List.set_cons_succ]
      refine wpAnyH_done (by kernel_rfl) ?_ _
      refine NoPanic.normal ?_
      have HLI2 := hid (HLI.out _ (HB13.out.trans (hHeld.mono HB13.out.size)))
      obtain ⟨q0, a0, ⟨d0, d1, d2⟩, ⟨f0c, f1c, f2c⟩, ⟨v0, v1, v2, v3, v4⟩, ⟨g0, g1, g2, g3⟩⟩ := HCL.out _ hHeld
      clear HCL HLI hHeld HU34 HUB HU2 HN2 HS2 HB13 HSZ
      clear HOO HON HSKIP HSRC HLOW H8 HZL HOFF HBB HSt HSp HWg rj2
      by_cases hE : E = 0
      · subst hE
        by_cases hk2 : kd = 2
        · subst hk2
          have z1 := N5.out rfl rfl
          have z2 := N67.out.2 (by omega)
          clear N5 N67
          go_wp2
          go_roundw
          case rel => exact ⟨j + 1, by omega, by go_num, HLI2.out⟩
          case measure => simp [intOf]; omega
        by_cases hk5 : kd = 5
        · subst hk5
          have z2 := N67.out.1 rfl rfl
          clear N5 N67
          go_wp2
          go_roundw
          case rel => exact ⟨j + 1, by omega, by go_num, HLI2.out⟩
          case measure => simp [intOf]; omega
        have z2 := N67.out.2 (by omega)
        clear N5 N67
        go_wp2
        go_roundw
        case rel => exact ⟨j + 1, by omega, by go_num, HLI2.out⟩
        case measure => simp [intOf]; omega
      · have z2 := N67.out.2 (by omega)
        clear N5 N67
        by_cases hk2 : kd = 2
        · subst hk2
          go_wp2
          go_roundw
          case rel => exact ⟨j + 1, by omega, by go_num, HLI2.out⟩
          case measure => simp [intOf]; omega
        by_cases hk5 : kd = 5
        · subst hk5
          go_wp2
          go_roundw
          case rel => exact ⟨j + 1, by omega, by go_num, HLI2.out⟩
          case measure => simp [intOf]; omega
        go_wp2
        go_roundw
        case rel => exact ⟨j + 1, by omega, by go_num, HLI2.out⟩
        case measure => simp [intOf]; omega
    · obtain rfl : m = j := by omega
      clear hlt'
      obtain ⟨_, _, _, _, _, _, _, _, _, _, hB⟩ := hLI
      rw [HBASE.out] at hB
      go_wp2
      go_ret
      exact ⟨rfl, hB⟩
end Go.Proofs.Ytihkjfbhmlfonaa
