import Derived.Test.YtcifbnldohmbnabXb
import Derived.Test.YtcifbnldohmbnabOc
namespace Go.Proofs.Ytcifbnldohmbnab
set_option linter.unusedVariables false
set_option linter.unusedSimpArgs false
open Go.RowKit
attribute [local go_sem ↓] Go.wp_at_zero Go.wp_at_succ

theorem O_tail {w W0 : World} {g t : Nat} {fr : Nat × Nat} {m : MO} {p : BOp} (h : w.heap[g]? = some (.cells (encO m).toArray t fr)) (hm : SaysO W0 m p) : w.cell? ⟨g, 67, none⟩ = some m.cv ∧ w.cell? ⟨g, 68, none⟩ = some m.dv := by
  have hl : (ints .u8 m.a).length = 32 := by rw [ints_len, hm.a, hm.la]
  have hl2 : (ints .u8 m.b).length = 32 := by rw [ints_len, hm.b, hm.lb]
  refine ⟨?_, ?_⟩
  all_goals
    rw [cell_of_row _ _ _ _ _ _ h, List.getElem?_toArray]
    simp only [encO, List.singleton_append, List.getElem?_cons_succ]
    rw [List.getElem?_append_right (by omega), hl, List.getElem?_append_right (by omega), hl2]; rfl
theorem fK_ok (rs : List RC) : (rs.map fun x => (x.1, fK x.2)).map rmV = rs.map rmV := by
  rw [List.map_map]; apply List.map_congr_left; intro x _; simp [rmV, fK]
theorem fV_ok (rs : List RC) : (rs.map fun x => (x.1, fV x.2)).map rmV = rs.map rmV := by
  rw [List.map_map]; apply List.map_congr_left; intro x _; simp [rmV, fV]
theorem Fr.ownS {w w1 : World} {base hi g h b : Nat} {rs : List RC} {vv : Value} {vs : List Value} (f : Fr w w1 base g rs) (r : Room w base hi g h rs) (o : OwnS w b vv vs) : OwnS w1 b vv vs := o.of_heap fun q hq => by
  obtain ⟨_, _, y, hy⟩ := o.heap q hq
  exact f.oth q (fun e => ne_of_type hy r.row (by decide) e) (fun x hx e => ne_of_type (r.val x hx) hy (by decide) e)
theorem Fr.up {w w1 : World} {b1 h1 g1 k1 b2 h2 g2 k2 : Nat} {rs rt : List RC} (f : Fr w w1 b1 g1 rs) (r : Room w b1 h1 g1 k1 rs) (s : Room w b2 h2 g2 k2 rt) (hh : h1 ≤ b2) : Room w1 b2 h2 g2 k2 rt := s.keep fun k q1 _ _ => f.oth k (by have := r.top.1; omega) (fun x hx e => by have := r.top.2.2 x hx; omega)
theorem Fr.down {w w1 : World} {b1 h1 g1 k1 b2 h2 g2 k2 : Nat} {rs rt : List RC} (f : Fr w w1 b2 g2 rt) (r : Room w b1 h1 g1 k1 rs) (s : Room w b2 h2 g2 k2 rt) (hh : h1 ≤ b2) : Room w1 b1 h1 g1 k1 rs := r.keep fun k _ q1 _ => f.oth k (by have := s.bas.1; omega) (fun x hx e => by have := s.bas.2.2 x hx; omega)
theorem Room.okc {w : World} {base hi g h : Nat} {rs : List RC} (r : Room w base hi g h rs) : ∀ c ∈ rs.map Prod.snd, OkC c := fun c hc => by
  obtain ⟨x, hx, rfl⟩ := List.mem_map.1 hc
  exact r.ok x hx
theorem cc_to {w : World} {cs : List Chg} {sp : Option Addr} {cap b o n : Nat} {ms : List MC} (hC : Chs w sp cap cs b o ms) (ok : ∀ c ∈ cs, OkC c) (hl : cs.length = n) (hn : n ≤ 2199023255488) :
    Calls Try.prog 22 #[.slice sp n cap] w fun e w' => ∃ sa ca ba ma, e = .returned (.slice sa n ca) ∧ Chs w' sa ca cs ba 0 ma ∧ Below w.heap.size w w' := by
  have := copyChanges_any w cs sp cap b o ms hC (fun c hc => (ok c hc).2.2.2) (by omega)
  rw [hl] at this
  refine this.mono ?_
  rintro e w' ⟨v, rfl, hM, hb⟩
  obtain ⟨sa, ca, ba, ma, rfl, hc, _⟩ := hM.chs
  exact ⟨sa, ca, ba, ma, by rw [hl], hc, hb⟩
theorem ask_to {kind : Int} (HA : AskedOk kind) {w : World} {A B : List Chg} {s1 s2 s3 s4 : Option Addr} {c1 c2 c3 c4 b1 b2 b3 b4 o1 o2 o3 o4 n1 n2 : Nat} {m1 m2 m3 m4 : List MC} (h1 : Chs w s1 c1 A b1 o1 m1) (h2 : Chs w s2 c2 B b2 o2 m2) (h3 : Chs w s3 c3 A b3 o3 m3) (h4 : Chs w s4 c4 B b4 o4 m4) (okA : ∀ c ∈ A, OkC c) (okB : ∀ c ∈ B, OkC c) (hl1 : A.length = n1) (hl2 : B.length = n2) :
    Calls Try.prog 23 #[.int .i64 kind, .slice s1 n1 c1, .slice s2 n2 c2, .slice s3 n1 c3, .slice s4 n2 c4] w fun e w' => e = .returned (.bool true) ∧ Below w.heap.size w w' := by
  have := HA w A B s1 s2 s3 s4 c1 c2 c3 c4 b1 b2 b3 b4 o1 o2 o3 o4 m1 m2 m3 m4 h1 h2 h3 h4 okA okB
  rwa [hl1, hl2] at this
theorem are_to {w : World} {base hi g h n : Nat} {rs : List RC} (hr : Room w base hi g h rs) {vv : Value} (hv : OwnS w base vv (rs.map rmV)) {sp : Option Addr} {cap b o : Nat} {ms : List MC} (hC : Chs w sp cap (rs.map Prod.snd) b o ms) (hl : rs.length = n) :
    Calls Try.prog 24 #[.slice (some ⟨g, 0, none⟩) (n + 2) (n + 2), vv, .slice sp n cap] w fun e w' => e = .returned (.bool true) ∧ Below w.heap.size w w' := by
  have := roomyAre_any w base hi g h rs hr vv hv sp cap b o ms hC
  rwa [hl] at this
theorem turnK_to {w : World} {base hi g h n : Nat} {rs : List RC} (hr : Room w base hi g h rs) (hl : rs.length = n) :
    Calls Try.prog 21 #[.slice (some ⟨g, 0, none⟩) n (n + 2), .bool false] w fun e w' => e = .returned (.tuple #[]) ∧ Room w' base hi g h (rs.map fun x => (x.1, fK x.2)) ∧ Fr w w' base g rs := by
  have := turnedK_any w base hi g h rs hr
  rwa [hl] at this
theorem turnV_to {w : World} {base hi g h n : Nat} {rs : List RC} (hr : Room w base hi g h rs) (hl : rs.length = n) :
    Calls Try.prog 21 #[.slice (some ⟨g, 0, none⟩) n (n + 2), .bool true] w fun e w' => e = .returned (.tuple #[]) ∧ Room w' base hi g h (rs.map fun x => (x.1, fV x.2)) ∧ Fr w w' base g rs := by
  have := turnedV_any w base hi g h rs hr
  rwa [hl] at this
theorem chs_n {w : World} {base hi g h n : Nat} {rs : List RC} (hr : Room w base hi g h rs) (hl : rs.length = n) : Chs w (some ⟨g, 0, none⟩) (n + 2) (rs.map Prod.snd) g 0 (rs.map rmM) := by
  have := hr.chs
  rwa [hl] at this
/-- The two lists with room and what else stays. -/
structure Two (w wr : World) (M G1 G2 G3 h1 h2 n1 n2 : Nat) (v1 v2 : Value) (box : Obj) (rs rt : List RC) : Prop where
  r1 : Room wr G1 G2 G1 h1 rs
  r2 : Room wr G2 G3 G2 h2 rt
  o1 : OwnS wr G1 v1 (rs.map rmV)
  o2 : OwnS wr G2 v2 (rt.map rmV)
  l1 : rs.length = n1
  l2 : rt.length = n2
  bx : wr.heap[M]? = some box
  bel : Below M w wr
  mg : M < G1
theorem Two.below {w wr w1 : World} {M G1 G2 G3 h1 h2 n1 n2 : Nat} {v1 v2 : Value} {box : Obj} {rs rt : List RC} (t : Two w wr M G1 G2 G3 h1 h2 n1 n2 v1 v2 box rs rt) (hb : Below wr.heap.size wr w1) : Two w w1 M G1 G2 G3 h1 h2 n1 n2 v1 v2 box rs rt :=
  ⟨t.r1.below hb, t.r2.below hb, t.o1.below hb, t.o2.below hb, t.l1, t.l2, hbel hb t.bx (hlt_ t.bx), t.bel.trans (hb.mono (Nat.le_of_lt (hlt_ t.bx))), t.mg⟩
theorem Two.turn1 {w wr w1 : World} {M G1 G2 G3 h1 h2 n1 n2 : Nat} {v1 v2 : Value} {box : Obj} {rs rt : List RC} (t : Two w wr M G1 G2 G3 h1 h2 n1 n2 v1 v2 box rs rt) (f : RC → RC) (hf : (rs.map f).map rmV = rs.map rmV) (r : Room w1 G1 G2 G1 h1 (rs.map f)) (fr : Fr wr w1 G1 G1 rs) : Two w w1 M G1 G2 G3 h1 h2 n1 n2 v1 v2 box (rs.map f) rt :=
  ⟨r, fr.up t.r1 t.r2 (Nat.le_refl _), by rw [hf]; exact fr.ownS t.r1 t.o1, fr.ownS t.r1 t.o2, by rw [List.length_map]; exact t.l1, t.l2, (fr.bel.block M t.mg).trans t.bx, t.bel.trans (fr.bel.mono (Nat.le_of_lt t.mg)), t.mg⟩
theorem Two.turn2 {w wr w1 : World} {M G1 G2 G3 h1 h2 n1 n2 : Nat} {v1 v2 : Value} {box : Obj} {rs rt : List RC} (t : Two w wr M G1 G2 G3 h1 h2 n1 n2 v1 v2 box rs rt) (f : RC → RC) (hf : (rt.map f).map rmV = rt.map rmV) (r : Room w1 G2 G3 G2 h2 (rt.map f)) (fr : Fr wr w1 G2 G2 rt) : Two w w1 M G1 G2 G3 h1 h2 n1 n2 v1 v2 box rs (rt.map f) :=
  have hg : M < G2 := Nat.lt_trans t.mg t.r1.top.1
  ⟨fr.down t.r1 t.r2 (Nat.le_refl _), r, fr.ownS t.r2 t.o1, by rw [hf]; exact fr.ownS t.r2 t.o2, t.l1, by rw [List.length_map]; exact t.l2, (fr.bel.block M hg).trans t.bx, t.bel.trans (fr.bel.mono (Nat.le_of_lt hg)), t.mg⟩
set_option maxRecDepth 100000 in
set_option maxHeartbeats 4000000 in
theorem listsPlay_any (w W0 : World) (m : MO) (p : BOp) (hm : SaysO W0 m p) (hW0 : Below W0.heap.size W0 w) (HA0 : AskedOk p.kind) :
    Calls Try.prog 12 #[.agg (encO m).toArray] w fun e w' => e = .returned (.bool true) ∧ Below w.heap.size w w' := by
  have g1 := hnew w (.cells (encO m).toArray 30)
  have hb0 : Below w.heap.size w (w.alloc (.cells (encO m).toArray 30)) := (Below.refl _ _).alloc (Nat.le_refl _) _
  have hs0 : (w.alloc (.cells (encO m).toArray 30)).heap.size = w.heap.size + 1 := by simp
  have HBX := hid (fun (w' : World) (h : w'.heap[w.heap.size]? = some (.cells (encO m).toArray 30)) => (⟨O_k h hm, (O_tail h hm).1, (O_tail h hm).2⟩ : w'.cell? ⟨w.heap.size, 0, none⟩ = some (.int .i64 p.kind) ∧ w'.cell? ⟨w.heap.size, 67, none⟩ = some m.cv ∧ w'.cell? ⟨w.heap.size, 68, none⟩ = some m.dv))
  obtain ⟨sc, cc, bc, oc, mc, hcv, hC, okC, lenC⟩ := hm.cv
  obtain ⟨sd, cd, bd, od, md, hdv, hD, okD, lenD⟩ := hm.dv
  rw [hcv, hdv] at HBX
  have hC1 := (hC.below hW0).below hb0
  have hD1 := (hD.below hW0).below hb0
  have HA := hid HA0
  clear HA0 hC hD
  obtain ⟨x0, x1, x2⟩ := HBX.out _ g1
  have LC := hid lenC
  have LD := hid lenD
  have in1 : (p.cs.length : Int) ≤ 2199023255488 := by omega
  have in2 : (p.ds.length : Int) ≤ 2199023255488 := by omega
  clear hm hW0 hcv hdv
  have K1 := hid (roomyChanges_any _ p.cs sc cc bc oc mc hC1 okC lenC)
  generalize hn1 : p.cs.length = n1 at *
  generalize hn2 : p.ds.length = n2 at *
  have HN1 := hid hn1
  have HN2 := hid hn2
  clear hn1 hn2 lenC lenD
  generalize p.kind = kind at *
  go_enter Try.func12, Try.ntmps12
  go_wp2_with fail
  refine K1.out.mono ?_
  rintro e w2 ⟨rs, h1, vv1, rfl, hs1, R1, O1, hb1⟩
  clear K1 x0 x1 x2
  have hbel1 : Below w.heap.size w w2 := hb0.trans (hb1.mono (by omega))
  have hbx1 := hbel hb1 g1 (by omega)
  have hD2 := hD1.below hb1
  generalize hG1 : (w.alloc (.cells (encO m).toArray 30)).heap.size = G1 at *
  generalize hM : w.heap.size = M at *
  have HM := hid hM
  clear hM hG1 hb0 hC1 hD1
  obtain ⟨x0, x1, x2⟩ := HBX.out _ hbx1
  have lr1 : rs.length = n1 := by have := congrArg List.length hs1; rw [List.length_map] at this; rw [this]; exact HN1.out
  obtain ⟨sv1, cv1, bv1, hv1, _, _, _, _⟩ := id O1.at
  rw [List.length_map, lr1] at hv1
  subst hv1
  have K2 := roomyChanges_any w2 p.ds sd cd bd od md hD2 okD (by rw [HN2.out]; exact LD.out)
  rw [HN2.out] at K2
  have K2 := hid K2
  clear hD2 hb1 g1
  have hmg : M < G1 := by omega
  clear hs0
  go_wp2_with fail
  refine K2.out.mono ?_
  rintro e w3 ⟨rt, h2, vv2, rfl, hs2, R2, O2, hb2⟩
  clear K2 x0 x1 x2
  have lr2 : rt.length = n2 := by have := congrArg List.length hs2; rw [List.length_map] at this; rw [this]; exact HN2.out
  obtain ⟨sv2, cv2, bv2, hv2, _, _, _, _⟩ := id O2.at
  rw [List.length_map, lr2] at hv2
  subst hv2
  have hT : Two w w3 M G1 w2.heap.size w3.heap.size h1 h2 n1 n2 (.slice sv1 n1 cv1) (.slice sv2 n2 cv2) (.cells (encO m).toArray 30) rs rt :=
    ⟨R1.below hb2, R2, O1.below hb2, O2, lr1, lr2, hbel hb2 hbx1 (hlt_ hbx1), hbel1.trans (hb2.mono (Nat.le_of_lt (hlt_ hbx1))), hmg⟩
  obtain ⟨x0, x1, x2⟩ := HBX.out _ hT.bx
  clear R1 R2 O1 O2 hs1 hs2 lr1 lr2 hb2 hbx1 hbel1 hmg okC okD
  generalize w2.heap.size = G2 at *
  generalize w3.heap.size = G3 at *
  have j1 := hid (show ((n1 : Nat) : Int) ≤ ((n1 + 2 : Nat) : Int) by omega)
  have j2 := hid (show ((n2 : Nat) : Int) ≤ ((n2 + 2 : Nat) : Int) by omega)
  have j3 := hid (show ¬ n1 + 2 = 0 by omega)
  have j4 := hid (show ¬ n2 + 2 = 0 by omega)
  go_wp2_with (first
    | refine wpList_cutTo rfl (.tmp 24) (.tmp 27) rfl G1 0 (n1 + 2) (n1 + 2) n1 rfl rfl j1.out j3.out ?_
    | refine wpList_cutTo rfl (.tmp 29) (.tmp 32) rfl G2 0 (n2 + 2) (n2 + 2) n2 rfl rfl j2.out j4.out ?_)
  go_loopw [9] (fun iv wr => ∃ (i : Nat) (rs rt : List RC), i ≤ 3 ∧ iv = .int .i64 i ∧ Two w wr M G1 G2 G3 h1 h2 n1 n2 (.slice sv1 n1 cv1) (.slice sv2 n2 cv2) (.cells (encO m).toArray 30) rs rt) (fun iv _ => 3 - (intOf iv).toNat)
  case atStart => exact ⟨0, rs, rt, by omega, rfl, hT⟩
  case round =>
  clear hT x0 x1 x2
  obtain ⟨i, rs, rt, hi, rfl, hT⟩ := hrel
  match i, hi with
  | 0, _ =>
    clear hi
    rw [show ((0 : Nat) : Int) = 0 from rfl]
    have K1 := hid (cc_to (chs_n hT.r1 hT.l1) hT.r1.okc (by rw [List.length_map]; exact hT.l1) LC.out)
    go_wp2_with fail
    refine K1.out.mono ?_
    rintro e w4 ⟨sa, ca, ba, ma, rfl, CA, hb⟩
    clear K1
    replace hT := hT.below hb
    clear hb
    have K2 := hid (cc_to (chs_n hT.r2 hT.l2) hT.r2.okc (by rw [List.length_map]; exact hT.l2) LD.out)
    go_wp2_with fail
    refine K2.out.mono ?_
    rintro e w5 ⟨sb, cb, bb, mb, rfl, CB, hb⟩
    clear K2
    replace hT := hT.below hb
    replace CA := CA.below hb
    clear hb
    obtain ⟨x0, x1, x2⟩ := HBX.out _ hT.bx
    have K3 := hid (ask_to (n1 := n1) (n2 := n2) HA.out (chs_n hT.r1 hT.l1) (chs_n hT.r2 hT.l2) CA CB hT.r1.okc hT.r2.okc (by rw [List.length_map]; exact hT.l1) (by rw [List.length_map]; exact hT.l2))
    go_wp2_with fail
    refine K3.out.mono ?_
    rintro e w6 ⟨rfl, hb⟩
    clear K3
    replace hT := hT.below hb
    replace CA := CA.below hb
    replace CB := CB.below hb
    clear hb x0 x1 x2
    have K4 := hid (are_to hT.r1 hT.o1 CA hT.l1)
    go_wp2_with fail
    refine K4.out.mono ?_
    rintro e w7 ⟨rfl, hb⟩
    clear K4
    replace hT := hT.below hb
    replace CB := CB.below hb
    clear hb
    have K5 := hid (are_to hT.r2 hT.o2 CB hT.l2)
    go_wp2_with fail
    refine K5.out.mono ?_
    rintro e w8 ⟨rfl, hb⟩
    clear K5
    replace hT := hT.below hb
    clear hb CA CB
    go_wp2
    go_roundw
    case rel => exact ⟨1, _, _, by omega, rfl, hT⟩
    case measure => simp [intOf]
  | 1, _ =>
    clear hi
    rw [show ((1 : Nat) : Int) = 1 from rfl]
    have K1 := hid (turnV_to hT.r1 hT.l1)
    go_wp2_with fail
    refine K1.out.mono ?_
    rintro e w4 ⟨rfl, hR, hF⟩
    clear K1
    replace hT := hT.turn1 _ (fV_ok rs) hR hF
    clear hR hF
    have K2 := hid (turnV_to hT.r2 hT.l2)
    go_wp2_with fail
    refine K2.out.mono ?_
    rintro e w5 ⟨rfl, hR, hF⟩
    clear K2
    replace hT := hT.turn2 _ (fV_ok rt) hR hF
    clear hR hF
    generalize (rs.map fun x => (x.1, fV x.2)) = rs at *
    generalize (rt.map fun x => (x.1, fV x.2)) = rt at *
    have K3 := hid (cc_to (chs_n hT.r1 hT.l1) hT.r1.okc (by rw [List.length_map]; exact hT.l1) LC.out)
    go_wp2_with fail
    refine K3.out.mono ?_
    rintro e w6 ⟨sa, ca, ba, ma, rfl, CA, hb⟩
    clear K3
    replace hT := hT.below hb
    clear hb
    have K4 := hid (cc_to (chs_n hT.r2 hT.l2) hT.r2.okc (by rw [List.length_map]; exact hT.l2) LD.out)
    go_wp2_with fail
    refine K4.out.mono ?_
    rintro e w7 ⟨sb, cb, bb, mb, rfl, CB, hb⟩
    clear K4
    replace hT := hT.below hb
    replace CA := CA.below hb
    clear hb
    obtain ⟨x0, x1, x2⟩ := HBX.out _ hT.bx
    have K5 := hid (ask_to (n1 := n1) (n2 := n2) HA.out (chs_n hT.r1 hT.l1) (chs_n hT.r2 hT.l2) CA CB hT.r1.okc hT.r2.okc (by rw [List.length_map]; exact hT.l1) (by rw [List.length_map]; exact hT.l2))
    go_wp2_with fail
    refine K5.out.mono ?_
    rintro e w8 ⟨rfl, hb⟩
    clear K5
    replace hT := hT.below hb
    replace CA := CA.below hb
    replace CB := CB.below hb
    clear hb x0 x1 x2
    have K6 := hid (are_to hT.r1 hT.o1 CA hT.l1)
    go_wp2_with fail
    refine K6.out.mono ?_
    rintro e w9 ⟨rfl, hb⟩
    clear K6
    replace hT := hT.below hb
    replace CB := CB.below hb
    clear hb
    have K7 := hid (are_to hT.r2 hT.o2 CB hT.l2)
    go_wp2_with fail
    refine K7.out.mono ?_
    rintro e w10 ⟨rfl, hb⟩
    clear K7
    replace hT := hT.below hb
    clear hb CA CB
    go_wp2
    go_roundw
    case rel => exact ⟨2, _, _, by omega, rfl, hT⟩
    case measure => simp [intOf]
  | 2, _ =>
    clear hi
    rw [show ((2 : Nat) : Int) = 2 from rfl]
    have K1 := hid (turnK_to hT.r1 hT.l1)
    go_wp2_with fail
    refine K1.out.mono ?_
    rintro e w4 ⟨rfl, hR, hF⟩
    clear K1
    replace hT := hT.turn1 _ (fK_ok rs) hR hF
    clear hR hF
    have K2 := hid (turnK_to hT.r2 hT.l2)
    go_wp2_with fail
    refine K2.out.mono ?_
    rintro e w5 ⟨rfl, hR, hF⟩
    clear K2
    replace hT := hT.turn2 _ (fK_ok rt) hR hF
    clear hR hF
    generalize (rs.map fun x => (x.1, fK x.2)) = rs at *
    generalize (rt.map fun x => (x.1, fK x.2)) = rt at *
    have K3 := hid (cc_to (chs_n hT.r1 hT.l1) hT.r1.okc (by rw [List.length_map]; exact hT.l1) LC.out)
    go_wp2_with fail
    refine K3.out.mono ?_
    rintro e w6 ⟨sa, ca, ba, ma, rfl, CA, hb⟩
    clear K3
    replace hT := hT.below hb
    clear hb
    have K4 := hid (cc_to (chs_n hT.r2 hT.l2) hT.r2.okc (by rw [List.length_map]; exact hT.l2) LD.out)
    go_wp2_with fail
    refine K4.out.mono ?_
    rintro e w7 ⟨sb, cb, bb, mb, rfl, CB, hb⟩
    clear K4
    replace hT := hT.below hb
    replace CA := CA.below hb
    clear hb
    obtain ⟨x0, x1, x2⟩ := HBX.out _ hT.bx
    have K5 := hid (ask_to (n1 := n1) (n2 := n2) HA.out (chs_n hT.r1 hT.l1) (chs_n hT.r2 hT.l2) CA CB hT.r1.okc hT.r2.okc (by rw [List.length_map]; exact hT.l1) (by rw [List.length_map]; exact hT.l2))
    go_wp2_with fail
    refine K5.out.mono ?_
    rintro e w8 ⟨rfl, hb⟩
    clear K5
    replace hT := hT.below hb
    replace CA := CA.below hb
    replace CB := CB.below hb
    clear hb x0 x1 x2
    have K6 := hid (are_to hT.r1 hT.o1 CA hT.l1)
    go_wp2_with fail
    refine K6.out.mono ?_
    rintro e w9 ⟨rfl, hb⟩
    clear K6
    replace hT := hT.below hb
    replace CB := CB.below hb
    clear hb
    have K7 := hid (are_to hT.r2 hT.o2 CB hT.l2)
    go_wp2_with fail
    refine K7.out.mono ?_
    rintro e w10 ⟨rfl, hb⟩
    clear K7
    replace hT := hT.below hb
    clear hb CA CB
    go_wp2
    go_roundw
    case rel => exact ⟨3, _, _, by omega, rfl, hT⟩
    case measure => simp [intOf]
  | 3, _ =>
    clear hi
    rw [show ((3 : Nat) : Int) = 3 from rfl]
    go_wp2
    go_ret
    exact ⟨rfl, by rw [HM.out]; exact hT.bel⟩
  | j + 4, hj => exact absurd hj (by omega)
end Go.Proofs.Ytcifbnldohmbnab
