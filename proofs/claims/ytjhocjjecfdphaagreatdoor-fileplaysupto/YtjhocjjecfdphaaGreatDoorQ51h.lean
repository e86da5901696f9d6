import Derived.Test.YtjhocjjecfdphaaGreatDoorQ50h
import Derived.Test.YtjhocjjecfdphaaGreatDoorCards
import Derived.Test.YtjhocjjecfdphaaGreatDoorTie
import Derived.WalkKit
import Derived.ProofKit
import Derived.OpenShut
import Derived.SizedLaws
import Derived.Deep.DeepHandedRow
import Derived.Lib.LaidTab
import Derived.Deep.Slices
namespace Go.Proofs.YtjhocjjecfdphaaGreatDoor
set_option linter.unusedVariables false
set_option linter.unusedSimpArgs false
set_option maxRecDepth 100000
set_option maxHeartbeats 4000000
section
open Go.ChangeShapes Go.WideShapes Go.ChangeAt Go.RowKit
theorem own_knob : ownKnob Tryz.prog.godebug = none := by kernel_rfl
theorem Tryz.laidOut : laidOutB Tryz.prog = true := by kernel_rfl
theorem cells5 : Tryz.prog.cellsOf 5 = 1 := by kernel_rfl
theorem nat_u32' {a : Int} (h : (Lit.int .u32 a).wf = true) : ∃ n : Nat, a = (n : Int) ∧ n < 4294967296 := by
 have := bounds_u32 h
 obtain ⟨n, hn⟩ := Int.eq_ofNat_of_zero_le this.1
 exact ⟨n, hn, by omega⟩
theorem gD : Tryz.prog.globalNamed "ledger/ledgerref2.divisor" = some 0 := by kernel_rfl
theorem gDt : (Tryz.prog.globals[0]?).map (·.type) = some 180 := by kernel_rfl
theorem cells33 : Tryz.prog.cellsOf 180 = 33 := by kernel_rfl
theorem tab1 {W : World} (h : laidMetH Tryz.prog [("ledger/ledgerref2.divisor", Rows.laid_ledger_ledgerref2_divisor)] W) : Gl W := by
 have hD : Lib.TabIs Tryz.prog W "ledger/ledgerref2.divisor" .u8 dvI := by
   obtain ⟨ps, ⟨g1, t1, cs1, f1, p1, q1, hg1, ht1, hv1, hd1, _, _⟩, _⟩ := h
   obtain rfl := Option.some.inj (gD.symm.trans hg1)
   obtain rfl := Option.some.inj (gDt.symm.trans ht1)
   unfold Lib.TabIs
   rw [hv1, ← Lib.cells_of_tab (zs := dvI) Tryz.underlying180 Tryz.underlying5 cells5 cells33 hd1]
 have c : ∀ j, j < 33 → W.cell? ⟨0, j, none⟩ = some (.int .u8 (dvI.getD j 0)) := fun j hj => hD.cell gD j hj
 exact ⟨block_lt_of_cell (c 0 (by omega)), c⟩
def putTab (zs : List Int) : Obj → Obj
 | .cells _ t frozen => .cells (ints .u8 zs).toArray t frozen
 | o => o
noncomputable def laidWorld (os : Os) : World :=
 { World.holding Tryz.prog os ⟨#[], #[], []⟩ with heap := (World.holding Tryz.prog os ⟨#[], #[], []⟩).heap.modify 0 (putTab dvI) }
theorem bulk_bound {H : Type} {l : List (DataW H)} (hk : Rows.uptoSmall H l = true) : Rows.uptoBulkAll l ≤ 1048576 := of_decide_eq_true hk
theorem bulk_lits {H : Type} (k : IntKind) : ∀ zs : List Int, Rows.uptoBulkAll (lits (H := H) k zs) = zs.length
 | [] => by simp [lits, Rows.uptoBulkAll]
 | z :: zs => by have := bulk_lits (H := H) k zs; simp only [lits, List.map_cons, Rows.uptoBulkAll, Rows.uptoBulk, List.length_cons] at this ⊢; omega
theorem cut_at (l : List Value) (n m : Nat) : l.drop n = (l.drop n).take m ++ l.drop (n + m) := by
 have := (List.take_append_drop m (l.drop n)).symm
 rwa [List.drop_drop] at this
theorem trod_one {l : List Value} {n : Nat} (h : n < l.length) : ∃ sv, (l.drop n).take 1 = [sv] := by
 rw [List.take_one, List.head?_drop, List.getElem?_eq_getElem h]; exact ⟨_, rfl⟩
theorem bulk_one {H : Type} (d : DataW H) : 1 ≤ Rows.uptoBulk d := by
 cases d with
 | lit l => cases l <;> simp [Rows.uptoBulk]
 | _ => simp [Rows.uptoBulk]
theorem bulk_mem {H : Type} : ∀ {l : List (DataW H)} {d : DataW H}, d ∈ l → Rows.uptoBulk d ≤ Rows.uptoBulkAll l
 | x :: l, d, hd => by
   simp only [Rows.uptoBulkAll]
   rcases List.mem_cons.1 hd with rfl | h
   · omega
   · have := bulk_mem h; omega
theorem bulk_len {H : Type} : ∀ l : List (DataW H), l.length ≤ Rows.uptoBulkAll l
 | [] => by simp [Rows.uptoBulkAll]
 | x :: l => by have := bulk_len l; have := bulk_one x; simp only [Rows.uptoBulkAll, List.length_cons]; omega
theorem bulk_part {H : Type} {xs : List (DataW H × List MemPlace)} {j : Nat} (hj : j < xs.length) : Rows.uptoBulk (xs[j]).1 ≤ Rows.uptoBulk (.agg (xs.map (·.1))) := by
 have := bulk_mem (List.mem_map.2 ⟨xs[j], List.getElem_mem hj, rfl⟩ : (xs[j]).1 ∈ xs.map (·.1))
 simp only [Rows.uptoBulk]; omega
section
variable {H : Type} {enc : TypeId × Value → H} {W : World}
theorem open_bytesF {fuel : Nat} {v : Value} {d : DataW H} {p : List MemPlace} (hf : DataW.trod enc Tryz.prog W 0 (fun _ => true) true fuel 22 [v] = some (d, p)) :
   ∃ (zs : List Int) (sp : Option Addr) (cap : Nat), v = .slice sp zs.length cap ∧ Byts zs ∧ Src W sp cap zs ∧ (sp = none → cap = 0) ∧ zs.length ≤ Rows.uptoBulk d := by
 rcases open_ints Tryz.underlying22 Tryz.underlying5 cells5 hf with ⟨hcs, hx⟩ | ⟨a, len, cap, zs, hcs, _, hl, hm, hz, hx, hcell, hwz⟩
 · simp at hcs
   subst hcs
   exact ⟨[], none, 0, rfl, fun x hx => by simp at hx, Src.nil W, fun _ => rfl, by simp⟩
 · simp at hcs
   subst hcs
   have hzl : zs.length = cap := by simpa using hz
   have hll : (zs.take len).length = len := by rw [List.length_take]; omega
   refine ⟨zs.take len, some a, cap, by rw [hll], fun x hx => ?_, ⟨by rw [hll]; exact hl, hm, ?_⟩, (fun h => by cases h), ?_⟩
   · have := bounds_u8 (hwz x (List.mem_of_mem_take hx))
     omega
   · rw [hll]
     by_cases hL : 0 < len
     · have hc0 := hcell 0 (by omega)
       have hsp : a.spot = none := by have := World.cell?_spot hc0; unfold Addr.add at this; split at this <;> simp_all
       obtain ⟨b, o, spot⟩ := a
       obtain rfl : spot = none := hsp
       refine ⟨b, o, fun _ => by have := block_lt_of_cell hc0; rwa [Addr.add_mid] at this, fun _ => rfl, fun j hj => ?_⟩
       have := hcell j (by omega)
       rw [Addr.add_mid] at this
       rw [this]
       congr 2
       simp [List.getElem?_take, hj]
     · exact ⟨0, 0, fun h => by omega, fun h => by omega, fun j hj => by omega⟩
   · rw [hll]
     simp only [Prod.mk.injEq] at hx
     rw [hx.1]
     simp only [Rows.uptoBulk, bulk_lits]
     omega
theorem open_start {fuel : Nat} {nd : List Value} {d : DataW H} {p : List MemPlace} (hnl : nd.length = 2) (hf : DataW.trod enc Tryz.prog W 0 (fun _ => true) true fuel 24 nd = some (d, p)) :
   ∃ (z : Int) (zs : List Int) (sp : Option Addr) (cap : Nat), nd = [.int .i64 z, .slice sp zs.length cap] ∧ Byts zs ∧ Src W sp cap zs ∧ (sp = none → cap = 0) ∧ zs.length ≤ Rows.uptoBulk d := by
 obtain ⟨xs, k, _, hxy, _, hxl, hfd⟩ := DataW.trod_struct Tryz.underlying24 hf
 have hxl' : xs.length = 2 := hxl
 simp only [Prod.mk.injEq] at hxy
 have g0 : DataW.trod enc Tryz.prog W 0 (fun _ => true) true k 3 ((nd.drop 0).take 1) = some xs[0] := by
   have := hfd 0 _ rfl
   rw [List.getElem?_eq_getElem (by omega)] at this
   change DataW.trod enc Tryz.prog W 0 (fun _ => true) true k 3 ((nd.drop 0).take (Tryz.prog.cellsOf 3)) = _ at this
   rw [show Tryz.prog.cellsOf 3 = 1 by kernel_rfl] at this; exact this
 have g1 : DataW.trod enc Tryz.prog W 0 (fun _ => true) true k 22 ((nd.drop 1).take 1) = some xs[1] := by
   have := hfd 1 _ rfl
   rw [List.getElem?_eq_getElem (by omega)] at this
   change DataW.trod enc Tryz.prog W 0 (fun _ => true) true k 22 ((nd.drop 1).take (Tryz.prog.cellsOf 22)) = _ at this
   rw [show Tryz.prog.cellsOf 22 = 1 by kernel_rfl] at this; exact this
 obtain ⟨z0, e0, _, b0⟩ := DataW.trod_int Tryz.underlying3 g0
 obtain ⟨sv, e1⟩ := trod_one (l := nd) (n := 1) (by omega)
 rw [e1] at g1
 obtain ⟨zs, sp, cap, rfl, y, hS, hn, hl⟩ := open_bytesF (d := (xs[1]).1) (p := (xs[1]).2) g1
 have hb := bulk_part (xs := xs) (j := 1) (by omega)
 rw [← hxy.1] at hb
 refine ⟨z0, zs, sp, cap, ?_, y, hS, hn, by omega⟩
 have : nd = [.int .i64 z0] ++ ([.slice sp zs.length cap] ++ nd.drop 2) := by
   rw [← e0, ← e1, ← cut_at nd 1 1, ← cut_at nd 0 1]; rfl
 rw [List.drop_of_length_le (by omega : nd.length ≤ 2)] at this
 exact this
def zOL : OL := ⟨⟨0, 0, 0, false, 0, 0, [], 0⟩, none, 0⟩
theorem open_xops {fuel : Nat} {v : Value} {d : DataW H} {p : List MemPlace} (hb : Rows.uptoBulk d ≤ 1048576) (hf : DataW.trod enc Tryz.prog W 0 (fun _ => true) true fuel 25 [v] = some (d, p)) :
   ∃ (os : List OL) (sp : Option Addr) (cap : Nat), v = .slice sp os.length cap ∧ OpsIn W sp os ∧ os.length ≤ 1048576 := by
 rcases Deep.open_slice Tryz.underlying25 hf with ⟨hcs, hx⟩ | ⟨a, len, cap, m, n, D, Pl, hcs, _, hl, hm, hmm, hx, hrow⟩
 · simp at hcs
   subst hcs
   exact ⟨[], none, 0, rfl, ⟨0, 0, fun h => by simp at h, fun i x hi => by simp at hi⟩, by decide⟩
 · simp at hcs
   subst hcs
   simp only [Prod.mk.injEq] at hx
   obtain ⟨rfl, _⟩ := hx
   simp only [if_true] at hmm
   subst hmm
   simp only [Rows.uptoBulk] at hb
   have hlm : len ≤ 1048576 := by
     have := bulk_len ((List.range len).map D)
     simp only [List.length_map, List.length_range] at this
     omega
   have each : ∀ i, i < len → ∃ q : OL, (∀ j u, q.L[j]? = some u → W.cell? (a.add (i * 8 + j)) = some u) ∧ OpOk W q.o q.sp q.cap ∧ (∀ x, 0 < q.o.raw.length → q.sp = some x → x.block < W.heap.size) := by
     intro i hi
     obtain ⟨cs', h1, h2⟩ := hrow i (by omega)
     rw [show Tryz.prog.cellsOf 37 = 8 by kernel_rfl] at h1
     obtain ⟨_, hlen, hcell⟩ := World.cells?_some h1
     obtain ⟨xs, k, hk, hxy, _, hxl, hfd⟩ := DataW.trod_struct Tryz.underlying37 h2
     have hd := bulk_mem (List.mem_map.2 ⟨i, List.mem_range.2 hi, rfl⟩ : D i ∈ (List.range len).map D)
     have hxl' : xs.length = 8 := hxl
     simp only [Prod.mk.injEq] at hxy
     have hb6 := bulk_part (xs := xs) (j := 6) (by omega)
     rw [← hxy.1] at hb6
     have g0 : DataW.trod enc Tryz.prog W 0 (fun _ => true) true k 3 ((cs'.drop 0).take 1) = some xs[0] := by
       have := hfd 0 _ rfl
       rw [List.getElem?_eq_getElem (by omega)] at this
       change DataW.trod enc Tryz.prog W 0 (fun _ => true) true k 3 ((cs'.drop 0).take (Tryz.prog.cellsOf 3)) = _ at this
       rw [show Tryz.prog.cellsOf 3 = 1 by kernel_rfl] at this; exact this
     have g1 : DataW.trod enc Tryz.prog W 0 (fun _ => true) true k 3 ((cs'.drop 1).take 1) = some xs[1] := by
       have := hfd 1 _ rfl
       rw [List.getElem?_eq_getElem (by omega)] at this
       change DataW.trod enc Tryz.prog W 0 (fun _ => true) true k 3 ((cs'.drop 1).take (Tryz.prog.cellsOf 3)) = _ at this
       rw [show Tryz.prog.cellsOf 3 = 1 by kernel_rfl] at this; exact this
     have g2 : DataW.trod enc Tryz.prog W 0 (fun _ => true) true k 3 ((cs'.drop 2).take 1) = some xs[2] := by
       have := hfd 2 _ rfl
       rw [List.getElem?_eq_getElem (by omega)] at this
       change DataW.trod enc Tryz.prog W 0 (fun _ => true) true k 3 ((cs'.drop 2).take (Tryz.prog.cellsOf 3)) = _ at this
       rw [show Tryz.prog.cellsOf 3 = 1 by kernel_rfl] at this; exact this
     have g3 : DataW.trod enc Tryz.prog W 0 (fun _ => true) true k 4 ((cs'.drop 3).take 1) = some xs[3] := by
       have := hfd 3 _ rfl
       rw [List.getElem?_eq_getElem (by omega)] at this
       change DataW.trod enc Tryz.prog W 0 (fun _ => true) true k 4 ((cs'.drop 3).take (Tryz.prog.cellsOf 4)) = _ at this
       rw [show Tryz.prog.cellsOf 4 = 1 by kernel_rfl] at this; exact this
     have g4 : DataW.trod enc Tryz.prog W 0 (fun _ => true) true k 3 ((cs'.drop 4).take 1) = some xs[4] := by
       have := hfd 4 _ rfl
       rw [List.getElem?_eq_getElem (by omega)] at this
       change DataW.trod enc Tryz.prog W 0 (fun _ => true) true k 3 ((cs'.drop 4).take (Tryz.prog.cellsOf 3)) = _ at this
       rw [show Tryz.prog.cellsOf 3 = 1 by kernel_rfl] at this; exact this
     have g5 : DataW.trod enc Tryz.prog W 0 (fun _ => true) true k 3 ((cs'.drop 5).take 1) = some xs[5] := by
       have := hfd 5 _ rfl
       rw [List.getElem?_eq_getElem (by omega)] at this
       change DataW.trod enc Tryz.prog W 0 (fun _ => true) true k 3 ((cs'.drop 5).take (Tryz.prog.cellsOf 3)) = _ at this
       rw [show Tryz.prog.cellsOf 3 = 1 by kernel_rfl] at this; exact this
     have g6 : DataW.trod enc Tryz.prog W 0 (fun _ => true) true k 22 ((cs'.drop 6).take 1) = some xs[6] := by
       have := hfd 6 _ rfl
       rw [List.getElem?_eq_getElem (by omega)] at this
       change DataW.trod enc Tryz.prog W 0 (fun _ => true) true k 22 ((cs'.drop 6).take (Tryz.prog.cellsOf 22)) = _ at this
       rw [show Tryz.prog.cellsOf 22 = 1 by kernel_rfl] at this; exact this
     have g7 : DataW.trod enc Tryz.prog W 0 (fun _ => true) true k 35 ((cs'.drop 7).take 1) = some xs[7] := by
       have := hfd 7 _ rfl
       rw [List.getElem?_eq_getElem (by omega)] at this
       change DataW.trod enc Tryz.prog W 0 (fun _ => true) true k 35 ((cs'.drop 7).take (Tryz.prog.cellsOf 35)) = _ at this
       rw [show Tryz.prog.cellsOf 35 = 1 by kernel_rfl] at this; exact this
     obtain ⟨z0, e0, _, b0⟩ := DataW.trod_int Tryz.underlying3 g0
     obtain ⟨z1, e1, _, b1⟩ := DataW.trod_int Tryz.underlying3 g1
     obtain ⟨z2, e2, _, b2⟩ := DataW.trod_int Tryz.underlying3 g2
     obtain ⟨z3, e3, _⟩ := DataW.trod_bool Tryz.underlying4 g3
     obtain ⟨z4, e4, _, b4⟩ := DataW.trod_int Tryz.underlying3 g4
     obtain ⟨z5, e5, _, b5⟩ := DataW.trod_int Tryz.underlying3 g5
     obtain ⟨sv, e6⟩ := trod_one (l := cs') (n := 6) (by omega)
     rw [e6] at g6
     obtain ⟨val, sp, cap', rfl, yv, hS, hnil, hvl⟩ := open_bytesF (d := (xs[6]).1) (p := (xs[6]).2) g6
     obtain ⟨z7, e7, _, b7⟩ := DataW.trod_int Tryz.underlying35 g7
     obtain ⟨n7, rfl, l7⟩ := nat_u32' b7
     have bb4 := bounds_i64 b4
     have hcs : cs' = (OL.L ⟨⟨z0, z1, z2, z3, z4, z5, val, n7⟩, sp, cap'⟩) := by
       have : cs' = [.int .i64 z0] ++ ([.int .i64 z1] ++ ([.int .i64 z2] ++ ([.bool z3] ++ ([.int .i64 z4] ++ ([.int .i64 z5] ++ ([.slice sp val.length cap'] ++ ([.int .u32 n7] ++ cs'.drop 8))))))) := by
         rw [← e0, ← e1, ← e2, ← e3, ← e4, ← e5, ← e6, ← e7, ← cut_at cs' 7 1, ← cut_at cs' 6 1, ← cut_at cs' 5 1, ← cut_at cs' 4 1, ← cut_at cs' 3 1, ← cut_at cs' 2 1, ← cut_at cs' 1 1, ← cut_at cs' 0 1]; rfl
       rw [List.drop_of_length_le (by omega : cs'.length ≤ 8), List.append_nil] at this
       exact this
     refine ⟨⟨⟨z0, z1, z2, z3, z4, z5, val, n7⟩, sp, cap'⟩, fun j u hu => ?_, ⟨hS, hnil, yv, by show val.length ≤ _; omega, l7, by show z4 ≤ _; omega⟩, fun x hp hx => ?_⟩
     · rw [← hcs] at hu
       have hj := (List.getElem?_eq_some_iff.1 hu).1
       have := hcell j (by omega)
       rw [Deep.add_add] at this
       rw [this, hu]
     · obtain ⟨_, _, b, o, h3, h4, _⟩ := hS
       rw [h4 hp] at hx; cases hx; exact h3 hp
   haveI : Inhabited OL := ⟨zOL⟩
   obtain ⟨q, hq⟩ := Deep.choose_lt (α := OL) each
   have gm : ∀ i x, ((List.range len).map q)[i]? = some x → i < len ∧ x = q i := fun i x hx => by
     have hi := (List.getElem?_eq_some_iff.1 hx).1
     simp only [List.length_map, List.length_range] at hi
     simp [hi] at hx
     exact ⟨hi, hx.symm⟩
   have hlen : ((List.range len).map q).length = len := by simp
   by_cases hz : 0 < len
   · have c00 := (hq 0 hz).1 0 _ rfl
     have hsp : a.spot = none := by
       have := World.cell?_spot c00
       unfold Addr.add at this; split at this <;> simp_all
     obtain ⟨b, o, spot⟩ := a
     obtain rfl : spot = none := hsp
     have hblk : b < W.heap.size := by
       have := block_lt_of_cell c00; rwa [Addr.add_mid] at this
     refine ⟨(List.range len).map q, some ⟨b, o, none⟩, m, by rw [hlen], ⟨b, o, fun _ => ⟨rfl, hblk⟩, fun i x hx => ?_⟩, by rw [hlen]; exact hlm⟩
     obtain ⟨hi, rfl⟩ := gm i x hx
     obtain ⟨e1, e2, e3⟩ := hq i hi
     refine ⟨fun j u hu => ?_, e2, e3⟩
     have := e1 j u hu
     rw [Addr.add_mid, ← Nat.add_assoc] at this
     exact this
   · exact ⟨(List.range len).map q, some a, m, by rw [hlen], ⟨0, 0, fun h => by rw [hlen] at h; omega, fun i x hx => by have := (gm i x hx).1; omega⟩, by rw [hlen]; exact hlm⟩
theorem open_script {v : Value} {d : DataW H} {p : List MemPlace} {b0 : Nat} (hb : Rows.uptoBulk d ≤ 1048576)
   (hv : Value.okWide Tryz.prog W .any b0 27 v) (h : DataW.Trod enc Tryz.prog W 0 (fun _ => true) true 27 v d p) :
   ∃ (s : SC) (os : List OL) (s3 : Option Addr) (c3 : Nat), v = .agg s.C.toArray ∧ ScOk W s ∧ s.ov = .slice s3 os.length c3 ∧ OpsIn W s3 os ∧ os.length ≤ 1048576 := by
 obtain ⟨cs, rfl, hsz, _⟩ : ∃ cs, v = .agg cs ∧ cs.size = Tryz.prog.cellsOf 27 ∧ Row.okWide Tryz.prog W .any b0 27 cs := by
   simpa [Value.okWide, Tryz.underlying27] using hv
 obtain ⟨fuel, hf⟩ := h
 rw [show Tryz.prog.cellsOf 27 = 5 by kernel_rfl] at hsz
 obtain ⟨nd, hnd⟩ : ∃ nd, nd = cs.toList := ⟨_, rfl⟩
 have hnl : nd.length = 5 := by rw [hnd]; simpa using hsz
 change DataW.trod enc Tryz.prog W 0 (fun _ => true) true fuel 27 cs.toList = some (d, p) at hf
 rw [← hnd] at hf
 obtain ⟨xs, k, _, hxy, _, hxl, hfd⟩ := DataW.trod_struct Tryz.underlying27 hf
 have hxl' : xs.length = 3 := hxl
 simp only [Prod.mk.injEq] at hxy
 have p0 := bulk_part (xs := xs) (j := 0) (by omega)
 have p1 := bulk_part (xs := xs) (j := 1) (by omega)
 have p2 := bulk_part (xs := xs) (j := 2) (by omega)
 rw [← hxy.1] at p0 p1 p2
 have g0 : DataW.trod enc Tryz.prog W 0 (fun _ => true) true k 24 ((nd.drop 0).take 2) = some xs[0] := by
   have := hfd 0 _ rfl
   rw [List.getElem?_eq_getElem (by omega)] at this
   change DataW.trod enc Tryz.prog W 0 (fun _ => true) true k 24 ((nd.drop 0).take (Tryz.prog.cellsOf 24)) = _ at this
   rw [show Tryz.prog.cellsOf 24 = 2 by kernel_rfl] at this; exact this
 have g1 : DataW.trod enc Tryz.prog W 0 (fun _ => true) true k 24 ((nd.drop 2).take 2) = some xs[1] := by
   have := hfd 1 _ rfl
   rw [List.getElem?_eq_getElem (by omega)] at this
   change DataW.trod enc Tryz.prog W 0 (fun _ => true) true k 24 ((nd.drop 2).take (Tryz.prog.cellsOf 24)) = _ at this
   rw [show Tryz.prog.cellsOf 24 = 2 by kernel_rfl] at this; exact this
 have g2 : DataW.trod enc Tryz.prog W 0 (fun _ => true) true k 25 ((nd.drop 4).take 1) = some xs[2] := by
   have := hfd 2 _ rfl
   rw [List.getElem?_eq_getElem (by omega)] at this
   change DataW.trod enc Tryz.prog W 0 (fun _ => true) true k 25 ((nd.drop 4).take (Tryz.prog.cellsOf 25)) = _ at this
   rw [show Tryz.prog.cellsOf 25 = 1 by kernel_rfl] at this; exact this
 obtain ⟨z0, i0, s0, c0, e0, y0, S0, n0, l0⟩ := open_start (d := (xs[0]).1) (p := (xs[0]).2) (by simp; omega) g0
 obtain ⟨z1, i1, s1, c1, e1, y1, S1, n1, l1⟩ := open_start (d := (xs[1]).1) (p := (xs[1]).2) (by simp; omega) g1
 obtain ⟨sv, e2⟩ := trod_one (l := nd) (n := 4) (by omega)
 rw [e2] at g2
 obtain ⟨os, s3, c3, rfl, hos, hon⟩ := open_xops (d := (xs[2]).1) (p := (xs[2]).2) (by omega) g2
 refine ⟨⟨z0, i0, s0, c0, z1, i1, s1, c1, .slice s3 os.length c3⟩, os, s3, c3, ?_, ⟨y0, by show i0.length ≤ _; omega, S0, n0, y1, by show i1.length ≤ _; omega, S1, n1⟩, rfl, hos, hon⟩
 have : nd = [.int .i64 z0, .slice s0 i0.length c0] ++ ([.int .i64 z1, .slice s1 i1.length c1] ++ ([.slice s3 os.length c3] ++ nd.drop 5)) := by
   rw [← e0, ← e1, ← e2, ← cut_at nd 4 1, ← cut_at nd 2 2, ← cut_at nd 0 2]; rfl
 rw [List.drop_of_length_le (by omega : nd.length ≤ 5)] at this
 rw [show cs = nd.toArray by rw [hnd]]
 rw [this]
 rfl
end
theorem filePlays_contract (H : Type) (enc : TypeId × Value → H) (W : World) (base : Nat) (args : Array Value) (ds gs : List (DataW H)) (before : List MemPlace)
   (hval : ∀ (j : Nat) t v, Tryz.f4.params[j]? = some t → args[j]? = some v → Value.okWide Tryz.prog W .any base t v)
   (hW : DataW.Whole enc Tryz.prog Tryz.f4.params.toList Rows.filePlaysSpec.vars false W args.toList ds gs before) (hL : laidMetH Tryz.prog Rows.filePlaysUptoRow.laid W)
   (hbk : Rows.uptoBulkAll (ds ++ gs) ≤ 1048576) :
   Calls Tryz.prog 4 args W fun e W' => ∃ v, e = .returned v ∧ Rows.filePlaysSpec.post enc Tryz.prog Tryz.f4 false true false false W args v W' := by
 have hW' := hW
 obtain ⟨p, q, hA0, hV, rfl, hfz, hnd⟩ := hW
 have hA : DataW.TrodAll enc Tryz.prog W 0 (fun _ => true) true Tryz.f4.params.toList args.toList ds p := hA0
 rw [Tryz.params4] at hA hval
 obtain ⟨v0, vs0, d0, ds0, p0, q0, hargs, rfl, rfl, h0, r0⟩ := trodAll_cons hA
 obtain ⟨rfl, rfl, rfl⟩ := trodAll_nil r0
 obtain rfl : args = #[v0] := by cases args; simp_all
 obtain ⟨rfl, rfl⟩ := trodVars_none hV
 have hG := tab1 hL
 have k0 := h0
 have lt0 : ∀ x ∈ p0, x.block < W.heap.size := by obtain ⟨m, hm⟩ := k0; exact DataW.trod_lt m _ _ _ hm
 simp only [List.cons_append, List.nil_append, Rows.uptoBulkAll] at hbk
 obtain ⟨s, os, s3, c3, rfl, hs, hov, hos, hon⟩ := open_script (Nat.le_trans (Nat.le_add_right _ _) hbk) (hval 0 27 v0 rfl rfl) h0
 clear hA0
 refine (filePlays_any W hG s hs os s3 c3 hov hos hon).mono fun e W' ⟨he, bel⟩ => ?_
 subst he
 exact ⟨_, rfl, _, _, _, [], _, [], hW', trodAll_mk1 (shut_bool Tryz.underlying4 _), (trodAll_cons_mk (Below.trod Tryz.laidOut (by kernel_rfl) (of_decide_eq_true (by kernel_rfl)) k0 bel lt0) trodAll_mk0), rfl, bel.frame _, fun h => by cases h⟩
theorem filePlays_laid (os : Os) : laidMet Tryz.prog Rows.filePlaysUptoRow.laid ((laidWorld os).forCall (fun _ _ => 0) ⟨#[], #[.agg #[.int .i64 0, .slice none 0 0, .int .i64 0, .slice none 0 0, .slice none 0 0]], []⟩).memory :=
 laidMet_of_run' 8 (by kernel_rfl) (by kernel_rfl)
theorem filePlays_reads (os : Os) {H : Type} (enc : TypeId × Value → H) : ∃ places, DataW.whole enc Tryz.prog ((laidWorld os).forCall (fun _ _ => 0) ⟨#[], #[.agg #[.int .i64 0, .slice none 0 0, .int .i64 0, .slice none 0 0, .slice none 0 0]], []⟩).memory Tryz.f4.params.toList Rows.filePlaysSpec.vars false (#[.agg #[.int .i64 0, .slice none 0 0, .int .i64 0, .slice none 0 0, .slice none 0 0]] : Array Value).toList 8 = some ([.agg [.agg [.lit (.int .i64 0), .nil], .agg [.lit (.int .i64 0), .nil], .nil]], [], places) :=
 ⟨[], by kernel_rfl⟩
theorem filePlays_lifted (os : Os) (started : os.Started) (H : Type) (enc : TypeId × Value → H) (F : Stop.Interp) :
   ReturnsInHanded {} Tryz.checked os 4 .any ((Rows.OpenSpec.upto Rows.filePlaysSpec).preRow enc Tryz.prog Tryz.f4 Rows.filePlaysUptoRow.domain false Rows.filePlaysUptoRow.laid) (((Rows.OpenSpec.upto Rows.filePlaysSpec).at F).post enc Tryz.prog Tryz.f4 false true false false) := by
 obtain ⟨places, hx⟩ := filePlays_reads os enc
 refine returnsInHanded_of_row (C := Tryz.checked) (s := Rows.OpenSpec.upto Rows.filePlaysSpec) own_knob started (by kernel_rfl) Tryz.func4
   (witness_row_at (enc := enc) (C := Tryz.checked) false (laidWorld os) #[.agg #[.int .i64 0, .slice none 0 0, .int .i64 0, .slice none 0 0, .slice none 0 0]] rfl (by kernel_rfl) (by kernel_rfl) (by kernel_rfl)
     (OpenSpec.preRow_of_cond 8 hx (by kernel_rfl) (fun k hk => by cases hk; kernel_rfl) (by kernel_rfl) (filePlays_laid os))) ?_
 intro W base args ds gs before hval hW _ hcond _ hL _ _
 exact filePlays_contract H enc W base args ds gs before hval hW hL (bulk_bound (hcond _ rfl))
theorem filePlays_said : Rows.FilePlaysUptoSaid :=
 OpenClaim.holds_of_cond 4 Tryz.f4 rfl rfl rfl rfl rfl rfl rfl ⟨rfl, rfl, rfl, rfl, rfl⟩ rfl rfl rfl rfl rfl (by kernel_rfl) Tryz.func4 (by kernel_rfl)
   (of_decide_eq_true (by kernel_rfl)) (by unfold Func.isWrapper; first | (rw [if_pos (by decide +kernel)]; kernel_rfl) | (rw [if_neg (by decide +kernel)]; exact ⟨rfl, rfl⟩))
   (fun os started H enc _ F => by rw [OpenClaim.pre_eq_preRow]; exact filePlays_lifted os started H enc F)
theorem filePlays_plain (f : FuncId) (fn : Func) (hf : Tryz.pinned.checked.prog.funcNamed "ledger/ledgerlaw6.FilePlays" = some f) (hfn : Tryz.pinned.checked.prog.funcs[f]? = some fn) :
   false = Tryz.pinned.checked.prog.looks [] ∧ ∀ (j : Nat) t, fn.params[j]? = some t → Tryz.pinned.checked.prog.wantsStandIn t = false := by
 obtain rfl : f = 4 := Option.some.inj ((show Tryz.prog.funcNamed "ledger/ledgerlaw6.FilePlays" = some 4 by kernel_rfl).symm.trans hf) |>.symm
 obtain rfl : fn = Tryz.f4 := (Option.some.inj (Tryz.func4.symm.trans hfn)).symm
 refine ⟨by kernel_rfl, fun j t ht => ?_⟩
 rw [Tryz.params4] at ht
 have hm := Array.mem_of_getElem? ht
 simp at hm
 subst hm
 exact (show Tryz.prog.wantsStandIn 27 = false by kernel_rfl)
theorem filePlays_card : Rows.FilePlaysUptoCardSaid :=
 Claim7.holds_tied_plain_at .later [] _ _ _ _ filePlays_said (fun _ h => by cases h) (by kernel_rfl) (fun _ h => by cases h) filePlaysUpto_row_tie rfl ⟨rfl, rfl⟩ (by kernel_rfl) rfl filePlays_plain (by kernel_rfl)
#print axioms filePlays_card
end
end Go.Proofs.YtjhocjjecfdphaaGreatDoor
