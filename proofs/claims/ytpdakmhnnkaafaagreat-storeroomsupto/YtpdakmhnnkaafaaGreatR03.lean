import Derived.Test.YtpdakmhnnkaafaaGreatR02
import Derived.Maps.RangeWalk
namespace Go.Proofs.YtpdakmhnnkaafaaGreat
set_option maxRecDepth 100000
set_option maxHeartbeats 40000000
set_option linter.unusedVariables false
set_option linter.unusedSimpArgs false
open Go.RowKit
attribute [local go_sem ↓] Go.wp_at_zero Go.wp_at_succ
def ae(s:aD):Array Value:= #[.int .i64 s.wd, .int .i64 s.ge, .int .i64 s.ma, .int .i64 s.hd, .int .i64 s.pg]
theorem JZ(w:World)(wd ge ma hd pg:Int):
   Calls Tryz.prog 99 #[.agg #[.int .i64 wd, .int .i64 ge, .int .i64 ma, .int .i64 hd, .int .i64 pg]] w fun e w'=>e= .returned (.bool (aJ ⟨wd,ge,ma,hd,pg⟩))/\Below w.heap.size w w':=by
 by_cases n0: ¬(1<=wd)
 · skip
   have HV:=aa (show aJ ⟨wd,ge,ma,hd,pg⟩=false by simp [aJ];omega)
   go_enter Tryz.func99,Tryz.ntmps99
   go_wp2
   go_ret
   exact⟨by rw [HV.out];rfl,aq w _⟩
 have h0:1<=wd:=Classical.not_not.1 n0
 clear n0
 by_cases n1: ¬(wd<=32)
 · skip
   have HV:=aa (show aJ ⟨wd,ge,ma,hd,pg⟩=false by simp [aJ];omega)
   go_enter Tryz.func99,Tryz.ntmps99
   go_wp2
   go_ret
   exact⟨by rw [HV.out];rfl,aq w _⟩
 have h1:wd<=32:=Classical.not_not.1 n1
 clear n1
 by_cases n2: ¬(0<=ge)
 · skip
   have HV:=aa (show aJ ⟨wd,ge,ma,hd,pg⟩=false by simp [aJ];omega)
   go_enter Tryz.func99,Tryz.ntmps99
   go_wp2
   go_ret
   exact⟨by rw [HV.out];rfl,aq w _⟩
 have h2:0<=ge:=Classical.not_not.1 n2
 clear n2
 by_cases n3: ¬(ge<=1099511627776)
 · skip
   have HV:=aa (show aJ ⟨wd,ge,ma,hd,pg⟩=false by simp [aJ];omega)
   go_enter Tryz.func99,Tryz.ntmps99
   go_wp2
   go_ret
   exact⟨by rw [HV.out];rfl,aq w _⟩
 have h3:ge<=1099511627776:=Classical.not_not.1 n3
 clear n3
 by_cases n4: ¬(3<=pg)
 · skip
   have HV:=aa (show aJ ⟨wd,ge,ma,hd,pg⟩=false by simp [aJ];omega)
   go_enter Tryz.func99,Tryz.ntmps99
   go_wp2
   go_ret
   exact⟨by rw [HV.out];rfl,aq w _⟩
 have h4:3<=pg:=Classical.not_not.1 n4
 clear n4
 by_cases n5: ¬(pg<=4096)
 · skip
   have HV:=aa (show aJ ⟨wd,ge,ma,hd,pg⟩=false by simp [aJ];omega)
   go_enter Tryz.func99,Tryz.ntmps99
   go_wp2
   go_ret
   exact⟨by rw [HV.out];rfl,aq w _⟩
 have h5:pg<=4096:=Classical.not_not.1 n5
 clear n5
 by_cases n6: ¬(2<=ma)
 · skip
   have HV:=aa (show aJ ⟨wd,ge,ma,hd,pg⟩=false by simp [aJ];omega)
   go_enter Tryz.func99,Tryz.ntmps99
   go_wp2
   go_ret
   exact⟨by rw [HV.out];rfl,aq w _⟩
 have h6:2<=ma:=Classical.not_not.1 n6
 clear n6
 by_cases n7: ¬(ma<=pg)
 · skip
   have HV:=aa (show aJ ⟨wd,ge,ma,hd,pg⟩=false by simp [aJ];omega)
   go_enter Tryz.func99,Tryz.ntmps99
   go_wp2
   go_ret
   exact⟨by rw [HV.out];rfl,aq w _⟩
 have h7:ma<=pg:=Classical.not_not.1 n7
 clear n7
 by_cases h8:hd=0
 · have e8:(hd==0)=true:=by simpa using h8
   have HV:=aa (show aJ ⟨wd,ge,ma,hd,pg⟩=true by simp only [aJ,decide_eq_true_eq];omega)
   clear h8
   go_enter Tryz.func99,Tryz.ntmps99
   go_wp2
   go_ret
   exact⟨by rw [HV.out];rfl,aq w _⟩
 have e8:(hd==0)=false:=by simpa using h8
 by_cases n9: ¬(2<=hd)
 · skip
   have HV:=aa (show aJ ⟨wd,ge,ma,hd,pg⟩=false by simp [aJ];omega)
   clear h8
   go_enter Tryz.func99,Tryz.ntmps99
   go_wp2
   go_ret
   exact⟨by rw [HV.out];rfl,aq w _⟩
 have h9:2<=hd:=Classical.not_not.1 n9
 clear n9
 by_cases n10: ¬(hd<ma)
 · skip
   have HV:=aa (show aJ ⟨wd,ge,ma,hd,pg⟩=false by simp [aJ];omega)
   clear h8
   go_enter Tryz.func99,Tryz.ntmps99
   go_wp2
   go_ret
   exact⟨by rw [HV.out];rfl,aq w _⟩
 have h10:hd<ma:=Classical.not_not.1 n10
 clear n10
 have HV:=aa (show aJ ⟨wd,ge,ma,hd,pg⟩=true by simp only [aJ,decide_eq_true_eq];omega)
 clear h8
 go_enter Tryz.func99,Tryz.ntmps99
 go_wp2
 go_ret
 exact⟨by rw [HV.out];rfl,aq w _⟩
theorem lX(w:World)(s:aD):Calls Tryz.prog 99 #[.agg (ae s)] w fun e w'=>e= .returned (.bool (aJ s))/\Below w.heap.size w w':=JZ w s.wd s.ge s.ma s.hd s.pg
theorem Dc(a:Act)(o:Oper)(ho:o.op= .alloc 148)(w:World):(execOp a.eval o).run Tryz.prog w= .ok (.value (.pointer (some ⟨w.heap.size,0,none⟩))) (w.alloc (.cells (ints .u8 (zz 64)).toArray 148)):=by
 unfold execOp
 rw [ho]
 kernel_rfl
theorem jM{w:World}{ops:Array Oper}{rest:List Oper}{o:Oper}{a:Act}{Q:Exit->Act->World->Prop}(hg:o.guard=none)(ho:o.op= .alloc 148)
   (h:wpList Tryz.prog ops Q rest (a.put o.dst (.pointer (some ⟨w.heap.size,0,none⟩))) (w.alloc (.cells (ints .u8 (zz 64)).toArray 148))):wpList Tryz.prog ops Q (o::rest) a w:=by
 refine wpList_plain hg fun K hK=>?_
 unfold Oper.wp
 rw [Dc a o ho w]
 exact hK _ _ h
theorem De(a:Act)(o:Oper)(ho:o.op= .alloc 156)(w:World):(execOp a.eval o).run Tryz.prog w= .ok (.value (.pointer (some ⟨w.heap.size,0,none⟩))) (w.alloc (.cells (ints .u8 (zz 60)).toArray 156)):=by
 unfold execOp
 rw [ho]
 kernel_rfl
theorem xS{w:World}{ops:Array Oper}{rest:List Oper}{o:Oper}{a:Act}{Q:Exit->Act->World->Prop}(hg:o.guard=none)(ho:o.op= .alloc 156)
   (h:wpList Tryz.prog ops Q rest (a.put o.dst (.pointer (some ⟨w.heap.size,0,none⟩))) (w.alloc (.cells (ints .u8 (zz 60)).toArray 156))):wpList Tryz.prog ops Q (o::rest) a w:=by
 refine wpList_plain hg fun K hK=>?_
 unfold Oper.wp
 rw [De a o ho w]
 exact hK _ _ h
theorem vO{w:World}{ops:Array Oper}{rest:List Oper}{o:Oper}{a:Act}{Q:Exit->Act->World->Prop}(hgd:o.guard=none)(d x:Operand)(dT sT:TypeId)
   (ho:o.op= .call {callee:= .builtin .copy,args:= #[d,x],argTypes:= #[dT,sT]}) (elem:TypeId) (hu:Tryz.prog.underlying dT=some (.slice elem)) (hz: ∀w,(Go.sizeOf elem).run Tryz.prog w= .ok 1 w)
   (g n c:Nat) (hd:a.eval d= .slice (some ⟨g,0,none⟩) n c) (t:ByteArray) (hx:a.eval x= .string t) (hle:t.size<=n) (cur:List Value) (ty:TypeId) (hg:w.heap[g]? =some (.cells cur.toArray ty (0,0))) (hn:n<=cur.length)
   (vs:List Value) (hvs:(t.data.toList.map fun x=>Value.int .u8 (x.toNat:Int))=vs)
   (h:wpList Tryz.prog ops Q rest (a.put o.dst (goInt t.size)) (w.setRow g (vs++cur.drop vs.length).toArray)):wpList Tryz.prog ops Q (o::rest) a w:=by
 have hl:vs.length=t.size:=by rw [<-hvs,List.length_map,<-Lib.size_eq]
 have hrun:=run_copy_string (P:=Tryz.prog) w dT sT o.type elem g 0 n c t hu hz hle (fun j hj=>by rw [Nat.zero_add,cell_of_row _ _ _ _ _ _ hg,List.getElem?_toArray,List.getElem?_eq_getElem (by omega)];rfl) (fun j hj=>frozen_of_row _ _ _ _ _ hg)
 rw [hvs,rX hg (by omega) (by rw [<-hvs];intro v hv;obtain⟨x,_,rfl⟩:=List.mem_map.1 hv;rfl)]at hrun
 rw [List.take_zero,List.nil_append,Nat.zero_add]at hrun
 refine wpList_plain hgd fun K hK=>?_
 unfold Oper.wp
 simp [execOp,ho,resolve,invoke,builtin,hd,hx,hrun,Result.andThen]
 exact hK _ _ h
theorem qB(l:List Int)(n m k:Nat)(ys:List Int)(hl:l.length=n)(hy:ys.length=m):gz (l++zz (m+k)) n ys=l++ys++zz k:=by
 unfold gz
 rw [hy,List.take_left' hl,<-List.drop_drop,List.drop_left' hl]
 unfold zz
 rw [List.drop_replicate,Nat.add_sub_cancel_left]
structure LS (w w':World) (s:aD) (os:List Int):Prop where
 r1:w'.heap[w.heap.size]? =some (.cells #[.int .i64 s.wd, .int .i64 s.ge, .int .i64 s.ma, .int .i64 s.hd, .int .i64 s.pg] 40 (0,0))
 r2:w'.heap[w.heap.size+1]? =some (.cells (ints .u8 (zz 64)).toArray 148 (0,0))
 r3:w'.heap[w.heap.size+1+1]? =some (.cells (ints .u8 os).toArray 156 (0,0))
 bl:Below w.heap.size w w'
theorem LS.start(w:World)(s:aD):LS w (((w.alloc (.cells #[.int .i64 s.wd, .int .i64 s.ge, .int .i64 s.ma, .int .i64 s.hd, .int .i64 s.pg] 40)).alloc (.cells (ints .u8 (zz 64)).toArray 148)).alloc (.cells (ints .u8 (zz 60)).toArray 156)) s (zz 60):=
 ⟨rW _ _ _ _,rV _ _ _ _,ou _ _ _ _,below3 _ _ _ _⟩
theorem LS.setRow{w w':World}{s:aD}{os:List Int}(h:LS w w' s os)(ys:List Int):LS w (w'.setRow (w.heap.size+1+1) (ints .u8 ys).toArray) s ys:=
 ⟨(setRow_other w' _ _ _ (by omega)).trans h.r1,(setRow_other w' _ _ _ (by omega)).trans h.r2,setRow_heap w' _ _ _ _ _ h.r3,below_setRow h.bl (by omega) _⟩
theorem LS.set{w w':World}{s:aD}{os:List Int}(h:LS w w' s os)(j:Nat)(x:Int):LS w (w'.setCell ⟨w.heap.size+1+1,j,none⟩ (.int .u8 x)) s (os.set j x):=
 ⟨jx h.r1 _ _ (by simp;omega),jx h.r2 _ _ (by simp),jW h.r3 j x,h.bl.setCell (by simp;omega) _⟩
theorem LS.drew{w w':World}{s:aD}{os:List Int}(h:LS w w' s os):LS w w'.drew s os:=⟨h.r1,h.r2,h.r3,h.bl.drew⟩
theorem LS.keeps{w w' w2:World}{s:aD}{os ys:List Int}(h:LS w w' s os)(hk:fF (w.heap.size+1+1) w' w2)(hr:w2.heap[w.heap.size+1+1]? =some (.cells (ints .u8 ys).toArray 156 (0,0))):LS w w2 s ys:=
 ⟨hk.heap h.r1 (by omega),hk.heap h.r2 (by omega),hr,h.bl.trans (hk.xO (by omega) h.bl.size)⟩
theorem LS.cell{w w':World}{s:aD}{os:List Int}(h:LS w w' s os):w'.cell? ⟨w.heap.size,0,none⟩=some (.int .i64 s.wd)/\w'.cell? ⟨w.heap.size,1,none⟩=some (.int .i64 s.ge)/\w'.cell? ⟨w.heap.size,2,none⟩=some (.int .i64 s.ma)/\w'.cell? ⟨w.heap.size,3,none⟩=some (.int .i64 s.hd)/\w'.cell? ⟨w.heap.size,4,none⟩=some (.int .i64 s.pg):=
 ⟨cell_of_row _ _ _ _ _ _ h.r1,cell_of_row _ _ _ _ _ _ h.r1,cell_of_row _ _ _ _ _ _ h.r1,cell_of_row _ _ _ _ _ _ h.r1,cell_of_row _ _ _ _ _ _ h.r1⟩
theorem jo:(Tryz.prog.info? 148).map (·.size)=some 64:=by kernel_rfl
theorem cj:(Tryz.prog.info? 40).map (·.size)=some 5:=by kernel_rfl
theorem Df:ints .u8 [76,68,71,49]++(ints .u8 (zz 60)).drop (ints .u8 [76,68,71,49]).length=ints .u8 ([76,68,71,49]++zz 56):=by
 rw [show zz 60=zz 4++zz 56 from rfl];rfl
theorem GM(x:Int):([76,68,71,49]++zz 56).set 4 x= [76,68,71,49,x,0,0,0]++zz (8+44):=by
 rw [show zz 56= [0,0,0,0]++zz 52 from rfl];rfl
theorem nr(w:World)(s:aD)(hv:aJ s=true):
   Calls Tryz.prog 100 #[.agg (ae s)] w fun e w'=>e= .returned (.agg (ints .u8 (dv s)).toArray)/\Below w.heap.size w w':=by
 have hv':=(dg s).1 hv
 have HV:=aa hv
 clear hv
 obtain⟨wd,ge,ma,hd,pg⟩:=s
 simp only at hv'
 obtain⟨v1,v2,v3,v4,v5,v6,v7,v8,v9⟩:=hv'
 have v10:0<=hd/\hd<9223372036854775808:=by omega
 have v11:0<=ge/\ge<9223372036854775808:=by omega
 have v12:0<=ma/\ma<9223372036854775808:=by omega
 have v13:0<=pg/\pg<9223372036854775808:=by omega
 replace v9:=aa v9
 have hz5: ∀w,(Go.sizeOf 5).run Tryz.prog w= .ok 1 w:=fun w=>by kernel_rfl
 have HZ5:=aa hz5
 clear hz5
 unfold ae
 go_enter Tryz.func100,Tryz.ntmps100
 have L0:=LS.start w ⟨wd,ge,ma,hd,pg⟩
 simp only at L0
 have KV:=aa (show((ints .u8 (zz 60)).length=60) by rw [aI,gT])
 go_wp2_with (first
   | (refine jM rfl rfl ?_)
   | (refine xS rfl rfl ?_;generalize ((w.alloc (.cells #[.int .i64 wd, .int .i64 ge, .int .i64 ma, .int .i64 hd, .int .i64 pg] 40)).alloc (.cells (ints .u8 (zz 64)).toArray 148)).alloc (.cells (ints .u8 (zz 60)).toArray 156)=w3 at*)
   | (refine vO rfl (.tmp 4) (.const (.string ⟨#[76,68,71,49]⟩)) 31 9 rfl 5 Tryz.underlying31 HZ5.out (w.heap.size+1+1) 60 60 rfl _ rfl (by decide) _ 156 L0.r3 (Nat.le_of_eq KV.out.symm) (ints .u8 [76,68,71,49]) rfl ?_;rw [Df];have L1:=L0.setRow ([76,68,71,49]++zz 56);clear L0;generalize w3.setRow (w.heap.size+1+1) (ints .u8 ([76,68,71,49]++zz 56)).toArray=w4 at*;have c0:=L1.cell.1;have c4:=fX L1.r3 4 (by decide);have f4:w4.frozen? ⟨w.heap.size+1+1,4,none⟩=false:=frozen_of_row _ _ _ _ _ L1.r3))
 have L2:=L1.set 4 wd
 rw [GM]at L2
 clear L1 c0 c4 f4
 generalize w4.setCell ⟨w.heap.size+1+1,4,none⟩ (.int .u8 wd)=w5 at*
 have D4:=L2.drew
 have c4:=D4.cell
 simp only at c4
 refine wp_region_noPanic ?_
 refine wp_region_held_drew (S:=fun w'=>w'.cell? ⟨w.heap.size,1,none⟩=some (.int .i64 ge)) (by kernel_rfl) c4.2.1 (fun hHeld=>?_)
 refine ai 0 (.slice (some ⟨w.heap.size+1+1,8,none⟩) 8 52) rfl hHeld ?_
 try go_frame
 refine ai 1 (.pointer (some ⟨w.heap.size,1,none⟩)) rfl hHeld ?_
 try go_frame
 refine aV 2 (.int .i64 ge) rfl (yA (by intro w hS;have hc:=hS;go_simp)) hHeld ?_
 try go_frame
 refine bR 3 rfl (fun K hK=>?_)
 go_simp
 go_at_call 95
 refine(pR _ (w.heap.size+1+1) 8 8 52 156 _ ge v11.1 v11.2 (by omega) D4.r3 (by simp [gT,dC])).mono ?_
 rintro e w6 ⟨rfl,hr,hk⟩
 rw [qB [76,68,71,49,wd,0,0,0] 8 8 44 (num ge 8) (by simp [dC]) (dC _ _)]at hr
 have L3:=D4.keeps hk hr
 clear hr hk
 go_wp2_with fail
 refine hK.out _ _ (L3.cell.2.1) ?_
 clear hK K hHeld
 intro hHeld
 try go_frame
 refine dY ?_
 clear hHeld D4 c4 L2
 have D5:=L3.drew
 have c5:=D5.cell
 simp only at c5
 go_wp2_with fail
 refine wp_region_noPanic ?_
 refine wp_region_held_drew (S:=fun w'=>w'.cell? ⟨w.heap.size,2,none⟩=some (.int .i64 ma)) (by kernel_rfl) c5.2.2.1 (fun hHeld=>?_)
 refine ai 0 (.slice (some ⟨w.heap.size+1+1,16,none⟩) 4 44) rfl hHeld ?_
 try go_frame
 refine ai 1 (.pointer (some ⟨w.heap.size,2,none⟩)) rfl hHeld ?_
 try go_frame
 refine aV 2 (.int .i64 ma) rfl (yA (by intro w hS;have hc:=hS;go_simp)) hHeld ?_
 try go_frame
 refine bR 3 rfl (fun K hK=>?_)
 go_simp
 go_at_call 95
 refine(pR _ (w.heap.size+1+1) 16 4 44 156 _ ma v12.1 v12.2 (by omega) D5.r3 (by simp [gT,dC])).mono ?_
 rintro e w7 ⟨rfl,hr,hk⟩
 rw [qB ([76,68,71,49,wd,0,0,0]++num ge 8) 16 4 40 (num ma 4) (by simp [dC]) (dC _ _)]at hr
 have L4:=D5.keeps hk hr
 clear hr hk
 go_wp2_with fail
 refine hK.out _ _ (L4.cell.2.2.1) ?_
 clear hK K hHeld
 intro hHeld
 try go_frame
 refine dY ?_
 clear hHeld D5 c5 L3
 have D6:=L4.drew
 have c6:=D6.cell
 simp only at c6
 go_wp2_with fail
 refine wp_region_noPanic ?_
 refine wp_region_held_drew (S:=fun w'=>w'.cell? ⟨w.heap.size,3,none⟩=some (.int .i64 hd)) (by kernel_rfl) c6.2.2.2.1 (fun hHeld=>?_)
 refine ai 0 (.slice (some ⟨w.heap.size+1+1,20,none⟩) 4 40) rfl hHeld ?_
 try go_frame
 refine ai 1 (.pointer (some ⟨w.heap.size,3,none⟩)) rfl hHeld ?_
 try go_frame
 refine aV 2 (.int .i64 hd) rfl (yA (by intro w hS;have hc:=hS;go_simp)) hHeld ?_
 try go_frame
 refine bR 3 rfl (fun K hK=>?_)
 go_simp
 go_at_call 95
 refine(pR _ (w.heap.size+1+1) 20 4 40 156 _ hd v10.1 v10.2 (by omega) D6.r3 (by simp [gT,dC])).mono ?_
 rintro e w8 ⟨rfl,hr,hk⟩
 rw [qB ([76,68,71,49,wd,0,0,0]++num ge 8++num ma 4) 20 4 36 (num hd 4) (by simp [dC]) (dC _ _)]at hr
 have L5:=D6.keeps hk hr
 clear hr hk
 go_wp2_with fail
 refine hK.out _ _ (L5.cell.2.2.2.1) ?_
 clear hK K hHeld
 intro hHeld
 try go_frame
 refine dY ?_
 clear hHeld D6 c6 L4
 have D7:=L5.drew
 have c7:=D7.cell
 simp only at c7
 go_wp2_with fail
 refine wp_region_noPanic ?_
 refine wp_region_held_drew (S:=fun w'=>w'.cell? ⟨w.heap.size,4,none⟩=some (.int .i64 pg)) (by kernel_rfl) c7.2.2.2.2 (fun hHeld=>?_)
 refine ai 0 (.slice (some ⟨w.heap.size+1+1,24,none⟩) 4 36) rfl hHeld ?_
 try go_frame
 refine ai 1 (.pointer (some ⟨w.heap.size,4,none⟩)) rfl hHeld ?_
 try go_frame
 refine aV 2 (.int .i64 pg) rfl (yA (by intro w hS;have hc:=hS;go_simp)) hHeld ?_
 try go_frame
 refine bR 3 rfl (fun K hK=>?_)
 go_simp
 go_at_call 95
 refine(pR _ (w.heap.size+1+1) 24 4 36 156 _ pg v13.1 v13.2 (by omega) D7.r3 (by simp [gT,dC])).mono ?_
 rintro e w9 ⟨rfl,hr,hk⟩
 rw [qB ([76,68,71,49,wd,0,0,0]++num ge 8++num ma 4++num hd 4) 24 4 32 (num pg 4) (by simp [dC]) (dC _ _)]at hr
 have L6:=D7.keeps hk hr
 clear hr hk
 go_wp2_with fail
 refine hK.out _ _ (L6.cell.2.2.2.2) ?_
 clear hK K hHeld
 intro hHeld
 try go_frame
 refine dY ?_
 clear hHeld D7 c7 L5
 rw [show([76,68,71,49,wd,0,0,0]++num ge 8++num ma 4++num hd 4++num pg 4++zz 32:List Int)=mU ⟨wd,ge,ma,hd,pg⟩from rfl]at L6
 have hbl:=yQ ⟨wd,ge,ma,hd,pg⟩
 have hb8:=qz _ HV.out
 have hs:=Av w9 (mU ⟨wd,ge,ma,hd,pg⟩) hb8 (some ⟨w.heap.size+1+1,0,none⟩) 60 (qx L6.r3 60 (by omega) (by decide)) (by omega)
 rw [hbl]at hs
 go_wp2_with fail
 refine hs.mono ?_
 rintro e w10 ⟨rfl,hr,hB⟩
 have R2:=ee hB L6.r2 (hlt L6.r2)
 have BL:=L6.bl.trans (hB.mono L6.bl.size)
 have hne:w9.heap.size≠w.heap.size+1:=by have:=hlt L6.r2;omega
 clear hs hB L6 hbl hb8
 have hr':w10.heap[w9.heap.size]? =some (.cells (ints .u8 (dv ⟨wd,ge,ma,hd,pg⟩)).toArray 5 (0,0)):=hr
 clear hr
 have nj:=eJ ⟨wd,ge,ma,hd,pg⟩
 generalize px:dv ⟨wd,ge,ma,hd,pg⟩=sec at*
 replace px:=aa px
 have K3:=aa (show(Tryz.prog.info? 148).map (·.size)=some (ints .u8 sec).toArray.size by rw [jo,dP,nj])
 have K4:=aa (show(ints .u8 (zz 64)).toArray.size=(ints .u8 sec).toArray.size by rw [dP,dP,nj,gT])
 have ho:=aa (all_oneCell_toArray (dR .u8 sec))
 have hat: ∀w,(Instr.arrayAt 148 (.slice (some ⟨w9.heap.size,0,none⟩) 64 64)).run Tryz.prog w= .ok (.pointer (some ⟨w9.heap.size,0,none⟩)) w:=fun w=>run_arrayAt w 148 _ 64 _ 64 64 Tryz.underlying148 (Nat.le_refl _)
 replace nj:=aa nj
 go_wp2_with (first
   | (refine aG rfl 148 (.tmp 28) rfl w9.heap.size rfl 5 (ints .u8 sec).toArray (0,0) _ hr' Tryz.underlying148 rfl K3.out ?_)
   | (refine wpList_store_row rfl 148 (.tmp 2) (.tmp 29) rfl (w.heap.size+1) (ints .u8 sec).toArray rfl rfl 148 _ R2 K3.out K4.out ho.out ?_;have R3:=setRow_heap w10 _ _ (ints .u8 sec).toArray _ _ R2;have BF:=below_setRow BL (show w.heap.size<=w.heap.size+1 by omega) (ints .u8 sec).toArray))
 exact bodyPost_ret (v:= .agg (ints .u8 sec).toArray) (results_cell_row Tryz.results100 _ _ (w.heap.size+1) 148 _ _ _ rfl R3 Tryz.underlying148 rfl K3.out) rfl ⟨by rw [px.out],BF⟩
theorem Fe{P:Program}{ops:Array Oper}{o:Oper}{a:Act}{w:World}{K:Act->World->Prop}{Q:Exit->Act->World->Prop}{E:Prop}(hw:Region.wanted o (yielded ops a.tmps)=true)(ty:TypeId)(x y:Operand)(ho:o.op= .store ty x y)
   (g:Nat) (cells:Array Value) (hx:a.eval x= .pointer (some ⟨g,0,none⟩)) (hy:a.eval y= .agg cells)
   (t:TypeId) (old:Array Value) (hg:w.heap[g]? =some (.cells old t (0,0))) (hi:(P.info? ty).map (·.size)=some cells.size)
   (hold:old.size=cells.size) (h1:cells.all (·.oneCell')=true)
   (h:K (a.put o.dst undef) (w.setRow g cells)):if Region.wanted o (yielded ops a.tmps)=true then Oper.wp P o a w K Q else E:=by
 rw [if_pos hw]
 exact wp_store_row ty x y ho g cells hx hy t old hg hi hold h1 h
theorem Src.range{w:World}{b o cap:Nat}{r:List Int}(h:Src w (some ⟨b,o,none⟩) cap r)(n:Nat)(hn:n<=r.length)(hp:0<n):b<w.heap.size/\w.rangeAt b o (ints .u8 (r.take n)):=by
 obtain⟨h1,h2,b',o',h3,h4,h5⟩:=h
 have he:=h4 (by omega)
 cases he
 refine⟨h3 (by omega),fun j v hv=>?_⟩
 have hj:j<n:=by have:=(List.getElem?_eq_some_iff.1 hv).1;rw [aI,List.length_take]at this;omega
 rw [fx _ _ j (by rw [List.length_take];omega)]at hv
 cases hv
 rw [h5 j (by omega),List.getD_eq_getElem?_getD,List.getD_eq_getElem?_getD,List.getElem?_take,if_pos hj]
theorem ox(w:World)(r:List Int)(n cap:Nat)(sp:Option Addr)(hn:64<=n)(hl:n=r.length)(hS:Src w sp cap r):
   Calls Tryz.prog 101 #[.slice sp n cap] w fun e w'=>e= .returned (.agg (ints .u8 (r.take 64)).toArray)/\Below w.heap.size w w':=by
 have vI:=hS
 obtain⟨hc,hm,b,o,hb,hsp,hsrc⟩:=hS
 obtain rfl:=hsp (by omega)
 obtain⟨hb,hrg⟩:=vI.range 64 (by omega) (by omega)
 have i1:(64:Int)<=(cap:Int):=by omega
 have i2:64<=cap:=by omega
 have hlen:(r.take 64).length=64:=by rw [List.length_take];omega
 clear hsrc hsp hl
 generalize px:r.take 64=sec at*
 replace px:=aa px
 have K3:=aa (show(Tryz.prog.info? 148).map (·.size)=some (ints .u8 sec).toArray.size by rw [jo,dP,hlen])
 have Vf:=aa (show(Tryz.prog.info? 148).map (·.size)=some (ints .u8 sec).length by rw [jo,aI,hlen])
 have K4:=aa (show(ints .u8 (zz 64)).toArray.size=(ints .u8 sec).toArray.size by rw [dP,dP,hlen,gT])
 have ho:=aa (all_oneCell_toArray (dR .u8 sec))
 have hat: ∀w,(Instr.arrayAt 148 (.slice (some ⟨b,o,none⟩) 64 cap)).run Tryz.prog w= .ok (.pointer (some ⟨b,o,none⟩)) w:=fun w=>run_arrayAt w 148 _ 64 _ 64 cap Tryz.underlying148 (Nat.le_refl _)
 have r1:=aF w (.cells (ints .u8 (zz 64)).toArray 148)
 have b1:=aq w (.cells (ints .u8 (zz 64)).toArray 148)
 have HR:=aa (yL hrg b1 hb)
 replace hlen:=aa hlen
 clear hrg
 go_enter Tryz.func101,Tryz.ntmps101
 go_wp2_with (first
   | (refine jM rfl rfl ?_;generalize w.alloc (.cells (ints .u8 (zz 64)).toArray 148)=w1 at*)
   | (refine dQ rfl 148 (.tmp 5) rfl b o rfl (ints .u8 sec) _ HR.out Tryz.underlying148 rfl Vf.out ?_)
   | (refine wpList_store_row rfl 148 (.tmp 2) (.tmp 6) rfl w.heap.size (ints .u8 sec).toArray rfl rfl 148 _ r1 K3.out K4.out ho.out ?_;have R3:=setRow_heap w1 _ _ (ints .u8 sec).toArray _ _ r1;have BF:=below_setRow b1 (Nat.le_refl _) (ints .u8 sec).toArray))
 exact bodyPost_ret (v:= .agg (ints .u8 sec).toArray) (results_cell_row Tryz.results101 _ _ w.heap.size 148 _ _ _ rfl R3 Tryz.underlying148 rfl K3.out) rfl ⟨by first| rfl| rw [px.out],BF⟩
theorem tS(w:World)(sec:List Int)(h8:aS sec)(hl:sec.length=64)(vP n:Nat)(ha:vP+n<=64)(hn:n<=8)(w1:World)(hr:w1.heap[w.heap.size]? =some (.cells (ints .u8 sec).toArray 148 (0,0))):
   ∀w',Below w1.heap.size w1 w'->Calls Tryz.prog 90 #[.slice (some ⟨w.heap.size,vP,none⟩) n (64-vP)] w' fun e w''=>e= .returned (.int .i64 (IntKind.i64.wrap (le ((sec.drop vP).take n))))/\Below w'.heap.size w' w'':=by
 intro w' hB
 have hr':=ee hB hr (hlt hr)
 have hs:=qx hr' 64 (by omega) (by decide)
 have hm:=hs.mid vP n (by omega) (hlt hr') (64-vP) (by omega) (by simp [maxLen];omega)
 rw [Nat.zero_add]at hm
 have:=Az w' ((sec.drop vP).take n) ((h8.drop vP).take n) (by rw [List.length_take];omega) _ _ hm
 rwa [show((sec.drop vP).take n).length=n by simp;omega]at this
theorem zV(w:World)(sec:List Int)(h8:aS sec)(hl:sec.length=64):
   Calls Tryz.prog 102 #[.agg (ints .u8 sec).toArray] w fun e w'=>e= .returned (.agg (ae (gR sec)))/\Below w.heap.size w w':=by
 have r1:=aF w (.cells (ints .u8 sec).toArray 148)
 obtain⟨x4,hx4⟩: ∃x,x=sec.getD 4 0:=⟨_,rfl⟩
 obtain⟨n0,hn0⟩: ∃x,x=IntKind.i64.wrap (le ((sec.drop 8).take 8)):=⟨_,rfl⟩
 obtain⟨n1,hn1⟩: ∃x,x=IntKind.i64.wrap (le ((sec.drop 16).take 4)):=⟨_,rfl⟩
 obtain⟨n2,hn2⟩: ∃x,x=IntKind.i64.wrap (le ((sec.drop 20).take 4)):=⟨_,rfl⟩
 obtain⟨n3,hn3⟩: ∃x,x=IntKind.i64.wrap (le ((sec.drop 24).take 4)):=⟨_,rfl⟩
 have w4: ∀k,k+4<=64->IntKind.i64.wrap (le ((sec.drop k).take 4))=(le ((sec.drop k).take 4):Int):=fun k hk=>by
   have h:=EU ((sec.drop k).take 4) ((h8.drop k).take 4)
   rw [show((sec.drop k).take 4).length=4 by simp;omega]at h
   exact ig _ (by omega) (by omega)
 have HE:=aa (show(Ending.returned (.agg #[.int .i64 x4, .int .i64 n0, .int .i64 n1, .int .i64 n2, .int .i64 n3]))= .returned (.agg (ae (gR sec))) by
   rw [hx4,hn0,hn1,hn2,hn3,w4 16 (by omega),w4 20 (by omega),w4 24 (by omega)];rfl)
 obtain⟨w2,hw2⟩: ∃w2,(w.alloc (.cells (ints .u8 sec).toArray 148)).alloc (.cells #[.int .i64 0, .int .i64 0, .int .i64 0, .int .i64 0, .int .i64 0] 40)=w2:=⟨_,rfl⟩
 have q1:w2.heap[w.heap.size]? =some (.cells (ints .u8 sec).toArray 148 (0,0)):=by rw [<-hw2];exact hold r1
 have q2:w2.heap[w.heap.size+1]? =some (.cells #[.int .i64 0, .int .i64 0, .int .i64 0, .int .i64 0, .int .i64 0] 40 (0,0)):=by rw [<-hw2];exact(by simpa using aF (w.alloc (.cells (ints .u8 sec).toArray 148)) (.cells #[.int .i64 0, .int .i64 0, .int .i64 0, .int .i64 0, .int .i64 0] 40))
 have B2:Below w.heap.size w w2:=by rw [<-hw2];exact(aq w _).alloc (by simp) _
 have R0:=aa (tS w sec h8 hl 8 8 (by omega) (by omega) w2 q1)
 have R1:=aa (tS w sec h8 hl 16 4 (by omega) (by omega) w2 q1)
 have R2:=aa (tS w sec h8 hl 20 4 (by omega) (by omega) w2 q1)
 have R3:=aa (tS w sec h8 hl 24 4 (by omega) (by omega) w2 q1)
 rw [<-hn0]at R0
 rw [<-hn1]at R1
 rw [<-hn2]at R2
 rw [<-hn3]at R3
 have hs2:w2.heap.size=w.heap.size+2:=by rw [<-hw2];simp
 have HS2:=aa (show w.heap.size+1<=w2.heap.size by omega)
 have HC:=aa (fun(w':World) (hB:Below w2.heap.size w2 w')=>show w'.cell? ⟨w.heap.size,4,none⟩=some (.int .u8 x4) by
   rw [hx4];exact fX (ee hB q1 (by omega)) 4 (by omega))
 have HC7:=aa (fun(w':World) (hB:Below (w.heap.size+1) w2 w')=>show w'.cell? ⟨w.heap.size,4,none⟩=some (.int .u8 x4) by
   rw [hx4];exact fX (ee hB q1 (by omega)) 4 (by omega))
 have HR:=aa (fun(w':World) (hB:Below w2.heap.size w2 w')=>show w'.heap[w.heap.size+1]? =some (.cells #[.int .i64 0, .int .i64 0, .int .i64 0, .int .i64 0, .int .i64 0] 40 (0,0))from ee hB q2 (by omega))
 have HB:=aa (fun(w':World) (hB:Below (w.heap.size+1) w2 w')=>show Below w.heap.size w w' from B2.trans (hB.mono (by omega)))
 have hx:0<=x4/\x4<256:=by
   rw [hx4,List.getD_eq_getElem?_getD,List.getElem?_eq_getElem (by omega)];exact h8 _ (List.getElem_mem _)
 clear hx4 hn0 hn1 hn2 hn3 w4 r1 q1 q2 B2 hs2
 have b2:Below w2.heap.size w2 w2.drew:=(Below.refl _ _).drew
 go_enter Tryz.func102,Tryz.ntmps102
 go_wp2_with fail
 try rw [hw2]
 refine wp_region_noPanic ?_
 refine wp_region_held_drew (S:=fun w'=>w'.cell? ⟨w.heap.size,4,none⟩=some (.int .u8 x4)) (by kernel_rfl) (HC.out _ b2) (fun hHeld=>?_)
 refine ai 0 (.pointer (some ⟨w.heap.size,4,none⟩)) rfl hHeld ?_
 try go_frame
 refine ai 3 (.slice (some ⟨w.heap.size,8,none⟩) 8 56) rfl hHeld ?_
 try go_frame
 refine ai 5 (.slice (some ⟨w.heap.size,16,none⟩) 4 48) rfl hHeld ?_
 try go_frame
 refine ai 7 (.slice (some ⟨w.heap.size,20,none⟩) 4 44) rfl hHeld ?_
 try go_frame
 refine ai 9 (.slice (some ⟨w.heap.size,24,none⟩) 4 40) rfl hHeld ?_
 try go_frame
 refine aV 1 (.int .u8 x4) rfl (yA (by intro w hS;have hc:=hS;go_simp)) hHeld ?_
 try go_frame
 refine aV 2 (.int .i64 x4) rfl (yA (by intro w hS;go_simp;exact ig x4 (by omega) (by omega))) hHeld ?_
 try go_frame
 refine bR 4 rfl (fun K hK=>?_)
 go_simp
 go_at_call 90
 refine(R0.out _ b2).mono ?_
 rintro e w3 ⟨rfl,bb3⟩
 have b3:=b2.trans (bb3.mono b2.size)
 go_wp2_with fail
 refine hK.out _ _ (HC.out _ b3) ?_
 clear hK K hHeld
 intro hHeld
 try go_frame
 refine bR 6 rfl (fun K hK=>?_)
 go_simp
 go_at_call 90
 refine(R1.out _ b3).mono ?_
 rintro e w4 ⟨rfl,bb4⟩
 have b4:=b3.trans (bb4.mono b3.size)
 go_wp2_with fail
 refine hK.out _ _ (HC.out _ b4) ?_
 clear hK K hHeld
 intro hHeld
 try go_frame
 refine bR 8 rfl (fun K hK=>?_)
 go_simp
 go_at_call 90
 refine(R2.out _ b4).mono ?_
 rintro e w5 ⟨rfl,bb5⟩
 have b5:=b4.trans (bb5.mono b4.size)
 go_wp2_with fail
 refine hK.out _ _ (HC.out _ b5) ?_
 clear hK K hHeld
 intro hHeld
 try go_frame
 refine bR 10 rfl (fun K hK=>?_)
 go_simp
 go_at_call 90
 refine(R3.out _ b5).mono ?_
 rintro e w6 ⟨rfl,bb6⟩
 have b6:=b5.trans (bb6.mono b5.size)
 go_wp2_with fail
 refine hK.out _ _ (HC.out _ b6) ?_
 clear hK K hHeld
 intro hHeld
 try go_frame
 refine ai 11 (.agg #[.int .i64 x4, .int .i64 n0, .int .i64 n1, .int .i64 n2, .int .i64 n3]) rfl hHeld ?_
 try go_frame
 refine bR 12 rfl (fun K hK=>?_)
 refine Fe (by rfl) 40 (.tmp 2) (.tmp 14) rfl (w.heap.size+1) _ rfl rfl 40 _ (HR.out _ b6) (by rw [cj];rfl) rfl (by simp [Value.oneCell']) ?_
 have b7:=below_setRow (b6.mono HS2.out) (Nat.le_refl _) #[.int .i64 x4, .int .i64 n0, .int .i64 n1, .int .i64 n2, .int .i64 n3]
 have r7:=setRow_heap w6 _ _ #[.int .i64 x4, .int .i64 n0, .int .i64 n1, .int .i64 n2, .int .i64 n3] _ _ (HR.out _ b6)
 refine hK.out _ _ (HC7.out _ b7) ?_
 clear hK K hHeld
 intro hHeld
 try go_frame
 refine dY ?_
 clear hHeld
 go_wp2_with fail
 exact bodyPost_ret (v:= .agg #[.int .i64 x4, .int .i64 n0, .int .i64 n1, .int .i64 n2, .int .i64 n3]) (results_cell_row Tryz.results102 _ _ (w.heap.size+1) 40 _ _ _ rfl r7 Tryz.underlying40 rfl (by rw [cj];rfl)) rfl ⟨HE.out,HB.out _ b7⟩
def gL(s:aD):List Value:= [.int .i64 s.wd, .int .i64 s.ge, .int .i64 s.ma, .int .i64 s.hd, .int .i64 s.pg]
theorem AB:Tryz.prog.eqGuardType Tryz.prog.depth 148=false:=by kernel_rfl
theorem OJ(xs ys:List Int)(ha:xs.length=64)(hb:ys.length=64)(w:World):
   (Op.equalIn 10000 148 (.agg (ints .u8 xs).toArray) (.agg (ints .u8 ys).toArray)).run Tryz.prog w= .ok (decide (xs=ys)) w:=
 rU Tryz.underlying148 Tryz.underlying5 Tryz.size5 .u8 xs ys ha hb w
theorem Ka(sec:List Int)(h:sec.length=64):splice (ints .u8 (dB [] 256)) 0 (ints .u8 sec)=ints .u8 (sec++List.replicate 192 0):=by
 unfold splice
 rw [List.take_zero,List.nil_append,Nat.zero_add,aI,h]
 have e:(ints .u8 (dB [] 256)).drop 64=ints .u8 (List.replicate 192 0):=by
   unfold dB ints
   rw [List.nil_append,<-List.map_drop,List.drop_replicate];rfl
 rw [e]
 simp only [ints,List.map_append]
theorem zX(w:World)(s:aD):
   Calls Tryz.prog 82 #[.agg (ae s)] w fun e w'=> ∃v,e= .returned (.tuple #[v, .int .i64 (pQ s).2])/\New w w' v (pQ s).1/\Below w.heap.size w w':=by
 have r0:=aF w (.cells (ae s) 40)
 have b0:=aq w (.cells (ae s) 40)
 have OL:=aa (show(Tryz.prog.info? 40).map (·.size)=some (ae s).size by rw [cj];rfl)
 cases hv:aJ s
 · have HF:=aa (Fa s hv)
   go_enter Tryz.func82,Tryz.ntmps82
   go_wp2_with (first
     | (refine aG rfl 40 (.tmp 1) rfl w.heap.size rfl 40 (ae s) (0,0) _ r0 Tryz.underlying40 rfl OL.out ?_))
   refine(lX _ s).mono ?_
   rintro e w1 ⟨rfl,b1⟩
   rw [hv]
   have B1:=b0.trans (b1.mono b0.size)
   clear b1 b0 r0
   go_wp2
   go_ret2
   exact⟨_,by rw [HF.out];rfl,by rw [HF.out];exact Or.inl ⟨rfl,rfl⟩,B1⟩
 · have HF:=aa (yR s hv)
   obtain⟨i5,hi5,hz5,hs5,hy5⟩:=Tryz.info5
   have HI:=aa hi5
   clear hi5
   have K1:=aa (show i5.bytes*256<=281474976710656 by rw [hy5];omega)
   have K2:=aa (show 256<=maxLen by unfold maxLen;omega)
   have hlen:=eJ s
   go_enter Tryz.func82,Tryz.ntmps82
   go_wp2_with (first
     | (refine aG rfl 40 (.tmp 1) rfl w.heap.size rfl 40 (ae s) (0,0) _ r0 Tryz.underlying40 rfl OL.out ?_))
   refine(lX _ s).mono ?_
   rintro e w1 ⟨rfl,b1⟩
   rw [hv]
   replace hv:=aa hv
   have B1:=b0.trans (b1.mono b0.size)
   have r1:=ee b1 r0 (hlt r0)
   clear b1 b0 r0
   go_wp2_with (first
     | (refine aG rfl 40 (.tmp 1) rfl w.heap.size rfl 40 (ae s) (0,0) _ r1 Tryz.underlying40 rfl OL.out ?_))
   refine(nr w1 s hv.out).mono ?_
   rintro e w2 ⟨rfl,b2⟩
   have B2:=B1.trans (b2.mono B1.size)
   clear b2 B1 r1
   generalize px:dv s=sec at*
   replace px:=aa px
   have K3:=aa (show(Tryz.prog.info? 148).map (·.size)=some (ints .u8 sec).toArray.size by rw [jo,dP,hlen])
   have K4:=aa (show(ints .u8 (zz 64)).toArray.size=(ints .u8 sec).toArray.size by rw [dP,dP,hlen,gT])
   have ho:=aa (all_oneCell_toArray (dR .u8 sec))
   have KC:=aa (show(ints .u8 sec).length=Nat.min 64 256 by rw [aI,hlen];rfl)
   have KF:=aa (show 0+(ints .u8 sec).length<=(ints .u8 (dB [] 256)).length by rw [aI,aI,qu _ _ (by simp),hlen];decide)
   have KO:=aa (dR .u8 sec)
   have KS:=aa (Ka sec hlen)
   have rS:=aF w2 (Obj.cells (ints .u8 sec).toArray 148 (0,0))
   have BA:Below w.heap.size w (w2.alloc (Obj.cells (ints .u8 sec).toArray 148 (0,0))):=B2.alloc B2.size _
   have HG:=aa B2.size
   replace hlen:=aa hlen
   go_wp2_with (first
     | (refine jM rfl rfl ?_)
     | (refine wpList_store_row rfl 148 _ _ rfl _ _ rfl rfl 148 _ (by exact aF _ _) K3.out (by exact K4.out) ho.out ?_;rw [aP];generalize w2.alloc (Obj.cells (ints .u8 sec).toArray 148 (0,0))=w3 at*;generalize w2.heap.size=G at*)
     | (refine wpList_make_full _ rfl _ _ 31 rfl w3.heap.size 5 i5 (.int .u8 0) 1 Tryz.underlying31 HI.out hz5 hs5 .i64 .i64 _ _ 256 rfl rfl rfl rfl K1.out K2.out (Nat.le_refl _) ?_;intro w4 hO4 hg4;have hB4:=dx hg4 (fun k hk=>by cases hk) (Nat.le_refl w3.heap.size);have hr4:=gw hO4;have rS4:=ee hB4 rS (hlt rS);clear hg4 hO4)
     | (refine wpList_copy_splice rfl (.tmp 12) (.tmp 13) 31 31 rfl 5 Tryz.underlying31 Tryz.size5 (some ⟨w3.heap.size,0,none⟩) (some ⟨G,0,none⟩) 256 256 64 64 rfl rfl w3.heap.size 0 (ints .u8 (dB [] 256)) 5 hr4 (ints .u8 sec) KC.out (fun h=>⟨rfl,⟨G,0,none⟩,rfl,fun j v hv=>by rw [Addr.add_mid,Nat.zero_add,cell_of_row _ _ _ _ _ _ rS4];simpa using hv⟩) KF.out KO.out w3.heap.size w3 hB4 (Nat.le_refl _) ?_;intro w5 hr5 hB5))
   have r6:=hr5.out
   rw [KS.out]at r6
   have B6:=BA.trans (hB5.mono BA.size)
   have HG2:=BA.size
   clear hr5 hB5 hr4 hB4 rS4 rS BA
   go_ret2
   refine⟨_,by rw [HF.out];rfl,Or.inr ⟨?_,w3.heap.size,?_,HG2,?_⟩,B6⟩
   · rw [HF.out];intro h0;have:=hlen.out;simp at h0
   · rw [HF.out];simp [hlen.out]
   · rw [HF.out];exact r6
theorem bX{P:Program}{fn:Func}{p q:Tmp}{ty:TypeId}(h:fn.results= #[.cell p ty, .tmp q])(tmps:Array Value)(w:World)(g:Nat)(t:TypeId)(cs:Array Value)(fr:Nat×Nat)(d:TypeDesc)
   (hp:tmps.getD p undef= .pointer (some ⟨g,0,none⟩)) (hg:w.heap[g]? =some (.cells cs t fr))
   (hu:P.underlying ty=some d) (hd:(match d with| .struct _| .array _ _=>true| _=>false)=true) (hi:(P.info? ty).map (·.size)=some cs.size):
   (results fn tmps).run P w= .ok (.tuple #[.agg cs,tmps.getD q undef]) w:=by
 have si:tmps[p]?.getD undef= .pointer (some ⟨g,0,none⟩):=by simpa using hp
 simp [results,h,si,asAddr,run_loadVar_row w g t ty cs fr d hg hu hd hi]
theorem vQ(w:World):w.alloc (.cells #[.int .i64 0, .int .i64 0, .int .i64 0, .int .i64 0, .int .i64 0] 40)=w.alloc (.cells (ae sup0) 40):=rfl
theorem zY(w:World)(r:List Int)(hl:r.length≠256)(yS:r.length<=maxLen)(sp:Option Addr)(cap:Nat):
   Calls Tryz.prog 84 #[.slice sp r.length cap] w fun e w'=>e= .returned (.tuple #[.agg (ae sup0), .int .i64 53])/\Below w.heap.size w w':=by
 unfold maxLen at yS
 have hl2:((r.length:Int) !=256)=true:=by simp;omega
 have i0:(r.length:Int)<=9223372036854775807:=by omega
 have r0:=aF w (.cells (ae sup0) 40)
 have b0:=aq w (.cells (ae sup0) 40)
 clear hl
 go_enter Tryz.func84,Tryz.ntmps84
 go_wp2
 exact bodyPost_ret (v:= .tuple #[.agg (ae sup0), .int .i64 53]) (bX Tryz.results84 _ _ w.heap.size 40 _ _ _ rfl r0 Tryz.underlying40 rfl (by rw [cj];rfl)) rfl ⟨rfl,b0⟩
theorem uq(w:World)(r:List Int)(h8:aS r)(sp:Option Addr)(cap:Nat)(hS:Src w sp cap r):
   Calls Tryz.prog 84 #[.slice sp r.length cap] w fun e w'=>e= .returned (.tuple #[.agg (ae (bq r).1), .int .i64 (bq r).2])/\Below w.heap.size w w':=by
 by_cases hl: ¬r.length=256
 · have HF:bq r=(sup0,53):=by rw [bq,if_pos hl]
   rw [HF]
   exact zY w r hl (Nat.le_trans hS.1 hS.2.1) sp cap
 replace hl:r.length=256:=Classical.not_not.1 hl
 rw [hl]
 have r0:=aF w (.cells (ae sup0) 40)
 have b0:=aq w (.cells (ae sup0) 40)
 have hS0:=hS.below b0 (Nat.le_refl _)
 have Me:=ox (w.alloc (.cells (ae sup0) 40)) r 256 cap sp (by omega) hl.symm hS0
 have hl64:(r.take 64).length=64:=by rw [List.length_take];omega
 have hb64:aS (r.take 64):=h8.take 64
 have HU:=aa (show bq r=(if feed ones (r.take 64)≠CR then(sup0,52)
   else if aJ (gR (r.take 64))=false\/dv (gR (r.take 64))≠r.take 64 then(sup0,53)else(gR (r.take 64),0)) by rw [bq,if_neg (by simp [hl])])
 clear hS hS0 hl
 generalize r.take 64=sec at*
 have K3:=aa (show(Tryz.prog.info? 148).map (·.size)=some (ints .u8 sec).toArray.size by rw [jo,dP,hl64])
 have Sh:=aa (show(Tryz.prog.info? 148).map (·.size)=some (ints .u8 sec).length by rw [jo,aI,hl64])
 have K4:=aa (show(ints .u8 (zz 64)).toArray.size=(ints .u8 sec).toArray.size by rw [dP,dP,hl64,gT])
 have ho:=aa (all_oneCell_toArray (dR .u8 sec))
 go_enter Tryz.func84,Tryz.ntmps84
 go_wp2_with fail
 refine Me.mono ?_
 rintro e w2 ⟨rfl,b2⟩
 have B2:=b0.trans (b2.mono b0.size)
 have r2:=ee b2 r0 (hlt r0)
 have rS:=aF w2 (Obj.cells (ints .u8 sec).toArray 148 (0,0))
 have bS:=aq w2 (Obj.cells (ints .u8 sec).toArray 148 (0,0))
 clear b2 b0 r0 Me
 have hw:=xR (w2.alloc (Obj.cells (ints .u8 sec).toArray 148 (0,0))) sec hb64 (by omega) (some ⟨w2.heap.size,0,none⟩) 64 (qx rS 64 (by omega) (by decide))
 rw [hl64]at hw
 have r3:=ee bS r2 (hlt r2)
 have B3:=B2.trans (bS.mono B2.size)
 have XJ:w.heap.size<w2.heap.size:=hlt r2
 clear bS B2 r2
 go_wp2_with (first
   | (refine jM rfl rfl ?_)
   | (refine wpList_store_row rfl 148 _ _ rfl _ _ rfl rfl 148 _ (by exact aF _ _) K3.out (by exact K4.out) ho.out ?_;rw [aP];generalize w2.alloc (Obj.cells (ints .u8 sec).toArray 148 (0,0))=w3 at*;generalize w2.heap.size=G4 at*))
 refine hw.mono ?_
 rintro e w4 ⟨rfl,b4⟩
 have r4:=ee b4 r3 (hlt r3)
 have s4:=ee b4 rS (hlt rS)
 have B4:=B3.trans (b4.mono B3.size)
 clear hw b4 B3 r3 rS
 by_cases hC:feed ones sec=CR
 case neg=>
   have HF:=aa (show bq r=(sup0,52) by rw [HU.out,if_pos hC])
   rw [show decide (feed ones sec=CR)=false by simpa using hC]
   clear HU hC
   go_wp2_with (first
     | (refine wpList_store_row rfl 40 _ _ rfl w.heap.size (ae sup0) rfl rfl 40 _ r4 (by rw [cj];rfl) rfl (by simp [ae,Value.oneCell']) ?_;have R9:=setRow_heap w4 _ _ (ae sup0) _ _ r4;have BF:=below_setRow B4 (Nat.le_refl _) (ae sup0)))
   exact bodyPost_ret (v:= .tuple #[.agg (ae sup0), .int .i64 52]) (bX Tryz.results84 _ _ w.heap.size 40 _ _ _ rfl R9 Tryz.underlying40 rfl (by rw [cj];rfl)) rfl ⟨by rw [HF.out],BF⟩
 rw [show decide (feed ones sec=CR)=true by simpa using hC]
 replace HU:=aa (show bq r=(if aJ (gR sec)=false\/dv (gR sec)≠sec then(sup0,53)else(gR sec,0)) by rw [HU.out,if_neg (by simp [hC])])
 have pS:=zV w4 sec hb64 hl64
 clear hC
 go_wp2_with (first
   | (refine aG rfl 148 (.tmp 4) rfl G4 rfl 148 (ints .u8 sec).toArray (0,0) _ s4 Tryz.underlying148 rfl K3.out ?_))
 refine pS.mono ?_
 rintro e w5 ⟨rfl,b5⟩
 have r5:=ee b5 r4 (hlt r4)
 have s5:=ee b5 s4 (hlt s4)
 have B5:=B4.trans (b5.mono B4.size)
 clear pS b5 B4 r4 s4
 obtain⟨s,hs⟩: ∃s,s=gR sec:=⟨_,rfl⟩
 rw [<-hs]at HU⊢
 have lY:=aa hs
 clear hs
 have KU1:=aa (show(Tryz.prog.info? 40).map (·.size)=some (ae s).size by rw [cj];rfl)
 have KU2:=aa (show(ae s).all (·.oneCell')=true by simp [ae,Value.oneCell'])
 have KU3:=aa (show(#[.int .i64 0, .int .i64 0, .int .i64 0, .int .i64 0, .int .i64 0]:Array Value).size=(ae s).size from rfl)
 go_wp2_with (first
   | (refine wpList_store_row rfl 40 (.tmp 5) (.tmp 17) rfl w5.heap.size (ae s) rfl rfl 40 _ (by exact aF _ _) KU1.out KU3.out KU2.out ?_;rw [aP]))
 have KZ1:=aa (show(Tryz.prog.info? 40).map (·.size)=some (ae sup0).size by rw [cj];rfl)
 have KZ2:=aa (show(ae sup0).all (·.oneCell')=true by simp [ae,Value.oneCell'])
 have KZ4:=aa (show(ae sup0).size=(ae s).size from rfl)
 have s7:=aF w5 (.cells (ae s) 40)
 have Ed:=aq w5 (.cells (ae s) 40)
 have r7:=ee Ed r5 (hlt r5)
 have q7:=ee Ed s5 (hlt s5)
 have B7:=B5.trans (Ed.mono B5.size)
 simp only [Act.put]
 generalize w5.alloc (.cells (ae s) 40)=W7 at*
 generalize w5.heap.size=G5 at*
 have HS:=aa (fun(w':World) (hB:Below W7.heap.size W7 w')=>show w'.rangeAt G5 0 (gL s)/\w'.rangeAt G4 0 (ints .u8 sec)from⟨yK (ee hB s7 (hlt s7)),yK (ee hB q7 (hlt q7))⟩)
 have HR:=aa (fun(w':World) (hB:Below W7.heap.size W7 w')=>show w'.heap[w.heap.size]? =some (.cells (ae sup0) 40 (0,0))/\w'.heap[G5]? =some (.cells (ae s) 40 (0,0))/\Below w.heap.size w w' from⟨ee hB r7 (hlt r7),ee hB s7 (hlt s7),B7.trans (hB.mono B7.size)⟩)
 clear s7 Ed r7 q7 B7 r5 s5 B5
 cases hv:aJ s
 · have HV:=aa hv
   have HF:=aa (show bq r=(sup0,53) by rw [HU.out,if_pos (Or.inl hv)])
   clear hv HU
   refine wp_region_noPanic ?_
   refine wp_region_held_drew (S:=fun w'=>w'.rangeAt G5 0 (gL s)/\w'.rangeAt G4 0 (ints .u8 sec)) (by kernel_rfl) (HS.out _ (Below.refl _ _).drew) (fun hHeld=>?_)
   refine aV 0 (.agg (gL s).toArray) rfl (yieldsIf_load_mid (by rfl) 40 _ rfl G5 (0) rfl (gL s) _ (fun w hS=>hS.1) Tryz.underlying40 rfl (by rw [cj];rfl)) hHeld ?_
   try go_frame
   refine bR 1 rfl (fun K hK=>?_)
   go_simp
   go_at_call 99
   refine(lX _ s).mono ?_
   rintro e w6 ⟨rfl,bb6⟩
   rw [HV.out]
   have b6:Below W7.heap.size W7 w6:=(Below.refl _ W7).drew.trans bb6
   clear bb6
   go_wp2_with fail
   refine hK.out _ _ (HS.out _ b6) ?_
   clear hK K hHeld
   intro hHeld
   try go_frame
   refine ai 2 (.bool true) rfl hHeld ?_
   try go_frame
   refine ai 3 (.bool true) rfl hHeld ?_
   try go_frame
   refine aV 4 (undef) rfl (Or.inr ⟨by rfl,rfl⟩) hHeld ?_
   try go_frame
   refine aV 6 (undef) rfl (Or.inr ⟨by rfl,rfl⟩) hHeld ?_
   try go_frame
   refine aV 5 (undef) rfl (Or.inr ⟨by rfl,rfl⟩) hHeld ?_
   try go_frame
   refine aV 7 (undef) rfl (Or.inr ⟨by rfl,rfl⟩) hHeld ?_
   try go_frame
   refine ai 8 (.bool true) rfl hHeld ?_
   try go_frame
   refine dY ?_
   clear hHeld
   obtain⟨r8,s8,B8⟩:=HR.out _ b6
   go_wp2_with (first| (refine wpList_store_row rfl 40 _ _ rfl w.heap.size (ae sup0) rfl rfl 40 _ r8 KZ1.out rfl KZ2.out ?_;have R9:=setRow_heap w6 _ _ (ae sup0) _ _ r8;have BF:=below_setRow B8 (Nat.le_refl _) (ae sup0)))
   exact bodyPost_ret (v:= .tuple #[.agg (ae sup0), .int .i64 53]) (bX Tryz.results84 _ _ w.heap.size 40 _ _ _ rfl R9 Tryz.underlying40 rfl KZ1.out) rfl ⟨by rw [HF.out],BF⟩
 have HV:=aa hv
 clear hv
 by_cases hD:dv s=sec
 · have HF:=aa (show bq r=(s,0) by rw [HU.out,if_neg (by simp [HV.out,hD])])
   have KQ:=aa (fun w=>show(Op.equalIn 10000 148 (.agg (ints .u8 (dv s)).toArray) (.agg (ints .u8 sec).toArray)).run Tryz.prog w= .ok true w by rw [OJ _ _ (eJ s) hl64 w,show decide (dv s=sec)=true by simpa using hD])
   clear hD HU
   refine wp_region_noPanic ?_
   refine wp_region_held_drew (S:=fun w'=>w'.rangeAt G5 0 (gL s)/\w'.rangeAt G4 0 (ints .u8 sec)) (by kernel_rfl) (HS.out _ (Below.refl _ _).drew) (fun hHeld=>?_)
   refine aV 0 (.agg (gL s).toArray) rfl (yieldsIf_load_mid (by rfl) 40 _ rfl G5 (0) rfl (gL s) _ (fun w hS=>hS.1) Tryz.underlying40 rfl (by rw [cj];rfl)) hHeld ?_
   try go_frame
   refine bR 1 rfl (fun K hK=>?_)
   go_simp
   go_at_call 99
   refine(lX _ s).mono ?_
   rintro e w6 ⟨rfl,bb6⟩
   rw [HV.out]
   have b6:Below W7.heap.size W7 w6:=(Below.refl _ W7).drew.trans bb6
   clear bb6
   go_wp2_with fail
   refine hK.out _ _ (HS.out _ b6) ?_
   clear hK K hHeld
   intro hHeld
   try go_frame
   refine ai 2 (.bool false) rfl hHeld ?_
   try go_frame
   refine ai 3 (.bool false) rfl hHeld ?_
   try go_frame
   refine aV 4 (.agg (gL s).toArray) rfl (yieldsIf_load_mid (by rfl) 40 _ rfl G5 (0) rfl (gL s) _ (fun w hS=>hS.1) Tryz.underlying40 rfl (by rw [cj];rfl)) hHeld ?_
   try go_frame
   refine aV 6 (.agg (ints .u8 sec).toArray) rfl (yieldsIf_load_mid (by rfl) 148 _ rfl G4 (0) rfl (ints .u8 sec) _ (fun w hS=>hS.2) Tryz.underlying148 rfl Sh.out) hHeld ?_
   try go_frame
   refine bR 5 rfl (fun K hK=>?_)
   go_simp
   go_at_call 100
   refine(nr _ s HV.out).mono ?_
   rintro e w7 ⟨rfl,bb7⟩
   have b7:=b6.trans (bb7.mono b6.size)
   go_wp2_with fail
   refine hK.out _ _ (HS.out _ b7) ?_
   clear hK K hHeld
   intro hHeld
   try go_frame
   refine aV 7 (.bool false) rfl (yA (by intro w hS;have q:=KQ.out w;have gq:=AB;go_simp)) hHeld ?_
   try go_frame
   refine ai 8 (.bool false) rfl hHeld ?_
   try go_frame
   refine dY ?_
   clear hHeld
   obtain⟨r8,s8,B8⟩:=HR.out _ b7
   go_wp2_with (first| (refine aG rfl 40 (.tmp 5) rfl G5 rfl 40 (ae s) (0,0) _ s8 Tryz.underlying40 rfl KU1.out ?_)| (refine wpList_store_row rfl 40 _ _ rfl w.heap.size (ae s) rfl rfl 40 _ r8 KU1.out KZ4.out KU2.out ?_;have R9:=setRow_heap w7 _ _ (ae s) _ _ r8;have BF:=below_setRow B8 (Nat.le_refl _) (ae s)))
   exact bodyPost_ret (v:= .tuple #[.agg (ae s), .int .i64 0]) (bX Tryz.results84 _ _ w.heap.size 40 _ _ _ rfl R9 Tryz.underlying40 rfl KU1.out) rfl ⟨by rw [HF.out],BF⟩
 · have HF:=aa (show bq r=(sup0,53) by rw [HU.out,if_pos (Or.inr hD)])
   have KQ:=aa (fun w=>show(Op.equalIn 10000 148 (.agg (ints .u8 (dv s)).toArray) (.agg (ints .u8 sec).toArray)).run Tryz.prog w= .ok false w by rw [OJ _ _ (eJ s) hl64 w,show decide (dv s=sec)=false by simpa using hD])
   clear hD HU
   refine wp_region_noPanic ?_
   refine wp_region_held_drew (S:=fun w'=>w'.rangeAt G5 0 (gL s)/\w'.rangeAt G4 0 (ints .u8 sec)) (by kernel_rfl) (HS.out _ (Below.refl _ _).drew) (fun hHeld=>?_)
   refine aV 0 (.agg (gL s).toArray) rfl (yieldsIf_load_mid (by rfl) 40 _ rfl G5 (0) rfl (gL s) _ (fun w hS=>hS.1) Tryz.underlying40 rfl (by rw [cj];rfl)) hHeld ?_
   try go_frame
   refine bR 1 rfl (fun K hK=>?_)
   go_simp
   go_at_call 99
   refine(lX _ s).mono ?_
   rintro e w6 ⟨rfl,bb6⟩
   rw [HV.out]
   have b6:Below W7.heap.size W7 w6:=(Below.refl _ W7).drew.trans bb6
   clear bb6
   go_wp2_with fail
   refine hK.out _ _ (HS.out _ b6) ?_
   clear hK K hHeld
   intro hHeld
   try go_frame
   refine ai 2 (.bool false) rfl hHeld ?_
   try go_frame
   refine ai 3 (.bool false) rfl hHeld ?_
   try go_frame
   refine aV 4 (.agg (gL s).toArray) rfl (yieldsIf_load_mid (by rfl) 40 _ rfl G5 (0) rfl (gL s) _ (fun w hS=>hS.1) Tryz.underlying40 rfl (by rw [cj];rfl)) hHeld ?_
   try go_frame
   refine aV 6 (.agg (ints .u8 sec).toArray) rfl (yieldsIf_load_mid (by rfl) 148 _ rfl G4 (0) rfl (ints .u8 sec) _ (fun w hS=>hS.2) Tryz.underlying148 rfl Sh.out) hHeld ?_
   try go_frame
   refine bR 5 rfl (fun K hK=>?_)
   go_simp
   go_at_call 100
   refine(nr _ s HV.out).mono ?_
   rintro e w7 ⟨rfl,bb7⟩
   have b7:=b6.trans (bb7.mono b6.size)
   go_wp2_with fail
   refine hK.out _ _ (HS.out _ b7) ?_
   clear hK K hHeld
   intro hHeld
   try go_frame
   refine aV 7 (.bool true) rfl (yA (by intro w hS;have q:=KQ.out w;have gq:=AB;go_simp)) hHeld ?_
   try go_frame
   refine ai 8 (.bool true) rfl hHeld ?_
   try go_frame
   refine dY ?_
   clear hHeld
   obtain⟨r8,s8,B8⟩:=HR.out _ b7
   go_wp2_with (first| (refine wpList_store_row rfl 40 _ _ rfl w.heap.size (ae sup0) rfl rfl 40 _ r8 KZ1.out rfl KZ2.out ?_;have R9:=setRow_heap w7 _ _ (ae sup0) _ _ r8;have BF:=below_setRow B8 (Nat.le_refl _) (ae sup0)))
   exact bodyPost_ret (v:= .tuple #[.agg (ae sup0), .int .i64 53]) (bX Tryz.results84 _ _ w.heap.size 40 _ _ _ rfl R9 Tryz.underlying40 rfl KZ1.out) rfl ⟨by rw [HF.out],BF⟩
theorem OM:Tryz.prog.eqGuardType Tryz.prog.depth 40=false:=by kernel_rfl
theorem Rt(s t:aD)(w:World):(Op.equalIn 10000 40 (.agg (ae s)) (.agg (ae t))).run Tryz.prog w= .ok (decide (s=t)) w:=by
 obtain⟨a,b,c,d,e⟩:=s
 obtain⟨a',b',c',d',e'⟩:=t
 unfold ae
 go_simp
 repeat' split
 all_goals simp_all
theorem vR(s:aD):(dv s++List.replicate 192 (0:Int)).length=256:=by rw [List.length_append,eJ,List.length_replicate]
theorem AD(w:World)(s:aD)(hv:aJ s=true):
   Calls Tryz.prog 82 #[.agg (ae s)] w fun e w'=> ∃g,e= .returned (.tuple #[.slice (some ⟨g,0,none⟩) 256 256, .int .i64 0])/\w.heap.size<=g/\w'.heap[g]? =some (.cells (ints .u8 (dv s++List.replicate 192 0)).toArray 5 (0,0))/\Below w.heap.size w w':=by
 refine(zX w s).mono ?_
 rintro e w' ⟨v,rfl,hN,hB⟩
 rw [yR s hv]at hN⊢
 rcases hN with⟨_,h0⟩| ⟨_,g,rfl,hg,hr⟩
 · have:=vR s;simp only at h0;rw [h0]at this;simp at this
 · exact⟨g,by simp only [vR],hg,hr,hB⟩
end Go.Proofs.YtpdakmhnnkaafaaGreat
