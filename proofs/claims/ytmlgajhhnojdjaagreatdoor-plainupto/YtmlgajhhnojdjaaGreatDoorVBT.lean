/- Proved: the law Plain (what Elaborate makes of a program begins with its locals; and if the program has one block, which ends, there is no flag and no test in it) answers true. Conditions: the text has at most 2^20 letters; the listed package variables hold what the program's text lays. -/
import Derived.Deep.Slices
import Derived.OpenShut
import Derived.ProofKit
import Derived.Test.YtmlgajhhnojdjaaGreatDoorCards
import Derived.Test.YtmlgajhhnojdjaaGreatDoorTie
import Derived.Test.YtmlgajhhnojdjaaGreatDoorVBS
import Derived.Deep.DeepWitnessRowRef
namespace Go.Proofs.YtmlgajhhnojdjaaGreatDoor
namespace PrjY
open Go Go.RowKit Sq PrjF PrjG
section
variable {H:Type} {enc:TypeId×Value->H} {P:Program} {w:World} {base:Nat} {sp:Nat->Bool} {held:Bool} {fuel:Nat} {t:TypeId} {cs:List Value} {p:List MemPlace}
theorem pZ {l:B}(ht:P.underlying t=some .string)(h:DataW.trod enc P w base sp held fuel t cs=some (.lit (.string l),p)):cs=[.string (bs l)]:=by
 cases fuel with
 |zero=>simp[DataW.trod]at h
 |succ fuel=>
  match cs with
  |[]=>simp[DataW.trod,ht]at h
  |_::_::_=>simp[DataW.trod,ht]at h
  |[c]=>
   cases c<;>simp[DataW.trod,ht]at h
   obtain⟨-,h,-⟩:=h;rename_i s;rw[<-h];simp[bs]
theorem tZ {n:Nat}{e:TypeId}{ds:List (DataW H)}(ht:P.underlying t=some (.array n e))(h:DataW.trod enc P w base sp held fuel t cs=some (.agg ds,p)):
  ∃fuel',cs.length=P.cellsOf t/\ds.length=n/\∀i d,ds[i]?=some d->∃p',DataW.trod enc P w base sp held fuel' e ((cs.drop (i*P.cellsOf e)).take (P.cellsOf e))=some (d,p'):=by
 cases fuel with
 |zero=>simp[DataW.trod]at h
 |succ fuel=>
  simp only[DataW.trod,ht]at h;split at h
  ·rename_i hl;obtain⟨xs,hm,hx⟩:=Option.map_eq_some_iff.1 h;simp only[Prod.mk.injEq,DataW.agg.injEq]at hx;have xC:xs.length=n:=by simpa using Lib.mapM_length hm
   refine⟨fuel,hl,by rw[<-hx.1];simpa using xC,fun i d hd=> ?_⟩;rw[<-hx.1,jJ,Option.map_eq_some_iff]at hd;obtain⟨y,hy,rfl⟩:=hd;have hi:i<n:=by
    rcases Nat.lt_or_ge i n with hi|hi
    ·exact hi
    ·rw[jG (by omega)]at hy;cases hy
   obtain⟨b,hb,hf⟩:=Lib.mapM_at hm i i (by simp[hi]);rw[hy]at hb;cases hb
   exact⟨y.2,hf⟩
  ·cases h
theorem Ju {f0 f1:Field}{a b:B}(ht:P.underlying t=some (.struct #[f0,f1]))(h0:f0.offset=0)(h1:f1.offset=1)(u0:P.underlying f0.type=some .string)(u1:P.underlying f1.type=some .string)(c0:P.cellsOf f0.type=1)(c1:P.cellsOf f1.type=1)(ct:P.cellsOf t=2)
  (h:DataW.trod enc P w base sp held fuel t cs=some (.agg [.lit (.string a),.lit (.string b)],p)):cs=[.string (bs a),.string (bs b)]:=by
 cases fuel with
 |zero=>simp[DataW.trod]at h
 |succ fuel=>
  simp only[DataW.trod,ht]at h;split at h
  ·rename_i hl;rw[ct]at hl;obtain⟨xs,hm,hx⟩:=Option.map_eq_some_iff.1 h;simp only[Prod.mk.injEq,DataW.agg.injEq]at hx;obtain⟨b0,mV,Mx⟩:=Lib.mapM_at hm 0 f0 (by simp);obtain⟨b1,aB,Pr⟩:=Lib.mapM_at hm 1 f1 (by simp);have e0:=congrArg (·[0]?) hx.1;have e1:=congrArg (·[1]?) hx.1;simp only[List.getElem?_map,mV,aB,Option.map_some,List.getElem?_cons_zero,List.getElem?_cons_succ,Option.some.injEq]at e0 e1;rw[h0,c0]at Mx;rw[h1,c1]at Pr;have g0:=pZ (l:=a) (p:=b0.2) u0 (by rw[Mx,<-e0]);have g1:=pZ (l:=b) (p:=b1.2) u1 (by rw[Pr,<-e1])
   match cs,hl with
   |[x,y],_=>
    simp only[List.drop_zero,List.take_succ_cons,List.take_zero,List.cons.injEq,and_true]at g0;simp only[List.drop_succ_cons,List.drop_zero,List.take_succ_cons,List.take_zero,List.cons.injEq,and_true]at g1;rw[g0,g1]
  ·cases h
end
theorem iM {α:Type}(f:α->List Value)(m:Nat)(hf:∀x,(f x).length=m):∀(l:List α) (cs:List Value),cs.length=l.length*m->(∀i x,l[i]?=some x->(cs.drop (i*m)).take m=f x)->cs=l.flatMap f
 |[],cs,hl,_=>by simpa using hl
 |x::l,cs,hl,h=>by
  have h0:=h 0 x rfl;rw[Nat.zero_mul,List.drop_zero]at h0;have ih:=iM f m hf l (cs.drop m) (by rw[List.length_drop,hl,jY,Nat.add_mul];omega) (fun i y hy=>by
   have:=h (i+1) y (by simpa using hy);rw[List.drop_drop,show m+i*m=(i+1)*m by rw[Nat.add_mul];omega];exact this)
  rw[List.flatMap_cons,<-h0,<-ih,List.take_append_drop]
theorem ew {P:Program}{w:World}{n:String}{g:Nat}{cs:Array Value}(hg:P.globalNamed n=some g)(h:w.var? P n=some cs):(∀j,w.cell? ⟨g,j,none⟩=cs[j]?)/\g<w.heap.size:=by
 unfold World.var? at h;rw[hg]at h;simp only[Option.bind_some]at h;split at h
 ·rename_i cs' t f hh;cases h
  exact⟨fun j=>by simp[World.cell?,hh],by rw[Array.getElem?_eq_some_iff]at hh;exact hh.1⟩
 ·cases h
theorem Bp {H:Type}:(Rows.laid_stow_prog_shapes:DataW H)=.agg (dh.map fun x=> .agg [.lit (.string x.1),.lit (.string x.2)]):=rfl
theorem Dm {H:Type}:(Rows.laid_stow_prog_typeWords:DataW H)=.agg (bZ.map fun x=> .lit (.string x)):=rfl
theorem yz {P:Program}{w:World}{g:Nat}{t:TypeId}{zero:Array Value}(h:w.ShapedOpen P)(hg:g<P.globals.size)(h0:((begin P (fun _ _=>0) default).world.heap[g]?).bind Obj.row?=some (zero,t))(hz:zero.size=1)
  (hb:P.buildable t=true) (hc:P.cellTypes P.depth t=some [t]) (hu:P.underlying t=some (.int .i64)):∃m:Int,w.cell? ⟨g,0,none⟩=some (.int .i64 m):=by
 obtain⟨cs,hh,hs,hr⟩:=h.1 g zero t hg h0;obtain⟨ts,Ws,-,Kv⟩:=hr hb;rw[hc]at Ws;cases Ws
 have h1:0<cs.size:=by omega
 obtain⟨u,YP,oF⟩:=Kv 0 cs[0] (by simp[h1]);have:u=t:=by simpa using YP.symm
 subst this;have aQ:w.cell? ⟨g,0,none⟩=some cs[0]:=by simp[World.cell?,hh,h1]
 rw[aQ];unfold Cell.ok at oF;rw[hu]at oF;cases hv:cs[0]<;>rw[hv]at oF<;>simp at oF
 rename_i k n;obtain⟨rfl,-⟩:=oF;exact⟨n,rfl⟩
theorem Oo {P:Program}{laid:List (String×DataW Unit)}{W:World}(hf:(laid.filter fun x=>x.2.handleName?.isSome)=[])(h:laidMetH P laid W):laidMet P laid W:=by
 unfold laidMetH at h;rw[hf]at h;exact h
theorem gm {P:Program}{w:World}{n:String}{d:DataW Unit}:∀{laid:List (String×DataW Unit)} {ps:List MemPlace},DataW.LaidVars P w laid ps->(n,d)∈laid->∃g t cs fuel p,P.globalNamed n=some g/\(P.globals[g]?).map (·.type)=some t/\w.var? P n=some cs/\DataW.trod (fun _=>()) P w 0 (fun _=>true) false fuel t cs.toList=some (d,p)
 |[],_,_,hm=>by cases hm
 |(n',d')::r,ps,h,hm=>by
  obtain⟨g,t,cs,fuel,p,q,h1,h2,h3,h4,h5,-⟩:=h;rcases jP.1 hm with e|hm
  ·cases e;exact⟨g,t,cs,fuel,p,h1,h2,h3,h4⟩
  ·exact gm h5 hm
theorem qW:Tryz.prog.globalNamed "stow/prog.shapes" =some 0:=by kernel_rfl
theorem tv:Tryz.prog.globalNamed "stow/prog.typeWords" =some 1:=by kernel_rfl
theorem AY:Tryz.prog.globalNamed "strconv.ErrSyntax" =some 9:=by kernel_rfl
theorem tu:Tryz.prog.globalNamed "strconv.ErrRange" =some 10:=by kernel_rfl
theorem BA:(Tryz.prog.globals[0]?).map (·.type)=some 148:=by kernel_rfl
theorem Dl:(Tryz.prog.globals[1]?).map (·.type)=some 149:=by kernel_rfl
theorem JB:(Tryz.prog.globals[9]?).map (·.type)=some 221:=by kernel_rfl
theorem Jz:(Tryz.prog.globals[10]?).map (·.type)=some 221:=by kernel_rfl
theorem ya:Tryz.prog.cellsOf 148=46:=by kernel_rfl
theorem qN:Tryz.prog.cellsOf 147=2:=by kernel_rfl
theorem qP:Tryz.prog.cellsOf 149=4:=by kernel_rfl
theorem gH:Tryz.prog.cellsOf 9=1:=by kernel_rfl
theorem many:Tryz.prog.globals.size=11:=by kernel_rfl
theorem Nn {laid:List (String×DataW Unit)}{W:World}(hL:laidMet Tryz.prog laid W)(vL:W.ShapedOpen Tryz.prog)(m1:("stow/prog.shapes",Rows.laid_stow_prog_shapes)∈laid)(m2:("stow/prog.typeWords",Rows.laid_stow_prog_typeWords)∈laid)
  (m3:("strconv.ErrSyntax",Rows.laid_strconv_ErrSyntax)∈laid) (m4:("strconv.ErrRange",Rows.laid_strconv_ErrRange)∈laid):Env W:=by
 obtain⟨ps,hV,-⟩:=hL;refine⟨?_,?_,?_,?_,?_,?_⟩
 ·obtain⟨g,t,cs,fuel,p,h1,h2,h3,h4⟩:=gm hV m1;rw[qW]at h1;cases h1
  rw[BA]at h2;cases h2
  rw[Bp]at h4;obtain⟨fuel',hl,hn,hi⟩:=tZ Tryz.underlying148 h4;rw[ya]at hl;have sW:cs.toList=dF:=by
   refine iM (fun x:B×B=>[.string (bs x.1),.string (bs x.2)]) 2 (fun _=>rfl) dh cs.toList hl fun i x hx=> ?_
   obtain⟨p',rY⟩:=hi i (.agg [.lit (.string x.1),.lit (.string x.2)]) (by rw[jJ,hx];rfl);rw[qN]at rY;exact Ju Tryz.underlying147 rfl rfl Tryz.underlying9 Tryz.underlying9 gH gH qN rY
  obtain⟨hc,-⟩:=ew qW h3;intro j v hv;rw[Nat.zero_add,hc,<-Array.getElem?_toList,sW];exact hv
 ·obtain⟨g,t,cs,fuel,p,h1,h2,h3,h4⟩:=gm hV m2;rw[tv]at h1;cases h1
  rw[Dl]at h2;cases h2
  rw[Dm]at h4;obtain⟨fuel',hl,hn,hi⟩:=tZ Tryz.underlying149 h4;rw[qP]at hl;have sW:cs.toList=bZ.flatMap (fun x:B=>[.string (bs x)]):=by
   refine iM (fun x:B=>[.string (bs x)]) 1 (fun _=>rfl) bZ cs.toList hl fun i x hx=> ?_
   obtain⟨p',rY⟩:=hi i (.lit (.string x)) (by rw[jJ,hx];rfl);rw[gH]at rY;exact pZ Tryz.underlying9 rY
  obtain⟨hc,-⟩:=ew tv h3;intro j v hv;rw[Nat.zero_add,hc,<-Array.getElem?_toList,sW];exact hv
 ·exact yz vL (by rw[many];decide) (g:=3) (t:=3) (zero:= #[.int .i64 0]) (by kernel_rfl) rfl (by kernel_rfl) (by kernel_rfl) Tryz.underlying3
 ·obtain⟨g,t,cs,fuel,p,h1,h2,h3,h4⟩:=gm hV m3;rw[AY]at h1;cases h1
  rw[JB]at h2;cases h2
  obtain⟨fuel',u,v,sW,-⟩:=iface_of_trod Tryz.underlying221 h4;obtain⟨hc,-⟩:=ew AY h3;exact⟨u,v,by rw[hc,<-Array.getElem?_toList,sW];rfl⟩
 ·obtain⟨g,t,cs,fuel,p,h1,h2,h3,h4⟩:=gm hV m4;rw[tu]at h1;cases h1
  rw[Jz]at h2;cases h2
  obtain⟨fuel',u,v,sW,-⟩:=iface_of_trod Tryz.underlying221 h4;obtain⟨hc,-⟩:=ew tu h3;exact⟨u,v,by rw[hc,<-Array.getElem?_toList,sW];rfl⟩
 ·obtain⟨g,t,cs,fuel,p,h1,h2,h3,h4⟩:=gm hV m4;have:=(ew tu h3).2;omega
end PrjY
namespace PrjY
open Go Go.RowKit Sq Go.Proofs.YtmlgajhhnojdjaaGreatDoor.Own
theorem Jy:(Tryz.prog.globals[4]?).map (·.type)=some 299:=by kernel_rfl
theorem I9 {H:Type}:(Rows.laid_internal_strconv_uint64pow10:DataW H)=Lib.tabData .u64 Lib.pow10Tab:=rfl
theorem EA:Tryz.prog.cellsOf 281=1:=by kernel_rfl
theorem Ez:Tryz.prog.cellsOf 299=20:=by kernel_rfl
theorem Ow {laid:List (String×DataW Unit)}{W:World}(hL:laidMet Tryz.prog laid W)(m:("internal/strconv.uint64pow10",Rows.laid_internal_strconv_uint64pow10)∈laid):Own.Pow W:=by
 obtain⟨ps,hV,-⟩:=hL;obtain⟨g,t,cs,fuel,p,h1,h2,h3,h4⟩:=gm hV m;rw[I8]at h1;cases h1
 rw[Jy]at h2;cases h2
 rw[I9]at h4;have:=Lib.cells_of_tab Tryz.underlying299 Tryz.underlying281 EA Ez h4;unfold Own.Pow Lib.TabIs;rw[h3,<-this]
end PrjY
namespace PrjZ
open Go Go.RowKit Sq
def pn {H:Type}:Nat->DataW H->List Value
 |0,_=>[]
 |_+1,.lit (.int k n)=>[.int k n]
 |_+1,.lit (.string l)=>[.string (bs l)]
 |n+1,.agg ds=>ds.flatMap (pn n)
 |_+1,_=>[]
def put (g:Nat)(cs:List Value)(h:Array Obj):Array Obj:=h.modify g fun
 | .cells _ t frozen=> .cells cs.toArray t frozen
 |o=>o
noncomputable def low:Nat:=(World.holding Tryz.prog default ⟨#[],#[],[]⟩).heap.size
noncomputable def qp (os:Os):World:=
 let w0:=World.holding Tryz.prog os ⟨#[.cells #[.string (bs [118,97,108,117,101,32,111,117,116,32,111,102,32,114,97,110,103,101])] 327,.cells #[.string (bs [105,110,118,97,108,105,100,32,115,121,110,116,97,120])] 327],#[],[]⟩
 {w0 with heap:=put 0 (pn 8 (Rows.laid_stow_prog_shapes (H:=Unit))) (put 1 (pn 8 (Rows.laid_stow_prog_typeWords (H:=Unit))) (put 2 (pn 8 (Rows.laid_stow_prog_suffixes (H:=Unit)))
   (put 4 (pn 8 (Rows.laid_internal_strconv_uint64pow10 (H:=Unit))) (put 5 (pn 8 Rows.laid_unicode_utf8_first) (put 6 (pn 8 (Rows.laid_unicode_utf8_acceptRanges (H:=Unit)))
   (put 7 (pn 8 (Rows.laid_math_bits_deBruijn32tab (H:=Unit))) (put 8 (pn 8 (Rows.laid_math_bits_deBruijn64tab (H:=Unit)))
   (put 10 [.iface 325 (.pointer (some ⟨low,0,none⟩))] (put 9 [.iface 325 (.pointer (some ⟨low+1,0,none⟩))] w0.heap)))))))))}
end PrjZ
namespace PrjY
open Go Go.RowKit Sq PrjF PrjG El
theorem AX:Tryz.prog.globalNamed "stow/prog.suffixes" =some 2:=by kernel_rfl
theorem JA:(Tryz.prog.globals[2]?).map (·.type)=some 149:=by kernel_rfl
theorem Jp {H:Type}:(Rows.laid_stow_prog_suffixes:DataW H)=.agg ([fU 0,fU 1,fU 2,fU 3].map fun x=> .lit (.string x)):=rfl
theorem OD {laid:List (String×DataW Unit)}{W:World}(hL:laidMet Tryz.prog laid W)(m:("stow/prog.suffixes",Rows.laid_stow_prog_suffixes)∈laid):ks W:=by
 obtain⟨ps,hV,-⟩:=hL;obtain⟨g,t,cs,fuel,p,h1,h2,h3,h4⟩:=gm hV m;rw[AX]at h1;cases h1
 rw[JA]at h2;cases h2
 rw[Jp]at h4;obtain⟨fuel',hl,hn,hi⟩:=tZ Tryz.underlying149 h4;rw[qP]at hl;have sW:cs.toList=[fU 0,fU 1,fU 2,fU 3].flatMap (fun x:B=>[.string (bs x)]):=by
  refine iM (fun x:B=>[.string (bs x)]) 1 (fun _=>rfl) [fU 0,fU 1,fU 2,fU 3] cs.toList hl fun i x hx=> ?_
  obtain⟨p',rY⟩:=hi i (.lit (.string x)) (by rw[jJ,hx];rfl);rw[gH]at rY;exact pZ Tryz.underlying9 rY
 obtain⟨hc,-⟩:=ew AX h3;intro j v hv;rw[Nat.zero_add,hc,<-Array.getElem?_toList,sW];exact hv
theorem IB (os:Os)(args:Array Value):laidMet Tryz.prog Rows.plainUptoRow.laid ((PrjZ.qp os).forCall (fun _ _=>0) ⟨#[],args,[]⟩).memory:=
 laidMet_of_run' 8 (by kernel_rfl) (by kernel_rfl)
end PrjY
namespace plainCard
open Go.ChangeShapes Go.WideShapes Go.ChangeAt Go.RowKit
open Go.ChangeMaps (open_string shut_string)
theorem own:ownKnob Tryz.prog.godebug=none:=by kernel_rfl
theorem Om (s:ByteArray):s=Sq.bs s.data.toList:=by simp[Sq.bs]
theorem short {H:Type}{s:ByteArray}(hk:Rows.uptoSmall H [.lit (.string s.data.toList)]=true):s.data.toList.length<=1048576:=by
 have h:Rows.uptoBulkAll [DataW.lit (H:=H) (.string s.data.toList)]<=1048576:=of_decide_eq_true hk;simp only[Rows.uptoBulkAll,Rows.uptoBulk]at h;omega
set_option maxRecDepth 100000 in
theorem Hc (H:Type)(enc:TypeId×Value->H)(W:World)(base:Nat)(args:Array Value)(ds gs:List (DataW H))(before:List MemPlace)
  (hval:∀(j:Nat) t v,Tryz.f13.params[j]?=some t->args[j]?=some v->Value.okWide Tryz.prog W .any base t v)
  (hW:DataW.Whole enc Tryz.prog Tryz.f13.params.toList Rows.plainSpec.vars false W args.toList ds gs before) (hk:Rows.uptoSmall H (ds++gs)=true) (hL:laidMetH Tryz.prog Rows.plainUptoRow.laid W) (vL:W.ShapedOpen Tryz.prog):
  Calls Tryz.prog 13 args W fun e W'=>∃v,e=.returned v/\Rows.plainSpec.post enc Tryz.prog Tryz.f13 false true false false W args v W':=by
 have hM:=PrjY.Oo (by kernel_rfl) hL;have E:=PrjY.Nn (laid:=Rows.plainUptoRow.laid) hM vL (by simp[Rows.plainUptoRow]) (by simp[Rows.plainUptoRow]) (by simp[Rows.plainUptoRow]) (by simp[Rows.plainUptoRow]);have hp:=PrjY.Ow (laid:=Rows.plainUptoRow.laid) hM (by simp[Rows.plainUptoRow]);have hS:=PrjY.OD (laid:=Rows.plainUptoRow.laid) hM (by simp[Rows.plainUptoRow]);have VK:=hW;obtain⟨p,q,Vj,hV,rfl,Zf,Zn⟩:=hW;have hA:DataW.TrodAll enc Tryz.prog W 0 (fun _=>true) true Tryz.f13.params.toList args.toList ds p:=Vj;rw[Tryz.params13]at hA;have YS:=fun v (h:args[0]?=some v)=>hval 0 9 v (by rw[Tryz.params13];rfl) h
 clear hval;obtain⟨v0,d0,rfl,rfl,h0⟩:=trodAll_one hA;obtain⟨rfl,rfl⟩:=trodVars_none hV;obtain⟨s,rfl,rfl,rfl,ms⟩:=open_string Tryz.underlying9 (YS v0 rfl) h0;clear Vj;simp only[List.append_nil]at VK hk;have l1:=short hk;have walk:=El.Eo s.data.toList W l1 E hS hp;rw[<-Om]at walk;refine walk.mono fun e W' ⟨he,hb⟩=> ?_
 subst he;exact⟨_,rfl,_,_,_,[],_,[],VK,trodAll_mk1 (shut_bool Tryz.underlying4 _),trodAll_mk1 (shut_string Tryz.underlying9 ms),rfl,hb.frame _,fun h=>by cases h⟩
theorem reads (os:Os){H:Type}(enc:TypeId×Value->H):∃places,DataW.whole enc Tryz.prog ((PrjZ.qp os).forCall (fun _ _=>0) ⟨#[],#[.string ⟨#[]⟩],[]⟩).memory Tryz.f13.params.toList Rows.plainSpec.vars false #[Value.string ⟨#[]⟩].toList 8=some ([.lit (.string [])],[],places):=
 ⟨[],by kernel_rfl⟩
set_option maxRecDepth 100000 in
theorem CI (os:Os)(started:os.Started)(H:Type)(enc:TypeId×Value->H)(F:Stop.Interp):
  ReturnsInHanded {} Tryz.checked os 13 .any ((Rows.OpenSpec.upto Rows.plainSpec).preRow enc Tryz.prog Tryz.f13 Rows.plainUptoRow.domain false Rows.plainUptoRow.laid) (((Rows.OpenSpec.upto Rows.plainSpec).at F).post enc Tryz.prog Tryz.f13 false true false false):=by
 obtain⟨places,hx⟩:=reads os enc;refine returnsInHanded_of_row (C:=Tryz.checked) (s:=Rows.OpenSpec.upto Rows.plainSpec) own started (by kernel_rfl) Tryz.func13
  (witness_row_at (enc:=enc) (C:=Tryz.checked) false (PrjZ.qp os) #[.string ⟨#[]⟩] rfl (by kernel_rfl) (by kernel_rfl) (by kernel_rfl)
   (OpenSpec.preRow_of_cond 8 hx (by kernel_rfl) (fun k hk=>by cases hk;kernel_rfl) (by kernel_rfl) (PrjY.IB os _))) ?_
 intro W base args ds gs before hval hW _ z8 _ hL vL _;exact Hc H enc W base args ds gs before hval hW (z8 _ rfl) hL vL
theorem Je:Rows.PlainUptoSaid:=
 OpenClaim.holds_of_cond 13 Tryz.f13 rfl rfl rfl rfl rfl rfl rfl ⟨rfl,rfl,rfl,rfl,rfl⟩ rfl rfl rfl rfl rfl (by kernel_rfl) Tryz.func13 (by kernel_rfl)
  (of_decide_eq_true (by kernel_rfl)) (by unfold Func.isWrapper;first|(rw[jb (by decide+kernel)];kernel_rfl)|(rw[ja (by decide+kernel)];exact⟨rfl,rfl⟩))
  (fun os started H enc _ F=>by rw[OpenClaim.pre_eq_preRow];exact CI os started H enc F)
theorem plain (f:FuncId)(fn:Func)(hf:Tryz.pinned.checked.prog.funcNamed "stow/stowkeep.Plain" =some f)(hfn:Tryz.pinned.checked.prog.funcs[f]?=some fn):
  true=Tryz.pinned.checked.prog.looks []/\∀(j:Nat) t,fn.params[j]?=some t->Tryz.pinned.checked.prog.wantsStandIn t=false:=by
 obtain rfl:f=13:=Option.some.inj ((show Tryz.prog.funcNamed "stow/stowkeep.Plain" =some 13 by kernel_rfl).symm.trans hf)|>.symm;obtain rfl:fn=Tryz.f13:=(Option.some.inj (Tryz.func13.symm.trans hfn)).symm;refine⟨by kernel_rfl,fun j t ht=> ?_⟩;rw[Tryz.params13]at ht;obtain rfl:t=9:=by simpa using Array.mem_of_getElem? ht
 exact(show Tryz.prog.wantsStandIn 9=false by kernel_rfl)
theorem cardUpto:Rows.PlainUptoCardSaid:=
 Claim7.holds_tied_plain_at .later [] _ _ _ _ Je (fun _ h=>by cases h) (by kernel_rfl) (fun _ h=>by cases h) plainUpto_row_tie rfl ⟨rfl,rfl⟩ (by kernel_rfl) rfl plain (by kernel_rfl)
end plainCard
end Go.Proofs.YtmlgajhhnojdjaaGreatDoor
