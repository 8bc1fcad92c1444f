import PyProof.Rows.All
import Wide.All
import OpenK.AllK
import PySem.Challenge.RW_annals_k28_reached
set_option Elab.async false
set_option linter.all false
set_option compiler.extract_closed false
set_option maxRecDepth 100000
set_option maxHeartbeats 4000000
abbrev Da:=List PySem.Str
abbrev Db:=List PySem.Value
abbrev Dc:=Option PySem.Value
abbrev Dd:=List PySem.Addr
abbrev De:=List (PySem.Addr×PySem.Obj)
abbrev Df:=List PySem.PyData
abbrev Dg:=List (PySem.Str×PySem.Str)
abbrev Dh:=PySem.Shared->Prop
abbrev AZ:=PySem.W.Frag
open List renaming length_map->QU,mem_singleton->QV,mem_cons_of_mem->QY,mem_map->QZ,mem_cons_self->Q1,length_append->Q4,getElem?_eq_getElem->Q5,map_append->Q6,mem_cons->Q7,getElem?_map->Za,mem_of_getElem?->Zc,length_cons->Zd,mem_append->Zf,size_toArray->Zg,getElem?_eq_some_iff->Zl,length_take->Zm,map_cons->Zn,mem_append_right->Zo,take_length->Zq,all_eq_true->Zu,map_map->Zv,append_nil->Zy,mem_append_left->ZC,getElem_map->ZF,getElem?_append_left->ZI,mem_iff_getElem->ZJ,length_singleton->ZN,getElem?_eq_none->ZO,getElem?_append_right->ZQ,mem_of_mem_take->ZU,getElem_mem->ZV,getD_eq_getElem?_getD->ZX,map_congr_left->Z0,nodup_cons->Z1,any_eq_true->Z2,not_mem_nil->Z3,take_add_one->Z4,foldl_append->Z5,append_assoc->Z6,mem_iff_getElem?->Z7,length_drop->Z9,nodup_nil->Yb,length_pos_iff->Yg,length_filter_le->Yi,length_range->Yq,mem_filter->Ys,cons_ne_nil->Yv,nodup_append->Yw,filterMap_cons->Yy,find?_cons->YA,sum_cons->YG,eq_nil_of_length_eq_zero->YI,length_nil->YN,getElem_inj->YV,filter_cons->YW,mem_filterMap->YZ,nodup_iff_pairwise_ne->Y2,take_append_drop->Y4,getElem?_zip_eq_some->Y5,pairwise_iff_getElem->Y6,range_succ->Y8,map_take->Jd,eq_nil_iff_forall_not_mem->Jl,filter_append->Jr,foldl_cons->Jt,not_lt->Jy,getElem?_eq_none_iff->JB,of_mem_zip->JG,mem_range->JM,any_eq_false->JO,map_nil->JQ,take_of_length_le->JR,filter_eq_nil_iff->JU,getElem?_toArray->JY,flatMap_def->J8,mem_flatMap->J9,map_fst_zip->Va,map_id->Vc,mem_of_mem_drop->Vd,dropLast_concat_getLast->Ve,pairwise_cons->Vm,le_antisymm->Vy,sum_append->VG,nil_append->VH
open PySem renaming wpAny_bind->QW,wpAny_pure->Q3,boot_len->ZE,wpAny_newObj_type->ZR,wpAny_call_entry->Ya,wpAny_mono->Yd,sizeLine_eq->Yj,wpAny_holding->Yr,wpAny_callSpecial?_slot->Yu,mem_of_lookup->Yz,wpAny_Call_Name_kw->YD,wpAny_setField->YH,wpAny_truthy_bool->YJ,codeAny_builtin->YO,codeAny_mono->YU,wpAny_passesOwn->Y7,wpAny_setState_of->Ja,wpAny_setEntries_of->Jf,wpAny_askSetting->Jj,isSubtype_type->Jk,call_meets->Jo,tupleKind_room_in1->Jp,wpAny_of_eq->Jw,codeAny_call_builtin->Jx,wpAny_isInstance->JA,wpAny_attempt->JE,wpAny_execs_nil->JF,wpAny_specialOf->JH,wpAny_field->JJ,wpAny_Call_method0_late->JK,wpAny_pyIter_list->JN,wpAny_call->J1,typeIs_str->J3,wpAny_rule->J4,evalArgs_none->Vg,wpAny_typeOf->Vi,wpAny_tupleItemsOf->Vj,wpAny_fieldsOf->Vl,plainId_quiet->Vs,wpAny_execs_cons->Vu,wpAny_forIn_list->Vx,call_meetsIn->Vz,codeAny_of_tree->VE,wpAny_ite_split->VF
abbrev QX:=@decide_eq_true
abbrev Q9:=@decide_eq_false
abbrev Zb:=@of_decide_eq_true
abbrev Zh:=@if_neg
abbrev Zk:=@if_pos
abbrev Zt:=@decide_eq_true_iff
abbrev ZP:=@decide_eq_true_eq
abbrev Yx:=@beq_eq_false_iff_ne
abbrev YM:=@decide_eq_false_iff_not
abbrev Y3:=@of_decide_eq_false
abbrev Jn:=@beq_iff_eq
abbrev Js:=@or_false
abbrev JD:=@if_false
abbrev JT:=@iff_of_false
abbrev J6:=@decide_eq_decide
abbrev Vh:=@ne_true_of_eq_false
abbrev VB:=@getElem?_pos
abbrev VJ:=@if_true
open PySem.Heap renaming get?_push_of_some->Q0,get?_push_size->Ze,lt_size->Zi,get?_update_self->ZY,size_push->Yk,get?_update_other->Ym,get?_none_of_le->Vb
open Nat renaming le_refl->Q2,lt_of_lt_of_le->Zp,ne_of_lt->Zr,zero_le->Zz,le_trans->ZD,lt_irrefl->Yc,le_of_lt->Yn,succ_le_succ->YE,lt_succ_of_lt->YK,eq_zero_or_pos->Y1,le_succ_of_le->Jc,lt_succ_self->Jg,le_succ->Jm,lt_of_le_of_lt->JI,ne_of_gt->JL,le_of_eq->JP,lt_trichotomy->JS,min_le_right->Vv,lt_or_ge->VA,sub_self->VC,not_lt_zero->VI
open Bool renaming and_eq_true->Q8,false_ne_true->Zw,eq_iff_iff->Z8,false_eq_true->Yt,eq_false_iff->YL,false_and->YY,not_eq_true'->Y9,or_eq_false_iff->Jb,and_false->Jh,false_or->Vq,not_true->Vr,true_and->Vt,or_eq_true->VD
open PyProof.Rows renaming boot_isinstance->Zj,boot_str->ZS,boot_list->ZT,boot_tuple->ZZ,slot_tuple_getitem->YB,boot_all->YC,callWith_type1->YT,toString_length_le->Je,callWith_builtin1->J2,int_text_len_1921->J7
open Int renaming emod_lt_of_pos->Zx,emod_nonneg->ZG,eq_ofNat_of_zero_le->Ji,natAbs_natCast->Vk
open Array renaming length_toList->ZA,getD_eq_getD_getElem?->ZK,getElem?_toList->Yh,getElem?_eq_getElem->Yp,getElem?_eq_some_iff->YX,getElem?_eq_none->Jq,getElem_toList->Jz
open Option renaming map_eq_some_iff->ZB,map_some->Yl,isSome_iff_exists->YF,getD_some->J5,isSome_map->Vp
open PySem.W renaming mg_none_of->ZH,mg_of->ZM,kia_one->ZW,hideAll_get->YR,callWith_K->Y0,hideAll_none->Ju,methodCall_KW->JV,plainGet_of->Vf,kitx_list->Vn,kitx_dict->Vo
open PySem.F renaming plainAttrs_list->ZL,slot_list_append->Ye,type_list_append->Yf,plainAttrs_str->Yo,slot_dict_get->JW,slot_str_join->JZ,type_str_join->J0
open PySem.Value renaming isStrOf_shape->YQ
open PyProof.Rows.F renaming plain_set_update_loop->YS,entry_set_update_loop->JC
open PySem.W.KIN renaming signs_num->JX
open LawfulBEq renaming eq_of_beq->Vw
open PySem renaming Value->Eg,Addr->Eh,Program->Ei,Shared->Ej,wpAny->Ek,PyData->El,World->Eo,mainGlobals->Er,model->Es,FuncData->Eu,starEach->Ev,Heap->EC,Around->EF,Expr->EI,sysModules->EN,compareOp->EO,Stmt->ER,rawInt->EW,eval->EY,backTo->E7,cLine->E8,Paired->Ld,SetTable->Ll,attributeBase->Lo,bootBuiltins->Lx,ReadsAll->Lz,keywordEach->LG,Scope->LM,NameKind->LO,letOwnedTupleGo->LQ,codeAny->LR,entryOfKey->LU,sliceBounds->LW,DictEntry->LX,pickOrder->LY,compEnvC->L9,pyNext->Ma,getItem->Mf,swapsWith->Mg,getMethod->Mh,scanBound->Mi,backToKw->Mj,holding->Mn
open PySem.PyData renaming strOk->Em,canLayAll0->Ep,depthAll->Ez,eqv->EE,str->EL,eqvAll->EU,keyHash->LJ
open Sum renaming inr->Et
open PySem.Value renaming ref->Ew,none->EG,isStrOf->E2,bool->LS,str->L6,isInt->L8
open PySem.W renaming nsIn->Ey,kitOne->EB,findIn->EK,keepIn->ET,emptyDict->EZ,fnOf->E1,excIn->E3,instObj->Le,codeIn->Lr,plainGet->LK,hasDictIn->LZ,makesIn->Mb,isFn->Me
open List renaming range->EA,toArray->E6,lookup->Lw,replicate->LF
open Ne renaming symm->ED
open False renaming elim->EH
open Or renaming inl->EJ
open PySem.PassesOwn renaming never->EM,leaving->LD
open PySem.Builtin.Tuple renaming tupleHashOf->EQ,tupleExact->Lp,tupleItemsOf->LH
open PySem.Str renaming ofString->ES,empty->L7,join->Ml
open PySem.Heap.SameBut renaming update->EV
open PySem.Builtin.Str renaming occurrences->EX,strSub->La,partsBetween->Lq
open PySem.Obj renaming mapSeq->E4,mapFields->LA,putSet->Mm
open PySem.SetTable renaming below->E5,grown->Lu
open PySem.StrLaws renaming glued_eq_join->E9,subAt_one->L4
open PySem.Heap renaming SameBut->Lb
open Classical renaming propDecidable->Lc
open PySem.Calls renaming callWith_builtin->Lf,spliced_cons->LV
open PyProof.Rows renaming seqObj->Lg,AllBare->Md
open True renaming intro->Lh
open PySem.Builtin.Slice renaming slicePlaces->Li,sliceAdjust->LL
open PySem.Txt renaming join->Lj,split->Lv
open PySem.Around renaming under_plainId->Ln
open Pure renaming pure->Ly
open PySem.Builtin.List renaming listExtendWith->LB,listTooLong->LP
open PySem.SeqAt renaming eqBoolOverData->LI
open ToString renaming toString->LN
open PySem.F renaming slot_dict_items->L5
open ForInStep renaming yield->Mc
namespace L2
open PySem
section
variable {M:Model}{A:EF}{E:Eg->Dh}{s:Ej}{base:EC}{q:Array Eg->Prop}{env:Env}{outer:List Env}{L x:Eh}
def Gj (q:Array Eg->Prop):Prop:=∀(vs:Array Eg) (v:Eg),q vs->q (vs.setIfInBounds 1 v)
def K8 (q:Array Eg->Prop)(h base:EC)(x:Eh)(c fl:Eg):Prop :=
 ∃ob vs T ot ts,h.get? x=some ob/\(ob.cls=c/\q vs)/\ob.data=.fields vs/\vs[1]?=some (.ref T)/\base.get? T=none/\T≠x/\h.get? T=some ot/\ot.data=.fields ts/\ts[3]?=some fl
theorem OA {h:EC}{y:Eh}{oy:Obj}{vs:Array Eg}(hy:h.get? y=some oy)(hd:oy.data=.fields vs):∀b o,h.get? b=some o->(∀ws,o.data≠.fields ws)->b≠y:=fun b o hb nf z=>by
 subst z;rw[hy]at hb;cases hb;exact nf vs hd
theorem Iu (hq:Gj q){ob:Obj}{vs:Array Eg}{head:Eg}{nx:Bool}{Q:Unit->Dh}(hA:A.frames=some (env::outer))(fr:s.heap.FunFrames base (env::outer))(hL:env.frame=some L)
  (hx:s.heap.get? x=some ob) (kb:base.StaysIn s.heap) (nx0:base.get? x=none) (hd:ob.data=.fields vs) (sz:1<vs.size) (hv:q vs)
  (k:∀h',base.StaysIn h'->h'.FunFrames base (env::outer)->K8 q h' base x ob.cls (EW L)->s.heap.UpToSlots h'->Q () { s with heap:=h' }) :
  Ek M A (do let fo ←frameOf env;let pl ←entryPlaceOf L nx;let en ←EntryCells.newEntry head fo .none (EW L) .none pl;setField (.ref x) 1 en) Q E s:=by
 have nf:x∉(env::outer).filterMap (·.frame):=fun z=>by
  obtain⟨_,o,ho,hn⟩:=fr.mem z;rw[hx]at ho;cases ho;exact hn vs hd
 refine QW (wpAny_frameOf_fun hA fr hL fun g hg=>QW (wpAny_entryPlaceOf fun pl hpl=>?_));unfold EntryCells.newEntry;unfold newFields;refine QW (ZR (T:="traceback") ?_ (hpl.sizeOk5 _ _ _ _ _));have gx:g.get? x=some ob:=by rw[←hx];exact hg.2.1 x nf
 have gb:base.StaysIn g:=fun b o e=>by
  rw[hg.2.1 b fun z=>by rw[(fr.mem z).1]at e;cases e];exact kb b o e
 obtain⟨row,er⟩:∃row:Obj,row={ cls:=.type "traceback",data:=.fields ([head,.ref L,.none,EW L,.none]++(if pl.isEmpty then LF 6 EG else pl)).toArray }:=⟨_,rfl⟩;have px:=Q0 (h:=g) row gx;have hsz:g.objs.size≠x:=JL (Zi gx);rw[←er];have keep:∀b o,b≠x->g.get? b=some o->((g.push row).update x (LA (·.setIfInBounds 1 (Ew g.objs.size)))).get? b=some o:=fun b o nb e=>by
  rw[Ym _ _ (ED nb)];exact Q0 _ e
 refine YH px hd sz (k _ ?_ ?_ ?_ ?_)
 ·intro b o e;exact keep b o (fun z=>by rw[z,nx0]at e;cases e) (gb b o e)
 ·refine fr.of_keeps fun b o e hn=>?_;obtain⟨sl,e2⟩:=hg.2.2 b o e;exact⟨_,keep b _ (OA hx hd b o e hn) e2,rfl⟩
 ·have d3:=Obj.data_mapFields hd (·.setIfInBounds 1 (Ew g.objs.size));refine⟨_,_,g.objs.size,row,_,ZY _ px (Obj.isFreed_of_fields d3),⟨Obj.cls_mapFields _ _,hq _ _ hv⟩,d3,by simp[sz],gb.fresh,hsz,?_,by rw[er],?_⟩
  ·rw[Ym _ _ (ED hsz)];exact Ze g (by rw[er];rfl)
  ·rcases hpl with rfl|⟨_,_,_,_,_,_,_,rfl⟩<;>simp
 ·intro b o e hn;obtain⟨sl,e2⟩:=hg.2.2 b o e;exact⟨sl,keep b _ (OA hx hd b o e hn) e2⟩
theorem FJ (hq:Gj q){ob:Obj}{vs:Array Eg}{Q:Unit->Dh}(hA:A.frames=some (env::outer))(fr:s.heap.FunFrames base (env::outer))(hL:env.frame=some L)
  (hx:s.heap.get? x=some ob) (kb:base.StaysIn s.heap) (nx0:base.get? x=none) (hd:ob.data=.fields vs) (h1:vs[1]?=some .none) (hv:q vs)
  (k:∀h',base.StaysIn h'->h'.FunFrames base (env::outer)->K8 q h' base x ob.cls (EW L)->s.heap.UpToSlots h'->Q () { s with heap:=h' }):Ek M A (noteFrame (.ref x) env) Q E s:=by
 unfold noteFrame;simp only[hL];refine QW (JJ hx hd h1 ?_);rw[Zh (show¬(EG !=EG)=true by decide)];exact Iu hq hA fr hL hx kb nx0 hd (YX.mp h1).1 hv k
theorem Hz (hq:Gj q){c:Eg}{Q:Unit->Dh}(hA:A.frames=some (env::outer))(fr:s.heap.FunFrames base (env::outer))(hL:env.frame=some L)(t:K8 q s.heap base x c .none)(kb:base.StaysIn s.heap)(nx0:base.get? x=none)
  (k:∀h',base.StaysIn h'->h'.FunFrames base (env::outer)->K8 q h' base x c (EW L)->s.heap.UpToSlots h'->Q () { s with heap:=h' }):Ek M A (noteFrame (.ref x) env) Q E s:=by
 obtain⟨ob,vs,T,ot,ts,hx,⟨hc,hv⟩,hd,h1,nT,Tx,hT,dT,h3⟩:=t;subst hc;unfold noteFrame;simp only[hL];refine QW (JJ hx hd h1 ?_);rw[Zk (show(Ew T !=EG)=true by simp)];refine QW (JJ hT dT h3 ?_);rw[Zh (show¬(EG==EW L)=true by simp[EW])];have oth:∀b,b≠T->(s.heap.update T (LA (·.setIfInBounds 3 EG))).get? b=s.heap.get? b:=fun b nb=>Ym _ _ (ED nb);have nr:=OA hT dT;refine QW (YH hT dT (YX.mp h3).1 ?_);refine Iu hq hA (fr.of_keeps fun b o e hn=>⟨o,by rw[oth b (nr b o e hn)];exact e,rfl⟩) hL (by rwa[oth x (ED Tx)]) (fun b o e=>?_) nx0 hd (YX.mp h1).1 hv fun h' y1 y2 y3 y4=>k h' y1 y2 y3 fun b o e hn=>?_
 ·rw[oth b fun z=>by rw[z,nT]at e;cases e];exact kb b o e
 ·exact y4 b o (by rwa[oth b (nr b o e hn)]) hn
theorem qZ {l:List Env}{Q:Unit->Dh}(kb:base.StaysIn s.heap)(fr:s.heap.FunFrames base l)(t:K8 q s.heap base x c fl)
  (k:∀h',base.StaysIn h'->h'.FunFrames base l->K8 q h' base x c .none->s.heap.UpToSlots h'->Q () { s with heap:=h' }):Ek M A (setFlight (.ref x) none) Q E s:=by
 obtain⟨ob,vs,T,ot,ts,hx,hv,hd,h1,nT,Tx,hT,dT,h3⟩:=t;have s3:3<ts.size:=(YX.mp h3).1;have nr:=OA hT dT;have oth:∀b,b≠T->(s.heap.update T (LA (·.setIfInBounds 3 ((none:Option Eh).elim EG fun f=>EW f)))).get? b=s.heap.get? b:=fun b nb=>Ym _ _ (ED nb);unfold setFlight;refine QW (JJ hx hd h1 ?_);rw[Zk (show(Ew T !=EG)=true by simp)];refine YH hT dT s3 (k _ (fun b o e=>?_) (fr.of_keeps fun b o e hn=>⟨o,by rw[oth b (nr b o e hn)];exact e,rfl⟩) ?_ fun b o e hn=>⟨o.slots,by rw[oth b (nr b o e hn)];exact e⟩)
 ·rw[oth b fun z=>by rw[z,nT]at e;cases e];exact kb b o e
 ·refine⟨ob,vs,T,_,_,by rw[oth x (ED Tx)];exact hx,hv,hd,h1,nT,Tx,ZY _ hT (Obj.isFreed_of_fields (Obj.data_mapFields dT _)),Obj.data_mapFields dT _,?_⟩;simp[s3]
theorem BK (hq:Gj q){ob:Obj}{vs:Array Eg}{Q:Unit->Dh}(hA:A.frames=some (env::outer))(fr:s.heap.FunFrames base (env::outer))(hL:env.frame=some L)
  (hx:s.heap.get? x=some ob) (kb:base.StaysIn s.heap) (nx0:base.get? x=none) (hd:ob.data=.fields vs) (h1:vs[1]?=some .none) (hv:q vs)
  (k:∀h',base.StaysIn h'->h'.FunFrames base (env::outer)->K8 q h' base x ob.cls .none->s.heap.UpToSlots h'->Q () { s with heap:=h' }):Ek M A (leaving env (.ref x)) Q E s:=by
 unfold leaving;exact QW (FJ hq hA fr hL hx kb nx0 hd h1 hv fun g y1 y2 y3 y4=>qZ (s:={ s with heap:=g }) y1 y2 y3 fun h' z1 z2 z3 z4=>k h' z1 z2 z3 (y4.trans z4))
theorem FC (hq:Gj q){c:Eg}{Q:Unit->Dh}(hA:A.frames=some (env::outer))(fr:s.heap.FunFrames base (env::outer))(hL:env.frame=some L)(t:K8 q s.heap base x c .none)(kb:base.StaysIn s.heap)(nx0:base.get? x=none)
  (k:∀h',base.StaysIn h'->h'.FunFrames base (env::outer)->K8 q h' base x c .none->s.heap.UpToSlots h'->Q () { s with heap:=h' }):Ek M A (leaving env (.ref x)) Q E s:=by
 unfold leaving;exact QW (Hz hq hA fr hL t kb nx0 fun g y1 y2 y3 y4=>qZ (s:={ s with heap:=g }) y1 y2 y3 fun h' z1 z2 z3 z4=>k h' z1 z2 z3 (y4.trans z4))
end
open PySem.Spec PyProof.Rows
abbrev Key:=Sum Int Str
def IW:Key->Eg->Bool
 | .inl k,v=>L8 k v
 | .inr x,v=>E2 x v
def S9 (w:Eo):Key->Int
 | .inl k=>hashInt k
 | .inr x=>hashStr w x
theorem yR:∀{k:Key} {v:Eg},IW k v=true->(∃i t,k=Sum.inl i/\v=Value.int i t)\/(∃x t,k=Et x/\v=L6 x t)
 | .inl i,v,h=>by
  obtain⟨t,e⟩:=Value.isInt_shape (k:=i) (v:=v) h;exact .inl ⟨i,t,rfl,e⟩
 | .inr x,v,h=>by
  obtain⟨t,e⟩:=YQ (x:=x) (v:=v) h;exact .inr ⟨x,t,rfl,e⟩
theorem KA (i:Int)(t:Tok):IW (.inl i) (.int i t)=true:=by simp[IW,L8]
theorem xY (x:Str)(t:Tok):IW (.inr x) (.str x t)=true:=by simp[IW,E2]
theorem P5 (a b:Int):decide ((Sum.inl a:Key)=Sum.inl b)=(a==b):=by
 by_cases e:a=b
 ·subst e;simp
 ·have h:¬(Sum.inl a:Key)=Sum.inl b:=fun q=>e (Sum.inl.inj q);rw[Q9 h];exact(Yx.mpr e).symm
theorem P8 (a b:Str):decide ((Et a:Key)=Et b)=decide (a=b):=by
 by_cases e:a=b
 ·subst e;simp
 ·have h:¬(Et a:Key)=Et b:=fun q=>e (Sum.inr.inj q);rw[Q9 h,Q9 e]
theorem P6 (a:Int)(b:Str):decide ((Sum.inl a:Key)=Et b)=false:=Q9 (fun q=>nomatch q)
theorem P7 (a:Str)(b:Int):decide ((Et a:Key)=Sum.inl b)=false:=Q9 (fun q=>nomatch q)
def zY (prog:Ei)(w:Eo):PySem.KeyKind prog w Key where
 is:=IW
 hash:=S9 w
 inj:=fun v a b ha hb=>by
  rcases yR ha with⟨i,t,rfl,rfl⟩|⟨x,t,rfl,rfl⟩
  ·rcases yR hb with⟨j,u,rfl,e⟩|⟨y,u,rfl,e⟩
   ·injection e with e1 _;rw[e1]
   ·exact nomatch e
  ·rcases yR hb with⟨j,u,rfl,e⟩|⟨y,u,rfl,e⟩
   ·exact nomatch e
   ·injection e with e1 _;rw[e1]
 byValue:=fun k v h=>by
  rcases yR h with⟨i,t,rfl,rfl⟩|⟨x,t,rfl,rfl⟩<;>rfl
 pyHash:=fun hv h=>by
  rcases yR hv with⟨i,t,rfl,rfl⟩|⟨x,t,rfl,rfl⟩
  ·exact wpAny_pyHash_int h
  ·exact wpAny_pyHash_str h
 eqBool:=fun hu hv h=>by
  rcases yR hu with⟨i,t,rfl,rfl⟩|⟨x,t,rfl,rfl⟩
  ·rcases yR hv with⟨j,u,rfl,rfl⟩|⟨y,u,rfl,rfl⟩
   ·rw[P5]at h;exact wpAny_eqBool_int h
   ·rw[P6]at h;exact SeqAt.EqAt.int_str i t y u _ _ _ _ h
  ·rcases yR hv with⟨j,u,rfl,rfl⟩|⟨y,u,rfl,rfl⟩
   ·rw[P7]at h;exact SeqAt.EqAt.str_int x t j u _ _ _ _ h
   ·rw[P8]at h;exact wpAny_eqBool_str h
 «strs»:=fun k x t v h=>by
  rcases yR h with⟨i,u,rfl,e⟩|⟨y,u,rfl,e⟩
  ·exact nomatch e
  ·injection e with e1 _;subst e1;cases v<;>rfl
theorem BG (prog:Ei)(w:Eo)(i:Int)(t:Tok):(zY prog w).is (.inl i) (.int i t)=true:=KA i t
theorem CJ (prog:Ei)(w:Eo)(x:Str)(t:Tok):(zY prog w).is (.inr x) (.str x t)=true:=xY x t
inductive V where
 |non|bl (b:Bool)|int (i:Int)|str (x:Str)|byt (b:Array UInt8)|flt (b:UInt64)|ref (a:Eh)|ty (n:String)
 deriving DecidableEq
abbrev Dl:=List (Key×V)
abbrev Dj:=List V
def RelV:V->Eg->Prop
 | .non,u=>u=EG
 | .bl b,u=>u=LS b
 | .int i,u=>∃t,u=Value.int i t
 | .str x,u=>∃t,u=L6 x t
 | .byt b,u=>∃t,u=Value.bytes b t
 | .flt b,u=>∃t,u=Value.float b t
 | .ref a,u=>u=Ew a
 | .ty n,u=>u=Value.type n
abbrev Vals:Dj->Db->Prop:=Ld RelV
theorem Vals.length (r:Vals xs us):xs.length=us.length:=Paired.length r
theorem Vals.get:∀{xs:Dj} {us:Db} {i:Nat} {x:V},Vals xs us->xs[i]?=some x->∃u,us[i]?=some u/\RelV x u
 |_,_,_,_,.nil,e=>by simp at e
 |_,_,0,_,.cons r _,e=>by simp at e;subst e;exact⟨_,rfl,r⟩
 |_,_,i+1,x,.cons _ t,e=>by
  obtain⟨u,h1,h2⟩:=Vals.get (i:=i) (x:=x) t (by simpa using e);exact⟨u,by simpa using h1,h2⟩
theorem Vals.append:∀{xs ys:Dj} {us ws:Db},Vals xs us->Vals ys ws->Vals (xs++ys) (us++ws)
 |_,_,_,_,.nil,s=>s
 |_,_,_,_,.cons r t,s=>.cons r (Vals.append t s)
theorem Vals.take:∀{xs:Dj} {us:Db} (n:Nat),Vals xs us->Vals (xs.take n) (us.take n)
 |_,_,0,_=>.nil
 |_,_,_+1,.nil=>.nil
 |_,_,n+1,.cons r t=>.cons r (Vals.take n t)
theorem Vals.drop:∀{xs:Dj} {us:Db} (n:Nat),Vals xs us->Vals (xs.drop n) (us.drop n)
 |_,_,0,r=>r
 |_,_,_+1,.nil=>.nil
 |_,_,n+1,.cons _ t=>Vals.drop n t
def RelO:Option V->Dc->Prop
 |some v,some u=>RelV v u
 |none,none=>True
 |_,_=>False
def KV {κ:Type}:List (κ×V)->List (κ×Eg)->Prop:=Ld fun(p:κ×V) (q:κ×Eg)=>p.1=q.1/\RelV p.2 q.2
def kV:Key->V
 | .inl i=>.int i
 | .inr x=>.str x
inductive HO where
 |lst (xs:Dj)
 |tup (xs:Dj)
 |dK (Dm:Dl)|dT (Dm:List (List Key×V))
 |set (S:Int->Bool) (n:Nat)
 |ins (C dx:Eh) (fs:List (Str×V))
 |own (x:Eh)
 |xd (fs:List (Str×V))
 |met (f x:Eh)
 |rng (lo hi:Int)
 |frz (o:Obj) (u:HO)
 |tbl (ps:Array Eg)
 |ext (φ:EC->Prop)
abbrev Hp:=Eh->Option HO
def upd (H:Hp)(a:Eh)(o:HO):Hp:=fun b=>if b=a then some o else H b
theorem zB:upd H a o a=some o:=by unfold upd;rw[Zk rfl]
theorem zG {a b:Eh}(h:b≠a):upd H a o b=H b:=by unfold upd;rw[Zh h]
theorem Kb:upd (upd H a o) a u=upd H a u:=by
 funext b;unfold upd;split<;>rfl
theorem Si {H:Hp}{a b:Eh}{o u:HO}(h:H a=some o)(h':H b=some u)(d:o≠u):a≠b:=by
 intro e;subst e;rw[h]at h';exact d (Option.some.inj h')
theorem zM {H:Hp}{a b:Eh}{o:HO}(h:H a=some o)(h':H b=none):a≠b:=by
 intro e;subst e;rw[h]at h';cases h'
def TupAt (h:EC)(a:Eh)(Dn:Array Eg):Prop:=∃o,h.get? a=some o/\o.cls=.type "tuple"/\∃n,o.data=.seq Dn n/\o.dict=none
theorem TupAt.is (t:TupAt h a Dn):IsTup h a Dn:=let ⟨o,h1,h2,n,h3,_⟩:=t;⟨o,h1,h2,n,h3⟩
theorem TupAt.lt (t:TupAt h a Dn):a<h.objs.size:=t.is.lt
theorem TupAt.new (h:EC)(Dn:Array Eg):TupAt (h.push { cls:=.type "tuple",data:=.seq Dn }) h.objs.size Dn:=⟨_,Ze _ rfl,rfl,_,rfl,rfl⟩
section
variable (P:Ei)(w:Eo)
def ObjOk (H:Hp)(h:EC)(a:Eh):HO->Prop
 | .lst xs=>xs.length<=sizeLine/\∃(its:Db) (n:Nat),Vals xs its/\h.get? a=some { cls:=.type "list",data:=.seq its.toArray n }
 | .tup xs=>xs.length<=sizeLine/\∃its:Db,Vals xs its/\TupAt h a its.toArray
 | .dK Dm=>Dm.length<=sizeLine/\(a==EN)=false/\∃vs,KV Dm vs/\h.DictOf (zY P w) a vs
 | .dT Dm=>Dm.length<=sizeLine/\(a==EN)=false/\∃xs:List (List Key×Eh×Eg),
   Ld (fun(p:List Key×V) (q:List Key×Eh×Eg)=>p.1=q.1/\H q.2.1=some (.tup (p.1.map kV))/\RelV p.2 q.2.2) Dm xs /\
   ∃o es ep,h.get? a=some o/\o.ExactDict/\o.data=.dict es ep/\es.toList=xs.map (LU (tupleKind (zY P w)))/\(xs.map (·.1)).Nodup
 | .set S n=>h.SetOf (intKind P w) a S n
 | .ins C dx fs=>H dx=some (.own a)/\fs.length<=1000/\dx≠a/\h.get? a=some (Le C dx) /\
   ∃mA,h.Ns1 dx mA/\(∀f,RelO (fs.lookup f) (mA f))/\PySem.Within mA (fs.map (·.1))
 | .own _=>∃o,h.get? a=some o
 | .xd fs=>∃mA,h.Ns1 a mA/\∀f,RelO (fs.lookup f) (mA f)
 | .rng lo hi=>∃t u v,h.get? a=some { cls:=.type "range",data:=.fields #[.int lo t,.int hi u,.int 1 v] }
 | .frz o u=>h.get? a=some o/\ObjOk H h a u
 | .tbl ps=>h.get? a=some { cls:=.none,data:=.fields ps }
 | .met f x=>h.get? a=some (PySem.W.methodObj (.ref f) (.ref x))
 | .ext φ=>φ h/\(∃o,h.get? a=some o)/\∀h1 h2:EC,φ h1->(∀o,h1.get? a=some o->h2.get? a=some o)->φ h2
def HOk (H:Hp)(h:EC):Prop:=∀a o,H a=some o->ObjOk P w H h a o
end
section
variable {P:Ei}{w:Eo}{H H':Hp}{h h':EC}{a:Eh}{o:HO}
theorem ObjOk.lt (x:ObjOk P w H h a o):a<h.objs.size:=by
 cases o with
 |lst xs=>obtain⟨_,_,_,_,e⟩:=x;exact Zi e
 |tup xs=>obtain⟨_,_,_,p⟩:=x;exact p.lt
 |dK Dm=>obtain⟨_,_,_,_,o,_,_,e,_⟩:=x;exact Zi e
 |dT Dm=>obtain⟨_,_,_,_,o,_,_,e,_⟩:=x;exact Zi e
 |set S n=>obtain⟨o,_,_,_,e,_⟩:=x;exact Zi e
 |ins C dx fs=>obtain⟨_,_,_,e,_⟩:=x;exact Zi e
 |own y=>obtain⟨_,e⟩:=x;exact Zi e
 |xd fs=>obtain⟨_,⟨_,_,_,e,_⟩,_⟩:=x;exact Zi e
 |rng lo hi=>obtain⟨_,_,_,e⟩:=x;exact Zi e
 |frz ob u=>obtain⟨e,_⟩:=x;exact Zi e
 |tbl ps=>exact Zi (show h.get? a=some _ from x)
 |met f y=>exact Zi (show h.get? a=some _ from x)
 |ext φ=>obtain⟨_,⟨_,e⟩,_⟩:=x;exact Zi e
theorem Paired.mapP {α β:Type}{F G:α->β->Prop}:∀{l₁:List α} {l₂:List β},Ld F l₁ l₂->(∀a b,F a b->G a b)->Ld G l₁ l₂
 |_,_,.nil,_=>.nil
 |_,_,.cons r t,f=>.cons (f _ _ r) (Paired.mapP t f)
theorem ObjOk.stay (x:ObjOk P w H h a o)(k:∀b u,(b=a\/H b=some (.own a))->h.get? b=some u->h'.get? b=some u)
  (ho:∀b,H b=some (.own a)->H' b=some (.own a)) (ht:∀b xs,H b=some (.tup xs)->H' b=some (.tup xs)):ObjOk P w H' h' a o:=by
 induction o with
 |lst xs=>obtain⟨z,its,n,r,e⟩:=x;exact⟨z,its,n,r,k _ _ (.inl rfl) e⟩
 |tup xs=>obtain⟨z,its,r,ob,e,c⟩:=x;exact⟨z,its,r,ob,k _ _ (.inl rfl) e,c⟩
 |dK Dm=>obtain⟨z,y,vs,r,ob,es,ep,e,c⟩:=x;exact⟨z,y,vs,r,ob,es,ep,k _ _ (.inl rfl) e,c⟩
 |dT Dm =>
  obtain⟨z,y,xs,r,ob,es,ep,e,c⟩:=x;exact⟨z,y,xs,Paired.mapP r fun p q z=>⟨z.1,ht _ _ z.2.1,z.2.2⟩,ob,es,ep,k _ _ (.inl rfl) e,c⟩
 |set S n=>obtain⟨ob,es,ep,t,e,c⟩:=x;exact⟨ob,es,ep,t,k _ _ (.inl rfl) e,c⟩
 |ins C dx fs =>
  obtain⟨d,z,ne,e,mA,⟨od,es,ep,e2,c⟩,r⟩:=x;exact⟨ho _ d,z,ne,k _ _ (.inl rfl) e,mA,⟨od,es,ep,k _ _ (.inr d) e2,c⟩,r⟩
 |own y=>obtain⟨ob,e⟩:=x;exact⟨ob,k _ _ (.inl rfl) e⟩
 |xd fs=>obtain⟨mA,⟨od,es,ep,e,c⟩,r⟩:=x;exact⟨mA,⟨od,es,ep,k _ _ (.inl rfl) e,c⟩,r⟩
 |rng lo hi=>obtain⟨t,u,v,e⟩:=x;exact⟨t,u,v,k _ _ (.inl rfl) e⟩
 |frz ob u ih=>obtain⟨e,q⟩:=x;exact⟨k _ _ (.inl rfl) e,ih q⟩
 |tbl ps =>
  have e:h.get? a=some { cls:=.none,data:=.fields ps }:=x;show h'.get? a=some { cls:=.none,data:=.fields ps };exact k a _ (.inl rfl) e
 |met f y =>
  have e:h.get? a=some (PySem.W.methodObj (.ref f) (.ref y)):=x;show h'.get? a=some (PySem.W.methodObj (.ref f) (.ref y));exact k a _ (.inl rfl) e
 |ext φ=>obtain⟨p,⟨o,e⟩,st⟩:=x;exact⟨st _ _ p fun o q=>k _ _ (.inl rfl) q,⟨o,k _ _ (.inl rfl) e⟩,st⟩
theorem HOk.lt (x:HOk P w H h)(e:H a=some o):a<h.objs.size:=(x a o e).lt
theorem HOk.fresh (x:HOk P w H h)(e:h.objs.size<=a):H a=none:=by
 cases q:H a with
 |none=>rfl
 |some u=>exact absurd (Zp (x.lt q) e) (Yc _)
theorem HOk.kept (x:HOk P w H h)(k:∀b u,h.get? b=some u->h'.get? b=some u):HOk P w H h':=fun a o e =>
 (x a o e).stay (fun b u _ q=>k b u q) (fun _ q=>q) fun _ _ q=>q
theorem HOk.laid (x:HOk P w H h)(k:∀b u,h.get? b=some u->h'.get? b=some u)(hp:h.objs.size<=a)(new:ObjOk P w (upd H a o) h' a o):HOk P w (upd H a o) h':=fun b u e=>by
 have hn:=x.fresh hp
 by_cases hb:b=a
 ·subst hb;rw[zB]at e;cases e;exact new
 ·rw[zG hb]at e;exact(x b u e).stay (fun c v _ q=>k c v q) (fun c q=>by rwa[zG (zM q hn)]) fun c xs q=>by rwa[zG (zM q hn)]
end
def Rd (H:Hp)(a:Eh)(u:HO):Prop:=H a=some u\/∃o,H a=some (.frz o u)
theorem Rd.ok (r:Rd H a u)(x:HOk P w H h):ObjOk P w H h a u:=by
 rcases r with r|⟨o,r⟩
 ·exact x a u r
 ·obtain⟨_,q⟩:=x a _ r;exact q
def PL:Option HO->Prop
 |some (.lst _)=>True
 |some (.dK _)=>True
 |some (.dT _)=>True
 |some (.set _ _)=>True
 |some (.ins _ _ _)=>True
 |some (.ext _)=>True
 |_=>False
section
variable {P:Ei}{w:Eo}{H:Hp}{h h':EC}{x e:Eh}{o':HO}
theorem HOk.write (ok:HOk P w H h)(mu:PL (H x))(he:e=x\/H e=some (.own x))(k:∀b u,b≠e->h.get? b=some u->h'.get? b=some u)(heo:∃u,h'.get? e=some u)
  (new:ObjOk P w (upd H x o') h' x o'):HOk P w (upd H x o') h':=fun b u q=>by
 have nown:∀c y,H c=some (.own y)->c≠x:=fun c y r z=>by subst z;rw[r]at mu;exact mu
 have ntup:∀c xs,H c=some (.tup xs)->c≠x:=fun c xs r z=>by subst z;rw[r]at mu;exact mu
 by_cases hb:b=x
 ·subst hb;rw[zB]at q;cases q;exact new
 ·rw[zG hb]at q
  by_cases hbe:b=e
  ·have q':H b=some (.own x):=by
    rcases he with z|z
    ·exact absurd (hbe.trans z) hb
    ·rwa[hbe]
   rw[q]at q';cases q';obtain⟨v,hv⟩:=heo;exact⟨v,by rw[hbe];exact hv⟩
  ·refine(ok b u q).stay (fun c v hc r=>k c v ?_ r) (fun c r=>by rwa[zG (nown c b r)]) fun c xs r=>by rwa[zG (ntup c xs r)]
   rcases hc with rfl|hc
   ·exact hbe
   ·rintro rfl
    rcases he with z|z
    ·exact nown c b hc z
    ·rw[hc]at z;cases z;exact hb rfl
end
structure Un (fs ex:Dd)(H H':Hp)(h h':EC):Prop where
 keep:∀b o,h.get? b=some o->H b=none->b∉fs->b∉ex->h'.get? b=some o
 slot:∀b o,h.get? b=some o->H b=none->b∈fs->b∉ex->∃sl,h'.get? b=some { o with slots:=sl }
 free:∀b o,h.get? b=some o->H b=none->b∉ex->H' b=none
 there:∀b o,h.get? b=some o->b∉ex->∃o',h'.get? b=some o'
 tups:∀b xs,H b=some (.tup xs)->H' b=some (.tup xs)
 frzs:∀b o u,H b=some (.frz o u)->H' b=some (.frz o u)
 tbls:∀b ps,H b=some (.tbl ps)->∃more,H' b=some (.tbl (ps++more))
section
variable {fs fs' ex ex':Dd}{H H1 H2:Hp}{h h1 h2 h':EC}{a x e:Eh}{o:HO}
theorem Un.any (u:Un fs ex H H1 h h1){b:Eh}{ob:Obj}(q:h.get? b=some ob)(n:H b=none)(hx:b∉ex):∃sl,h1.get? b=some { ob with slots:=sl }:=by
 by_cases hb:b∈fs
 ·exact u.slot b ob q n hb hx
 ·exact⟨ob.slots,u.keep b ob q n hb hx⟩
theorem Un.kept (k:∀b u,h.get? b=some u->h'.get? b=some u):Un fs ex H H h h' :=
 ⟨fun b ob q _ _ _=>k b ob q,fun b ob q _ _ _=>⟨ob.slots,k b ob q⟩,fun _ _ _ n _=>n,fun b ob q _=>⟨ob,k b ob q⟩,fun _ _ q=>q,fun _ _ _ q=>q,fun _ ps q=>⟨#[],by rw[q];simp⟩⟩
theorem Un.refl:Un fs ex H H h h:=Un.kept fun _ _ q=>q
theorem Un.laid (k:∀b u,h.get? b=some u->h'.get? b=some u)(hp:h.objs.size<=a)(hn:H a=none):Un fs ex H (upd H a o) h h' where
 keep:=fun b u q _ _ _=>k b u q
 slot:=fun b u q _ _ _=>⟨u.slots,k b u q⟩
 free:=fun b u q n _=>by rwa[zG (Zr (Zp (Zi q) hp))]
 there:=fun b u q _=>⟨u,k b u q⟩
 tups:=fun b xs q=>by rwa[zG (zM q hn)]
 frzs:=fun b u xs q=>by rwa[zG (zM q hn)]
 tbls:=fun b ps q=>⟨#[],by rw[zG (zM q hn),q];simp⟩
theorem Un.write (mu:PL (H x))(he:e=x\/H e=some (.own x))(k:∀b u,b≠e->h.get? b=some u->h'.get? b=some u)(heo:∃u,h'.get? e=some u):Un fs ex H (upd H x o) h h':=by
 have hx:∀b,H b=none->b≠x:=fun b n z=>by subst z;rw[n]at mu;exact mu
 have hb:∀b,H b=none->b≠e:=fun b n z=>by
  subst z
  rcases he with r|r
  ·exact hx b n r
  ·rw[n]at r;cases r
 have hm:∀b u,H b=some u->¬PL (some u)->b≠x:=fun b u q nm z=>by subst z;rw[q]at mu;exact nm mu
 refine⟨fun b u q n _ _=>k b u (hb b n) q,fun b u q n _ _=>⟨u.slots,k b u (hb b n) q⟩,fun b u q n _=>by rw[zG (hx b n)];exact n,fun b u q _=>?_,
  fun b xs q=>by rw[zG (hm b _ q fun z=>z)];exact q,fun b u xs q=>by rw[zG (hm b _ q fun z=>z)];exact q,fun b ps q=>⟨#[],by rw[zG (hm b _ q fun z=>z),q];simp⟩⟩
 by_cases hbe:b=e
 ·subst hbe;exact heo
 ·exact⟨u,k b u hbe q⟩
end
def SN (h:EC)(H:Hp):Dd:=(EA h.objs.size).filter fun a=>(H a).isSome
def GW (h:EC)(H:Hp):Heap:=PySem.W.hideAll h (SN h H)
theorem Kx (h:EC)(H:Hp):(GW h H).objs.size=h.objs.size:=PySem.W.hideAll_size _ _
theorem MI {h:EC}{H:Hp}{b:Eh}{o:Obj}(e:h.get? b=some o)(n:H b=none):(GW h H).get? b=some o :=
 YR _ e fun hm=>by
  have q:(H b).isSome=true:=(Ys.mp hm).2;rw[n]at q;simp at q
theorem OE {b:Eh}{o:Obj}(e:(GW h H).get? b=some o):h.get? b=some o/\H b=none:=by
 have e':h.get? b=some o:=PySem.W.of_hideAll (SN h H) e;refine⟨e',?_⟩;cases q:H b with
 |none=>rfl
 |some x =>
  have hm:b∈SN h H:=Ys.mpr ⟨JM.mpr (Zi e'),by simp[q]⟩;have z:(GW h H).get? b=none:=Ju (SN h H) hm;rw[z]at e;cases e
structure Mod (K:AZ)(mg:Str->Dc)(base:EC):Prop where
 kin:K.In base
 glob:base.Ns Er mg
 blt:∃mb,base.Ns builtinsNs mb/\∀x:Str,x≠"__name__"->mb x=Lx x
 nolimit:base.NoLimit
structure Cx where
 prog:Ei
 w:Eo
 K:AZ
 mg:Str->Dc
 base:EC
 A:EF
 N:Da
 s₀:Ej
 H₀:Hp
 env:Env
 outer:List Env
 stack:List Env
 ex:Dd
 fn:Str->Bool
 calm:Bool
 pn:De
 xe:Eg->Dh
def frs (l:List Env):Dd:=l.filterMap (·.frame)
abbrev Cx.fs (X:Cx):Dd:=frs X.outer
def SX (sc:LM)(x:Str):Prop:=sc.names.lookup x=some .local\/sc.names.lookup x=some .cell\/sc.names.lookup x=some .free
def Loc (sc:LM)(x:Str):Prop:=sc.names.lookup x=some .local\/sc.names.lookup x=some .cell
def Look (env:Env)(h:EC)(m:Str->Dc)(x:Str)(u:Eg):Prop :=
 (env.kindOf x=some .local/\m x=some u)\/((env.kindOf x=some .cell\/env.kindOf x=some .free)/\∃c,env.cells.lookup x=some c/\h.IsCell c (some u))
structure Cx.Ok (X:Cx):Prop where
 mod:Mod X.K X.mg X.base
 kind:X.env.scope.kind=.function
 glob:X.env.globals=Er
 blt:X.env.builtins=builtinsNs
 above:X.s₀.heap.objs.size<=X.env.locals
 inj:∀x y c,X.env.cells.lookup x=some c->X.env.cells.lookup y=some c->x=y
 has:∀x,(X.env.kindOf x=some .cell\/X.env.kindOf x=some .free)->∃c,X.env.cells.lookup x=some c
 cab:∀x c,X.fn x=true->X.env.cells.lookup x=some c->X.s₀.heap.objs.size<=c
 hd:X.calm=true->X.A.handled=none
 frames:X.A.frames=some X.stack
 stk:X.stack=X.outer\/(X.stack=X.env::X.outer/\X.env.frame=some X.env.locals)
 exf:∀b∈X.ex,b≠X.env.locals/\∀x c,X.env.cells.lookup x=some c->c≠b
 bs:∀b o,X.base.get? b=some o->X.s₀.heap.get? b=some o/\X.H₀ b=none
 bsz:X.base.objs.size<=X.s₀.heap.objs.size
 noex:∀b o,X.base.get? b=some o->b∉X.ex
 exfs:∀b∈X.ex,b∉X.fs
 funs:X.s₀.heap.FunFrames X.base X.outer
 frf:∀b∈X.fs,X.H₀ b=none
structure Inv (X:Cx)(Dp:De)(σ:List (Option V))(H:Hp)(s:Ej):Prop where
 ok:X.Ok
 os:s.os=X.s₀.os
 bare:Md s.gens
 base:Un X.fs X.ex X.H₀ H X.s₀.heap s.heap
 loc:∃m,s.heap.Ns X.env.locals m/\∀(i:Nat) (x:Str) (v:V),X.N[i]?=some x->σ[i]?=some (some v)->SX X.env.scope x->∃u,RelV v u/\Look X.env s.heap m x u
 cell:∀x c,X.env.cells.lookup x=some c->∃v,s.heap.IsCell c v
 free:H X.env.locals=none
 freeC:∀x c,X.env.cells.lookup x=some c->H c=none
 pin:∀p∈X.pn++Dp,s.heap.get? p.1=some p.2/\H p.1=none/\p.1≠X.env.locals/\p.1∉X.fs/\∀v,p.2.data≠.cell v
 hok:HOk X.prog X.w H s.heap
 len:σ.length=X.N.length
section
variable {X:Cx}{Dp:De}{σ:List (Option V)}{H H':Hp}{s:Ej}{h':EC}
theorem Cx.Ok.nofr (ok:X.Ok){b:Eh}{o:Obj}(e:X.base.get? b=some o):b∉X.fs:=fun hb=>by
 have:=(ok.funs.mem hb).1;rw[e]at this;cases this
theorem Inv.bs (I:Inv X Dp σ H s):∀b o,X.base.get? b=some o->s.heap.get? b=some o/\H b=none:=fun b o e =>
 ⟨I.base.keep b o (I.ok.bs b o e).1 (I.ok.bs b o e).2 (I.ok.nofr e) (I.ok.noex b o e),I.base.free b o (I.ok.bs b o e).1 (I.ok.bs b o e).2 (I.ok.noex b o e)⟩
theorem Inv.bk (I:Inv X Dp σ H s):∀b o,X.base.get? b=some o->s.heap.get? b=some o:=fun b o e=>(I.bs b o e).1
theorem Inv.mod (I:Inv X Dp σ H s):Mod X.K X.mg X.base:=I.ok.mod
theorem Inv.kIn (I:Inv X Dp σ H s):X.K.In s.heap:=I.ok.mod.kin.keeps I.bk
theorem Inv.lt (I:Inv X Dp σ H s):X.env.locals<s.heap.objs.size:=let ⟨_,hn,_⟩:=I.loc;hn.lt
theorem Inv.sz (I:Inv X Dp σ H s):X.s₀.heap.objs.size<=s.heap.objs.size:=ZD I.ok.above (Yn I.lt)
theorem Inv.nofs (I:Inv X Dp σ H s){a:Eh}(h:s.heap.objs.size<=a):a∉X.fs:=fun hb=>by
 obtain⟨_,o,ho,_⟩:=I.ok.funs.mem hb;exact absurd (Zp (Zi ho) (ZD I.sz h)) (Yc _)
theorem Inv.cne (I:Inv X Dp σ H s):∀x c,X.env.cells.lookup x=some c->c≠X.env.locals:=fun x c e z=>by
 obtain⟨v,o,ho,hd⟩:=I.cell x c e;obtain⟨m,⟨o',es,ep,ho',hd',_⟩,_⟩:=I.loc;rw[z,ho']at ho;cases ho;rw[hd']at hd;cases hd
theorem Inv.funs (I:Inv X Dp σ H s):s.heap.FunFrames X.base X.outer:=by
 have all:∀(l:List Env),(∀b∈frs l,b∈X.fs)->X.s₀.heap.FunFrames X.base l->s.heap.FunFrames X.base l:=by
  intro l
  induction l with
  |nil=>intro _ _;trivial
  |cons env r ih =>
   intro hs hl;obtain⟨hk,⟨L,o,hf,hn,ho,hd⟩,hr⟩:=hl;have hL:L∈X.fs:=hs L (by unfold frs;rw[Yy,hf];exact Q1);obtain⟨sl,e⟩:=I.base.slot L o ho (I.ok.frf L hL) hL fun z=>I.ok.exfs L z hL;exact⟨hk,⟨L,_,hf,hn,e,hd⟩,ih (fun b hb=>hs b (by unfold frs;rw[Yy,hf];exact QY _ hb)) hr⟩
 exact all X.outer (fun _ hb=>hb) I.ok.funs
theorem Inv.stack (I:Inv X Dp σ H s):s.heap.FunFrames X.base X.stack:=by
 rcases I.ok.stk with e|⟨e,hf⟩
 ·rw[e];exact I.funs
 ·rw[e];obtain⟨m,hn,_⟩:=I.loc;refine .cons (by rw[I.ok.kind];decide) hf hn ?_ I.funs;exact Vb (ZD I.ok.bsz I.ok.above)
theorem Inv.stkSub (I:Inv X Dp σ H s):∀b∈frs X.stack,b∈X.env.locals::X.fs:=fun b hb=>by
 rcases I.ok.stk with e|⟨e,hf⟩
 ·rw[e]at hb;exact QY _ hb
 ·rw[e]at hb;unfold frs at hb;rw[Yy,hf]at hb;exact hb
theorem Inv.stkFree (I:Inv X Dp σ H s):∀b∈frs X.stack,H b=none:=fun b hb=>by
 rcases Q7.mp (I.stkSub b hb) with e|hb
 ·rw[e];exact I.free
 ·obtain⟨_,o,ho,_⟩:=I.ok.funs.mem hb;exact I.base.free b o ho (I.ok.frf b hb) fun z=>I.ok.exfs b z hb
theorem Inv.step {g':Array GenState}{t':Nat}{d':Drawn}{ch:Dd}(I:Inv X Dp σ H s)
  (hch:∀b∈ch,(b∈X.ex\/X.s₀.heap.objs.size<=b)/\b≠X.env.locals/\(∀x c,X.env.cells.lookup x=some c->c≠b)/\∀p∈X.pn++Dp,p.1≠b)
  (keep:∀b o,b≠X.env.locals->b∉X.fs->b∉ch->s.heap.get? b=some o->H b=none->h'.get? b=some o)
  (slot:∀b o,b≠X.env.locals->b∈X.fs->b∉ch->s.heap.get? b=some o->H b=none->∃sl,h'.get? b=some { o with slots:=sl }) (free:∀b o,b∉ch->s.heap.get? b=some o->H b=none->H' b=none)
  (there:∀b o,b∉ch->s.heap.get? b=some o->∃o',h'.get? b=some o')
  (tups:∀b xs,H b=some (.tup xs)->H' b=some (.tup xs)) (frzs:∀b o u,H b=some (.frz o u)->H' b=some (.frz o u)) (tbls:∀b ps,H b=some (.tbl ps)->∃more,H' b=some (.tbl (ps++more)))
  (ns:∀m,s.heap.Ns X.env.locals m->h'.Ns X.env.locals m) (hok:HOk X.prog X.w H' h') (hg:Md g') :
  Inv X Dp σ H' { s with heap:=h',gens:=g',drawn:=d',toks:=t' }:=by
 have neL:∀b o,X.s₀.heap.get? b=some o->b≠X.env.locals:=fun b o e=>Zr (Zp (Zi e) I.ok.above);have neC:∀b o,X.s₀.heap.get? b=some o->b∉X.ex->b∉ch:=fun b o e hx hb=>by
  rcases(hch b hb).1 with z|z
  ·exact hx z
  ·exact absurd (Zp (Zi e) z) (Yc _)
 have cellK:∀x c,X.env.cells.lookup x=some c->∀v,s.heap.IsCell c v->h'.IsCell c v:=fun x c e v ⟨o,ho,hd⟩=>by
  have nch:c∉ch:=fun z=>(hch c z).2.2.1 x c e rfl
  by_cases hc:c∈X.fs
  ·obtain⟨sl,q⟩:=slot c o (I.cne x c e) hc nch ho (I.freeC x c e);exact⟨_,q,hd⟩
  ·exact⟨o,keep c o (I.cne x c e) hc nch ho (I.freeC x c e),hd⟩
 refine⟨I.ok,I.os,hg,⟨fun b o e n hb hx=>?_,fun b o e n hb hx=>?_,fun b o e n hx=>?_,fun b o e hx=>?_,fun b xs e=>tups b xs (I.base.tups b xs e),fun b o xs e=>frzs b o xs (I.base.frzs b o xs e),fun b ps e=>?_⟩,?_,fun x c e=>?_,?_,fun x c e=>?_,fun p hp=>?_,hok,I.len⟩
 ·exact keep b o (neL b o e) hb (neC b o e hx) (I.base.keep b o e n hb hx) (I.base.free b o e n hx)
 ·obtain⟨sl,e1⟩:=I.base.slot b o e n hb hx;obtain⟨sl',e2⟩:=slot b _ (neL b o e) hb (neC b o e hx) e1 (I.base.free b o e n hx);exact⟨sl',e2⟩
 ·obtain⟨o',e1⟩:=I.base.there b o e hx;exact free b o' (neC b o e hx) e1 (I.base.free b o e n hx)
 ·obtain⟨o',e1⟩:=I.base.there b o e hx;exact there b o' (neC b o e hx) e1
 ·obtain⟨m1,e1⟩:=I.base.tbls b ps e;obtain⟨m2,e2⟩:=tbls b _ e1;exact⟨m1++m2,by rw[e2,Array.append_assoc]⟩
 ·obtain⟨m,hn,hl⟩:=I.loc;refine⟨m,ns m hn,fun i x v e1 e2 e3=>?_⟩;obtain⟨u,r,l⟩:=hl i x v e1 e2 e3;refine⟨u,r,?_⟩
  rcases l with l|⟨k,c,e,z⟩
  ·exact .inl l
  ·exact .inr ⟨k,c,e,cellK x c e _ z⟩
 ·obtain⟨v,z⟩:=I.cell x c e;exact⟨v,cellK x c e v z⟩
 ·obtain⟨m,⟨o,_,_,ho,_⟩,_⟩:=I.loc;exact free _ o (fun z=>(hch _ z).2.1 rfl) ho I.free
 ·obtain⟨v,o,ho,hd⟩:=I.cell x c e;exact free c o (fun z=>(hch c z).2.2.1 x c e rfl) ho (I.freeC x c e)
 ·obtain⟨e,n,ne,nf,d⟩:=I.pin p hp;have nch:p.1∉ch:=fun z=>(hch p.1 z).2.2.2 p hp rfl;exact⟨keep p.1 p.2 ne nf nch e n,free p.1 p.2 nch e n,ne,nf,d⟩
theorem Inv.un {t':Nat}(I:Inv X Dp σ H s)(u:Un X.fs [] H H' s.heap h')(hok:HOk X.prog X.w H' h'):Inv X Dp σ H' { s with heap:=h',toks:=t' }:=by
 obtain⟨m,⟨o,es,ep,ho,r⟩,_⟩:=id I.loc;obtain⟨sl,hL⟩:=u.any ho I.free (by simp);exact I.step (g':=s.gens) (d':=s.drawn) (ch:=[]) (fun _ z=>nomatch z) (fun b o _ hb _ e n=>u.keep b o e n hb (by simp)) (fun b o _ hb _ e n=>u.slot b o e n hb (by simp)) (fun b o _ e n=>u.free b o e n (by simp)) (fun b o _ e=>u.there b o e (by simp)) u.tups u.frzs u.tbls (fun m' hm=>by
  obtain⟨o',es',ep',ho',r'⟩:=hm;rw[ho]at ho';cases ho';exact⟨_,es',ep',hL,r'⟩) hok I.bare
theorem Inv.call {g':Array GenState}{t':Nat}{d':Drawn}(I:Inv X Dp σ H s)(u:Un (frs X.stack) ch H H' s.heap h')(hok:HOk X.prog X.w H' h')(hg:Md g')
  (hch:∀b∈ch,(b∈X.ex\/X.s₀.heap.objs.size<=b)/\b≠X.env.locals/\(∀x c,X.env.cells.lookup x=some c->c≠b)/\∀p∈X.pn++Dp,p.1≠b) :
  Inv X Dp σ H' { s with heap:=h',gens:=g',drawn:=d',toks:=t' }:=by
 obtain⟨m,⟨o,es,ep,ho,r⟩,_⟩:=id I.loc;obtain⟨sl,hL⟩:=u.any ho I.free fun z=>(hch _ z).2.1 rfl;exact I.step (ch:=ch) hch (fun b o hL hb hc e n=>u.keep b o e n (fun z=>(Q7.mp (I.stkSub b z)).elim hL hb) hc) (fun b o _ _ hc e n=>u.any e n hc) (fun b o hc e n=>u.free b o e n hc) (fun b o hc e=>u.there b o e hc) u.tups u.frzs u.tbls (fun m' hm=>by
  obtain⟨o',es',ep',ho',r'⟩:=hm;rw[ho]at ho';cases ho';exact⟨_,es',ep',hL,r'⟩) hok hg
theorem Inv.turned {t':Nat}{it:Eh}(I:Inv X Dp σ H s)(k:∀b o,b≠it->s.heap.get? b=some o->h'.get? b=some o)(hn:H it=none)(hL:it≠X.env.locals)
  (h1:it∈X.ex\/X.s₀.heap.objs.size<=it) (h2:∀x c,X.env.cells.lookup x=some c->c≠it) (h3:∀p∈X.pn++Dp,p.1≠it):Inv X Dp σ H { s with heap:=h',toks:=t' }:=by
 have nit:∀b u,H b=some u->b≠it:=fun b u e z=>by rw[z,hn]at e;cases e
 refine I.step (g':=s.gens) (d':=s.drawn) (ch:=[it]) (fun b hb=>?_) (fun b o _ _ hc e _=>k b o (fun z=>hc (by simp[z])) e) (fun b o _ _ hc e _=>⟨o.slots,k b o (fun z=>hc (by simp[z])) e⟩) (fun _ _ _ _ n=>n)
  (fun b o hc e=>⟨o,k b o (fun z=>hc (by simp[z])) e⟩) (fun _ _ e=>e) (fun _ _ _ e=>e) (fun b ps e=>⟨#[],by rw[e];simp⟩) (fun m hm=>?_) (fun b u e=>?_) I.bare
 ·have e:b=it:=by simpa using hb
  subst e;exact⟨h1,hL,h2,h3⟩
 ·obtain⟨o,es,ep,ho,r⟩:=hm;exact⟨o,es,ep,k _ o (ED hL) ho,r⟩
 ·refine(I.hok b u e).stay (fun c v hc q=>k c v ?_ q) (fun _ q=>q) fun _ _ q=>q
  rcases hc with z|z
  ·rw[z];exact nit b u e
  ·exact nit c _ z
theorem Inv.tok (I:Inv X Dp σ H s)(t:Nat):Inv X Dp σ H { s with toks:=t }:=I.un (h':=s.heap) (t':=t) Un.refl I.hok
theorem Inv.kept {t':Nat}(I:Inv X Dp σ H s)(k:∀b u,s.heap.get? b=some u->h'.get? b=some u):Inv X Dp σ H { s with heap:=h',toks:=t' }:=I.un (Un.kept k) (I.hok.kept k)
theorem Inv.laid {a:Eh}{t':Nat}(I:Inv X Dp σ H s)(k:∀b u,s.heap.get? b=some u->h'.get? b=some u)(hp:s.heap.objs.size<=a)(new:ObjOk X.prog X.w (upd H a o) h' a o) :
  Inv X Dp σ (upd H a o) { s with heap:=h',toks:=t' }:=I.un (Un.laid k hp (I.hok.fresh hp)) (I.hok.laid k hp new)
theorem Inv.write {x e:Eh}{o:HO}{t':Nat}(I:Inv X Dp σ H s)(mu:PL (H x))(he:e=x\/H e=some (.own x))(k:∀b u,b≠e->s.heap.get? b=some u->h'.get? b=some u)(heo:∃u,h'.get? e=some u)
  (new:ObjOk X.prog X.w (upd H x o) h' x o):Inv X Dp σ (upd H x o) { s with heap:=h',toks:=t' }:=I.un (Un.write mu he k heo) (I.hok.write mu he k heo new)
theorem Inv.pins_of {D0:De}(I:Inv X Dp σ H s)(h:∀p∈D0,s.heap.get? p.1=some p.2/\H p.1=none/\p.1≠X.env.locals/\p.1∉X.fs/\∀v,p.2.data≠.cell v):Inv X D0 σ H s :=
 ⟨I.ok,I.os,I.bare,I.base,I.loc,I.cell,I.free,I.freeC,fun p hp=>(Zf.mp hp).elim (fun z=>I.pin p (ZC _ z)) (h p),I.hok,I.len⟩
theorem BH {N:Da}(hN:N.Nodup){i j:Nat}{x:Str}(a:N[i]?=some x)(b:N[j]?=some x):i=j:=by
 obtain⟨h1,e1⟩:=Zl.mp a;obtain⟨h2,e2⟩:=Zl.mp b;exact(YV hN).mp (e1.trans e2.symm)
theorem Gd {M:Model}{A:EF}{E:Eg->Dh}{i:Nat}{x:Str}{Q:Unit->Dh}(I:Inv X Dp σ H s)(hN:X.N.Nodup)(hi:X.N[i]?=some x)(hx:Loc X.env.scope x)(r:RelV v u)
  (h:∀s',Inv X Dp (σ.set i (some v)) H s'->(∃a,Lb a s.heap s'.heap/\(a=X.env.locals\/X.env.cells.lookup x=some a))->Q () s') (hf:X.fn x=true\/X.env.scope.names.lookup x=some .local:=by first|exact .inl rfl|exact .inr rfl|assumption):Ek M A (storeName X.env x u) Q E s:=by
 obtain⟨m,hn,hl⟩:=id I.loc;have hcls:(X.env.scope.kind==.class||(X.env.scope.kind==.module&&X.env.locals !=X.env.globals))=false:=by rw[I.ok.kind];rfl
 have hiσ:i<σ.length:=by rw[I.len];exact(Zl.mp hi).1
 have cne:=I.cne;have tracked:∀{a:Eh} {h':EC},(∃o,s.heap.get? a=some o/\H a=none)->Lb a s.heap h'->HOk X.prog X.w H h':=fun{a h'} ha hs b ob e=>by
  obtain⟨_,_,hfree⟩:=ha;refine(I.hok b ob e).stay (fun c w' hc q=>(hs.2 c ?_).trans q) (fun _ q=>q) fun _ _ q=>q;rintro rfl
  rcases hc with rfl|hc
  ·rw[hfree]at e;cases e
  ·rw[hfree]at hc;cases hc
 rcases hx with hk|hk
 ·refine wpAny_storeName_local hk hn (fun h' hn' hs=>?_) hcls;obtain⟨oL,_,_,hoL,_⟩:=id hn;refine h _ ⟨I.ok,I.os,I.bare,⟨fun b o e n hb hx=>?_,fun b o e n hb hx=>?_,I.base.free,fun b o e hx=>?_,I.base.tups,I.base.frzs,I.base.tbls⟩,⟨_,hn',fun j y v' e1 e2 e3=>?_⟩,fun y c e=>?_,I.free,I.freeC,fun p hp=>?_,tracked ⟨oL,hoL,I.free⟩ hs,by simpa using I.len⟩ ⟨_,hs,.inl rfl⟩
  ·exact(hs.2 b (Zr (Zp (Zi e) I.ok.above))).trans (I.base.keep b o e n hb hx)
  ·obtain⟨sl,e1⟩:=I.base.slot b o e n hb hx;exact⟨sl,(hs.2 b (Zr (Zp (Zi e) I.ok.above))).trans e1⟩
  ·obtain⟨o',e1⟩:=I.base.there b o e hx;exact⟨o',(hs.2 b (Zr (Zp (Zi e) I.ok.above))).trans e1⟩
  ·by_cases hj:j=i
   ·subst hj;rw[hi]at e1;cases e1;rw[List.getElem?_set_self hiσ]at e2;cases e2;exact⟨u,r,.inl ⟨hk,by simp⟩⟩
   ·rw[List.getElem?_set_ne (ED hj)]at e2;obtain⟨u',r',q⟩:=hl j y v' e1 e2 e3;refine⟨u',r',?_⟩
    rcases q with⟨k,e⟩|⟨k,c,e,z⟩
    ·refine .inl ⟨k,?_⟩;have:y≠x:=fun e=>hj (BH hN e1 (e▸hi));simp[this,e]
    ·exact .inr ⟨k,c,e,z.sameBut hs (cne y c e)⟩
  ·obtain⟨w',z⟩:=I.cell y c e;exact⟨w',z.sameBut hs (cne y c e)⟩
  ·obtain⟨e,n,ne,nf,d⟩:=I.pin p hp;exact⟨(hs.2 p.1 ne).trans e,n,ne,nf,d⟩
 ·have hfn:X.fn x=true:=by
   rcases hf with z|z
   ·exact z
   ·rw[z]at hk;cases hk
  obtain⟨c,hc⟩:=I.ok.has x (.inl hk);obtain⟨w',z⟩:=I.cell x c hc;refine wpAny_storeName_cell I.ok.kind hk hc z (fun h' hc' hs=>?_);obtain⟨oc,hoc,hocd⟩:=id z;refine h { s with heap:=h' } ⟨I.ok,I.os,I.bare,⟨fun b o e n hb hx=>?_,fun b o e n hb hx=>?_,I.base.free,fun b o e hx=>?_,I.base.tups,I.base.frzs,I.base.tbls⟩,⟨m,hn.sameBut hs (ED (cne x c hc)),fun j y v' e1 e2 e3=>?_⟩,fun y c' e=>?_,I.free,I.freeC,fun p hp=>?_,tracked ⟨oc,hoc,I.freeC x c hc⟩ hs,by simpa using I.len⟩ ⟨c,hs,.inr hc⟩
  ·exact(hs.2 b (Zr (Zp (Zi e) (I.ok.cab x c hfn hc)))).trans (I.base.keep b o e n hb hx)
  ·obtain⟨sl,e1⟩:=I.base.slot b o e n hb hx;exact⟨sl,(hs.2 b (Zr (Zp (Zi e) (I.ok.cab x c hfn hc)))).trans e1⟩
  ·obtain⟨o',e1⟩:=I.base.there b o e hx;exact⟨o',(hs.2 b (Zr (Zp (Zi e) (I.ok.cab x c hfn hc)))).trans e1⟩
  ·by_cases hj:j=i
   ·subst hj;rw[hi]at e1;cases e1;rw[List.getElem?_set_self hiσ]at e2;cases e2;exact⟨u,r,.inr ⟨.inl hk,c,hc,hc'⟩⟩
   ·rw[List.getElem?_set_ne (ED hj)]at e2;obtain⟨u',r',q⟩:=hl j y v' e1 e2 e3;refine⟨u',r',?_⟩
    rcases q with q|⟨k,c',e,z'⟩
    ·exact .inl q
    ·refine .inr ⟨k,c',e,z'.sameBut hs ?_⟩;rintro rfl;exact hj (BH hN e1 (I.ok.inj _ _ _ e hc▸hi))
  ·by_cases hcc:c'=c
   ·subst hcc;exact⟨_,hc'⟩
   ·obtain⟨w2,z2⟩:=I.cell y c' e;exact⟨w2,z2.sameBut hs hcc⟩
  ·obtain⟨e,n,ne,nf,d⟩:=I.pin p hp;refine⟨(hs.2 p.1 ?_).trans e,n,ne,nf,d⟩;intro q;rw[q,hoc]at e;have q':oc=p.2:=Option.some.inj e;exact d w' (by rwa[←q'])
theorem Xx {M:Model}{A:EF}{E:Eg->Dh}{i:Nat}{x:Str}{Q:Unit->Dh}(I:Inv X Dp σ H s)(hN:X.N.Nodup)(hi:X.N[i]?=some x)(hx:Loc X.env.scope x)(r:RelV v u)
  (h:∀s',Inv X Dp (σ.set i (some v)) H s'->Q () s') (hf:X.fn x=true\/X.env.scope.names.lookup x=some .local:=by first|exact .inl rfl|exact .inr rfl|assumption):Ek M A (storeName X.env x u) Q E s :=
 Gd I hN hi hx r (fun s' I' _=>h s' I') hf
theorem Inv.call' {s':Ej}(I:Inv X Dp σ H s)(ho:s'.os=s.os)(u:Un (frs X.stack) ch H H' s.heap s'.heap)(hok:HOk X.prog X.w H' s'.heap)(hg:Md s'.gens)
  (hch:∀b∈ch,(b∈X.ex\/X.s₀.heap.objs.size<=b)/\b≠X.env.locals/\(∀x c,X.env.cells.lookup x=some c->c≠b)/\∀p∈X.pn++Dp,p.1≠b):Inv X Dp σ H' s':=by
 obtain⟨h',g',d',t',o'⟩:=s';have e:o'=s.os:=ho;subst e;exact I.call (g':=g') (t':=t') (d':=d') u hok hg hch
end
abbrev XK:=Eg->Option Eh->Hp->Prop
abbrev St:=List (Option V)
abbrev VK:=V->Hp->Prop
abbrev TE:=St->Hp->VK->Prop
abbrev TT:=St->Hp->(Bool->Hp->Prop)->Prop
abbrev TA:=St->Hp->(Dj->Hp->Prop)->Prop
structure Ends where
 nx:St->Hp->Prop
 rt:VK
 bk:St->Hp->Prop:=fun _ _=>False
 ct:St->Hp->Prop:=fun _ _=>False
abbrev TS:=Ends->St->Hp->Prop
def EP (X:Cx)(Dp:De)(σ:St)(Q:VK)(u:Eg)(s':Ej):Prop:=∃v H',Inv X Dp σ H' s'/\RelV v u/\Q v H'
def TP (X:Cx)(Dp:De)(σ:St)(Q:Bool->Hp->Prop)(b:Bool)(s':Ej):Prop:=∃H',Inv X Dp σ H' s'/\Q b H'
def AP (X:Cx)(Dp:De)(σ:St)(Q:Dj->Hp->Prop)(us:Db)(s':Ej):Prop:=∃vs H',Inv X Dp σ H' s'/\Vals vs us/\Q vs H'
def SP (X:Cx)(Dp:De)(D:Ends)(f:Flow)(s':Ej):Prop :=
 match f with
 | .next=>∃σ' H',Inv X Dp σ' H' s'/\D.nx σ' H'
 | .brk=>∃σ' H',Inv X Dp σ' H' s'/\D.bk σ' H'
 | .cont=>∃σ' H',Inv X Dp σ' H' s'/\D.ct σ' H'
 | .ret u=>∃v σ' H',Inv X Dp σ' H' s'/\RelV v u/\D.rt v H'
def PE (X:Cx)(e:EI)(t:TE):Prop :=
 ∀(Dp:De) (s:Ej) (σ:St) (H:Hp) (Q:VK),Inv X Dp σ H s->t σ H Q->Ek (Es X.prog X.w) X.A (EY e X.env) (EP X Dp σ Q) X.xe s
def PT (X:Cx)(e:EI)(t:TT):Prop :=
 ∀(Dp:De) (s:Ej) (σ:St) (H:Hp) (Q:Bool->Hp->Prop),Inv X Dp σ H s->t σ H Q->Ek (Es X.prog X.w) X.A (isTrue e X.env (EY e X.env)) (TP X Dp σ Q) X.xe s
def PW (X:Cx)(e:EI)(t:TT):Prop :=
 ∀(whole:Sem Eg) (Dp:De) (s:Ej) (σ:St) (H:Hp) (Q:Bool->Hp->Prop),Inv X Dp σ H s->t σ H Q->Ek (Es X.prog X.w) X.A (isTrue e X.env whole) (TP X Dp σ Q) X.xe s
theorem PW.pt (h:PW X e t):PT X e t:=h _
def PA (X:Cx)(es:List EI)(t:TA):Prop :=
 ∀(pos:Pos) (Dp:De) (s:Ej) (σ:St) (H:Hp) (Q:Dj->Hp->Prop),Inv X Dp σ H s->t σ H Q->Ek (Es X.prog X.w) X.A (spliced (E7 pos (Ev es X.env))) (AP X Dp σ Q) X.xe s
def PS (X:Cx)(st:ER)(t:TS):Prop :=
 ∀(Dp:De) (s:Ej) (σ:St) (H:Hp) (D:Ends),Inv X Dp σ H s->t D σ H->Ek (Es X.prog X.w) X.A (exec st X.env) (SP X Dp D) X.xe s
def PSs (X:Cx)(st:List ER)(t:TS):Prop :=
 ∀(Dp:De) (s:Ej) (σ:St) (H:Hp) (D:Ends),Inv X Dp σ H s->t D σ H->Ek (Es X.prog X.w) X.A (execs st X.env) (SP X Dp D) X.xe s
theorem A3 {α:Type}{t:Sem α}{Q Q':α->Dh}{M:Model}{A:EF}{E:Eg->Dh}{s:Ej}(h:Ek M A t Q E s)(hQ:∀a s,Q a s->Q' a s):Ek M A t Q' E s:=Yd h hQ fun _ _ x=>x
section
variable {X:Cx}
def RH (i:Nat):TE:=fun σ H Q=>∃v,σ[i]?=some (some v)/\Q v H
def tC (v:V):TE:=fun _ H Q=>Q v H
theorem Rm {i:Nat}{x:Str}{pos:Pos}(hN:X.N[i]?=some x)(hv:SX X.env.scope x)(hd:(x==("__debug__":Str))=false:=by decide)(hcd:(x==("__classdict__":Str))=false:=by decide):PE X (.Name x pos) (RH i):=by
 intro Dp s σ H Q I h;obtain⟨v,e,h⟩:=h;obtain⟨m,hn,hl⟩:=I.loc;obtain⟨u,r,l⟩:=hl i x v hN e hv;have fin:EP X Dp σ Q u s:=⟨v,H,I,r,h⟩
 rcases l with⟨hk,hm⟩|⟨hk,c,hc,hcell⟩
 ·exact wpAny_Name (wpAny_loadName_local I.ok.kind hk hn hm fin) hd
 ·rcases hk with hk|hk
  ·exact wpAny_Name (wpAny_loadName_cell I.ok.kind hk hc hcell fin) hd
  ·exact wpAny_Name (wpAny_loadName_free I.ok.kind hk hc hcell fin hcd) hd
theorem zI {i j pos}:PE X (.Constant (.int i) j pos) (tC (.int i)):=fun _ _ _ H _ I h=>wpAny_Constant_int ⟨.int i,H,I.tok _,⟨_,rfl⟩,h⟩
theorem uK {b j pos}:PE X (.Constant (.bool b) j pos) (tC (.bl b)):=fun _ _ _ H _ I h=>Constant_bool ⟨.bl b,H,I,rfl,h⟩
theorem Bq {j pos}:PE X (.Constant .none j pos) (tC .non):=fun _ _ _ H _ I h=>Constant_none ⟨.non,H,I,rfl,h⟩
theorem pe_str {x j pos}:PE X (.Constant (.str x) j pos) (tC (.str x)):=fun _ _ _ H _ I h=>Calls.Constant_str ⟨.str x,H,I.tok _,⟨_,rfl⟩,h⟩
def Gl (X:Cx)(x:Str):Prop:=X.env.kindOf x=some .globalImplicit
theorem uI {E:Eg->Dh}{u:Eg}{pos:Pos}{Q:Eg->Dh}(I:Inv X Dp σ H s)(hg:Gl X x)(hm:X.mg x=some u)(h:Q u s)
  (hd:(x==("__debug__":Str))=false:=by decide):Ek (Es X.prog X.w) X.A (EY (.Name x pos) X.env) Q E s :=
 Calls.Name_function_global I.ok.kind hg (Calls.loadGlobal_global (by rw[I.ok.glob];exact I.mod.glob.keeps I.bk) hm h) hd
theorem vG {E:Eg->Dh}{u:Eg}{pos:Pos}{Q:Eg->Dh}(I:Inv X Dp σ H s)(hg:Gl X x)(hm:X.mg x=none)(hv:Lx x=some u)(h:Q u s)
  (hn:x≠"__name__":=by decide) (hd:(x==("__debug__":Str))=false:=by decide):Ek (Es X.prog X.w) X.A (EY (.Name x pos) X.env) Q E s:=by
 obtain⟨mb,h1,h2⟩:=I.mod.blt;exact Calls.Name_function_global I.ok.kind hg (Calls.loadGlobal_builtin (by rw[I.ok.glob];exact I.mod.glob.keeps I.bk) hm (by rw[I.ok.blt];exact h1.keeps I.bk) ((h2 x hn).trans hv) h) hd
theorem xA {u:Eg}{pos:Pos}(hg:Gl X x)(hm:X.mg x=some u)(r:RelV v u)(hd:(x==("__debug__":Str))=false:=by decide):PE X (.Name x pos) (tC v) :=
 fun _ _ _ H _ I h=>uI I hg hm ⟨v,H,I,r,h⟩ hd
theorem yX {u:Eg}{pos:Pos}(hg:Gl X x)(hm:X.mg x=none)(hv:Lx x=some u)(r:RelV v u)(hn:x≠"__name__":=by decide)(hd:(x==("__debug__":Str))=false:=by decide):PE X (.Name x pos) (tC v) :=
 fun _ _ _ H _ I h=>vG I hg hm hv ⟨v,H,I,r,h⟩ hn hd
variable {a b:EI}{ta tb:TE}{pos:Pos}
def PC (X:Cx)(op:CmpOp)(a b:EI)(t:TE):Prop :=
 ∀(Dp:De) (s:Ej) (σ:St) (H:Hp) (Q:VK),Inv X Dp σ H s->t σ H Q ->
  Ek (Es X.prog X.w) X.A (EY a X.env) (fun v s₁=>Ek (Es X.prog X.w) X.A (EY b X.env) (fun u s₂=>Ek (Es X.prog X.w) X.A (EO op v u) (EP X Dp σ Q) X.xe s₂) X.xe s₁) X.xe s
variable {tA tB':TT}{rest:List EI}
def Tr (t u:TT):TT:=fun σ H Q=>t σ H fun c H1=>if c=true then u σ H1 Q else Q false H1
def tOr (t u:TT):TT:=fun σ H Q=>t σ H fun c H1=>if c=true then Q true H1 else u σ H1 Q
def TB (t:TT):TT:=fun σ H Q=>t σ H fun c H1=>Q (!c) H1
theorem vC (ha:PT X a tA):PW X (.BoolOp .And [a] pos) tA:=by
 intro wh Dp s σ H Q I h;refine isTrue_and (A3 (ha Dp s σ H Q I h) fun c s1 e=>?_);cases c with
 |true=>exact isTrue_and_nil e
 |false=>exact e
theorem j0 (ha:PT X a tA):PW X (.BoolOp .Or [a] pos) tA:=by
 intro wh Dp s σ H Q I h;refine isTrue_or (A3 (ha Dp s σ H Q I h) fun c s1 e=>?_);cases c with
 |false=>exact isTrue_or_nil e
 |true=>exact e
theorem UP (ha:PT X a tA)(hb:PW X (.BoolOp .And (b::rest) pos) tB'):PW X (.BoolOp .And (a::b::rest) pos) (Tr tA tB'):=by
 intro wh Dp s σ H Q I h;refine isTrue_and (A3 (ha Dp s σ H _ I h) fun c s1 ⟨H1,I1,q1⟩=>?_);cases c with
 |true=>exact hb wh Dp s1 σ H1 Q I1 q1
 |false=>exact⟨H1,I1,q1⟩
theorem uH (ha:PT X a tA)(hb:PW X (.BoolOp .Or (b::rest) pos) tB'):PW X (.BoolOp .Or (a::b::rest) pos) (tOr tA tB'):=by
 intro wh Dp s σ H Q I h;refine isTrue_or (A3 (ha Dp s σ H _ I h) fun c s1 ⟨H1,I1,q1⟩=>?_);cases c with
 |true=>exact⟨H1,I1,q1⟩
 |false=>exact hb wh Dp s1 σ H1 Q I1 q1
theorem xS (ha:PT X a tA):PT X (.UnaryOp .Not a pos) (TB tA):=by
 intro Dp s σ H Q I h;exact isTrue_not (ha Dp s σ H (fun c H1=>Q (!c) H1) I h)
def Sy (ta tb:TE):TE:=fun σ H Q=>ta σ H fun x H1=>∃c,x=.bl c/\if c=true then tb σ H1 Q else Q (.bl false) H1
def TC (ta tb:TE):TE:=fun σ H Q=>ta σ H fun x H1=>∃c,x=.bl c/\if c=true then Q (.bl true) H1 else tb σ H1 Q
theorem qJ (h:PE X a t):PE X (.BoolOp op [a] pos) t:=fun Dp s σ H Q I hw=>BoolOp_one (h Dp s σ H Q I hw)
theorem xI (ha:PE X a ta)(hb:PE X (.BoolOp .And (b::rest) pos) tb):PE X (.BoolOp .And (a::b::rest) pos) (Sy ta tb):=by
 intro Dp s σ H Q I h;refine BoolOp_and (A3 (ha Dp s σ H _ I h) fun v s1 ⟨x,H1,I1,r1,q1⟩=>?_);obtain⟨c,rfl,q1⟩:=q1;cases r1;refine YJ ?_;cases c with
 |true=>exact hb Dp s1 σ H1 Q I1 q1
 |false=>exact⟨.bl false,H1,I1,rfl,q1⟩
theorem Pm (ha:PE X a ta)(hb:PE X (.BoolOp .Or (b::rest) pos) tb):PE X (.BoolOp .Or (a::b::rest) pos) (TC ta tb):=by
 intro Dp s σ H Q I h;refine BoolOp_or (A3 (ha Dp s σ H _ I h) fun v s1 ⟨x,H1,I1,r1,q1⟩=>?_);obtain⟨c,rfl,q1⟩:=q1;cases r1;refine YJ ?_;cases c with
 |false=>exact hb Dp s1 σ H1 Q I1 q1
 |true=>exact⟨.bl true,H1,I1,rfl,q1⟩
def tIf (t:TT)(ta tb:TE):TE:=fun σ H Q=>t σ H fun c H1=>if c=true then ta σ H1 Q else tb σ H1 Q
theorem XV (hc:PT X c tA)(ha:PE X a ta)(hb:PE X b tb):PE X (.IfExp c a b pos) (tIf tA ta tb):=by
 intro Dp s σ H Q I h;refine wpAny_IfExp (A3 (hc Dp s σ H _ I h) fun d s1 ⟨H1,I1,q1⟩=>?_);cases d with
 |true=>exact ha Dp s1 σ H1 Q I1 q1
 |false=>exact hb Dp s1 σ H1 Q I1 q1
end
def SqL (K:AZ)(H:Hp)(a:Eh)(xs:Dj):Prop :=
 Rd H a (.lst xs) \/
  ∃(o:Obj) (its:Array Eg) (n:Nat),K.lookup a=some o/\o.cls=.type "list"/\o.dict=none/\o.data=.seq its n/\its.size<=sizeLine/\Vals xs its.toList
def SqT (K:AZ)(H:Hp)(a:Eh)(xs:Dj):Prop :=
 Rd H a (.tup xs) \/
  ∃(o:Obj) (its:Array Eg) (n:Nat),K.lookup a=some o/\o.cls=.type "tuple"/\o.dict=none/\o.data=.seq its n/\its.size<=sizeLine/\Vals xs its.toList
def SY:Eg->Option V
 | .none=>some .non
 | .bool b=>some (.bl b)
 | .int i _=>some (.int i)
 | .str x _=>some (.str x)
 | .bytes b _=>some (.byt b)
 | .float b _=>some (.flt b)
 | .ref a=>some (.ref a)
 | .type n=>some (.ty n)
 |_=>none
theorem RelV.abs (r:RelV x u):SY u=some x:=by
 cases x with
 |non=>cases r;rfl
 |bl _=>cases r;rfl
 |int _=>obtain⟨t,rfl⟩:=r;rfl
 |str _=>obtain⟨t,rfl⟩:=r;rfl
 |byt _=>obtain⟨t,rfl⟩:=r;rfl
 |flt _=>obtain⟨t,rfl⟩:=r;rfl
 |ref _=>cases r;rfl
 |ty _=>cases r;rfl
theorem RelV.inj (r:RelV x u)(q:RelV y u):x=y:=Option.some.inj (r.abs.symm.trans q.abs)
theorem Vals.inj:∀{xs ys:Dj} {us:Db},Vals xs us->Vals ys us->xs=ys
 |_,_,_,.nil,.nil=>rfl
 |_,_,_,.cons r t,.cons r' t'=>by rw[r.inj r',Vals.inj t t']
section
variable {X:Cx}{Dp:De}{σ:St}{H:Hp}{s:Ej}{a:Eh}{xs ys:Dj}
theorem SqL.of {K:AZ}(h:H a=some (.lst xs)):SqL K H a xs:=.inl (.inl h)
theorem SqT.of {K:AZ}(h:H a=some (.tup xs)):SqT K H a xs:=.inl (.inl h)
theorem Inv.list (I:Inv X Dp σ H s)(h:SqL X.K H a xs):∃its:Db,Vals xs its/\PlainL s.heap a its.toArray/\xs.length<=sizeLine:=by
 rcases h with h|⟨o,its,n,hk,hc,hd,hs,hz,r⟩
 ·obtain⟨z,its,n,r,e⟩:=h.ok I.hok;exact⟨its,r,⟨_,n,e,rfl,rfl,rfl⟩,z⟩
 ·refine⟨its.toList,r,⟨o,n,I.kIn a o hk,hc,hd,by simpa using hs⟩,?_⟩;have e:=r.length;simp only[ZA]at e;omega
theorem Inv.tupleD (I:Inv X Dp σ H s)(h:SqT X.K H a xs):∃its:Db,Vals xs its/\TupAt s.heap a its.toArray/\xs.length<=sizeLine:=by
 rcases h with h|⟨o,its,n,hk,hc,hdn,hs,hz,r⟩
 ·obtain⟨z,its,r,p⟩:=h.ok I.hok;exact⟨its,r,p,z⟩
 ·refine⟨its.toList,r,⟨o,I.kIn a o hk,hc,n,by simpa using hs,hdn⟩,?_⟩;have e:=r.length;simp only[ZA]at e;omega
theorem Inv.tuple (I:Inv X Dp σ H s)(h:SqT X.K H a xs):∃its:Db,Vals xs its/\IsTup s.heap a its.toArray/\xs.length<=sizeLine:=by
 obtain⟨its,r,p,z⟩:=I.tupleD h;exact⟨its,r,p.is,z⟩
theorem Inv.list_inj (I:Inv X Dp σ H s)(h:SqL X.K H a xs)(h':SqL X.K H a ys):xs=ys:=by
 obtain⟨its,r,⟨o,n,e,_,_,d⟩,_⟩:=I.list h;obtain⟨DU,r',⟨o',n',e',_,_,d'⟩,_⟩:=I.list h';rw[e]at e';cases e';rw[d]at d';injection d' with d1 _;have:its=DU:=by simpa using congrArg Array.toList d1
 subst this;exact r.inj r'
theorem Inv.tuple_inj (I:Inv X Dp σ H s)(h:SqT X.K H a xs)(h':SqT X.K H a ys):xs=ys:=by
 obtain⟨its,r,⟨o,e,_,n,d⟩,_⟩:=I.tuple h;obtain⟨DU,r',⟨o',e',_,n',d'⟩,_⟩:=I.tuple h';rw[e]at e';cases e';rw[d]at d';injection d' with d1 _;have:its=DU:=by simpa using congrArg Array.toList d1
 subst this;exact r.inj r'
end
abbrev Cx.wish (X:Cx)(E:Eg->Dh):Cx:={ X with xe:=E }
abbrev Cx.nox (X:Cx):Cx:=X.wish fun _ _=>False
theorem Cx.Ok.wish {X:Cx}(ok:X.Ok)(E:Eg->Dh):(X.wish E).Ok :=
 ⟨ok.mod,ok.kind,ok.glob,ok.blt,ok.above,ok.inj,ok.has,ok.cab,ok.hd,ok.frames,ok.stk,ok.exf,ok.bs,ok.bsz,ok.noex,ok.exfs,ok.funs,ok.frf⟩
theorem Cx.Ok.unwish {X:Cx}{E:Eg->Dh}(ok:(X.wish E).Ok):X.Ok :=
 ⟨ok.mod,ok.kind,ok.glob,ok.blt,ok.above,ok.inj,ok.has,ok.cab,ok.hd,ok.frames,ok.stk,ok.exf,ok.bs,ok.bsz,ok.noex,ok.exfs,ok.funs,ok.frf⟩
section
variable {X:Cx}{Dp:De}{σ:St}{H:Hp}{s:Ej}{E:Eg->Dh}
theorem Inv.wish (I:Inv X Dp σ H s)(E:Eg->Dh):Inv (X.wish E) Dp σ H s:=⟨I.ok.wish E,I.os,I.bare,I.base,I.loc,I.cell,I.free,I.freeC,I.pin,I.hok,I.len⟩
theorem Inv.unwish (I:Inv (X.wish E) Dp σ H s):Inv X Dp σ H s:=⟨I.ok.unwish,I.os,I.bare,I.base,I.loc,I.cell,I.free,I.freeC,I.pin,I.hok,I.len⟩
theorem SP.unwish (h:SP (X.wish E) Dp D f s'):SP X Dp D f s':=by
 cases f with
 |next=>obtain⟨σ',H',I,q⟩:=h;exact⟨σ',H',I.unwish,q⟩
 |brk=>obtain⟨σ',H',I,q⟩:=h;exact⟨σ',H',I.unwish,q⟩
 |cont=>obtain⟨σ',H',I,q⟩:=h;exact⟨σ',H',I.unwish,q⟩
 |ret u=>obtain⟨v,σ',H',I,r,q⟩:=h;exact⟨v,σ',H',I.unwish,r,q⟩
theorem PSs.nox {st:List ER}(h:PSs X.nox st t):PSs X st t:=fun Dp s σ H D I hw =>
 Yd (h Dp s σ H D (I.wish _) hw) (fun _ _ q=>q.unwish) fun _ _ z=>EH z
end
section
variable {X:Cx}{st:ER}{rest:List ER}{t u:TS}{e:EI}{te:TE}{pos:Pos}
def PD:TS:=fun D σ H=>D.nx σ H
def Pa (t u:TS):TS:=fun D σ H=>t { D with nx:=u D } σ H
theorem zU:PSs X [] PD:=fun _ _ σ H _ I h=>JF ⟨σ,H,I,h⟩
theorem zE (h1:PS X st t)(h2:PSs X rest u):PSs X (st::rest) (Pa t u):=by
 intro Dp s σ H D I h;refine Vu (A3 (h1 Dp s σ H { D with nx:=u D } I h) fun f s1 q=>?_);cases f with
 |next =>
  obtain⟨σ',H',I',q⟩:=q;exact h2 Dp s1 σ' H' D I' q
 |ret v=>exact q
 |brk=>exact q
 |cont=>exact q
theorem zF (h1:PS X st t):PSs X [st] t:=by
 intro Dp s σ H D I h;refine Vu (A3 (h1 Dp s σ H D I h) fun f s1 q=>?_);cases f with
 |next=>exact JF q
 |ret v=>exact q
 |brk=>exact q
 |cont=>exact q
theorem Inv.quiet (I:Inv X Dp σ H s):interactive X.env=false:=by simp[interactive,I.ok.kind]
def SB (te:TE):TS:=fun D σ H=>te σ H fun _ H1=>D.nx σ H1
theorem yB (he:PE X e te)(hs:Mg e none pos.line X.env=Ly false:=by rfl):PS X (.Expr e pos) (SB te):=by
 intro Dp s σ H D I h;exact wpAny_Expr_any (A3 (he Dp s σ H _ I h) fun v s1 ⟨x,H1,I1,r1,q1⟩=>⟨σ,H1,I1,q1⟩) I.quiet hs
def TD (te:TE):TS:=fun D σ H=>te σ H D.rt
theorem zO (he:PE X e te):PS X (.Return (some e) pos) (TD te):=by
 intro Dp s σ H D I h;exact wpAny_Return_some (A3 (he Dp s σ H _ I h) fun v s1 ⟨x,H1,I1,r1,q1⟩=>⟨x,σ,H1,I1,r1,q1⟩)
def Ty (c:TT)(t u:TS):TS:=fun D σ H=>c σ H fun b H1=>if b=true then t D σ H1 else u D σ H1
theorem yM (hc:PT X c tc)(ha:PSs X a t)(hb:PSs X b u):PS X (.If c a b pos) (Ty tc t u):=by
 intro Dp s σ H D I h;refine wpAny_If (A3 (hc Dp s σ H _ I h) fun d s1 ⟨H1,I1,q1⟩=>?_);cases d with
 |true=>exact ha Dp s1 σ H1 D I1 q1
 |false=>exact hb Dp s1 σ H1 D I1 q1
end
abbrev TG:=V->St->Hp->(St->Hp->Prop)->Prop
abbrev PP:=Dj->St->Hp->(St->Hp->Prop)->Prop
def PG (X:Cx)(target:EI)(t:TG):Prop :=
 ∀(Dp:De) (s:Ej) (σ:St) (H:Hp) (v:V) (u:Eg) (Q:St->Hp->Prop),Inv X Dp σ H s->RelV v u->t v σ H Q ->
  Ek (Es X.prog X.w) X.A (assign target X.env u) (fun _ s'=>∃σ' H',Inv X Dp σ' H' s'/\Q σ' H') X.xe s
def PGs (X:Cx)(ts:List EI)(t:PP):Prop :=
 ∀(Dp:De) (s:Ej) (σ:St) (H:Hp) (vs:Dj) (us:Db) (Q:St->Hp->Prop),Inv X Dp σ H s->Vals vs us->t vs σ H Q ->
  Ek (Es X.prog X.w) X.A (assignInOrder ((assignEach ts X.env).map (·.2)) us) (fun _ s'=>∃σ' H',Inv X Dp σ' H' s'/\Q σ' H') X.xe s
section
variable {X:Cx}{pos:Pos}
def IU (i:Nat):TG:=fun v σ H Q=>Q (σ.set i (some v)) H
theorem zS {i:Nat}{x:Str}(hN:X.N.Nodup)(hi:X.N[i]?=some x)(hx:Loc X.env.scope x)(hf:X.fn x=true\/X.env.scope.names.lookup x=some .local:=by first|exact .inl rfl|exact .inr rfl|assumption):PG X (.Name x pos) (IU i):=by
 intro Dp s σ H v u Q I r h;exact wpAny_assign_Name (Xx I hN hi hx r (fun s' I'=>⟨_,H,I',h⟩) hf)
def S5:PP:=fun vs σ H Q=>vs=[]/\Q σ H
def R7 (t:TG)(u:PP):PP:=fun vs σ H Q=>∃v r,vs=v::r/\t v σ H fun σ' H'=>u r σ' H' Q
theorem Xo:PGs X [] S5:=by
 intro Dp s σ H vs us Q I r h;obtain⟨e,h⟩:=h;subst e;cases r;exact assignInOrder_nil ⟨σ,H,I,h⟩
theorem qE (h1:PG X e t)(h2:PGs X es u)
  (hs:(assignEach (e::es) X.env).map (·.2)=assign e X.env::(assignEach es X.env).map (·.2):=by rfl):PGs X (e::es) (R7 t u):=by
 intro Dp s σ H vs us Q I r h;obtain⟨v,vr,e1,h⟩:=h;subst e1;cases r with
 |cons r rr =>
  rw[hs];refine assignInOrder_cons (A3 (h1 Dp s σ H _ _ _ I r h) fun _ s1 ⟨σ1,H1,I1,q1⟩=>?_);exact h2 Dp s1 σ1 H1 _ _ Q I1 rr q1
def S6 (K:AZ)(n:Nat)(t:PP):TG:=fun v σ H Q=>∃a xs,v=.ref a/\SqT K H a xs/\xs.length=n/\t xs σ H Q
theorem Bm {k:Nat}{n:Nat}(hc:X.calm=true)(h:PGs X es t)
  (hn:(assignEach es X.env).length=n:=by rfl) (hst:(assignEach es X.env).findIdx? (·.1)=none:=by rfl):PG X (.Tuple es k pos) (S6 X.K n t):=by
 intro Dp s σ H v u Q I r hw;obtain⟨a,xs,e1,hq,hl,hw⟩:=hw;subst e1;cases r;obtain⟨its,rv,ht,hz⟩:=I.tuple hq;refine assign_Tuple_tuple (I.ok.hd hc) ht (by simp[hn,←hl,rv.length]) hst fun h' hx=>?_;have I1:Inv X Dp σ H { s with heap:=h' }:=I.kept (t':=s.toks) fun b o e=>hx b o (Zr (Zi e)) e;exact h Dp _ σ H xs _ Q I1 (by simpa using rv) hw
def Rw (te:TE)(g:TG):TS:=fun D σ H=>te σ H fun x H1=>g x σ H1 D.nx
theorem zR {i:Nat}{x:Str}{DN:Pos}(hN:X.N.Nodup)(hi:X.N[i]?=some x)(hx:Loc X.env.scope x)(he:PE X e te)(hs:Mg e (some (.Name x DN)) pos.line X.env=Ly false:=by rfl)(hf:X.fn x=true\/X.env.scope.names.lookup x=some .local:=by first|exact .inl rfl|exact .inr rfl|assumption) :
  PS X (.Assign [.Name x DN] e pos) (Rw te (IU i)):=by
 intro Dp s σ H D I h;refine wpAny_Assign_Name (A3 (he Dp s σ H _ I h) fun v s1 ⟨y,H1,I1,r1,q1⟩=>?_) hs;exact Xx I1 hN hi hx r1 (fun s2 I2=>⟨_,H1,I2,q1⟩) hf
theorem A8 {i:Nat}{x:Str}{DN:Pos}(hN:X.N.Nodup)(he:PE X e te)(hi:X.N[i]?=some x:=by rfl)(hx:Loc X.env.scope x:=by first|exact EJ rfl|exact Or.inr rfl)(hs:Mg e (some (.Name x DN)) pos.line X.env=Ly false:=by rfl)(hf:X.fn x=true\/X.env.scope.names.lookup x=some .local:=by first|exact .inl rfl|exact .inr rfl|assumption):PS X (.Assign [.Name x DN] e pos) (Rw te (IU i)):=zR hN hi hx he hs hf
def N0 (c:TT)(tb:TS):TS:=fun D σ H=>∃W:Nat->St->Hp->Prop,(∃m,W m σ H)/\∀m σ H,W m σ H ->
 c σ H fun b H1=>if b=true then∃N:St->Hp->Prop,(∀σ' H',N σ' H'->∃m',m'<m/\W m' σ' H')/\tb { D with nx:=N,ct:=N,bk:=D.nx } σ H1 else D.nx σ H1
theorem Nw (hp:PassesOwn (Es X.prog X.w) X.A X.env X.xe)(hc:PT X c tc)(hb:PSs X body tb):PS X (.While c body [] pos) (N0 tc tb):=by
 intro Dp s σ H D I h;obtain⟨W,⟨m0,w0⟩,turn⟩:=h;refine wpAny_While (codeAny_whileLoop (fun n s'=>∃σ' H',Inv X Dp σ' H' s'/\W n σ' H') ?_ m0 ⟨σ,H,I,w0⟩);rintro n s1 ⟨σ1,H1,I1,w1⟩;refine Y7 hp (A3 (hc Dp s1 σ1 H1 _ I1 (turn n σ1 H1 w1)) fun b s2 ⟨H2,I2,q2⟩=>?_);cases b with
 |true =>
  obtain⟨N,hN,q2⟩:=q2;rw[Zk rfl];refine Y7 hp (A3 (hb Dp s2 σ1 H2 _ I2 q2) fun f s3 q3=>?_);cases f with
  |next =>
   obtain⟨σ3,H3,I3,n3⟩:=q3;obtain⟨m',hm,w3⟩:=hN σ3 H3 n3;exact⟨m',hm,σ3,H3,I3,w3⟩
  |cont =>
   obtain⟨σ3,H3,I3,n3⟩:=q3;obtain⟨m',hm,w3⟩:=hN σ3 H3 n3;exact⟨m',hm,σ3,H3,I3,w3⟩
  |brk=>exact q3
  |ret v=>exact q3
 |false =>
  rw[Zh Zw];exact JF ⟨σ1,H2,I2,q2⟩
end
structure It where
 go:Nat->Hp->Prop
 yld:Nat->Hp->V->Hp->Prop
 stop:Nat->Hp->Prop
def U6 (X:Cx)(Dp:De)(H:Hp)(b:Eh):Prop :=
 H b=none/\b≠X.env.locals/\b∉X.fs/\(b∈X.ex\/X.s₀.heap.objs.size<=b)/\(∀x c,X.env.cells.lookup x=some c->c≠b)/\∀p∈X.pn++Dp,p.1≠b
theorem Inv.fpOk {H':Hp}{b:Eh}(I:Inv X Dp σ H s)(hb:s.heap.objs.size<=b)(hn:H' b=none):U6 X Dp H' b:=by
 refine⟨hn,JL (Zp I.lt hb),I.nofs hb,.inr (ZD I.sz hb),fun x c e z=>?_,fun p hp z=>?_⟩
 ·obtain⟨v,q⟩:=I.cell x c e;exact absurd (Zp q.lt (by rwa[z])) (Yc _)
 ·exact absurd (Zp (Zi (I.pin p hp).1) (by rwa[z])) (Yc _)
structure Turn (P:Ei)(w:Eo)(K:AZ)(tg:EI)(J:It)(fp:Dd)(it:Eh)(tn:Nat->EC->Prop):Prop where
 mem:it∈fp
 obj:∀i h,tn i h->∀b∈fp,∃o,h.get? b=some o/\∀v,o.data≠.cell v
 keep:∀i h h',tn i h->(∀b∈fp,∀o,h.get? b=some o->h'.get? b=some o)->tn i h'
 item:∀(X:Cx),X.prog=P->X.w=w->X.K=K->X.calm=true->∀(i:Nat) (Dp:De) (s:Ej) (σ:St) (H:Hp) (E:Eg->Dh),Inv X Dp σ H s->(∀b∈fp,U6 X Dp H b)->tn i s.heap->J.go i H ->
  Ek (Es P w) X.A (Ma (.ref it)) (fun r s1=>∃u,r=some u /\ Ek (Es P w) X.A (LQ tg (.ref it) u) (fun _ s2=>∃x H',Inv X Dp σ H' s2/\RelV x u/\J.yld i H x H'/\tn (i+1) s2.heap/\∀b∈fp,H' b=none) E s1) E s
 done:∀(X:Cx),X.prog=P->X.w=w->X.K=K->X.calm=true->∀(i:Nat) (Dp:De) (s:Ej) (σ:St) (H:Hp) (E:Eg->Dh),Inv X Dp σ H s->(∀b∈fp,U6 X Dp H b)->tn i s.heap->J.stop i H ->
  Ek (Es P w) X.A (Ma (.ref it)) (fun r s1=>r=none/\Inv X Dp σ H s1) E s
 self:∀(A:EF) (i:Nat) (s:Ej) (Q:Eg->Dh) (E:Eg->Dh),tn i s.heap->Q (.ref it) s->Ek (Es P w) A (pyIter (.ref it)) Q E s
abbrev TI:=St->Hp->(It->Hp->Prop)->Prop
def PIE (X:Cx)(Dp:De)(σ:St)(tg:EI)(R:It->Hp->Prop)(itv:Eg)(s2:Ej):Prop :=
 ∃(it:Eh) (fp:Dd) (tn:Nat->EC->Prop) (J:It) (H':Hp),itv=.ref it/\Inv X Dp σ H' s2/\Turn X.prog X.w X.K tg J fp it tn/\tn 0 s2.heap/\(∀b∈fp,U6 X Dp H' b)/\R J H'
def PI (X:Cx)(tg iter:EI)(wi:TI):Prop :=
 ∀(Dp:De) (s:Ej) (σ:St) (H:Hp) (R:It->Hp->Prop),Inv X Dp σ H s->wi σ H R ->
  Ek (Es X.prog X.w) X.A (EY iter X.env) (fun v s1=>Ek (Es X.prog X.w) X.A (pyIter v) (PIE X Dp σ tg R) X.xe s1) X.xe s
theorem Cv {M:Model}{A:EF}{E:Eg->Dh}{s:Ej}{tg:EI}{it:Eh}{u:Eg}{o:Obj}{n:String}{vs:Array Eg}{Q:Unit->Dh}(ho:s.heap.get? it=some o)(hc:o.cls=.type n)(hd:o.data=.fields vs)
  (hn:["enumerate","zip","dict_itemiterator","dict_reverseitemiterator","odict_iterator","itertools.zip_longest","itertools.pairwise"].contains n=false) (hQ:Q () s):Ek M A (LQ tg (.ref it) u) Q E s:=by
 unfold LQ;cases tg<;>first
  |exact Q3 hQ
  | (cases u<;>first
    |exact Q3 hQ
    | (refine QW (wpAny_load ho ?_)
       rw[hc,hd];show Ek M A (if(["enumerate","zip","dict_itemiterator","dict_reverseitemiterator","odict_iterator","itertools.zip_longest","itertools.pairwise"].contains n&&vs[0]?==some (EW _))=true then _ else _) Q E s;rw[Zh (by intro h;rw[hn,YY]at h;cases h)];exact Q3 hQ))
def PH (K:AZ)(a:Eh):It :=
 ⟨fun i H=>∃xs x,SqL K H a xs/\xs[i]?=some x,fun i H x H'=>H'=H/\∀xs,SqL K H a xs->xs[i]?=some x,fun i H=>∃xs,SqL K H a xs/\xs.length<=i⟩
def PJ (K:AZ)(a:Eh):It :=
 ⟨fun i H=>∃xs x,SqT K H a xs/\xs[i]?=some x,fun i H x H'=>H'=H/\∀xs,SqT K H a xs->xs[i]?=some x,fun i H=>∃xs,SqT K H a xs/\xs.length<=i⟩
def N7 (lo:Int)(n:Nat):It:=⟨fun i _=>i<n,fun i H x H'=>H'=H/\x=.int (lo+i),fun i _=>n<=i⟩
theorem K1 {K:AZ}(a it:Eh):Turn P w K tg (PH K a) [it] it (fun i h=>h.IsListIter it a i) where
 mem:=by simp
 obj:=fun i h st b hb=>by
  have e:b=it:=by simpa using hb
  subst e;obtain⟨o,e,c,d⟩:=st;exact⟨o,e,fun v z=>by rw[d]at z;cases z⟩
 keep:=fun i h h' st k=>st.at fun o e=>k it (by simp) o e
 item:=by
  intro X hP hw hK hc i Dp s σ H E I hf st hg;subst hP hw hK;obtain⟨xs,x,hq,hx⟩:=hg;obtain⟨its,rv,p,hz⟩:=I.list hq;obtain⟨u,hu,ru⟩:=rv.get hx;obtain⟨f0,f1,f2,f3,f4,f5⟩:=hf it (by simp);refine wpAny_pyNext_list_item st p.isList (x:=u) (by simpa using hu) fun h' st' sb=>?_;have I1:Inv X Dp σ H { s with heap:=h' }:=I.turned (t':=s.toks) (fun b o hb e=>(sb.2 b hb).trans e) f0 f1 f3 f4 f5;obtain⟨o,e,c,d⟩:=id st';exact⟨u,rfl,Cv (s:={ s with heap:=h' }) e c d (by decide) ⟨x,H,I1,ru,⟨rfl,fun ys hy=>by rw[I.list_inj hy hq];exact hx⟩,st',fun b hb=>(hf b hb).1⟩⟩
 done:=by
  intro X hP hw hK hc i Dp s σ H E I hf st hg;subst hP hw hK;obtain⟨xs,hq,hx⟩:=hg;obtain⟨its,rv,p,hz⟩:=I.list hq;obtain⟨f0,f1,f2,f3,f4,f5⟩:=hf it (by simp);have hl:=rv.length;exact wpAny_pyNext_list_end (I.ok.hd hc) st p.isList (by simp;omega) fun h' eb=>⟨rfl,I.turned (t':=s.toks) (fun b o hb e=>eb b o hb e) f0 f1 f3 f4 f5⟩
 self:=fun _ _ _ _ _ st h=>wpAny_pyIter_listiter st h
theorem F5 {K:AZ}(a it:Eh):Turn P w K tg (PJ K a) [it] it (fun i h=>h.IsTupleIter it a i) where
 mem:=by simp
 obj:=fun i h st b hb=>by
  have e:b=it:=by simpa using hb
  subst e;obtain⟨o,e,c,d⟩:=st;exact⟨o,e,fun v z=>by rw[d]at z;cases z⟩
 keep:=fun i h h' st k=>st.at fun o e=>k it (by simp) o e
 item:=by
  intro X hP hw hK hc i Dp s σ H E I hf st hg;subst hP hw hK;obtain⟨xs,x,hq,hx⟩:=hg;obtain⟨its,rv,p,hz⟩:=I.tuple hq;obtain⟨u,hu,ru⟩:=rv.get hx;obtain⟨f0,f1,f2,f3,f4,f5⟩:=hf it (by simp);refine wpAny_pyNext_tuple_item st (show s.heap.IsTuple a its.toArray from p) (x:=u) (by simpa using hu) fun h' st' sb=>?_;have I1:Inv X Dp σ H { s with heap:=h' }:=I.turned (t':=s.toks) (fun b o hb e=>(sb.2 b hb).trans e) f0 f1 f3 f4 f5;obtain⟨o,e,c,d⟩:=id st';exact⟨u,rfl,Cv (s:={ s with heap:=h' }) e c d (by decide) ⟨x,H,I1,ru,⟨rfl,fun ys hy=>by rw[I.tuple_inj hy hq];exact hx⟩,st',fun b hb=>(hf b hb).1⟩⟩
 done:=by
  intro X hP hw hK hc i Dp s σ H E I hf st hg;subst hP hw hK;obtain⟨xs,hq,hx⟩:=hg;obtain⟨its,rv,p,hz⟩:=I.tuple hq;obtain⟨f0,f1,f2,f3,f4,f5⟩:=hf it (by simp);have hl:=rv.length;exact wpAny_pyNext_tuple_end (I.ok.hd hc) st (show s.heap.IsTuple a its.toArray from p) (by simp;omega) fun h' eb=>⟨rfl,I.turned (t':=s.toks) (fun b o hb e=>eb b o hb e) f0 f1 f3 f4 f5⟩
 self:=fun _ _ _ _ _ st h=>wpAny_pyIter_tupleiter st h
theorem F4 {K:AZ}(it:Eh)(lo:Int)(n:Nat):Turn P w K tg (N7 lo n) [it] it (fun i h=>IsRangeIter h it (lo+(i:Nat)*1) ((n:Int)-(i:Nat)) 1) where
 mem:=by simp
 obj:=fun i h st b hb=>by
  have e:b=it:=by simpa using hb
  subst e;exact⟨_,st,fun v z=>by
   have z':Data.fields _=Data.cell v:=z;cases z'⟩
 keep:=fun i h h' st k=>k it (by simp) _ st
 item:=by
  intro X hP hw hK hc i Dp s σ H E I hf st hg;subst hP hw hK;obtain⟨f0,f1,f2,f3,f4,f5⟩:=hf it (by simp);have W:=Walks.range (prog:=X.prog) (w:=X.w) (I.ok.hd hc) it lo 1 n;refine W.item i s _ _ hg st fun v h' tk hv st' kk=>?_;obtain⟨t,rfl⟩:=hv;have I1:Inv X Dp σ H { s with heap:=h',toks:=tk }:=I.turned (fun b o hb e=>kk b o (by simpa using hb) e) f0 f1 f3 f4 f5;refine⟨_,rfl,Cv (s:={ s with heap:=h',toks:=tk }) (n:="range_iterator") st' rfl rfl (by decide) ⟨.int (lo+i),H,I1,⟨t,?_⟩,⟨rfl,rfl⟩,st',fun b hb=>(hf b hb).1⟩⟩;rw[Int.mul_one]
 done:=by
  intro X hP hw hK hc i Dp s σ H E I hf st hg;subst hP hw hK;obtain⟨f0,f1,f2,f3,f4,f5⟩:=hf it (by simp);exact wpAny_pyNext_range_end (I.ok.hd hc) st (by have:n<=i:=hg;omega) fun h' eb=>⟨rfl,I.turned (t':=s.toks) (fun b o hb e=>eb b o hb e) f0 f1 f3 f4 f5⟩
 self:=fun _ _ _ _ _ st h=>wpAny_pyIter_rangeiter st h
section
variable {X:Cx}{tg:EI}
def Sa (K:AZ)(tl:TE):TI:=fun σ H R=>tl σ H fun x H1=>∃a,x=.ref a/\(∃xs,SqL K H1 a xs)/\R (PH K a) H1
def S8 (K:AZ)(tl:TE):TI:=fun σ H R=>tl σ H fun x H1=>∃a,x=.ref a/\(∃xs,SqT K H1 a xs)/\R (PJ K a) H1
theorem xJ (hl:PE X l tl):PI X tg l (Sa X.K tl):=by
 intro Dp s σ H R I h;refine A3 (hl Dp s σ H _ I h) fun v s1 ⟨x,H1,I1,r1,q1⟩=>?_;obtain⟨a,e,⟨xs,hq⟩,q⟩:=q1;subst e;cases r1;obtain⟨its,rv,p,hz⟩:=I1.list hq;refine JN p.isList ?_;refine⟨s1.heap.objs.size,[s1.heap.objs.size],_,_,H1,rfl,I1.kept (t':=s1.toks) fun b o e=>Q0 _ e,K1 a _,⟨_,Ze _ rfl,rfl,rfl⟩,fun b hb=>?_,q⟩;have e:b=s1.heap.objs.size:=by simpa using hb
 subst e;exact I1.fpOk (Q2 _) (I1.hok.fresh (Q2 _))
theorem kT (hl:PE X l tl):PI X tg l (S8 X.K tl):=by
 intro Dp s σ H R I h;refine A3 (hl Dp s σ H _ I h) fun v s1 ⟨x,H1,I1,r1,q1⟩=>?_;obtain⟨a,e,⟨xs,hq⟩,q⟩:=q1;subst e;cases r1;obtain⟨its,rv,p,hz⟩:=I1.tuple hq;refine wpAny_pyIter_tuple (show s1.heap.IsTuple a its.toArray from p) ?_;refine⟨s1.heap.objs.size,[s1.heap.objs.size],_,_,H1,rfl,I1.kept (t':=s1.toks) fun b o e=>Q0 _ e,F5 a _,⟨_,Ze _ rfl,rfl,rfl⟩,fun b hb=>?_,q⟩;have e:b=s1.heap.objs.size:=by simpa using hb
 subst e;exact I1.fpOk (Q2 _) (I1.hok.fresh (Q2 _))
theorem CS {R:It->Hp->Prop}{E:Eg->Dh}{lo hi:Int}{t u v:Tok}{tk:Nat}(I:Inv X Dp σ H s)(h1:-(2 ^ 62)<=lo)(h2:lo<2 ^ 62)(h3:-(2 ^ 62)<=hi)(h4:hi<2 ^ 62)
  (q:R (N7 lo (hi-lo).toNat) H):Ek (Es X.prog X.w) X.A (pyIter (.ref s.heap.objs.size)) (PIE X Dp σ tg R) E { s with heap:=s.heap.push { cls:=.type "range",data:=.fields #[.int lo t,.int hi u,.int 1 v] },toks:=tk }:=by
 refine wpAny_pyIter_range (IsRange.new ..) (small_one h1 h2 h3 h4) ?_;have I1:Inv X Dp σ H { s with heap:=s.heap.push { cls:=.type "range",data:=.fields #[.int lo t,.int hi u,.int 1 v] },toks:=tk }:=I.kept fun b o e=>Q0 _ e;refine⟨(s.heap.push { cls:=.type "range",data:=.fields #[.int lo t,.int hi u,.int 1 v] }).objs.size,[(s.heap.push { cls:=.type "range",data:=.fields #[.int lo t,.int hi u,.int 1 v] }).objs.size],_,_,H,rfl,I1.kept (t':=tk) fun b o e=>Q0 _ e,F4 _ lo (hi-lo).toNat,?_,fun b hb=>?_,q⟩
 ·have e1:lo+((0:Nat):Int)*1=lo:=by simp
  have e2:(((hi-lo).toNat:Nat):Int)-((0:Nat):Int)=Builtin.Range.rangeSize lo hi 1:=by rw[rangeSize_one];split<;>omega
  show IsRangeIter _ _ (lo+((0:Nat):Int)*1) ((((hi-lo).toNat:Nat):Int)-((0:Nat):Int)) 1;rw[e1,e2];exact Ze _ rfl
 ·have e:b=(s.heap.push { cls:=.type "range",data:=.fields #[.int lo t,.int hi u,.int 1 v] }).objs.size:=by simpa using hb
  subst e;exact I1.fpOk (Q2 _) (I1.hok.fresh (Q2 _))
def Sc (ta:TA):TI:=fun σ H R=>ta σ H fun vs H1=>∃j:Int,vs=[.int j]/\-(2 ^ 62)<=j/\j<2 ^ 62/\R (N7 0 j.toNat) H1
def Sd (ta:TA):TI:=fun σ H R=>ta σ H fun vs H1=>∃i j:Int,vs=[.int i,.int j]/\(-(2 ^ 62)<=i/\i<2 ^ 62/\-(2 ^ 62)<=j/\j<2 ^ 62)/\R (N7 i (j-i).toNat) H1
theorem jL {a:EI}{p pos:Pos}(hg:Gl X "range")(hm:X.mg "range"=none)(ha:PA X [a] ta)(hs:Ev [a] X.env=[(false,EY a X.env)]:=by rfl):PI X tg (.Call (.Name "range" p) [a] [] pos) (Sc ta):=by
 intro Dp s σ H R I h;refine Call_ (vG I hg hm boot_range (YT (A3 (ha pos Dp s σ H _ I h) fun us s1 ⟨vs,H1,I1,r1,q1⟩=>?_) hs rfl));obtain⟨j,e,q1,q2,q⟩:=q1;subst e;cases r1 with
 |cons r rr =>
  cases rr;obtain⟨t,rfl⟩:=r;exact call_range_1 (CS I1 (by omega) (by omega) q1 q2 (by simpa using q))
theorem KR {a b:EI}{p pos:Pos}(hg:Gl X "range")(hm:X.mg "range"=none)(ha:PA X [a,b] ta)(hs:Ev [a,b] X.env=[(false,EY a X.env),(false,EY b X.env)]:=by rfl)(hs2:Ev [b] X.env=[(false,EY b X.env)]:=by rfl) :
  PI X tg (.Call (.Name "range" p) [a,b] [] pos) (Sd ta):=by
 intro Dp s σ H R I h;refine Call_ (vG I hg hm boot_range (YT (A3 (ha pos Dp s σ H _ I h) fun us s1 ⟨vs,H1,I1,r1,q1⟩=>?_) (by rw[hs,hs2]) (by rw[hs2];rfl)));obtain⟨i,j,e,⟨q1,q2,q3,q4⟩,q⟩:=q1;subst e;cases r1 with
 |cons r rr =>
  cases rr with
  |cons r' rr =>
   cases rr;obtain⟨t,rfl⟩:=r;obtain⟨t',rfl⟩:=r';exact call_range_2 (CS I1 q1 q2 q3 q4 q)
def Tv (wi:TI)(g:TG)(tb:TS):TS:=fun D σ H=>wi σ H fun J H1=>∃W:Nat->Nat->St->Hp->Prop,(∃m,W 0 m σ H1)/\∀i m σ H,W i m σ H ->
 (J.stop i H/\D.nx σ H)\/(J.go i H/\∃N:St->Hp->Prop,(∀σ' H',N σ' H'->∃m',m'<m/\W (i+1) m' σ' H')/\∀x H',J.yld i H x H'->g x σ H' fun σ2 H2=>tb { D with nx:=N,ct:=N,bk:=D.nx } σ2 H2)
def UI (fp:Dd)(h:EC):De:=fp.filterMap fun b=>(h.get? b).map fun o=>(b,o)
theorem jP {fp:Dd}{h:EC}{b:Eh}{o:Obj}(hb:b∈fp)(e:h.get? b=some o):(b,o)∈UI fp h:=YZ.mpr ⟨b,hb,by rw[e];rfl⟩
theorem KO {p:Eh×Obj}(hp:p∈UI fp h):p.1∈fp/\h.get? p.1=some p.2:=by
 obtain⟨b,hb,e⟩:=YZ.mp hp;cases q:h.get? b with
 |none=>rw[q]at e;cases e
 |some o =>
  rw[q]at e;have e':(b,o)=p:=Option.some.inj e;subst e';exact⟨hb,q⟩
theorem Inv.pinned {fp:Dd}(I:Inv X Dp σ H s)(hf:∀b∈fp,U6 X Dp H b)(ho:∀b∈fp,∃o,s.heap.get? b=some o/\∀v,o.data≠.cell v):Inv X (Dp++UI fp s.heap) σ H s :=
 I.pins_of fun p hp=>(Zf.mp hp).elim (fun z=>I.pin p (Zo _ z)) fun z=>by
  obtain⟨hb,e⟩:=KO z;obtain⟨f0,f1,f2,_⟩:=hf p.1 hb;obtain⟨o,e',d⟩:=ho p.1 hb;rw[e]at e';cases e';exact⟨e,f0,f1,f2,d⟩
theorem Inv.unpinned {Dp pl:De}(I:Inv X (Dp++pl) σ H s):Inv X Dp σ H s:=I.pins_of fun p hp=>I.pin p (Zo _ (ZC _ hp))
theorem xP {pos:Pos}(hp:PassesOwn (Es X.prog X.w) X.A X.env X.xe)(hc:X.calm=true)(hi:PI X tg iter wi)(hg:PG X tg g)(hb:PSs X body tb)
  (hs:∀x,foldedSetIterable iter X.env x=Ly x:=by intro _;rfl):PS X (.For tg iter body [] pos) (Tv wi g tb):=by
 intro Dp s σ H D I h;refine wpAny_For (A3 (hi Dp s σ H _ I h) fun v s1 h1=>A3 h1 fun itv s2 h2=>?_) hs;obtain⟨it,fp,tn,J,H2,e,I2,T,st2,f2,W,⟨m0,w0⟩,turn⟩:=h2;subst e;have stat:∀{H':Hp},(∀b∈fp,H' b=none)->∀b∈fp,U6 X Dp H' b:=fun hn b hb=>⟨hn b hb,(f2 b hb).2⟩;refine codeAny_forLoop_any (fun n s'=>∃i σ' H',Inv X Dp σ' H' s'/\tn i s'.heap/\(∀b∈fp,H' b=none)/\W i n σ' H') ?_ m0 ⟨0,σ,H2,I2,st2,fun b hb=>(f2 b hb).1,w0⟩;rintro n s3 ⟨i,σ3,H3,I3,st3,fr3,w3⟩
 rcases turn i n σ3 H3 w3 with⟨stop,qn⟩|⟨go,N,hN,step⟩
 ·refine Y7 hp (A3 (T.done X rfl rfl rfl hc i Dp s3 σ3 H3 X.xe I3 (stat fr3) st3 stop) fun r s4 ⟨hr,I4⟩=>?_);subst hr;exact JF ⟨σ3,H3,I4,qn⟩
 ·refine Y7 hp (A3 (T.item X rfl rfl rfl hc i Dp s3 σ3 H3 X.xe I3 (stat fr3) st3 go) fun r s4 ⟨u,hr,h4⟩=>?_);subst hr;refine Y7 hp (A3 h4 fun _ s5 ⟨x,H5,I5,r5,y5,st5,fr5⟩=>?_);have I5':=I5.pinned (stat fr5) (T.obj _ _ st5);refine Y7 hp (A3 (hg _ s5 σ3 H5 x u _ I5' r5 (step x H5 y5)) fun _ s6 ⟨σ6,H6,I6,q6⟩=>?_);refine Y7 hp (A3 (hb _ s6 σ6 H6 _ I6 q6) fun f s7 q7=>?_);have again:∀{σ7:St} {H7:Hp},Inv X (Dp++UI fp s5.heap) σ7 H7 s7->N σ7 H7->∃m,m<n/\∃i σ' H',Inv X Dp σ' H' s7/\tn i s7.heap/\(∀b∈fp,H' b=none)/\W i m σ' H':=fun{σ7 H7} I7 n7=>by
   obtain⟨m',hm,w7⟩:=hN σ7 H7 n7;refine⟨m',hm,i+1,σ7,H7,I7.unpinned,T.keep _ _ _ st5 fun b hb o e=>(I7.pin (b,o) (Zo _ (Zo _ (jP hb e)))).1,fun b hb=>?_,w7⟩;obtain⟨o,e,d⟩:=T.obj _ _ st5 b hb;exact(I7.pin (b,o) (Zo _ (Zo _ (jP hb e)))).2.1
  cases f with
  |next=>obtain⟨σ7,H7,I7,n7⟩:=q7;exact again I7 n7
  |cont=>obtain⟨σ7,H7,I7,n7⟩:=q7;exact again I7 n7
  |brk=>obtain⟨σ7,H7,I7,q7⟩:=q7;exact⟨σ7,H7,I7.unpinned,q7⟩
  |ret v=>obtain⟨x7,σ7,H7,I7,r7,q7⟩:=q7;exact⟨x7,σ7,H7,I7.unpinned,r7,q7⟩
end
theorem kC {K:AZ}{xs:Dj}{g:TG}{tb:TS}{D:Ends}{σ:St}{H:Hp}(Pv:Nat->St->Hp->Prop)(h0:Pv 0 σ H)(hl:∀i σ H,i<=xs.length->Pv i σ H->SqL K H a xs)
  (hs:∀i x σ H,xs[i]?=some x->Pv i σ H->g x σ H fun σ2 H2=>tb { D with nx:=Pv (i+1),ct:=Pv (i+1),bk:=D.nx } σ2 H2) (hd:∀σ H,Pv xs.length σ H->D.nx σ H) :
  ∃W:Nat->Nat->St->Hp->Prop,(∃m,W 0 m σ H)/\∀i m σ H,W i m σ H ->
   ((PH K a).stop i H/\D.nx σ H)\/((PH K a).go i H/\∃N:St->Hp->Prop,(∀σ' H',N σ' H'->∃m',m'<m/\W (i+1) m' σ' H')/\∀x H',(PH K a).yld i H x H'->g x σ H' fun σ2 H2=>tb { D with nx:=N,ct:=N,bk:=D.nx } σ2 H2):=by
 refine⟨fun i m σ H=>m=xs.length-i/\i<=xs.length/\Pv i σ H,⟨xs.length,by simp,Zz _,h0⟩,?_⟩;rintro i m σ H ⟨rfl,hi,p⟩;have q:=hl i σ H hi p
 by_cases hlt:i<xs.length
 ·refine .inr ⟨⟨xs,xs[i],q,by simp[hlt]⟩,Pv (i+1),fun σ' H' p'=>⟨xs.length-(i+1),by omega,rfl,hlt,p'⟩,fun x H' y=>?_⟩;obtain⟨e,y⟩:=y;subst e;exact hs i x σ _ (y xs q) p
 ·have e:i=xs.length:=by omega
  subst e;exact .inl ⟨⟨xs,q,Q2 _⟩,hd σ H p⟩
theorem Bb {K:AZ}{xs:Dj}{g:TG}{tb:TS}{D:Ends}{σ:St}{H:Hp}(Pv:Nat->St->Hp->Prop)(h0:Pv 0 σ H)(hl:∀i σ H,i<=xs.length->Pv i σ H->SqT K H a xs)
  (hs:∀i x σ H,xs[i]?=some x->Pv i σ H->g x σ H fun σ2 H2=>tb { D with nx:=Pv (i+1),ct:=Pv (i+1),bk:=D.nx } σ2 H2) (hd:∀σ H,Pv xs.length σ H->D.nx σ H) :
  ∃W:Nat->Nat->St->Hp->Prop,(∃m,W 0 m σ H)/\∀i m σ H,W i m σ H ->
   ((PJ K a).stop i H/\D.nx σ H)\/((PJ K a).go i H/\∃N:St->Hp->Prop,(∀σ' H',N σ' H'->∃m',m'<m/\W (i+1) m' σ' H')/\∀x H',(PJ K a).yld i H x H'->g x σ H' fun σ2 H2=>tb { D with nx:=N,ct:=N,bk:=D.nx } σ2 H2):=by
 refine⟨fun i m σ H=>m=xs.length-i/\i<=xs.length/\Pv i σ H,⟨xs.length,by simp,Zz _,h0⟩,?_⟩;rintro i m σ H ⟨rfl,hi,p⟩;have q:=hl i σ H hi p
 by_cases hlt:i<xs.length
 ·refine .inr ⟨⟨xs,xs[i],q,by simp[hlt]⟩,Pv (i+1),fun σ' H' p'=>⟨xs.length-(i+1),by omega,rfl,hlt,p'⟩,fun x H' y=>?_⟩;obtain⟨e,y⟩:=y;subst e;exact hs i x σ _ (y xs q) p
 ·have e:i=xs.length:=by omega
  subst e;exact .inl ⟨⟨xs,q,Q2 _⟩,hd σ H p⟩
theorem UF {lo:Int}{n:Nat}{g:TG}{tb:TS}{D:Ends}{σ:St}{H:Hp}(Pv:Nat->St->Hp->Prop)(h0:Pv 0 σ H)
  (hs:∀i σ H,i<n->Pv i σ H->g (.int (lo+i)) σ H fun σ2 H2=>tb { D with nx:=Pv (i+1),ct:=Pv (i+1),bk:=D.nx } σ2 H2) (hd:∀σ H,Pv n σ H->D.nx σ H) :
  ∃W:Nat->Nat->St->Hp->Prop,(∃m,W 0 m σ H)/\∀i m σ H,W i m σ H ->
   ((N7 lo n).stop i H/\D.nx σ H)\/((N7 lo n).go i H/\∃N:St->Hp->Prop,(∀σ' H',N σ' H'->∃m',m'<m/\W (i+1) m' σ' H')/\∀x H',(N7 lo n).yld i H x H'->g x σ H' fun σ2 H2=>tb { D with nx:=N,ct:=N,bk:=D.nx } σ2 H2):=by
 refine⟨fun i m σ H=>m=n-i/\i<=n/\Pv i σ H,⟨n,by simp,Zz _,h0⟩,?_⟩;rintro i m σ H ⟨rfl,hi,p⟩
 by_cases hlt:i<n
 ·refine .inr ⟨hlt,Pv (i+1),fun σ' H' p'=>⟨n-(i+1),by omega,rfl,hlt,p'⟩,fun x H' y=>?_⟩;obtain⟨e,y⟩:=y;subst e y;exact hs i σ _ hlt p
 ·have e:i=n:=by omega
  subst e;exact .inl ⟨Q2 _,hd σ H p⟩
theorem N4 {c:TT}{tb:TS}{D:Ends}{σ:St}{H:Hp}(Pv:St->Hp->Prop)(μ:St->Hp->Nat)(h0:Pv σ H)
  (hs:∀σ H,Pv σ H->c σ H fun b H1=>if b=true then tb { D with nx:=fun σ' H'=>Pv σ' H'/\μ σ' H'<μ σ H,ct:=fun σ' H'=>Pv σ' H'/\μ σ' H'<μ σ H,bk:=D.nx } σ H1 else D.nx σ H1)
  (mono:∀σ H Q Q',(∀b H1,Q b H1->Q' b H1)->c σ H Q->c σ H Q'):N0 c tb D σ H:=by
 refine⟨fun m σ H=>m=μ σ H/\Pv σ H,⟨_,rfl,h0⟩,?_⟩;rintro m σ H ⟨rfl,p⟩;refine mono σ H _ _ (fun b H1 q=>?_) (hs σ H p);cases b with
 |true=>exact⟨_,fun σ' H' ⟨p',l⟩=>⟨_,l,rfl,p'⟩,q⟩
 |false=>exact q
abbrev R2:=V->V->Hp->VK->Prop
def Ce (X:Cx)(f:Eg->Eg->Sem Eg)(r:R2):Prop :=
 ∀(Dp:De) (s:Ej) (σ:St) (H:Hp) (x y:V) (v u:Eg) (Q:VK),Inv X Dp σ H s->RelV x v->RelV y u->r x y H Q ->
  Ek (Es X.prog X.w) X.A (f v u) (EP X Dp σ Q) X.xe s
def SW (X:Cx)(f:Eg->Sem Eg)(r:V->Hp->VK->Prop):Prop :=
 ∀(Dp:De) (s:Ej) (σ:St) (H:Hp) (x:V) (v:Eg) (Q:VK),Inv X Dp σ H s->RelV x v->r x H Q ->
  Ek (Es X.prog X.w) X.A (f v) (EP X Dp σ Q) X.xe s
def CallR (X:Cx)(f:Eg)(r:Dj->Hp->VK->Prop):Prop :=
 ∀(Dp:De) (s:Ej) (σ:St) (H:Hp) (xs:Dj) (us:Db) (Q:VK),Inv X Dp σ H s->Vals xs us->r xs H Q ->
  Ek (Es X.prog X.w) X.A (call f us) (EP X Dp σ Q) X.xe s
def SV (X:Cx)(r:V->Hp->(Bool->Hp->Prop)->Prop):Prop :=
 ∀(Dp:De) (s:Ej) (σ:St) (H:Hp) (x:V) (v:Eg) (Q:Bool->Hp->Prop),Inv X Dp σ H s->RelV x v->r x H Q ->
  Ek (Es X.prog X.w) X.A (truthy v) (TP X Dp σ Q) X.xe s
def SM (r:R2)(ta tb:TE):TE:=fun σ H Q=>ta σ H fun x H1=>tb σ H1 fun y H2=>r x y H2 Q
def tUn (r:V->Hp->VK->Prop)(ta:TE):TE:=fun σ H Q=>ta σ H fun x H1=>r x H1 Q
def rI (C:Int->Int->Prop)(g:Int->Int->V):R2:=fun x y H Q=>∃i j,x=.int i/\y=.int j/\C i j/\Q (g i j) H
def RQ (g:Int->Int->V):R2:=fun x y H Q=>∃i j,x=.int i/\y=.int j/\Q (g i j) H
def rU (g:Int->V):V->Hp->VK->Prop:=fun x H Q=>∃i,x=.int i/\Q (g i) H
section
variable {X:Cx}{a b c:EI}{ta tb tc:TE}{pos:Pos}
theorem PV (ha:PE X a ta)(hb:PE X b tb){Dp:De}{s:Ej}{σ:St}{H:Hp}{R:V->V->Hp->Prop}(I:Inv X Dp σ H s)
  (h:ta σ H fun x H1=>tb σ H1 fun y H2=>R x y H2) {Q:Eg->Dh} {f:Eg->Eg->Sem Eg}
  (hf:∀v u s2 x y H2,Inv X Dp σ H2 s2->RelV x v->RelV y u->R x y H2->Ek (Es X.prog X.w) X.A (f v u) Q X.xe s2) :
  Ek (Es X.prog X.w) X.A (EY a X.env) (fun v s₁=>Ek (Es X.prog X.w) X.A (EY b X.env) (fun u s₂=>Ek (Es X.prog X.w) X.A (f v u) Q X.xe s₂) X.xe s₁) X.xe s:=by
 refine A3 (ha Dp s σ H _ I h) fun v s1 ⟨x,H1,I1,r1,q1⟩=>?_;refine A3 (hb Dp s1 σ H1 _ I1 q1) fun u s2 ⟨y,H2,I2,r2,q2⟩=>?_;exact hf v u s2 x y H2 I2 r1 r2 q2
theorem zQ {op:Operator}(ho:Ce X (binaryOp op) r)(ha:PE X a ta)(hb:PE X b tb):PE X (.BinOp a op b pos) (SM r ta tb):=by
 intro Dp s σ H Q I h;exact wpAny_BinOp (PV ha hb I h fun v u s2 x y H2 I2 rx ry q=>ho Dp s2 σ H2 x y v u Q I2 rx ry q)
theorem Sn {op:UnaryOp}(ho:SW X (unaryOp op) r)(ha:PE X a ta):PE X (.UnaryOp op a pos) (tUn r ta):=by
 intro Dp s σ H Q I h;exact UnaryOp_ (A3 (ha Dp s σ H _ I h) fun v s1 ⟨x,H1,I1,r1,q1⟩=>ho Dp s1 σ H1 x v Q I1 r1 q1)
theorem Tc {f:Eg->Eg->Sem Eg}{C:Int->Int->Prop}{g:Int->Int->Int}
  (rule:∀(i j:Int) (t u:Tok) (s:Ej) (Q:Eg->Dh) (E:Eg->Dh),C i j->Q (.int (g i j) s.toks) { s with toks:=s.toks+1 }->Ek (Es X.prog X.w) X.A (f (.int i t) (.int j u)) Q E s) :
  Ce X f (rI C fun i j=>.int (g i j)):=by
 intro Dp s σ H x y v u Q I rx ry h;obtain⟨i,j,rfl,rfl,hc,q⟩:=h;obtain⟨t,rfl⟩:=rx;obtain⟨t',rfl⟩:=ry;exact rule i j t t' s _ _ hc ⟨.int (g i j),H,I.tok _,⟨_,rfl⟩,q⟩
theorem Td {f:Eg->Eg->Sem Eg}{g:Int->Int->Int}
  (rule:∀(i j:Int) (t u:Tok) (s:Ej) (Q:Eg->Dh) (E:Eg->Dh),Q (.int (g i j) s.toks) { s with toks:=s.toks+1 }->Ek (Es X.prog X.w) X.A (f (.int i t) (.int j u)) Q E s) :
  Ce X f (RQ fun i j=>.int (g i j)):=by
 intro Dp s σ H x y v u Q I rx ry h;obtain⟨i,j,rfl,rfl,q⟩:=h;obtain⟨t,rfl⟩:=rx;obtain⟨t',rfl⟩:=ry;exact rule i j t t' s _ _ ⟨.int (g i j),H,I.tok _,⟨_,rfl⟩,q⟩
theorem Ri {f:Eg->Eg->Sem Eg}{g:Int->Int->Bool}
  (rule:∀(i j:Int) (t u:Tok) (s:Ej) (Q:Eg->Dh) (E:Eg->Dh),Q (.bool (g i j)) s->Ek (Es X.prog X.w) X.A (f (.int i t) (.int j u)) Q E s) :
  Ce X f (RQ fun i j=>.bl (g i j)):=by
 intro Dp s σ H x y v u Q I rx ry h;obtain⟨i,j,rfl,rfl,q⟩:=h;obtain⟨t,rfl⟩:=rx;obtain⟨t',rfl⟩:=ry;exact rule i j t t' s _ _ ⟨.bl (g i j),H,I,rfl,q⟩
def SO (i j:Int):Prop:=0<j/\j<1073741824
def CMul (i j:Int):Prop:=(-(2 ^ 64)<i/\i<2 ^ 64)\/(-(2 ^ 64)<j/\j<2 ^ 64)
theorem CMul.ok (h:CMul i j):IntMulOk i j:=by
 rcases h with⟨h1,h2⟩|⟨h1,h2⟩
 ·exact .of_left (intBits_le_64 h1 h2)
 ·exact .of_right (intBits_le_64 h1 h2)
theorem x6:Ce X (binaryOp .Add) (RQ fun i j=>.int (i+j)):=Td fun _ _ _ _ _ _ _ q=>add_int q
theorem UQ:Ce X (binaryOp .Mult) (rI CMul fun i j=>.int (i*j)):=Tc fun _ _ _ _ _ _ _ hc q=>mul_int q hc.ok
theorem yD:Ce X (binaryOp .FloorDiv) (rI SO fun i j=>.int (i / j)):=Tc fun i j _ _ _ _ _ hc q=>by
 have h1:(0:Int)<j:=hc.1;have h2:j<1073741824:=hc.2;exact floordiv_int (by omega) (by rwa[Int.fdiv_eq_ediv_of_nonneg i (by omega)]) (.inl (PyProof.noPylong_small (by omega)))
theorem yI:Ce X (binaryOp .Mod) (rI (fun _ j=>0<j) fun i j=>.int (i % j)):=Tc fun i j _ _ _ _ _ hc q=>by
 have h1:(0:Int)<j:=hc;exact mod_int' (by omega) (by rwa[Int.fmod_eq_emod_of_nonneg i (by omega)])
theorem unI {f:Eg->Sem Eg}{g:Int->Int}
  (rule:∀(i:Int) (t:Tok) (s:Ej) (Q:Eg->Dh) (E:Eg->Dh),Q (.int (g i) s.toks) { s with toks:=s.toks+1 }->Ek (Es X.prog X.w) X.A (f (.int i t)) Q E s) :
  SW X f (rU fun i=>.int (g i)):=by
 intro Dp s σ H x v Q I rx h;obtain⟨i,rfl,q⟩:=h;obtain⟨t,rfl⟩:=rx;exact rule i t s _ _ ⟨.int (g i),H,I.tok _,⟨_,rfl⟩,q⟩
theorem RK:SW X (unaryOp .USub) (rU fun i=>.int (-i)):=unI fun _ _ _ _ _ q=>neg_int q
def Sw:V->V->Bool
 | .non,.non=>true|.non,.int _=>true|.int _,.non=>true|.non,.bl _=>true|.bl _,.non=>true|.non,.str _=>true|.str _,.non=>true
 | .int _,.int _=>true|.bl _,.bl _=>true|.str _,.str _=>true|.byt _,.byt _=>true
 | .int _,.str _=>true|.str _,.int _=>true|.bl _,.str _=>true|.str _,.bl _=>true
 |_,_=>false
def rEq:R2:=fun x y H Q=>Sw x y=true/\Q (.bl (decide (x=y))) H
def rNe:R2:=fun x y H Q=>Sw x y=true/\Q (.bl (!decide (x=y))) H
theorem Hg {i j:Int}:decide (V.int i=V.int j)=(i==j):=by
 rw[Z8];simp
theorem Mv {i j:Bool}:decide (V.bl i=V.bl j)=(i==j):=by
 rw[Z8];simp
theorem Hh {i j:Str}:decide (V.str i=V.str j)=(i==j):=by
 rw[Z8];simp
theorem Hf {i j:Array UInt8}:decide (V.byt i=V.byt j)=(i.toList==j.toList):=by
 rw[Z8];cases i;cases j;simp
theorem yH {Q:VK}{k k':Bool}(I:Inv X Dp σ H s)(q:Q (.bl k) H)(e:k=k'):EP X Dp σ Q (.bool k') s:=by
 subst e;exact⟨.bl k,H,I,rfl,q⟩
theorem xN:Ce X (EO .Eq) rEq:=by
 intro Dp s σ H x y v u Q I rx ry h;obtain⟨hs,q⟩:=h;cases x with
 |non =>
  cases rx;cases y with
  |non=>cases ry;exact PySem.EqNone.eq_none_none (yH I q (by simp))
  |bl j=>cases ry;exact PySem.EqNone.eq_none_bool (yH I q (by simp))
  |int j=>obtain⟨t',rfl⟩:=ry;exact PySem.EqNone.eq_none_int (yH I q (by simp))
  |str j=>obtain⟨t',rfl⟩:=ry;exact PySem.EqNone.eq_none_str (yH I q (by simp))
  |_=>exact absurd (show false=true from hs) Zw
 |bl i =>
  cases rx;cases y with
  |non=>cases ry;exact PySem.EqNone.eq_bool_none (yH I q (by simp))
  |bl j=>cases ry;exact eq_bool (yH I q Mv)
  |str j=>obtain⟨t',rfl⟩:=ry;exact PySem.EqMixed.eq_bool_str (yH I q (by simp))
  |_=>exact absurd (show false=true from hs) Zw
 |int i =>
  obtain⟨t,rfl⟩:=rx;cases y with
  |non=>cases ry;exact PySem.EqNone.eq_int_none (yH I q (by simp))
  |int j=>obtain⟨t',rfl⟩:=ry;exact eq_int (yH I q Hg)
  |str j=>obtain⟨t',rfl⟩:=ry;exact PySem.EqMixed.eq_int_str (yH I q (by simp))
  |_=>exact absurd (show false=true from hs) Zw
 |str i =>
  obtain⟨t,rfl⟩:=rx;cases y with
  |non=>cases ry;exact PySem.EqNone.eq_str_none (yH I q (by simp))
  |bl j=>cases ry;exact PySem.EqMixed.eq_str_bool (yH I q (by simp))
  |int j=>obtain⟨t',rfl⟩:=ry;exact PySem.EqMixed.eq_str_int (yH I q (by simp))
  |str j=>obtain⟨t',rfl⟩:=ry;exact eq_str (yH I q Hh)
  |_=>exact absurd (show false=true from hs) Zw
 |byt i =>
  obtain⟨t,rfl⟩:=rx;cases y with
  |byt j=>obtain⟨t',rfl⟩:=ry;exact PySem.W.eq_bytes (yH I q Hf)
  |_=>exact absurd (show false=true from hs) Zw
 |_=>cases y<;>exact absurd (show false=true from hs) Zw
theorem HB:Ce X (EO .NotEq) rNe:=by
 intro Dp s σ H x y v u Q I rx ry h;obtain⟨hs,q⟩:=h;cases x with
 |non =>
  cases rx;cases y with
  |non=>cases ry;exact PySem.EqNone.ne_none_none (yH I q (by simp))
  |bl j=>cases ry;exact PySem.EqNone.ne_none_bool (yH I q (by simp))
  |int j=>obtain⟨t',rfl⟩:=ry;exact PySem.EqNone.ne_none_int (yH I q (by simp))
  |str j=>obtain⟨t',rfl⟩:=ry;exact PySem.EqNone.ne_none_str (yH I q (by simp))
  |_=>exact absurd (show false=true from hs) Zw
 |bl i =>
  cases rx;cases y with
  |non=>cases ry;exact PySem.EqNone.ne_bool_none (yH I q (by simp))
  |bl j=>cases ry;exact ne_bool (yH I q (congrArg not Mv))
  |str j=>obtain⟨t',rfl⟩:=ry;exact PySem.EqMixed.ne_bool_str (yH I q (by simp))
  |_=>exact absurd (show false=true from hs) Zw
 |int i =>
  obtain⟨t,rfl⟩:=rx;cases y with
  |non=>cases ry;exact PySem.EqNone.ne_int_none (yH I q (by simp))
  |int j=>obtain⟨t',rfl⟩:=ry;exact ne_int (yH I q (congrArg not Hg))
  |str j=>obtain⟨t',rfl⟩:=ry;exact PySem.EqMixed.ne_int_str (yH I q (by simp))
  |_=>exact absurd (show false=true from hs) Zw
 |str i =>
  obtain⟨t,rfl⟩:=rx;cases y with
  |non=>cases ry;exact PySem.EqNone.ne_str_none (yH I q (by simp))
  |bl j=>cases ry;exact PySem.EqMixed.ne_str_bool (yH I q (by simp))
  |int j=>obtain⟨t',rfl⟩:=ry;exact PySem.EqMixed.ne_str_int (yH I q (by simp))
  |str j=>obtain⟨t',rfl⟩:=ry;exact ne_str (yH I q (congrArg not Hh))
  |_=>exact absurd (show false=true from hs) Zw
 |byt i =>
  obtain⟨t,rfl⟩:=rx;cases y with
  |byt j=>obtain⟨t',rfl⟩:=ry;exact PySem.W.ne_bytes (yH I q (congrArg not Hf))
  |_=>exact absurd (show false=true from hs) Zw
 |_=>cases y<;>exact absurd (show false=true from hs) Zw
theorem Sk:Ce X (EO .Lt) (RQ fun i j=>.bl (decide (i<j))):=Ri fun _ _ _ _ _ _ _ q=>lt_int q
theorem BU:Ce X (EO .LtE) (RQ fun i j=>.bl (decide (i<=j))):=Ri fun _ _ _ _ _ _ _ q=>le_int q
theorem HA:Ce X (EO .Gt) (RQ fun i j=>.bl (decide (j<i))):=Ri fun _ _ _ _ _ _ _ q=>gt_int q
theorem OH:Ce X (EO .IsNot) (fun x y H Q=>y=.non/\Q (.bl (!decide (x=.non))) H):=by
 intro Dp s σ H x y v u Q I rx ry h;obtain⟨rfl,q⟩:=h;cases ry;refine isnot_none_gen (yH I q ?_);cases x<;>first
  |(cases rx;rfl)
  |(obtain⟨t,rfl⟩:=rx;rfl)
theorem zT (b:EI){op:CmpOp}(h:op≠.In:=by decide)(h2:op≠.NotIn:=by decide):behindInMarks op b=false:=by
 have e1:(op==CmpOp.In)=false:=by cases op<;>first|rfl|exact absurd rfl h
 have e2:(op==CmpOp.NotIn)=false:=by cases op<;>first|rfl|exact absurd rfl h2
 cases b<;>simp[behindInMarks,e1,e2]
theorem yU {op:CmpOp}(ho:Ce X (EO op) r)(ha:PE X a ta)(hb:PE X b tb)(hm:behindInMarks op b=false):PE X (.Compare a [op] [b] pos) (SM r ta tb):=by
 intro Dp s σ H Q I h;exact wpAny_Compare1 (PV ha hb I h fun v u s2 x y H2 I2 rx ry q=>ho Dp s2 σ H2 x y v u Q I2 rx ry q) hm
def SF (t:TE):TT:=fun σ H Q=>t σ H fun x H'=>∃k,x=.bl k/\Q k H'
theorem zP {op:CmpOp}(ho:Ce X (EO op) r)(ha:PE X a ta)(hb:PE X b tb)(hm:behindInMarks op b=false):PT X (.Compare a [op] [b] pos) (SF (SM r ta tb)):=by
 intro Dp s σ H Q I h;refine wpAny_isTrue_Compare1 (A3 (ha Dp s σ H _ I h) fun v s1 ⟨x,H1,I1,r1,q1⟩=>A3 (hb Dp s1 σ H1 _ I1 q1) fun u s2 ⟨y,H2,I2,r2,q2⟩ => A3 (ho Dp s2 σ H2 x y v u _ I2 r1 r2 q2) fun c s3 ⟨z,H3,I3,r3,k,e,q3⟩=>?_) hm
 subst e;cases r3;exact YJ ⟨H3,I3,q3⟩
def Rz (r r':R2)(ta tb tc:TE):TE:=fun σ H Q=>ta σ H fun x H1=>tb σ H1 fun y H2=>r x y H2 fun z H3=>∃k,z=.bl k /\
 (if k=true then tc σ H3 fun w' H4=>r' y w' H4 Q else Q (.bl false) H3)
theorem XM {op op':CmpOp}(ho:Ce X (EO op) r)(ho':Ce X (EO op') r')(ha:PE X a ta)(hb:PE X b tb)(hc:PE X c tc)
  (hm:lastMarks [op,op'] [b,c]=false:=by with_unfolding_all rfl):PE X (.Compare a [op,op'] [b,c] pos) (Rz r r' ta tb tc):=by
 intro Dp s σ H Q I h;refine Compare_chain (A3 (ha Dp s σ H _ I h) fun v s1 ⟨x,H1,I1,r1,q1⟩=>chain_link (A3 (hb Dp s1 σ H1 _ I1 q1) fun u s2 ⟨y,H2,I2,r2,q2⟩ => A3 (ho Dp s2 σ H2 x y v u _ I2 r1 r2 q2) fun d s3 ⟨z,H3,I3,r3,k,e,q3⟩=>?_)) hm
 subst e;cases r3;refine YJ ?_;cases k with
 |false=>exact ite_ff ⟨.bl false,H3,I3,rfl,q3⟩
 |true=>exact ite_tt (chain_last (A3 (hc Dp s3 σ H3 _ I3 q3) fun w' s4 ⟨z',H4,I4,r4,q4⟩=>ho' Dp s4 σ H4 y z' u w' Q I4 r2 r4 q4))
def PQ (K:AZ)(x:V)(H:Hp)(k:Bool):Prop :=
 match x with
 | .non=>k=false
 | .bl b=>k=b
 | .int i=>k=(i !=0)
 | .str y=>y.length<=sizeLine/\k=((y.length:Int) !=0)
 | .byt y=>y.size<=sizeLine/\k=((y.size:Int) !=0)
 | .ref p=>(∃xs,SqL K H p xs/\k=!xs.isEmpty)\/(∃xs,SqT K H p xs/\k=!xs.isEmpty)\/∃Dm,H p=some (.dK Dm)/\k=!Dm.isEmpty
 |_=>False
theorem Fx {κ:Type}{Dm:List (κ×V)}{vs:List (κ×Eg)}(r:KV Dm vs):(!vs.isEmpty)=!Dm.isEmpty:=by
 cases r<;>rfl
theorem Xt (r:Vals xs its):(!its.toArray.isEmpty)=!xs.isEmpty:=by
 cases r<;>simp
theorem UB:(sizeLine:Nat)<2 ^ 63:=by rw[Yj];decide
theorem RI:SV X (fun x H Q=>∃k,PQ X.K x H k/\Q k H):=by
 intro Dp s σ H x v Q I rx h;obtain⟨k,e,q⟩:=h;have hl:=UB;have hs:sizeLine=16777216:=Yj;cases x with
 |non =>
  cases rx;have e':k=false:=e;subst e';exact truthy_none ⟨H,I,q⟩
 |bl b =>
  cases rx;have e':k=b:=e;subst e';exact YJ ⟨H,I,q⟩
 |int i =>
  obtain⟨t,rfl⟩:=rx;have e':k=(i !=0):=e;subst e';exact PySem.P.truthy_int ⟨H,I,q⟩
 |str y =>
  obtain⟨t,rfl⟩:=rx;obtain⟨hy,e'⟩:y.length<=sizeLine/\k=((y.length:Int) !=0):=e;subst e';exact PySem.P.truthy_str (by omega) ⟨H,I.tok _,q⟩
 |byt y =>
  obtain⟨t,rfl⟩:=rx;obtain⟨hy,e'⟩:y.size<=sizeLine/\k=((y.size:Int) !=0):=e;subst e';exact PySem.W.truthy_bytes (by omega) ⟨H,I.tok _,q⟩
 |ref p =>
  cases rx;have e':(∃xs,SqL X.K H p xs/\k=!xs.isEmpty)\/(∃xs,SqT X.K H p xs/\k=!xs.isEmpty)\/∃Dm,H p=some (.dK Dm)/\k=!Dm.isEmpty:=e
  rcases e' with⟨xs,hx,e'⟩|⟨xs,hx,e'⟩|⟨Dm,hx,e'⟩
  ·subst e';obtain⟨its,r,pl,hz⟩:=I.list hx;have Dq:=r.length;exact wpAny_truthy_list pl.isList (by simp only[Zg];omega) ⟨H,I.tok _,by rw[Xt r];exact q⟩
  ·subst e';obtain⟨its,r,pl,hz⟩:=I.tuple hx;have Dq:=r.length;exact truthy_tuple pl (by simp only[Zg];omega) ⟨H,I.tok _,by rw[Xt r];exact q⟩
  ·subst e';obtain⟨hz,hS,vs,r,m⟩:Dm.length<=sizeLine/\(p==EN)=false/\∃vs,KV Dm vs/\s.heap.DictOf (zY X.prog X.w) p vs:=I.hok p _ hx;have Dq:Dm.length=vs.length:=Paired.length r;exact wpAny_truthy_dict hS m (by omega) ⟨H,I.tok _,by rw[Fx r];exact q⟩
 |_=>exact(show False from e).elim
theorem Ny (ha:PE X a ta)(he:∀whole,isTrue a X.env whole=(do let v ←whole;standAt a.pos;Mn [v] (truthy v))) :
  PT X a (fun σ H Q=>ta σ H fun x H'=>∃k,PQ X.K x H' k/\Q k H'):=by
 intro Dp s σ H Q I h;exact isTrue_plain (A3 (ha Dp s σ H _ I h) fun v s1 ⟨x,H1,I1,r1,q1⟩=>RI Dp s1 σ H1 x v Q I1 r1 q1) (he _)
theorem qQ:Ce X (binaryOp .Add) (fun x y H Q=>∃i j,x=.str i/\y=.str j/\i.length+j.length<=sizeLine/\Q (.str (i++j)) H):=by
 intro Dp s σ H x y v u Q I rx ry h;obtain⟨i,j,rfl,rfl,hz,q⟩:=h;obtain⟨t,rfl⟩:=rx;obtain⟨t',rfl⟩:=ry;exact add_str (fun t' tk=>⟨.str (i++j),H,I.tok _,⟨_,rfl⟩,q⟩) hz
theorem vals1 {x:V}(r:Vals [x] us):∃u,us=[u]/\RelV x u:=by
 cases r with
 |cons r1 r2=>cases r2;exact⟨_,rfl,r1⟩
theorem vals2 {x y:V}(r:Vals [x,y] us):∃u w',us=[u,w']/\RelV x u/\RelV y w':=by
 cases r with
 |cons r1 r2 =>
  cases r2 with
  |cons r3 r4=>cases r4;exact⟨_,_,rfl,r1,r3⟩
theorem Ki (hc:X.calm=true):CallR X (.builtin "max") (fun xs H Q=>∃i j,xs=[.int i,.int j]/\Q (.int (if j>i then j else i)) H):=by
 intro Dp s σ H xs us Q I r h;obtain⟨i,j,rfl,q⟩:=h;obtain⟨u,w',rfl,⟨t,rfl⟩,⟨t',rfl⟩⟩:=vals2 r;refine max_two_ints (I.ok.hd hc) fun h' tk k=>⟨_,H,I.kept k,?_,q⟩
 by_cases hj:j>i
 ·rw[Zk hj,Zk hj];exact⟨_,rfl⟩
 ·rw[Zh hj,Zh hj];exact⟨_,rfl⟩
theorem Kf:CallR X (.type "int") (fun xs H Q=>(∃i,xs=[.int i]/\Q (.int i) H)\/∃k,xs=[.bl k]/\Q (.int (if k then 1 else 0)) H):=by
 intro Dp s σ H xs us Q I r h
 rcases h with⟨i,rfl,q⟩|⟨k,rfl,q⟩
 ·obtain⟨u,rfl,t,rfl⟩:=vals1 r;exact call_int_int ⟨.int i,H,I,⟨_,rfl⟩,q⟩
 ·obtain⟨u,rfl,r1⟩:=vals1 r;cases r1;exact call_int_bool ⟨.int (if k then 1 else 0),H,I.tok _,⟨_,rfl⟩,q⟩
theorem jF:CallR X (.type "str") (fun xs H Q=>∃i,xs=[.int i]/\i.natAbs.log2<1920/\Q (.str (LN i)) H):=by
 intro Dp s σ H xs us Q I r h;obtain⟨i,rfl,hz,q⟩:=h;obtain⟨u,rfl,t,rfl⟩:=vals1 r;exact PySem.P.str_of_int hz ⟨.str _,H,I.tok _,⟨_,rfl⟩,q⟩
theorem Cm:CallR X (.builtin "ord") (fun xs H Q=>∃x,xs=[.str x]/\x.length=1/\Q (.int (x.cps.getD 0 0:Nat)) H):=by
 intro Dp s σ H xs us Q I r h;obtain⟨x,rfl,hz,q⟩:=h;obtain⟨u,rfl,t,rfl⟩:=vals1 r;exact ord_of_one hz ⟨.int _,H,I.tok _,⟨_,rfl⟩,q⟩
end
structure ObjM (h:EC)(x dx C:Eh)(mA:Str->Dc):Prop where
 obj:h.get? x=some (Le C dx)
 ns:h.Ns1 dx mA
 ne:dx≠x
theorem KI {h:EC}{dx:Eh}{mA:Str->Dc}(n:h.Ns1 dx mA):∃od,h.get? dx=some od/\∀name,PySem.W.lookIn name od=some (mA name):=by
 obtain⟨o,es,ep,ho,hd,hk,_,hm⟩:=n;refine⟨o,ho,fun name=>?_⟩;have e:=hm name;unfold nsFind findBy at e;rw[←Array.find?_toList]at e;unfold PySem.W.lookIn;rw[hd];dsimp only
 split
 ·rename_i y q;rw[q]at e;exact congrArg some e
 ·rename_i q;rw[q]at e;have a:es.toList.any (·.refKey)=false:=by
   rw[JO];intro y hy;obtain⟨z,t,D8⟩:=hk y (Array.mem_toList_iff.mp hy);simp[DictEntry.refKey,D8]
  have a':¬es.toList.any (·.refKey)=true:=by rw[a];exact Zw
  rw[Zh a'];exact congrArg some e
theorem ObjM.look (I:ObjM h x dx C mA):∃od,PySem.W.InstAt h x (Le C dx) C (some od)/\∀name,PySem.W.lookIn name od=some (mA name) :=
 let ⟨od,ho,hl⟩:=KI I.ns
 ⟨od,⟨I.obj,rfl,rfl,ho⟩,hl⟩
section
variable {prog:Ei}{w:Eo}{A:EF}{E:Eg->Dh}{s:Ej}{K:AZ}{x dx C f:Eh}{mA:Str->Dc}{name:Str}{v:Eg}
theorem Op {expr:Bool}{Q:Eg->Dh}(X:K.In s.heap)(I:ObjM s.heap x dx C mA)(hg:LK K C name=true)(hh:LZ K C=true)
  (ha:EK K (.ref C) name=some none) (hv:mA name=some v) (hv':PySem.W.handedIn v=true) (h:Q v { s with toks:=s.toks+1 }) :
  Ek (Es prog w) A (getAttr (.ref x) name expr) Q E s:=by
 obtain⟨od,J,hl⟩:=I.look;exact PySem.W.get_value X J (Vf hg).1 (PySem.W.findObj_own hh ha rfl (by rw[hl,hv])) hv' h
theorem MH {pl:Sem Bool}{Q:Eg×Db->Dh}(X:K.In s.heap)(I:ObjM s.heap x dx C mA)(hg:LK K C name=true)
  (hf:EK K (.ref C) name=some (some (.ref f))) (ht:Me K (.ref f)=true) (hv:mA name=none) (h:Q (.ref f,[.ref x]) s) :
  Ek (Es prog w) A (Mh (.ref x) name pl) Q E s:=by
 obtain⟨od,J,hl⟩:=I.look;exact PySem.W.method_fn X J (Vf hg).1 (Vf hg).2 hf (Jn.mp ht) (by show(PySem.W.lookIn name od).map (·.isSome)=some false;rw[hl,hv];rfl) h
theorem O4 {ns:Da}{Q:Unit->Dh}(X:K.In s.heap)(I:ObjM s.heap x dx C mA)
  (hs:EK K (.ref C) "__setattr__"=some (some (.builtin "object.__setattr__"))) (hp:PySem.W.plainOver K C=true) (ht:PySem.W.takerIn K C name=some none) (hh:LZ K C=true)
  (hw:PySem.Within mA ns) (hsz:ns.length<=sizeLine)
  (h:∀h',ObjM h' x dx C (fun y=>if y=name then some v else mA y)->Lb dx s.heap h'->Q () { s with heap:=h',toks:=s.toks+2 }) :
  Ek (Es prog w) A (setAttr (.ref x) name v) Q E s:=by
 obtain⟨od,J,hl⟩:=I.look;refine PySem.W.set_plain X J hs (PySem.W.osa_open (s:={ s with toks:=s.toks+1 }) (r:=none) X J hp ht fun b=>?_);obtain⟨cd,hc,hd'⟩:=PySem.W.any_some hh;have hx:s.heap.get? x=some ⟨.ref C,some dx,.plain,#[]⟩:=I.obj;refine QW (Q3 (QW (QW (wpAny_loadPart hx (QW (PySem.W.Looks.here (s:={ s with toks:=s.toks+1 }) (PySem.W.looks_clsIn X hc) ?_))))));rw[hd'];refine Q3 (a:=some dx) (QW (Q3 (QW ?_)));refine wpAny_nsSet1 (s:={ s with toks:=s.toks+1 }) I.ns fun h' hn2 hs2=>?_;obtain⟨oD,esD,epD,hoD,hdD,hcD⟩:=hn2.count (PySem.Within.cons name v hw);refine QW (wpAny_lookBehind hoD (by rw[hdD];exact pastItsLine_dict (ZD hcD (by rw[Zd];omega))) ?_);exact Q3 (h _ ⟨(hs2.2 _ (ED I.ne)).trans I.obj,hn2,I.ne⟩ hs2)
theorem Na {R:Result->Dh}{vs:Db}{kw:List (Str×Eg)}(X:K.In s.heap)(hm:Mb K C=true)
  (hi:EK K (.ref C) "__init__"=some (some (.ref f))) (hf:PySem.W.typeIn K (.ref f)=some (.type "function"))
  (h:LR (Es prog w) (A.under (.builtin "type.__call__" ⟨.ref C::vs,kw⟩)) (.call (.ref f) ⟨.ref (s.heap.objs.size+1)::vs,kw⟩) (PySem.W.InitBack (s.heap.objs.size+1) R) { s with heap:=(s.heap.push EZ).push (Le C s.heap.objs.size) }) :
  LR (Es prog w) A (.call (.ref C) ⟨vs,kw⟩) R s:=by
 obtain⟨hh,g,d,t,os⟩:=s;exact PySem.W.make_core (PySem.W.makes_of X hm) (PySem.W.looks_findIn X hi) (fun self=>PySem.W.bind_fn X self hf) (.inl rfl) h
end
def VN (f:Str)(v:V):List (Str×V)->List (Str×V)
 |[]=>[(f,v)]
 |(g,x)::r=>if g=f then(g,v)::r else(g,x)::VN f v r
theorem U5 (f g:Str)(v:V):∀fs:List (Str×V),(VN f v fs).lookup g=if g=f then some v else fs.lookup g
 |[]=>by
  show Lw g [(f,v)]=_
  by_cases h:g=f
  ·have hb:(g==f)=true:=Jn.mpr h;simp only[Lw,hb,Zk h]
  ·have hb:(g==f)=false:=Yx.mpr h;simp only[Lw,hb,Zh h]
 |(k,x)::r=>by
  have ih:=U5 f g v r;rw[show VN f v ((k,x)::r)=(if k=f then(k,v)::r else(k,x)::VN f v r) from rfl]
  by_cases hk:k=f
  ·rw[Zk hk]
   by_cases h:g=k
   ·have hb:(g==k)=true:=Jn.mpr h;simp only[Lw,hb,Zk (h.trans hk)]
   ·have hb:(g==k)=false:=Yx.mpr h;simp only[Lw,hb,Zh (fun e:g=f=>h (e.trans hk.symm))]
  ·rw[Zh hk]
   by_cases h:g=k
   ·have hb:(g==k)=true:=Jn.mpr h;simp only[Lw,hb,Zh (fun e:g=f=>hk (h.symm.trans e))]
   ·have hb:(g==k)=false:=Yx.mpr h;simp only[Lw,hb];exact ih
theorem UK (f:Str)(v:V):∀fs:List (Str×V),f∈(VN f v fs).map (·.1)/\∀g,g∈fs.map (·.1)->g∈(VN f v fs).map (·.1)
 |[]=>⟨by simp[VN],fun g h=>by simp at h⟩
 |(k,x)::r=>by
  obtain⟨i1,i2⟩:=UK f v r;rw[show VN f v ((k,x)::r)=(if k=f then(k,v)::r else(k,x)::VN f v r) from rfl]
  by_cases hk:k=f
  ·rw[Zk hk];subst hk;exact⟨by simp,fun g h=>by simpa using h⟩
  ·rw[Zh hk];refine⟨?_,fun g h=>?_⟩
   ·rw[Zn];exact QY _ i1
   ·rw[Zn]at h ⊢
    rcases Q7.mp h with e|e
    ·exact Q7.mpr (.inl e)
    ·exact QY _ (i2 g e)
theorem U4 (f:Str)(v:V):∀fs:List (Str×V),(VN f v fs).length<=fs.length+1
 |[]=>by simp[VN]
 |(k,x)::r=>by
  have ih:=U4 f v r;rw[show VN f v ((k,x)::r)=(if k=f then(k,v)::r else(k,x)::VN f v r) from rfl]
  by_cases hk:k=f
  ·rw[Zk hk,Zd,Zd];omega
  ·rw[Zh hk,Zd,Zd];omega
theorem RelO.some_of {v:V}(r:RelO (some v) o):∃u,o=some u/\RelV v u:=by
 cases o with
 |none=>exact(show False from r).elim
 |some u=>exact⟨u,rfl,r⟩
theorem RelO.none_of (r:RelO none o):o=none:=by
 cases o with
 |none=>rfl
 |some u=>exact(show False from r).elim
theorem Kw (r:RelV v u):PySem.W.handedIn u=true:=by
 cases v with
 |non=>cases(show u=EG from r);rfl
 |bl b=>cases(show u=LS b from r);rfl
 |int i=>obtain⟨t,e⟩:=(show∃t,u=Value.int i t from r);cases e;rfl
 |str x=>obtain⟨t,e⟩:=(show∃t,u=L6 x t from r);cases e;rfl
 |byt b=>obtain⟨t,e⟩:=(show∃t,u=Value.bytes b t from r);cases e;rfl
 |flt b=>obtain⟨t,e⟩:=(show∃t,u=Value.float b t from r);cases e;rfl
 |ref a=>cases(show u=Ew a from r);rfl
 |ty n=>cases(show u=Value.type n from r);rfl
section
variable {P:Ei}{w:Eo}{H H':Hp}{h h':EC}{a C dx:Eh}{fs fs':List (Str×V)}
theorem Xc (hok:HOk P w H h)(e:H a=some (.ins C dx fs)):∃mA,ObjM h a dx C mA/\(∀f,RelO (fs.lookup f) (mA f))/\PySem.Within mA (fs.map (·.1))/\fs.length<=1000/\H dx=some (.own a):=by
 obtain⟨d,z,ne,ob,mA,n,r,q⟩:=(show ObjOk P w H h a (.ins C dx fs) from hok a _ e);exact⟨mA,⟨ob,n,ne⟩,r,q,z,d⟩
end
structure Cls (K:AZ)(C:Eh):Prop where
 pg:LK K C L7=true
 hd:LZ K C=true
 po:PySem.W.plainOver K C=true
 sa:EK K (.ref C) "__setattr__"=some (some (.builtin "object.__setattr__"))
theorem Cls.get {K:AZ}(c:Cls K C)(f:Str):LK K C f=true:=c.pg
def NoAttr (K:AZ)(C:Eh)(f:Str):Prop:=EK K (.ref C) f=some none
theorem NoAttr.taker {K:AZ}(n:NoAttr K C f):PySem.W.takerIn K C f=some none:=by
 unfold PySem.W.takerIn;rw[show EK K (.ref C) f=some none from n];rfl
structure Meth (K:AZ)(C:Eh)(m:Str)(f:Eh):Prop where
 at_:EK K (.ref C) m=some (some (.ref f))
 fn:Me K (.ref f)=true
 kp:ET K (.ref f)=true
section
variable {X:Cx}{Dp:De}{σ:St}{H:Hp}{s:Ej}{a C dx:Eh}{fs:List (Str×V)}{f:Str}{v:V}{A:EF}{E:Eg->Dh}
theorem Fv {b:Bool}{Q:Eg->Dh}(I:Inv X Dp σ H s)(e:H a=some (.ins C dx fs))(c:Cls X.K C)(n:NoAttr X.K C f)(l:fs.lookup f=some v)
  (h:∀u s',Inv X Dp σ H s'->RelV v u->Q u s'):Ek (Es X.prog X.w) A (getAttr (.ref a) f b) Q E s:=by
 obtain⟨mA,O,r,_,_,_⟩:=Xc I.hok e;obtain⟨u,hu,ru⟩:=RelO.some_of (v:=v) (o:=mA f) (by rw[←l];exact r f);exact Op I.kIn O (c.get f) c.hd n hu (Kw ru) (h u _ (I.tok _) ru)
theorem k6 {pl:Sem Bool}{Q:Eg×Db->Dh}(I:Inv X Dp σ H s)(e:H a=some (.ins C dx fs))(c:Cls X.K C)(k:Meth X.K C m g)(l:fs.lookup m=none)
  (h:Q (.ref g,[.ref a]) s):Ek (Es X.prog X.w) A (Mh (.ref a) m pl) Q E s:=by
 obtain⟨mA,O,r,_,_,_⟩:=Xc I.hok e;have hn:mA m=none:=RelO.none_of (by rw[←l];exact r m);exact MH I.kIn O (c.get m) k.at_ k.fn hn h
theorem FT {Q:Unit->Dh}(I:Inv X Dp σ H s)(e:H a=some (.ins C dx fs))(c:Cls X.K C)(n:NoAttr X.K C f)(hl:fs.length<1000)(ry:RelV y u)
  (h:∀s',Inv X Dp σ (upd H a (.ins C dx (VN f y fs))) s'->Q () s'):Ek (Es X.prog X.w) A (setAttr (.ref a) f u) Q E s:=by
 obtain⟨mA,O,r,wi,_,ho⟩:=Xc I.hok e;have hz:(fs.map (·.1)).length<=sizeLine:=by rw[QU,Yj];omega
 refine O4 I.kIn O c.sa c.po n.taker c.hd wi hz fun h' O' sb=>h _ ?_;have hd:∃o,h'.get? dx=some o:=let ⟨o,_,_,e',_⟩:=O'.ns;⟨o,e'⟩;refine I.write (x:=a) (e:=dx) (by rw[e];exact Lh) (.inr ho) (fun b q hb z=>(sb.2 b hb).trans z) hd ?_;refine⟨by rw[zG O.ne];exact ho,?_,O.ne,O'.obj,_,O'.ns,fun g=>?_,fun g hg=>?_⟩
 ·have:=U4 f y fs;omega
 ·show RelO ((VN f y fs).lookup g) (if g=f then some u else mA g);rw[U5]
  by_cases q:g=f
  ·rwa[Zk q,Zk q]
  ·rw[Zh q,Zh q];exact r g
 ·by_cases q:g=f
  ·rw[q];exact(UK f y fs).1
  ·refine(UK f y fs).2 g (wi g fun z=>hg ?_);show(if g=f then some u else mA g)=none;rwa[Zh q]
theorem Inv.made (I:Inv X Dp σ H s):Inv X Dp σ (upd (upd H s.heap.objs.size (.own (s.heap.objs.size+1))) (s.heap.objs.size+1) (.ins C s.heap.objs.size []))
  { s with heap:=(s.heap.push EZ).push (Le C s.heap.objs.size) }:=by
 have e1:(s.heap.push EZ).get? s.heap.objs.size=some PySem.W.emptyDict:=Ze s.heap rfl;have e2:((s.heap.push EZ).push (Le C s.heap.objs.size)).get? (s.heap.objs.size+1)=some (Le C s.heap.objs.size):=by
  have:=Ze (s.heap.push EZ) (o:=Le C s.heap.objs.size) rfl
  rwa[Yk]at this
 have e3:(s.heap.push EZ).Ns s.heap.objs.size (fun _=>none):=⟨EZ,#[],_,e1,rfl,(fun e he=>absurd he (by simp)),fun _=>rfl⟩;have I1:=I.laid (a:=s.heap.objs.size) (o:=.own (s.heap.objs.size+1)) (h':=s.heap.push EZ) (t':=s.toks) (fun b u q=>Q0 _ q) (Q2 _) ⟨_,e1⟩;refine I1.laid (a:=s.heap.objs.size+1) (o:=.ins C s.heap.objs.size []) (t':=s.toks) (fun b u q=>Q0 _ q) (JP (Yk _ _)) ?_;have ne:s.heap.objs.size≠s.heap.objs.size+1:=Zr (Jg _);refine⟨by rw[zG ne,zB],Zz _,ne,e2,fun _=>none,(Heap.Ns1.of_empty e3).at fun o q=>Q0 _ q,fun _=>Lh,fun y hy=>absurd rfl hy⟩
theorem Od {prog:Ei}{w:Eo}{env:Env}{e:EI}{f:Str}{pos:Pos}{s:Ej}{Q:Eg->Dh}(hb:Lo e f env (EY e env)=EY e env)
  (h:Ek (Es prog w) A (EY e env) (fun o s₁=>Ek (Es prog w) A (getAttr o f true) Q E s₁) E s):Ek (Es prog w) A (EY (.Attribute e f pos) env) Q E s :=
 Attribute_any_ h (by rw[arm_eval_Attribute,hb])
end
def Tu (K:AZ)(ta:TE)(f:Str):TE:=fun σ H Q=>ta σ H fun x H1=>∃a C dx fs v,x=.ref a/\H1 a=some (.ins C dx fs)/\Cls K C/\NoAttr K C f/\fs.lookup f=some v/\Q v H1
def Tp (K:AZ)(ta tv:TE)(f:Str):TS:=fun D σ H=>tv σ H fun y H1=>ta σ H1 fun x H2=>∃a C dx fs,x=.ref a/\H2 a=some (.ins C dx fs)/\Cls K C/\NoAttr K C f/\fs.length<1000 /\
 D.nx σ (upd H2 a (.ins C dx (VN f y fs)))
section
variable {X:Cx}{o e value:EI}{f:Str}{pos DN tpos:Pos}{ta tv:TE}
theorem j3 (he:PE X e ta)(hb:Lo e f X.env (EY e X.env)=EY e X.env):PE X (.Attribute e f pos) (Tu X.K ta f):=by
 intro Dp s σ H Q I h;refine Od hb (A3 (he Dp s σ H _ I h) fun u s1 ⟨x,H1,I1,rx,a,C,dx,fs,v,ex,ea,c,n,l,q⟩=>?_);subst ex;obtain rfl:u=Ew a:=rx;exact Fv I1 ea c n l fun u' s2 I2 ru=>⟨v,H1,I2,ru,q⟩
theorem FP (ha:PE X o ta)(hv:PE X value tv)(hs:Mg value (some (.Attribute o f DN)) pos.line X.env=Ly false):PS X (.Assign [.Attribute o f DN] value pos) (Tp X.K ta tv f):=by
 intro Dp s σ H D I h;refine plainObj_wpAny_Assign_Attribute (A3 (hv Dp s σ H _ I h) fun u s1 ⟨y,H1,I1,ry,q⟩=>A3 (ha Dp s1 σ H1 _ I1 q) fun ov s2 ⟨x,H2,I2,rx,a,C,dx,fs,ex,ea,c,n,l,q2⟩=>?_) hs;subst ex;obtain rfl:ov=Ew a:=rx;exact FT I2 ea c n l ry fun s3 I3=>⟨σ,_,I3,q2⟩
end
section
variable {X:Cx}{Dp:De}{σ:St}{H:Hp}{s:Ej}{A:EF}{E:Eg->Dh}{Q:Eg->Dh}{c:Eg}{b:Bool}
inductive TyOf (K:AZ)(H:Hp):V->Eg->Prop where
 |non:TyOf K H .non (.type "NoneType")
 |bl (x:Bool):TyOf K H (.bl x) (.type "bool")
 |int (i:Int):TyOf K H (.int i) (.type "int")
 |str (x:Str):TyOf K H (.str x) (.type "str")
 |flt (x:UInt64):TyOf K H (.flt x) (.type "float")
 |lst {a:Eh} {xs:Dj} (e:H a=some (.lst xs)):TyOf K H (.ref a) (.type "list")
 |frz {a:Eh} {o:Obj} {xs:Dj} (e:H a=some (.frz o (.lst xs))):TyOf K H (.ref a) (.type "list")
 |tup {a:Eh} {xs:Dj} (e:H a=some (.tup xs)):TyOf K H (.ref a) (.type "tuple")
 |dK {a:Eh} {Dm:Dl} (e:H a=some (.dK Dm)):TyOf K H (.ref a) (.type "dict")
 |dT {a:Eh} {Dm:List (List Key×V)} (e:H a=some (.dT Dm)):TyOf K H (.ref a) (.type "dict")
 |ins {a C dx:Eh} {fs:List (Str×V)} (e:H a=some (.ins C dx fs)) (cl:Cls K C) (ha:EK K (.ref C) "__class__"=some (some (.builtin "object.__class__")))
   (hn:PySem.W.specialIn K (.builtin "object.__class__") "__get__"=some (some (.builtin "getset_descriptor.__get__"))) (htk:PySem.W.takesIn K (.builtin "object.__class__")=some true)
   (hm:PySem.W.mroIn K C (.type "object")=some true):TyOf K H (.ref a) (.ref C)
theorem qN (I:Inv X Dp σ H s)(rx:RelV x u)(ty:TyOf X.K H x t)(e:EB X.K t c=some b)(h:∀tk,Q (.bool b) { s with toks:=tk }) :
  Ek (Es X.prog X.w) A (call (.builtin "isinstance") [u,c]) Q E s:=by
 cases ty with
 |non=>cases(show u=EG from rx);exact ZW PySem.W.kitx_none I.kIn Lh e (fun z=>nomatch z) h
 |bl y=>cases(show u=LS y from rx);exact ZW PySem.W.kitx_bool I.kIn Lh e (fun z=>nomatch z) h
 |int i=>obtain⟨t,q⟩:=(show∃t,u=Value.int i t from rx);cases q;exact ZW PySem.W.kitx_int I.kIn Lh e (fun z=>nomatch z) h
 |str y=>obtain⟨t,q⟩:=(show∃t,u=L6 y t from rx);cases q;exact ZW PySem.W.kitx_str I.kIn Lh e (fun z=>nomatch z) h
 |flt y=>obtain⟨t,q⟩:=(show∃t,u=Value.float y t from rx);cases q;exact ZW PySem.W.kitx_float I.kIn Lh e (fun z=>nomatch z) h
 | @lst a xs ea =>
  cases(show u=Ew a from rx);obtain⟨_,_,n,_,h1⟩:=(show ObjOk X.prog X.w H s.heap a (.lst xs) from I.hok a _ ea);exact ZW Vn I.kIn ⟨_,h1,rfl⟩ e (fun z=>nomatch z) h
 | @frz a ob xs ea =>
  cases(show u=Ew a from rx);obtain⟨_,_,_,n,_,h1⟩:=(show ObjOk X.prog X.w H s.heap a (.frz ob (.lst xs)) from I.hok a _ ea);exact ZW Vn I.kIn ⟨_,h1,rfl⟩ e (fun z=>nomatch z) h
 | @tup a xs ea =>
  cases(show u=Ew a from rx);obtain⟨_,_,_,p⟩:=(show ObjOk X.prog X.w H s.heap a (.tup xs) from I.hok a _ ea);obtain⟨o,h1,h2,_⟩:=p;exact ZW PySem.W.kitx_tuple I.kIn ⟨o,h1,h2⟩ e (fun z=>nomatch z) h
 | @dK a Dm ea =>
  cases(show u=Ew a from rx);obtain⟨_,_,vs,_,p⟩:=(show ObjOk X.prog X.w H s.heap a (.dK Dm) from I.hok a _ ea);obtain⟨o,es,ep,h1,h2,_⟩:=p;exact ZW Vo I.kIn ⟨o,h1,h2.1⟩ e (fun z=>nomatch z) h
 | @dT a Dm ea =>
  cases(show u=Ew a from rx);obtain⟨_,_,xs,_,o,es,ep,h1,h2,_⟩:=(show ObjOk X.prog X.w H s.heap a (.dT Dm) from I.hok a _ ea);exact ZW Vo I.kIn ⟨o,h1,h2.1⟩ e (fun z=>nomatch z) h
 | @ins a C dx fs ea cl ha hn htk hm =>
  cases(show u=Ew a from rx);obtain⟨mA,O,_⟩:=Xc I.hok ea;obtain⟨od,J,_⟩:=O.look;exact ZW (PySem.W.kitx_own (cl.get _) cl.hd ha hn htk hm) I.kIn J e (fun z=>nomatch z) h
end
structure Room (k:Nat)(A:EF):Prop where
 hd:A.handled=none
 dp:A.depth+3*k+5<recursionLimit
 un:A.units+16*k+200<E8
theorem Room.mono {j:Nat}(r:Room k A)(h:j<=k):Room j A:=⟨r.hd,by have:=r.dp;omega,by have:=r.un;omega⟩
theorem Room.m {j:Nat}(r:Room k A)(h:j<=k:=by decide):Room j A:=r.mono h
theorem Room.deeper {k:Nat}(r:Room (k+1) A)(env:Env):Room k (A.deeper env) :=
 ⟨r.hd,by have:=r.dp;show A.depth+1+3*k+5<_;omega,by have:=r.un;show A.units+3+16*k+200<_;omega⟩
theorem FF {A:EF}{C:Eh}{us:Db}{kw:List (Str×Eg)}:(A.under (.builtin "type.__call__" ⟨.ref C::us,kw⟩)).depth=A.depth+1:=by
 first|rfl|simp[Around.under,Code.weight,Code.isCreation,Code.isGuard,Code.isCaller,Code.frames,Code.isFrame,guardIds]
theorem FG {A:EF}{C:Eh}{us:Db}{kw:List (Str×Eg)}:(A.under (.builtin "type.__call__" ⟨.ref C::us,kw⟩)).units=A.units+1:=by
 first|rfl|simp[Around.under,Code.cUnits,Code.frames,Code.isFrame]
theorem Room.make {k:Nat}(r:Room (k+1) A)(C:Eh)(us:Db)(kw:List (Str×Eg)):Room k (A.under (.builtin "type.__call__" ⟨.ref C::us,kw⟩)) :=
 ⟨r.hd,by have:=r.dp;rw[FF];omega,by have:=r.un;rw[FG];omega⟩
theorem Room.depth (r:Room k A):A.depth<recursionLimit:=by have:=r.dp;omega
theorem Room.units (r:Room k A):A.units+64<cLine:=by have:=r.un;omega
def Bo:TA:=fun _ H Q=>Q [] H
def Sz (ta:TE)(tr:TA):TA:=fun σ H Q=>ta σ H fun x H1=>tr σ H1 fun xs H2=>Q (x::xs) H2
section
variable {X:Cx}{e:EI}{es:List EI}{te:TE}{t:TA}{pos:Pos}
theorem zD:PA X [] Bo:=fun _ _ _ _ H Q I h=>Calls.spliced_nil ⟨[],H,I,.nil,h⟩
theorem zA (ha:PE X e te)(hr:PA X es t)(hs:Ev (e::es) X.env=(false,EY e X.env)::Ev es X.env:=by rfl):PA X (e::es) (Sz te t):=by
 intro pos Dp s σ H Q I h;rw[hs];show Ek _ _ (spliced ((false,EY e X.env)::E7 pos (Ev es X.env))) _ _ s;refine LV (A3 (ha Dp s σ H _ I h) fun u s1 ⟨x,H1,I1,r1,q1⟩=>?_);exact A3 (hr pos Dp s1 σ H1 _ I1 q1) fun us s2 ⟨xs,H2,I2,r2,q2⟩=>⟨x::xs,H2,I2,.cons r1 r2,q2⟩
def TH (t:TA):TE:=fun σ H Q=>t σ H fun xs H1=>xs.length<=sizeLine/\∀p,H1 p=none->Q (.ref p) (upd H1 p (.tup xs))
def Tz (t:TA):TE:=fun σ H Q=>t σ H fun xs H1=>xs.length<=sizeLine/\∀p,H1 p=none->Q (.ref p) (upd H1 p (.lst xs))
theorem jA {x1}(h:PA X es t):PE X (.Tuple es x1 pos) (TH t):=by
 intro Dp s σ H Q I hq;refine wpAny_Tuple_spliced (A3 (h pos Dp s σ H _ I hq) fun us s1 ⟨xs,H1,I1,r,z,q⟩=>⟨by rw[←r.length];exact z,?_⟩);have hf:H1 s1.heap.objs.size=none:=I1.hok.fresh (Q2 _);refine⟨.ref s1.heap.objs.size,upd H1 s1.heap.objs.size (.tup xs),I1.laid (t':=s1.toks) (fun b u e=>Q0 _ e) (Q2 _) ?_,rfl,q _ hf⟩;exact⟨z,us,r,TupAt.new _ _⟩
theorem yN (h:PA X es t):PE X (.List es pos) (Tz t):=by
 intro Dp s σ H Q I hq;refine wpAny_List_spliced (A3 (h pos Dp s σ H _ I hq) fun us s1 ⟨xs,H1,I1,r,z,q⟩=>⟨by rw[←r.length];exact z,?_⟩);have hf:H1 s1.heap.objs.size=none:=I1.hok.fresh (Q2 _);refine⟨.ref s1.heap.objs.size,upd H1 s1.heap.objs.size (.lst xs),I1.laid (t':=s1.toks) (fun b u e=>Q0 _ e) (Q2 _) ?_,rfl,q _ hf⟩;exact⟨z,us,0,r,Ze _ rfl⟩
end
abbrev Sp:=Dj->Hp->VK->XK->Prop
abbrev K5:=List Env->Hp->Ej->XK->Eg->Dh
structure Env0 (P:Ei)(w:Eo)(K:AZ)(mg:Str->Dc)(base:EC)(A:EF)(outer:List Env)(s:Ej)(H:Hp):Prop where
 frames:A.frames=some outer
 mod:Mod K mg base
 bs:∀b o,base.get? b=some o->s.heap.get? b=some o/\H b=none
 bsz:base.objs.size<=s.heap.objs.size
 funs:s.heap.FunFrames base outer
 frf:∀b∈frs outer,H b=none
 hok:HOk P w H s.heap
 bare:Md s.gens
def CE (outer:List Env)(P:Ei)(w:Eo)(H:Hp)(s:Ej)(Q:VK)(u:Eg)(s':Ej):Prop :=
 ∃v H',s'.os=s.os/\Md s'.gens/\Un (frs outer) [] H H' s.heap s'.heap/\HOk P w H' s'.heap/\RelV v u/\Q v H'
def CR (CX:K5)(outer:List Env)(P:Ei)(w:Eo)(H:Hp)(s:Ej)(Q:VK)(E:XK)(r:Result)(s':Ej):Prop :=
 match r with
 | .ok (.ret u)=>CE outer P w H s Q u s'
 | .ok _=>False
 | .error e=>CX outer H s E e s'
structure FnOk (P:Ei)(w:Eo)(K:AZ)(mg:Str->Dc)(base:EC)(CX:K5)(k:Nat)(f:Eh)(fd:Eu)(ps:Da)(sp:Sp):Prop where
 len:∀vs H Q E,sp vs H Q E->vs.length=ps.length
 run:∀(A:EF) (outer:List Env) (s:Ej) (H:Hp) (args:Args) (us:Db) (vs:Dj) (Q:VK) (E:XK),Room k A->Env0 P w K mg base A outer s H->BindsTo s fd args (ps.zip us)->Vals vs us->sp vs H Q E ->
  LR (Es P w) A (.call (.ref f) args) (CR CX outer P w H s Q E) s
theorem Env0.make {K:AZ}(e:Env0 P w K mg base A outer s H)(C:Eh)(us:Db)(kw:List (Str×Eg)) :
  Env0 P w K mg base (A.under (.builtin "type.__call__" ⟨.ref C::us,kw⟩)) outer s H:=⟨by first|exact e.frames|(simpa[Around.under,Code.envs,Code.isFrame,pushEnvs] using e.frames),e.mod,e.bs,e.bsz,e.funs,e.frf,e.hok,e.bare⟩
section
variable {X:Cx}{Dp:De}{σ:St}{H:Hp}{s s':Ej}
theorem Inv.env0 (I:Inv X Dp σ H s):Env0 X.prog X.w X.K X.mg X.base X.A X.stack s H :=
 ⟨I.ok.frames,I.ok.mod,I.bs,ZD I.ok.bsz I.sz,I.stack,I.stkFree,I.hok,I.bare⟩
theorem Inv.after (I:Inv X Dp σ H s)(h:CE X.stack X.prog X.w H s Q u s'):EP X Dp σ Q u s':=by
 obtain⟨v,H',os,bare,un,hok,r,q⟩:=h;obtain⟨hh,g,d,t,os'⟩:=s';obtain rfl:os'=s.os:=os;exact⟨v,H',I.call (h':=hh) (g':=g) (d':=d) (t':=t) (ch:=[]) un hok bare (fun b z=>absurd z (by simp)),r,q⟩
end
def Py (sp:Sp)(dvs:Dj)(E:XK)(t:TA):TE:=fun σ H Q=>t σ H fun vs H1=>sp (vs++dvs) H1 Q E
def HZ (C:Eh)(m:Str)(sp:Sp)(dvs:Dj)(E:XK)(ta:TE)(t:TA):TE:=fun σ H Q=>ta σ H fun x H1=>∃a dx fs,x=.ref a/\H1 a=some (.ins C dx fs)/\fs.lookup m=none /\
 t σ H1 fun vs H2=>sp (x::(vs++dvs)) H2 Q E
def PB (C:Eh)(sp:Sp)(dvs:Dj)(E:XK)(t:TA):TE:=fun σ H Q=>t σ H fun vs H1=>∀x dx,H1 x=none->H1 dx=none->dx≠x ->
 sp (.ref x::(vs++dvs)) (upd (upd H1 dx (.own x)) x (.ins C dx [])) (fun v H2=>v=.non/\Q (.ref x) H2) E
def Binds (K:AZ)(fd:Eu)(ps:Da)(ds:Db):Prop :=
 ∀(s:Ej) (us:Db),K.In s.heap->(us++ds).length=ps.length->BindsTo s fd ⟨us,[]⟩ (ps.zip (us++ds))
theorem Binds.all {K:AZ}{fd:Eu}{ps:Da}(h:∀us:Db,us.length=ps.length->bindArgs fd ⟨us,[]⟩=Ly (ps.zip us)):Binds K fd ps []:=fun s us _ hl=>by
 rw[Zy]at hl ⊢;exact .of_eq (h us hl)
def vH (CX:K5)(X:Cx)(E:XK):Prop:=∀(Dp:De) (σ:St) (H:Hp) (s:Ej) (e:Eg) (s':Ej),Inv X Dp σ H s->CX X.stack H s E e s'->X.xe e s'
section
variable {X:Cx}{CX:K5}{k:Nat}{f C:Eh}{fd:Eu}{ps:Da}{sp:Sp}{dvs:Dj}{ds:Db}{E:XK}{x m:Str}{p pos Dr:Pos}{e o:EI}{es:List EI}{ta:TE}{t:TA}
theorem GK {Dp:De}{σ:St}{H:Hp}{s:Ej}{Q:VK}{us:Db}{vs:Dj}(F:FnOk X.prog X.w X.K X.mg X.base CX k f fd ps sp)(hr:Room k X.A)(hb:Binds X.K fd ps ds)(hd:Vals dvs ds)(hx:vH CX X E)
  (I:Inv X Dp σ H s) (r:Vals vs us) (h:sp (vs++dvs) H Q E):Ek (Es X.prog X.w) X.A (call (.ref f) us) (EP X Dp σ Q) X.xe s:=by
 have r2:Vals (vs++dvs) (us++ds):=r.append hd;have hl:(us++ds).length=ps.length:=by rw[←r2.length];exact F.len _ _ _ _ h
 refine J1 (YU (F.run X.A X.stack s H ⟨us,[]⟩ (us++ds) (vs++dvs) Q E hr I.env0 (hb s us I.kIn hl) r2 h) fun r s' hq=>?_);cases r with
 |error e=>exact hx Dp σ H s e s' I hq
 |ok fl =>
  cases fl with
  |ret u=>exact I.after hq
  |next=>exact EH hq
  |brk=>exact EH hq
  |cont=>exact EH hq
theorem OK (F:FnOk X.prog X.w X.K X.mg X.base CX k f fd ps sp)(hr:Room k X.A)(hg:Gl X x)(hm:X.mg x=some (.ref f))(hk:ET X.K (.ref f)=true)(hb:Binds X.K fd ps ds)(hd:Vals dvs ds)(hx:vH CX X E)
  (ha:PA X (e::es) t) (hdb:(x==("__debug__":Str))=false:=by decide) (he:Ev (e::es) X.env=(false,EY e X.env)::Ev es X.env:=by rfl) (hpl:(E7 pos (Ev es X.env)).any (·.1)=false:=by rfl) :
  PE X (.Call (.Name x p) (e::es) [] pos) (Py sp dvs E t):=by
 intro Dp s σ H Q I h;refine YD (uI I hg hm ?_ hdb);refine Y0 (h₀:=X.base) I.ok.mod.kin hk (A3 (ha pos Dp s σ H _ I h) fun us s1 ⟨vs,H1,I1,r,q⟩=>⟨I1.kIn,?_⟩) he hpl;exact GK F hr hb hd hx I1 r q
theorem OO {pl:Sem Bool}(he:PE X o ta)(c:Cls X.K C)(hm:Meth X.K C m f)(F:FnOk X.prog X.w X.K X.mg X.base CX k f fd ps sp)(hr:Room k X.A)(hb:Binds X.K fd ps ds)(hd:Vals dvs ds)(hx:vH CX X E)(ha:PA X (e::es) t)
  (hst:Ev (e::es) X.env=(false,EY e X.env)::Ev es X.env:=by rfl) (hpl:(E7 pos (Ev es X.env)).any (·.1)=false:=by rfl)
  (ht:EY (.Call (.Attribute o m Dr) (e::es) [] pos) X.env=(do
   let ov ←EY o X.env
   standAt Dr.atName
   let (f,first) ←Mn [ov] (Mh ov m pl)
   callWith pos f first (E7 pos (Ev (e::es) X.env)) (Mj pos (LG [] X.env))):=by rfl) :
  PE X (.Call (.Attribute o m Dr) (e::es) [] pos) (HZ C m sp dvs E ta t):=by
 intro Dp s σ H Q I h;refine JV (pl:=pl) (A3 (he Dp s σ H _ I h) fun u s1 ⟨x,H1,I1,rx,a,dx,fs,ex,ea,l,q⟩=>?_) ht;subst ex;obtain rfl:u=Ew a:=rx;refine k6 I1 ea c hm l ?_;refine Y0 (first:=[.ref a]) (h₀:=X.base) I.ok.mod.kin hm.kp (A3 (ha pos Dp s1 σ H1 _ I1 q) fun us s2 ⟨vs,H2,I2,r,q2⟩=>⟨I2.kIn,?_⟩) hst hpl;exact GK (us:=.ref a::us) (vs:=.ref a::vs) F hr hb hd hx I2 (.cons rfl r) q2
theorem Nr {pl:Sem Bool}(he:PE X o ta)(c:Cls X.K C)(hm:Meth X.K C m f)(F:FnOk X.prog X.w X.K X.mg X.base CX k f fd ps sp)(hr:Room k X.A)(hb:Binds X.K fd ps ds)(hd:Vals dvs ds)(hx:vH CX X E)
  (ht:EY (.Call (.Attribute o m Dr) [] [] pos) X.env=(do
   let ov ←EY o X.env
   standAt Dr.atName
   let (f,first) ←Mn [ov] (Mh ov m pl)
   callWith pos f first (E7 pos (Ev [] X.env)) (Mj pos (LG [] X.env))):=by rfl) :
  PE X (.Call (.Attribute o m Dr) [] [] pos) (HZ C m sp dvs E ta Bo):=by
 intro Dp s σ H Q I h;refine JV (pl:=pl) (A3 (he Dp s σ H _ I h) fun u s1 ⟨x,H1,I1,rx,a,dx,fs,ex,ea,l,q⟩=>?_) ht;subst ex;obtain rfl:u=Ew a:=rx;refine k6 I1 ea c hm l ?_;exact PySem.W.callWith_K0 (first:=[.ref a]) I1.kIn hm.kp (GK (us:=[.ref a]) (vs:=[.ref a]) F hr hb hd hx I1 (.cons rfl .nil) q)
structure Mk (K:AZ)(C f:Eh):Prop where
 makes:Mb K C=true
 init:EK K (.ref C) "__init__"=some (some (.ref f))
 fn:Me K (.ref f)=true
 kp:ET K (.ref C)=true
theorem NK {Dp:De}{σ:St}{H:Hp}{s:Ej}{Q:VK}{us:Db}{vs:Dj}(M:Mk X.K C f)(F:FnOk X.prog X.w X.K X.mg X.base CX k f fd ps sp)(hr:Room (k+1) X.A)(hb:Binds X.K fd ps ds)(hd:Vals dvs ds)
  (hx:vH CX X E) (I:Inv X Dp σ H s) (r:Vals vs us)
  (h:∀x dx,H x=none->H dx=none->dx≠x->sp (.ref x::(vs++dvs)) (upd (upd H dx (.own x)) x (.ins C dx [])) (fun v H2=>v=.non/\Q (.ref x) H2) E) :
  Ek (Es X.prog X.w) X.A (call (.ref C) us) (EP X Dp σ Q) X.xe s:=by
 have hq:=h (s.heap.objs.size+1) s.heap.objs.size (I.hok.fresh (Jm _)) (I.hok.fresh (Q2 _)) (Zr (Jg _));have I2:=Inv.made (C:=C) I;have r2:Vals (V.ref (s.heap.objs.size+1)::(vs++dvs)) (Ew (s.heap.objs.size+1)::(us++ds)):=.cons rfl (r.append hd);have hl:(Ew (s.heap.objs.size+1)::us++ds).length=ps.length:=by
  have e:=r2.length;rw[F.len _ _ _ _ hq]at e;exact e.symm
 refine J1 (Na (f:=f) I.kIn M.makes M.init (Jn.mp M.fn) (YU (F.run _ X.stack _ _ ⟨Ew (s.heap.objs.size+1)::us,[]⟩ (Ew (s.heap.objs.size+1)::(us++ds)) _ _ E (hr.make C us []) (I2.env0.make C us []) (hb _ (Ew (s.heap.objs.size+1)::us) I2.kIn hl) r2 hq) fun r s' hq'=>?_))
 cases r with
 |error e=>exact hx Dp σ _ _ e s' I2 hq'
 |ok fl =>
  cases fl with
  |ret u =>
   obtain⟨v,H',I3,rv,ev,q3⟩:=I2.after hq';subst ev;exact⟨rv,⟨V.ref (s.heap.objs.size+1),H',I3,rfl,q3⟩⟩
  |next=>exact EH hq'
  |brk=>exact EH hq'
  |cont=>exact EH hq'
theorem ON (M:Mk X.K C f)(F:FnOk X.prog X.w X.K X.mg X.base CX k f fd ps sp)(hr:Room (k+1) X.A)(hg:Gl X x)(hm:X.mg x=some (.ref C))(hb:Binds X.K fd ps ds)(hd:Vals dvs ds)(hx:vH CX X E)
  (ha:PA X (e::es) t) (hdb:(x==("__debug__":Str))=false:=by decide) (he:Ev (e::es) X.env=(false,EY e X.env)::Ev es X.env:=by rfl) (hpl:(E7 pos (Ev es X.env)).any (·.1)=false:=by rfl) :
  PE X (.Call (.Name x p) (e::es) [] pos) (PB C sp dvs E t):=by
 intro Dp s σ H Q I h;refine YD (uI I hg hm ?_ hdb);refine Y0 (h₀:=X.base) I.ok.mod.kin M.kp (A3 (ha pos Dp s σ H _ I h) fun us s1 ⟨vs,H1,I1,r,q⟩=>⟨I1.kIn,?_⟩) he hpl;exact NK M F hr hb hd hx I1 r q
end
structure FnScope (N P:Da)(sc:LM):Prop where
 kind:sc.kind=.function
 co:sc.isCoroutine=false
 gen:sc.isGenerator=false
 nd:N.Nodup
 pre:N.take P.length=P
 par:∀x∈P,sc.names.lookup x=some .local\/sc.names.lookup x=some .cell
 nofree:∀y∈sc.names,y.2≠.free
theorem Ca {N P:Da}{sc:LM}(a:sc.kind=.function:=by rfl)(b:sc.isCoroutine=false:=by rfl)(c:sc.isGenerator=false:=by rfl)(d:N.Nodup:=by decide +kernel)(e:N.take P.length=P:=by rfl)(f:∀x∈P,sc.names.lookup x=some .local\/sc.names.lookup x=some .cell:=by decide +kernel)(g:∀y∈sc.names,y.2≠.free:=by decide +kernel):FnScope N P sc:=⟨a,b,c,d,e,f,g⟩
theorem Gf {kindOf:Str->Option LO}{x:Str}:∀{binds:List (Str×Eg)} {m:Str->Dc},(∀v,(x,v)∉binds)->bindL kindOf binds m x=m x
 |[],_,_=>rfl
 |(n,v)::r,m,h=>by
  unfold bindL;rw[Gf fun w hw=>h w (QY _ hw)]
  split
  ·have:x≠n:=by rintro rfl;exact h v Q1
   simp[this]
  ·rfl
theorem Gm {kindOf:Str->Option LO}{x:Str}:∀{binds:List (Str×Eg)} {m:Str->Dc},(∀v,(x,v)∉binds)->bindC kindOf binds m x=m x
 |[],_,_=>rfl
 |(n,v)::r,m,h=>by
  unfold bindC;rw[Gm fun w hw=>h w (QY _ hw)]
  split
  ·rfl
  ·have:x≠n:=by rintro rfl;exact h v Q1
   simp[this]
theorem Ga {kindOf:Str->Option LO}{x:Str}{v:Eg}:∀{P:Da} {vs:Db} {i:Nat} {m:Str->Dc},P.Nodup->P[i]?=some x->vs[i]?=some v->kindOf x=some .local ->
  bindL kindOf (P.zip vs) m x=some v
 |[],_,_,_,_,h,_,_=>by simp at h
 |_::_,[],_,_,_,_,h,_=>by simp at h
 |p::P,w::vs,0,m,nd,h1,h2,hk=>by
  simp at h1 h2;subst h1;subst h2;show bindL kindOf ((p,w)::P.zip vs) m p=_;unfold bindL;rw[Gf fun v hv=>(Z1.mp nd).1 (JG hv).1,Zk hk];simp
 |p::P,w::vs,i+1,m,nd,h1,h2,hk=>by
  show bindL kindOf ((p,w)::P.zip vs) m x=_;unfold bindL;exact Ga (i:=i) (Z1.mp nd).2 (by simpa using h1) (by simpa using h2) hk
theorem Gv {kindOf:Str->Option LO}{x:Str}{v:Eg}:∀{P:Da} {vs:Db} {i:Nat} {m:Str->Dc},P.Nodup->P[i]?=some x->vs[i]?=some v->kindOf x≠some .local ->
  bindC kindOf (P.zip vs) m x=some v
 |[],_,_,_,_,h,_,_=>by simp at h
 |_::_,[],_,_,_,_,h,_=>by simp at h
 |p::P,w::vs,0,m,nd,h1,h2,hk=>by
  simp at h1 h2;subst h1;subst h2;show bindC kindOf ((p,w)::P.zip vs) m p=_;unfold bindC;rw[Gm fun v hv=>(Z1.mp nd).1 (JG hv).1,Zh hk];simp
 |p::P,w::vs,i+1,m,nd,h1,h2,hk=>by
  show bindC kindOf ((p,w)::P.zip vs) m x=_;unfold bindC;exact Gv (i:=i) (Z1.mp nd).2 (by simpa using h1) (by simpa using h2) hk
def start (N:Da)(vs:Dj):St:=vs.map some++LF (N.length-vs.length) none
def G7 (CX:K5)(P:Ei)(w:Eo)(K:AZ)(mg:Str->Dc)(base:EC)(N:Da)(qual:Str)(scope:LM)(f:Eh)(cd:Eg)(A:EF)(outer:List Env)(s:Ej)(H:Hp)(E:XK):Cx where
 prog:=P
 w:=w
 K:=K
 mg:=mg
 base:=base
 A:=A.deeper (envOfC qual scope s.heap.objs.size f cd)
 N:=N
 s₀:=s
 H₀:=H
 env:=envOfC qual scope s.heap.objs.size f cd
 outer:=outer
 stack:=envOfC qual scope s.heap.objs.size f cd::outer
 ex:=[]
 calm:=true
 fn:=fun _=>true
 pn:=[]
 xe:=fun e s'=>Ek (Es P w) (A.deeper (envOfC qual scope s.heap.objs.size f cd)) (leaving (envOfC qual scope s.heap.objs.size f cd) e) (fun _ s''=>CX outer H s E e s'') (fun e' s''=>CX outer H s E e' s'') s'
theorem Cn {sc:LM}{n:Nat}{x:Str}(h:sc.names.lookup x=some .cell):∃c,(cellsFrom n sc.names []).lookup x=some c:=by
 have q:=PySem.W.cellsFrom_some sc.names n [] (.inl h);exact YF.mp q
theorem Ky {CX:K5}{P:Ei}{w:Eo}{K:AZ}{mg:Str->Dc}{base:EC}{N ps:Da}{qual:Str}{scope:LM}{f:Eh}{cd:Eg}{A:EF}{outer:List Env}{s s1:Ej}{H:Hp}{E:XK}{us:Db}{vs:Dj}
  (S:FnScope N ps scope) (hd:A.handled=none) (e0:Env0 P w K mg base A outer s H) (hl:vs.length=ps.length) (r:Vals vs us)
  (x:InCallC s s.heap.objs.size (bindL (envOfC qual scope s.heap.objs.size f cd).kindOf (ps.zip us) fun _=>none) (cellsFrom (s.heap.objs.size+1) scope.names []) (bindC (envOfC qual scope s.heap.objs.size f cd).kindOf (ps.zip us) fun _=>none) s1) :
  Inv (G7 CX P w K mg base N qual scope f cd A outer s H E) [] (start N vs) H s1:=by
 have hpl:ps.length<=N.length:=by have:=congrArg List.length S.pre;rw[Zm]at this;omega
 obtain⟨h1,tk,rfl,hk⟩:=x.done;have noA:∀b:Eh,b∉(G7 CX P w K mg base N qual scope f cd A outer s H E).ex:=fun b z=>absurd (show b∈([]:Dd) from z) (by simp);refine⟨⟨e0.mod,S.kind,rfl,rfl,Q2 _,fun y z c h1 h2=>?_,fun y hy=>?_,fun y c _ h=>?_,fun _=>hd,Around.frames_deeper e0.frames,.inr ⟨rfl,rfl⟩,fun b z=>absurd z (noA b),e0.bs,e0.bsz,fun b _ _=>noA b,fun b z=>absurd z (noA b),e0.funs,e0.frf⟩,rfl,e0.bare,Un.kept hk,⟨_,x.toInCall.ns,fun i y v h1 h2 h3=>?_⟩,fun y c h=>⟨_,x.cell y c h⟩,e0.hok.fresh (Q2 _),fun y c h=>?_,fun p hp=>absurd (show p∈([]:De) from hp) (by simp),e0.hok.kept hk,?_⟩
 ·exact name_of_addr x.apart (Yz h1) (Yz h2)
 ·have hy:scope.names.lookup y=some .cell\/scope.names.lookup y=some .free:=hy
  rcases hy with hy|hy
  ·exact Cn hy
  ·exact absurd rfl (S.nofree _ (Yz hy))
 ·exact Yn (x.above y c (Yz h))
 ·have hi:i<vs.length:=by
   unfold start at h2
   by_cases hi:i<vs.length
   ·exact hi
   ·rw[ZQ (by simpa using hi)]at h2;rw[List.getElem?_replicate]at h2
    split at h2<;>cases h2
  have ha:vs[i]?=some v:=by
   unfold start at h2;rw[ZI (by simpa using hi),Za]at h2;cases e:vs[i]? with
   |none=>rw[e]at h2;cases h2
   |some a=>rw[e]at h2;cases h2;rfl
  obtain⟨u,hu,rv⟩:=r.get ha;have hp:ps[i]?=some y:=by
   rwa[←S.pre,List.getElem?_take_of_lt (by omega)]
  have ndP:ps.Nodup:=by rw[←S.pre];exact S.nd.sublist (List.take_sublist _ _)
  refine⟨u,rv,?_⟩
  rcases S.par y (Zc hp) with k|k
  ·exact .inl ⟨k,Ga ndP hp hu k⟩
  ·obtain⟨c,e⟩:=Cn (n:=s.heap.objs.size+1) k;refine .inr ⟨.inl k,c,e,?_⟩;have q:=x.cell y c e;rw[Gv ndP hp hu (by show scope.names.lookup y≠_;rw[k];decide)]at q;exact q
 ·exact e0.hok.fresh (Yn (x.above y c (Yz h)))
 ·unfold start;show _=N.length;rw[Q4,QU,List.length_replicate];omega
theorem Pj {CX:K5}{P:Ei}{w:Eo}{K:AZ}{mg:Str->Dc}{base:EC}{k:Nat}{f:Eh}{name qual:Str}{params:Arguments}{body:List ER}{scope:LM}{dV kV doc pm cdv ct oc:Eg}{an od:Option Eh}
  {osl:Array Dc} {N ps:Da} {sp:Sp} (lk:K.lookup f=some ⟨oc,od,.func (E1 name qual params body scope dV kV doc pm an cdv ct),osl⟩) (hcd:Lr K cdv qual=true) (S:FnScope N ps scope)
  (len:∀vs H Q E,sp vs H Q E->vs.length=ps.length)
  (D9:∀(A:EF) (outer:List Env) (s:Ej) (H:Hp) (vs:Dj) (Q:VK) (E:XK),Room k (A.deeper (envOfC qual scope s.heap.objs.size f cdv))->sp vs H Q E -> ∃t,PSs (G7 CX P w K mg base N qual scope f cdv A outer s H E) body t/\t { nx:=fun _ H'=>Q .non H',rt:=Q } (start N vs) H) :
  FnOk P w K mg base CX (k+1) f (E1 name qual params body scope dV kV doc pm an cdv ct) ps sp:=by
 refine⟨len,fun A outer s H args us vs Q E hr e0 hb r hsp=>?_⟩;have hl:=len _ _ _ _ hsp;have KX:K.In s.heap:=e0.mod.kin.keeps fun b o e=>(e0.bs b o e).1;have lim:s.heap.NoLimit:=e0.mod.nolimit.keeps fun b o e=>(e0.bs b o e).1;have hkind:∀y∈ps.zip us,scope.names.lookup y.1=some .local\/(scope.names.lookup y.1=some .cell/\((cellsFrom (s.heap.objs.size+1) scope.names []).lookup y.1).isSome=true):=fun⟨n,v⟩ hy=>by
  rcases S.par n (JG hy).1 with q|q
  ·exact .inl q
  ·exact .inr ⟨q,PySem.W.cellsFrom_some _ _ _ (.inl q)⟩
 refine codeAny_call_function hr.depth (KX _ _ lk) rfl S.co S.gen rfl (PySem.W.codeRec_of KX hcd) (hb _ _ _ _ ?_);refine wpAny_newFunctionEnv_cells S.kind hkind fun env he s1 x=>?_;subst he;refine⟨lim.keeps x.toInCall.keep,codeAny_func ?_⟩;obtain⟨t,ht,hq⟩:=D9 A outer s H vs Q E (hr.deeper _) hsp;have I:Inv (G7 CX P w K mg base N qual scope f cdv A outer s H E) [] (start N vs) H s1:=Ky S hr.hd e0 hl r x;refine Yd (ht [] s1 (start N vs) H _ I hq) (fun fl s' hs=>?_) fun e s' hs=>hs;have fin:∀{σ':St} {H':Hp} {v:V} {u:Eg},Inv (G7 CX P w K mg base N qual scope f cdv A outer s H E) [] σ' H' s'->RelV v u->Q v H'->CE outer P w H s Q u s' :=
  fun{σ' H' v u} J rv q=>⟨v,H',J.os,J.bare,J.base,J.hok,rv,q⟩
 cases fl with
 |ret u =>
  obtain⟨v,σ',H',J,rv,q⟩:=hs;exact fin J rv q
 |next =>
  obtain⟨σ',H',J,q⟩:=hs;exact fin (v:=V.non) (u:=EG) J rfl q
 |brk =>
  obtain⟨_,_,_,q⟩:=hs;exact EH q
 |cont =>
  obtain⟨_,_,_,q⟩:=hs;exact EH q
section
variable {X:Cx}{x:Str}{p pos:Pos}{e:EI}{es:List EI}{t:TA}{id T:String}{r:Dj->Hp->VK->Prop}
def TN (r:Dj->Hp->VK->Prop)(t:TA):TE:=fun σ H Q=>t σ H fun vs H1=>r vs H1 Q
theorem zJ (hc:CallR X (.builtin id) r)(hg:Gl X x)(hm:X.mg x=none)(hv:Lx x=some (.builtin id))(ha:PA X (e::es) t)(hn:x≠"__name__":=by decide)(hdb:(x==("__debug__":Str))=false:=by decide)
  (he:Ev (e::es) X.env=(false,EY e X.env)::Ev es X.env:=by rfl) (hpl:(E7 pos (Ev es X.env)).any (·.1)=false:=by rfl):PE X (.Call (.Name x p) (e::es) [] pos) (TN r t):=by
 intro Dp s σ H Q I h;refine YD (vG I hg hm hv ?_ hn hdb);exact J2 (A3 (ha pos Dp s σ H _ I h) fun us s1 ⟨vs,H1,I1,r1,q1⟩=>hc Dp s1 σ H1 vs us Q I1 r1 q1) he hpl
theorem zZ (hc:CallR X (.type T) r)(hg:Gl X x)(hm:X.mg x=none)(hv:Lx x=some (.type T))(ha:PA X (e::es) t)(hn:x≠"__name__":=by decide)(hdb:(x==("__debug__":Str))=false:=by decide)
  (he:Ev (e::es) X.env=(false,EY e X.env)::Ev es X.env:=by rfl) (hpl:(E7 pos (Ev es X.env)).any (·.1)=false:=by rfl):PE X (.Call (.Name x p) (e::es) [] pos) (TN r t):=by
 intro Dp s σ H Q I h;refine YD (vG I hg hm hv ?_ hn hdb);exact YT (A3 (ha pos Dp s σ H _ I h) fun us s1 ⟨vs,H1,I1,r1,q1⟩=>hc Dp s1 σ H1 vs us Q I1 r1 q1) he hpl
end
end L2
namespace HT
open PySem PyProof.Rows
section
variable {prog:Ei}{w:Eo}{A:EF}{E:Eg->Dh}{s:Ej}
def sIx (n d:Nat):Option Int->Nat
 |none=>d
 |some v=>if v<0 then(v+(n:Int)).toNat else min v.toNat n
theorem sIx_none (n d:Nat):sIx n d none=d:=rfl
theorem sIx_nat (n d k:Nat):sIx n d (some (k:Int))=min k n:=by
 show(if(k:Int)<0 then((k:Int)+(n:Int)).toNat else min (k:Int).toNat n)=min k n;rw[Zh (by omega),Int.toNat_natCast]
theorem Ru (n d:Nat)(hd:d<=n)(o:Option Int):sIx n d o<=n:=by
 cases o with
 |none=>exact hd
 |some v =>
  show(if v<0 then(v+(n:Int)).toNat else min v.toNat n)<=n
  by_cases hv:v<0
  ·rw[Zk hv];omega
  ·rw[Zh hv];exact Vv _ _
theorem Hd (v:Int)(n d:Nat):(if v<0 then max (v+(n:Int)) 0 else min v (n:Int))=((sIx n d (some v):Nat):Int):=by
 show(if v<0 then max (v+(n:Int)) 0 else min v (n:Int))=(((if v<0 then(v+(n:Int)).toNat else min v.toNat n):Nat):Int)
 by_cases hv:v<0
 ·simp only[Zk hv];omega
 ·simp only[Zh hv];omega
theorem Fj (lo hi:Option Int)(n:Nat):LL lo hi 1 (n:Int)=(((sIx n 0 lo:Nat):Int),((sIx n n hi:Nat):Int)):=by
 have h1:¬((1:Int)<0):=by omega
 unfold LL;simp only[h1,JD];refine Prod.ext ?_ ?_
 ·cases lo with
  |none=>rfl
  |some v=>exact Hd v n 0
 ·cases hi with
  |none=>rfl
  |some v=>exact Hd v n n
theorem FO (i j:Nat):Li (i:Int) (j:Int) 1=j-i:=by
 unfold Li;have h1:(1:Int)>0:=by omega
 simp only[h1,VJ,Int.ediv_one]
 split<;>omega
theorem X6 {v:Eg}{o:Option Int}{Q:Option Int->Dh}(p:IsPart v o)(h:Q o s):Ek (Es prog w) A (Builtin.Slice.slicePartIndex v) Q E s:=by
 cases p with
 |none=>exact slicePart_none h
 |int i t=>exact slicePart_int h
theorem jC {sl:Eh}{vl vu:Eg}{lo hi:Option Int}{n:Nat}{Q:Int×Int×Nat->Dh}(hs:s.heap.IsSliceOf sl vl vu .none)(pl:IsPart vl lo)(pu:IsPart vu hi)
  (h:Q (((sIx n 0 lo:Nat):Int),1,sIx n n hi-sIx n 0 lo) s):Ek (Es prog w) A (Builtin.Slice.sliceApplied (.ref sl) (Ly (n:Int))) Q E s:=by
 obtain⟨os,hos,hcs,hds⟩:=id hs;unfold Builtin.Slice.sliceApplied Builtin.Slice.sliceFields;refine QW (QW (JJ hos hds (x:=vl) rfl (QW (JJ hos hds (x:=vu) rfl (QW (JJ hos hds (x:=.none) rfl (Q3 ?_)))))));refine QW (slicePart_none ?_);show Ek _ _ (if((1:Int)==0)=true then _ else _) _ _ s;rw[Zh (by decide)];refine QW (X6 pl (QW (X6 pu (QW (Q3 ?_)))));show Ek _ _ (match LL lo hi 1 (n:Int) with|(lo,hi)=>Ly (lo,(1:Int),Li lo hi 1)) _ _ s;rw[Fj lo hi n];show Ek _ _ (Ly (((sIx n 0 lo:Nat):Int),(1:Int),Li ((sIx n 0 lo:Nat):Int) ((sIx n n hi:Nat):Int) 1)) _ _ s;rw[FO];exact Q3 h
theorem Nv (xs:Array Eg)(i k:Nat):((EA k).filterMap fun(m:Nat)=>xs[((i:Int)+(m:Int)*1).toNat]?).toArray=((xs.toList.drop i).take k).toArray:=by
 have e:(fun(m:Nat)=>xs[((i:Int)+(m:Int)*1).toNat]?)=fun m=>xs[i+m]?:=by
  funext m
  have:((i:Int)+(m:Int)*1).toNat=i+m:=by omega
  rw[this]
 rw[e];have:=pick_run xs i k;rw[List.filterMap_map]at this;have e2:((fun x=>xs[x]?)∘fun x=>i+x)=fun m=>xs[i+m]?:=rfl;rw[e2]at this;rw[this]
theorem getItem_tuple_cut {t sl:Eh}{Dn:Array Eg}{vl vu:Eg}{lo hi:Option Int}{Q:Eg->Dh}(ht:IsTup s.heap t Dn)(hs:s.heap.IsSliceOf sl vl vu .none)(pl:IsPart vl lo)(pu:IsPart vu hi)
  (hw:¬(sIx Dn.size 0 lo=0/\sIx Dn.size Dn.size hi=Dn.size))
  (h:Q (.ref s.heap.objs.size) { s with heap:=s.heap.push { cls:=.type "tuple",data:=.seq ((Dn.toList.drop (sIx Dn.size 0 lo)).take (sIx Dn.size Dn.size hi-sIx Dn.size 0 lo)).toArray } })
  (hsz:Dn.size<=sizeLine):Ek (Es prog w) A (Mf (.ref t) (.ref sl)) Q E s:=by
 have htake:sizeOk (.seq ((Dn.toList.drop (sIx Dn.size 0 lo)).take (sIx Dn.size Dn.size hi-sIx Dn.size 0 lo)).toArray):=by
  show((Dn.toList.drop (sIx Dn.size 0 lo)).take (sIx Dn.size Dn.size hi-sIx Dn.size 0 lo)).toArray.size<=sizeLine;rw[Zg,Zm,Z9,ZA];omega
 have hj:sIx Dn.size Dn.size hi<=Dn.size:=Ru _ _ (Q2 _) hi;obtain⟨os,hos,hcs,hds⟩:=id hs;have hTs:s.TypeIs (.ref sl) "slice":=⟨os,hos,hcs⟩;unfold Mf
 try with_reducible refine Yr ?_
 first|refine QW (Q3 ?_)|skip
 refine QW (wpAny_sequenceKey ht.typeIs (by decide) ?_);refine QW (Yu (name:=ES "__getitem__") ht.typeIs YB (Ya YB ht.typeIs entry_tuple_getitem ?_ (args_tuple_getitem _ _)))
 show Ek _ _ (LH (.ref t)>>=_) _ _ s;refine QW (tupleItemsOf_ ht ?_);refine QW (Vi hTs ?_);rw[Zk (by decide)];refine QW (jC hs pl pu ?_);have hno:¬((((sIx Dn.size 0 lo:Nat):Int)==0&&(1:Int)==1&&(sIx Dn.size Dn.size hi-sIx Dn.size 0 lo)==Dn.size)=true):=by
  intro q;rw[Q8,Q8]at q;have q1:((sIx Dn.size 0 lo:Nat):Int)=0:=Vw q.1.1;have q2:sIx Dn.size Dn.size hi-sIx Dn.size 0 lo=Dn.size:=Vw q.2;exact hw ⟨by omega,by omega⟩
 show Ek _ _ (if(((sIx Dn.size 0 lo:Nat):Int)==0&&(1:Int)==1&&(sIx Dn.size Dn.size hi-sIx Dn.size 0 lo)==Dn.size)=true then _ else _) _ _ s;rw[Zh hno,Nv]
 first
  |exact QW (m:=Lp _) (ZR (Q3 ⟨_,rfl,Q3 h⟩) htake)
  |exact QW (m:=Lp _) (ZR (QW (Q3 (Q3 ⟨_,rfl,Q3 h⟩))) htake)
  |exact QW (QW (m:=Lp _) (ZR (Q3 (Q3 ⟨_,rfl,Q3 h⟩)) htake))
  |exact QW (QW (m:=Lp _) (ZR (Q3 ⟨_,rfl,Q3 h⟩) htake))
end
end HT
namespace L2
open PySem PySem.Spec PyProof.Rows
abbrev TO:=St->Hp->(Option Int->Hp->Prop)->Prop
def PO (X:Cx)(e:Option EI)(t:TO):Prop :=
 ∀(Dp:De) (s:Ej) (σ:St) (H:Hp) (Q:Option Int->Hp->Prop),Inv X Dp σ H s->t σ H Q ->
  Ek (Es X.prog X.w) X.A (evalPart e X.env) (fun u s'=>∃o H',Inv X Dp σ H' s'/\IsPart u o/\Q o H') X.xe s
def O9:TO:=fun _ H Q=>Q none H
def SD (t:TE):TO:=fun σ H Q=>t σ H fun x H1=>∃i,x=.int i/\Q (some i) H1
section
variable {X:Cx}{e:EI}{te:TE}{lo hi:Option EI}{tl th:TO}{pos p2:Pos}
theorem j6:PO X none O9:=by
 intro Dp s σ H Q I h;rw[evalPart_none];exact Q3 ⟨none,H,I,.none,h⟩
theorem yZ (h:PE X e te):PO X (some e) (SD te):=by
 intro Dp s σ H Q I hw;rw[evalPart_some];refine A3 (h Dp s σ H _ I hw) fun u s1 ⟨x,H1,I1,r1,q1⟩=>?_;obtain⟨i,rfl,q⟩:=q1;obtain⟨t,rfl⟩:=r1;exact⟨some i,H1,I1,.int i t,q⟩
def Hc (X:Cx)(r:V->Option Int->Option Int->Hp->VK->Prop):Prop :=
 ∀(Dp:De) (s:Ej) (σ:St) (H:Hp) (x:V) (v vl vu:Eg) (lo hi:Option Int) (sl:Eh) (Q:VK),Inv X Dp σ H s->RelV x v->s.heap.IsSliceOf sl vl vu .none->IsPart vl lo->IsPart vu hi->r x lo hi H Q ->
  ∃T id,typeLookup (.type T) "__getitem__"=Ly (some (.builtin id))/\s.TypeIs v T/\Ek (Es X.prog X.w) X.A (Mf v (.ref sl)) (EP X Dp σ Q) X.xe s
def tSl (r:V->Option Int->Option Int->Hp->VK->Prop)(te:TE)(tl th:TO):TE:=fun σ H Q=>te σ H fun x H1=>tl σ H1 fun l H2=>th σ H2 fun u H3=>r x l u H3 Q
theorem xF (hr:Hc X r)(he:PE X e te)(hl:PO X lo tl)(hu:PO X hi th):PE X (.Subscript e (.Slice lo hi none p2) pos) (tSl r te tl th):=by
 intro Dp s σ H Q I h;refine Subscript_ (A3 (he Dp s σ H _ I h) fun v s1 ⟨x,H1,I1,r1,q1⟩=>?_);refine wpAny_Slice (A3 (hl Dp s1 σ H1 _ I1 q1) fun vl s2 ⟨l,H2,I2,pl,q2⟩=>A3 (hu Dp s2 σ H2 _ I2 q2) fun vu s3 ⟨u,H3,I3,pu,q3⟩=>?_);rw[evalPart_none];refine Q3 ?_;have I4:Inv X Dp σ H3 { s3 with heap:=s3.heap.push { cls:=.type "slice",data:=.fields #[vl,vu,.none] } }:=I3.kept (t':=s3.toks) fun b ob q=>Q0 _ q;obtain⟨T,id,hT,ht,hg⟩:=hr Dp { s3 with heap:=s3.heap.push { cls:=.type "slice",data:=.fields #[vl,vu,.none] } } σ H3 x v vl vu l u s3.heap.objs.size Q I4 r1 (Heap.IsSliceOf.new ..) pl pu q3;show Ek (Es X.prog X.w) X.A (subscriptTail e (.Slice lo hi none p2) v (.ref s3.heap.objs.size)) (EP X Dp σ Q) X.xe { s3 with heap:=s3.heap.push { cls:=.type "slice",data:=.fields #[vl,vu,.none] } };exact tail_any (ops:=[.ref s3.heap.objs.size,v]) ht hT hg (by with_unfolding_all rfl)
def V9 (xs:Dj)(lo hi:Option Int):Dj:=(xs.drop (HT.sIx xs.length 0 lo)).take (HT.sIx xs.length xs.length hi-HT.sIx xs.length 0 lo)
theorem UV (xs:Dj)(lo hi:Option Int):(V9 xs lo hi).length<=xs.length:=by
 unfold V9;rw[Zm,Z9];omega
end
def N6 (n:Nat)(i:Int):Option Nat:=if 0<=i then(if i<n then some i.toNat else none) else if -(n:Int)<=i then some (i+n).toNat else none
def Cg {α:Type}(xs:List α)(i:Int):Option α:=(N6 xs.length i).bind fun j=>xs[j]?
theorem Ot {j:Nat}(h:N6 n i=some j):seqIndex? i n=some j/\j<n/\-(n:Int)<=i/\i<n:=by
 unfold N6 at h
 by_cases h0:0<=i
 ·rw[Zk h0]at h
  by_cases h1:i<n
  ·rw[Zk h1]at h;have e:i.toNat=j:=Option.some.inj h;exact⟨by rw[seqIndex_of h0 h1,e],by omega,by omega,h1⟩
  ·rw[Zh h1]at h;cases h
 ·rw[Zh h0]at h
  by_cases h1:-(n:Int)<=i
  ·rw[Zk h1]at h;have e:(i+n).toNat=j:=Option.some.inj h;exact⟨by rw[seqIndex_neg (by omega) h1,e],by omega,h1,by omega⟩
  ·rw[Zh h1]at h;cases h
theorem Bt {α:Type}{xs:List α}{v:α}(h:Cg xs i=some v):∃j,seqIndex? i xs.length=some j/\xs[j]?=some v/\j<xs.length/\-(xs.length:Int)<=i/\i<xs.length:=by
 unfold Cg at h;cases e:N6 xs.length i with
 |none=>rw[e]at h;cases h
 |some j =>
  rw[e]at h;obtain⟨h1,h2,h3,h4⟩:=Ot e;exact⟨j,h1,h,h2,h3,h4⟩
theorem xQ {α:Type}{xs:List α}{j:Nat}{v:α}(h:xs[j]?=some v):Cg xs (j:Int)=some v:=by
 have hj:j<xs.length:=(Zl.mp h).1;have e:N6 xs.length (j:Int)=some j:=by
  unfold N6;rw[Zk (by omega),Zk (by omega)];simp
 unfold Cg;rwa[e]
def Ob (b:EI):Prop:=∀o i,subscripted b false o i=operate [o,i] (Mf o i)
def A7 (X:Cx)(r:R2):Prop :=
 ∀(value slice:EI) (Dp:De) (s:Ej) (σ:St) (H:Hp) (x y:V) (v u:Eg) (Q:VK),Inv X Dp σ H s->RelV x v->RelV y u->r x y H Q ->
  subscripted slice false v u=operate [v,u] (Mf v u)->Ek (Es X.prog X.w) X.A (subscriptTail value slice v u) (EP X Dp σ Q) X.xe s
def N9 (X:Cx)(id:String)(r:V->Dj->Hp->VK->Prop):Prop :=
 ∀(Dp:De) (s:Ej) (σ:St) (H:Hp) (x:V) (xs:Dj) (v:Eg) (us:Db) (Q:VK),Inv X Dp σ H s->RelV x v->Vals xs us->r x xs H Q ->
  Ek (Es X.prog X.w) X.A (call (.builtin id) (v::us)) (EP X Dp σ Q) X.xe s
section
variable {X:Cx}{a b:EI}{ta tb:TE}{pos:Pos}
theorem z7 (hr:A7 X r)(ha:PE X a ta)(hb:PE X b tb)(hs:Ob b):PE X (.Subscript a b pos) (SM r ta tb):=by
 intro Dp s σ H Q I h;exact Subscript_ (PV ha hb I h fun v u s2 x y H2 I2 rx ry q=>hr a b Dp s2 σ H2 x y v u Q I2 rx ry q (hs _ _))
def Xa (K:AZ):R2:=fun x y H Q=>∃p xs i v,x=.ref p/\y=.int i/\SqL K H p xs/\Cg xs i=some v/\Q v H
def VR (K:AZ):R2:=fun x y H Q=>∃p xs i v,x=.ref p/\y=.int i/\SqT K H p xs/\Cg xs i=some v/\Q v H
def Tl:R2:=fun x y H Q=>∃z i c,x=.str z/\y=.int i/\z.length<=sizeLine/\Cg z.cps.toList i=some c/\Q (.str ⟨#[c]⟩) H
theorem ix_list:A7 X (Xa X.K):=by
 intro value slice Dp s σ H x y v u Q I rx ry h hs;obtain⟨p,xs,i,z,rfl,rfl,hq,he,q⟩:=h;cases rx;obtain⟨t,rfl⟩:=ry;obtain⟨its,r,pl,hz⟩:=I.list hq;obtain⟨j,h1,h2,h3,h4,h5⟩:=Bt he;obtain⟨w,ew,rw'⟩:=r.get h2;have hl:=r.length;have hn:=UB;have fin:EP X Dp σ Q w s:=⟨z,H,I,rw',q⟩
 by_cases h0:0<=i
 ·have hj:i.toNat=j:=by
   rw[seqIndex_of h0 h5]at h1;exact Option.some.inj h1
  exact item_listR pl.isList h0 (by omega) (by rw[hj];simpa using ew) fin hs
 ·have hj:(i+(its.toArray.size:Int)).toNat=j:=by
   rw[seqIndex_neg (by omega) h4]at h1;rw[Zg,←hl];exact Option.some.inj h1
  exact subscriptTail_builtinR (x:=w) pl.isList.typeIs slot_list_getitem.lookup
   (wpAny_getItem_list_neg (Q:=fun r s'=>r=w/\EP X Dp σ Q r s') pl.isList (by omega) (by rw[Zg]<;>omega) (by omega) (by rw[hj];simpa using ew) ⟨rfl,fin⟩) hs
theorem ix_tup:A7 X (VR X.K):=by
 intro value slice Dp s σ H x y v u Q I rx ry h hs;obtain⟨p,xs,i,z,rfl,rfl,hq,he,q⟩:=h;cases rx;obtain⟨t,rfl⟩:=ry;obtain⟨its,r,pl,hz⟩:=I.tuple hq;obtain⟨j,h1,h2,h3,h4,h5⟩:=Bt he;obtain⟨w,ew,rw'⟩:=r.get h2;have hl:=r.length;have hn:=UB;have fin:EP X Dp σ Q w s:=⟨z,H,I,rw',q⟩;exact subscriptTail_builtinR (x:=w) pl.typeIs slot_tuple_getitem.lookup
  (getItem_tuple (j:=j) (Q:=fun r s'=>r=w/\EP X Dp σ Q r s') pl (by omega) (by omega) (by rwa[Zg,←hl]) (by simpa using ew) ⟨rfl,fin⟩) hs
theorem Fz:A7 X Tl:=by
 intro value slice Dp s σ H x y v u Q I rx ry h hs;obtain⟨z,i,c,rfl,rfl,hz,he,q⟩:=h;obtain⟨t,rfl⟩:=rx;obtain⟨t',rfl⟩:=ry;obtain⟨j,h1,h2,h3,h4,h5⟩:=Bt he;have hl:z.cps.toList.length=z.length:=by simp[Str.length]
 rw[hl]at h1 h4 h5;have hn:=UB;exact tail_any (J3 s z t) slot_str_getitem.lookup (getItem_str (c:=c) (by
  have e1:decide (i < -(2 ^ 63:Int))=false:=Q9 (by omega);have e2:decide (i≥2 ^ 63)=false:=Q9 (by omega);rw[e1,e2,Bool.or_false]) (by rw[h1];simpa using h2) ⟨.str ⟨#[c]⟩,H,I.tok _,⟨_,rfl⟩,q⟩) hs
theorem Br (lo hi:Option Int)(n:Nat):(LW lo hi none n).1=((HT.sIx n 0 lo:Nat):Int)/\(LW lo hi none n).2.1=((HT.sIx n n hi:Nat):Int)/\(LW lo hi none n).2.2=1:=by
 refine⟨?_,?_,rfl⟩
 ·cases lo with
  |none=>simp[LW,HT.sIx]
  |some i =>
   simp only[LW,HT.sIx,Option.getD_none,show(1:Int)>0 by decide,VJ]
   by_cases h:i<0
   ·simp only[h,VJ]<;>omega
   ·simp only[h,JD]<;>omega
 ·cases hi with
  |none=>simp[LW,HT.sIx]
  |some i =>
   simp only[LW,HT.sIx,Option.getD_none,show(1:Int)>0 by decide,VJ]
   by_cases h:i<0
   ·simp only[h,VJ]<;>omega
   ·simp only[h,JD]<;>omega
theorem IB (its:Db)(lo hi:Option Int):slicePick its.toArray lo hi none=((its.drop (HT.sIx its.length 0 lo)).take (HT.sIx its.length its.length hi-HT.sIx its.length 0 lo)).toArray:=by
 obtain⟨h1,h2,h3⟩:=Br lo hi its.toArray.size;unfold slicePick;rw[h1,h2,h3];simp only[sliceRange_one,pick_run,Zg]<;>rfl
def Ig (K:AZ):V->Option Int->Option Int->Hp->VK->Prop:=fun x lo hi H Q=>∃a xs,x=.ref a/\SqL K H a xs/\∀p,H p=none->Q (.ref p) (upd H p (.lst (V9 xs lo hi)))
theorem sl_list:Hc X (Ig X.K):=by
 intro Dp s σ H x v vl vu lo hi sl Q I rx hs pl pu h;obtain⟨a,xs,rfl,hx,q⟩:=h;cases rx;obtain⟨its,r,ht,hz⟩:=I.list hx;have Dq:=r.length;refine⟨"list",_,slot_list_getitem.lookup,ht.isList.typeIs,?_⟩;refine wpAny_getItem_list_slice ht.isList hs pl pu .none (by simp) ?_ (by rw[Zg]<;>omega);rw[IB,←Dq];refine⟨.ref s.heap.objs.size,_,I.laid (t':=s.toks) (o:=.lst (V9 xs lo hi)) (fun b ob q=>Q0 _ q) (Q2 _) ?_,rfl,q _ (I.hok.fresh (Q2 _))⟩;exact⟨ZD (UV xs lo hi) hz,_,0,(r.drop (HT.sIx xs.length 0 lo)).take (HT.sIx xs.length xs.length hi-HT.sIx xs.length 0 lo),Ze _ rfl⟩
theorem zN:CallR X (.builtin "len") (fun xs H Q=>∃p ys,xs=[.ref p]/\(SqL X.K H p ys\/SqT X.K H p ys)/\Q (.int ys.length) H):=by
 intro Dp s σ H xs us Q I r h;obtain⟨p,ys,rfl,hq,q⟩:=h;obtain⟨u,rfl,rx⟩:=vals1 r;cases rx;have hn:=UB
 rcases hq with hq|hq
 ·obtain⟨its,r',pl,hz⟩:=I.list hq;have Dq:=r'.length;exact Calls.call_len_list pl.isList (by simp only[Zg]<;>omega) ⟨.int ys.length,H,I.tok _,⟨s.toks+1,by rw[Zg,Dq]⟩,q⟩
 ·obtain⟨its,r',pl,hz⟩:=I.tuple hq;have Dq:=r'.length;exact len_tuple pl (by simp only[Zg]<;>omega) ⟨.int ys.length,H,I.tok _,⟨s.toks+1,by rw[Zg,Dq]⟩,q⟩
theorem jH:CallR X (.builtin "len") (fun xs H Q=>∃z,xs=[.str z]/\z.length<=sizeLine/\Q (.int z.length) H):=by
 intro Dp s σ H xs us Q I r h;obtain⟨z,rfl,hz,q⟩:=h;obtain⟨u,rfl,t,rfl⟩:=vals1 r;have hn:=UB;exact len_str (by omega) ⟨.int z.length,H,I.tok _,⟨_,rfl⟩,q⟩
theorem CallR.or (h:CallR X f r)(h':CallR X f r'):CallR X f (fun xs H Q=>r xs H Q\/r' xs H Q):=by
 intro Dp s σ H xs us Q I rs q
 rcases q with q|q
 ·exact h Dp s σ H xs us Q I rs q
 ·exact h' Dp s σ H xs us Q I rs q
theorem yP:CallR X (.type "list") (fun xs H Q=>∃p ys,xs=[.ref p]/\(SqL X.K H p ys\/SqT X.K H p ys)/\∀l,H l=none->Q (.ref l) (upd H l (.lst ys))):=by
 intro Dp s σ H xs us Q I r h;obtain⟨p,ys,rfl,hq,q⟩:=h;obtain⟨u,rfl,rx⟩:=vals1 r;cases rx;have fin:∀(its:Db),Vals ys its->ys.length<=sizeLine->∀(h':EC) (c':Nat),(∀b o',s.heap.get? b=some o'->h'.get? b=some o') ->
   h'.get? s.heap.objs.size=some { cls:=.type "list",dict:=none,data:=.seq its.toArray c',slots:=#[] }->EP X Dp σ Q (.ref s.heap.objs.size) { s with heap:=h' }:=fun its r' hz h' c' kp e =>
  ⟨.ref s.heap.objs.size,_,I.laid (t':=s.toks) kp (Q2 _) (show ObjOk X.prog X.w _ h' _ (.lst ys) from⟨hz,its,c',r',e⟩),rfl,q _ (I.hok.fresh (Q2 _))⟩
 rcases hq with hq|hq
 ·obtain⟨its,r',pl,hz⟩:=I.list hq;have Dq:=r'.length;obtain⟨o,ho,hc,n,hd⟩:=pl.isList;exact call_list_seq p (.inl rfl) ho hc hd (fun h' c' kp e=>fin its r' hz h' c' kp e) (by simp only[Zg]<;>omega)
 ·obtain⟨its,r',pl,hz⟩:=I.tuple hq;have Dq:=r'.length;obtain⟨o,ho,hc,n,hd⟩:=pl;exact call_list_seq p (.inr rfl) ho hc hd (fun h' c' kp e=>fin its r' hz h' c' kp e) (by simp only[Zg]<;>omega)
theorem xT:CallR X (.type "tuple") (fun xs H Q=>∃p ys,xs=[.ref p]/\((SqL X.K H p ys/\∀l,H l=none->Q (.ref l) (upd H l (.tup ys)))\/(SqT X.K H p ys/\Q (.ref p) H))):=by
 intro Dp s σ H xs us Q I r h;obtain⟨p,ys,rfl,h⟩:=h;obtain⟨u,rfl,rx⟩:=vals1 r;cases rx
 rcases h with⟨hq,q⟩|⟨hq,q⟩
 ·obtain⟨its,r',pl,hz⟩:=I.list hq;have Dq:=r'.length;refine call_tuple_list pl.isList (fun h' kp=>?_) (by simp only[Zg]<;>omega);have I1:Inv X Dp σ H { s with heap:=h' }:=I.kept (t':=s.toks) kp;have I2:Inv X Dp σ (upd H h'.objs.size (.tup ys)) { s with heap:=h'.push { cls:=.type "tuple",data:=.seq its.toArray } } :=
   I1.laid (t':=s.toks) (fun b o e=>Q0 _ e) (Q2 _) (show ObjOk X.prog X.w _ _ _ (.tup ys) from⟨hz,its,r',TupAt.new _ _⟩)
  exact⟨.ref h'.objs.size,_,I2,rfl,q _ (I1.hok.fresh (Q2 _))⟩
 ·obtain⟨its,r',pl,hz⟩:=I.tuple hq;exact call_tuple_same pl ⟨.ref p,H,I,rfl,q⟩
def TK (K:AZ)(T:String)(x:V)(H:Hp):Prop:=match x with
 | .str _=>T="str"
 | .int _=>T="int"
 | .ref p=>(T="list"/\∃xs,SqL K H p xs)\/(T="tuple"/\∃o,K.lookup p=some o/\o.cls=.type "tuple"/\o.dict=none) \/
   (T="dict"/\((∃Dm,H p=some (.dK Dm))\/∃Dm,H p=some (.dT Dm)))\/(T="set"/\∃S n,H p=some (.set S n))
 |_=>False
theorem N1 (I:Inv X Dp σ H s)(r:RelV x v)(ty:TK X.K T x H) :
  s.TypeIs v T/\∀a,v=.ref a->∃ob,s.heap.get? a=some ob/\ob.dict=none:=by
 cases x with
 |str z =>
  obtain⟨t,rfl⟩:=r;cases(show T="str" from ty);exact⟨J3 s z t,fun _ e=>nomatch e⟩
 |int i =>
  obtain⟨t,rfl⟩:=r;cases(show T="int" from ty);exact⟨typeIs_int s i t,fun _ e=>nomatch e⟩
 |ref p =>
  cases r
  rcases ty with⟨rfl,xs,hq⟩|⟨rfl,o,hk,hc,hd⟩|⟨rfl,hk⟩|⟨rfl,S,n,hk⟩
  ·obtain⟨its,_,pl,_⟩:=I.list hq;refine⟨pl.isList.typeIs,fun a e=>?_⟩;cases e;obtain⟨o,n,e,c,hd,_⟩:=pl;exact⟨o,e,hd⟩
  ·refine⟨⟨o,I.kIn p o hk,hc⟩,fun a e=>?_⟩;cases e;exact⟨o,I.kIn _ o hk,hd⟩
  ·have z:∃o,s.heap.get? p=some o/\o.ExactDict:=by
    rcases hk with⟨Dm,hk⟩|⟨Dm,hk⟩
    ·obtain⟨_,_,_,_,o,_,_,e,ex,_⟩:=I.hok p _ hk;exact⟨o,e,ex⟩
    ·obtain⟨_,_,_,_,o,_,_,e,ex,_⟩:=I.hok p _ hk;exact⟨o,e,ex⟩
   obtain⟨o,e,ex⟩:=z;refine⟨⟨o,e,ex.1⟩,fun a e2=>?_⟩;cases e2;exact⟨o,e,ex.2.1⟩
  ·obtain⟨o,_,_,_,e,ex,_⟩:=I.hok p _ hk;refine⟨⟨o,e,ex.1⟩,fun a e2=>?_⟩;cases e2;exact⟨o,e,ex.2.1⟩
 |_=>exact EH ty
def Ts (K:AZ)(T:String)(r:V->Dj->Hp->VK->Prop)(to:TE):TE:=fun σ H Q=>to σ H fun x H1=>TK K T x H1/\r x [] H1 Q
def TM (K:AZ)(T:String)(r:V->Dj->Hp->VK->Prop)(to:TE)(t:TA):TE:=fun σ H Q=>to σ H fun x H1=>TK K T x H1/\t σ H1 fun xs H2=>r x xs H2 Q
variable {o e:EI}{es:List EI}{to:TE}{t:TA}{name:Str}{Dr Ds:Pos}{T id:String}{r:V->Dj->Hp->VK->Prop}
theorem No (pa:PlainAttrs T)(slot:Slot T name id)(hty:typeOf (.builtin id)=Ly (.type "method_descriptor"))(hm:N9 X id r)(ho:PE X o to)
  (DO:Lo o name X.env (EY o X.env)=EY o X.env:=by rfl) (DI:(Dr.endLine==Ds.line)=true:=by rfl):PE X (.Call (.Attribute o name Dr) [] [] Ds) (Ts X.K T r to):=by
 intro Dp s σ H Q I h;refine JK DO DI (A3 (ho Dp s σ H _ I h) fun v s1 ⟨x,H1,I1,r1,ty,q1⟩=>?_);obtain⟨h1,h2⟩:=N1 I1 r1 ty;exact⟨T,id,pa,slot,hty,h1,h2,Lf rfl (Vg (hm Dp s1 σ H1 x [] v [] Q I1 r1 .nil q1))⟩
theorem jY (pa:PlainAttrs T)(slot:Slot T name id)(hty:typeOf (.builtin id)=Ly (.type "method_descriptor"))(hm:N9 X id r)(ho:PE X o to)(ha:PA X (e::es) t)
  (DO:Lo o name X.env (EY o X.env)=EY o X.env:=by rfl)
  (hfew:((E7 Ds (Ev (e::es) X.env)).all (fun x=>!x.1)&&(Mj Ds (LG [] X.env)).all (fun x=>x.1.isSome) && decide ((e::es).length+([]:List Keyword).length+(if([]:List Keyword).isEmpty then 0 else 1)<30))=true:=by rfl)
  (DI:(Dr.endLine==Ds.line)=true:=by rfl) (hs:Ev (e::es) X.env=(false,EY e X.env)::Ev es X.env:=by rfl) (DY:(E7 Ds (Ev es X.env)).any (·.1)=false:=by rfl) :
  PE X (.Call (.Attribute o name Dr) (e::es) [] Ds) (TM X.K T r to t):=by
 intro Dp s σ H Q I h;refine wpAny_Call_method_late DO hfew DI rfl (A3 (ho Dp s σ H _ I h) fun v s1 ⟨x,H1,I1,r1,ty,q1⟩=>?_);obtain⟨h1,h2⟩:=N1 I1 r1 ty;refine⟨T,id,pa,slot,hty,h1,h2,?_⟩;have hA:=ha Ds Dp s1 σ H1 _ I1 q1;rw[hs]at hA ⊢;refine Lf (by show(false||(E7 Ds (Ev es X.env)).any (·.1))=false;rw[DY]<;>rfl) (Calls.evalArgs_plain ?_);exact A3 hA fun us s2 ⟨vs,H2,I2,r2,q2⟩=>hm Dp s2 σ H2 x vs v us Q I2 r1 r2 q2
end
def RT (X:Cx)(id:String)(r:V->Dj->Hp->VK->Prop):Prop :=
 ∀(Dp:De) (s:Ej) (σ:St) (H:Hp) (x:V) (xs:Dj) (v:Eg) (us:Db) (Q:VK),Inv X Dp σ H s->RelV x v->Vals xs us->r x xs H Q ->
  Ek (Es X.prog X.w) X.A (call (.builtin id) (v::us)) (EP X Dp σ Q) X.xe s
theorem Vals.one:∀{x:V} {us:Db},Vals [x] us->∃u,us=[u]/\RelV x u
 |_,_,.cons r .nil=>⟨_,rfl,r⟩
theorem Vals.zero:∀{us:Db},Vals [] us->us=[]
 |_,.nil=>rfl
theorem Vals.dropLast (h:Vals xs us):Vals xs.dropLast us.dropLast:=by
 induction h with
 |nil=>exact .nil
 |cons r t ih =>
  cases t with
  |nil=>exact .nil
  |cons q t'=>exact .cons r ih
theorem Fs {α:Type}(l:List α):l.eraseIdx (l.length-1)=l.dropLast:=by
 induction l with
 |nil=>rfl
 |cons a r ih =>
  cases r with
  |nil=>rfl
  |cons b r =>
   have e:(a::b::r).length-1=((b::r).length-1)+1:=by
    have h1:(a::b::r).length=r.length+2:=rfl;have h2:(b::r).length=r.length+1:=rfl;omega
   rw[e,List.eraseIdx_cons_succ,ih]
   all_goals rfl
section
variable {X:Cx}{Dp:De}{σ:St}{H:Hp}{s:Ej}{l b:Eh}{xs ys zs:Dj}
theorem Inv.lset {its DU:Db}{n:Nat}{f:Array Eg->Array Eg}{t':Nat}(I:Inv X Dp σ H s)(hH:H l=some (.lst xs))
  (e:s.heap.get? l=some { cls:=.type "list",data:=.seq its.toArray n }) (hf:f its.toArray=DU.toArray) (hv:Vals ys DU) (hz:ys.length<=sizeLine) :
  Inv X Dp σ (upd H l (.lst ys)) { s with heap:=s.heap.update l (E4 f),toks:=t' }:=by
 have q:=PySem.IsL.update e f;rw[hf]at q;refine I.write (x:=l) (e:=l) (by rw[hH];exact trivial) (.inl rfl) (fun b' u hb hu=>(Ym s.heap (E4 f) (ED hb)).trans hu) ⟨_,q⟩ ?_;exact⟨hz,DU,_,hv,q⟩
theorem Inv.lnew {t':Nat}(I:Inv X Dp σ H s)(hv:Vals ys its)(hz:ys.length<=sizeLine) :
  Inv X Dp σ (upd H s.heap.objs.size (.lst ys)) { s with heap:=s.heap.push { cls:=.type "list",data:=.seq its.toArray },toks:=t' } :=
 I.laid (fun _ _ q=>Q0 _ q) (Q2 _) ⟨hz,its,0,hv,Ze _ rfl⟩
theorem Inv.fresh (I:Inv X Dp σ H s):H s.heap.objs.size=none:=I.hok.fresh (Q2 _)
theorem Inv.lstM (I:Inv X Dp σ H s)(hH:H l=some (.lst xs)):xs.length<=sizeLine/\∃(its:Db) (n:Nat),Vals xs its/\xs.length=its.length/\s.heap.get? l=some { cls:=.type "list",data:=.seq its.toArray n }:=by
 obtain⟨z,its,n,r,e⟩:=I.hok l _ hH;exact⟨z,its,n,r,r.length,e⟩
theorem Ni {n:Nat}(h:n<=sizeLine):LP n=false:=by
 unfold LP;exact Q9 (by omega)
end
section
variable {X:Cx}
def OZ:V->Dj->Hp->VK->Prop:=fun x vs H Q=>∃l xs y,x=.ref l/\vs=[y]/\H l=some (.lst xs)/\xs.length<sizeLine/\Q .non (upd H l (.lst (xs++[y])))
theorem x8:RT X "list.append" OZ:=by
 intro Dp s σ H x vs v us Q I rx rv h;obtain⟨l,xs,y,rfl,rfl,hH,hz,q⟩:=h;cases rx;obtain⟨u,rfl,ru⟩:=rv.one;obtain⟨z,its,n,r,hl,e⟩:=I.lstM hH;refine Jo F.slot_list_append ⟨_,e,rfl⟩ F.entry_list_append (F.args_list_append_2 _ _) (PySem.list_append l its.toArray n u (by rw[Zg];omega)) ⟨e,?_⟩;refine⟨.non,_,I.lset (DU:=its++[u]) hH e (by simp) (r.append (.cons ru .nil)) ?_,rfl,q⟩;rw[Q4,ZN];omega
def O0:V->Dj->Hp->VK->Prop:=fun x vs H Q=>∃l b xs zs,x=.ref l/\vs=[.ref b]/\H l=some (.lst xs)/\H b=some (.lst zs)/\xs.length+zs.length<=sizeLine/\Q .non (upd H l (.lst (xs++zs)))
theorem KM:RT X "list.extend" O0:=by
 intro Dp s σ H x vs v us Q I rx rv h;obtain⟨l,b,xs,zs,rfl,rfl,hH,hB,hz,q⟩:=h;cases rx;obtain⟨u,rfl,ru⟩:=rv.one;cases ru;obtain⟨z,its,n,r,hl,e⟩:=I.lstM hH;obtain⟨z2,its2,n2,r2,hl2,e2⟩:=I.lstM hB;have hsz:its.toArray.size+its2.toArray.size<=sizeLine:=by rw[Zg,Zg];omega
 have hlong:¬(!its.toArray.isEmpty&&LP (its.toArray.size+its2.toArray.size))=true:=by
  rw[Ni hsz,Jh];exact Zw
 refine Jo F.slot_list_extend ⟨_,e,rfl⟩ F.entry_list_extend (F.args_list_extend_2 _ _)
  (AutoSeq1.list_extend_list_list_0 l its.toArray n b its2.toArray n2 hlong (by rw[Zg];omega) (by omega)) ⟨e,e2,?_⟩
 refine⟨.non,_,I.lset (DU:=its++its2) hH e (by simp) (r.append r2) ?_,rfl,q⟩;rw[Q4];omega
def Tn:V->Dj->Hp->VK->Prop:=fun x vs H Q=>∃l xs y,x=.ref l/\vs=[]/\H l=some (.lst xs)/\xs[xs.length-1]?=some y/\Q y (upd H l (.lst xs.dropLast))
theorem Ra:RT X "list.pop" Tn:=by
 intro Dp s σ H x vs v us Q I rx rv h;obtain⟨l,xs,y,rfl,rfl,hH,hy,q⟩:=h;cases rx;have hus:=rv.zero;subst hus;obtain⟨z,its,n,r,hl,e⟩:=I.lstM hH;obtain⟨u,hu,ru⟩:=r.get hy;have hy':its.toArray[its.toArray.size-1]?=some u:=by
  show its.toArray[its.length-1]?=some u;rwa[←Yh,←hl]
 refine Jo F.slot_list_pop ⟨_,e,rfl⟩ F.entry_list_pop (F.args_list_pop_1 _) (MeetsSeq.list_pop_last l its.toArray n u hy' (by rw[Zg];omega)) ⟨e,?_⟩;refine⟨y,_,I.lset (DU:=its.dropLast) hH e ?_ r.dropLast ?_,ru,q⟩
 ·show its.toArray.eraseIdxIfInBounds (its.toArray.size-1)=its.dropLast.toArray;rw[Zg,List.eraseIdxIfInBounds_toArray,Fs]
 ·rw[List.length_dropLast];omega
def Ro:V->Dj->Hp->VK->Prop:=fun x vs H Q=>∃l xs,x=.ref l/\vs=[]/\H l=some (.lst xs)/\Q .non (upd H l (.lst []))
theorem Nc:RT X "list.clear" Ro:=by
 intro Dp s σ H x vs v us Q I rx rv h;obtain⟨l,xs,rfl,rfl,hH,q⟩:=h;cases rx;have hus:=rv.zero;subst hus;obtain⟨z,its,n,r,hl,e⟩:=I.lstM hH;refine Jo F.slot_list_clear ⟨_,e,rfl⟩ F.entry_list_clear (F.args_list_clear_1 _) (AutoSeq1.list_clear_list_0 l its.toArray n (by rw[Zg];omega)) ⟨e,?_⟩;exact⟨.non,_,I.lset (DU:=[]) (ys:=[]) hH e rfl .nil (Zz _),rfl,q⟩
def Tg:R2:=fun x y H Q=>∃l b xs zs,x=.ref l/\y=.ref b/\H l=some (.lst xs)/\H b=some (.lst zs)/\xs.length+zs.length<=sizeLine/\∀p,H p=none->Q (.ref p) (upd H p (.lst (xs++zs)))
theorem uS:Ce X (binaryOp .Add) Tg:=by
 intro Dp s σ H x y v u Q I rx ry h;obtain⟨l,b,xs,zs,rfl,rfl,hH,hB,hz,q⟩:=h;cases rx;cases ry;obtain⟨z,its,n,r,hl,e⟩:=I.lstM hH;obtain⟨z2,its2,n2,r2,hl2,e2⟩:=I.lstM hB;refine PySem.P.add_list e e2 ?_ (by rw[Zg,Zg];omega);have ea:its.toArray++its2.toArray=(its++its2).toArray:=by simp
 rw[ea];exact⟨.ref _,_,I.lnew (t':=s.toks) (r.append r2) (by rw[Q4];omega),rfl,q _ I.fresh⟩
end
section
variable {prog:Ei}{w:Eo}{A:EF}{E:Eg->Dh}{s:Ej}
set_option maxRecDepth 100000 in
end
section
variable {κ:Type} [DecidableEq κ]
def VQ (Dm:List (κ×V))(k:κ):Option V:=(Dm.find? fun kv=>decide (kv.1=k)).map (·.2)
def putK (Dm:List (κ×V))(k:κ)(v:V):List (κ×V) :=
 if(Dm.any fun kv=>decide (kv.1=k))=true then Dm.map (fun kv=>if kv.1=k then(kv.1,v) else kv) else Dm++[(k,v)]
theorem xC {p:κ×V}{r:List (κ×V)}{k:κ}(e:p.1=k):VQ (p::r) k=some p.2:=by simp[VQ,YA,e]
theorem xG {p:κ×V}{r:List (κ×V)}{k:κ}(e:¬p.1=k):VQ (p::r) k=VQ r k:=by simp[VQ,YA,e]
theorem xW (k:κ):∀Dm:List (κ×V),(Dm.any fun kv=>decide (kv.1=k))=(VQ Dm k).isSome
 |[]=>rfl
 |p::r=>by
  rw[List.any_cons]
  by_cases e:p.1=k
  ·simp only[xC e,QX e,Bool.true_or,Option.isSome_some]
  ·rw[xG e,Q9 e,Vq];exact xW k r
theorem Ff (k j:κ)(y:V):∀Dm:List (κ×V),VQ (Dm.map fun kv=>if kv.1=k then(kv.1,y) else kv) j=(VQ Dm j).map fun x=>if j=k then y else x
 |[]=>rfl
 |p::r=>by
  have ih:=Ff k j y r;rw[Zn]
  by_cases h:p.1=k
  ·rw[Zk h]
   by_cases e:p.1=j
   ·rw[xC (p:=(p.1,y)) e,xC e,Yl,Zk (e.symm.trans h)]
   ·rw[xG (p:=(p.1,y)) e,xG e,ih]
  ·rw[Zh h]
   by_cases e:p.1=j
   ·rw[xC (p:=p) e,xC e,Yl,Zh (fun z=>h (e.trans z))]
   ·rw[xG (p:=p) e,xG e,ih]
theorem IV (k j:κ)(y:V):∀Dm:List (κ×V),VQ Dm k=none->VQ (Dm++[(k,y)]) j=if j=k then some y else VQ Dm j
 |[],_=>by
  by_cases e:k=j
  ·rw[Zk e.symm];exact xC (p:=(k,y)) e
  ·rw[Zh (fun z=>e z.symm)];exact xG (p:=(k,y)) e
 |p::r,hn=>by
  rw[List.cons_append];have hk:¬p.1=k:=fun z=>by rw[xC z]at hn;cases hn
  rw[xG hk]at hn;have ih:=IV k j y r hn
  by_cases e:p.1=j
  ·rw[xC e,xC e,Zh (fun z=>hk (e.trans z))]
  ·rw[xG e,xG e,ih]
theorem By (Dm:List (κ×V))(k j:κ)(y:V):VQ (putK Dm k y) j=if j=k then some y else VQ Dm j:=by
 unfold putK
 by_cases a:(Dm.any fun kv=>decide (kv.1=k))=true
 ·rw[Zk a,Ff];rw[xW]at a
  by_cases e:j=k
  ·obtain⟨x,hx⟩:=YF.mp a;rw[Zk e,e,hx,Yl,Zk rfl]
  ·rw[Zh e];cases VQ Dm j with
   |none=>rfl
   |some x=>rw[Yl,Zh e]
 ·rw[Zh a];refine IV k j y Dm ?_;rw[xW]at a;cases q:VQ Dm k with
  |none=>rfl
  |some x=>rw[q]at a;exact(a rfl).elim
theorem qV (Dm:List (κ×V))(k:κ)(v:V):(putK Dm k v).length<=Dm.length+1:=by
 unfold putK
 split
 ·rw[QU];omega
 ·rw[Q4,Zd,YN];omega
theorem CN {Dm:List (κ×V)}{k:κ}(v:V)(h:VQ Dm k=none):putK Dm k v=Dm++[(k,v)]:=by
 unfold putK;rw[xW,h];exact Zh (by decide)
theorem RelO.isSome_eq (r:RelO o u):o.isSome=u.isSome:=by
 cases o with
 |none=>cases u with
  |none=>rfl
  |some _=>exact(show False from r).elim
 |some _=>cases u with
  |none=>exact(show False from r).elim
  |some _=>rfl
theorem RelO.getD (r:RelO o u)(rd:RelV d d'):RelV (o.getD d) (u.getD d'):=by
 cases o with
 |none=>cases u with
  |none=>exact rd
  |some _=>exact(show False from r).elim
 |some _=>cases u with
  |none=>exact(show False from r).elim
  |some _=>exact r
theorem KV.val {Dm:List (κ×V)}{vs:List (κ×Eg)}(r:KV Dm vs)(k:κ):RelO (VQ Dm k) (valueAt vs k):=by
 unfold KV at r
 induction r with
 |nil=>exact Lh
 | @cons p q ps qs h t ih =>
  obtain⟨h1,h2⟩:=h
  by_cases e:p.1=k
  ·have e':q.1=k:=h1.symm.trans e;have b:valueAt (q::qs) k=some q.2:=by simp[valueAt,YA,e']
   rwa[xC e,b]
  ·have e':¬q.1=k:=fun z=>e (h1.trans z);have b:valueAt (q::qs) k=valueAt qs k:=by simp[valueAt,YA,e']
   rwa[xG e,b]
theorem KV.any {Dm:List (κ×V)}{vs:List (κ×Eg)}(r:KV Dm vs)(k:κ):(Dm.any fun kv=>decide (kv.1=k))=vs.any fun kv=>decide (kv.1=k):=by
 unfold KV at r
 induction r with
 |nil=>rfl
 |cons h t ih=>rw[List.any_cons,List.any_cons,ih,h.1]
theorem KV.repl {Dm:List (κ×V)}{vs:List (κ×Eg)}(r:KV Dm vs)(k:κ){y:V}{u:Eg}(ry:RelV y u) :
  KV (Dm.map fun kv=>if kv.1=k then(kv.1,y) else kv) (vs.map fun kv=>if kv.1=k then(kv.1,u) else kv):=by
 unfold KV at r ⊢
 induction r with
 |nil=>exact .nil
 | @cons p q ps qs h t ih =>
  rw[Zn,Zn];refine .cons ?_ ih;obtain⟨h1,h2⟩:=h
  by_cases e:p.1=k
  ·rw[Zk e,Zk (h1.symm.trans e)];exact⟨h1,ry⟩
  ·rw[Zh e,Zh (fun z=>e (h1.trans z))];exact⟨h1,h2⟩
theorem KV.put {Dm:List (κ×V)}{vs:List (κ×Eg)}(r:KV Dm vs)(k:κ){y:V}{u:Eg}(ry:RelV y u):KV (putK Dm k y) (stored vs k u):=by
 unfold putK stored;rw[r.any k]
 by_cases e:(vs.any fun kv=>decide (kv.1=k))=true
 ·rw[Zk e,Zk e];exact r.repl k ry
 ·rw[Zh e,Zh e];exact Paired.snoc r ⟨rfl,ry⟩
theorem KV.length {Dm:List (κ×V)}{vs:List (κ×Eg)}(r:KV Dm vs):Dm.length=vs.length:=Paired.length r
end
theorem Xz (r:RelV (kV k) u):(zY P w).is k u=true:=by
 cases k with
 |inl i=>obtain⟨t,e⟩:=(show∃t,u=Value.int i t from r);subst e;exact BG P w i t
 |inr x=>obtain⟨t,e⟩:=(show∃t,u=L6 x t from r);subst e;exact CJ P w x t
theorem GB:∀{ks:List Key} {us:Db},Vals (ks.map kV) us->ItemsAre (zY P w) ks us
 |[],_,r=>by rw[JQ]at r;cases r;exact .nil
 |k::ks,_,r=>by
  rw[Zn]at r;cases r with
  |cons h t=>exact .cons (Xz h) (GB t)
abbrev KT (H:Hp):List (List Key×V)->List (List Key×Eh×Eg)->Prop:=Ld fun p q=>p.1=q.1/\H q.2.1=some (.tup (p.1.map kV))/\RelV p.2 q.2.2
theorem KT.val (r:KT H Dm xs)(k:List Key):RelO (VQ Dm k) ((atKey xs k).map (·.2)):=by
 induction r with
 |nil=>exact Lh
 | @cons p q ps qs h t ih =>
  obtain⟨h1,_,h2⟩:=h
  by_cases e:p.1=k
  ·have e':q.1=k:=h1.symm.trans e;have b:atKey (q::qs) k=some q.2:=by simp[atKey,YA,e']
   rwa[xC e,b]
  ·have e':¬q.1=k:=fun z=>e (h1.trans z);have b:atKey (q::qs) k=atKey qs k:=by simp[atKey,YA,e']
   rwa[xG e,b]
theorem KT.repl (r:KT H Dm xs)(k:List Key){y:V}{u:Eg}(ry:RelV y u) :
  KT H (Dm.map fun kv=>if kv.1=k then(kv.1,y) else kv) (xs.map (putAt k u)):=by
 induction r with
 |nil=>exact .nil
 | @cons p q ps qs h t ih =>
  rw[Zn,Zn];refine .cons ?_ ih;obtain⟨h1,h2,h3⟩:=h;unfold putAt
  by_cases e:p.1=k
  ·rw[Zk e,Zk (h1.symm.trans e)];exact⟨h1,h2,ry⟩
  ·rw[Zh e,Zh (fun z=>e (h1.trans z))];exact⟨h1,h2,h3⟩
theorem KT.put (r:KT H Dm xs)(k:List Key){b:Eh}{y:V}{u:Eg}(hb:H b=some (.tup (k.map kV)))(ry:RelV y u) :
  KT H (putK Dm k y) (storedH xs k b u):=by
 have e:(Dm.any fun kv=>decide (kv.1=k))=(atKey xs k).isSome:=by
  rw[xW,(r.val k).isSome_eq,Vp]
 unfold putK storedH;rw[e]
 by_cases q:(atKey xs k).isSome=true
 ·rw[Zk q,Zk q];exact r.repl k ry
 ·rw[Zh q,Zh q];exact Paired.snoc r ⟨rfl,hb,ry⟩
theorem KT.keeps {H':Hp}(r:KT H Dm xs)(ht:∀b ys,H b=some (.tup ys)->H' b=some (.tup ys)):KT H' Dm xs :=
 Paired.mapP r fun _ _ z=>⟨z.1,ht _ _ z.2.1,z.2.2⟩
section
variable {P:Ei}{w:Eo}{H:Hp}{h:EC}{a:Eh}
theorem Pr (ok:HOk P w H h)(e:Rd H a u):ObjOk P w H h a u:=e.ok ok
theorem UZ {Dm:Dl}(ok:HOk P w H h)(e:Rd H a (.dK Dm)):Dm.length<=sizeLine/\(a==EN)=false/\∃vs,KV Dm vs/\h.DictOf (zY P w) a vs :=
 show ObjOk P w H h a (.dK Dm) from Pr ok e
theorem R3 {Dm:Dl}(ok:HOk P w H h)(e:H a=some (.dK Dm)):Dm.length<=sizeLine/\(a==EN)=false/\∃vs,KV Dm vs/\h.DictOf (zY P w) a vs:=UZ ok (.inl e)
theorem UN {ks:List Key}(ok:HOk P w H h)(e:H a=some (.tup (ks.map kV))):(tupleKind (zY P w)).is h ks a:=by
 obtain⟨_,its,r,o,h1,h2,n,h3,_⟩:=(show ObjOk P w H h a (.tup (ks.map kV)) from ok a _ e);exact⟨o,its.toArray,n,h1,h2,h3,by simpa using GB r⟩
theorem Xr {Dm:List (List Key×V)}(ok:HOk P w H h)(e:Rd H a (.dT Dm)):Dm.length<=sizeLine/\(a==EN)=false /\
  ∃xs,KT H Dm xs/\h.DictOfH (tupleKind (zY P w)) a xs:=by
 obtain⟨z,y,xs,r,o,es,ep,h1,h2,h3,h4,h5⟩:=(show ObjOk P w H h a (.dT Dm) from Pr ok e);refine⟨z,y,xs,r,o,es,ep,h1,h2,h3,h4,fun x hx=>?_,h5⟩;have all:∀{l:List (List Key×V)} {m:List (List Key×Eh×Eg)},KT H l m->∀x∈m,(tupleKind (zY P w)).is h x.1 x.2.1:=by
  intro l m q
  induction q with
  |nil=>intro x hx;exact nomatch hx
  | @cons p q ps qs hq t ih =>
   intro x hx
   rcases Q7.mp hx with e|hx
   ·subst e;exact UN ok (by rw[←hq.1];exact hq.2.1)
   ·exact ih x hx
 exact all r x hx
theorem R4 {Dm:List (List Key×V)}(ok:HOk P w H h)(e:H a=some (.dT Dm)):Dm.length<=sizeLine/\(a==EN)=false /\
  ∃xs,KT H Dm xs/\h.DictOfH (tupleKind (zY P w)) a xs:=Xr ok (.inl e)
end
def DGet (H:Hp)(a:Eh)(y:V)(r:Option V):Prop :=
 (∃Dm k,Rd H a (.dK Dm)/\y=kV k/\r=VQ Dm k)\/∃Dm k b,Rd H a (.dT Dm)/\y=.ref b/\H b=some (.tup (k.map kV))/\r=VQ Dm k
def DPut (H:Hp)(a:Eh)(y v:V)(H':Hp):Prop :=
 (∃Dm k,H a=some (.dK Dm)/\y=kV k/\Dm.length<sizeLine/\H'=upd H a (.dK (putK Dm k v))) \/
 ∃Dm k b,H a=some (.dT Dm)/\y=.ref b/\H b=some (.tup (k.map kV))/\Dm.length<sizeLine/\H'=upd H a (.dT (putK Dm k v))
theorem DGet.k {H:Hp}{a:Eh}{Dm:Dl}{k:Key}(e:H a=some (.dK Dm)):DGet H a (kV k) (VQ Dm k):=.inl ⟨Dm,k,.inl e,rfl,rfl⟩
theorem DPut.k {H:Hp}{a:Eh}{Dm:Dl}{k:Key}(e:H a=some (.dK Dm))(hl:Dm.length<sizeLine):DPut H a (kV k) v (upd H a (.dK (putK Dm k v))):=.inl ⟨Dm,k,e,rfl,hl,rfl⟩
section
variable {X:Cx}{Dp:De}{σ:St}{H:Hp}{s:Ej}{a:Eh}{y v:V}{u r:Eg}{o:Option V}{A:EF}{E:Eg->Dh}
theorem Inv.big (I:Inv X Dp σ H s):EN<s.heap.objs.size:=by
 have h:Er<s.heap.objs.size:=(I.mod.glob.keeps I.bk).lt;exact Nat.lt_trans (by decide) h
theorem Kj {Q:Eg->Dh}(hu:A.units+1<E8)(I:Inv X Dp σ H s)(g:DGet H a y (some v))(ry:RelV y u)(h:∀w' s',Inv X Dp σ H s'->RelV v w'->Q w' s') :
  Ek (Es X.prog X.w) A (Mf (.ref a) u) Q E s:=by
 rcases g with⟨Dm,k,e,ey,l⟩|⟨Dm,k,b,e,ey,eb,l⟩
 ·subst ey;obtain⟨z,hd,vs,rel,dd⟩:=UZ I.hok e;obtain⟨w',hw,rw'⟩:=RelO.some_of (v:=v) (o:=valueAt vs k) (by rw[l];exact rel.val k);exact wpAny_getItem_of (Xz ry) dd.mapOf hw (h w' _ (I.tok _) rw')
 ·subst ey;cases(show u=Ew b from ry);obtain⟨z,hd,xs,rel,dd⟩:=Xr I.hok e;obtain⟨w',hw,rw'⟩:=RelO.some_of (v:=v) (o:=(atKey xs k).map (·.2)) (by rw[l];exact rel.val k);obtain⟨p,hp,hp2⟩:=ZB.mp hw;refine wpAny_getItem_heap (Jp hu) (UN I.hok eb) dd hp ?_;rw[hp2];exact h w' _ (I.tok _) rw'
theorem SZ {Q:Eg->Dh}(hu:A.units+1<E8)(I:Inv X Dp σ H s)(g:DGet H a y o)(ry:RelV y u)(h:∀s',Inv X Dp σ H s'->Q (.bool o.isSome) s') :
  Ek (Es X.prog X.w) A (EO .In u (.ref a)) Q E s:=by
 rcases g with⟨Dm,k,e,ey,l⟩|⟨Dm,k,b,e,ey,eb,l⟩
 ·subst ey;obtain⟨z,hd,vs,rel,dd⟩:=UZ I.hok e;refine wpAny_in_of (Xz ry) hd dd.mapOf ?_;rw[←(rel.val k).isSome_eq,←l];exact h _ (I.tok _)
 ·subst ey;cases(show u=Ew b from ry);obtain⟨z,hd,xs,rel,dd⟩:=Xr I.hok e;refine wpAny_in_heap (Jp hu) (UN I.hok eb) hd dd ?_;have q:=(rel.val k).isSome_eq;rw[Vp]at q;rw[←q,←l];exact h _ (I.tok _)
theorem Oh {Q:Eg->Dh}(hu:A.units+1<E8)(I:Inv X Dp σ H s)(g:DGet H a y o)(ry:RelV y u)(h:∀s',Inv X Dp σ H s'->Q (.bool (!o.isSome)) s') :
  Ek (Es X.prog X.w) A (EO .NotIn u (.ref a)) Q E s:=by
 rcases g with⟨Dm,k,e,ey,l⟩|⟨Dm,k,b,e,ey,eb,l⟩
 ·subst ey;obtain⟨z,hd,vs,rel,dd⟩:=UZ I.hok e;refine wpAny_notIn_of (Xz ry) hd dd.mapOf ?_;rw[←(rel.val k).isSome_eq,←l];exact h _ (I.tok _)
 ·subst ey;cases(show u=Ew b from ry);obtain⟨z,hd,xs,rel,dd⟩:=Xr I.hok e;refine wpAny_notIn_heap (Jp hu) (UN I.hok eb) hd dd ?_;have q:=(rel.val k).isSome_eq;rw[Vp]at q;rw[←q,←l];exact h _ (I.tok _)
theorem GV {h':EC}{t':Nat}(I:Inv X Dp σ H s)(mu:PL (H a))(hs:Lb a s.heap h')(he:∃q,h'.get? a=some q)(new:ObjOk X.prog X.w (upd H a ob) h' a ob) :
  Inv X Dp σ (upd H a ob) { s with heap:=h',toks:=t' } :=
 I.write (x:=a) (e:=a) mu (.inl rfl) (fun b q hb z=>(hs.2 b hb).trans z) he new
theorem PZ {H':Hp}{h':EC}{Dm:Dl}(z:Dm.length<=sizeLine)(hd:(a==EN)=false)(rel:KV Dm vs)(dd:h'.DictOf (zY P w) a vs) :
  ObjOk P w H' h' a (.dK Dm):=⟨z,hd,vs,rel,dd⟩
theorem Kk {Q:Unit->Dh}(hu:A.units+1<E8)(I:Inv X Dp σ H s)(g:DPut H a y v H')(ry:RelV y u)(rv:RelV v r)(h:∀s',Inv X Dp σ H' s'->Q () s') :
  Ek (Es X.prog X.w) A (setItem (.ref a) u r) Q E s:=by
 rcases g with⟨Dm,k,e,ey,l,eH⟩|⟨Dm,k,b,e,ey,eb,l,eH⟩
 ·subst ey eH;obtain⟨z,hd,vs,rel,dd⟩:=R3 I.hok e;have hz:vs.length<=sizeLine:=by rwa[←rel.length]
  have hl:(putK Dm k v).length<=sizeLine:=by have:=qV Dm k v;omega
  refine wpAny_setItem_pairs (hsz:=hz) (Xz ry) dd fun h' dd' hs=>h _ ?_;have he:∃q,h'.get? a=some q:=let ⟨q,_,_,hq,_⟩:=dd';⟨q,hq⟩;exact GV I (by rw[e];exact Lh) hs he (PZ hl hd (rel.put k rv) dd')
 ·subst ey eH;cases(show u=Ew b from ry);obtain⟨z,hd,xs,rel,dd⟩:=R4 I.hok e;have hz:xs.length<=sizeLine:=by rwa[←Paired.length rel]
  have hl:(putK Dm k v).length<=sizeLine:=by have:=qV Dm k v;omega
  refine wpAny_setItem_heap (hsz:=hz) (Jp hu) (UN I.hok eb) dd fun h' dd' hs=>h _ ?_;obtain⟨q,es,ep,hq,h2,h3,h4,_,h5⟩:=dd';refine GV I (by rw[e];exact Lh) hs ⟨q,hq⟩ ⟨hl,hd,_,(rel.put k eb rv).keeps fun c ys ec=>?_,q,es,ep,hq,h2,h3,h4,h5⟩;rwa[zG (Si ec e (fun z=>nomatch z))]
end
def Oa (i:EI):Prop:=∀ov iv,subscripted i false ov iv=operate [ov,iv] (Mf ov iv)
theorem G3 {prog:Ei}{w:Eo}{A:EF}{E:Eg->Dh}{s:Ej}{env:Env}{value slice:EI}{pos:Pos}{T id:String}{Q:Eg->Dh}
  (hl:typeLookup (.type T) "__getitem__"=Ly (some (.builtin id))) (hs:Oa slice)
  (h:Ek (Es prog w) A (EY value env) (fun o s₁=>Ek (Es prog w) A (EY slice env) (fun i s₂=>s₂.TypeIs o T/\Ek (Es prog w) A (Mf o i) Q E s₂) E s₁) E s) :
  Ek (Es prog w) A (EY (.Subscript value slice pos) env) Q E s:=by
 refine Subscript_ (Yd h (fun o s₁ h₁=>Yd h₁ (fun i s₂ h₂=>?_) fun _ _ x=>x) fun _ _ x=>x);obtain⟨hT,h₂⟩:=h₂;unfold subscriptTail;refine QW ?_;rw[getitemInPython_of_ne hT.not_modules];refine QW (JH hT hl ?_);have fin:Ek (Es prog w) A (subscripted slice false o i) (fun r s₃=>Ek (Es prog w) A (letTemporaryGo value o r>>=fun _=>Ly r) Q E s₃) E s₂:=by
  rw[hs o i];exact wpAny_operating (Yd h₂ (fun r s₃ h₃=>QW (wpAny_letTemporaryGo (Q3 h₃))) fun _ _ x=>x)
 first
  |exact Q3 (QW fin)
  |exact QW (Q3 (QW fin))
  |exact QW fin
theorem Co (I:Inv X Dp σ H s)(g:DGet H a y o):s.TypeIs (.ref a) "dict":=by
 rcases g with⟨Dm,k,e,_,_⟩|⟨Dm,k,b,e,_,_,_⟩
 ·obtain⟨_,_,vs,_,dd⟩:=UZ I.hok e;exact dd.typeIs
 ·obtain⟨_,_,xs,_,dd⟩:=Xr I.hok e;exact dd.typeIs
def SA (td ty:TE):TE:=fun σ H Q=>td σ H fun x H1=>ty σ H1 fun y H2=>∃a v,x=.ref a/\DGet H2 a y (some v)/\Q v H2
def Ps (td ty tv:TE):TS:=fun D σ H=>tv σ H fun v H1=>td σ H1 fun x H2=>ty σ H2 fun y H3=>∃a H4,x=.ref a/\DPut H3 a y v H4/\D.nx σ H4
section
variable {X:Cx}{o i e value:EI}{pos DN tpos:Pos}{td ty tv:TE}
theorem OL (hu:X.A.units+1<E8)(ho:PE X o td)(hi:PE X i ty)(hs:Oa i):PE X (.Subscript o i pos) (SA td ty):=by
 intro Dp s σ H Q I h;refine G3 PySem.F.slot_dict_getitem.lookup hs (A3 (ho Dp s σ H _ I h) fun u s1 ⟨x,H1,I1,rx,q1⟩=>A3 (hi Dp s1 σ H1 _ I1 q1) fun iv s2 ⟨y,H2,I2,ry,a,v,ex,g,q2⟩=>?_);subst ex;obtain rfl:u=Ew a:=rx;exact⟨Co I2 g,Kj hu I2 g ry fun w' s3 I3 rw'=>⟨v,H2,I3,rw',q2⟩⟩
theorem qH (hu:X.A.units+1<E8)(ho:PE X o td)(hi:PE X i ty)(hv:PE X value tv)(hs:Mg value (some (.Subscript o i DN)) pos.line X.env=Ly false) :
  PS X (.Assign [.Subscript o i DN] value pos) (Ps td ty tv):=by
 intro Dp s σ H D I h;refine wpAny_Assign_Subscript (A3 (hv Dp s σ H _ I h) fun r s1 ⟨v,H1,I1,rv,q1⟩=>A3 (ho Dp s1 σ H1 _ I1 q1) fun u s2 ⟨x,H2,I2,rx,q2⟩=>A3 (hi Dp s2 σ H2 _ I2 q2) fun iv s3 ⟨y,H3,I3,ry,a,H4,ex,g,q3⟩=>?_) hs;subst ex;obtain rfl:u=Ew a:=rx;exact Kk hu I3 g ry rv fun s4 I4=>⟨σ,H4,I4,q3⟩
end
theorem Mw (h:EC)(hb:EN<h.objs.size):ObjOk P w H (h.push { cls:=.type "dict",data:=.dict #[] }) h.objs.size (.dK []) :=
 ⟨Zz _,Yx.mpr (ED (Zr hb)),[],.nil,Heap.DictOf.new h⟩
def RB:TE:=fun _ H Q=>∀p,H p=none->Q (.ref p) (upd H p (.dK []))
section
variable {X:Cx}{pos:Pos}
theorem qG:PE X (.Dict [] [] pos) RB:=fun Dp s σ H Q I h =>
 wpAny_Dict_empty ⟨.ref s.heap.objs.size,_,I.laid (a:=s.heap.objs.size) (o:=.dK []) (t':=s.toks) (fun _ _ q=>Q0 _ q) (Q2 _) (Mw s.heap I.big),rfl,h _ (I.hok.fresh (Q2 _))⟩
end
structure M2 (X:Cx)(o:EI)(m:Str)(Dr:Pos)(e f:EI)(Ds:Pos):Prop where
 base:Lo o m X.env (EY o X.env)=EY o X.env
 few:((E7 Ds (Ev [e,f] X.env)).all (fun x=>!x.1)&&(Mj Ds (LG [] X.env)).all (fun x=>x.1.isSome) && decide (([e,f]:List EI).length+([]:List Keyword).length+(if([]:List Keyword).isEmpty then 0 else 1)<30))=true
 line:(Dr.endLine==Ds.line)=true
 trees:E7 Ds (Ev [e,f] X.env)=[(false,EY e X.env),(false,EY f X.env)]
def TL (H:Hp)(a:Eh):Prop:=(∃Dm,Rd H a (.dK Dm))\/∃Dm,Rd H a (.dT Dm)
theorem P4 (I:Inv X Dp σ H s)(d:TL H a) :
  s.TypeIs (.ref a) "dict"/\(∀b,Ew a=.ref b->∃ob,s.heap.get? b=some ob/\ob.dict=none)/\(a==EN)=false:=by
 rcases d with⟨Dm,e⟩|⟨Dm,e⟩
 ·obtain⟨_,hd,vs,_,dd⟩:=UZ I.hok e;refine⟨dd.typeIs,fun b q=>?_,hd⟩;cases q;obtain⟨ob,_,_,h1,h2,_⟩:=dd;exact⟨ob,h1,h2.2.1⟩
 ·obtain⟨_,hd,xs,_,dd⟩:=Xr I.hok e;refine⟨dd.typeIs,fun b q=>?_,hd⟩;cases q;obtain⟨ob,_,_,h1,h2,_⟩:=dd;exact⟨ob,h1,h2.2.1⟩
section
variable {X:Cx}{Dp:De}{σ:St}{H:Hp}{s:Ej}{a:Eh}{y d:V}{u r:Eg}{o:Option V}{A:EF}{E:Eg->Dh}
theorem PX {Q:Eg->Dh}(hu:A.units+1<E8)(I:Inv X Dp σ H s)(g:DGet H a y o)(ry:RelV y u)(rd:RelV d r)(h:∀w' s',Inv X Dp σ H s'->RelV (o.getD d) w'->Q w' s') :
  Ek (Es X.prog X.w) A (call (.builtin "dict.get") [.ref a,u,r]) Q E s:=by
 rcases g with⟨Dm,k,e,ey,l⟩|⟨Dm,k,b,e,ey,eb,l⟩
 ·subst ey;obtain⟨z,hd,vs,rel,dd⟩:=UZ I.hok e;refine Vz JW dd.typeIs PySem.F.entry_dict_get (PySem.F.args_dict_get_3 _ _ _) (meets_dict_get_default (zY X.prog X.w) a (Xz ry) hd r) ⟨_,dd.mapOf,h _ _ (I.tok _) ?_⟩;rw[l];exact(rel.val k).getD rd
 ·subst ey;cases(show u=Ew b from ry);obtain⟨z,hd,xs,rel,dd⟩:=Xr I.hok e;refine Vz JW dd.typeIs PySem.F.entry_dict_get (PySem.F.args_dict_get_3 _ _ _) (meetsH_dict_get_default (tupleKind (zY X.prog X.w)) a b hd r) ⟨Jp hu,k,xs,UN I.hok eb,dd,h _ _ (I.tok _) ?_⟩;rw[l];exact(rel.val k).getD rd
end
def RA (td ty tx:TE):TE:=fun σ H Q=>td σ H fun x H1=>∃a,x=.ref a/\TL H1 a/\ty σ H1 fun y H2=>tx σ H2 fun z H3=>∃o,DGet H3 a y o/\Q (o.getD z) H3
section
variable {X:Cx}{o e f:EI}{Dr Ds:Pos}{td ty tx:TE}
theorem XE (hu:X.A.units+1<E8)(ho:PE X o td)(he:PE X e ty)(hf:PE X f tx)(m:M2 X o "get" Dr e f Ds):PE X (.Call (.Attribute o "get" Dr) [e,f] [] Ds) (RA td ty tx):=by
 intro Dp s σ H Q I h;refine wpAny_Call_method m.base m.few m.line PySem.F.plainAttrs_dict JW PySem.F.type_dict_get (A3 (ho Dp s σ H _ I h) fun u s1 ⟨x,H1,I1,rx,a,ex,d,q1⟩=>?_);subst ex;obtain rfl:u=Ew a:=rx;obtain⟨t1,t2,_⟩:=P4 I1 d;refine⟨t1,t2,?_⟩;rw[m.trees];refine Lf rfl (Calls.evalArgs_plain (LV (A3 (he Dp s1 σ H1 _ I1 q1) fun iv s2 ⟨y,H2,I2,ry,q2⟩ => LV (A3 (hf Dp s2 σ H2 _ I2 q2) fun fv s3 ⟨z,H3,I3,rz,ov,g,q3⟩=>Calls.spliced_nil ?_))))
 exact PX hu I3 g ry rz fun w' s4 I4 rw'=>⟨_,H3,I4,rw',q3⟩
end
end L2
namespace Att
open PySem PySem.W PySem.Calls PyProof.Rows
theorem U8 {P:Params}{h:EC}:∀(ns:List Int) (vs:Db),WellAll P h vs (ns.map WData.int)->IntsAre vs ns:=by
 intro ns
 induction ns with
 |nil =>
  intro vs w;rw[JQ]at w;cases w;exact .nil
 |cons n ns ih =>
  intro vs w;rw[Zn]at w;cases w with
  |cons a b =>
   cases a;exact .cons _ _ (ih _ b)
theorem KW {l:OpenLaw}{n:Nat}(hn:l.most=some n){P:Params}{h:EC}{args:List WData}{vals:Db}
  (hpre:l.row.toRowW.claim.pre args=true) (hwl:WellAll P h vals args) :
  ∃a vs ns,vals=[Ew a]/\args=[WData.list (ns.map WData.int)]/\h.get? a=some { cls:=.type "list",data:=.seq vs.toArray }/\IntsAre vs ns/\ns.length<=n:=by
 have hsh:WShape.hasAll [] args [.list .int]=true:=(pre_splitW hpre).1;have hc:l.pre.holds [] { args:=args }=true:=(pre_splitW hpre).2;obtain⟨d,r,rfl,h1,h2⟩:=hasAllW_cons hsh;obtain rfl:=hasAllW_nil h2;obtain⟨xs,rfl,h3⟩:=hasW_list h1;obtain⟨ns,rfl⟩:=items_int h3;have Dq:ns.length<=n:=by
  unfold OpenLaw.pre at hc;have h4:(WTm.not (.lt (.lit (.int (n:Int))) (.len (.arg 0)))).holds [] { args:=[.list (ns.map .int)] }=true:=by
   have h4:=(holds_andW hc).1;rw[hn]at h4;exact h4
  have h5:=condW_of h4 (w_not (w_lt w_lit (w_len_list (w_arg rfl))));rw[QU]at h5;refine Nat.le_of_not_lt fun q=>?_;have q':(n:Int)<((ns.length:Nat):Int):=by omega
  first
   |(rw[QX q']at h5;exact absurd h5 (by decide))
   |(simp at h5;omega)
 cases hwl with
 |cons w1 w2 =>
  cases w2;cases w1 with
  |list ho hall=>exact⟨_,_,ns,rfl,rfl,ho,U8 ns _ hall,Dq⟩
theorem KS (l:OpenLaw)(args:List WData):l.row.toRowW.claim.post args (.bool true) args=true :=
 postW_of (r:=l.row.toRowW) (X:=(true==true))
  (show WShape.has [] (.bool true) .bool=true by first|rfl|decide|simp[WShape.has,WShape.arms,WShape.armsAll])
  (show(WTm.eq .res (.lit (.bool true))).value [] { args:=args,res:=some (.bool true),after:=args }=some (.bool (true==true)) from w_eq_bool (w_res rfl) w_lit) rfl
theorem attach_call {l:OpenLaw}{n:Nat}{q:Ei}{loose:Da}{XP:(Str->Dc)->EC->Prop}{YP:Eo->EC->Prop}{d:DefRec}
  (hn:l.most=some n) (hdf:d.params.defaults=[])
  (call:∀(w:Eo) (s₀ s₁:Ej) (mg mb:Str->Dc) (fa:Eh) (o:Obj) (pm cd doc:Eg) (a:Eh) (vs:Db) (ns:List Int),Ground q loose [] XP w s₀ mg mb s₁.heap->YP w s₁.heap -> s₁.heap.get? fa=some o->o.data=.func (docDef d.name d.params d.body d.scope pm cd doc)->s₁.heap.CodeRec cd d.name->mg d.name=some (.ref fa) -> s₁.heap.get? a=some { cls:=.type "list",data:=.seq vs.toArray }->IntsAre vs ns->ns.length<=n->s₁.gens=#[] -> LR (Es l.prog w) callerA (.call (.ref fa) ⟨[.ref a],[]⟩) (fun r s'=>r=.ok (.ret (.bool true))/\OldK s₁.heap s'.heap/\s'.os=s₁.os/\Md s'.gens) s₁) :
  WalkO q loose XP YP l.row.toRowW d [] (fun f vs=>PySem.call f vs):=by
 intro w s₀ s₁ mg mb G Y fa o pm cd doc dV kV ho hd hcd hD hmg hg args vals as hpre hlay hrd hwl hlo;obtain rfl:dV=.none:=Dflts.none hD hdf;obtain rfl:kV=.none:=Dflts.noKw hD;obtain⟨a,vs,ns,rfl,rfl,hobj,hints,Dq⟩:=KW hn hpre hwl;refine enter_call (YU (call w s₀ s₁ mg mb fa o pm cd doc a vs ns G Y ho (fd_plain hd) hcd hmg hobj hints Dq hg) fun r s' hq=>?_);obtain⟨rfl,h2,h3,h4⟩:=hq;exact⟨.inl ⟨.bool true,.bool true,[],rfl,fun _=>rfl,.bool true,KS l _,fun _=>⟨List.Pairwise.nil,fun _ hm=>(nomatch hm)⟩⟩,h2,h3,h4⟩
end Att
namespace L2
open PySem PySem.Spec PyProof.Rows
theorem Go:∀{vs:Db} {ns:List Int},IntsAre vs ns->Vals (ns.map V.int) vs
 |_,_,.nil=>.nil
 |_,_,.cons n t h=>.cons ⟨t,rfl⟩ (Go h)
def Only (H:Hp):Prop:=∀b,H b=none\/∃o xs,H b=some (.frz o (.lst xs))
theorem MT {P:Ei}{w:Eo}{K:AZ}{mg mb:Str->Dc}{CX:K5}{k:Nat}{fa a:Eh}{fd:Eu}{x:Str}{sp:Sp}{s₁:Ej}{vs:Db}{ns:List Int}
  (KX:K.In s₁.heap) (hns:s₁.heap.Ns Er mg) (hb:s₁.heap.Ns builtinsNs mb) (hbb:∀x:Str,x≠"__name__"->mb x=Lx x) (hlim:s₁.heap.NoLimit) (hg:s₁.gens=#[])
  (ha:s₁.heap.get? a=some { cls:=.type "list",data:=.seq vs.toArray }) (hi:IntsAre vs ns) (hl:ns.length<=sizeLine) (hr:Room k callerA)
  (F:∀base:EC,K.In base->base.Ns Er mg->FnOk P w K mg base CX k fa fd [x] sp) (hbind:∀(s:Ej) (u:Eg),BindsTo s fd ⟨[u],[]⟩ [(x,u)])
  (hsp:∀H:Hp,Only H->SqL K H a (ns.map V.int)->sp [.ref a] H (fun v _=>v=.bl true) fun _ _ _=>False)
  (hCX:∀H e s',CX [] H s₁ (fun _ _ _=>False) e s'->False) :
  LR (Es P w) callerA (.call (.ref fa) ⟨[.ref a],[]⟩) (fun r s'=>r=.ok (.ret (.bool true))/\OldK s₁.heap s'.heap/\s'.os=s₁.os/\Md s'.gens) s₁:=by
 have rv:=Go hi;have lenV:=hi.length;have core:∀H:Hp,Only H->SqL K H a (ns.map V.int)->HOk P w H s₁.heap->(∀b,H b≠none->b=a)->(H a≠none->K.lookup a=none) ->
   LR (Es P w) callerA (.call (.ref fa) ⟨[.ref a],[]⟩) (fun r s'=>r=.ok (.ret (.bool true))/\OldK s₁.heap s'.heap/\s'.os=s₁.os/\Md s'.gens) s₁:=by
  intro H hO hS hok hA hK;have base_of:∀{b:Eh} {o:Obj},s₁.heap.get? b=some o->H b=none->(GW s₁.heap H).get? b=some o:=fun e n=>MI e n;have noA:∀{b:Eh} {o:Obj} {es:Array LX} {ep:Nat},s₁.heap.get? b=some o->o.data=.dict es ep->H b=none:=fun{b o es ep} e d=>by
   cases q:H b with
   |none=>rfl
   |some u =>
    have e':b=a:=hA b (by rw[q];simp);subst e';rw[ha]at e;cases e;have d':Data.seq vs.toArray _=Data.dict es ep:=d;cases d'
  have nsK:∀{b:Eh} {m:Str->Dc},s₁.heap.Ns b m->(GW s₁.heap H).Ns b m:=fun{b m} ⟨o,es,ep,e,d,r⟩=>⟨o,es,ep,base_of e (noA e d),d,r⟩;have hKb:K.In (GW s₁.heap H):=fun b o e=>base_of (KX b o e) (by
   cases q:H b with
   |none=>rfl
   |some u =>
    have e':b=a:=hA b (by rw[q];simp);subst e';rw[hK (by rw[q];simp)]at e;cases e)
  have hM:Mod K mg (GW s₁.heap H):=⟨hKb,nsK hns,⟨mb,nsK hb,hbb⟩,let ⟨mc,h1,h2⟩:=hlim;⟨mc,nsK h1,h2⟩⟩;have e0:Env0 P w K mg (GW s₁.heap H) callerA [] s₁ H:=⟨rfl,hM,fun b o e=>OE e,JP (Kx _ _),trivial,fun b hb=>absurd (show b∈([]:Dd) from hb) (by simp),hok,.of_eq hg⟩;refine YU ((F _ hKb (nsK hns)).run callerA [] s₁ H ⟨[.ref a],[]⟩ [.ref a] [.ref a] _ _ hr e0 (hbind s₁ (.ref a)) (.cons rfl .nil) (hsp H hO hS)) fun r s' h=>?_;cases r with
  |error e=>exact(hCX H e s' h).elim
  |ok fl =>
   cases fl with
   |next=>exact EH h
   |brk=>exact EH h
   |cont=>exact EH h
   |ret u =>
    obtain⟨v,H',os,bare,un,hok',r',q⟩:=h;have q':v=.bl true:=q;subst q';obtain rfl:u=LS true:=r';refine⟨rfl,OldK.of_keep fun b o e=>?_,os,bare⟩;cases q:H b with
    |none=>exact un.keep b o e q (by intro z;exact absurd (show b∈([]:Dd) from z) (by simp)) (by simp)
    |some u =>
     rcases hO b with z|⟨ob,xs,z⟩
     ·rw[q]at z;cases z
     ·have z2:=un.frzs b ob _ z;obtain⟨e1,_⟩:=hok b _ z;obtain⟨e2,_⟩:=hok' b _ z2;rw[e]at e1;cases e1;exact e2
 cases hk:K.lookup a with
 |some o =>
  have e:=KX a o hk;rw[ha]at e;cases e;refine core (fun _=>none) (fun _=>.inl rfl) (.inr ⟨_,vs.toArray,_,hk,rfl,rfl,rfl,by rw[Zg,lenV];exact hl,by simpa using rv⟩) (fun b u z=>by have z':(none:Option HO)=some u:=z;cases z') (fun b z=>absurd rfl z) fun z=>absurd rfl z
 |none =>
  refine core (fun b=>if b=a then some (.frz { cls:=.type "list",data:=.seq vs.toArray } (.lst (ns.map V.int))) else none) (fun b=>?_) (.inl (.inr ⟨{ cls:=.type "list",data:=.seq vs.toArray },Zk rfl⟩)) (fun b u z=>?_) (fun b z=>?_) fun _=>hk
  ·by_cases hb:b=a
   ·exact .inr ⟨_,_,Zk hb⟩
   ·exact .inl (Zh hb)
  ·by_cases hb:b=a
   ·have z':=(Zk hb).symm.trans z;cases z';subst hb;exact⟨ha,by rw[QU];exact hl,vs,_,rv,ha⟩
   ·have z':=(Zh hb).symm.trans z;cases z'
  ·by_cases hb:b=a
   ·exact hb
   ·exact absurd (Zh hb) z
theorem walk_of {l:PySem.W.OpenLaw}{n k:Nat}{q:Ei}{loose:Da}{XP:(Str->Dc)->EC->Prop}{YP:Eo->EC->Prop}{d:DefRec}{K:Params->AZ}{CX:Eo->K5}{sp:Eo->Sp}{x:Str}
  (hn:l.most=some n) (hn2:n<=sizeLine) (hdf:d.params.defaults=[]) (hr:Room k callerA)
  (hY:∀(w:Eo) (h:EC),YP w h->(K w.params).In h)
  (F:∀(w:Eo) (mg:Str->Dc) (fa:Eh) (h:EC),(K w.params).In h->h.Ns Er mg->mg d.name=some (.ref fa) -> ∃fd:Eu,(∀(s:Ej) (u:Eg),BindsTo s fd ⟨[u],[]⟩ [(x,u)]) /\ ∀base:EC,(K w.params).In base->base.Ns Er mg->FnOk l.prog w (K w.params) mg base (CX w) k fa fd [x] (sp w))
  (hsp:∀(w:Eo) (H:Hp) (a:Eh) (ns:List Int),ns.length<=n->Only H->SqL (K w.params) H a (ns.map V.int)->sp w [.ref a] H (fun v _=>v=.bl true) fun _ _ _=>False)
  (hCX:∀(w:Eo) (H:Hp) (s:Ej) (e:Eg) (s':Ej),CX w [] H s (fun _ _ _=>False) e s'->False) :
  PySem.W.WalkO q loose XP YP l.row.toRowW d [] (fun f vs=>PySem.call f vs):=by
 refine Att.attach_call hn hdf fun w s₀ s₁ mg mb fa o pm cd doc a vs ns G Y ho hd hcd hmg hobj hints Dq hg=>?_;have KX:=hY w _ Y;obtain⟨fd,hb,hF⟩:=F w mg fa _ KX G.T.g hmg;exact MT KX G.T.g G.T.b G.T.builtins G.T.nolimit hg hobj hints (ZD Dq hn2) hr hF hb (fun H hO hS=>hsp w H a ns Dq hO hS) fun H e s'=>hCX w H s₁ e s'
def inClass (s:ER)(j:Nat):Stmt:=match s with
 | .ClassDef _ _ _ body _ _ _ _ _ _ _=>body.getD j (.Pass ⟨0,0,0,0⟩)
 |_=>.Pass ⟨0,0,0,0⟩
def xZ (s:ER):Arguments:=match s with
 | .FunctionDef _ a _ _ _ _ _ _ _ _=>a
 |_=>{ posonlyargs:=[],args:=[],vararg:=none,kwonlyargs:=[],kw_defaults:=[],kwarg:=none,defaults:=[] }
def xL (s:ER):List Stmt:=match s with
 | .FunctionDef _ _ b _ _ _ _ _ _ _=>b
 |_=>[]
def zH (s:ER):Scope:=match s with
 | .FunctionDef _ _ _ _ _ _ sc _ _ _=>sc
 |_=>{ kind:=.function,names:=[],isGenerator:=false,isCoroutine:=false }
abbrev A9:K5:=fun _ _ _ _ _ _=>False
abbrev E0:XK:=fun _ _ _=>False
theorem BL:vH A9 X E0:=fun _ _ _ _ _ _ _ h=>h.elim
structure Fun (K:AZ)(x qual:Str)(st:ER)(f:Eh)(fd:Eu):Prop where
 ex:∃(oc:Eg) (od:Option Eh) (kV doc pm:Eg) (an:Option Eh) (cdv ct:Eg) (osl:Array Dc),
  fd=E1 x qual (xZ st) (xL st) (zH st) .none kV doc pm an cdv ct/\K.lookup f=some ⟨oc,od,.func fd,osl⟩/\Lr K cdv qual=true
 kp:ET K (.ref f)=true
section
variable {P:Ei}{w:Eo}{K:AZ}{mg:Str->Dc}{base:EC}
theorem Fun.ok {st:ER}{k:Nat}{sp:Sp}(F:Fun K x qual st f fd)(S:FnScope N ps (zH st))(len:∀vs H Q E,sp vs H Q E->vs.length=ps.length)
  (D9:∀(cdv:Eg) (A:EF) (outer:List Env) (s:Ej) (H:Hp) (vs:Dj) (Q:VK) (E:XK),Room k (A.deeper (envOfC qual (zH st) s.heap.objs.size f cdv))->sp vs H Q E -> ∃t,PSs (G7 A9 P w K mg base N qual (zH st) f cdv A outer s H E).nox (xL st) t/\t { nx:=fun _ H'=>Q .non H',rt:=Q } (start N vs) H):FnOk P w K mg base A9 (k+1) f fd ps sp:=by
 obtain⟨oc,od,kV,doc,pm,an,cdv,ct,osl,rfl,lk,hcd⟩:=F.ex;refine Pj lk hcd S len fun A outer s H vs Q E hr hsp=>?_;obtain⟨t,h,q⟩:=D9 cdv A outer s H vs Q E hr hsp;exact⟨t,h.nox,q⟩
theorem Fun.binds {st:ER}{ps:Da}(F:Fun K x qual st f fd)
  (h:∀(kV doc pm:Eg) (an:Option Eh) (cdv ct:Eg) (us:Db),us.length=ps.length->bindArgs (E1 x qual (xZ st) (xL st) (zH st) .none kV doc pm an cdv ct) ⟨us,[]⟩=Ly (ps.zip us)):Binds K fd ps []:=by
 obtain⟨oc,od,kV,doc,pm,an,cdv,ct,osl,rfl,lk,hcd⟩:=F.ex;exact .all (h kV doc pm an cdv ct)
theorem Uy {x qual:Str}{st:ER}{f:Eh}{oc:Eg}{od an:Option Eh}{osl:Array Dc}{kV doc pm cdv ct:Eg}(l:K.lookup f=some ⟨oc,od,.func (E1 x qual (xZ st) (xL st) (zH st) .none kV doc pm an cdv ct),osl⟩)
  (c:Lr K cdv qual=true) (k:ET K (.ref f)=true):Fun K x qual st f (E1 x qual (xZ st) (xL st) (zH st) .none kV doc pm an cdv ct):=⟨⟨oc,od,kV,doc,pm,an,cdv,ct,osl,rfl,l,c⟩,k⟩
end
theorem Ho (hr:Room k A):A.units+1<cLine:=JI (Nat.add_le_add_left (by decide:1<=64) _) hr.units
section
variable {X:Cx}
theorem pv (i:Nat){x:Str}{pos:Pos}(hN:X.N[i]?=some x:=by rfl)(hv:SX X.env.scope x:=by first|exact EJ rfl|exact Or.inr (EJ rfl)|exact Or.inr (Or.inr rfl))(hd:(x==("__debug__":Str))=false:=by decide)
  (hcd:(x==("__classdict__":Str))=false:=by decide):PE X (.Name x pos) (RH i):=Rm hN hv hd hcd
end
theorem VL {A B:Prop}(h:B):if false=true then A else B:=by
 rwa[Zh Zw]
theorem VM {A B:Prop}(h:A):if true=true then A else B:=by
 rwa[Zk rfl]
theorem VU {c A B:Prop} [Decidable c](h1:c->A)(h2:¬c->B):if c then A else B:=by
 by_cases h:c
 ·rw[Zk h];exact h1 h
 ·rw[Zh h];exact h2 h
theorem Pk {c A B:Prop} [Decidable c](hc:c)(h:B):if(!decide c)=true then A else B:=by
 rw[QX hc];exact VL h
def Same (H H':Hp):Prop:=∀b o,H b=some o->H' b=some o
theorem Same.refl (H:Hp):Same H H:=fun _ _ h=>h
theorem Same.trans (a:Same H H1)(b:Same H1 H2):Same H H2:=fun c o h=>b c o (a c o h)
theorem Same.free (e:Same H H'){l:Eh}(h:H' l=Option.none):H l=Option.none:=by
 cases q:H l with
 |none=>rfl
 |some o =>
  rw[e l o q]at h;cases h
theorem Same.seq {K:AZ}(e:Same H H')(h:SqL K H a xs):SqL K H' a xs:=by
 rcases h with(h|⟨o,h⟩)|h
 ·exact .inl (.inl (e _ _ h))
 ·exact .inl (.inr ⟨o,e _ _ h⟩)
 ·exact .inr h
section
variable {κ:Type} [DecidableEq κ]
theorem XI {Dm:List (κ×V)}{k:κ}(h:VQ Dm k=none):¬k∈Dm.map (·.1):=by
 intro m;obtain⟨p,hp,e⟩:=QZ.mp m;have q:(Dm.any fun kv=>decide (kv.1=k))=true:=Z2.mpr ⟨p,hp,QX e⟩;rw[xW,h]at q;exact absurd q (by simp)
theorem uL {Dm:List (κ×V)}{k:κ}{v:V}(h:VQ Dm k=some v):k∈Dm.map (·.1):=by
 have q:(Dm.any fun kv=>decide (kv.1=k))=true:=by
  rw[xW,h]
  all_goals rfl
 obtain⟨p,hp,e⟩:=Z2.mp q;exact QZ.mpr ⟨p,hp,Zb e⟩
theorem q8:∀{l:List κ} {k:κ},l.Nodup->¬k∈l->(l++[k]).Nodup
 |[],k,_,_=>by simp
 |a::r,k,h,hk=>by
  obtain⟨h1,h2⟩:=Z1.mp h;show(a::(r++[k])).Nodup;refine Z1.mpr ⟨fun m=>?_,q8 h2 fun m=>hk (Q7.mpr (Or.inr m))⟩
  rcases Zf.mp m with q|q
  ·exact h1 q
  ·exact hk (Q7.mpr (EJ (QV.mp q).symm))
end
theorem jB {α β:Type}{f:α->β->Sem (ForInStep β)}(g:β->α->β):∀(l:List α) (c:β),(∀x∈l,∀c,f x c=Ly (.yield (g c x)))->forIn l c f=Ly (l.foldl g c)
 |[],c,_=>rfl
 |x::l,c,h=>by
  rw[List.forIn_cons,h x Q1,pure_bind];exact jB g l (g c x) fun y hy=>h y (QY _ hy)
def Ux (cells:List (Str×Eh))(c:List (Str×Eh))(x:Str×LO):List (Str×Eh) :=
 if x.2==.free then(match cells.lookup x.1 with|some a=>(x.1,a)::c|none=>c) else c
def qD (env:Env)(sc:LM):List (Str×Eh):=sc.names.foldl (Ux env.cells) []
theorem kS {scope:LM}{env:Env}(h:∀x∈scope.names,x.2=.free->∃c,env.cells.lookup x.1=some c):closureFor scope env=Ly (qD env scope):=by
 simp only[closureFor];rw[jB (Ux env.cells) scope.names [] (fun x hx c=>?_)]
 ·rfl
 ·obtain⟨n,k⟩:=x;unfold Ux;cases hk:(k==NameKind.free) with
  |true =>
   have e:k=.free:=by simpa using hk
   obtain⟨a,ha⟩:=h (n,k) hx e;have ha':env.cells.lookup n=some a:=ha;simp only[hk,VJ,cellOf,ha',pure_bind]
  |false=>simp only[hk,Yt,JD]
theorem x5 {β:Type}(x n:Str)(a:β)(l:List (Str×β)):Lw x ((n,a)::l)=if x=n then some a else Lw x l:=by
 by_cases h:x=n
 ·have hb:(x==n)=true:=Jn.mpr h;simp only[List.lookup_cons,hb,Zk h]
 ·have hb:(x==n)=false:=Yx.mpr h;simp only[List.lookup_cons,hb,Zh h]
theorem XL {cells:List (Str×Eh)}:∀(names:List (Str×LO)) (acc:List (Str×Eh)),(∀x c,acc.lookup x=some c->cells.lookup x=some c) ->
  ∀x c,(names.foldl (Ux cells) acc).lookup x=some c->cells.lookup x=some c
 |[],acc,h=>h
 |(n,k)::r,acc,h=>XL r _ fun x c e=>by
  unfold Ux at e
  by_cases hk:((n,k).2==NameKind.free)=true
  ·rw[Zk hk]at e;dsimp only at e;cases q:cells.lookup n with
   |none=>rw[q]at e;exact h x c e
   |some a =>
    rw[q]at e;dsimp only at e;rw[x5]at e
    by_cases hx:x=n
    ·rw[Zk hx]at e;rwa[hx,q]
    ·rw[Zh hx]at e;exact h x c e
  ·rw[Zh hk]at e;exact h x c e
theorem Gb:∀(names:List (Str×LO)) (acc:List (Str×Eh)) (x:Str),(∃c,acc.lookup x=some c)->∃c,(names.foldl (Ux cells) acc).lookup x=some c
 |[],acc,x,h=>h
 | (n,k)::r,acc,x,h=>Gb r _ x (by
  obtain⟨c,h⟩:=h;unfold Ux
  by_cases hk:((n,k).2==NameKind.free)=true
  ·rw[Zk hk];dsimp only;cases q:cells.lookup n with
   |none=>exact⟨c,h⟩
   |some a =>
    dsimp only;rw[x5]
    by_cases hx:x=n
    ·exact⟨a,by rw[Zk hx]⟩
    ·exact⟨c,by rw[Zh hx];exact h⟩
  ·rw[Zh hk];exact⟨c,h⟩)
theorem Bx {cells:List (Str×Eh)}{x:Str}{c:Eh}(hc:cells.lookup x=some c):∀(names:List (Str×LO)) (acc:List (Str×Eh)),(x,NameKind.free)∈names->∃c,(names.foldl (Ux cells) acc).lookup x=some c
 |[],acc,h=>by cases h
 |(n,k)::r,acc,h=>by
  rcases Q7.mp h with e|e
  ·cases e;refine Gb r _ x ⟨c,?_⟩;unfold Ux;rw[Zk (by rfl)];dsimp only;rw[hc];dsimp only;rw[x5,Zk rfl]
  ·exact Bx hc r _ e
theorem He {env:Env}{sc:LM}{x:Str}{c:Eh}(hc:env.cells.lookup x=some c)(hm:(x,NameKind.free)∈sc.names):(qD env sc).lookup x=some c:=by
 obtain⟨c',h⟩:=Bx hc sc.names [] hm;have e:=XL sc.names [] (fun x c e=>by cases e) x c' h;rw[hc]at e;cases e;exact h
theorem j5 {x:Str}{c:Eh}(h:(qD env sc).lookup x=some c):env.cells.lookup x=some c :=
 XL sc.names [] (fun x c e=>by cases e) x c h
def CT (env:Env)(x:Str)(k:LO):NameKind:=if(k==.free&&env.scope.kind==.function&&env.kindOf x==some .cell) then .cell else k
theorem j4 {env:Env}(x:Str):∀names:List (Str×LO),
  (names.map fun(n,k)=>if(k==NameKind.free&&env.scope.kind==.function&&env.kindOf n==some .cell) then(n,NameKind.cell) else(n,k)).lookup x=(names.lookup x).map (CT env x)
 |[]=>rfl
 |(n,k)::r=>by
  have ih:=j4 (env:=env) x r;rw[Zn];have e:(if(k==NameKind.free&&env.scope.kind==.function&&env.kindOf n==some .cell)=true then(n,NameKind.cell) else(n,k))=(n,CT env n k):=by
   unfold CT
   split<;>rfl
  dsimp only;rw[e,x5,x5]
  by_cases hx:x=n
  ·rw[Zk hx,Zk hx,hx];rfl
  ·rwa[Zh hx,Zh hx]
theorem UX {env:Env}{scope:LM}{cl:List (Str×Eh)}{C:Eh}(x:Str):(L9 scope cl C env).scope.names.lookup x=(scope.names.lookup x).map (CT env x):=j4 x scope.names
def V6 (src:List (Option Nat))(σ:St):St:=src.map fun o=>o.bind fun i=>(σ[i]?).join
structure CompOk (sc:LM)(N N':Da)(src:List (Option Nat))(scope:LM):Prop where
 nd:N'.Nodup
 len:src.length=N'.length
 kind:scope.kind=.function
 nocell:∀y∈scope.names,y.2≠.cell
 names:∀y∈scope.names,y.2=.local->scope.names.lookup y.1=some .local
 free:∀y∈scope.names,y.2=.free->sc.names.lookup y.1=some .cell\/sc.names.lookup y.1=some .free
 srcs:((src.zip N').all fun(o,x)=>match o with|none=>true|some i=>N[i]?==some x&&scope.names.lookup x==some .free)=true
theorem CompOk.at (O:CompOk sc N N' src scope){j i:Nat}{x:Str}(h1:src[j]?=some (some i))(h2:N'[j]?=some x):N[i]?=some x/\scope.names.lookup x=some .free:=by
 have hz:(src.zip N')[j]?=some (some i,x):=by rw[Y5];exact⟨h1,h2⟩
 have q:=Zu.mp O.srcs _ (Zc hz);have q':(N[i]?==some x&&scope.names.lookup x==some .free)=true:=q;rw[Q8]at q';exact⟨Vw q'.1,Vw q'.2⟩
def Cx.comp (X:Cx)(N':Da)(scope:LM)(C:Eh)(s:Ej)(H:Hp)(fp:Dd):Cx :=
 { X with N:=N',s₀:=s,H₀:=H,env:=L9 scope (qD X.env scope) C X.env,outer:=X.stack,ex:=fp,fn:=fun _=>false,pn:=[],xe:=fun _ _=>False }
theorem Un.adopt {D:Eh}(u:Un fs ex H H1 h h1)(hD:h.get? D=none)(hH:H D=none):Un fs ex H (upd H1 D o) h h1 where
 keep:=u.keep
 slot:=u.slot
 free:=fun b ob q n hx=>by
  have hb:b≠D:=fun z=>by rw[z,hD]at q;cases q
  rw[zG hb];exact u.free b ob q n hx
 there:=u.there
 tups:=fun b xs q=>by rw[zG (zM q hH)];exact u.tups b xs q
 frzs:=fun b ob xs q=>by rw[zG (zM q hH)];exact u.frzs b ob xs q
 tbls:=fun b ps q=>by rw[zG (zM q hH)];exact u.tbls b ps q
theorem HOk.adopt {D:Eh}(x:HOk P w H h)(n:H D=none)(new:ObjOk P w (upd H D o) h D o):HOk P w (upd H D o) h:=fun b u e=>by
 by_cases hb:b=D
 ·subst hb;rw[zB]at e;cases e;exact new
 ·rw[zG hb]at e;exact(x b u e).stay (fun c v _ q=>q) (fun c q=>by rwa[zG (zM q n)]) fun c xs q=>by rwa[zG (zM q n)]
def PFi (X:Cx)(ifs:List EI)(tf:TT):Prop :=
 ∀(Dp:De) (s:Ej) (σ:St) (H:Hp) (Q:Bool->Hp->Prop),Inv X Dp σ H s->tf σ H Q ->
  Ek (Es X.prog X.w) X.A (forIn ifs true fun c r=>if r=true then do let ok ←isTrue c X.env (EY c X.env);Ly (Mc ok) else Ly (Mc r)) (TP X Dp σ Q) X.xe s
def Gq:TT:=fun _ H Q=>Q true H
theorem qF:PFi X [] Gq:=by
 intro Dp s σ H Q I h;rw[List.forIn_nil];exact Q3 ⟨H,I,h⟩
theorem XS (hc:PT X c tc):PFi X [c] tc:=by
 intro Dp s σ H Q I h;rw[List.forIn_cons];refine QW (QW (A3 (hc Dp s σ H _ I h) fun b s1 ⟨H1,I1,q1⟩=>Q3 ?_));dsimp only;rw[List.forIn_nil];exact Q3 ⟨H1,I1,q1⟩
def Uw (src:List (Option Nat))(J:It)(g:TG)(tf:TT)(te:TE)(Q:VK)(σ:St)(H:Hp):Prop :=
 ∃W:Nat->Nat->Dj->St->Hp->Prop,(∃m,W 0 m [] (V6 src σ) H)/\∀i m ys σ' H',W i m ys σ' H'->ys.length<=sizeLine /\
 ((J.stop i H'/\∀p,H' p=none->Q (.ref p) (upd H' p (.lst ys))) \/ (J.go i H'/\∃Nx:Dj->St->Hp->Prop,(∀ys2 σ2 H2,Nx ys2 σ2 H2->∃m',m'<m/\W (i+1) m' ys2 σ2 H2) /\ ∀x H2,J.yld i H' x H2->g x σ' H2 fun σ2 H3=>tf σ2 H3 fun b H4=>if b=true then te σ2 H4 fun y H5=>Nx (ys++[y]) σ2 H5 else Nx ys σ2 H4))
def Pz (src:List (Option Nat))(wi:TI)(g:TG)(tf:TT)(te:TE):TE:=fun σ H Q=>wi σ H fun J H1=>Uw src J g tf te Q σ H1
section
variable {X:Cx}{tg elt iter:EI}{ifs:List EI}{scope sc:LM}{N N':Da}{src:List (Option Nat)}{g:TG}{tf:TT}{te:TE}{wi:TI}{pos:Pos}
theorem M0 {prog:Ei}{w:Eo}{A:EF}{R:Result->Dh}{s:Ej}{it acc:Eg}{env:Env}(I:Nat->Dh)
  (turn:∀n s,I n s->Ek (Es prog w) A (Ma it) (fun r s₁=>match r with
   |none=>R (.ok .next) s₁
   | some v=>Ek (Es prog w) A (LQ tg it v) (fun _ s₂=>Ek (Es prog w) A (assign tg env v) (fun _ s₃ =>
     Ek (Es prog w) A (forIn ifs true fun c r=>if r=true then do let ok ←isTrue c env (EY c env);Ly (Mc ok) else Ly (Mc r)) (fun ok s₄ =>
      if ok=true then Ek (Es prog w) A (EY elt env) (fun x s₅ =>
       Ek (Es prog w) A (call (.builtin "list.append") [acc,x]) (fun _ s₆=>∃m,m<n/\I m s₆) (fun _ _=>False) s₅) (fun _ _=>False) s₄
      else∃m,m<n/\I m s₄) (fun _ _=>False) s₃) (fun _ _=>False) s₂) (fun _ _=>False) s₁) (fun _ _=>False) s)
  (n:Nat) (h:I n s):LR (Es prog w) A (.compLoop (.ListComp elt [⟨tg,iter,ifs,0⟩] scope pos) 0 it acc env) R s:=by
 refine codeAny_loop rfl I (fun n s hI=>?_) n h;show Ek _ A ((compTurn (.ListComp elt [⟨tg,iter,ifs,0⟩] scope pos) 0 it acc env).onRaise (fun x=>do noteFrame x env;theTreesLotGoes x)) _ _ s;refine wpAny_noted ?_;rw[compTurn_list];refine QW (wpAny_standAt (QW (Yd (turn n s hI) (fun r s₁ h₁=>?_) fun _ _ h'=>h'.elim)));cases r with
 |none=>exact Q3 h₁
 |some v =>
  refine QW (Yd h₁ (fun _ s₂ h₂=>?_) fun _ _ h'=>h'.elim);refine QW (Yd h₂ (fun _ s₃ h₃=>QW (Yd h₃ (fun ok s₄ h₄=>?_) fun _ _ h'=>h'.elim)) fun _ _ h'=>h'.elim);cases ok with
  |false=>exact Q3 ⟨rfl,h₄⟩
  |true =>
   exact QW (QW (Yd h₄ (fun x s₅ h₅=>QW (Yd h₅ (fun _ s₆ h₆=>Q3 (Q3 ⟨rfl,h₆⟩)) fun _ _ h'=>h'.elim)) fun _ _ h'=>h'.elim))
theorem Oe {fp:Dd}{C:Eh}(O:CompOk sc N N' src scope)(hsc:X.env.scope=sc)(I:Inv X Dp σ H s)(hf:∀b∈fp,U6 X Dp H b)
  (ho:∀b∈fp,∃o,s.heap.get? b=some o) (hC:s.heap.objs.size<=C):(X.comp N' scope C s H fp).Ok:=by
 have hk:∀x,((L9 scope (qD X.env scope) C X.env).kindOf x=some .cell\/(L9 scope (qD X.env scope) C X.env).kindOf x=some .free)->(x,NameKind.free)∈scope.names:=fun x h=>by
  have h:(L9 scope (qD X.env scope) C X.env).scope.names.lookup x=some .cell\/(L9 scope (qD X.env scope) C X.env).scope.names.lookup x=some .free:=h;rw[UX]at h;cases q:scope.names.lookup x with
  |none=>rw[q]at h;rcases h with h|h<;>cases h
  |some k =>
   have hm:=Yz q;rw[q]at h;cases k with
   |free=>exact hm
   |cell=>exact absurd rfl (O.nocell _ hm)
   |_ =>
    exfalso
    rcases h with h|h<;>(have h':=Option.some.inj h;unfold CT at h';simp at h')
 refine⟨I.ok.mod,O.kind,I.ok.glob,I.ok.blt,hC,fun x y c h1 h2=>I.ok.inj x y c (j5 h1) (j5 h2),fun x h=>?_,fun x c h=>(by cases h),I.ok.hd,I.ok.frames,.inl rfl,fun b hb=>?_,I.bs,ZD I.ok.bsz I.sz,fun b o e hb=>?_,fun b hb z=>?_,I.stack,I.stkFree⟩
 ·have hm:=hk x h;have hx:=O.free _ hm rfl;rw[←hsc]at hx;obtain⟨c,hc⟩:=I.ok.has x hx;exact⟨c,He hc hm⟩
 ·refine⟨?_,fun x c h=>(hf b hb).2.2.2.2.1 x c (j5 h)⟩;obtain⟨o,e⟩:=ho b hb;exact Zr (Zp (Zi e) hC)
 ·rcases(hf b hb).2.2.2.1 with z|z
  ·exact I.ok.noex b o e z
  ·exact absurd (Zp (Zp (Zi e) I.ok.bsz) z) (Yc _)
 ·rcases Q7.mp (I.stkSub b z) with e|e
  ·exact(hf b hb).2.1 e
  ·exact(hf b hb).2.2.1 e
theorem Mq {fp:Dd}{C:Eh}{h':EC}{tk:Nat}(O:CompOk sc N N' src scope)(hsc:X.env.scope=sc)(hN:X.N=N)(I:Inv X Dp σ H s)(hf:∀b∈fp,U6 X Dp H b)
  (ho:∀b∈fp,∃o,s.heap.get? b=some o) (hC:s.heap.objs.size<=C) (k:∀b o,s.heap.get? b=some o->h'.get? b=some o) {m':Str->Dc} (hn:h'.Ns C m') :
  Inv (X.comp N' scope C s H fp) [] (V6 src σ) H { s with heap:=h',toks:=tk }:=by
 have cells:∀x c,X.env.cells.lookup x=some c->∀v,s.heap.IsCell c v->h'.IsCell c v:=fun x c _ v ⟨o,e,d⟩=>⟨o,k c o e,d⟩;refine⟨Oe O hsc I hf ho hC,rfl,I.bare,Un.kept k,⟨_,hn,fun j x v e1 e2 e3=>?_⟩,fun x c e=>?_,I.hok.fresh hC,fun x c e=>I.freeC x c (j5 e),fun p hp=>(by cases hp),I.hok.kept k,?_⟩
 ·have e2:(V6 src σ)[j]?=some (some v):=e2;have e1:N'[j]?=some x:=e1;unfold V6 at e2;rw[Za]at e2;cases q:src[j]? with
  |none=>rw[q]at e2;cases e2
  |some o =>
   rw[q]at e2;have e2:(o.bind fun i=>(σ[i]?).join)=some v:=Option.some.inj e2;cases o with
   |none=>cases e2
   |some i =>
    have e2:(σ[i]?).join=some v:=e2;obtain⟨y2,hlk⟩:=O.at q e1;have y3:=Yz hlk;have e4:σ[i]?=some (some v):=by
     cases r:σ[i]? with
     |none=>rw[r]at e2;cases e2
     |some w=>rw[r]at e2;cases w with
      |none=>cases e2
      |some w'=>have:w'=v:=Option.some.inj e2;rw[this]
    have hx:=O.free _ y3 rfl;rw[←hsc]at hx;obtain⟨m,hm,hl⟩:=I.loc;obtain⟨u,ru,lu⟩:=hl i x v (by rwa[hN]) e4 (.inr hx);refine⟨u,ru,.inr ?_⟩;obtain⟨c,hc,hcell⟩:∃c,X.env.cells.lookup x=some c/\s.heap.IsCell c (some u):=by
     rcases lu with⟨z,_⟩|⟨_,c,hc,hz⟩
     ·exfalso;have z:X.env.scope.names.lookup x=some .local:=z
      rcases hx with hx|hx<;>(rw[hx]at z;cases z)
     ·exact⟨c,hc,hz⟩
    refine⟨?_,c,He hc y3,cells x c hc _ hcell⟩;show(L9 scope (qD X.env scope) C X.env).scope.names.lookup x=some .cell\/(L9 scope (qD X.env scope) C X.env).scope.names.lookup x=some .free;rw[UX,hlk];show some (CT X.env x .free)=some .cell\/some (CT X.env x .free)=some .free;unfold CT
    split
    ·exact .inl rfl
    ·exact .inr rfl
 ·obtain⟨v,z⟩:=I.cell x c (j5 e);exact⟨v,cells x c (j5 e) v z⟩
 ·show(V6 src σ).length=N'.length;unfold V6;rw[QU];exact O.len
theorem X1 {Dp:De}{σ:St}{H:Hp}{s:Ej}{fp:Dd}{it:Eh}{tn:Nat->EC->Prop}{J:It}{E:Eg->Dh}{RR:Eg->Eh->Result->Dh}{Fin:Dj->Hp->Prop}(O:CompOk sc N N' src scope)(hsc:X.env.scope=sc)(hN:X.N=N)(D1:X.calm=true)
  (hg:∀C s H fp,PG (X.comp N' scope C s H fp) tg g) (hft:∀C s H fp,PFi (X.comp N' scope C s H fp) ifs tf) (he:∀C s H fp,PE (X.comp N' scope C s H fp) elt te)
  (I:Inv X Dp σ H s) (T:Turn X.prog X.w X.K tg J fp it tn) (t0:tn 0 s.heap) (hf:∀b∈fp,U6 X Dp H b)
  (W:Nat->Nat->Dj->St->Hp->Prop) (m0:Nat) (w0:W 0 m0 [] (V6 src σ) H)
  (hW:∀i m ys σ' H',W i m ys σ' H'->ys.length<=sizeLine/\((J.stop i H'/\Fin ys H') \/ (J.go i H'/\∃Nx:Dj->St->Hp->Prop,(∀ys2 σ2 H2,Nx ys2 σ2 H2->∃m',m'<m/\W (i+1) m' ys2 σ2 H2) /\ ∀x H2,J.yld i H' x H2->g x σ' H2 fun σ2 H3=>tf σ2 H3 fun b H4=>if b=true then te σ2 H4 fun y H5=>Nx (ys++[y]) σ2 H5 else Nx ys σ2 H4)))
  (hRR:∀(D C:Eh) (s':Ej) (σ':St) (H':Hp) (ys:Dj) (its:Db) (n:Nat),s.heap.objs.size<=D->s.heap.objs.size<=C->Inv (X.comp N' scope C s H fp) [] σ' H' s'->s'.heap.get? D=some { cls:=.type "list",data:=.seq its.toArray n }->Vals ys its->ys.length<=sizeLine -> H' D=none->D≠C->Fin ys H'->RR (.ref D) C (.ok .next) s') :
  Ek (Es X.prog X.w) X.A (newList []) (fun acc s₃=>Ek (Es X.prog X.w) X.A (newFunctionEnv scope X.env.globals (qD X.env scope) [] X.env.qual none .none (some X.env)) (fun cenv s₄ => LR (Es X.prog X.w) X.A (.compStart (.ListComp elt [⟨tg,iter,ifs,0⟩] scope pos) 0 (.ref it) acc { cenv with scope:=relabel scope X.env }) (RR acc cenv.locals) s₄) E s₃) E s:=by
 refine ZR (wpAny_newFunctionEnv O.nocell (by intro y hy;cases hy) (fun h₁ hns₁ hsb₁=>?_) O.kind);dsimp only at hns₁ hsb₁ ⊢;generalize hH2:s.heap.push { cls:=.type "list",dict:=none,data:=.seq ([]:Db).toArray }=P2 at hns₁ hsb₁ ⊢;have hCs:P2.objs.size=s.heap.objs.size+1:=by rw[←hH2,Yk]
 have hDC:s.heap.objs.size≠P2.objs.size:=by rw[hCs];exact Zr (Jg _)
 have hCle:s.heap.objs.size<=P2.objs.size:=by rw[hCs];exact Jm _
 have below:∀b,b<s.heap.objs.size->b≠P2.objs.size/\b≠s.heap.objs.size:=fun b hb=>⟨by rw[hCs];exact Zr (YK hb),Zr hb⟩;have old:∀b o,s.heap.get? b=some o->h₁.get? b=some o:=fun b o e=>hsb₁.extBut b o (below b (Zi e)).1 (Q0 _ (hH2▸Q0 _ e));have Ef:h₁.get? s.heap.objs.size=some { cls:=.type "list",data:=.seq ([]:Db).toArray 0 }:=hsb₁.extBut _ _ hDC (Q0 _ (hH2▸Ze _ rfl));have fpo:∀b∈fp,∃o,s.heap.get? b=some o:=fun b hb=>let ⟨o,e,_⟩:=T.obj 0 _ t0 b hb;⟨o,e⟩;have fplt:∀b∈fp,b<s.heap.objs.size:=fun b hb=>let ⟨o,e⟩:=fpo b hb;Zi e;generalize hD:s.heap.objs.size=D at *;generalize hC:P2.objs.size=C at *;have ok1:∀tk,Inv (X.comp N' scope C s H fp) [] (V6 src σ) H { s with heap:=h₁,toks:=tk }:=fun tk=>Mq O hsc hN I hf fpo (by rwa[hD]) old hns₁;have okX:(X.comp N' scope C s H fp).Ok:=(ok1 0).ok;have stat:∀{H':Hp} {pl:De},(∀b∈fp,H' b=none)->(∀p∈pl,p.1∉fp)->∀b∈fp,U6 (X.comp N' scope C s H fp) pl H' b:=fun{H' pl} hn hp b hb =>
  ⟨hn b hb,(okX.exf b hb).1,okX.exfs b hb,.inl hb,(okX.exf b hb).2,fun p hm=>by
   have hm:p∈pl:=by simpa[Cx.comp] using hm
   exact fun z=>hp p hm (z▸hb)⟩
 have Dfs:D∉(X.comp N' scope C s H fp).fs:=fun hb=>by
  obtain⟨_,o,ho,_⟩:=okX.funs.mem hb;have ho:s.heap.get? D=some o:=ho;have h1:=Zi ho;rw[hD]at h1;exact Yc _ h1
 have Dcell:∀x c,(X.comp N' scope C s H fp).env.cells.lookup x=some c->c≠D:=fun x c e z=>by
  obtain⟨v,o,ho,_⟩:=I.cell x c (j5 e);have h1:=Zi ho;rw[hD,z]at h1;exact Yc _ h1
 have loop:∀tk,LR (Es X.prog X.w) X.A (.compLoop (.ListComp elt [⟨tg,iter,ifs,0⟩] scope pos) 0 (.ref it) (.ref D) (L9 scope (qD X.env scope) C X.env)) (RR (.ref D) C) { s with heap:=h₁,toks:=tk }:=by
  intro tk;refine M0 (fun n s'=>∃i ys σ' H' its c,Inv (X.comp N' scope C s H fp) [] σ' H' s'/\tn i s'.heap/\(∀b∈fp,H' b=none)/\s'.heap.get? D=some { cls:=.type "list",data:=.seq (its:Db).toArray c }/\Vals ys its/\H' D=none/\W i n ys σ' H') ?_ m0
   ⟨0,[],V6 src σ,H,[],0,ok1 tk,T.keep 0 _ _ t0 fun b _ o e=>old b o e,fun b hb=>(hf b hb).1,Ef,.nil,I.hok.fresh (by rw[hD];exact Q2 _),w0⟩
  rintro n s3 ⟨i,ys,σ3,H3,its,c3,I3,st3,fr3,d3,v3,nD3,w3⟩;obtain⟨Dq,alt⟩:=hW i n ys σ3 H3 w3
  rcases alt with⟨stop,fin⟩|⟨go,Nx,hNx,step⟩
  ·have I3':Inv (X.comp N' scope C s H fp) [(D,{ cls:=.type "list",data:=.seq its.toArray c3 })] σ3 H3 s3:=I3.pins_of fun p hp=>by
    have e:p=(D,{ cls:=.type "list",data:=.seq its.toArray c3 }):=by simpa using hp
    subst e;exact⟨d3,nD3,hDC,Dfs,fun v z=>by cases z⟩
   refine A3 (T.done (X.comp N' scope C s H fp) rfl rfl rfl D1 i _ s3 σ3 H3 _ I3' (stat fr3 fun p hp z=>by
    have e:p=(D,{ cls:=.type "list",data:=.seq its.toArray c3 }):=by simpa using hp
    rw[e]at z;exact Yc _ (fplt D z)) st3 stop) fun r s4 ⟨hr,I4⟩=>?_
   subst hr;obtain⟨d4,nD4,_⟩:=I4.pin (D,{ cls:=.type "list",data:=.seq its.toArray c3 }) (by simp[Cx.comp]);exact hRR D C s4 σ3 H3 ys its c3 (by omega) (by omega) (I4.pins_of fun p hp=>(by cases hp)) d4 v3 Dq nD4 hDC fin
  ·have I3':Inv (X.comp N' scope C s H fp) [(D,{ cls:=.type "list",data:=.seq its.toArray c3 })] σ3 H3 s3:=I3.pins_of fun p hp=>by
    have e:p=(D,{ cls:=.type "list",data:=.seq its.toArray c3 }):=by simpa using hp
    subst e;exact⟨d3,nD3,hDC,Dfs,fun v z=>by cases z⟩
   have hpD:∀p∈[((D,{ cls:=.type "list",data:=.seq its.toArray c3 }):Eh×Obj)],p.1∉fp:=fun p hp z=>by
    have e:p=(D,{ cls:=.type "list",data:=.seq its.toArray c3 }):=by simpa using hp
    rw[e]at z;exact Yc _ (fplt D z)
   refine A3 (T.item (X.comp N' scope C s H fp) rfl rfl rfl D1 i _ s3 σ3 H3 _ I3' (stat fr3 hpD) st3 go) fun r s4 ⟨u,hr,h4⟩=>?_;subst hr;refine A3 h4 fun _ s5 ⟨x,H5,I5,r5,y5,st5,fr5⟩=>?_;have I5':=I5.pinned (stat fr5 hpD) (T.obj _ _ st5);have pinD:(D,({ cls:=.type "list",data:=.seq its.toArray c3 }:Obj))∈(X.comp N' scope C s H fp).pn++([((D,{ cls:=.type "list",data:=.seq its.toArray c3 }):Eh×Obj)]++UI fp s5.heap):=by simp[Cx.comp]
   have back:∀{σ7:St} {H7:Hp} {s7:Ej},Inv (X.comp N' scope C s H fp) ([((D,{ cls:=.type "list",data:=.seq its.toArray c3 }):Eh×Obj)]++UI fp s5.heap) σ7 H7 s7 ->
     tn (i+1) s7.heap/\∀b∈fp,H7 b=none:=fun{σ7 H7 s7} I7=>⟨T.keep _ _ _ st5 fun b hb o e=>(I7.pin (b,o) (Zo _ (Zo _ (jP hb e)))).1,fun b hb=>by
    obtain⟨o,e,d⟩:=T.obj _ _ st5 b hb;exact(I7.pin (b,o) (Zo _ (Zo _ (jP hb e)))).2.1⟩
   refine A3 (hg C s H fp _ s5 σ3 H5 x u _ I5' r5 (step x H5 y5)) fun _ s6 ⟨σ6,H6,I6,q6⟩=>?_;refine A3 (hft C s H fp _ s6 σ6 H6 _ I6 q6) fun b s7 ⟨H7,I7,q7⟩=>?_;cases b with
   |false =>
    obtain⟨m',hm',w7⟩:=hNx ys σ6 H7 (by simpa using q7);obtain⟨b1,b2⟩:=back I7;obtain⟨d7,nD7,_⟩:=I7.pin _ pinD;exact⟨m',hm',i+1,ys,σ6,H7,its,c3,I7.pins_of fun p hp=>(by cases hp),b1,b2,d7,v3,nD7,w7⟩
   |true =>
    have q7:te σ6 H7 fun y H5=>Nx (ys++[y]) σ6 H5:=by simpa using q7
    rw[Zk rfl];refine A3 (he C s H fp _ s7 σ6 H7 _ I7 q7) fun u8 s8 ⟨y,H8,I8,r8,n8⟩=>?_;obtain⟨m',hm',w8⟩:=hNx _ _ _ n8;obtain⟨b1,b2⟩:=back I8;obtain⟨d8,nD8,_⟩:=I8.pin _ pinD;have hl:=v3.length;refine wpAny_list_append_plain (items:=its.toArray) ⟨c3,d8⟩ (fun h9 ⟨c9,d9⟩ sb9=>?_) (by rwa[Zg,←hl]);have I8':Inv (X.comp N' scope C s H fp) [] σ6 H8 s8:=I8.pins_of fun p hp=>by cases hp
    have I9:Inv (X.comp N' scope C s H fp) [] σ6 H8 { s8 with heap:=h9 }:=I8'.turned (t':=s8.toks) (it:=D) (fun b o hb e=>(sb9.2 b hb).trans e) nD8 hDC (.inr (by show s.heap.objs.size<=D;omega)) Dcell (fun p hp=>by
     have hp:p∈([]:De):=by simpa[Cx.comp] using hp
     cases hp)
    refine⟨m',hm',i+1,ys++[y],σ6,H8,its++[u8],c9,I9,T.keep _ _ _ b1 fun b hb o e=>(sb9.2 b (fun z=>Yc _ (z▸fplt b hb))).trans e,b2,?_,v3.append (.cons r8 .nil),nD8,w8⟩;show h9.get? D=_;rw[d9];simp
 exact codeAny_compStart_list (loop _) (T.self _ 0 _ _ _ (T.keep 0 _ _ t0 fun b _ o e=>old b o e) (loop _))
theorem comp_back {σ':St}{H':Hp}{s':Ej}{fp:Dd}{C D:Eh}{ys:Dj}{its:Db}{n:Nat}(I:Inv X Dp σ H s)(hf:∀b∈fp,U6 X Dp H b)
  (J:Inv (X.comp N' scope C s H fp) [] σ' H' s') (hD:s.heap.objs.size<=D) (d:s'.heap.get? D=some { cls:=.type "list",data:=.seq its.toArray n }) (v:Vals ys its) (hl:ys.length<=sizeLine) (nD:H' D=none) :
  Inv X Dp σ (upd H' D (.lst ys)) s':=by
 have u:Un (frs X.stack) fp H H' s.heap s'.heap:=J.base;refine I.call' (ch:=fp) J.os (u.adopt (Vb hD) (I.hok.fresh hD)) (J.hok.adopt nD ⟨hl,its,n,v,d⟩) J.bare fun b hb=>?_;obtain⟨_,f1,_,f3,f4,f5⟩:=hf b hb;exact⟨f3,f1,f4,f5⟩
theorem GC {C:Eh}{h':EC}(I:Inv X Dp σ H s)(I2:Inv X Dp σ2 H2 s2)(hC:s.heap.objs.size<=C)(nC:H2 C=none)(sb:Lb C s2.heap h'):Inv X Dp σ2 H2 { s2 with heap:=h' }:=by
 obtain⟨_,f1,_,f3,f4,f5⟩:=I.fpOk (H':=H2) hC nC;exact I2.turned (t':=s2.toks) (it:=C) (fun b o hb e=>(sb.2 b hb).trans e) nC f1 f3 f4 f5
theorem y7 (O:CompOk sc N N' src scope)(hsc:X.env.scope=sc)(hN:X.N=N)(D1:X.calm=true)(hi:PI X tg iter wi)
  (hg:∀C s H fp,PG (X.comp N' scope C s H fp) tg g) (hft:∀C s H fp,PFi (X.comp N' scope C s H fp) ifs tf) (he:∀C s H fp,PE (X.comp N' scope C s H fp) elt te)
  (hs:∀x,foldedSetIterable iter X.env x=Ly x:=by intro _;rfl):PE X (.ListComp elt [⟨tg,iter,ifs,0⟩] scope pos) (Pz src wi g tf te):=by
 intro Dp s σ H Q I h;rw[eval_ListComp];have hclos:closureFor scope X.env=Ly (qD X.env scope):=kS fun x hx hk=>I.ok.has x.1 (by
  have:=O.free x hx hk;rw[←hsc]at this;exact this)
 refine wpAny_comprehension_free (use:=none) rfl hs hclos O.kind O.names (A3 (hi Dp s σ H _ I h) fun v s1 h1=>A3 h1 fun itv s2 h2=>?_);obtain⟨it,fp,tn,J,H2,e,I2,T,st2,f2,W,⟨m0,w0⟩,turn⟩:=h2;subst e;refine X1 (RR:=fun acc C=>compPost (Es X.prog X.w) X.A X.xe none (EP X Dp σ Q) acc C) (Fin:=fun ys H'=>∀p,H' p=none->Q (.ref p) (upd H' p (.lst ys))) O hsc hN D1 hg hft he I2 T st2 f2 W m0 w0 turn ?_;intro D C s' σ' H' ys its n hD hC Jv d vv hl nD hDC fin;have I3:=comp_back I2 f2 Jv hD d vv hl nD;obtain⟨m,hm,_⟩:=Jv.loc;have nC:H' C=none:=Jv.free;refine⟨m,hm,fun h' sb=>⟨.ref D,_,GC I2 I3 hC (by rwa[zG (ED hDC)]) sb,rfl,fin D nD⟩⟩
theorem Xm {k:Nat}{y:Str}{py spos:Pos}(O:CompOk sc N N' src scope)(hsc:X.env.scope=sc)(hN:X.N=N)(D1:X.calm=true)(hi:PI X tg iter wi)
  (hg:∀C s H fp,PG (X.comp N' scope C s H fp) tg g) (hft:∀C s H fp,PFi (X.comp N' scope C s H fp) ifs tf) (he:∀C s H fp,PE (X.comp N' scope C s H fp) elt te)
  (nd:X.N.Nodup) (hk:X.N[k]?=some y) (hx:Loc X.env.scope y)
  (hsw:Mg (.ListComp elt [⟨tg,iter,ifs,0⟩] scope pos) (some (.Name y py)) spos.line X.env=Ly true:=by rfl)
  (hf:X.fn y=true\/X.env.scope.names.lookup y=some .local:=by first|exact .inl rfl|exact .inr rfl|assumption)
  (hs:∀x,foldedSetIterable iter X.env x=Ly x:=by intro _;rfl):PS X (.Assign [.Name y py] (.ListComp elt [⟨tg,iter,ifs,0⟩] scope pos) spos) (Rw (Pz src wi g tf te) (IU k)):=by
 intro Dp s σ H D₀ I h;rw[exec_Assign_Name_used _ _ _ _ hsw];refine QW (wpAny_standAt (QW ?_));show Ek _ X.A (do let _ ←comprehension (.ListComp elt [⟨tg,iter,ifs,0⟩] scope pos) scope X.env _ (newList []) false (EY iter X.env) (some (assign (.Name y py) X.env))) _ _ s;have hclos:closureFor scope X.env=Ly (qD X.env scope):=kS fun x hx hk=>I.ok.has x.1 (by
  have:=O.free x hx hk;rw[←hsc]at this;exact this)
 refine QW (Yd (wpAny_comprehension_free (use:=some (assign (.Name y py) X.env)) (Q:=fun _ s'=>SP X Dp D₀ .next s') rfl hs hclos O.kind O.names (A3 (hi Dp s σ H _ I h) fun v s1 h1=>A3 h1 fun itv s2 h2=>?_)) (fun _ s' hq=>Q3 (Q3 hq)) fun _ _ e=>e)
 obtain⟨it,fp,tn,J,H2,e,I2,T,st2,f2,W,⟨m0,w0⟩,turn⟩:=h2;subst e;refine X1 (RR:=fun acc C=>compPost (Es X.prog X.w) X.A X.xe (some (assign (.Name y py) X.env)) (fun _ s'=>SP X Dp D₀ .next s') acc C) (Fin:=fun ys H'=>∀p,H' p=none->IU k (.ref p) σ (upd H' p (.lst ys)) D₀.nx) O hsc hN D1 hg hft he I2 T st2 f2 W m0 w0 turn ?_;intro D C s' σ' H' ys its n hD hC Jv d vv hl nD hDC fin;have I3:=comp_back I2 f2 Jv hD d vv hl nD;obtain⟨m,hm,_⟩:=Jv.loc;have nC:H' C=none:=Jv.free;show Ek _ X.A (assign (.Name y py) X.env (.ref D)) _ _ s';refine wpAny_assign_Name (Gd I3 nd hk hx (v:=.ref D) rfl (fun s4 I4 ⟨a,sa,ha⟩=>?_) hf);have aC:C≠a:=by
  rcases ha with e|e
  ·rw[e];intro z;exact Yc _ (Zp I2.lt (z▸hC))
  ·intro z;obtain⟨v,o,ho,_⟩:=I2.cell y a e;exact Yc _ (Zp (Zi ho) (z▸hC))
 refine⟨m,Heap.Ns.sameBut hm sa aC,fun h' sb=>⟨_,_,GC I2 I4 hC (by rwa[zG (ED hDC)]) sb,fin D nD⟩⟩
end
def Tt (t u:TS):TS:=fun D σ H=>∃R:St->Hp->Prop,t { D with nx:=R } σ H/\∀σ' H',R σ' H'->u D σ' H'
theorem q9 {st:ER}{rest:List ER}(h1:PS X st t)(h2:PSs X rest u):PSs X (st::rest) (Tt t u):=by
 intro Dp s σ H D I ⟨R,h,hu⟩;refine Vu (A3 (h1 Dp s σ H { D with nx:=R } I h) fun f s1 q=>?_);cases f with
 |next =>
  obtain⟨σ',H',I',q⟩:=q;exact h2 Dp s1 σ' H' D I' (hu σ' H' q)
 |ret v=>exact q
 |brk=>exact q
 |cont=>exact q
section
variable {K:AZ}{src:List (Option Nat)}{g:TG}{tf:TT}{te:TE}{Q:VK}{a:Eh}{xs:Dj}{σ:St}{H:Hp}
theorem Ba {J:It}(n:Nat)(Pv:Nat->Dj->St->Hp->Prop)(h0:Pv 0 [] (V6 src σ) H)(hz:n<=sizeLine)(hl:∀i ys σ H,i<=n->Pv i ys σ H->ys.length<=i)
  (hst:∀ys σ H,Pv n ys σ H->J.stop n H) (hgo:∀i ys σ H,i<n->Pv i ys σ H->J.go i H)
  (hs:∀i ys σ H,i<n->Pv i ys σ H->∀x H2,J.yld i H x H2->g x σ H2 fun σ2 H3=>tf σ2 H3 fun b H4=>if b=true then te σ2 H4 fun y H5=>Pv (i+1) (ys++[y]) σ2 H5 else Pv (i+1) ys σ2 H4)
  (hd:∀ys σ H,Pv n ys σ H->∀p,H p=none->Q (.ref p) (upd H p (.lst ys))):Uw src J g tf te Q σ H:=by
 refine⟨fun i m ys σ H=>m=n-i/\i<=n/\Pv i ys σ H,⟨n,by simp,Zz _,h0⟩,?_⟩;rintro i m ys σ' H' ⟨rfl,hi,p⟩;have hy:=hl i ys σ' H' hi p;refine⟨by omega,?_⟩
 by_cases hlt:i<n
 ·exact .inr ⟨hgo i ys σ' H' hlt p,Pv (i+1),fun ys2 σ2 H2 z=>⟨n-(i+1),by omega,rfl,hlt,z⟩,fun x H2 y=>hs i ys σ' H' hlt p x H2 y⟩
 ·have e:i=n:=by omega
  subst e;exact .inl ⟨hst ys σ' H' p,hd ys σ' H' p⟩
theorem qL (Pv:Nat->Dj->St->Hp->Prop)(h0:Pv 0 [] (V6 src σ) H)(hz:xs.length<=sizeLine)(hl:∀i ys σ H,i<=xs.length->Pv i ys σ H->SqL K H a xs/\ys.length<=i)
  (hs:∀i x ys σ H,xs[i]?=some x->Pv i ys σ H->g x σ H fun σ2 H3=>tf σ2 H3 fun b H4=>if b=true then te σ2 H4 fun y H5=>Pv (i+1) (ys++[y]) σ2 H5 else Pv (i+1) ys σ2 H4)
  (hd:∀ys σ H,Pv xs.length ys σ H->∀p,H p=none->Q (.ref p) (upd H p (.lst ys))):Uw src (PH K a) g tf te Q σ H :=
 Ba xs.length Pv h0 hz (fun i ys σ H hi p=>(hl i ys σ H hi p).2) (fun ys σ H p=>⟨xs,(hl _ ys σ H (Q2 _) p).1,Q2 _⟩) (fun i ys σ H hi p=>⟨xs,xs[i],(hl i ys σ H (Yn hi) p).1,by simp[hi]⟩)
  (fun i ys σ H hi p x H2 y=>by
   obtain⟨e,y⟩:=y;subst e;exact hs i x ys σ _ (y xs (hl i ys σ _ (Yn hi) p).1) p) hd
theorem Mr (Pv:Nat->Dj->St->Hp->Prop)(h0:Pv 0 [] (V6 src σ) H)(hz:xs.length<=sizeLine)(hl:∀i ys σ H,i<=xs.length->Pv i ys σ H->SqT K H a xs/\ys.length<=i)
  (hs:∀i x ys σ H,xs[i]?=some x->Pv i ys σ H->g x σ H fun σ2 H3=>tf σ2 H3 fun b H4=>if b=true then te σ2 H4 fun y H5=>Pv (i+1) (ys++[y]) σ2 H5 else Pv (i+1) ys σ2 H4)
  (hd:∀ys σ H,Pv xs.length ys σ H->∀p,H p=none->Q (.ref p) (upd H p (.lst ys))):Uw src (PJ K a) g tf te Q σ H :=
 Ba xs.length Pv h0 hz (fun i ys σ H hi p=>(hl i ys σ H hi p).2) (fun ys σ H p=>⟨xs,(hl _ ys σ H (Q2 _) p).1,Q2 _⟩) (fun i ys σ H hi p=>⟨xs,xs[i],(hl i ys σ H (Yn hi) p).1,by simp[hi]⟩)
  (fun i ys σ H hi p x H2 y=>by
   obtain⟨e,y⟩:=y;subst e;exact hs i x ys σ _ (y xs (hl i ys σ _ (Yn hi) p).1) p) hd
theorem Fn {lo:Int}{n:Nat}(Pv:Nat->Dj->St->Hp->Prop)(h0:Pv 0 [] (V6 src σ) H)(hz:n<=sizeLine)(hl:∀i ys σ H,i<=n->Pv i ys σ H->ys.length<=i)
  (hs:∀i ys σ H,i<n->Pv i ys σ H->g (.int (lo+i)) σ H fun σ2 H3=>tf σ2 H3 fun b H4=>if b=true then te σ2 H4 fun y H5=>Pv (i+1) (ys++[y]) σ2 H5 else Pv (i+1) ys σ2 H4)
  (hd:∀ys σ H,Pv n ys σ H->∀p,H p=none->Q (.ref p) (upd H p (.lst ys))):Uw src (N7 lo n) g tf te Q σ H :=
 Ba n Pv h0 hz hl (fun _ _ _ _=>Q2 _) (fun _ _ _ _ hi _=>hi)
  (fun i ys σ H hi p x H2 y=>by
   obtain⟨e,y⟩:=y;subst e y;exact hs i ys σ _ hi p) hd
theorem G1 {te:TE}{A:V->St->Hp->Prop}{B:St->Hp->Prop}:(fun σ2 H3=>Gq σ2 H3 fun b H4=>if b=true then te σ2 H4 (fun y H5=>A y σ2 H5) else B σ2 H4)=fun(σ2:St) (H3:Hp)=>te σ2 H3 fun y H5=>A y σ2 H5:=by
 funext σ2 H3
 show(if true=true then(te σ2 H3 fun y H5=>A y σ2 H5) else B σ2 H3)=_;rw[Zk rfl]
theorem kX (Pv:Nat->Dj->St->Hp->Prop)(h0:Pv 0 [] (V6 src σ) H)(hz:xs.length<=sizeLine)(hl:∀i ys σ H,i<=xs.length->Pv i ys σ H->SqL K H a xs/\ys.length<=i)
  (hs:∀i x ys σ H,xs[i]?=some x->Pv i ys σ H->g x σ H fun σ2 H3=>te σ2 H3 fun y H5=>Pv (i+1) (ys++[y]) σ2 H5)
  (hd:∀ys σ H,Pv xs.length ys σ H->∀p,H p=none->Q (.ref p) (upd H p (.lst ys))):Uw src (PH K a) g Gq te Q σ H :=
 qL Pv h0 hz hl (fun i x ys σ H e p=>by rw[G1];exact hs i x ys σ H e p) hd
theorem qK (Pv:Nat->Dj->St->Hp->Prop)(h0:Pv 0 [] (V6 src σ) H)(hz:xs.length<=sizeLine)(hl:∀i ys σ H,i<=xs.length->Pv i ys σ H->SqT K H a xs/\ys.length<=i)
  (hs:∀i x ys σ H,xs[i]?=some x->Pv i ys σ H->g x σ H fun σ2 H3=>te σ2 H3 fun y H5=>Pv (i+1) (ys++[y]) σ2 H5)
  (hd:∀ys σ H,Pv xs.length ys σ H->∀p,H p=none->Q (.ref p) (upd H p (.lst ys))):Uw src (PJ K a) g Gq te Q σ H :=
 Mr Pv h0 hz hl (fun i x ys σ H e p=>by rw[G1];exact hs i x ys σ H e p) hd
theorem j7 {lo:Int}{n:Nat}(Pv:Nat->Dj->St->Hp->Prop)(h0:Pv 0 [] (V6 src σ) H)(hz:n<=sizeLine)(hl:∀i ys σ H,i<=n->Pv i ys σ H->ys.length<=i)
  (hs:∀i ys σ H,i<n->Pv i ys σ H->g (.int (lo+i)) σ H fun σ2 H3=>te σ2 H3 fun y H5=>Pv (i+1) (ys++[y]) σ2 H5)
  (hd:∀ys σ H,Pv n ys σ H->∀p,H p=none->Q (.ref p) (upd H p (.lst ys))):Uw src (N7 lo n) g Gq te Q σ H :=
 Fn Pv h0 hz hl (fun i ys σ H e p=>by rw[G1];exact hs i ys σ H e p) hd
end
mutual
def Dt (K:AZ)(H:Hp):El->V->Prop
 | .none,v=>v=.non
 | .bool b,v=>v=.bl b
 | .int i,v=>v=.int i
 | .str x,v=>v=.str x
 | .list ds,v=>∃a xs,v=.ref a/\SqL K H a xs/\DtAll K H ds xs
 | .tuple ds,v=>∃a xs,v=.ref a/\SqT K H a xs/\DtAll K H ds xs
 | .dict _,_=>False
def DtAll (K:AZ)(H:Hp):Df->Dj->Prop
 |[],xs=>xs=[]
 |d::ds,xs=>∃x r,xs=x::r/\Dt K H d x/\DtAll K H ds r
end
theorem Same.tupS {K:AZ}(e:Same H H')(h:SqT K H a xs):SqT K H' a xs:=by
 rcases h with(h|⟨o,h⟩)|h
 ·exact .inl (.inl (e _ _ h))
 ·exact .inl (.inr ⟨o,e _ _ h⟩)
 ·exact .inr h
mutual
theorem Dt.same {K:AZ}(e:Same H H'):∀(d:El) (v:V),Dt K H d v->Dt K H' d v
 | .none,_,h=>h
 | .bool _,_,h=>h
 | .int _,_,h=>h
 | .str _,_,h=>h
 | .list ds,_,⟨a,xs,h1,h2,h3⟩=>⟨a,xs,h1,e.seq h2,DtAll.same e ds xs h3⟩
 | .tuple ds,_,⟨a,xs,h1,h2,h3⟩=>⟨a,xs,h1,e.tupS h2,DtAll.same e ds xs h3⟩
 | .dict _,_,h=>h
theorem DtAll.same {K:AZ}(e:Same H H'):∀(ds:Df) (xs:Dj),DtAll K H ds xs->DtAll K H' ds xs
 |[],_,h=>h
 |d::ds,_,⟨x,r,h1,h2,h3⟩=>⟨x,r,h1,Dt.same e d x h2,DtAll.same e ds r h3⟩
end
theorem DtAll.length {K:AZ}:∀{ds:Df} {xs:Dj},DtAll K H ds xs->xs.length=ds.length
 |[],_,h=>by cases(show _=[] from h);rfl
 |d::ds,_,⟨x,r,h1,h2,h3⟩=>by rw[h1,Zd,Zd,DtAll.length h3]
theorem DtAll.append {K:AZ}:∀{ds es:Df} {xs ys:Dj},DtAll K H ds xs->DtAll K H es ys->DtAll K H (ds++es) (xs++ys)
 |[],_,_,_,h,h'=>by cases(show _=[] from h);exact h'
 |d::ds,_,_,_,⟨x,r,h1,h2,h3⟩,h'=>⟨x,r++_,by rw[h1];rfl,h2,DtAll.append h3 h'⟩
theorem DtAll.get {K:AZ}:∀{ds:Df} {xs:Dj} {i:Nat} {x:V},DtAll K H ds xs->xs[i]?=some x->∃d,ds[i]?=some d/\Dt K H d x
 |[],_,_,_,h,e=>by cases(show _=[] from h);simp at e
 |d::ds,_,0,_,⟨x,r,h1,h2,h3⟩,e=>by rw[h1]at e;simp at e;subst e;exact⟨d,rfl,h2⟩
 |d::ds,_,i+1,_,⟨x,r,h1,h2,h3⟩,e=>by
  rw[h1]at e;obtain⟨d',e1,e2⟩:=DtAll.get (i:=i) h3 (by simpa using e);exact⟨d',by simpa using e1,e2⟩
theorem DtAll.strs {K:AZ}:∀(ls:Da),DtAll K H (ls.map EL) (ls.map V.str)
 |[]=>rfl
 |x::ls=>⟨.str x,ls.map V.str,rfl,rfl,DtAll.strs ls⟩
theorem DtAll.strs_of {K:AZ}:∀{ls:Da} {xs:Dj},DtAll K H (ls.map EL) xs->xs=ls.map V.str
 |[],_,h=>h
 |x::ls,_,⟨v,r,h1,h2,h3⟩=>by
  have h2:v=V.str x:=h2;rw[h1,h2,DtAll.strs_of h3];rfl
section
variable {X:Cx}{Dp:De}{σ:St}{H:Hp}{s:Ej}
mutual
theorem Dt.reads (I:Inv X Dp σ H s):∀(d:El) (v:V) (u:Eg),Dt X.K H d v->RelV v u->∃as,Reads s.heap u d as
 | .none,_,u,h,r=>by
  cases(show _=V.non from h);cases(show u=EG from r);exact⟨_,.none⟩
 | .bool b,_,u,h,r=>by
  cases(show _=V.bl b from h);cases(show u=LS b from r);exact⟨_,.bool b⟩
 | .int i,_,u,h,r=>by
  cases(show _=V.int i from h);obtain⟨t,e⟩:=(show∃t,u=Value.int i t from r);cases e;exact⟨_,.int i t⟩
 | .str x,_,u,h,r=>by
  cases(show _=V.str x from h);obtain⟨t,e⟩:=(show∃t,u=L6 x t from r);cases e;exact⟨_,.str x t⟩
 | .list ds,_,u,⟨a,xs,h1,h2,h3⟩,r=>by
  subst h1;cases(show u=Ew a from r);obtain⟨its,rv,⟨o,n,e,c,_,d⟩,_⟩:=I.list h2;obtain⟨as,q⟩:=DtAll.reads I ds xs its h3 rv;exact⟨_,.list e c d (by simpa using q)⟩
 | .tuple ds,_,u,⟨a,xs,h1,h2,h3⟩,r=>by
  subst h1;cases(show u=Ew a from r);obtain⟨its,rv,⟨o,e,c,n,d⟩,_⟩:=I.tuple h2;obtain⟨as,q⟩:=DtAll.reads I ds xs its h3 rv;exact⟨_,.tuple e c d (by simpa using q)⟩
 | .dict _,_,_,h,_=>EH h
theorem DtAll.reads (I:Inv X Dp σ H s):∀(ds:Df) (xs:Dj) (us:Db),DtAll X.K H ds xs->Vals xs us->∃as,Lz s.heap us ds as
 |[],_,us,h,r=>by
  cases(show _=[] from h);cases r;exact⟨_,.nil⟩
 |d::ds,_,us,⟨x,rr,h1,h2,h3⟩,r=>by
  subst h1;cases r with
  |cons r1 r2 =>
   obtain⟨as,q1⟩:=Dt.reads I d x _ h2 r1;obtain⟨bs,q2⟩:=DtAll.reads I ds rr _ h3 r2;exact⟨_,.cons q1 q2⟩
end
end
section
variable {X:Cx}
def So (K:AZ):R2:=fun x y H Q=>∃d e,Dt K H d x/\Dt K H e y/\SeqAt.shaped d=true/\SeqAt.shaped e=true/\Q (.bl (EE d e)) H
def Rp (K:AZ):R2:=fun x y H Q=>∃d e,Dt K H d x/\Dt K H e y/\SeqAt.shaped d=true/\SeqAt.shaped e=true/\Q (.bl (!EE d e)) H
theorem G4 (hu:X.A.units+64<E8):Ce X (EO .Eq) (So X.K):=by
 intro Dp s σ H x y v u Q I rx ry h;obtain⟨d,e,h1,h2,h3,h4,q⟩:=h;obtain⟨as,r1⟩:=Dt.reads I d x v h1 rx;obtain⟨bs,r2⟩:=Dt.reads I e y u h2 ry;exact SeqAt.compareEq_shaped r1 r2 h3 h4 hu ⟨.bl _,H,I,rfl,q⟩
theorem kF (hu:X.A.units+64<E8):Ce X (EO .NotEq) (Rp X.K):=by
 intro Dp s σ H x y v u Q I rx ry h;obtain⟨d,e,h1,h2,h3,h4,q⟩:=h;obtain⟨as,r1⟩:=Dt.reads I d x v h1 rx;obtain⟨bs,r2⟩:=Dt.reads I e y u h2 ry;exact SeqAt.compareNe_shaped r1 r2 h3 h4 hu ⟨.bl _,H,I,rfl,q⟩
theorem k7:∀{ys:Da} {us:Db},Vals (ys.map V.str) us->StrsAre us ys
 |[],us,r=>by rw[JQ]at r;cases r;exact .nil
 |y::ys,us,r=>by
  rw[Zn]at r;cases r with
  |cons r1 r2 =>
   obtain⟨t,e⟩:=r1;subst e;exact .cons y t (k7 r2)
theorem Gk:∀{us:Db} {ys:Da},StrsAre us ys->Vals (ys.map V.str) us
 |_,_,.nil=>.nil
 |_,_,.cons y t r=>.cons ⟨t,rfl⟩ (Gk r)
def rJoin (K:AZ):V->Dj->Hp->VK->Prop:=fun x vs H Q=>∃sep p ys,x=.str sep/\vs=[.ref p]/\(SqL K H p (ys.map V.str)\/SqT K H p (ys.map V.str))/\(ys.map (·.length)).sum+ys.length*sep.length<=16777216/\Q (.str (Lj sep ys)) H
theorem Bp:N9 X "str.join" (rJoin X.K):=by
 intro Dp s σ H x xs v us Q I rx rs h;obtain⟨sep,p,ys,rfl,rfl,hq,hz,q⟩:=h;obtain⟨t,rfl⟩:=rx;obtain⟨u,rfl,ru⟩:=vals1 rs;cases ru
 rcases hq with hq|hq
 ·obtain⟨its,r,pl,_⟩:=I.list hq;exact join_list pl.isList (by simpa using k7 r) hz fun t' k=>⟨.str _,H,I.tok _,⟨_,rfl⟩,q⟩
 ·obtain⟨its,r,pl,_⟩:=I.tuple hq;exact join_tuple pl (by simpa using k7 r) hz fun t' k=>⟨.str _,H,I.tok _,⟨_,rfl⟩,q⟩
end
section
variable {X:Cx}{Dp:De}{σ:St}{H:Hp}{s:Ej}{h':EC}
theorem Inv.turnedAll {t':Nat}{ch:Dd}(I:Inv X Dp σ H s)(hf:∀b∈ch,U6 X Dp H b)(k:∀b o,b∉ch->s.heap.get? b=some o->h'.get? b=some o)(th:∀b∈ch,∃o,h'.get? b=some o):Inv X Dp σ H { s with heap:=h',toks:=t' }:=by
 have nch:∀b u,H b=some u->b∉ch:=fun b u e z=>by rw[(hf b z).1]at e;cases e
 refine I.step (g':=s.gens) (d':=s.drawn) (ch:=ch) (fun b hb=>?_) (fun b o _ _ hc e _=>k b o hc e) (fun b o _ _ hc e _=>⟨o.slots,k b o hc e⟩) (fun _ _ _ _ n=>n)
  (fun b o hc e=>⟨o,k b o hc e⟩) (fun _ _ e=>e) (fun _ _ _ e=>e) (fun b ps e=>⟨#[],by rw[e];simp⟩) (fun m hm=>?_) (fun b u e=>?_) I.bare
 ·obtain⟨_,f1,_,f3,f4,f5⟩:=hf b hb;exact⟨f3,f1,f4,f5⟩
 ·obtain⟨o,es,ep,ho,r⟩:=hm;exact⟨o,es,ep,k _ o (fun z=>(hf _ z).2.1 rfl) ho,r⟩
 ·refine(I.hok b u e).stay (fun c v hc q=>k c v ?_ q) (fun _ q=>q) fun _ _ q=>q
  rcases hc with z|z
  ·rw[z];exact nch b u e
  ·exact nch c _ z
theorem Un.adopt2 {D:Eh}(u:Un fs ex H H1 h h1)(hD:h.get? D=none)(hH:H1 D=none):Un fs ex H (upd H1 D o) h h1 where
 keep:=u.keep
 slot:=u.slot
 free:=fun b ob q n hx=>by
  have hb:b≠D:=fun z=>by rw[z,hD]at q;cases q
  rw[zG hb];exact u.free b ob q n hx
 there:=u.there
 tups:=fun b xs q=>by rw[zG (zM (u.tups b xs q) hH)];exact u.tups b xs q
 frzs:=fun b ob xs q=>by rw[zG (zM (u.frzs b ob xs q) hH)];exact u.frzs b ob xs q
 tbls:=fun b ps q=>by
  obtain⟨m,e⟩:=u.tbls b ps q;exact⟨m,by rw[zG (zM e hH)];exact e⟩
theorem Inv.takeUp {T:Eh}{o:HO}(I:Inv X Dp σ H s)(n:H T=none)(h0:X.s₀.heap.objs.size<=T)(hL:T≠X.env.locals)(hc:∀x c,X.env.cells.lookup x=some c->c≠T)(hp:∀p∈X.pn++Dp,p.1≠T)
  (new:ObjOk X.prog X.w (upd H T o) s.heap T o):Inv X Dp σ (upd H T o) s:=by
 refine⟨I.ok,I.os,I.bare,I.base.adopt2 (Vb h0) n,I.loc,I.cell,?_,fun x c e=>?_,fun p hpp=>?_,I.hok.adopt n new,I.len⟩
 ·rw[zG (ED hL)];exact I.free
 ·rw[zG (hc x c e)];exact I.freeC x c e
 ·obtain⟨e,n',ne,nf,d⟩:=I.pin p hpp;exact⟨e,by rw[zG (hp p hpp)];exact n',ne,nf,d⟩
end
def RS (x:Str):It:=⟨fun i _=>i<x.length,fun i H v H'=>H'=H/\∃c,x.cps[i]?=some c/\v=.str ⟨#[c]⟩,fun i _=>i=x.length⟩
theorem Xp {P:Ei}{w:Eo}{K:AZ}{tg:EI}{it:Eh}{x:Str}{tn:Nat->EC->Prop}(hW:∀A:EF,A.handled=none->Walks P w A it [it] [it] x.cps.size (SignAt x) tn)
  (ho:∀i h,tn i h->∃o,h.get? it=some o/\∀v,o.data≠.cell v) (hself:∀(A:EF) (i:Nat) (s:Ej) (Q:Eg->Dh) (E:Eg->Dh),tn i s.heap->Q (.ref it) s->Ek (Es P w) A (pyIter (.ref it)) Q E s) :
  Turn P w K tg (RS x) [it] it tn where
 mem:=by simp
 obj:=fun i h st b hb=>by
  have e:b=it:=by simpa using hb
  subst e;exact ho i h st
 keep:=fun i h h' st k=>(hW {} rfl).frame i h h' st k
 item:=by
  intro X hP hw hK hc i Dp s σ H E I hf st hg;subst hP hw hK;obtain⟨f0,f1,f2,f3,f4,f5⟩:=hf it (by simp);refine(hW X.A (I.ok.hd hc)).item i s _ _ hg st fun v h' tk hv st' kk=>?_;obtain⟨c,u,hcx,rfl⟩:=hv;have I1:Inv X Dp σ H { s with heap:=h',toks:=tk }:=I.turned (fun b o hb e=>kk b o (by simpa using hb) e) f0 f1 f3 f4 f5;refine⟨_,rfl,?_⟩;have fin:∃x' H',Inv X Dp σ H' { s with heap:=h',toks:=tk }/\RelV x' (.str ⟨#[c]⟩ u)/\(RS x).yld i H x' H'/\tn (i+1) h'/\∀b∈[it],H' b=none :=
   ⟨.str ⟨#[c]⟩,H,I1,⟨u,rfl⟩,⟨rfl,c,hcx,rfl⟩,st',fun b hb=>(hf b hb).1⟩
  unfold LQ;cases tg<;>exact Q3 fin
 done:=by
  intro X hP hw hK hc i Dp s σ H E I hf st hg;subst hP hw hK;obtain⟨f0,f1,f2,f3,f4,f5⟩:=hf it (by simp);exact(hW X.A (I.ok.hd hc)).done s _ _ (by have e:i=x.length:=hg;subst e;exact st) fun h' tk kk=>⟨rfl,I.turned (fun b o hb e=>kk b o (by simpa using hb) e) f0 f1 f3 f4 f5⟩
 self:=hself
section
variable {X:Cx}{tg:EI}
def S7 (te:TE):TI:=fun σ H R=>te σ H fun x H1=>∃z,x=.str z/\R (RS z) H1
theorem FM (he:PE X e te):PI X tg e (S7 te):=by
 intro Dp s σ H R I h;refine A3 (he Dp s σ H _ I h) fun v s1 ⟨x,H1,I1,r1,q1⟩=>?_;obtain⟨z,e,q⟩:=q1;subst e;obtain⟨t,rfl⟩:=r1;have fr:H1 s1.heap.objs.size=none:=I1.hok.fresh (Q2 _);cases ha:z.cps.all (·<128)
 ·refine wpAny_pyIter_wide ha ?_;refine⟨s1.heap.objs.size,[s1.heap.objs.size],fun i h=>h.IsStrIter s1.heap.objs.size "str_iterator" z t i,_,H1,rfl,I1.kept (t':=s1.toks) fun b o e=>Q0 _ e,Xp (fun A hA=>Walks.strWide hA _ z t) (fun i h ⟨o,ho,_,hd⟩=>⟨o,ho,fun v z=>by rw[hd]at z;cases z⟩) (fun _ _ _ _ _ st hQ=>wpAny_pyIter_striter_wide st hQ),⟨_,Ze _ rfl,rfl,rfl⟩,fun b hb=>?_,q⟩
  have e:b=s1.heap.objs.size:=by simpa using hb
  subst e;exact I1.fpOk (Q2 _) fr
 ·refine wpAny_pyIter_ascii ha ?_;refine⟨s1.heap.objs.size,[s1.heap.objs.size],fun i h=>h.IsStrIter s1.heap.objs.size "str_ascii_iterator" z t i,_,H1,rfl,I1.kept (t':=s1.toks) fun b o e=>Q0 _ e,Xp (fun A hA=>Walks.strAscii hA _ z t) (fun i h ⟨o,ho,_,hd⟩=>⟨o,ho,fun v z=>by rw[hd]at z;cases z⟩) (fun _ _ _ _ _ st hQ=>wpAny_pyIter_striter_ascii st hQ),⟨_,Ze _ rfl,rfl,rfl⟩,fun b hb=>?_,q⟩
  have e:b=s1.heap.objs.size:=by simpa using hb
  subst e;exact I1.fpOk (Q2 _) fr
end
abbrev K6 (J:It)(g:TG)(tb:TS)(D:Ends)(σ:St)(H:Hp):Prop :=
 ∃W:Nat->Nat->St->Hp->Prop,(∃m,W 0 m σ H)/\∀i m σ H,W i m σ H ->
  (J.stop i H/\D.nx σ H)\/(J.go i H/\∃N:St->Hp->Prop,(∀σ' H',N σ' H'->∃m',m'<m/\W (i+1) m' σ' H')/\∀x H',J.yld i H x H'->g x σ H' fun σ2 H2=>tb { D with nx:=N,ct:=N,bk:=D.nx } σ2 H2)
theorem Hl {J:It}{g:TG}{tb:TS}{D:Ends}{σ:St}{H:Hp}(n:Nat)(Pv:Nat->St->Hp->Prop)(h0:Pv 0 σ H)(hst:∀σ H,Pv n σ H->J.stop n H)(hgo:∀i σ H,i<n->Pv i σ H->J.go i H)
  (hs:∀i σ H,i<n->Pv i σ H->∀x H',J.yld i H x H'->g x σ H' fun σ2 H2=>tb { D with nx:=Pv (i+1),ct:=Pv (i+1),bk:=D.nx } σ2 H2) (hd:∀σ H,Pv n σ H->D.nx σ H):K6 J g tb D σ H:=by
 refine⟨fun i m σ H=>m=n-i/\i<=n/\Pv i σ H,⟨n,by simp,Zz _,h0⟩,?_⟩;rintro i m σ H ⟨rfl,hi,p⟩
 by_cases hlt:i<n
 ·exact .inr ⟨hgo i σ H hlt p,Pv (i+1),fun σ' H' p'=>⟨n-(i+1),by omega,rfl,hlt,p'⟩,fun x H' y=>hs i σ H hlt p x H' y⟩
 ·have e:i=n:=by omega
  subst e;exact .inl ⟨hst σ H p,hd σ H p⟩
theorem Oj {x:Str}{g:TG}{tb:TS}{D:Ends}{σ:St}{H:Hp}(Pv:Nat->St->Hp->Prop)(h0:Pv 0 σ H)
  (hs:∀i c σ H,x.cps[i]?=some c->Pv i σ H->g (.str ⟨#[c]⟩) σ H fun σ2 H2=>tb { D with nx:=Pv (i+1),ct:=Pv (i+1),bk:=D.nx } σ2 H2) (hd:∀σ H,Pv x.length σ H->D.nx σ H):K6 (RS x) g tb D σ H :=
 Hl x.length Pv h0 (fun _ _ _=>rfl) (fun _ _ _ hi _=>hi) (fun i σ H hi p v H' y=>by
  obtain⟨e,c,hc,ev⟩:=y;subst e ev;exact hs i c σ _ hc p) hd
end L2
namespace L2
open PySem PySem.Spec PyProof.Rows
section
variable {X:Cx}{elts:List EI}{x1:Nat}{tpos:Pos}
def Pp (K:AZ):V->Option Int->Option Int->Hp->VK->Prop:=fun x lo hi H Q=>∃a xs,x=.ref a/\SqT K H a xs/\∀v H',(v=.ref a/\H'=H/\V9 xs lo hi=xs)\/(∃p,H p=none/\v=.ref p/\H'=upd H p (.tup (V9 xs lo hi)))->Q v H'
end
namespace AxT
variable {prog:Ei}{w:Eo}{A:EF}{E:Eg->Dh}{s:Ej}
open HT
theorem getItem_tuple_whole {t sl:Eh}{Dn:Array Eg}{vl vu:Eg}{lo hi:Option Int}{Q:Eg->Dh}(ht:IsTup s.heap t Dn)(hs:s.heap.IsSliceOf sl vl vu .none)(pl:IsPart vl lo)(pu:IsPart vu hi)
  (hw:sIx Dn.size 0 lo=0/\sIx Dn.size Dn.size hi=Dn.size) (h:Q (.ref t) s):Ek (Es prog w) A (Mf (.ref t) (.ref sl)) Q E s:=by
 obtain⟨os,hos,hcs,hds⟩:=id hs;have hTs:s.TypeIs (.ref sl) "slice":=⟨os,hos,hcs⟩;unfold Mf
 try with_reducible refine Yr ?_
 first|refine QW (Q3 ?_)|skip
 refine QW (wpAny_sequenceKey ht.typeIs (by decide) ?_);refine QW (Yu (name:=ES "__getitem__") ht.typeIs YB (Ya YB ht.typeIs entry_tuple_getitem ?_ (args_tuple_getitem _ _)))
 show Ek _ _ (LH (.ref t)>>=_) _ _ s;refine QW (tupleItemsOf_ ht ?_);refine QW (Vi hTs ?_);rw[Zk (by decide)];refine QW (jC hs pl pu ?_);have hyes:(((sIx Dn.size 0 lo:Nat):Int)==0&&(1:Int)==1&&(sIx Dn.size Dn.size hi-sIx Dn.size 0 lo)==Dn.size)=true:=by
  rw[hw.1,hw.2];simp
 show Ek _ _ (if(((sIx Dn.size 0 lo:Nat):Int)==0&&(1:Int)==1&&(sIx Dn.size Dn.size hi-sIx Dn.size 0 lo)==Dn.size)=true then _ else _) _ _ s;rw[Zk hyes];obtain⟨o,ho,hc,n,hd⟩:=id ht;refine QW (m:=Builtin.Tuple.tupleIsExact _) ?_;unfold Builtin.Tuple.tupleIsExact;refine QW (Vi ht.typeIs (Q3 ?_));rw[Zk (by decide)];exact QW (J4 (Q3 ⟨_,rfl,Q3 h⟩))
end AxT
section
variable {X:Cx}
theorem sl_tup2:Hc X (Pp X.K):=by
 intro Dp s σ H x v vl vu lo hi sl Q I rx hs pl pu h;obtain⟨a,xs,rfl,hx,q⟩:=h;cases rx;obtain⟨its,r,ht,hz⟩:=I.tuple hx;have Dq:its.toArray.size=xs.length:=by rw[Zg];exact r.length.symm
 refine⟨"tuple",_,YB.lookup,ht.typeIs,?_⟩
 by_cases hw:HT.sIx its.toArray.size 0 lo=0/\HT.sIx its.toArray.size its.toArray.size hi=its.toArray.size
 ·refine AxT.getItem_tuple_whole ht hs pl pu hw ⟨.ref a,H,I,rfl,q _ _ (.inl ⟨rfl,rfl,?_⟩)⟩;rw[Dq]at hw;unfold V9;rw[hw.1,hw.2];simp
 ·refine HT.getItem_tuple_cut ht hs pl pu hw ?_ (by rwa[Dq]);rw[Dq];refine⟨.ref s.heap.objs.size,_,I.laid (t':=s.toks) (o:=.tup (V9 xs lo hi)) (fun b ob q=>Q0 _ q) (Q2 _) ?_,rfl,q _ _ (.inr ⟨_,I.hok.fresh (Q2 _),rfl,rfl⟩)⟩;exact⟨ZD (UV xs lo hi) hz,_,(r.drop (HT.sIx xs.length 0 lo)).take (HT.sIx xs.length xs.length hi-HT.sIx xs.length 0 lo),TupAt.new _ _⟩
structure Cal (P:Ei)(w:Eo)(K:AZ)(mg:Str->Dc)(base:EC)(k:Nat)(x:Str)(ps:Da)(sp:Sp):Prop where
 ex:∃(f:Eh) (fd:Eu),FnOk P w K mg base A9 k f fd ps sp/\mg x=some (.ref f)/\ET K (.ref f)=true/\Binds K fd ps []
theorem zK {e:EI}{es:List EI}{p pos:Pos}(C:Cal X.prog X.w X.K X.mg X.base k x ps sp)(hr:Room k X.A)(ha:PA X (e::es) t)(hg:Gl X x:=by rfl)
  (hdb:(x==("__debug__":Str))=false:=by decide) (he:Ev (e::es) X.env=(false,EY e X.env)::Ev es X.env:=by rfl) (hpl:(E7 pos (Ev es X.env)).any (·.1)=false:=by rfl) :
  PE X (.Call (.Name x p) (e::es) [] pos) (Py sp [] E0 t):=by
 obtain⟨f,fd,F,hm,hk,hb⟩:=C.ex;exact OK F hr hg hm hk hb .nil BL ha hdb he hpl
theorem Cal.mk' {K:AZ}{st:ER}(F:Fun K x qual st f fd)(G:FnOk P w K mg base A9 k f fd ps sp)(hm:mg x=some (.ref f))
  (b:Binds K fd ps []):Cal P w K mg base k x ps sp:=⟨f,fd,G,hm,F.kp,b⟩
def KD (P:Ei)(w:Eo)(K:AZ)(a:Eh)(Dm:Dl):Prop:=∀h:EC,K.In h->∃vs,KV Dm vs/\h.DictOf (zY P w) a vs
def SC (P:Ei)(w:Eo)(K:AZ)(td ty:TE):TE:=fun σ H Q=>td σ H fun x H1=>ty σ H1 fun y H2=>∃a Dm k v,x=.ref a/\y=kV k/\KD P w K a Dm/\VQ Dm k=some v/\Q v H2
theorem OM {pos:Pos}(ho:PE X o td)(hi:PE X i ty)(hs:Oa i):PE X (.Subscript o i pos) (SC X.prog X.w X.K td ty):=by
 intro Dp s σ H Q I h;refine G3 PySem.F.slot_dict_getitem.lookup hs (A3 (ho Dp s σ H _ I h) fun u s1 ⟨x,H1,I1,rx,q1⟩=>A3 (hi Dp s1 σ H1 _ I1 q1) fun iv s2 ⟨y,H2,I2,ry,a,Dm,k,v,ex,ey,kd,l,q2⟩=>?_);subst ex ey;obtain rfl:u=Ew a:=rx;obtain⟨vs,rel,dd⟩:=kd _ I2.kIn;obtain⟨w',hw,rw'⟩:=RelO.some_of (v:=v) (o:=valueAt vs k) (by rw[←l];exact rel.val k);exact⟨dd.typeIs,wpAny_getItem_of (Xz ry) dd.mapOf hw ⟨v,H2,I2.tok _,rw',q2⟩⟩
theorem B5:CallR X (.builtin "isinstance") (fun xs H Q=>∃y T t b,xs=[y,.ty T]/\TyOf X.K H y t/\EB X.K t (.type T)=some b/\Q (.bl b) H):=by
 intro Dp s σ H xs us Q I r h;obtain⟨y,T,t,b,rfl,ty,kt,q⟩:=h;obtain⟨u,w',rfl,ru,rw'⟩:=vals2 r;cases(show w'=Value.type T from rw');exact qN I ru ty kt fun tk=>⟨.bl b,H,I.tok _,rfl,q⟩
end
theorem ObjOk.there (x:ObjOk P w H h a o):∃ob,h.get? a=some ob:=by
 cases o with
 |lst xs=>obtain⟨_,_,_,_,e⟩:=x;exact⟨_,e⟩
 |tup xs=>obtain⟨_,_,_,ob,e,_⟩:=x;exact⟨_,e⟩
 |dK Dm=>obtain⟨_,_,_,_,ob,_,_,e,_⟩:=x;exact⟨_,e⟩
 |dT Dm=>obtain⟨_,_,_,_,ob,_,_,e,_⟩:=x;exact⟨_,e⟩
 |set S n=>obtain⟨ob,_,_,_,e,_⟩:=x;exact⟨_,e⟩
 |ins C dx fs=>obtain⟨_,_,_,e,_⟩:=x;exact⟨_,e⟩
 |own y=>exact x
 |xd fs=>obtain⟨_,⟨_,_,_,e,_⟩,_⟩:=x;exact⟨_,e⟩
 |rng lo hi=>obtain⟨_,_,_,e⟩:=x;exact⟨_,e⟩
 |frz ob u=>obtain⟨e,_⟩:=x;exact⟨_,e⟩
 |tbl ps=>exact⟨_,(show h.get? a=some _ from x)⟩
 |met f y=>exact⟨_,(show h.get? a=some _ from x)⟩
 |ext φ=>obtain⟨_,e,_⟩:=x;exact e
def ctx0 (vs:Array Eg):Prop:=vs[2]?=some .none
theorem UJ:Gj ctx0:=fun vs v h=>by
 show(vs.setIfInBounds 1 v)[2]?=some .none;rwa[Array.getElem?_setIfInBounds_ne (by decide)]
def ExcAt (h:EC)(a T:Eh)(cls:Eg):Prop :=
 ∃oe vs oT ts,h.get? a=some oe/\(oe.cls=cls/\ctx0 vs)/\oe.data=.fields vs/\vs[1]?=some (.ref T)/\T≠a/\h.get? T=some oT/\oT.data=.fields ts/\ts[3]?=some .none
def Ci (P:Ei)(w:Eo):K5:=fun outer H s E e s'=>∃a T cls H',e=.ref a/\s'.os=s.os/\Md s'.gens/\Un (frs outer) [] H H' s.heap s'.heap/\HOk P w H' s'.heap /\
 s.heap.get? a=none/\s.heap.get? T=none/\H' a=none/\H' T=none/\ExcAt s'.heap a T cls/\E cls none H'
section
variable {X:Cx}{Dp:De}{σ:St}{H:Hp}{s:Ej}
theorem Inv.none_of (I:Inv X Dp σ H s){a:Eh}(e:s.heap.get? a=none):H a=none:=by
 cases q:H a with
 |none=>rfl
 |some u =>
  obtain⟨ob,z⟩:=(I.hok a u q).there;rw[e]at z;cases z
theorem Inv.old_none (I:Inv X Dp σ H s)(hex:X.ex=[]){a:Eh}(e:s.heap.get? a=none):X.s₀.heap.get? a=none:=by
 cases q:X.s₀.heap.get? a with
 |none=>rfl
 |some o =>
  obtain⟨ob,z⟩:=I.base.there a o q (by rw[hex];simp);rw[e]at z;cases z
abbrev Ul (h:EC)(as:Dd)(l:List Env):Heap:=PySem.W.hideAll h (as++frs l)
theorem j9 {h:EC}{base:EC}{l:List Env}(f:h.FunFrames base l):h.FunFrames (Ul h as l) l :=
 PySem.W.funFrames_hide f fun env he b hb=>Zo _ (YZ.mpr ⟨env,he,hb⟩)
theorem jX:(Ul h as l).StaysIn h:=fun _ _ q=>PySem.W.of_hideAll _ q
theorem Bn (hst:X.stack=X.env::X.outer)(hfr:X.env.frame=some X.env.locals)(hex:X.ex=[])(I:Inv X Dp σ H s){e:Eh}{cls:Eg}{args:Db}{h':EC}(hx:Heap.MadeExcOf s.heap h' e cls args){E:XK}(q:E cls none H)
  {Ex:Eg->Dh}:Ek (Es X.prog X.w) X.A (leaving X.env (.ref e)) (fun _ s''=>Ci X.prog X.w X.outer X.H₀ X.s₀ E (.ref e) s'') Ex { s with heap:=h' }:=by
 have fr:=j9 (as:=[]) I.stack;have hA:X.A.frames=some (X.env::X.outer):=by rw[I.ok.frames,hst]
 obtain⟨t,he,htn,ht⟩:=hx.there;have fresh:∀b,s.heap.get? b=none->(Ul s.heap [] X.stack).get? b=none:=fun b hb=>by
  cases hq:(Ul s.heap [] X.stack).get? b with
  |none=>rfl
  |some o'=>have:=jX b o' hq;rw[hb]at this;cases this
 rw[hst]at fr;refine BK (base:=Ul s.heap [] X.stack) (q:=ctx0) UJ hA ((by rw[hst];exact fr:s.heap.FunFrames (Ul s.heap [] X.stack) (X.env::X.outer)).of_keeps fun b o hb _=>⟨o,hx.keeps b o hb,rfl⟩) hfr he (fun b o hb=>hx.keeps b o (jX b o hb)) (fresh e hx.new) rfl rfl rfl fun h2 k1 k2 L k4=>?_;obtain⟨oe,vs,T,oT,ts,t1,t2,t3,t4,t5,t6,t7,t8,t9⟩:=L;have stk:∀b∈frs X.stack,H b=none:=I.stkFree;have kp:∀b o,s.heap.get? b=some o->b∉frs X.stack->h2.get? b=some o:=fun b o e hb=>k1 b o (YR _ e (by simpa using hb));have sl:∀b o,s.heap.get? b=some o->b∈frs X.stack->∃sl,h2.get? b=some { o with slots:=sl }:=fun b o e hb=>by
  obtain⟨_,o',ho',hd⟩:=I.stack.mem hb;rw[e]at ho';cases ho';exact k4 b o (hx.keeps b o e) hd
 have nL:∀b o,X.s₀.heap.get? b=some o->b≠X.env.locals:=fun b o e=>Zr (Zp (Zi e) I.ok.above);have nex:∀b,b∉X.ex:=fun b=>by rw[hex];simp
 have nT:s.heap.get? T=none:=by
  cases qT:s.heap.get? T with
  |none=>rfl
  |some o =>
   exfalso
   by_cases hT:T∈frs X.stack
   ·have k2':h2.FunFrames (Ul s.heap [] X.stack) X.stack:=by have z:=k2;rw[←hst]at z;exact z
    obtain⟨_,o',ho',hd⟩:=k2'.mem hT;rw[t7]at ho';cases ho';exact hd _ t8
   ·have z:(Ul s.heap [] X.stack).get? T=some o:=YR _ qT (by simpa using hT);rw[t5]at z;cases z
 refine⟨e,T,cls,H,rfl,I.os,I.bare,⟨fun b o e1 n hb _=>?_,fun b o e1 n hb _=>?_,fun b o e1 n _=>I.base.free b o e1 n (nex b),fun b o e1 _=>?_,I.base.tups,I.base.frzs,I.base.tbls⟩,fun b u e1=>?_,I.old_none hex hx.new,I.old_none hex nT,I.none_of hx.new,I.none_of nT,⟨oe,vs,oT,ts,t1,t2,t3,t4,t6,t7,t8,t9⟩,q⟩
 ·refine kp b o (I.base.keep b o e1 n hb (nex b)) fun z=>?_
  rcases Q7.mp (I.stkSub b z) with r|r
  ·exact nL b o e1 r
  ·exact hb r
 ·obtain⟨sl1,e2⟩:=I.base.slot b o e1 n hb (nex b)
  by_cases hz:b∈frs X.stack
  ·obtain⟨sl2,e3⟩:=sl b _ e2 hz;exact⟨sl2,e3⟩
  ·exact⟨sl1,kp b _ e2 hz⟩
 ·obtain⟨o',e2⟩:=I.base.there b o e1 (nex b)
  by_cases hz:b∈frs X.stack
  ·obtain⟨sl2,e3⟩:=sl b _ e2 hz;exact⟨_,e3⟩
  ·exact⟨o',kp b _ e2 hz⟩
 ·refine(I.hok b u e1).stay (fun c v hc r=>kp c v r fun z=>?_) (fun _ r=>r) fun _ _ r=>r;have hz:=stk c z
  rcases hc with y|y
  ·rw[y,e1]at hz;cases hz
  ·rw[y]at hz;cases hz
end
theorem Ko {K:AZ}{h:EC}{C:Eh}{bmB:Db}{newId:String}(X:K.In h)(q:E3 K C bmB newId=true) :
  ∃bm N nm q bs hdct sn sub ab col dd k0 k1 k2 k3 k5 mN,h.get? C=some (excClassObj nm q C N bs bm hdct sn sub ab col dd k0 k1 k2 k3 k5 newId)/\h.Ns N mN/\mN "__init__"=none/\OwnTail h bmB bm:=by
 unfold E3 at q
 split at q
 ·rename_i dd cd sl ho
  split at q
  ·rename_i C' bm k0 k1 k2 k3 n k5 hm hs;simp only[Q8,Jn,Y9]at q;obtain⟨⟨⟨⟨⟨rfl,rfl⟩,hdel⟩,ht⟩,hok⟩,hni⟩:=q;obtain⟨nm,bs,mro,ns,qn,hd,sn,sub,ab,col,del⟩:=cd;dsimp only at hm hdel hok hni;subst hm hdel;have hsl:sl=#[k0,k1,k2,k3,some (.builtin n),k5]:=by
    obtain⟨l⟩:=sl;simp only at hs;rw[hs]
   subst hsl;exact⟨bm,ns,nm,qn,bs,hd,sn,sub,ab,col,dd,k0,k1,k2,k3,k5,_,X _ _ ho,.of_isNs (PySem.W.isNs_of_in X hok),PySem.W.nsMap_none_of_in X hok hni,PySem.W.tail_of_in X ht⟩
  ·cases q
 ·cases q
abbrev Uu:Db:=[.type "ValueError",.type "Exception",.type "BaseException",.type "object"]
def Throws (X:Cx)(R:St->Hp->Eg->Prop):Prop:=∀(Dp:De) (σ:St) (H:Hp) (s:Ej) (e:Eh) (cls:Eg) (args:Db) (h':EC),Inv X Dp σ H s->Heap.MadeExcOf s.heap h' e cls args->R σ H cls->X.xe (.ref e) { s with heap:=h' }
def RE (C:Eh)(R:St->Hp->Eg->Prop)(t:TA):TS:=fun _ σ H=>t σ H fun vs H1=>vs.length<=sizeLine/\R σ H1 (.ref C)
section
variable {X:Cx}
theorem jV {C:Eh}{e₀:EI}{rest:List EI}{np Ds pos:Pos}(hc:X.calm=true)(ht:Throws X R)(hg:Gl X x)(hm:X.mg x=some (.ref C))(hex:E3 X.K C Uu "ValueError.__new__"=true)(ha:PA X (e₀::rest) t)
  (he:Ev (e₀::rest) X.env=(false,EY e₀ X.env)::Ev rest X.env:=by rfl) (DY:(E7 Ds (Ev rest X.env)).any (·.1)=false:=by rfl) (hd:(x==("__debug__":Str))=false:=by decide) :
  PS X (.Raise (some (.Call (.Name x np) (e₀::rest) [] Ds)) none pos) (RE C R t):=by
 intro Dp s σ H D I h;obtain⟨tl,N,nm,q,bs,hdct,sn,sub,ab,col,dd,k0,k1,k2,k3,k5,mN,hC,hN,hni,T⟩:=Ko I.ok.mod.kin hex;refine wpAny_Raise_call_subU (C:=C) (nm:=nm) (q:=q) (N:=N) (bs:=bs) (bm:=tl) (hdct:=hdct) (sn:=sn) (sub:=sub) (ab:=ab) (col:=col) (dd:=dd) (k0:=k0) (k1:=k1) (k2:=k2) (k3:=k3) (k5:=k5)
  F.excBase_ValueError (by decide +kernel) F.excBase_ValueError (mN:=mN) (T.hasType F.excBase_ValueError.hasBase) (I.ok.hd hc) (by rw[he];show(false||(E7 Ds (Ev rest X.env)).any (·.1))=false;rw[DY];rfl) hni (uI I hg hm ⟨rfl,?_⟩ hd)
 have ha':=ha Ds Dp s σ H _ I h;rw[he]at ha' ⊢;exact Calls.evalArgs_plain (Yd ha' (fun us s₂ ⟨vs,H2,I2,r2,z2,q2⟩=>⟨rfl,by rw[←r2.length];exact z2,I2.bk _ _ hC,hN.keeps I2.bk,T.keeps I2.bk,fun h' e hm'=>ht Dp σ H2 s₂ e _ _ h' I2 hm' q2⟩) fun _ _ y=>y)
theorem qP {P:Ei}{w:Eo}{K:AZ}{mg:Str->Dc}{base:EC}{N:Da}{qual:Str}{scope:LM}{f:Eh}{cd:Eg}{A:EF}{outer:List Env}{s:Ej}{H:Hp}{E:XK} :
  Throws (G7 (Ci P w) P w K mg base N qual scope f cd A outer s H E) (fun _ H' cls=>E cls none H') :=
 fun _ _ _ _ _ _ _ _ I hx q=>Bn rfl rfl rfl I hx q
end
def Raises (X:Cx)(R:St->Hp->Eg->Prop):Prop:=∀(Dp:De) (σ:St) (H:Hp) (s:Ej) (e:Eg) (s':Ej),Inv X Dp σ H s->Ci X.prog X.w X.stack H s (fun cls _ H'=>R σ H' cls) e s'->X.xe e s'
def Ry (sp:Sp)(R:St->Hp->Eg->Prop)(t:TA):TE:=fun σ H Q=>t σ H fun vs H1=>sp vs H1 Q (fun cls _ H'=>R σ H' cls)
section
variable {X:Cx}{k:Nat}{f:Eh}{fd:Eu}{ps:Da}{sp:Sp}{x:Str}{p pos:Pos}{e:EI}{es:List EI}{t:TA}{R:St->Hp->Eg->Prop}
theorem HK {Dp:De}{σ:St}{H:Hp}{s:Ej}{Q:VK}{us:Db}{vs:Dj}(F:FnOk X.prog X.w X.K X.mg X.base (Ci X.prog X.w) k f fd ps sp)(hr:Room k X.A)(hb:Binds X.K fd ps [])(hx:Raises X R)
  (I:Inv X Dp σ H s) (r:Vals vs us) (h:sp vs H Q (fun cls _ H'=>R σ H' cls)):Ek (Es X.prog X.w) X.A (call (.ref f) us) (EP X Dp σ Q) X.xe s:=by
 have hl:us.length=ps.length:=by rw[←r.length];exact F.len _ _ _ _ h
 have hb':=hb s us I.kIn (by simpa using hl);rw[Zy]at hb';refine J1 (YU (F.run X.A X.stack s H ⟨us,[]⟩ us vs Q _ hr I.env0 hb' r h) fun r s' hq=>?_);cases r with
 |error e=>exact hx Dp σ H s e s' I hq
 |ok fl =>
  cases fl with
  |ret u=>exact I.after hq
  |next=>exact EH hq
  |brk=>exact EH hq
  |cont=>exact EH hq
structure CalX (P:Ei)(w:Eo)(K:AZ)(mg:Str->Dc)(base:EC)(k:Nat)(x:Str)(ps:Da)(sp:Sp):Prop where
 ex:∃(f:Eh) (fd:Eu),FnOk P w K mg base (Ci P w) k f fd ps sp/\mg x=some (.ref f)/\ET K (.ref f)=true/\Binds K fd ps []
theorem jW (C:CalX X.prog X.w X.K X.mg X.base k x ps sp)(hr:Room k X.A)(hx:Raises X R)(ha:PA X (e::es) t)(hg:Gl X x:=by rfl)
  (hdb:(x==("__debug__":Str))=false:=by decide) (he:Ev (e::es) X.env=(false,EY e X.env)::Ev es X.env:=by rfl) (hpl:(E7 pos (Ev es X.env)).any (·.1)=false:=by rfl) :
  PE X (.Call (.Name x p) (e::es) [] pos) (Ry sp R t):=by
 obtain⟨f,fd,F,hm,hk,hb⟩:=C.ex;intro Dp s σ H Q I h;refine YD (uI I hg hm ?_ hdb);refine Y0 (h₀:=X.base) I.ok.mod.kin hk (A3 (ha pos Dp s σ H _ I h) fun us s1 ⟨vs,H1,I1,r,q⟩=>⟨I1.kIn,?_⟩) he hpl;exact HK F hr hb hx I1 r q
end
def RL (X:Cx)(Dp:De)(H:Hp)(b:Eh):Prop :=
 H b=none/\X.s₀.heap.get? b=none/\b≠X.env.locals/\(∀x c,X.env.cells.lookup x=some c->c≠b)/\∀p∈X.pn++Dp,p.1≠b
section
variable {X:Cx}{Dp D0:De}{σ:St}{H:Hp}{s:Ej}{h':EC}{R:St->Hp->Eg->Prop}
theorem Inv.fr1 (I:Inv X Dp σ H s)(hex:X.ex=[]){H':Hp}{b:Eh}(e:s.heap.get? b=none)(n:H' b=none):RL X Dp H' b:=by
 refine⟨n,I.old_none hex e,fun z=>?_,fun x c q z=>?_,fun p hp z=>?_⟩
 ·obtain⟨m,⟨o,_,_,ho,_⟩,_⟩:=I.loc;rw[←z,e]at ho;cases ho
 ·obtain⟨v,o,ho,_⟩:=I.cell x c q;rw[z,e]at ho;cases ho
 ·have ho:=(I.pin p hp).1;rw[z,e]at ho;cases ho
theorem Inv.land {ch:Dd}(I:Inv X Dp σ H s)(hch:∀b∈ch,RL X Dp H b)(k1:(Ul s.heap ch X.stack).StaysIn h')(k2:s.heap.UpToSlots h')(tk:Nat):Inv X Dp σ H { s with heap:=h',toks:=tk }:=by
 have kp:∀b o,s.heap.get? b=some o->b∉ch->b∉frs X.stack->h'.get? b=some o:=fun b o e hc hb=>k1 b o (YR _ e (by
  intro z
  rcases Zf.mp z with z|z
  ·exact hc z
  ·exact hb z))
 have any:∀b o,s.heap.get? b=some o->b∉ch->∃sl,h'.get? b=some { o with slots:=sl }:=fun b o e hc=>by
  by_cases hb:b∈frs X.stack
  ·obtain⟨_,o',ho',hd⟩:=I.stack.mem hb;rw[e]at ho';cases ho';exact k2 b o e hd
  ·exact⟨o.slots,kp b o e hc hb⟩
 have nst:∀b,b≠X.env.locals->b∉X.fs->b∉frs X.stack:=fun b h1 h2 z=>(Q7.mp (I.stkSub b z)).elim h1 h2;have nL:∀b o,X.s₀.heap.get? b=some o->b≠X.env.locals:=fun b o e=>Zr (Zp (Zi e) I.ok.above);have nch:∀b o,X.s₀.heap.get? b=some o->b∉ch:=fun b o e z=>by rw[(hch b z).2.1]at e;cases e
 have cellK:∀c v,s.heap.IsCell c v->h'.IsCell c v:=fun c v ⟨o,ho,hd⟩=>by
  obtain⟨sl,e⟩:=k2 c o ho fun vs z=>by rw[hd]at z;cases z
  exact⟨_,e,hd⟩
 refine⟨I.ok,I.os,I.bare,⟨fun b o e n hb hx=>?_,fun b o e n hb hx=>?_,I.base.free,fun b o e hx=>?_,I.base.tups,I.base.frzs,I.base.tbls⟩,?_,fun x c e=>?_,I.free,I.freeC,fun p hp=>?_,fun b u e=>?_,I.len⟩
 ·exact kp b o (I.base.keep b o e n hb hx) (nch b o e) (nst b (nL b o e) hb)
 ·obtain⟨sl,e1⟩:=I.base.slot b o e n hb hx;obtain⟨sl',e2⟩:=any b _ e1 (nch b o e);exact⟨sl',e2⟩
 ·obtain⟨o',e1⟩:=I.base.there b o e hx;obtain⟨sl',e2⟩:=any b _ e1 (nch b o e);exact⟨_,e2⟩
 ·obtain⟨m,hn,hl⟩:=I.loc;refine⟨m,k2.ns hn,fun i x v e1 e2 e3=>?_⟩;obtain⟨u,r,l⟩:=hl i x v e1 e2 e3;refine⟨u,r,?_⟩
  rcases l with l|⟨k,c,e,z⟩
  ·exact .inl l
  ·exact .inr ⟨k,c,e,cellK c _ z⟩
 ·obtain⟨v,z⟩:=I.cell x c e;exact⟨v,cellK c v z⟩
 ·obtain⟨e,n,ne,nf,d⟩:=I.pin p hp;exact⟨kp _ _ e (fun z=>(hch _ z).2.2.2.2 p hp rfl) (nst _ ne nf),n,ne,nf,d⟩
 ·refine(I.hok b u e).stay (fun c v hc r=>kp c v r (fun z=>?_) fun z=>?_) (fun _ r=>r) fun _ _ r=>r
  ·have hz:=(hch c z).1
   rcases hc with y|y
   ·rw[y,e]at hz;cases hz
   ·rw[y]at hz;cases hz
  ·have hz:=I.stkFree c z
   rcases hc with y|y
   ·rw[y,e]at hz;cases hz
   ·rw[y]at hz;cases hz
theorem Inv.takeUp2 (I:Inv X Dp σ H s)(f:RL X Dp H T)(new:ObjOk X.prog X.w (upd H T o) s.heap T o):Inv X Dp σ (upd H T o) s:=by
 obtain⟨n,h0,hL,hc,hp⟩:=f;refine⟨I.ok,I.os,I.bare,I.base.adopt2 h0 n,I.loc,I.cell,?_,fun x c e=>?_,fun p hpp=>?_,I.hok.adopt n new,I.len⟩
 ·rw[zG (ED hL)];exact I.free
 ·rw[zG (hc x c e)];exact I.freeC x c e
 ·obtain⟨e,n',ne,nf,d⟩:=I.pin p hpp;exact⟨e,by rw[zG (hp p hpp)];exact n',ne,nf,d⟩
theorem Inv.forgot (I:Inv X Dp σ H s){m:Str->Dc}(hn:h'.Ns X.env.locals m)(sb:Lb X.env.locals s.heap h')(tk:Nat):Inv X Dp (LF X.N.length none) H { s with heap:=h',toks:=tk }:=by
 have nL:∀b o,X.s₀.heap.get? b=some o->b≠X.env.locals:=fun b o e=>Zr (Zp (Zi e) I.ok.above);refine⟨I.ok,I.os,I.bare,⟨fun b o e n hb hx=>(sb.2 b (nL b o e)).trans (I.base.keep b o e n hb hx),fun b o e n hb hx=>?_,I.base.free,fun b o e hx=>?_,I.base.tups,I.base.frzs,I.base.tbls⟩,⟨m,hn,fun i x v _ e2 _=>?_⟩,fun x c e=>?_,I.free,I.freeC,fun p hp=>?_,fun b u e=>?_,by simp⟩
 ·obtain⟨sl,e1⟩:=I.base.slot b o e n hb hx;exact⟨sl,(sb.2 b (nL b o e)).trans e1⟩
 ·obtain⟨o',e1⟩:=I.base.there b o e hx;exact⟨o',(sb.2 b (nL b o e)).trans e1⟩
 ·rw[List.getElem?_replicate]at e2
  split at e2<;>cases e2
 ·obtain⟨v,z⟩:=I.cell x c e;exact⟨v,z.sameBut sb (I.cne x c e)⟩
 ·obtain⟨e,n,ne,nf,d⟩:=I.pin p hp;exact⟨(sb.2 p.1 ne).trans e,n,ne,nf,d⟩
 ·refine(I.hok b u e).stay (fun c v hc r=>(sb.2 c fun z=>?_).trans r) (fun _ r=>r) fun _ _ r=>r;have hz:=I.free;rw[←z]at hz
  rcases hc with y|y
  ·rw[y,e]at hz;cases hz
  ·rw[y]at hz;cases hz
def Cx.tryc (X:Cx)(Dp:De)(R:St->Hp->Eg->Prop):Cx :=
 { X with pn:=X.pn++Dp,xe:=fun e s'=>∃a T cls σ H,e=.ref a/\Inv X Dp σ H s'/\RL X Dp H a/\RL X Dp H T/\ExcAt s'.heap a T cls/\R σ H cls }
theorem Inv.into (I:Inv X Dp σ H s)(R:St->Hp->Eg->Prop):Inv (X.tryc Dp R) [] σ H s :=
 ⟨⟨I.ok.mod,I.ok.kind,I.ok.glob,I.ok.blt,I.ok.above,I.ok.inj,I.ok.has,I.ok.cab,I.ok.hd,I.ok.frames,I.ok.stk,I.ok.exf,I.ok.bs,I.ok.bsz,I.ok.noex,I.ok.exfs,I.ok.funs,I.ok.frf⟩,I.os,I.bare,I.base,I.loc,I.cell,I.free,I.freeC,fun p hp=>I.pin p (by
  have hp:p∈(X.pn++Dp)++[]:=hp;simpa using hp),I.hok,I.len⟩
theorem Inv.outof (I:Inv (X.tryc Dp R) D0 σ H s):Inv X Dp σ H s :=
 ⟨⟨I.ok.mod,I.ok.kind,I.ok.glob,I.ok.blt,I.ok.above,I.ok.inj,I.ok.has,I.ok.cab,I.ok.hd,I.ok.frames,I.ok.stk,I.ok.exf,I.ok.bs,I.ok.bsz,I.ok.noex,I.ok.exfs,I.ok.funs,I.ok.frf⟩,I.os,I.bare,I.base,I.loc,I.cell,I.free,I.freeC,fun p hp=>I.pin p (ZC _ hp),I.hok,I.len⟩
theorem SP.outof (h:SP (X.tryc Dp R) D0 D f s'):SP X Dp D f s':=by
 cases f with
 |next=>obtain⟨σ',H',I,q⟩:=h;exact⟨σ',H',I.outof,q⟩
 |brk=>obtain⟨σ',H',I,q⟩:=h;exact⟨σ',H',I.outof,q⟩
 |cont=>obtain⟨σ',H',I,q⟩:=h;exact⟨σ',H',I.outof,q⟩
 |ret u=>obtain⟨v,σ',H',I,r,q⟩:=h;exact⟨v,σ',H',I.outof,r,q⟩
theorem CQ (hex:X.ex=[]):Raises (X.tryc Dp R) R:=by
 intro D0 σ H s e s' I hx;obtain⟨a,T,cls,H',rfl,os,bare,un,hok,na,nT,ha,hT,ea,q⟩:=hx;have I0:Inv X Dp σ H s:=I.outof;have I1:Inv X Dp σ H' s':=I0.call' (ch:=[]) os un hok bare fun b z=>absurd z (by simp);exact⟨a,T,cls,σ,H',rfl,I1,I0.fr1 hex na ha,I0.fr1 hex nT hT,ea,q⟩
def Cx.inexc (X:Cx)(e:Eg):Cx:={ X with A:=X.A.mark (some e),calm:=false,xe:=fun _ _=>False }
theorem Inv.mark (I:Inv X Dp σ H s)(e:Eg):Inv (X.inexc e) Dp σ H s :=
 ⟨⟨I.ok.mod,I.ok.kind,I.ok.glob,I.ok.blt,I.ok.above,I.ok.inj,I.ok.has,I.ok.cab,fun z=>(by cases z),I.ok.frames,I.ok.stk,I.ok.exf,I.ok.bs,I.ok.bsz,I.ok.noex,I.ok.exfs,I.ok.funs,I.ok.frf⟩,I.os,I.bare,I.base,I.loc,I.cell,I.free,I.freeC,I.pin,I.hok,I.len⟩
theorem Inv.unmark {e:Eg}(ok:X.Ok)(I:Inv (X.inexc e) Dp σ H s):Inv X Dp σ H s :=
 ⟨ok,I.os,I.bare,I.base,I.loc,I.cell,I.free,I.freeC,I.pin,I.hok,I.len⟩
end
def U2 (a:Eh)(cls:Eg):HO:=.ext fun h=>∃o vs,h.get? a=some o/\o.cls=cls/\o.data=.fields vs/\ctx0 vs
def SG (K:AZ)(C:Eh)(i:Nat)(tb:(St->Hp->Eg->Prop)->TS)(th:Eh->TS):TS:=fun D σ H=>∃R:St->Hp->Eg->Prop,tb R D σ H /\
 ∀σ' H' cls a,R σ' H' cls->H' a=none->PySem.W.exmOne K cls (.ref C)=some true/\th a { nx:=fun _ _=>False,rt:=D.rt } (σ'.set i (some (.ref a))) (upd H' a (U2 a cls))
section
variable {X:Cx}
theorem OT {body suite:List ER}{b₀:ER}{c n:Str}{C:Eh}{i:Nat}{np hpos pos:Pos}{tb:(St->Hp->Eg->Prop)->TS}{th:Eh->TS}(hst:X.stack=X.env::X.outer)(hfr:X.env.frame=some X.env.locals)(hex:X.ex=[])
  (hb:∀Dp R,PSs (X.tryc Dp R) body (tb R)) (hg:Gl X c) (hm:X.mg c=some (.ref C)) (hN:X.N.Nodup) (hi:X.N[i]?=some n) (hl:X.env.scope.names.lookup n=some .local) (hs:∀z:Eh,PSs (X.inexc (.ref z)) (b₀::suite) (th z))
  (hd:(c==("__debug__":Str))=false:=by decide):PS X (.Try body [.ExceptHandler (some (.Name c np)) (some n) (b₀::suite) hpos] [] [] pos) (SG X.K C i tb th):=by
 intro Dp s σ H D I h;obtain⟨R,hb1,hh⟩:=h;refine wpAny_Try_except (Yd (hb Dp R [] s σ H D (I.into R) hb1) (fun f s1 q=>?_) fun e s1 q=>?_)
 ·have q':SP X Dp D f s1:=q.outof;cases f with
  |next=>exact JF q'
  |brk=>exact q'
  |cont=>exact q'
  |ret u=>exact q'
 ·obtain⟨a,T,cls,σ1,H1,rfl,I1,fa,fT,⟨oe,vs,oT,ts,e1,e2,e3,e4,e5,e6,e7,e8⟩,r1⟩:=q;obtain⟨hx,hth⟩:=hh σ1 H1 cls a r1 fa.1;have hA:X.A.frames=some (X.env::X.outer):=by rw[I1.ok.frames,hst]
  have hch:∀b∈[a,T],RL X Dp H1 b:=fun b z=>by
   rcases Q7.mp z with z|z
   ·rwa[z]
   ·rwa[QV.mp z]
  have fl3:s1.heap.FunFrames (Ul s1.heap [a,T] X.stack) (X.env::X.outer):=by have z:=j9 (as:=[a,T]) I1.stack;rw[hst]at z ⊢;exact z
  have fly:K8 ctx0 s1.heap (Ul s1.heap [a,T] X.stack) a cls .none:=⟨oe,vs,T,oT,ts,e1,e2,e3,e4,Ju _ (by simp),e5,e6,e7,e8⟩;refine Hz UJ hA fl3 hfr fly jX (Ju _ (by simp)) fun h2 g1 g2 held2 sm2=>?_;refine qZ (s:={ s1 with heap:=h2 }) g1 g2 held2 fun h3 st3 ff3 fly3 sm3=>?_;have I3:Inv X Dp σ1 H1 { s1 with heap:=h3 }:=I1.land hch st3 (sm2.trans sm3) s1.toks;refine wpAny_handleBy_cons (codeAny_handlers_test ?_) (by intro z;cases z);refine uI (X:=X.inexc (.ref a)) (I3.mark _) hg hm ?_ hd;obtain⟨ob,_,_,_,_,hob,⟨hobc,_⟩,_⟩:=id fly3;have LT:PySem.W.Looks (Es X.prog X.w) h3 (typeOf (.ref a)) cls:=hobc▸(PySem.W.Looks.ld hob).andThen .now;refine(PySem.W.exm_one (K:=X.K) (h:=h3) I3.kIn LT hx).here ?_;refine codeAny_handlers_suite_as (qZ (s:={ s1 with heap:=h3 }) st3 ff3 fly3 fun h4 st4 ff4 fly4 sm4=>?_);have I4:Inv X Dp σ1 H1 { s1 with heap:=h4 }:=I1.land hch st4 ((sm2.trans sm3).trans sm4) s1.toks;have new:ObjOk X.prog X.w (upd H1 a (U2 a cls)) h4 a (U2 a cls):=by
   obtain⟨oe4,vs4,_,_,_,g1,⟨g2,gc⟩,g3,_⟩:=fly4;exact⟨⟨oe4,vs4,g1,g2,g3,gc⟩,⟨oe4,g1⟩,fun u1 u2 ⟨o,v,z1,z2,z3⟩ k=>⟨o,v,k o z1,z2,z3⟩⟩
  have I5:Inv X Dp σ1 (upd H1 a (U2 a cls)) { s1 with heap:=h4 }:=I4.takeUp2 fa new;refine Xx (X:=X.inexc (.ref a)) (v:=.ref a) (I5.mark _) hN hi (EJ hl) rfl (fun s6 I6=>?_) (Or.inr hl);refine Yd (hs a Dp s6 _ _ _ I6 hth) (fun f s7 q7=>?_) fun _ _ z=>z.elim;cases f with
  |ret u =>
   obtain⟨v,σ7,H7,I7,rv,q⟩:=q7;have I7':Inv X Dp σ7 H7 s7:=I7.unmark I1.ok;obtain⟨m,hn,_⟩:=I7'.loc;refine wpAny_nameGoes hl hn (by rw[I7'.ok.kind];rfl) fun h8 m8 hn8 sb8=>?_;exact⟨v,_,H7,I7'.forgot hn8 sb8 _,rv,q⟩
  |next=>obtain⟨_,_,_,z⟩:=q7;exact z.elim
  |brk=>obtain⟨_,_,_,z⟩:=q7;exact z.elim
  |cont=>obtain⟨_,_,_,z⟩:=q7;exact z.elim
end
section
variable {P:Ei}{w:Eo}{K:AZ}{mg:Str->Dc}{base:EC}
theorem Fun.okX {st:ER}{k:Nat}{sp:Sp}(F:Fun K x qual st f fd)(S:FnScope N ps (zH st))(len:∀vs H Q E,sp vs H Q E->vs.length=ps.length)
  (D9:∀(cdv:Eg) (A:EF) (outer:List Env) (s:Ej) (H:Hp) (vs:Dj) (Q:VK) (E:XK),Room k (A.deeper (envOfC qual (zH st) s.heap.objs.size f cdv))->sp vs H Q E -> ∃t,PSs (G7 (Ci P w) P w K mg base N qual (zH st) f cdv A outer s H E) (xL st) t/\t { nx:=fun _ H'=>Q .non H',rt:=Q } (start N vs) H):FnOk P w K mg base (Ci P w) (k+1) f fd ps sp:=by
 obtain⟨oc,od,kV,doc,pm,an,cdv,ct,osl,rfl,lk,hcd⟩:=F.ex;refine Pj lk hcd S len fun A outer s H vs Q E hr hsp=>?_;obtain⟨t,h,q⟩:=D9 cdv A outer s H vs Q E hr hsp;exact⟨t,h,q⟩
end
section
variable {X:Cx}{a:EI}{ta:TE}{K:AZ}
def TF (K:AZ)(ta:TE):TT:=fun σ H Q=>ta σ H fun x H'=>∃k,PQ K x H' k/\Q k H'
theorem zV (ha:PE X a ta)(he:∀whole,isTrue a X.env whole=(do let v ←whole;standAt a.pos;Mn [v] (truthy v)))(hK:X.K=K:=by rfl):PT X a (TF K ta):=by
 subst hK;exact Ny ha he
def Tk (K:AZ):Dj->Hp->VK->Prop:=fun xs H Q=>∃y T t b,xs=[y,.ty T]/\TyOf K H y t/\EB K t (.type T)=some b/\Q (.bl b) H
theorem G0 (hK:X.K=K:=by rfl):CallR X (.builtin "isinstance") (Tk K):=by
 subst hK;exact B5
end
end L2
namespace An
open PySem L2
abbrev cs (x:Str):List Nat:=x.cps.toList
theorem cs_inj (h:cs x=cs y):x=y:=by
 obtain⟨a⟩:=x;obtain⟨b⟩:=y;have:a=b:=by simpa using h
 rw[this]
theorem cs_append (x y:Str):cs (x++y)=cs x++cs y:=by
 show(x.cps++y.cps).toList=_;simp
theorem length_cs (x:Str):x.length=(cs x).length:=by simp[Str.length]
theorem len_append (x y:Str):(x++y).length=x.length+y.length:=by rw[length_cs,length_cs,length_cs,cs_append,Q4]
theorem uB:∀xs:Da,cs (Ml "" xs)=xs.flatMap cs
 |[]=>rfl
 |[x]=>by show cs x=_;simp
 |x::y::r=>by
  show cs (x++""++Ml "" (y::r))=_;have:cs ("":Str)=[]:=by decide +kernel
  rw[cs_append,cs_append,uB (y::r),this,Zy];simp
theorem jM:∀(a b:Da),EU (a.map .str) (b.map .str)=decide (a=b)
 |[],[]=>rfl
 |[],_::_=>rfl
 |_::_,[]=>rfl
 |x::a,y::b=>by
  show((x==y)&&EU (a.map .str) (b.map .str))=_;rw[jM a b,Z8];simp
structure Ok (n:Nat)(x:Str):Prop where
 len:x.length<=n
 ok:Em x=true
theorem qB (x:Str):Em x=true↔∀c∈cs x,c<1114112:=by
 unfold Em;rw[←Array.all_toList,Zu];simp
theorem jN:∀ls:Da,(∀p∈ls,Em p=true)->Ep (ls.map .str)=true/\Ez (ls.map .str)=0
 |[],_=>⟨rfl,rfl⟩
 |x::ls,h=>by
  obtain⟨h1,h2⟩:=jN ls fun p hp=>h p (QY _ hp);refine⟨?_,?_⟩
  ·show(Em x&&Ep (ls.map .str))=true;rw[h x Q1,h1];rfl
  ·show max 0 (Ez (ls.map .str))=0;rw[h2];rfl
theorem y9 {ls:Da}(h:∀p∈ls,Em p=true):SeqAt.shaped (.list (ls.map .str))=true/\SeqAt.shaped (.tuple (ls.map .str))=true:=by
 obtain⟨h1,h2⟩:=jN ls h;refine⟨?_,?_⟩
 ·show(Ep (ls.map .str)&&decide (Ez (ls.map .str)+1<=64))=true;rw[h1,h2];rfl
 ·show(Ep (ls.map .str)&&decide (Ez (ls.map .str)+1<=64))=true;rw[h1,h2];rfl
theorem zC {H:Hp}{l:Eh}(h:H l=none):Same H (upd H l o):=fun b u e=>by rwa[zG (zM e h)]
theorem le_line {n:Nat}(h:n<=16777216):n<=sizeLine:=by rwa[Yj]
theorem yT {n:Nat}(h:n<16777216):n<sizeLine:=by rwa[Yj]
theorem Id {α:Type}(x:α)(r:List α):Cg (x::r) 0=some x:=xQ (j:=0) rfl
theorem VP (n:Nat)(h:n<=16777216:=by decide):n<=sizeLine:=le_line h
theorem MK {c A B:Prop} [Decidable c](hc:¬c)(h:B):if decide c=true then A else B:=by
 rw[Q9 hc];exact VL h
theorem F0 {n:Nat}:∀(ys:Da),(∀y∈ys,y.length<=n)->(ys.map (·.length)).sum<=ys.length*n
 |[],_=>by simp
 |y::ys,h=>by
  have h1:=F0 ys fun z hz=>h z (QY _ hz);have h2:=h y Q1;rw[Zn,YG,Zd,Nat.succ_mul];omega
theorem Xv {α:Type}{p:α->Prop}{l:List α}{x:α}(h:∀y∈l,p y)(hx:p x):∀y∈l++[x],p y:=fun y hy=>by
 rcases Zf.mp hy with z|z
 ·exact h y z
 ·rwa[QV.mp z]
theorem XN {α:Type}{f:α->V}{xs:List α}{i:Int}(h0:0<=i)(h1:i<xs.length):∃x,xs[i.toNat]?=some x/\Cg (xs.map f) i=some (f x):=by
 obtain⟨j,rfl⟩:=Ji h0;have hj:j<xs.length:=by omega
 refine⟨xs[j],by simp[hj],xQ ?_⟩;rw[Za,Q5 hj];rfl
theorem Fy {n:Nat}{i:Int}(h0:0<=i)(h1:i<n):N6 n i=some i.toNat:=by
 unfold N6;rw[Zk h0,Zk h1]
theorem GU {i:Int}(h0:0<=i):V9 xs none (some i)=xs.take i.toNat:=by
 obtain⟨j,rfl⟩:=Ji h0;unfold V9;rw[HT.sIx_none,HT.sIx_nat,List.drop_zero];show xs.take (min j xs.length-0)=xs.take j
 by_cases h:j<=xs.length
 ·rw[Nat.min_eq_left h];rfl
 ·rw[Nat.min_eq_right (by omega),Nat.sub_zero,Zq,JR (by omega)]
theorem Ik {i:Int}(h0:0<=i):V9 xs (some i) none=xs.drop i.toNat:=by
 obtain⟨j,rfl⟩:=Ji h0;unfold V9;rw[HT.sIx_none,HT.sIx_nat];show(xs.drop (min j xs.length)).take (xs.length-min j xs.length)=xs.drop j
 by_cases h:j<=xs.length
 ·rw[Nat.min_eq_left h];exact JR (by rw[Z9];omega)
 ·rw[Nat.min_eq_right (by omega),List.drop_eq_nil_of_le (Q2 _),List.drop_eq_nil_of_le (by omega)];simp
def TSame (H H':Hp):Prop:=∀b o,H b=some o->(∀xs,o≠.lst xs)->H' b=some o
theorem TSame.upd {H:Hp}{l:Eh}{xs ys:Dj}(h:H l=some (.lst xs)):TSame H (L2.upd H l (.lst ys)):=fun b o e n=>by
 have hb:b≠l:=fun z=>by rw[z,h]at e;cases e;exact n xs rfl
 rwa[zG hb]
theorem MQ (K:AZ)(T:String):EB K (.type T) (.type T)=some true:=by
 unfold EB;rw[Zk (by simp)]
theorem ML {A B:Prop}(h:B):if(!true)=true then A else B:=by
 show if false=true then A else B;exact VL h
def one (c:Nat):Str:=⟨#[c]⟩
theorem j8:∀l:List Nat,cs (Lj "" (l.map one))=l:=by
 intro l;have e2:Lj "" (l.map one)=Ml "" (l.map one):=E9 _ _;rw[e2,uB,List.flatMap_map]
 induction l with
 |nil=>rfl
 |cons c l ih =>
  rw[List.flatMap_cons];show[c]++_=_;rw[ih (E9 _ _)];rfl
theorem B8:∀l:List Nat,((l.map one).map (·.length)).sum=l.length
 |[]=>rfl
 |c::l=>by
  rw[Zn,Zn,YG,B8 l,Zd];show 1+l.length=_;omega
end An
namespace L2
open PySem PySem.Spec PyProof.Rows
end L2
namespace AxT
open PySem PySem.Spec PyProof.Rows PySem.SeqAt
open AutoSeq1 (wpAny_loadPart')
end AxT
namespace L2
open PySem PySem.Spec PyProof.Rows
end L2
namespace AxR
open PySem PySem.Spec PyProof.Rows
open AutoSeq1 (wpAny_loadPart')
end AxR
namespace L2
open PySem PySem.Spec PyProof.Rows
section
variable {X:Cx}{tg:EI}
theorem boot_reversed:Lx "reversed"=some (.type "reversed"):=by decide +kernel
end
section
variable {X:Cx}{K:AZ}
def Tm:R2:=fun x y H Q=>∃i j:Str,x=.str i/\y=.str j/\Q (.bl (!decide (j.cps.toList<i.cps.toList))) H
theorem Bf:Ce X (EO .LtE) Tm:=by
 intro Dp s σ H x y v u Q I rx ry h;obtain⟨i,j,rfl,rfl,q⟩:=h;obtain⟨t,rfl⟩:=rx;obtain⟨t',rfl⟩:=ry;exact P.le_str ⟨.bl _,H,I,rfl,q⟩
theorem GY:∀{bs:List Bool} {us:Db},Vals (bs.map V.bl) us->us=bs.map LS
 |[],us,h=>by cases h;rfl
 |b::bs,us,h=>by
  cases h with
  |cons r1 r2=>rw[GY r2];cases r1;rfl
def Te (K:AZ):Dj->Hp->VK->Prop:=fun xs H Q=>∃(a:Eh) (bs:List Bool),xs=[.ref a]/\SqL K H a (bs.map V.bl)/\Q (.bl (bs.all id)) H
theorem jQ (hc:X.calm=true)(hK:X.K=K:=by rfl):CallR X (.builtin "all") (Te K):=by
 subst hK;intro Dp s σ H xs us Q I r h;obtain⟨a,bs,rfl,ha,q⟩:=h;obtain⟨u,rfl,ru⟩:=vals1 r;cases ru;obtain⟨its,rv,pl,hz⟩:=I.list ha;have ei:=GY rv;have hl:=pl.isList;have hlt:a<s.heap.objs.size:=by obtain⟨_,e,_⟩:=hl;exact Zi e
 refine call_all_walk (JN hl ?_);refine⟨s.heap.objs.size,[s.heap.objs.size,a],[s.heap.objs.size],its.toArray.size,_,_,fun i=>(bs[i]?).getD true,rfl,Walks.list (A:=X.A.in1) (I.ok.hd hc) _ a (Zr hlt) its.toArray,⟨⟨_,Ze _ rfl,rfl,rfl⟩,hl.push _⟩,fun i v s' Q' E' hP hQ=>?_,fun h' tk hk=>?_⟩
 ·have hP:its[i]?=some v:=by simpa using hP
  rw[ei,Za]at hP;cases e:bs[i]? with
  |none=>rw[e]at hP;cases hP
  |some b =>
   rw[e]at hP;have hP:LS b=v:=Option.some.inj hP;subst hP;simp only[e,J5]at hQ;exact YJ hQ
 ·have Dq:its.length=bs.length:=by rw[ei,QU]
  have e:((EA its.toArray.size).all fun i=>(bs[i]?).getD true)=bs.all id:=by
   rw[Zg,Dq];exact PyProof.Rows.LSm.range_all bs
  rw[e];exact⟨.bl _,H,I.kept (PyProof.Rows.LSm.kept_iter hk),rfl,q⟩
end
mutual
def Dw (K:AZ)(H:Hp):El->V->Prop
 | .none,v=>v=.non
 | .bool b,v=>v=.bl b
 | .int i,v=>v=.int i
 | .str x,v=>v=.str x
 | .list ds,v=>∃a xs,v=.ref a/\SqL K H a xs/\DwAll K H ds xs
 | .tuple ds,v=>∃a xs,v=.ref a/\SqT K H a xs/\DwAll K H ds xs
 | .dict _,v=>∃a Dm,v=.ref a/\H a=some (.dK Dm)
def DwAll (K:AZ)(H:Hp):Df->Dj->Prop
 |[],xs=>xs=[]
 |d::ds,xs=>∃x r,xs=x::r/\Dw K H d x/\DwAll K H ds r
end
mutual
theorem Dw.same {K:AZ}(e:Same H H'):∀(d:El) (v:V),Dw K H d v->Dw K H' d v
 | .none,_,h=>h
 | .bool _,_,h=>h
 | .int _,_,h=>h
 | .str _,_,h=>h
 | .list ds,_,⟨a,xs,h1,h2,h3⟩=>⟨a,xs,h1,e.seq h2,DwAll.same e ds xs h3⟩
 | .tuple ds,_,⟨a,xs,h1,h2,h3⟩=>⟨a,xs,h1,e.tupS h2,DwAll.same e ds xs h3⟩
 | .dict _,_,⟨a,Dm,h1,h2⟩=>⟨a,Dm,h1,e _ _ h2⟩
theorem DwAll.same {K:AZ}(e:Same H H'):∀(ds:Df) (xs:Dj),DwAll K H ds xs->DwAll K H' ds xs
 |[],_,h=>h
 |d::ds,_,⟨x,r,h1,h2,h3⟩=>⟨x,r,h1,Dw.same e d x h2,DwAll.same e ds r h3⟩
end
mutual
theorem Dt.dw {K:AZ}:∀{d:El} {v:V},Dt K H d v->Dw K H d v
 | .none,_,h=>h
 | .bool _,_,h=>h
 | .int _,_,h=>h
 | .str _,_,h=>h
 | .list ds,_,⟨a,xs,h1,h2,h3⟩=>⟨a,xs,h1,h2,DtAll.dw h3⟩
 | .tuple ds,_,⟨a,xs,h1,h2,h3⟩=>⟨a,xs,h1,h2,DtAll.dw h3⟩
 | .dict _,_,h=>h.elim
theorem DtAll.dw {K:AZ}:∀{ds:Df} {xs:Dj},DtAll K H ds xs->DwAll K H ds xs
 |[],_,h=>h
 |d::ds,_,⟨x,r,h1,h2,h3⟩=>⟨x,r,h1,Dt.dw h2,DtAll.dw h3⟩
end
theorem DwAll.length {K:AZ}:∀{ds:Df} {xs:Dj},DwAll K H ds xs->xs.length=ds.length
 |[],_,h=>by rw[show _=[] from h];rfl
 |d::ds,_,⟨x,r,h1,h2,h3⟩=>by rw[h1,Zd,Zd,DwAll.length h3]
theorem DwAll.get {K:AZ}:∀{ds:Df} {xs:Dj} {i:Nat} {x:V},DwAll K H ds xs->xs[i]?=some x->∃d,ds[i]?=some d/\Dw K H d x
 |[],_,i,x,h,e=>by rw[show _=[] from h]at e;cases e
 |d::ds,_,0,x,⟨x',r,h1,h2,h3⟩,e=>by
  rw[h1]at e;cases e;exact⟨d,rfl,h2⟩
 |d::ds,_,i+1,x,⟨x',r,h1,h2,h3⟩,e=>by
  rw[h1]at e;obtain⟨d',e1,e2⟩:=DwAll.get (i:=i) h3 (by simpa using e);exact⟨d',by simpa using e1,e2⟩
theorem DwAll.at {K:AZ}{i:Nat}{d:El}(h:DwAll K H ds xs)(e:ds[i]?=some d):∃x,xs[i]?=some x/\Dw K H d x:=by
 have hi:i<xs.length:=by rw[h.length];exact(Zl.mp e).1
 obtain⟨d',e',q⟩:=h.get (Q5 hi);rw[e]at e';cases e';exact⟨_,Q5 hi,q⟩
def Um:El->String
 | .none=>"NoneType"
 | .bool _=>"bool"
 | .int _=>"int"
 | .str _=>"str"
 | .list _=>"list"
 | .tuple _=>"tuple"
 | .dict _=>"dict"
section
variable {X:Cx}{Dp:De}{σ:St}{H:Hp}{s:Ej}{A:EF}{E:Eg->Dh}{Q:Eg->Dh}{c:Eg}{b:Bool}{K:AZ}
theorem Kz (I:Inv X Dp σ H s)(rx:RelV x u)(hd:Dw X.K H d x)(e:EB X.K (.type (Um d)) c=some b)(h:∀tk,Q (.bool b) { s with toks:=tk }) :
  Ek (Es X.prog X.w) A (call (.builtin "isinstance") [u,c]) Q E s:=by
 cases d with
 |none=>cases(show x=_ from hd);exact qN I rx .non e h
 |bool y=>cases(show x=_ from hd);exact qN I rx (.bl y) e h
 |int i=>cases(show x=_ from hd);exact qN I rx (.int i) e h
 |str y=>cases(show x=_ from hd);exact qN I rx (.str y) e h
 |dict Dm=>obtain⟨a,ks,rfl,ea⟩:=hd;exact qN I rx (.dK ea) e h
 |list ds =>
  obtain⟨a,xs,rfl,hs,_⟩:=hd;cases(show u=Ew a from rx);obtain⟨its,_,⟨o,n,h1,h2,_⟩,_⟩:=I.list hs;exact ZW Vn I.kIn ⟨o,h1,h2⟩ e (fun z=>nomatch z) h
 |tuple ds =>
  obtain⟨a,xs,rfl,hs,_⟩:=hd;cases(show u=Ew a from rx);obtain⟨its,_,p,_⟩:=I.tuple hs;obtain⟨o,h1,h2,_⟩:=p;exact ZW PySem.W.kitx_tuple I.kIn ⟨o,h1,h2⟩ e (fun z=>nomatch z) h
def Sr (K:AZ):Dj->Hp->VK->Prop:=fun xs H Q=>∃y T d b,xs=[y,.ty T]/\Dw K H d y/\EB K (.type (Um d)) (.type T)=some b/\Q (.bl b) H
theorem zX (hK:X.K=K:=by rfl):CallR X (.builtin "isinstance") (Sr K):=by
 subst hK;intro Dp s σ H xs us Q I r h;obtain⟨y,T,d,b,rfl,hd,kt,q⟩:=h;obtain⟨u,w',rfl,ru,rw'⟩:=vals2 r;cases(show w'=Value.type T from rw');exact Kz I ru hd kt fun tk=>⟨.bl b,H,I.tok _,rfl,q⟩
end
section
variable {src:List (Option Nat)}{g:TG}{te:TE}{Q:VK}{σ:St}{H:Hp}
theorem IS {x:Str}(Pv:Nat->Dj->St->Hp->Prop)(h0:Pv 0 [] (V6 src σ) H)(hz:x.length<=sizeLine)(hl:∀i ys σ H,i<=x.length->Pv i ys σ H->ys.length<=i)
  (hs:∀i c ys σ H,x.cps[i]?=some c->Pv i ys σ H->g (.str ⟨#[c]⟩) σ H fun σ2 H3=>te σ2 H3 fun y H5=>Pv (i+1) (ys++[y]) σ2 H5)
  (hd:∀ys σ H,Pv x.length ys σ H->∀p,H p=none->Q (.ref p) (upd H p (.lst ys))):Uw src (RS x) g Gq te Q σ H :=
 Ba x.length Pv h0 hz hl (fun _ _ _ _=>rfl) (fun _ _ _ _ hi _=>hi)
  (fun i ys σ H hi p x' H2 y=>by
   obtain⟨e,c,hc,rfl⟩:=y;subst e;rw[G1];exact hs i c ys σ _ hc p) hd
end
end L2
namespace L2
open PySem PySem.Spec PyProof.Rows
section
variable {X:Cx}{K:AZ}{a b c d:EI}{ta tb tc td:TE}{pos:Pos}
def Sq (K:AZ)(tup neg:Bool):R2:=fun x y H Q=>∃(d:El) (xs:Df),Dt K H d x/\Dt K H (if tup then .tuple xs else .list xs) y/\Ep xs=true/\d.canLay0=true/\d.depth<=60/\Q (.bl (neg !=xs.any fun y=>EE y d)) H
end
def Fh (K:AZ)(a:Eh)(n:Nat):It :=
 ⟨fun i H=>∃xs,SqL K H a xs/\xs.length=n/\i<n,fun i H v H'=>H'=H/\∀xs,SqL K H a xs->xs[n-1-i]?=some v,fun i _=>i=n⟩
theorem K2 {P:Ei}{w:Eo}{K:AZ}{tg:EI}(a it:Eh)(n:Nat) :
  Turn P w K tg (Fh K a n) [it] it (fun i h=>i<=n/\h.IsRevIter it a ((n:Int)-1-(i:Int))) where
 mem:=by simp
 obj:=fun i h st b hb=>by
  have e:b=it:=by simpa using hb
  subst e;obtain⟨_,o,ho,_,hd⟩:=st;exact⟨_,ho,fun v z=>by rw[hd]at z;cases z⟩
 keep:=fun i h h' st k=>⟨st.1,st.2.at fun o e=>k it (by simp) _ e⟩
 item:=by
  intro X hP hw hK hc i Dp s σ H E I hf st hg;subst hP hw hK;obtain⟨xs,hq,hl,hi⟩:=hg;obtain⟨its,rv,p,hz⟩:=I.list hq;have hx:xs[n-1-i]?=some (xs[n-1-i]'(by omega)):=Q5 (by omega);obtain⟨u,hu,ru⟩:=rv.get hx;obtain⟨f0,f1,f2,f3,f4,f5⟩:=hf it (by simp);have st1:=st.2;have e:(n:Int)-1-(i:Int)=((n-1-i:Nat):Int):=by omega
  rw[e]at st1;refine wpAny_pyNext_rev_item st1 p.isList (x:=u) (by simpa using hu) fun h' st' sb=>?_;have I1:Inv X Dp σ H { s with heap:=h',toks:=s.toks }:=I.turned (fun b o hb e=>(sb.2 b hb).trans e) f0 f1 f3 f4 f5;have e2:((n-1-i:Nat):Int)-1=(n:Int)-1-((i+1:Nat):Int):=by omega
  rw[e2]at st';obtain⟨o',ho',hc',hd'⟩:=id st';exact⟨u,rfl,Cv (s:={ s with heap:=h',toks:=s.toks }) (n:="list_reverseiterator") ho' hc' hd' (by decide) ⟨_,H,I1,ru,⟨rfl,fun ys hy=>by rw[I.list_inj hy hq];exact hx⟩,⟨hi,st'⟩,fun b hb=>(hf b hb).1⟩⟩
 done:=by
  intro X hP hw hK hc i Dp s σ H E I hf st hg;subst hP hw hK;have hg:i=n:=hg;subst hg;obtain⟨f0,f1,f2,f3,f4,f5⟩:=hf it (by simp);have st1:=st.2;have e:(i:Int)-1-(i:Int)=-1:=by omega
  rw[e]at st1;exact wpAny_pyNext_rev_end (I.ok.hd hc) st1 fun h' eb=>⟨rfl,I.turned (t':=s.toks) (fun b o hb e=>eb b o hb e) f0 f1 f3 f4 f5⟩
 self:=fun _ _ _ _ _ st h=>wpAny_pyIter_revIter st.2 h
section
variable {X:Cx}{tg:EI}
def Sb (K:AZ)(ta:TA):TI:=fun σ H R=>ta σ H fun vs H1=>∃a xs,vs=[.ref a]/\SqL K H1 a xs/\R (Fh K a xs.length) H1
theorem OR {a:EI}{p pos:Pos}(hg:Gl X "reversed")(hm:X.mg "reversed"=none)(ha:PA X [a] ta)(hs:Ev [a] X.env=[(false,EY a X.env)]:=by rfl):PI X tg (.Call (.Name "reversed" p) [a] [] pos) (Sb X.K ta):=by
 intro Dp s σ H R I h;refine Call_ (vG I hg hm boot_reversed (YT (A3 (ha pos Dp s σ H _ I h) fun us s1 ⟨vs,H1,I1,r1,q1⟩=>?_) hs rfl));obtain⟨a',xs,e,hq,q⟩:=q1;subst e;obtain⟨u,rfl,ru⟩:=vals1 r1;cases ru;obtain⟨its,rv,p',hz⟩:=I1.list hq;have hl:its.toArray.size=xs.length:=by rw[Zg];exact rv.length.symm
 have hr:(s1.heap.push (revObj a' ((its.toArray.size:Int)-1))).IsRevIter s1.heap.objs.size a' ((its.toArray.size:Int)-1):=⟨_,Ze _ rfl,rfl,rfl⟩;refine call_reversed_list p'.isList (wpAny_pyIter_revIter hr ?_);refine⟨s1.heap.objs.size,[s1.heap.objs.size],_,_,H1,rfl,I1.kept (t':=s1.toks) fun b o e=>Q0 _ e,K2 a' _ xs.length,⟨Zz _,?_⟩,fun b hb=>?_,q⟩
 ·have e:(xs.length:Int)-1-((0:Nat):Int)=(its.toArray.size:Int)-1:=by rw[hl];omega
  rwa[e]
 ·have e:b=s1.heap.objs.size:=by simpa using hb
  subst e;exact I1.fpOk (Q2 _) (I1.hok.fresh (Q2 _))
theorem ME {K:AZ}{xs:Dj}{g:TG}{tb:TS}{D:Ends}{σ:St}{H:Hp}(Pv:Nat->St->Hp->Prop)(h0:Pv 0 σ H)(hl:∀i σ H,i<=xs.length->Pv i σ H->SqL K H a xs)
  (hs:∀i x σ H,i<xs.length->xs[xs.length-1-i]?=some x->Pv i σ H->g x σ H fun σ2 H2=>tb { D with nx:=Pv (i+1),ct:=Pv (i+1),bk:=D.nx } σ2 H2) (hd:∀σ H,Pv xs.length σ H->D.nx σ H):K6 (Fh K a xs.length) g tb D σ H :=
 Hl xs.length Pv h0 (fun _ _ _=>rfl) (fun i σ H hi p=>⟨xs,hl i σ H (Yn hi) p,rfl,hi⟩) (fun i σ H hi p v H' y=>by
  obtain⟨e,hx⟩:=y;subst e;exact hs i v σ _ hi (hx xs (hl i σ _ (Yn hi) p)) p) hd
end
section
variable {X:Cx}{Dp:De}{σ:St}{H:Hp}{s:Ej}
theorem IC (hst:X.stack=X.env::X.outer)(hfr:X.env.frame=some X.env.locals)(hex:X.ex=[])(I:Inv X Dp σ H s){a T:Eh}{cls:Eg}(na:X.s₀.heap.get? a=none)(nT:X.s₀.heap.get? T=none)(ha:H a=none)(hT:H T=none)(ea:ExcAt s.heap a T cls){E:XK}(q:E cls none H)
  {Ex:Eg->Dh}:Ek (Es X.prog X.w) X.A (leaving X.env (.ref a)) (fun _ s''=>Ci X.prog X.w X.outer X.H₀ X.s₀ E (.ref a) s'') Ex s:=by
 have fr:=j9 (as:=[a,T]) I.stack;have hA:X.A.frames=some (X.env::X.outer):=by rw[I.ok.frames,hst]
 have hid:∀b,b=a\/b=T->(Ul s.heap [a,T] X.stack).get? b=none:=fun b hb=>by
  cases hq:(Ul s.heap [a,T] X.stack).get? b with
  |none=>rfl
  |some o =>
   exfalso;have z:=Ju ([a,T]++frs X.stack) (h:=s.heap) (b:=b) (ZC _ (by simpa using hb));rw[z]at hq;cases hq
 obtain⟨oe,vs,oT,ts,t1,t2,t3,t4,t6,t7,t8,t9⟩:=ea;have tw:K8 ctx0 s.heap (Ul s.heap [a,T] X.stack) a cls .none:=⟨oe,vs,T,oT,ts,t1,t2,t3,t4,hid T (.inr rfl),t6,t7,t8,t9⟩;refine FC (base:=Ul s.heap [a,T] X.stack) UJ hA (by rwa[←hst]) hfr tw jX (hid a (.inl rfl)) fun h2 k1 k2 L k4=>?_;obtain⟨oe',vs',T',oT',ts',u1,u2,u3,u4,u5,u6,u7,u8,u9⟩:=L;have stk:∀b∈frs X.stack,H b=none:=I.stkFree;have kp:∀b o,s.heap.get? b=some o->b≠a->b≠T->b∉frs X.stack->h2.get? b=some o:=fun b o e h3 h4 hb=>k1 b o (YR _ e (by
  intro z
  rcases Zf.mp z with z|z
  ·have z:b=a\/b=T:=by simpa using z
   exact z.elim h3 h4
  ·exact hb z))
 have sl:∀b o,s.heap.get? b=some o->b∈frs X.stack->∃sl,h2.get? b=some { o with slots:=sl }:=fun b o e hb=>by
  obtain⟨_,o',ho',hd⟩:=I.stack.mem hb;rw[e]at ho';cases ho';exact k4 b o e hd
 have nL:∀b o,X.s₀.heap.get? b=some o->b≠X.env.locals:=fun b o e=>Zr (Zp (Zi e) I.ok.above);have nex:∀b,b∉X.ex:=fun b=>by rw[hex];simp
 have nA:∀b o,X.s₀.heap.get? b=some o->b≠a:=fun b o e z=>by rw[z,na]at e;cases e
 have nTT:∀b o,X.s₀.heap.get? b=some o->b≠T:=fun b o e z=>by rw[z,nT]at e;cases e
 have nT':T'=T\/s.heap.get? T'=none:=by
  by_cases hq:T'=T
  ·exact .inl hq
  ·refine .inr ?_;cases qT:s.heap.get? T' with
   |none=>rfl
   |some o =>
    exfalso
    by_cases hf:T'∈frs X.stack
    ·have k2':h2.FunFrames (Ul s.heap [a,T] X.stack) X.stack:=by have z:=k2;rw[←hst]at z;exact z
     obtain⟨_,o',ho',hd⟩:=k2'.mem hf;rw[u7]at ho';cases ho';exact hd _ u8
    ·have z:(Ul s.heap [a,T] X.stack).get? T'=some o:=YR _ qT (by
      intro z
      rcases Zf.mp z with z|z
      ·have z:T'=a\/T'=T:=by simpa using z
       exact z.elim u6 hq
      ·exact hf z)
     rw[u5]at z;cases z
 have oT1:X.s₀.heap.get? T'=none:=nT'.elim (fun z=>by rwa[z]) fun z=>I.old_none hex z;have oT2:H T'=none:=nT'.elim (fun z=>by rwa[z]) fun z=>I.none_of z;refine⟨a,T',cls,H,rfl,I.os,I.bare,⟨fun b o e1 n hb _=>?_,fun b o e1 n hb _=>?_,fun b o e1 n _=>I.base.free b o e1 n (nex b),fun b o e1 _=>?_,I.base.tups,I.base.frzs,I.base.tbls⟩,fun b u e1=>?_,na,oT1,ha,oT2,⟨oe',vs',oT',ts',u1,u2,u3,u4,u6,u7,u8,u9⟩,q⟩
 ·refine kp b o (I.base.keep b o e1 n hb (nex b)) (nA b o e1) (nTT b o e1) fun z=>?_
  rcases Q7.mp (I.stkSub b z) with r|r
  ·exact nL b o e1 r
  ·exact hb r
 ·obtain⟨sl1,e2⟩:=I.base.slot b o e1 n hb (nex b)
  by_cases hz:b∈frs X.stack
  ·obtain⟨sl2,e3⟩:=sl b _ e2 hz;exact⟨sl2,e3⟩
  ·exact⟨sl1,kp b _ e2 (nA b o e1) (nTT b o e1) hz⟩
 ·obtain⟨o',e2⟩:=I.base.there b o e1 (nex b)
  by_cases hz:b∈frs X.stack
  ·obtain⟨sl2,e3⟩:=sl b _ e2 hz;exact⟨_,e3⟩
  ·exact⟨o',kp b _ e2 (nA b o e1) (nTT b o e1) hz⟩
 ·have off:∀c,(c=b\/H c=some (.own b))->H c≠none:=fun c hc z=>by
   rcases hc with y|y
   ·rw[y,e1]at z;cases z
   ·rw[y]at z;cases z
  refine(I.hok b u e1).stay (fun c v hc r=>kp c v r (fun z=>?_) (fun z=>?_) fun z=>?_) (fun _ r=>r) fun _ _ r=>r
  ·rw[z]at hc
   rcases hc with y|y
   ·rw[←y,ha]at e1;cases e1
   ·rw[ha]at y;cases y
  ·rw[z]at hc
   rcases hc with y|y
   ·rw[←y,hT]at e1;cases e1
   ·rw[hT]at y;cases y
  ·have hz:=stk c z
   rcases hc with y|y
   ·rw[y,e1]at hz;cases hz
   ·rw[y]at hz;cases hz
end
theorem xH {P:Ei}{w:Eo}{K:AZ}{mg:Str->Dc}{base:EC}{N:Da}{qual:Str}{scope:LM}{f:Eh}{cd:Eg}{A:EF}{outer:List Env}{s:Ej}{H:Hp}{E:XK} :
  Raises (G7 (Ci P w) P w K mg base N qual scope f cd A outer s H E) (fun _ H' cls=>E cls none H'):=by
 intro Dp σ H1 s1 e s' I hx;obtain⟨a,T,cls,H',rfl,os,bare,un,hok,na,nT,ha,hT,ea,q⟩:=hx;have I1:=I.call' (ch:=[]) os un hok bare fun b z=>absurd z (by simp);exact IC rfl rfl rfl I1 (I.old_none rfl na) (I.old_none rfl nT) ha hT ea q
theorem CalX.mk' {K:AZ}{st:ER}(F:Fun K x qual st f fd)(G:FnOk P w K mg base (Ci P w) k f fd ps sp)(hm:mg x=some (.ref f))
  (b:Binds K fd ps []):CalX P w K mg base k x ps sp:=⟨f,fd,G,hm,F.kp,b⟩
instance:DecidableEq PyData:=fun a b=>decidable_of_iff _ (same_iff (a:=a) (b:=b))
mutual
def Ue:El->Bool
 | .str x=>Em x
 | .tuple ds=>yY ds
 |_=>false
def yY:Df->Bool
 |[]=>true
 |d::ds=>Ue d&&yY ds
end
mutual
def Ic:El->Nat
 | .tuple ds=>xR ds+1
 |_=>0
def xR:Df->Nat
 |[]=>0
 |d::ds=>max (Ic d) (xR ds)
end
mutual
def RdT (h:EC):El->Eg->Prop
 | .str x,v=>∃t,v=.str x t
 | .tuple ds,v=>∃a o vs n,v=.ref a/\h.get? a=some o/\o.cls=.type "tuple"/\o.data=.seq vs n/\RdAll h ds vs.toList
 |_,_=>False
def RdAll (h:EC):Df->Db->Prop
 |[],vs=>vs=[]
 |d::ds,vs=>∃v r,vs=v::r/\RdT h d v/\RdAll h ds r
end
mutual
def Ui (w:Eo):El->Int
 | .str x=>hashStr w x
 | .tuple ds=>reduceHash (EQ (vF w ds))
 |_=>0
def vF (w:Eo):Df->List Int
 |[]=>[]
 |d::ds=>Ui w d::vF w ds
end
mutual
def IN:El->Nat
 | .tuple ds=>y8 ds+1
 |_=>1
def y8:Df->Nat
 |[]=>0
 |d::ds=>IN d+y8 ds
end
theorem Xs (w:Eo):∀ds,vF w ds=ds.map (Ui w)
 |[]=>rfl
 |d::ds=>by rw[vF,Xs w ds];rfl
theorem UU:∀(a b:Df),y8 (a++b)=y8 a+y8 b
 |[],b=>by simp[y8]
 |d::a,b=>by
  show IN d+y8 (a++b)=(IN d+y8 a)+y8 b;rw[UU a b];omega
mutual
theorem RdT.reads:∀(d:El) (v:Eg),RdT h d v->∃as,Reads h v d as
 | .str x,_,⟨t,e⟩=>by subst e;exact⟨_,.str x t⟩
 | .tuple ds,_,⟨a,o,vs,n,e,h1,h2,h3,h4⟩=>by
  subst e;obtain⟨as,q⟩:=RdAll.reads ds vs.toList h4;exact⟨_,.tuple h1 h2 h3 q⟩
 | .none,_,q=>q.elim
 | .bool _,_,q=>q.elim
 | .int _,_,q=>q.elim
 | .list _,_,q=>q.elim
 | .dict _,_,q=>q.elim
theorem RdAll.reads:∀(ds:Df) (vs:Db),RdAll h ds vs->∃as,Lz h vs ds as
 |[],vs,e=>by cases(show vs=[] from e);exact⟨_,.nil⟩
 |d::ds,_,⟨v,r,e,h1,h2⟩=>by
  subst e;obtain⟨as,q⟩:=RdT.reads d v h1;obtain⟨bs,q2⟩:=RdAll.reads ds r h2;exact⟨_,.cons q q2⟩
end
mutual
theorem RdT.inj:∀(d e:El) (v:Eg),RdT h d v->RdT h e v->d=e
 | .str x,e,v,⟨t,h1⟩,h2=>by
  subst h1;cases e with
  |str y=>obtain⟨t',q⟩:=h2;cases q;rfl
  |tuple ds=>obtain⟨a,o,vs,n,q,_⟩:=h2;cases q
  |none=>exact h2.elim
  |bool _=>exact h2.elim
  |int _=>exact h2.elim
  |list _=>exact h2.elim
  |dict _=>exact h2.elim
 | .tuple ds,e,v,⟨a,o,vs,n,h1,h3,h4,h5,h6⟩,h2=>by
  subst h1;cases e with
  |str y=>obtain⟨t',q⟩:=h2;cases q
  |tuple es =>
   obtain⟨a',o',vs',n',q,q3,q4,q5,q6⟩:=h2;cases q;rw[h3]at q3;cases q3;rw[h5]at q5;cases q5;rw[RdAll.inj ds es vs.toList h6 q6]
  |none=>exact h2.elim
  |bool _=>exact h2.elim
  |int _=>exact h2.elim
  |list _=>exact h2.elim
  |dict _=>exact h2.elim
 | .none,_,_,q,_=>q.elim
 | .bool _,_,_,q,_=>q.elim
 | .int _,_,_,q,_=>q.elim
 | .list _,_,_,q,_=>q.elim
 | .dict _,_,_,q,_=>q.elim
theorem RdAll.inj:∀(ds es:Df) (vs:Db),RdAll h ds vs->RdAll h es vs->ds=es
 |[],[],_,_,_=>rfl
 |[],e::es,vs,h1,⟨v,r,q,_⟩=>by rw[show vs=[] from h1]at q;cases q
 |d::ds,[],vs,⟨v,r,q,_⟩,h2=>by rw[show vs=[] from h2]at q;cases q
 |d::ds,e::es,_,⟨v,r,h1,h3,h4⟩,⟨v',r',q1,q3,q4⟩=>by
  subst h1;injection q1 with z1 z2;subst z1 z2;rw[RdT.inj d e v h3 q3,RdAll.inj ds es r h4 q4]
end
mutual
theorem RdT.keeps {h h':EC}{dd:Eh}{od:Obj}{es:Array LX}{ep:Nat}(ho:h.get? dd=some od)(hd:od.data=.dict es ep)(hs:Lb dd h h'):∀(d:El) (v:Eg),RdT h d v->RdT h' d v
 | .str x,_,q=>q
 | .tuple ds,_,⟨a,o,vs,n,e,h1,h2,h3,h4⟩=>by
  have ne:a≠dd:=fun z=>by
   subst z;rw[h1]at ho;cases ho;rw[h3]at hd;cases hd
  exact⟨a,o,vs,n,e,(hs.2 a ne).trans h1,h2,h3,RdAll.keeps ho hd hs ds vs.toList h4⟩
 | .none,_,q=>q.elim
 | .bool _,_,q=>q.elim
 | .int _,_,q=>q.elim
 | .list _,_,q=>q.elim
 | .dict _,_,q=>q.elim
theorem RdAll.keeps {h h':EC}{dd:Eh}{od:Obj}{es:Array LX}{ep:Nat}(ho:h.get? dd=some od)(hd:od.data=.dict es ep)(hs:Lb dd h h'):∀(ds:Df) (vs:Db),RdAll h ds vs->RdAll h' ds vs
 |[],_,q=>q
 |d::ds,_,⟨v,r,e,h1,h2⟩=>⟨v,r,e,RdT.keeps ho hd hs d v h1,RdAll.keeps ho hd hs ds r h2⟩
end
section
variable {prog:Ei}{w:Eo}
def Bc (prog:Ei)(w:Eo)(d:El):Prop:=∀(A:EF) (E:Eg->Dh) (s:Ej) (v:Eg) (Q:Int->Dh),A.units+Ic d<E8->RdT s.heap d v->Q (Ui w d) { s with toks:=s.toks+IN d }->Ek (Es prog w) A (pyHash v) Q E s
theorem GN:∀{ds:Df} {d:El},d∈ds->Ic d<=xR ds
 |[],_,h=>nomatch h
 |e::ds,d,h=>by
  show Ic d<=max (Ic e) (xR ds)
  rcases Q7.mp h with rfl|h
  ·omega
  ·have:=GN h;omega
theorem Fw {ds:Df}(ih:∀d∈ds,Bc prog w d):Bc prog w (.tuple ds):=by
 intro A E s v Q hu hr h;obtain⟨a,o,Dn,n,rfl,ho,hc,hd,hi⟩:=hr;have hu0:A.units<cLine:=by omega
 have hT:s.TypeIs (.ref a) "tuple":=⟨o,ho,hc⟩;have hu1:A.units+(xR ds+1)<cLine:=hu;unfold pyHash
 first|unfold pyHashByItsType|skip
 first|refine QW (wpAny_cRoomFor_or (.inr hu0) ?_)|skip
 refine QW (JH hT F.slot_tuple_hash.lookup ?_);show Ek _ _ (if(some (Value.builtin "tuple.__hash__")==some EG)=true then _ else _) Q E s;rw[Zh (by rw[beq_builtin_none];exact Zw)];refine QW (JH hT F.slot_tuple_hash.lookup ?_);show Ek _ _ (callSpecialIfBoundUnlessNone? (.ref a) "__hash__" _>>=_) Q E s;refine QW (wpAny_callSpecialIfBoundUnlessNone?_slot hT F.slot_tuple_hash (Ya F.slot_tuple_hash hT F.entry_tuple_hash ?_ (F.args_tuple_hash_1 _)));show Ek _ _ (LH (.ref a)>>=_) _ _ s;refine QW (Vj ho hd ?_);refine QW ?_;rw[←Array.forIn_toList];refine Vx _
  (fun rest (b:Array Int) s'=>∃done left,ds=done++left/\RdAll s.heap left rest/\b.toList=done.map (Ui w)/\s'={ s with toks:=s.toks+y8 done })
  _ ?_ ?_ _ _ ⟨[],ds,rfl,hi,rfl,by simp[y8]⟩
 ·rintro x rest b s' ⟨done,left,e,hl,hb,rfl⟩;cases left with
  |nil=>cases(show x::rest=[] from hl)
  |cons d left =>
   obtain⟨v,r,ev,h1,h2⟩:=hl;injection ev with e1 e2;subst e1 e2;have hm:d∈ds:=by rw[e];simp
   have hdp:=GN hm;have hq:∃done' left',ds=done'++left'/\RdAll s.heap left' rest/\(b.push (Ui w d)).toList=done'.map (Ui w)/\({ s with toks:=s.toks+y8 done+IN d }:Ej)={ s with toks:=s.toks+y8 done' } :=
    ⟨done++[d],left,by simp[e],h2,by simp[hb],by rw[UU];simp[y8,Nat.add_assoc]⟩
   refine QW (ih d hm A.in1 _ _ _ _ (by show A.units+1+Ic d<E8;omega) h1 ?_)
   first
    |exact Q3 hq
    |exact QW (Q3 (Q3 hq))
 ·rintro b s' ⟨done,left,e,hl,hb,rfl⟩;cases left with
  |cons d left=>obtain⟨v,r,ev,_⟩:=hl;cases ev
  |nil =>
   rw[Zy]at e;subst e;show Ek _ _ (retInt (EQ b.toList)) _ _ _;rw[hb];have h:Q (reduceHash (EQ (vF w ds))) { s with toks:=s.toks+(y8 ds+1) }:=h;rw[Xs]at h;refine wpAny_ret_mkInt ?_;show Ek _ _ (if(decide (-(2:Int) ^ 63<=EQ (ds.map (Ui w)))&&decide (EQ (ds.map (Ui w))<2 ^ 63))=true then _ else _) Q E _;unfold reduceHash at h
   by_cases hr:(decide (-(2:Int) ^ 63<=EQ (ds.map (Ui w)))&&decide (EQ (ds.map (Ui w))<2 ^ 63))=true
   ·rw[Zk hr];rw[Zk hr]at h;exact Q3 (by simpa[Nat.add_assoc] using h)
   ·rw[Zh hr];rw[Zh hr]at h;exact QW (J4 (Q3 (by simpa[Nat.add_assoc] using h)))
mutual
theorem Hn:∀d:El,Bc prog w d
 | .str x=>fun A E s v Q _ hr h=>by
  obtain⟨t,rfl⟩:=hr;exact(strKind prog w).pyHash (k:=x) (by show E2 x (.str x t)=true;simp[E2]) h
 | .tuple ds=>Fw (B6 ds)
 | .none=>fun _ _ _ _ _ _ hr _=>hr.elim
 | .bool _=>fun _ _ _ _ _ _ hr _=>hr.elim
 | .int _=>fun _ _ _ _ _ _ hr _=>hr.elim
 | .list _=>fun _ _ _ _ _ _ hr _=>hr.elim
 | .dict _=>fun _ _ _ _ _ _ hr _=>hr.elim
theorem B6:∀ds:Df,∀d∈ds,Bc prog w d
 |[],_,h=>nomatch h
 |e::ds,d,h=>(Q7.mp h).elim (fun z=>z▸Hn e) (B6 ds d)
end
mutual
theorem Hk:∀(d e:El),Ue d=true->Ue e=true->EE d e=decide (d=e)
 | .str x,.str y,_,_=>by
  show(x==y)=_;rw[Z8];simp
 | .str _,.tuple _,_,_=>by rw[Q9 (by simp)];rfl
 | .tuple _,.str _,_,_=>by rw[Q9 (by simp)];rfl
 | .tuple ds,.tuple es,h1,h2=>by
  show EU ds es=_;rw[Cp ds es h1 h2];exact J6.mpr (by simp)
 | .none,_,h,_=>by cases h
 | .bool _,_,h,_=>by cases h
 | .int _,_,h,_=>by cases h
 | .list _,_,h,_=>by cases h
 | .dict _,_,h,_=>by cases h
 | .str _,.none,_,h=>by cases h
 | .str _,.bool _,_,h=>by cases h
 | .str _,.int _,_,h=>by cases h
 | .str _,.list _,_,h=>by cases h
 | .str _,.dict _,_,h=>by cases h
 | .tuple _,.none,_,h=>by cases h
 | .tuple _,.bool _,_,h=>by cases h
 | .tuple _,.int _,_,h=>by cases h
 | .tuple _,.list _,_,h=>by cases h
 | .tuple _,.dict _,_,h=>by cases h
theorem Cp:∀(ds es:Df),yY ds=true->yY es=true->EU ds es=decide (ds=es)
 |[],[],_,_=>rfl
 |[],_::_,_,_=>rfl
 |_::_,[],_,_=>rfl
 |d::ds,e::es,h1,h2=>by
  have h1:(Ue d&&yY ds)=true:=h1;have h2:(Ue e&&yY es)=true:=h2;rw[Q8]at h1 h2;show(EE d e&&EU ds es)=_;rw[Hk d e h1.1 h2.1,Cp ds es h1.2 h2.2,←Bool.decide_and];exact J6.mpr (by simp)
end
mutual
theorem G9:∀d:El,Ue d=true->d.canLay0=true/\d.depth<=Ic d
 | .str x,h=>⟨h,Q2 _⟩
 | .tuple ds,h=>by
  obtain⟨h1,h2⟩:=BW ds h;refine⟨h1,?_⟩;show Ez ds+1<=xR ds+1;omega
 | .none,h=>by cases h
 | .bool _,h=>by cases h
 | .int _,h=>by cases h
 | .list _,h=>by cases h
 | .dict _,h=>by cases h
theorem BW:∀ds:Df,yY ds=true->Ep ds=true/\Ez ds<=xR ds
 |[],_=>⟨rfl,Q2 _⟩
 |d::ds,h=>by
  have h:(Ue d&&yY ds)=true:=h;rw[Q8]at h;obtain⟨h1,h2⟩:=G9 d h.1;obtain⟨h3,h4⟩:=BW ds h.2;refine⟨?_,?_⟩
  ·show(d.canLay0&&Ep ds)=true;rw[h1,h3];rfl
  ·show max d.depth (Ez ds)<=max (Ic d) (xR ds);omega
end
def Xj (prog:Ei)(w:Eo)(d:El):Prop:=∀(A:EF) (E:Eg->Dh) (s:Ej) (v:Eg) (n:Nat) (Q:Bool->Dh),Ic d<=n->RdT s.heap d v->Q true s->Ek (Es prog w) A (eqIsQuiet n v) Q E s
theorem CP {ds:Df}(ih:∀d∈ds,Xj prog w d):Xj prog w (.tuple ds):=by
 intro A E s v n Q hn hr h;obtain⟨a,o,Dn,m,rfl,ho,hc,hd,hi⟩:=hr;have hT:s.TypeIs (.ref a) "tuple":=⟨o,ho,hc⟩;have hn:xR ds+1<=n:=hn;obtain⟨n,rfl⟩:∃k,n=k+1:=⟨n-1,by omega⟩;unfold eqIsQuiet;refine QW (JH hT F.slot_tuple_eq.lookup ?_);show Ek _ _ (isInstance (.ref a) (.type "tuple")>>=_) _ _ s;refine QW (JA hT isSubtype_tuple_tuple ?_);simp only[Vr,Yt,JD];refine QW (wpAny_seqItems ho hd ?_);refine QW ?_;show Ek _ _ (forIn Dn _ _) _ _ s;rw[←Array.forIn_toList];refine Vx _ (fun rest r s'=>r.1=none/\s'=s/\∃left,(∀d∈left,d∈ds)/\RdAll s.heap left rest) _ ?_ ?_ _ _ ⟨rfl,rfl,ds,fun _ z=>z,hi⟩
 ·rintro v rest r s' ⟨hr,rfl,left,hm,hl⟩;cases left with
  |nil=>cases(show v::rest=[] from hl)
  |cons d left =>
   obtain⟨v',r',ev,h1,h2⟩:=hl;injection ev with e1 e2;subst e1 e2;have hd':=hm d Q1;have:=GN hd';refine QW (ih d hd' A _ s' _ n _ (by omega) h1 ?_);simp only[Vr,Yt,JD];exact Q3 ⟨rfl,rfl,left,fun e he=>hm e (QY _ he),h2⟩
 ·rintro⟨r1,r2⟩ s' ⟨hr,rfl,_⟩;simp only at hr;subst hr;exact Q3 h
mutual
theorem CO:∀d:El,Xj prog w d
 | .str x=>fun A E s v n Q _ hr h=>by
  obtain⟨t,rfl⟩:=hr;rw[eqIsQuiet_byValue _ (by rfl)];exact Q3 h
 | .tuple ds=>CP (Gc ds)
 | .none=>fun _ _ _ _ _ _ _ hr _=>hr.elim
 | .bool _=>fun _ _ _ _ _ _ _ hr _=>hr.elim
 | .int _=>fun _ _ _ _ _ _ _ hr _=>hr.elim
 | .list _=>fun _ _ _ _ _ _ _ hr _=>hr.elim
 | .dict _=>fun _ _ _ _ _ _ _ hr _=>hr.elim
theorem Gc:∀ds:Df,∀d∈ds,Xj prog w d
 |[],_,h=>nomatch h
 |e::ds,d,h=>(Q7.mp h).elim (fun z=>z▸CO e) (Gc ds d)
end
def yS (prog:Ei)(w:Eo):HeapKind prog w El where
 is:=fun h d a=>RdT h d (.ref a)/\Ue d=true/\Ic d<=6
 hash:=Ui w
 draws:=IN
 room:=fun A=>A.units+8<E8
 inj:=fun hx hy=>RdT.inj _ _ _ hx.1 hy.1
 keeps:=fun x ho hd hs=>⟨RdT.keeps ho hd hs _ _ x.1,x.2⟩
 pyHash:=fun hu hk h=>Hn _ _ _ _ _ _ (by have:=hk.2.2;omega) hk.1 h
 eqBool:=fun{A E s x y a b Q} hu hx hy h=>by
  obtain⟨as,ra⟩:=RdT.reads _ _ hx.1;obtain⟨bs,rb⟩:=RdT.reads _ _ hy.1;obtain⟨l1,d1⟩:=G9 _ hx.2.1;obtain⟨l2,d2⟩:=G9 _ hy.2.1;have e:=SeqAt.eqAt_reads x y A s _ _ as bs ra rb l1 l2 (by have:=hx.2.2;omega);rw[Hk _ _ hx.2.1 hy.2.1]at e;exact e prog w E Q h
 quiet:=fun hk h=>CO _ _ _ _ _ _ _ (by have:=hk.2.2;omega) hk.1 h
end
end L2
namespace L2
open PySem PySem.Spec PyProof.Rows
def X4 (d:Eh)(es:List LX):HO:=.ext fun h=>∃o ep,h.get? d=some o/\o.ExactDict/\o.data=.dict es.toArray ep/\(d==EN)=false
theorem HF {h:EC}{d:Eh}{es:List LX}{o:Obj}{ep:Nat}(h1:h.get? d=some o)(h2:o.ExactDict)(h3:o.data=.dict es.toArray ep)(h4:(d==EN)=false):ObjOk P w H h d (X4 d es) :=
 ⟨⟨o,ep,h1,h2,h3,h4⟩,⟨o,h1⟩,fun _ _ ⟨o',ep',q1,q2⟩ k=>⟨o',ep',k o' q1,q2⟩⟩
mutual
theorem Dt.other {K:AZ}(n:∀xs,¬Rd H d (.tup xs)):∀(k:El) (v:V),Ue k=true->Dt K H k v->Dt K (upd H d o) k v
 | .str x,_,_,h=>h
 | .tuple ds,_,t,⟨a,xs,h1,h2,h3⟩=>by
  refine⟨a,xs,h1,?_,DtAll.other n ds xs t h3⟩
  rcases h2 with h2|h2
  ·have ne:a≠d:=fun z=>n xs (z▸h2)
   left
   unfold Rd;rwa[zG ne]
  ·exact .inr h2
 | .none,_,t,_=>by cases t
 | .bool _,_,t,_=>by cases t
 | .int _,_,t,_=>by cases t
 | .list _,_,t,_=>by cases t
 | .dict _,_,t,_=>by cases t
theorem DtAll.other {K:AZ}(n:∀xs,¬Rd H d (.tup xs)):∀(ks:Df) (vs:Dj),yY ks=true->DtAll K H ks vs->DtAll K (upd H d o) ks vs
 |[],_,_,h=>h
 |k::ks,_,t,⟨x,r,h1,h2,h3⟩=>by
  have t:(Ue k&&yY ks)=true:=t;rw[Q8]at t;exact⟨x,r,h1,Dt.other n k x t.1 h2,DtAll.other n ks r t.2 h3⟩
end
section
variable {X:Cx}{Dp:De}{σ:St}{H:Hp}{s:Ej}
mutual
theorem Dt.rdT (I:Inv X Dp σ H s):∀(d:El) (v:V) (u:Eg),Ue d=true->Dt X.K H d v->RelV v u->RdT s.heap d u
 | .str x,_,u,_,h,r=>by
  cases(show _=V.str x from h);exact r
 | .tuple ds,_,u,t,⟨a,xs,h1,h2,h3⟩,r=>by
  subst h1;cases(show u=Ew a from r);obtain⟨its,rv,⟨o,e,c,n,d⟩,_⟩:=I.tuple h2;exact⟨a,o,its.toArray,n,rfl,e,c,d,by simpa using DtAll.rdT I ds xs its t h3 rv⟩
 | .none,_,_,t,_,_=>by cases t
 | .bool _,_,_,t,_,_=>by cases t
 | .int _,_,_,t,_,_=>by cases t
 | .list _,_,_,t,_,_=>by cases t
 | .dict _,_,_,t,_,_=>by cases t
theorem DtAll.rdT (I:Inv X Dp σ H s):∀(ds:Df) (xs:Dj) (us:Db),yY ds=true->DtAll X.K H ds xs->Vals xs us->RdAll s.heap ds us
 |[],_,us,_,h,r=>by
  cases(show _=[] from h);cases r;exact rfl
 |d::ds,_,us,t,⟨x,r,h1,h2,h3⟩,rv=>by
  have t:(Ue d&&yY ds)=true:=t;rw[Q8]at t;subst h1;cases rv with
  |cons r1 r2=>exact⟨_,_,rfl,Dt.rdT I d x _ t.1 h2 r1,DtAll.rdT I ds r _ t.2 h3 r2⟩
end
def UG (k:El):Prop:=Ue k=true/\Ic k<=6
def TRel (K:AZ)(H:Hp)(p:El×V)(q:El×Eh×Eg):Prop:=p.1=q.1/\Dt K H p.1 (.ref q.2.1)/\RelV p.2 q.2.2
def ThD (P:Ei)(w:Eo)(K:AZ)(H:Hp)(d:Eh)(ps:List (El×V)):Prop :=
 ps.length<=10000/\(∀p∈ps,UG p.1)/\(ps.map (·.1)).Nodup/\∃xs:List (El×Eh×Eg),H d=some (X4 d (xs.map (LU (yS P w))))/\Ld (TRel K H) ps xs
theorem TRel.keys {K:AZ}:∀{ps:List (El×V)} {xs:List (El×Eh×Eg)},Ld (TRel K H) ps xs->xs.map (·.1)=ps.map (·.1)
 |_,_,.nil=>rfl
 |_,_,.cons r t=>by rw[Zn,Zn,TRel.keys t,r.1]
theorem TRel.at {K:AZ}{k:El}:∀{ps:List (El×V)} {xs:List (El×Eh×Eg)},Ld (TRel K H) ps xs->(atKey xs k=none/\VQ ps k=none)\/∃p v,atKey xs k=some p/\VQ ps k=some v/\RelV v p.2
 |_,_,.nil=>.inl ⟨rfl,rfl⟩
 |p::ps,q::xs,.cons r t=>by
  unfold atKey VQ;rw[YA,YA];have e:p.1=q.1:=r.1
  by_cases h:q.1=k
  ·rw[QX h,QX (show p.1=k by rwa[e])];exact .inr ⟨q.2,p.2,rfl,rfl,r.2.2⟩
  ·rw[Q9 h,Q9 (show¬p.1=k by rwa[e])];exact TRel.at t
theorem TRel.is (I:Inv X Dp σ H s):∀{ps:List (El×V)} {xs:List (El×Eh×Eg)},(∀p∈ps,UG p.1)->Ld (TRel X.K H) ps xs->∀x∈xs,(yS X.prog X.w).is s.heap x.1 x.2.1
 |_,_,_,.nil,x,h=>nomatch h
 |p::ps,q::xs,hk,.cons r t,x,h=>by
  rcases Q7.mp h with rfl|h
  ·obtain⟨k1,k2⟩:=hk p Q1;rw[←r.1];exact⟨Dt.rdT I _ _ _ k1 r.2.1 rfl,k1,k2⟩
  ·exact TRel.is I (fun p hp=>hk p (QY _ hp)) t x h
theorem ThD.heap (I:Inv X Dp σ H s)(T:ThD X.prog X.w X.K H d ps):∃xs,H d=some (X4 d (xs.map (LU (yS X.prog X.w))))/\Ld (TRel X.K H) ps xs/\s.heap.DictOfH (yS X.prog X.w) d xs/\(d==EN)=false:=by
 obtain⟨hl,hk,nd,xs,e,r⟩:=T;obtain⟨⟨o,ep,h1,h2,h3,h4⟩,_⟩:(∃o ep,s.heap.get? d=some o/\o.ExactDict/\o.data=.dict (xs.map (LU (yS X.prog X.w))).toArray ep/\(d==EN)=false)/\_:=I.hok d _ e;exact⟨xs,e,r,⟨o,_,ep,h1,h2,h3,by simp,TRel.is I hk r,by rw[TRel.keys r];exact nd⟩,h4⟩
theorem NI {A:EF}(hu:A.units+64<E8)(prog:Ei)(w:Eo):(yS prog w).room A.in1:=by
 show A.units+1+8<E8;omega
theorem key_is (I:Inv X Dp σ H s){k:El}{a:Eh}(hk:UG k)(h:Dt X.K H k (.ref a)):(yS X.prog X.w).is s.heap k a:=⟨Dt.rdT I _ _ _ hk.1 h rfl,hk⟩
end
section
variable {X:Cx}{K:AZ}
def Ti (P:Ei)(w:Eo)(K:AZ):R2:=fun y x H Q=>∃a d ps k,y=.ref a/\x=.ref d/\ThD P w K H d ps/\UG k/\Dt K H k (.ref a)/\Q (.bl (VQ ps k).isSome) H
theorem Rj (hu:X.A.units+64<E8):Ce X (EO .In) (Ti X.prog X.w X.K):=by
 intro Dp s σ H y x v u Q I ry rx h;obtain⟨a,d,ps,k,rfl,rfl,T,hk,ha,q⟩:=h;cases ry;cases rx;obtain⟨xs,_,r,dd,hd⟩:=T.heap I;refine wpAny_in_heap (NI hu _ _) (key_is I hk ha) hd dd ⟨.bl _,H,I.tok _,?_,q⟩
 rcases TRel.at (k:=k) r with⟨e1,e2⟩|⟨p,v,e1,e2,_⟩
 ·rw[e1,e2];rfl
 ·rw[e1,e2];rfl
def SE (P:Ei)(w:Eo)(K:AZ)(td ty:TE):TE:=fun σ H Q=>td σ H fun x H1=>ty σ H1 fun y H2=>∃a d ps k v,x=.ref d/\y=.ref a/\ThD P w K H2 d ps/\UG k/\Dt K H2 k (.ref a)/\VQ ps k=some v/\Q v H2
theorem OP {pos:Pos}(hu:X.A.units+64<E8)(ho:PE X o td)(hi:PE X i ty)(hs:Oa i):PE X (.Subscript o i pos) (SE X.prog X.w X.K td ty):=by
 intro Dp s σ H Q I h;refine G3 PySem.F.slot_dict_getitem.lookup hs (A3 (ho Dp s σ H _ I h) fun u s1 ⟨x,H1,I1,rx,q1⟩=>A3 (hi Dp s1 σ H1 _ I1 q1) fun iv s2 ⟨y,H2,I2,ry,a,d,ps,k,v,ex,ey,T,hk,ha,hv,q2⟩=>?_);subst ex ey;obtain rfl:u=Ew d:=rx;obtain rfl:iv=Ew a:=ry;obtain⟨xs,_,r,dd,hd⟩:=T.heap I2;refine⟨dd.typeIs,?_⟩
 rcases TRel.at (k:=k) r with⟨e1,e2⟩|⟨p,v',e1,e2,rv⟩
 ·rw[hv]at e2;cases e2
 ·rw[hv]at e2;cases e2;exact wpAny_getItem_heap (NI hu _ _) (key_is I2 hk ha) dd e1 ⟨v,H2,I2.tok _,rv,q2⟩
def Sv (P:Ei)(w:Eo)(K:AZ)(td ty tv:TE):TS:=fun D σ H=>tv σ H fun v H1=>td σ H1 fun x H2=>ty σ H2 fun y H3=>∃a d ps k,x=.ref d/\y=.ref a/\ThD P w K H3 d ps/\ps.length<10000/\UG k/\Dt K H3 k (.ref a) /\
 ∀o,ThD P w K (upd H3 d o) d (putK ps k v)->(∃es,o=X4 d es)->D.nx σ (upd H3 d o)
theorem kE {α β:Type}{F:α->β->Prop}:∀{l l':List α} {m m':List β},Ld F l m->Ld F l' m'->Ld F (l++l') (m++m')
 |_,_,_,_,.nil,h=>h
 |_,_,_,_,.cons r t,h=>.cons r (kE t h)
theorem TRel.repl {K:AZ}{k:El}(rv:RelV v u):∀{ps:List (El×V)} {xs:List (El×Eh×Eg)},Ld (TRel K H) ps xs->Ld (TRel K H) (ps.map fun p=>if p.1=k then(p.1,v) else p) (xs.map (putAt k u))
 |_,_,.nil=>.nil
 |p::ps,q::xs,.cons r t=>by
  rw[Zn,Zn];refine .cons ?_ (TRel.repl rv t);have e:p.1=q.1:=r.1;unfold putAt
  by_cases h:q.1=k
  ·rw[Zk h,Zk (show p.1=k by rwa[e])];exact⟨r.1,r.2.1,rv⟩
  ·rw[Zh h,Zh (show¬p.1=k by rwa[e])];exact r
theorem TRel.put {K:AZ}{a:Eh}{ps:List (El×V)}{xs:List (El×Eh×Eg)}(r:Ld (TRel K H) ps xs)(ha:Dt K H k (.ref a))(rv:RelV v u):Ld (TRel K H) (putK ps k v) (storedH xs k a u):=by
 have e:(ps.any fun kv=>decide (kv.1=k))=(atKey xs k).isSome:=by
  rcases TRel.at (k:=k) r with⟨e1,e2⟩|⟨p,v',e1,e2,_⟩
  ·rw[e1];refine YL.mpr fun z=>?_;obtain⟨kv,hm,hk⟩:=Z2.mp z;exact XI e2 (QZ.mpr ⟨kv,hm,Zb hk⟩)
  ·obtain⟨kv,hm,hk⟩:=QZ.mp (uL e2);rw[e1,Z2.mpr ⟨kv,hm,QX hk⟩];rfl
 unfold putK storedH;rw[e]
 split
 ·exact TRel.repl rv r
 ·exact kE r (.cons ⟨rfl,ha,rv⟩ .nil)
theorem NB {ps:List (El×V)}(h:∀p∈ps,UG p.1)(hk:UG k):∀p∈putK ps k v,UG p.1:=by
 unfold putK
 split
 ·intro p hp;obtain⟨q,hq,rfl⟩:=QZ.mp hp
  split
  ·exact h q hq
  ·exact h q hq
 ·intro p hp
  rcases Zf.mp hp with hp|hp
  ·exact h p hp
  ·rwa[QV.mp hp]
theorem OY {ps:List (El×V)}(h:(ps.map (·.1)).Nodup):((putK ps k v).map (·.1)).Nodup:=by
 unfold putK
 split
 ·have e:(ps.map fun kv=>if kv.1=k then(kv.1,v) else kv).map (·.1)=ps.map (·.1):=by
   rw[Zv];refine Z0 fun p _=>?_;show(if p.1=k then(p.1,v) else p).1=p.1
   split<;>rfl
  rwa[e]
 ·rename_i hn;rw[Q6];refine q8 h fun z=>hn ?_;obtain⟨p,hp,e⟩:=QZ.mp z;exact Z2.mpr ⟨p,hp,QX e⟩
theorem OS {pos DN:Pos}(hu:X.A.units+64<E8)(ho:PE X o td)(hi:PE X i ty)(hv:PE X value tv)(hs:Mg value (some (.Subscript o i DN)) pos.line X.env=Ly false) :
  PS X (.Assign [.Subscript o i DN] value pos) (Sv X.prog X.w X.K td ty tv):=by
 intro Dp s σ H D I h;refine wpAny_Assign_Subscript (A3 (hv Dp s σ H _ I h) fun r s1 ⟨v,H1,I1,rv,q1⟩=>A3 (ho Dp s1 σ H1 _ I1 q1) fun u s2 ⟨x,H2,I2,rx,q2⟩=>A3 (hi Dp s2 σ H2 _ I2 q2) fun iv s3 ⟨y,H3,I3,ry,a,d,ps,k,ex,ey,T,hl,hk,ha,q3⟩=>?_) hs;subst ex ey;obtain rfl:u=Ew d:=rx;obtain rfl:iv=Ew a:=ry;obtain⟨xs,e,rel,dd,hd⟩:=T.heap I3;have hz:xs.length<=sizeLine:=by rw[←Paired.length rel];exact An.le_line (by omega)
 refine wpAny_setItem_heap (hsz:=hz) (NI hu _ _) (key_is I3 hk ha) dd fun h' dd' hs'=>?_;obtain⟨ob,es,ep,g1,g2,g3,g4,_,_⟩:=dd';have g3':ob.data=.dict ((storedH xs k a r).map (LU (yS X.prog X.w))).toArray ep:=by rw[g3,←g4]
 have mu:PL (H3 d):=by rw[e];exact Lh
 have I4:=GV (t':=s3.toks+(yS X.prog X.w).draws k) I3 mu hs' ⟨ob,g1⟩ (HF (H:=upd H3 d (X4 d ((storedH xs k a r).map (LU (yS X.prog X.w))))) g1 g2 g3' hd);have nt:∀xs,¬Rd H3 d (.tup xs):=fun ys z=>by
  rcases z with z|⟨o',z⟩
  ·rw[e]at z;cases z
  ·rw[e]at z;cases z
 refine⟨σ,_,I4,q3 _ ⟨?_,NB T.2.1 hk,OY T.2.2.1,storedH xs k a r,zB,?_⟩ ⟨_,rfl⟩⟩
 ·have:=qV ps k v;omega
 ·have r2:Ld (TRel X.K (upd H3 d (X4 d ((storedH xs k a r).map (LU (yS X.prog X.w)))))) ps xs:=by
   have key:∀{ps:List (El×V)} {xs:List (El×Eh×Eg)},(∀p∈ps,UG p.1)->Ld (TRel X.K H3) ps xs->∀o,Ld (TRel X.K (upd H3 d o)) ps xs:=by
    intro ps xs hkk r
    induction r with
    |nil=>intro _;exact .nil
    |cons r1 _ ih=>intro o;exact .cons ⟨r1.1,Dt.other nt _ _ (hkk _ Q1).1 r1.2.1,r1.2.2⟩ (ih (fun p hp=>hkk p (QY _ hp)) o)
   exact key T.2.1 rel _
  exact TRel.put r2 (Dt.other nt _ _ hk.1 ha) rv
theorem Nq {pos:Pos}:PE X (.Dict [] [] pos) (fun _ H Q=>∀p o,H p=none->ThD X.prog X.w X.K (upd H p o) p []->(∃es,o=X4 p es)->Q (.ref p) (upd H p o)):=by
 intro Dp s σ H Q I h;have hn:H s.heap.objs.size=none:=I.hok.fresh (Q2 _);have hS:(s.heap.objs.size==EN)=false:=Yx.mpr (ED (Zr I.big));exact wpAny_Dict_empty ⟨.ref s.heap.objs.size,_,I.laid (a:=s.heap.objs.size) (o:=X4 s.heap.objs.size []) (t':=s.toks) (fun _ _ q=>Q0 _ q) (Q2 _) (HF (ep:=0) (Ze _ rfl) ⟨rfl,rfl,rfl⟩ rfl hS),rfl,h _ _ hn ⟨Zz _,fun _ z=>(nomatch z),Yb,[],zB,.nil⟩ ⟨_,rfl⟩⟩
end
end L2
namespace L2
open PySem PySem.Spec PyProof.Rows
structure Met (P:Ei)(w:Eo)(K:AZ)(mg:Str->Dc)(base:EC)(C:Eh)(k:Nat)(m:Str)(ps:Da)(sp:Sp):Prop where
 ex:∃(f:Eh) (fd:Eu),FnOk P w K mg base A9 k f fd ps sp/\Meth K C m f/\Binds K fd ps []
structure MetX (P:Ei)(w:Eo)(K:AZ)(mg:Str->Dc)(base:EC)(C:Eh)(k:Nat)(m:Str)(ps:Da)(sp:Sp):Prop where
 ex:∃(f:Eh) (fd:Eu),FnOk P w K mg base (Ci P w) k f fd ps sp/\Meth K C m f/\Binds K fd ps []
def RC (C:Eh)(m:Str)(sp:Sp)(R:St->Hp->Eg->Prop)(ta:TE)(t:TA):TE:=fun σ H Q=>ta σ H fun x H1=>∃a dx fs,x=.ref a/\H1 a=some (.ins C dx fs)/\fs.lookup m=none /\
 t σ H1 fun vs H2=>sp (x::vs) H2 Q (fun cls _ H'=>R σ H' cls)
section
variable {X:Cx}{C:Eh}{k:Nat}{m:Str}{ps:Da}{sp:Sp}{o e:EI}{es:List EI}{ta:TE}{t:TA}{Dr pos:Pos}{R:St->Hp->Eg->Prop}
theorem G5 {pl:Sem Bool}(he:PE X o ta)(c:Cls X.K C)(M:Met X.prog X.w X.K X.mg X.base C k m ps sp)(hr:Room k X.A)(ha:PA X (e::es) t)
  (hst:Ev (e::es) X.env=(false,EY e X.env)::Ev es X.env:=by rfl) (hpl:(E7 pos (Ev es X.env)).any (·.1)=false:=by rfl)
  (ht:EY (.Call (.Attribute o m Dr) (e::es) [] pos) X.env=(do
   let ov ←EY o X.env
   standAt Dr.atName
   let (f,first) ←Mn [ov] (Mh ov m pl)
   callWith pos f first (E7 pos (Ev (e::es) X.env)) (Mj pos (LG [] X.env))):=by rfl) :
  PE X (.Call (.Attribute o m Dr) (e::es) [] pos) (HZ C m sp [] E0 ta t):=by
 obtain⟨f,fd,F,hm,hb⟩:=M.ex;exact OO (pl:=pl) he c hm F hr hb .nil BL ha hst hpl ht
theorem kK {pl:Sem Bool}(he:PE X o ta)(c:Cls X.K C)(M:Met X.prog X.w X.K X.mg X.base C k m ps sp)(hr:Room k X.A)
  (ht:EY (.Call (.Attribute o m Dr) [] [] pos) X.env=(do
   let ov ←EY o X.env
   standAt Dr.atName
   let (f,first) ←Mn [ov] (Mh ov m pl)
   callWith pos f first (E7 pos (Ev [] X.env)) (Mj pos (LG [] X.env))):=by rfl) :
  PE X (.Call (.Attribute o m Dr) [] [] pos) (HZ C m sp [] E0 ta Bo):=by
 obtain⟨f,fd,F,hm,hb⟩:=M.ex;exact Nr (pl:=pl) he c hm F hr hb .nil BL ht
theorem xE {pl:Sem Bool}(he:PE X o ta)(c:Cls X.K C)(M:MetX X.prog X.w X.K X.mg X.base C k m ps sp)(hr:Room k X.A)(hx:Raises X R)(ha:PA X (e::es) t)
  (hst:Ev (e::es) X.env=(false,EY e X.env)::Ev es X.env:=by rfl) (hpl:(E7 pos (Ev es X.env)).any (·.1)=false:=by rfl)
  (ht:EY (.Call (.Attribute o m Dr) (e::es) [] pos) X.env=(do
   let ov ←EY o X.env
   standAt Dr.atName
   let (f,first) ←Mn [ov] (Mh ov m pl)
   callWith pos f first (E7 pos (Ev (e::es) X.env)) (Mj pos (LG [] X.env))):=by rfl) :
  PE X (.Call (.Attribute o m Dr) (e::es) [] pos) (RC C m sp R ta t):=by
 obtain⟨f,fd,F,hm,hb⟩:=M.ex;intro Dp s σ H Q I h;refine JV (pl:=pl) (A3 (he Dp s σ H _ I h) fun u s1 ⟨x,H1,I1,rx,a,dx,fs,ex,ea,l,q⟩=>?_) ht;subst ex;obtain rfl:u=Ew a:=rx;refine k6 I1 ea c hm l ?_;refine Y0 (first:=[.ref a]) (h₀:=X.base) I.ok.mod.kin hm.kp (A3 (ha pos Dp s1 σ H1 _ I1 q) fun us s2 ⟨vs,H2,I2,r,q2⟩=>⟨I2.kIn,?_⟩) hst hpl;exact HK (us:=.ref a::us) (vs:=.ref a::vs) F hr hb hx I2 (.cons rfl r) q2
end
structure Mak (P:Ei)(w:Eo)(K:AZ)(mg:Str->Dc)(base:EC)(C:Eh)(k:Nat)(x:Str)(ps:Da)(sp:Sp):Prop where
 ex:∃(f:Eh) (fd:Eu),FnOk P w K mg base A9 k f fd ps sp/\Mk K C f/\Binds K fd ps []/\mg x=some (.ref C)
theorem GH {X:Cx}{e:EI}{es:List EI}{p pos:Pos}(M:Mak X.prog X.w X.K X.mg X.base C k x ps sp)(hr:Room (k+1) X.A)(ha:PA X (e::es) t)(hg:Gl X x:=by rfl)
  (hdb:(x==("__debug__":Str))=false:=by decide) (he:Ev (e::es) X.env=(false,EY e X.env)::Ev es X.env:=by rfl) (hpl:(E7 pos (Ev es X.env)).any (·.1)=false:=by rfl) :
  PE X (.Call (.Name x p) (e::es) [] pos) (PB C sp [] E0 t):=by
 obtain⟨f,fd,F,hm,hb,hx⟩:=M.ex;exact ON hm F hr hg hx hb .nil BL ha hdb he hpl
theorem G8 (x:Str)(i j:Nat):An.cs (La x i j)=((An.cs x).take j).drop i:=by
 show(x.cps.extract i j).toList=_;rw[Array.toList_extract,List.extract_eq_drop_take,List.drop_take]
theorem U7 (x:Str)(c i:Nat)(t u:Tok)(r:List Nat)(ho:EX x ⟨#[c]⟩ 0 x.length 1=i::r)(hz:x.length<=100000):Meets (Builtin.«str.partition» ⟨[.str x t,.str ⟨#[c]⟩ u],[]⟩)
  (fun _ R s=>R (.ok (.ret (.ref s.heap.objs.size))) { s with heap:=s.heap.push { cls:=.type "tuple",data:=.seq #[.str (La x 0 i) s.toks,.str ⟨#[c]⟩ u,.str (La x (i+1) x.length) (s.toks+1)] },toks:=s.toks+1+1 }) :=
 .of_wp fun prog w A R s h=>by
  obtain⟨raising,e⟩:=partition_tree x ⟨#[c]⟩ t u;rw[e,Zh (show¬((⟨#[c]⟩:Str).length==0)=true from(by show¬(1==0)=true;decide)),ho];have z1:(La x 0 i).length<=sizeLine:=by
   rw[An.length_cs,G8,Z9,Zm];refine An.le_line ?_;rw[←An.length_cs];omega
  have z2:(La x (i+(⟨#[c]⟩:Str).length) x.length).length<=sizeLine:=by
   rw[An.length_cs,G8,Z9,Zm];refine An.le_line ?_;rw[←An.length_cs];omega
  refine QW (wpAny_mkStr ?_ z1);refine QW (wpAny_mkStr ?_ z2);refine QW (wpAny_newTuple ?_ (by show 3<=sizeLine;decide));exact Q3 ⟨_,rfl,h⟩
section
variable {X:Cx}
def Po:V->Dj->Hp->VK->Prop:=fun x vs H Q=>∃(u v:Str) (c:Nat),x=.str (u++⟨#[c]⟩++v)/\vs=[.str ⟨#[c]⟩]/\c∉An.cs u/\(u++⟨#[c]⟩++v).length<=100000/\∀p,H p=none->Q (.ref p) (upd H p (.tup [.str u,.str ⟨#[c]⟩,.str v]))
theorem uO:N9 X "str.partition" Po:=by
 intro Dp s σ H x xs v us Q I rx rs h;obtain⟨a,b,c,rfl,rfl,hc,hz,q⟩:=h;obtain⟨t,rfl⟩:=rx;obtain⟨w,rfl,t',rfl⟩:=vals1 rs;have ecs:An.cs (a++⟨#[c]⟩++b)=An.cs a++c::An.cs b:=by
  rw[An.cs_append,An.cs_append];show An.cs a++[c]++An.cs b=_;simp
 have hat:(An.cs (a++⟨#[c]⟩++b))[(An.cs a).length]?=some c:=by rw[ecs];simp
 have hi:∃r,EX (a++⟨#[c]⟩++b) ⟨#[c]⟩ 0 (a++⟨#[c]⟩++b).length 1=(An.cs a).length::r:=by
  rcases StrLaws.occ_head_from (a++⟨#[c]⟩++b) ⟨#[c]⟩ 0 1 (Q2 1) with⟨h0,hn⟩|⟨k,r,h0,hlo,hk,hn⟩
  ·exact absurd ((L4 _ c _).mpr hat) (hn _ (Zz _))
  ·have hm:=(L4 _ c k).mp hk;have hm:(An.cs (a++⟨#[c]⟩++b))[k]?=some c:=hm
   rcases JS k (An.cs a).length with z|z|z
   ·rw[ecs,ZI z]at hm;exact absurd (Zc hm) hc
   ·exact⟨r,by rw[h0,z]⟩
   ·exact absurd ((L4 _ c _).mpr hat) (hn _ (Zz _) z)
 obtain⟨r,hi⟩:=hi;refine Jo F.slot_str_partition (J3 s _ t) F.entry_str_partition (F.args_str_partition_2 _ _) (U7 _ c _ t t' r hi hz) ?_;have e1:La (a++⟨#[c]⟩++b) 0 (An.cs a).length=a:=An.cs_inj (by rw[G8,ecs,List.drop_zero,List.take_left]);have e2:La (a++⟨#[c]⟩++b) ((An.cs a).length+1) (a++⟨#[c]⟩++b).length=b:=An.cs_inj (by
  rw[G8,An.length_cs,Zq,ecs];rw[show An.cs a++c::An.cs b=(An.cs a++[c])++An.cs b by simp];rw[show(An.cs a).length+1=(An.cs a++[c]).length by simp];exact List.drop_left)
 rw[e1,e2];have hn:H s.heap.objs.size=none:=I.hok.fresh (Q2 _);refine⟨.ref s.heap.objs.size,_,I.laid (t':=s.toks+1+1) (a:=s.heap.objs.size) (o:=.tup [.str a,.str ⟨#[c]⟩,.str b]) (fun _ _ q=>Q0 _ q) (Q2 _) ?_,rfl,q _ hn⟩;exact⟨by show 3<=sizeLine;decide,_,.cons ⟨_,rfl⟩ (.cons ⟨_,rfl⟩ (.cons ⟨_,rfl⟩ .nil)),⟨_,Ze _ rfl,rfl,_,rfl,rfl⟩⟩
def V1 (n:Nat):Str:=ES (LN ((n:Nat):Int))
theorem Kg:CallR X (.type "int") (fun xs H Q=>∃n:Nat,xs=[.str (V1 n)]/\n<10000000000/\Q (.int n) H):=by
 intro Dp s σ H xs us Q I r h;obtain⟨n,rfl,hn,q⟩:=h;obtain⟨u,rfl,t,rfl⟩:=vals1 r;exact PySem.W.KIN.call_num (by omega) (by omega) ⟨.int n,H,I.tok _,⟨_,rfl⟩,q⟩
def tF3 (t1:TE)(y:Str)(t2:TE):TE:=fun σ H Q=>t1 σ H fun v H1=>∃x:Str,v=.str x/\x.length<=100000/\y.length<=1000/\t2 σ H1 fun u H2=>∃n:Nat,u=.int n/\n<1000000/\Q (.str (x++y++V1 n)) H2
theorem Sm {y:Str}{k:Nat}{p1 p2 p3 pos:Pos}(h1:PE X e1 t1)(h2:PE X e2 t2):PE X (.JoinedStr [.FormattedValue e1 (-1) none p1,.Constant (.str y) k p2,.FormattedValue e2 (-1) none p3] pos) (tF3 t1 y t2):=by
 intro Dp s σ H Q I h;refine JoinedStr_many (joinParts_cons (FormattedValue_plain (A3 (h1 Dp s σ H _ I h) fun v s1 ⟨x1,H1,I1,r1,x,ex,xl,yl,q1⟩=>?_)));subst ex;obtain⟨t,rfl⟩:=r1;refine formatField_str (fun t' tk=>⟨?_,?_⟩) (An.le_line (by omega))
 ·show(L7++x).length<=sizeLine;rw[An.len_append];exact An.le_line (by show 0+x.length<=_;omega)
 refine joinParts_cons (A3 ((pe_str:PE X (.Constant (.str y) k p2) _) Dp _ σ H1 (fun v H'=>v=.str y/\H'=H1) (I1.tok tk) ⟨rfl,rfl⟩) fun v2 s2 ⟨x2,H2,I2,r2,e2,eH⟩=>?_);subst e2 eH;obtain⟨t2',rfl⟩:=r2;refine⟨?_,?_⟩
 ·show(L7++x++y).length<=sizeLine;rw[An.len_append,An.len_append];exact An.le_line (by show 0+x.length+y.length<=_;omega)
 refine joinParts_cons (FormattedValue_plain (A3 (h2 Dp s2 σ H2 _ I2 q1) fun v3 s3 ⟨x3,H3,I3,r3,n,en,nl,q3⟩=>?_));subst en;obtain⟨t3,rfl⟩:=r3;have hlog:((n:Int)).natAbs.log2<1920:=by
  rw[Vk]
  rcases Y1 n with z|z
  ·subst z;decide
  ·have:n.log2<20:=(Nat.log2_lt (by omega)).mpr (by omega);omega
 have hz:(L7++x++y++V1 n).length<=sizeLine:=by
  rw[An.len_append,An.len_append,An.len_append];have:=J7 hlog;exact An.le_line (by show 0+x.length+y.length+(V1 n).length<=_;have e:(V1 n).length<=1921:=this;omega)
 refine formatField_int_small hlog ⟨hz,joinParts_nil ⟨.str _,H3,I3.tok _,⟨_,rfl⟩,?_⟩ hz⟩;have e:L7++x++y++(ES (LN (n:Int)))=x++y++V1 n:=An.cs_inj (by
  rw[An.cs_append,An.cs_append,An.cs_append,An.cs_append,An.cs_append];rfl)
 rwa[e]
theorem XT:∀{Dm:Dl} {vs:List (Key×Eg)} {us:Db},KV Dm vs->us.length=vs.length->(∀(j:Nat) (v:Eg),us[j]?=some v->∃k x,vs[j]?=some (k,x)/\(zY P w).is k v=true)->Vals (Dm.map fun kv=>kV kv.1) us
 |[],_,[],.nil,_,_=>.nil
 |[],_,_::_,.nil,hl,_=>by cases hl
 |_::_,_,[],.cons _ _,hl,_=>by cases hl
 |p::_,q::_,u::us,.cons r1 r2,hl,hm=>by
  obtain⟨k,x,e,hk⟩:=hm 0 u rfl;have e:q=(k,x):=by simpa using e
  have e1:p.1=k:=by rw[show p.1=q.1 from r1.1,e]
  refine .cons (by
   show RelV (kV p.1) u;rw[e1];cases k with
   |inl i =>
    have hk:L8 i u=true:=hk;cases u<;>simp[L8]at hk;subst hk;exact⟨_,rfl⟩
   |inr z =>
    obtain⟨t,rfl⟩:=YQ (show E2 z u=true from hk);exact⟨t,rfl⟩) (XT (P:=P) (w:=w) r2 (by simpa using hl) fun j v hj=>?_)
  obtain⟨k2,x2,q1,q2⟩:=hm (j+1) v (by simpa using hj);exact⟨k2,x2,by simpa using q1,q2⟩
theorem Fm (hc:X.calm=true):CallR X (.type "list") (fun xs H Q=>∃a Dm,xs=[.ref a]/\H a=some (.dK Dm)/\∀l,H l=none->Q (.ref l) (upd H l (.lst (Dm.map fun kv=>kV kv.1)))):=by
 intro Dp s σ H xs us Q I r h;obtain⟨a,Dm,rfl,ha,q⟩:=h;obtain⟨u,rfl,ru⟩:=vals1 r;cases ru;obtain⟨hz,hS,vs,rel,o,es,ep,ho,hx,hd,hk,hp,hnd⟩:Dm.length<=sizeLine/\(a==EN)=false/\∃vs,KV Dm vs/\s.heap.DictOf (zY X.prog X.w) a vs:=I.hok a _ ha;have da:s.heap.DictAt (zY X.prog X.w) a vs ep:=⟨o,es,ho,hx,hd,hk,hp,hnd⟩;have Dq:Dm.length=vs.length:=Paired.length rel;refine PySem.W.kdl_call (PySem.W.kdl_dict (knd:=zY X.prog X.w) (kvs:=vs) (ep:=ep) hS) (I.ok.hd hc) da (by omega) fun h' tk acc c hkp hl Ef=>?_;have rv:Vals (Dm.map fun kv=>kV kv.1) acc.toList:=XT rel (by rw[ZA];exact Ef.1) fun j v e=>Ef.2 j v (by rwa[←Yh]);exact⟨.ref s.heap.objs.size,_,I.laid (t':=tk) hkp (Q2 _) (show ObjOk X.prog X.w _ h' _ (.lst (Dm.map fun kv=>kV kv.1)) from⟨by rw[QU];exact hz,acc.toList,c,rv,hl⟩),rfl,q _ (I.hok.fresh (Q2 _))⟩
end
end L2
namespace An
open PySem L2
def V7 (c:Nat):Bool:=decide (32<=c)&&decide (c<=126)&&decide (c≠37)
def VS (x:Str):Bool:=decide (x.length<=20)&&(cs x).all V7
def UH (c:Nat):Bool:=decide (97<=c)&&decide (c<=122)
def z9 (x:Str):Bool:=decide (1<=x.length)&&decide (x.length<=8)&&(cs x).all UH
def Uq:El->Bool
 | .str x=>VS x
 |_=>false
def vA:El->Bool
 | .tuple ds=>ds.all Uq
 |_=>false
def uR:El->Bool
 | .str x=>z9 x
 |_=>false
def V3:El->Bool
 | .str _=>true
 |_=>false
def Us:El->Bool
 | .tuple [l,n]=>uR l&&V3 n
 |_=>false
mutual
def small:El->Bool
 | .str x=>decide (x.length<=1000)
 | .list ds=>decide (ds.length<=1000)&&yE ds
 | .tuple ds=>decide (ds.length<=1000)&&yE ds
 |_=>true
def yE:Df->Bool
 |[]=>true
 |d::ds=>small d&&yE ds
end
theorem yO:∀{ds:Df} {i:Nat} {d:El},yE ds=true->ds[i]?=some d->small d=true
 |[],_,_,_,h=>by cases h
 |e::ds,0,d,h,q=>by
  have h:(small e&&yE ds)=true:=h;have q:e=d:=Option.some.inj q;rw[Q8]at h;rw[←q];exact h.1
 |e::ds,i+1,d,h,q=>by
  have h:(small e&&yE ds)=true:=h;rw[Q8]at h;exact yO h.2 (by simpa using q)
theorem qC {ds:Df}(h:small (.tuple ds)=true):ds.length<=1000/\yE ds=true:=by
 have h:(decide (ds.length<=1000)&&yE ds)=true:=h;rw[Q8]at h;exact⟨Zb h.1,h.2⟩
theorem M4 (a c:Nat):[a]<[c]↔a<c:=by
 rw[List.cons_lt_cons_iff];constructor
 ·rintro(h|⟨_,h⟩)
  ·exact h
  ·exact absurd h (by simp)
 ·exact .inl
theorem GI {p q:Prop} [Decidable p] [Decidable q](h:¬p↔q):(!decide p)=decide q:=by
 by_cases hp:p
 ·rw[QX hp,Q9 (fun z=>h.mpr z hp)];rfl
 ·rw[Q9 hp,QX (h.mp hp)];rfl
theorem MU (c a:Nat)(x:Str)(hx:x.cps.toList=[a]):(!decide ((⟨#[c]⟩:Str).cps.toList<x.cps.toList))=decide (a<=c):=by
 rw[hx];exact GI (by show¬[c]<[a]↔_;rw[M4];omega)
theorem one_le (c a:Nat)(x:Str)(hx:x.cps.toList=[a]):(!decide (x.cps.toList<(⟨#[c]⟩:Str).cps.toList))=decide (c<=a):=by
 rw[hx];exact GI (by show¬[a]<[c]↔_;rw[M4];omega)
def NV:Sp:=fun vs H Q _=>∃c:Nat,vs=[.str ⟨#[c]⟩]/\Q (.bl (V7 c)) H
def FW (K:AZ):Sp:=fun vs H Q _=>∃(d:El) (v:V),vs=[v]/\Dw K H d v/\small d=true/\∀H',Same H H'->Q (.bl (Uq d)) H'
def G2 (K:AZ):Sp:=fun vs H Q _=>∃(d:El) (v:V),vs=[v]/\Dw K H d v/\small d=true/\∀H',Same H H'->Q (.bl (vA d)) H'
def GZ (K:AZ):Sp:=fun vs H Q _=>∃(d:El) (v:V),vs=[v]/\Dw K H d v/\small d=true/\∀H',Same H H'->Q (.bl (uR d)) H'
def Px (K:AZ):Sp:=fun vs H Q _=>∃(d:El) (v:V),vs=[v]/\Dw K H d v/\small d=true/\∀H',Same H H'->Q (.bl (Us d)) H'
theorem yW {α:Type}{l:List α}{f:α->Bool}{i:Nat}{c:α}(h:l[i]?=some c):(l.take (i+1)).map f=(l.take i).map f++[f c]:=by
 rw[Z4,h,Q6];rfl
theorem Mt {x:Str}{i c:Nat}(h:x.cps[i]?=some c):(cs x)[i]?=some c:=by rw[←h];simp
theorem all_map (l:List α)(f:α->Bool):(l.map f).all id=l.all f:=by
 rw[List.all_map];rfl
end An
namespace L2
open PySem PySem.Spec PyProof.Rows
end L2
namespace An
open PySem L2
mutual
def vD:El->Bool
 | .list _=>false
 | .dict _=>false
 | .tuple ds=>yK ds
 |_=>true
def yK:Df->Bool
 |[]=>true
 |d::ds=>vD d&&yK ds
end
mutual
def kG:El->Bool
 | .dict _=>false
 | .list ds=>y6 ds
 | .tuple ds=>y6 ds
 |_=>true
def y6:Df->Bool
 |[]=>true
 |d::ds=>kG d&&y6 ds
end
mutual
theorem Dw.dt {K:AZ}:∀(d:El) (v:V),kG d=true->Dw K H d v->Dt K H d v
 | .none,_,_,h=>h
 | .bool _,_,_,h=>h
 | .int _,_,_,h=>h
 | .str _,_,_,h=>h
 | .list ds,_,t,⟨a,xs,h1,h2,h3⟩=>⟨a,xs,h1,h2,DwAll.dt ds xs t h3⟩
 | .tuple ds,_,t,⟨a,xs,h1,h2,h3⟩=>⟨a,xs,h1,h2,DwAll.dt ds xs t h3⟩
 | .dict _,_,t,_=>by cases t
theorem DwAll.dt {K:AZ}:∀(ds:Df) (xs:Dj),y6 ds=true->DwAll K H ds xs->DtAll K H ds xs
 |[],_,_,h=>h
 |d::ds,_,t,⟨x,r,h1,h2,h3⟩=>by
  have t:(kG d&&y6 ds)=true:=t;rw[Q8]at t;exact⟨x,r,h1,Dw.dt d x t.1 h2,DwAll.dt ds r t.2 h3⟩
end
theorem jG:∀ls:Da,yK (ls.map .str)=true
 |[]=>rfl
 |l::ls=>by
  show(true&&yK (ls.map .str))=true;rw[jG ls];rfl
mutual
theorem U0:∀d:El,vD d=true->kG d=true
 | .none,_=>rfl
 | .bool _,_=>rfl
 | .int _,_=>rfl
 | .str _,_=>rfl
 | .list _,t=>by cases t
 | .tuple ds,t=>uU ds t
 | .dict _,t=>by cases t
theorem uU:∀ds:Df,yK ds=true->y6 ds=true
 |[],_=>rfl
 |d::ds,t=>by
  have t:(vD d&&yK ds)=true:=t;rw[Q8]at t;show(kG d&&y6 ds)=true;rw[U0 d t.1,uU ds t.2];rfl
end
theorem atI_of {xs:Dj}{n:Nat}{i:Int}{v:V}(e:i=(n:Int))(h:xs[n]?=some v):Cg xs i=some v:=by
 subst e;exact xQ h
end An
namespace An
open PySem L2
structure En where
 h:Str
 n:Nat
 d:El
abbrev Di:=List En
def dot:Str:=⟨#[46]⟩
theorem Mx:(".":Str)=dot:=by decide +kernel
def En.nm (e:En):Str:=e.h++dot++V1 e.n
def nextOf (S:Di)(h:Str):Option Nat:=S.foldl (fun acc e=>if e.h=h then some (max (acc.getD 0) (e.n+1)) else acc) none
theorem US (S:Di)(e:En)(h:Str):nextOf (S++[e]) h=if e.h=h then some (max ((nextOf S h).getD 0) (e.n+1)) else nextOf S h:=by
 unfold nextOf;rw[Z5];rfl
structure GoodE (e:En):Prop where
 key:UG e.d
 free:46∉cs e.h
 num:e.n<1000000
 hl:e.h.length<=100
structure GoodS (S:Di):Prop where
 ent:∀e∈S,GoodE e
 nd:(S.map (·.d)).Nodup
 nn:(S.map En.nm).Nodup
 len:S.length<=2000
theorem GoodS.nil:GoodS []:=⟨fun _ h=>(nomatch h),Yb,Yb,Zz _⟩
theorem GoodS.snoc (g:GoodS S)(h:GoodE e)(h1:e.d∉S.map (·.d))(h2:e.nm∉S.map En.nm)(h3:S.length<2000):GoodS (S++[e]) :=
 ⟨Xv g.ent h,by rw[Q6];exact q8 g.nd h1,by rw[Q6];exact q8 g.nn h2,by rw[Q4,ZN];omega⟩
def Off (fp:Dd)(H H':Hp):Prop:=∀b o,b∉fp->H b=some o->H' b=some o
theorem Off.refl (fp:Dd)(H:Hp):Off fp H H:=fun _ _ _ h=>h
theorem Off.trans (a:Off fp H H1)(b:Off fp H1 H2):Off fp H H2:=fun c o n h=>b c o n (a c o n h)
theorem Off.of (s:Same H H'):Off fp H H':=fun b o _ h=>s b o h
theorem Off.upd {a:Eh}{o:HO}(h:Off fp H H')(m:a∈fp):Off fp H (L2.upd H' a o):=fun b u n e=>by
 have ne:b≠a:=fun z=>n (by rwa[z]);rw[zG ne];exact h b u n e
def MB (d1 d2 d3:Eh):List (Str×V):=[("thing_by_name",.ref d1),("name_by_thing",.ref d2),("next_numbers",.ref d3)]
def NoSeq (H:Hp)(fp:Dd):Prop:=∀b∈fp,∃o,H b=some o/\(∀xs,o≠.tup xs)/\(∀xs,o≠.lst xs)/\∀u v,o≠.frz u v
structure ShAt (P:Ei)(w:Eo)(K:AZ)(C:Eh)(H:Hp)(a:Eh)(fp:Dd)(S:Di):Prop where
 good:GoodS S
 at_:∃(dx d1 d2 d3:Eh) (ts:Dd) (nx:Dl),fp=[a,dx,d1,d2,d3]/\(fp).Nodup/\H a=some (.ins C dx (MB d1 d2 d3))/\H dx=some (.own a)/\ts.length=S.length /\
  H d1=some (.dK ((S.zip ts).map fun e=>((Et e.1.nm:Key),V.ref e.2)))/\ThD P w K H d2 (S.map fun e=>(e.d,V.str e.nm)) /\
  H d3=some (.dK nx)/\nx.length<=S.length/\(∀h,VQ nx (Et h:Key)=(nextOf S h).map fun n:Nat=>V.int (n:Int)) /\
  ∀(i:Nat) (e:En) (t:Eh),S[i]?=some e->ts[i]?=some t->Dt K H e.d (.ref t)
theorem XZ {H:Hp}{b:Eh}{o:HO}(h:H b=some o)(h1:∀xs,o≠.tup xs)(h2:∀u v,o≠.frz u v):∀xs,¬Rd H b (.tup xs):=fun xs z=>by
 rcases z with z|⟨u,z⟩
 ·rw[h]at z;exact h1 xs (Option.some.inj z)
 ·rw[h]at z;exact h2 u _ (Option.some.inj z)
mutual
theorem Dt.off {K:AZ}{fp:Dd}(n:∀b∈fp,∀xs,¬Rd H b (.tup xs))(o:Off fp H H'):∀(k:El) (v:V),Ue k=true->Dt K H k v->Dt K H' k v
 | .str x,_,_,h=>h
 | .tuple ds,_,t,⟨a,xs,h1,h2,h3⟩=>by
  refine⟨a,xs,h1,?_,DtAll.off n o ds xs t h3⟩
  rcases h2 with h2|h2
  ·have ne:a∉fp:=fun z=>n a z xs h2
   rcases h2 with h2|⟨u,h2⟩
   ·exact .inl (.inl (o a _ ne h2))
   ·exact .inl (.inr ⟨u,o a _ ne h2⟩)
  ·exact .inr h2
 | .none,_,t,_=>by cases t
 | .bool _,_,t,_=>by cases t
 | .int _,_,t,_=>by cases t
 | .list _,_,t,_=>by cases t
 | .dict _,_,t,_=>by cases t
theorem DtAll.off {K:AZ}{fp:Dd}(n:∀b∈fp,∀xs,¬Rd H b (.tup xs))(o:Off fp H H'):∀(ks:Df) (vs:Dj),yY ks=true->DtAll K H ks vs->DtAll K H' ks vs
 |[],_,_,h=>h
 |k::ks,_,t,⟨x,r,h1,h2,h3⟩=>by
  have t:(Ue k&&yY ks)=true:=t;rw[Q8]at t;exact⟨x,r,h1,Dt.off n o k x t.1 h2,DtAll.off n o ks r t.2 h3⟩
end
theorem ThD.off {K:AZ}{fp:Dd}{d:Eh}(n:∀b∈fp,∀xs,¬Rd H b (.tup xs))(o:Off fp H H')(e:H' d=H d)(T:ThD P w K H d ps):ThD P w K H' d ps:=by
 obtain⟨hl,hk,nd,xs,e1,r⟩:=T;refine⟨hl,hk,nd,xs,by rw[e];exact e1,?_⟩;have key:∀{ps:List (El×V)} {xs:List (El×Eh×Eg)},(∀p∈ps,UG p.1)->Ld (TRel K H) ps xs->Ld (TRel K H') ps xs:=by
  intro ps xs hkk r
  induction r with
  |nil=>exact .nil
  |cons r1 _ ih=>exact .cons ⟨r1.1,Dt.off n o _ _ (hkk _ Q1).1 r1.2.1,r1.2.2⟩ (ih fun p hp=>hkk p (QY _ hp))
 exact key hk r
theorem ShAt.off {K:AZ}{fp gp:Dd}(n:∀b∈gp,∀xs,¬Rd H b (.tup xs))(o:Off gp H H')(dj:∀b∈fp,b∉gp)(h:ShAt P w K C H a fp S):ShAt P w K C H' a fp S:=by
 obtain⟨g,dx,d1,d2,d3,ts,nx,rfl,nd,h1,h2,h3,h4,h5,h6,h7,h8,h9⟩:=h;have k:∀b u,b∈[a,dx,d1,d2,d3]->H b=some u->H' b=some u:=fun b u m e=>o b u (dj b m) e;obtain⟨xs,e5,_⟩:=h5.2.2.2;refine⟨g,dx,d1,d2,d3,ts,nx,rfl,nd,k _ _ (by simp) h1,k _ _ (by simp) h2,h3,k _ _ (by simp) h4,ThD.off n o ?_ h5,k _ _ (by simp) h6,h7,h8,fun i e t q1 q2=>Dt.off n o _ _ (g.ent e (Zc q1)).key.1 (h9 i e t q1 q2)⟩;rw[e5];exact k _ _ (by simp) e5
theorem ShAt.same {K:AZ}(s:Same H H')(h:ShAt P w K C H a fp S):ShAt P w K C H' a fp S :=
 h.off (gp:=[]) (fun b m=>(nomatch m)) (Off.of s) (fun b _=>by simp)
theorem ShAt.noseq {K:AZ}(h:ShAt P w K C H a fp S):NoSeq H fp:=by
 obtain⟨g,dx,d1,d2,d3,ts,nx,rfl,nd,h1,h2,h3,h4,h5,h6,h7,h8,h9⟩:=h;obtain⟨xs,e5,_⟩:=h5.2.2.2;intro b m;simp only[Q7,Z3,Js]at m
 rcases m with rfl|rfl|rfl|rfl|rfl
 ·exact⟨_,h1,fun _ z=>(nomatch z),fun _ z=>(nomatch z),fun _ _ z=>(nomatch z)⟩
 ·exact⟨_,h2,fun _ z=>(nomatch z),fun _ z=>(nomatch z),fun _ _ z=>(nomatch z)⟩
 ·exact⟨_,h4,fun _ z=>(nomatch z),fun _ z=>(nomatch z),fun _ _ z=>(nomatch z)⟩
 ·exact⟨_,e5,fun _ z=>(nomatch z),fun _ z=>(nomatch z),fun _ _ z=>(nomatch z)⟩
 ·exact⟨_,h6,fun _ z=>(nomatch z),fun _ z=>(nomatch z),fun _ _ z=>(nomatch z)⟩
theorem NoSeq.tup (h:NoSeq H fp):∀b∈fp,∀xs,¬Rd H b (.tup xs):=fun b m xs=>by
 obtain⟨o,e,n1,_,n2⟩:=h b m;exact XZ e n1 n2 xs
theorem vE {κ:Type} [DecidableEq κ]{Dm:List (κ×V)}{k:κ}{v:V}(h:k∉Dm.map (·.1)):putK Dm k v=Dm++[(k,v)]:=by
 unfold putK;rw[Zh];intro z;obtain⟨kv,hm,e⟩:=Z2.mp z;exact h (QZ.mpr ⟨kv,hm,Zb e⟩)
theorem Xf {κ:Type} [DecidableEq κ]:∀{Dm:List (κ×V)} {k:κ} {v:V},(Dm.map (·.1)).Nodup->(k,v)∈Dm->VQ Dm k=some v
 |[],_,_,_,h=>(nomatch h)
 |p::r,k,v,nd,h=>by
  rw[Zn,Z1]at nd;unfold VQ;rw[YA]
  rcases Q7.mp h with e|h
  ·subst e;rw[QX (show((k,v):κ×V).1=k from rfl)];rfl
  ·rw[Q9 (show¬p.1=k from fun z=>nd.1 (QZ.mpr ⟨(k,v),h,z.symm⟩))];exact Xf nd.2 h
theorem Pl (e:En):cs e.nm=cs e.h++46::cs (V1 e.n):=by
 unfold En.nm;rw[cs_append,cs_append];show cs e.h++[46]++cs (V1 e.n)=_;simp
theorem BZ (h:V1 m=V1 n):m=n:=by
 have h0:cs (V1 m)=cs (V1 n):=by rw[h]
 have h1:=JX m;have h2:=JX n;have h3:=PySem.W.KIN.val_back m;have h4:=PySem.W.KIN.val_back n;rw[←h1]at h3;rw[←h2]at h4;have h0:(ES (LN ((m:Nat):Int))).cps.toList=(ES (LN ((n:Nat):Int))).cps.toList:=h0;rw[h0]at h3;exact h3.symm.trans h4
theorem HX:∀{a b r s:List Nat},¬(46∈a)->¬(46∈b)->a++46::r=b++46::s->a=b/\r=s
 |[],[],r,s,_,_,h=>⟨rfl,by injection h⟩
 |[],y::b,r,s,_,hb,h=>by
  injection h with h1 h2;exact absurd (by rw[←h1];exact Q1) hb
 |x::a,[],r,s,ha,_,h=>by
  injection h with h1 h2;exact absurd (by rw[h1];exact Q1) ha
 |x::a,y::b,r,s,ha,hb,h=>by
  injection h with h1 h2;obtain⟨e1,e2⟩:=HX (fun z=>ha (QY _ z)) (fun z=>hb (QY _ z)) h2;exact⟨by rw[h1,e1],e2⟩
theorem Rf {e f:En}(he:46∉cs e.h)(hf:46∉cs f.h)(h:e.nm=f.nm):e.h=f.h/\e.n=f.n:=by
 have:=congrArg cs h;rw[Pl,Pl]at this;obtain⟨h1,h2⟩:=HX he hf this;exact⟨cs_inj h1,BZ (cs_inj h2)⟩
theorem Ox:∀{S:Di} {e:En},e∈S->e.n<(nextOf S e.h).getD 0:=by
 have key:∀(S:Di) (acc:Option Nat) (h:Str),acc.getD 0<=(S.foldl (fun acc e=>if e.h=h then some (max (acc.getD 0) (e.n+1)) else acc) acc).getD 0/\∀e∈S,e.h=h->e.n<(S.foldl (fun acc e=>if e.h=h then some (max (acc.getD 0) (e.n+1)) else acc) acc).getD 0:=by
  intro S
  induction S with
  |nil=>intro acc h;exact⟨Q2 _,fun e he=>(nomatch he)⟩
  |cons f S ih =>
   intro acc h;rw[Jt];obtain⟨i1,i2⟩:=ih (if f.h=h then some (max (acc.getD 0) (f.n+1)) else acc) h;have mono:acc.getD 0<=(if f.h=h then some (max (acc.getD 0) (f.n+1)) else acc).getD 0:=by
    split
    ·exact Nat.le_max_left _ _
    ·exact Q2 _
   refine⟨ZD mono i1,fun e he eh=>?_⟩
   rcases Q7.mp he with rfl|he
   ·rw[Zk eh]at i1 ⊢;have:e.n+1<=(some (max (acc.getD 0) (e.n+1))).getD 0:=Nat.le_max_right _ _;omega
   ·exact i2 e he eh
 intro S e he;exact(key S none e.h).2 e he rfl
theorem Ng (g:GoodS S){h:Str}{d:El}(hf:46∉cs h):(En.mk h ((nextOf S h).getD 0) d).nm∉S.map En.nm:=fun z=>by
 obtain⟨e,he,q⟩:=QZ.mp z;obtain⟨h1,h2⟩:=Rf (g.ent e he).free hf q;have:=Ox he;have h1:e.h=h:=h1;have h2:e.n=(nextOf S h).getD 0:=h2;rw[h1]at this;omega
end An
namespace An
open PySem L2
def dig (n:Nat):Str:=ES (LN ((n:Nat):Int))
def enc (p:Str):List Nat:=cs (dig p.length)++58::cs p
inductive Th where
 |leaf (ls:Da)
 |tree (Do:Dg)
 |note (t:Str) (ps:Da) (w:Str)
def z5:Dg->Da
 |[]=>[]
 |r::rs=>r.1::r.2::z5 rs
theorem jE:∀(a b:Dg),z5 (a++b)=z5 a++z5 b
 |[],_=>rfl
 |(x,y)::a,b=>by
  show x::y::z5 (a++b)=x::y::(z5 a++z5 b);rw[jE a b]
def Th.word:Th->Str
 | .leaf _=>"leaf"|.tree _=>"tree"|.note _ _ _=>"note"
def Th.letter:Th->Str
 | .leaf _=>"L"|.tree _=>"T"|.note _ _ _=>"N"
def Th.parts:Th->Da
 | .leaf ls=>ls
 | .tree Do=>z5 Do
 | .note t ps w=>[t,dig ps.length]++ps++[w]
def counted (p:Str):Str:=dig p.length++":"++p
def more (x p:Str):Str:=x++dig p.length++":"++p
def Th.sp (t:Th):Str:=t.parts.foldl more t.letter
theorem B9:cs (":":Str)=[58]:=by decide +kernel
theorem Fq (p:Str):cs (counted p)=enc p:=by
 unfold counted enc;rw[cs_append,cs_append,B9];simp
theorem Of (x p:Str):cs (more x p)=cs x++enc p:=by
 unfold more enc;rw[cs_append,cs_append,cs_append,B9];simp
theorem Bv:∀(ps:Da) (x:Str),cs (ps.foldl more x)=cs x++ps.flatMap enc
 |[],x=>by simp
 |p::ps,x=>by
  rw[Jt,Bv ps,Of,List.flatMap_cons,Z6]
theorem RZ (t:Th):cs t.sp=cs t.letter++t.parts.flatMap enc:=Bv _ _
theorem Sx (t:Th):t.letter++Lj "" (t.parts.map counted)=t.sp:=by
 apply cs_inj
 rw[cs_append,RZ];have e:cs (Lj "" (t.parts.map counted))=t.parts.flatMap enc:=by
  show cs (Builtin.Str.glued "" (t.parts.map counted))=_;rw[E9];rw[uB,List.flatMap_map]
  congr 1
  funext p
  exact Fq p
 rw[e]
theorem qS (t:Th):cs t.letter=[match t with|.leaf _=>76|.tree _=>84|.note _ _ _=>78]:=by
 cases t
 ·show cs ("L":Str)=[76]
  decide +kernel
 ·show cs ("T":Str)=[84]
  decide +kernel
 ·show cs ("N":Str)=[78]
  decide +kernel
def R1 (n:Int)(c:Nat):Int:=(31*n+c) % 97
def dg (x:Str):Int:=(cs x).foldl R1 0
def rowDat (r:Str×Str):PyData:=.tuple [.str r.1,.str r.2]
def Th.dat:Th->El
 | .leaf ls=>.tuple [.str "leaf",.tuple (ls.map .str)]
 | .tree Do=>.tuple [.str "tree",.tuple (Do.map rowDat)]
 | .note t ps w=>.tuple [.str "note",.str t,.tuple (ps.map .str),.str w]
theorem BC:∀(a b:Dg),EU (a.map rowDat) (b.map rowDat)=decide (a=b)
 |[],[]=>rfl
 |[],_::_=>rfl
 |_::_,[]=>rfl
 |(x,y)::a,(z,w)::b=>by
  show(((x==z)&&((y==w)&&true))&&EU (a.map rowDat) (b.map rowDat))=_;rw[BC a b,Z8];simp[and_assoc]
theorem jS {x y:Str}{xs ys:Df}(h:(x==y)=false):EE (.tuple (.str x::xs)) (.tuple (.str y::ys))=false:=by
 show((x==y)&&EU xs ys)=false;rw[h];rfl
theorem Hj (a b:Th):EE a.dat b.dat=true↔a=b:=by
 have w1:(("leaf":Str)=="tree")=false:=by decide +kernel
 have w2:(("leaf":Str)=="note")=false:=by decide +kernel
 have w3:(("tree":Str)=="leaf")=false:=by decide +kernel
 have w4:(("tree":Str)=="note")=false:=by decide +kernel
 have w5:(("note":Str)=="leaf")=false:=by decide +kernel
 have w6:(("note":Str)=="tree")=false:=by decide +kernel
 cases a with
 |leaf ls =>
  cases b with
  |leaf ms =>
   show((("leaf":Str)=="leaf")&&(EU (ls.map .str) (ms.map .str)&&true))=true↔_;rw[jM];simp
  |tree _ =>
   exact JT (fun z=>absurd ((jS w1).symm.trans z) Zw) (fun z=>by cases z)
  |note _ _ _ =>
   exact JT (fun z=>absurd ((jS w2).symm.trans z) Zw) (fun z=>by cases z)
 |tree rs =>
  cases b with
  |leaf ms =>
   exact JT (fun z=>absurd ((jS w3).symm.trans z) Zw) (fun z=>by cases z)
  |tree qs =>
   show((("tree":Str)=="tree")&&(EU (rs.map rowDat) (qs.map rowDat)&&true))=true↔_;rw[BC];simp
  |note _ _ _ =>
   exact JT (fun z=>absurd ((jS w4).symm.trans z) Zw) (fun z=>by cases z)
 |note t ps w =>
  cases b with
  |leaf ms =>
   exact JT (fun z=>absurd ((jS w5).symm.trans z) Zw) (fun z=>by cases z)
  |tree qs =>
   exact JT (fun z=>absurd ((jS w6).symm.trans z) Zw) (fun z=>by cases z)
  |note t' ps' w' =>
   show((("note":Str)=="note")&&((t==t')&&(EU (ps.map .str) (ps'.map .str)&&((w==w')&&true))))=true↔_;rw[jM];simp
def Th.Good (t:Th):Prop:=t.parts.length<=1000/\∀p∈t.parts,Ok 1000 p
end An
namespace L2
open PySem PySem.Spec PyProof.Rows
section
variable {X:Cx}{Dp:De}{σ:St}{H:Hp}{s:Ej}{d:Eh}{Dm:Dl}
theorem Inv.freeze (I:Inv X Dp σ H s)(e:H d=some (.dK Dm)):∃ob:Obj,Inv X Dp σ (upd H d (.frz ob (.dK Dm))) s:=by
 obtain⟨hz,hS,vs,rel,o,es,ep,ho,hx,hd,hk,hp,hnd⟩:Dm.length<=sizeLine/\(d==EN)=false/\∃vs,KV Dm vs/\s.heap.DictOf (zY X.prog X.w) d vs:=I.hok d _ e;refine⟨o,?_⟩;have mu:PL (H d):=by rw[e];trivial
 exact I.write (x:=d) (e:=d) (h':=s.heap) (t':=s.toks) mu (.inl rfl) (fun b u _ q=>q) ⟨o,ho⟩ ⟨ho,hz,hS,vs,rel,o,es,ep,ho,hx,hd,hk,hp,hnd⟩
theorem NG {k:Key}{u:Eg}(h:(zY P w).is k u=true):RelV (kV k) u:=by
 cases k with
 |inl i =>
  have h:L8 i u=true:=h;cases u<;>simp[L8]at h;subst h;exact⟨_,rfl⟩
 |inr x =>
  obtain⟨t,rfl⟩:=YQ (show E2 x u=true from h);exact⟨t,rfl⟩
theorem kI {α β:Type}{F:α->β->Prop}:∀{l₁:List α} {l₂:List β} {i:Nat} {y:β},Ld F l₁ l₂->l₂[i]?=some y->∃x,l₁[i]?=some x/\F x y
 |_,_,_,_,.nil,h=>by cases h
 |_,_,0,_,.cons r _,h=>by cases h;exact⟨_,rfl,r⟩
 |_,_,i+1,_,.cons _ t,h=>by
  obtain⟨x,h1,h2⟩:=kI (i:=i) t (by simpa using h);exact⟨x,by simpa using h1,h2⟩
theorem Fu {ob:Obj}(z:ObjOk P w H h d (.frz ob (.dK Dm))):∃vs es ep,ob.data=.dict es ep/\KV Dm vs/\h.DictAt (zY P w) d vs ep/\(d==EN)=false/\Dm.length<=sizeLine:=by
 obtain⟨h0,hz,hS,vs,rel,o,es',ep',ho,hx,hd',hk,hp,hnd⟩:=z;rw[h0]at ho;cases ho;exact⟨vs,es',ep',hd',rel,⟨ob,es',h0,hx,hd',hk,hp,hnd⟩,hS,hz⟩
theorem Xk {ob:Obj}{es:Array LX}{ep:Nat}(hd:ob.data=.dict es ep)(z:ObjOk P w H h d (.frz ob (.dK Dm))):∃vs,KV Dm vs/\h.DictAt (zY P w) d vs ep/\(d==EN)=false:=by
 obtain⟨vs,es',ep',hd',rel,da,hS,_⟩:=Fu z;rw[hd]at hd';cases hd';exact⟨vs,rel,da,hS⟩
def SQ (d:Eh)(Dm:Dl)(ob:Obj):It where
 go:=fun i H=>H d=some (.frz ob (.dK Dm))/\i<Dm.length
 yld:=fun i H x H'=>H'=H/\∃k v,Dm[i]?=some (k,v)/\x=kV k
 stop:=fun i H=>H d=some (.frz ob (.dK Dm))/\i=Dm.length
theorem K0 {K:AZ}{ob:Obj}{es:Array LX}{ep:Nat}(hd:ob.data=.dict es ep)(it:Eh):Turn P w K tg (SQ d Dm ob) [it] it (fun i h=>h.IsKeyIter it d i Dm.length ep) where
 mem:=by simp
 obj:=fun i h st b hb=>by
  have e:b=it:=by simpa using hb
  subst e;obtain⟨o,e,c,dd⟩:=st;exact⟨o,e,fun v z=>by rw[dd]at z;cases z⟩
 keep:=fun i h h' st k=>by
  obtain⟨o,e,c⟩:=st;exact⟨o,k it (by simp) o e,c⟩
 item:=by
  intro X hP hw hK hc i Dp s σ H E I hf st hg;subst hP hw hK;obtain⟨hfr,hi⟩:=hg;obtain⟨vs,rel,da,hS⟩:=Xk hd (I.hok d _ hfr);have hl:Dm.length=vs.length:=Paired.length rel;rw[hl]at st;have hx:vs[i]?=some (vs[i]'(by omega)):=Q5 (by omega);obtain⟨f0,f1,f2,f3,f4,f5⟩:=hf it (by simp);refine wpAny_pyNext_dict_item (k:=(vs[i]'(by omega)).1) (v:=(vs[i]'(by omega)).2) st da hx fun key h' D8 st' sb=>?_;have I1:Inv X Dp σ H { s with heap:=h' }:=I.turned (t':=s.toks) (fun b o hb e=>(sb.2 b hb).trans e) f0 f1 f3 f4 f5;rw[←hl]at st';obtain⟨o,e,c,dd⟩:=id st';have hk:∃v,Dm[i]?=some ((vs[i]'(by omega)).1,v):=by
   obtain⟨⟨k0,v0⟩,h0,h1,_⟩:=kI rel hx;have h1:k0=_:=h1;subst h1;exact⟨v0,h0⟩
  obtain⟨v0,hk⟩:=hk;exact⟨key,rfl,Cv (s:={ s with heap:=h' }) e c dd (by decide) ⟨kV (vs[i]'(by omega)).1,H,I1,NG D8,⟨rfl,_,v0,hk,rfl⟩,st',fun b hb=>(hf b hb).1⟩⟩
 done:=by
  intro X hP hw hK hc i Dp s σ H E I hf st hg;subst hP hw hK;obtain⟨hfr,hi⟩:=hg;subst hi;obtain⟨vs,rel,da,hS⟩:=Xk hd (I.hok d _ hfr);have hl:Dm.length=vs.length:=Paired.length rel;obtain⟨f0,f1,f2,f3,f4,f5⟩:=hf it (by simp);rw[hl]at st;exact wpAny_pyNext_dict_end (I.ok.hd hc) st da (ZO (by omega)) fun h' eb=>⟨rfl,I.turned (t':=s.toks) (fun b o hb e=>eb b o hb e) f0 f1 f3 f4 f5⟩
 self:=fun _ _ _ _ _ st h=>wpAny_pyIter_keyiter st h
def SR (d:Eh)(Dm:Dl)(ob:Obj):It where
 go:=fun i H=>H d=some (.frz ob (.dK Dm))/\i<Dm.length
 yld:=fun i H x H'=>∃T k v,Dm[i]?=some (k,v)/\H T=none/\x=.ref T/\H'=upd H T (.tup [kV k,v])
 stop:=fun i H=>H d=some (.frz ob (.dK Dm))/\i=Dm.length
theorem F1 {P:Ei}{w:Eo}{K:AZ}{elts:List EI} {x1}{tpos:Pos}{ob:Obj}{es:Array LX}{ep:Nat}(hd:ob.data=.dict es ep)(it:Eh) :
  Turn P w K (.Tuple elts x1 tpos) (SR d Dm ob) [it] it (fun i h=>∃ok ov,IsItemIter h it d i Dm.length ep ok ov) where
 mem:=by simp
 obj:=fun i h st b hb=>by
  have e:b=it:=by simpa using hb
  subst e;obtain⟨ok,ov,e⟩:=st;exact⟨_,e,fun v z=>by cases z⟩
 keep:=fun i h h' st k=>by
  obtain⟨ok,ov,e⟩:=st;exact⟨ok,ov,k it (by simp) _ e⟩
 item:=by
  intro X hP hw hK hc i Dp s σ H E I hf st hg;subst hP hw hK;obtain⟨hfr,hi⟩:=hg;obtain⟨vs,rel,da,hS⟩:=Xk hd (I.hok d _ hfr);have hl:Dm.length=vs.length:=Paired.length rel;obtain⟨ok,ov,st⟩:=st;rw[hl]at st;obtain⟨⟨kk,vv⟩,hx⟩:∃p,vs[i]?=some p:=⟨_,Q5 (show i<vs.length by omega)⟩;obtain⟨⟨k0,v0⟩,h0,h1,rv⟩:=kI rel hx;have h1:k0=kk:=h1;have rv:RelV v0 vv:=rv;have fi:=hf it (by simp);have hT:H s.heap.objs.size=none:=I.hok.fresh (Q2 _);have ltI:it<s.heap.objs.size:=Zi st;refine wpAny_pyNext_items_item (k:=kk) (v:=vv) st da hx fun key h' D8 out tup sz kp=>?_;refine⟨_,rfl,wpAny_letOwnedTupleGo_items out fun h2 en sb=>?_⟩;have tup2:h2.get? s.heap.objs.size=some { cls:=.type "tuple",data:=.seq #[key,vv] }:=(sb.2 _ (JL ltI)).trans tup;have I1:Inv X Dp σ H { s with heap:=h2 }:=I.turnedAll (t':=s.toks) (ch:=[it]) hf (fun b o hb q=>by
   have b1:b≠it:=fun z=>hb (by simp[z]);exact(sb.2 b b1).trans (kp b o b1 q)) (fun b hb=>by
   have z:b=it:=by simpa using hb
   subst z;exact⟨_,en⟩)
  have fT:=I.fpOk (Q2 _) hT;have new:ObjOk X.prog X.w (upd H s.heap.objs.size (.tup [kV k0,v0])) h2 s.heap.objs.size (.tup [kV k0,v0]) :=
   ⟨by show 2<=sizeLine;decide,[key,vv],.cons (by rw[h1];exact NG D8) (.cons rv .nil),⟨_,tup2,rfl,_,rfl,rfl⟩⟩
  have I2:Inv X Dp σ (upd H s.heap.objs.size (.tup [kV k0,v0])) { s with heap:=h2 } :=
   I1.takeUp hT (ZD I.sz (Q2 _)) fT.2.1 fT.2.2.2.2.1 fT.2.2.2.2.2 new
  refine⟨.ref s.heap.objs.size,_,I2,rfl,⟨_,k0,v0,h0,hT,rfl,rfl⟩,⟨key,vv,by rw[hl];exact en⟩,fun b hb=>?_⟩;have z:b=it:=by simpa using hb
  subst z;rw[zG (Zr ltI)];exact fi.1
 done:=by
  intro X hP hw hK hc i Dp s σ H E I hf st hg;subst hP hw hK;obtain⟨hfr,hi⟩:=hg;subst hi;obtain⟨vs,rel,da,hS⟩:=Xk hd (I.hok d _ hfr);have hl:Dm.length=vs.length:=Paired.length rel;obtain⟨f0,f1,f2,f3,f4,f5⟩:=hf it (by simp);obtain⟨ok,ov,st⟩:=st;rw[hl]at st;exact wpAny_pyNext_items_end (I.ok.hd hc) st da (ZO (by omega)) fun h' eb=>⟨rfl,I.turned (t':=s.toks) (fun b o hb e=>eb b o hb e) f0 f1 f3 f4 f5⟩
 self:=fun _ _ _ _ _ st h=>by
  obtain⟨ok,ov,st⟩:=st;exact PySem.W.kcp_self st h
end
section
variable {X:Cx}{tg:EI}
def Tw (t:TE):TE:=fun σ H Q=>t σ H fun v H1=>∃d Dm,v=.ref d/\H1 d=some (.dK Dm)/\∀ob,Q v (upd H1 d (.frz ob (.dK Dm)))
theorem GP (h:PE X e t):PE X e (Tw t):=by
 intro Dp s σ H Q I q;refine A3 (h Dp s σ H _ I q) fun v s1 ⟨x,H1,I1,r,d,Dm,ex,hd,q⟩=>?_;subst ex;obtain⟨ob,I2⟩:=I1.freeze hd;exact⟨.ref d,_,I2,r,q ob⟩
def R9 (td:TE):TI:=fun σ H R=>td σ H fun v H1=>∃d ob Dm,v=.ref d/\H1 d=some (.frz ob (.dK Dm))/\R (SQ d Dm ob) H1
theorem OQ (hl:PE X l tl):PI X tg l (R9 tl):=by
 intro Dp s σ H R I h;refine A3 (hl Dp s σ H _ I h) fun v s1 ⟨x,H1,I1,r,d,ob,Dm,ex,hd,q⟩=>?_;subst ex;cases r;obtain⟨vs,es,ep,hdat,rel,da,hS,_⟩:=Fu (I1.hok d _ hd);have Dq:Dm.length=vs.length:=Paired.length rel;refine wpAny_pyIter_dict hS da ?_;have I3:Inv X Dp σ H1 { s1 with heap:=s1.heap.push { cls:=.type "dict_keyiterator",data:=.fields #[.ref d,.int 0 0,.int vs.length 0,.int ep 0] } }:=I1.kept (t':=s1.toks) fun b o e=>Q0 _ e;refine⟨s1.heap.objs.size,[s1.heap.objs.size],_,_,_,rfl,I3,K0 hdat _,?_,fun b hb=>?_,q⟩
 ·exact⟨_,Ze _ rfl,rfl,by rw[Dq];rfl⟩
 ·have e:b=s1.heap.objs.size:=by simpa using hb
  subst e;exact I1.fpOk (Q2 _) (I1.hok.fresh (Q2 _))
def P3 (td:TE):TI:=fun σ H R=>td σ H fun v H1=>∃d ob Dm,v=.ref d/\H1 d=some (.frz ob (.dK Dm))/\R (SR d Dm ob) H1
theorem Iw {elts:List EI}{tpos Dr Ds:Pos}(ho:PE X o td)(DO:Lo o "items" X.env (EY o X.env)=EY o X.env:=by rfl)(DI:(Dr.endLine==Ds.line)=true:=by rfl) :
  PI X (.Tuple elts x1 tpos) (.Call (.Attribute o "items" Dr) [] [] Ds) (P3 td):=by
 intro Dp s σ H R I h;refine JK DO DI (A3 (ho Dp s σ H _ I h) fun v s1 ⟨x,H1,I1,r,d,ob,Dm,ex,hd,q⟩=>?_);subst ex;cases r;obtain⟨vs,es,ep,hdat,rel,da,hS,_⟩:=Fu (I1.hok d _ hd);have Dq:Dm.length=vs.length:=Paired.length rel;have dO:=da.dictOf;obtain⟨ob',es',h1,h2,h3⟩:=id da;refine⟨"dict","dict.items",F.plainAttrs_dict,L5,F.type_dict_items,dO.typeIs,fun b q=>by cases q;exact⟨ob',h1,h2.2.1⟩,Lf rfl (Vg ?_)⟩;refine Vz L5 dO.typeIs F.entry_dict_items (F.args_dict_items_1 _) (meets_dict_items (zY X.prog X.w) d hS) ⟨⟨vs,dO⟩,?_⟩;have I2:Inv X Dp σ H1 { s1 with heap:=s1.heap.push { cls:=.type "dict_items",data:=.fields #[.ref d] } }:=I1.kept (t':=s1.toks) fun b o e=>Q0 _ e;have da2:(s1.heap.push { cls:=.type "dict_items",data:=.fields #[.ref d] }).DictAt (zY X.prog X.w) d vs ep:=da.at' fun o e=>Q0 _ e;refine wpAny_pyIter_items (v:=s1.heap.objs.size) (d:=d) ⟨_,Ze _ rfl,rfl,rfl⟩ da2 ?_;refine⟨_,[_],_,_,_,rfl,I2.kept (t':=s1.toks) fun b o e=>Q0 _ e,F1 hdat _,⟨_,_,by rw[Dq];exact Ze _ rfl⟩,fun b hb=>?_,q⟩;have e:=QV.mp hb;subst e;exact I2.fpOk (Q2 _) (I2.hok.fresh (Q2 _))
section
variable {d:Eh}{Dm:Dl}{ob:Obj}{g:TG}{tb:TS}{D:Ends}{σ:St}{H:Hp}
theorem MD (Pv:Nat->St->Hp->Prop)(h0:Pv 0 σ H)(hl:∀i σ H,i<=Dm.length->Pv i σ H->H d=some (.frz ob (.dK Dm)))
  (hs:∀i k v σ H,Dm[i]?=some (k,v)->Pv i σ H->g (kV k) σ H fun σ2 H2=>tb { D with nx:=Pv (i+1),ct:=Pv (i+1),bk:=D.nx } σ2 H2) (hd:∀σ H,Pv Dm.length σ H->D.nx σ H):K6 (SQ d Dm ob) g tb D σ H :=
 Hl Dm.length Pv h0 (fun σ H p=>⟨hl _ σ H (Q2 _) p,rfl⟩) (fun i σ H hi p=>⟨hl i σ H (Yn hi) p,hi⟩) (fun i σ H hi p v H' y=>by
  obtain⟨eH,k,x,hx,ev⟩:=y;subst ev eH;exact hs i k x σ _ hx p) hd
theorem UC (Pv:Nat->St->Hp->Prop)(h0:Pv 0 σ H)(hl:∀i σ H,i<=Dm.length->Pv i σ H->H d=some (.frz ob (.dK Dm)))
  (hs:∀i k v T σ H,Dm[i]?=some (k,v)->Pv i σ H->H T=none->g (.ref T) σ (upd H T (.tup [kV k,v])) fun σ2 H2=>tb { D with nx:=Pv (i+1),ct:=Pv (i+1),bk:=D.nx } σ2 H2) (hd:∀σ H,Pv Dm.length σ H->D.nx σ H):K6 (SR d Dm ob) g tb D σ H :=
 Hl Dm.length Pv h0 (fun σ H p=>⟨hl _ σ H (Q2 _) p,rfl⟩) (fun i σ H hi p=>⟨hl i σ H (Yn hi) p,hi⟩) (fun i σ H hi p v H' y=>by
  obtain⟨T,k,x,hx,hT,ev,eH⟩:=y;subst ev eH;exact hs i k x T σ H hx p hT) hd
end
def Tj:R2:=fun y x H Q=>∃a o,x=.ref a/\DGet H a y o/\Q (.bl o.isSome) H
theorem X5 (hu:X.A.units+64<E8):Ce X (EO .In) Tj:=by
 intro Dp s σ H y x v u Q I ry rx h;obtain⟨a,o,rfl,g,q⟩:=h;cases rx;exact SZ (by omega) I g ry fun s' I'=>⟨.bl _,H,I',rfl,q⟩
theorem Oo {H:Hp}{a:Eh}{ob:Obj}{Dm:Dl}(e:H a=some (.frz ob (.dK Dm))):DGet H a (kV k) (VQ Dm k):=.inl ⟨Dm,k,.inr ⟨ob,e⟩,rfl,rfl⟩
inductive Hits (K:AZ)(H:Hp)(kb:Dl):Dl->Bool->Prop
 |nil:Hits K H kb [] true
 |miss {k:Key} {v:V} {r:Dl}:VQ kb k=none->Hits K H kb ((k,v)::r) false
 |hit {k:Key} {v y:V} {d e:El} {r:Dl} {b:Bool}:VQ kb k=some y->Dt K H d v->Dt K H e y->SeqAt.shaped d=true->SeqAt.shaped e=true->Hits K H kb r b->Hits K H kb ((k,v)::r) (EE d e&&b)
end
section
variable {X:Cx}{K:AZ}
theorem HC (hu:X.A.units+64<E8)(hK:X.K=K:=by rfl):Ce X (EO .NotIn) (Sq K false true):=by
 subst hK;intro Dp s σ H x y v u Q I rx ry h;obtain⟨d,xs,h1,h2,h3,h4,h5,q⟩:=h;obtain⟨as,r1⟩:=Dt.reads I d x v h1 rx;obtain⟨bs,r2⟩:=Dt.reads I _ y u h2 ry;have hm:min (Ez xs) d.depth<=d.depth:=Vv _ _;exact SeqAt.notIn_list_reads r2 r1 h3 h4 (by omega) ⟨.bl _,H,I,rfl,by simpa using q⟩
theorem Nk (hu:X.A.units+64<E8)(hK:X.K=K:=by rfl):Ce X (EO .NotIn) (Sq K true true):=by
 subst hK;intro Dp s σ H x y v u Q I rx ry h;obtain⟨d,xs,h1,h2,h3,h4,h5,q⟩:=h;obtain⟨as,r1⟩:=Dt.reads I d x v h1 rx;obtain⟨bs,r2⟩:=Dt.reads I _ y u h2 ry;have hm:min (Ez xs) d.depth<=d.depth:=Vv _ _;exact SeqAt.notIn_tuple_reads r2 r1 h3 h4 (by omega) ⟨.bl _,H,I,rfl,by simpa using q⟩
end
end L2
namespace An
open PySem L2
theorem Iv (x:Str):0<=dg x/\dg x<97:=by
 unfold dg;have:∀(l:List Nat) (n:Int),(0<=n/\n<97)->0<=l.foldl R1 n/\l.foldl R1 n<97:=by
  intro l
  induction l with
  |nil=>intro n h;exact h
  |cons c l ih =>
   intro n _;rw[Jt];refine ih _ ?_;unfold R1;omega
 exact this _ 0 ⟨by decide,by decide⟩
theorem Nj (x:Str):ES (LN (dg x))=V1 (dg x).toNat:=by
 unfold V1;rw[Int.toNat_of_nonneg (Iv x).1]
theorem BN {n:Nat}(h:n<97):(V1 n).length<=10:=Je (by omega) (by decide) (by
 have:n<10 ^ 9:=by omega
 omega)
theorem snoc_ind {α:Type}{p:List α->Prop}(h0:p [])(h1:∀l x,p l->p (l++[x]))(l:List α):p l:=by
 have:∀l:List α,p l.reverse:=by
  intro l
  induction l with
  |nil=>exact h0
  |cons x l ih=>rw[List.reverse_cons];exact h1 _ _ ih
 have:=this l.reverse
 rwa[List.reverse_reverse]at this
theorem next_in (S:Di)(h:Str):(nextOf S h).getD 0=0\/∃e∈S,e.h=h/\e.n+1=(nextOf S h).getD 0:=by
 induction S using snoc_ind with
 |h0=>exact .inl rfl
 |h1 S e ih =>
  rw[US]
  by_cases q:e.h=h
  ·rw[Zk q];show max ((nextOf S h).getD 0) (e.n+1)=0\/_
   rcases Nat.le_total ((nextOf S h).getD 0) (e.n+1) with z|z
   ·exact .inr ⟨e,by simp,q,(Nat.max_eq_right z).symm⟩
   ·have mz:max ((nextOf S h).getD 0) (e.n+1)=(nextOf S h).getD 0:=Nat.max_eq_left z
    rcases ih with i|⟨f,hf,h1,h2⟩
    ·exact .inl (mz.trans i)
    ·exact .inr ⟨f,by simp[hf],h1,h2.trans mz.symm⟩
  ·rw[Zh q]
   rcases ih with i|⟨f,hf,h1,h2⟩
   ·exact .inl i
   ·exact .inr ⟨f,by simp[hf],h1,h2⟩
theorem Hx {S:Di}(hS:∀e∈S,e.n<S.length)(h:Str):(nextOf S h).getD 0<=S.length:=by
 rcases next_in S h with i|⟨f,hf,_,h2⟩
 ·omega
 ·have:=hS f hf;omega
theorem FK (n:Nat):Em (V1 n)=true:=by
 rw[qB];intro c hc;have hc:c∈(ES (LN ((n:Nat):Int))).cps.toList:=hc;rw[JX]at hc;obtain⟨d,hd,rfl⟩:=QZ.mp hc;show d.val.toNat<1114112
 rcases d.valid with h|⟨_,h⟩
 ·exact Nat.lt_trans h (by decide)
 ·exact h
theorem FL {x y:Str}(h1:Em x=true)(h2:Em y=true):Em (x++y)=true:=by
 rw[qB]at *;intro c hc;rw[cs_append,Zf]at hc;exact hc.elim (h1 c) (h2 c)
theorem Ii (xs:Da)(x:Str):(xs.map EL).any (fun y=>EE y (.str x))=decide (x∈xs):=by
 induction xs with
 |nil=>rfl
 |cons y xs ih =>
  show((y==x)||(xs.map EL).any (fun y=>EE y (.str x)))=_;rw[ih,Z8,VD,Zt,Zt,Q7,Jn];exact⟨fun h=>h.elim (fun z=>.inl z.symm) .inr,fun h=>h.elim (fun z=>.inl z.symm) .inr⟩
theorem Rc {S:Di}(nd:(S.map (·.d)).Nodup){e f:En}(he:e∈S)(hf:f∈S)(h:e.d=f.d):e=f:=by
 induction S with
 |nil=>cases he
 |cons x S ih =>
  rw[Zn,Z1]at nd
  rcases Q7.mp he with e1|he2
  ·rcases Q7.mp hf with e2|hf2
   ·rw[e1,e2]
   ·exact absurd (QZ.mpr ⟨f,hf2,by rw[←e1];exact h.symm⟩) nd.1
  ·rcases Q7.mp hf with e2|hf2
   ·exact absurd (QZ.mpr ⟨e,he2,by rw[←e2];exact h⟩) nd.1
   ·exact ih nd.2 he2 hf2
def Ex (H:Hp)(X:Dd):Prop:=∀c∈X,∃o,H c=some o
theorem Ex.not {c:Eh}(h:Ex H X)(n:H c=none):c∉X:=fun z=>by
 obtain⟨o,e⟩:=h c z;rw[n]at e;cases e
section
variable {P:Ei}{w:Eo}{K:AZ}{C:Eh}{H H' H0:Hp}{S:Di}
theorem ShAt.ex (h:ShAt P w K C H a fp S):Ex H fp:=fun c hc=>by
 obtain⟨o,e,_⟩:=h.noseq c hc;exact⟨o,e⟩
end
theorem XU {α:Type}{l:List α}{i:Nat}{x:α}(nd:l.Nodup)(h:l[i]?=some x):x∉l.take i:=fun z=>by
 obtain⟨j,hj,e⟩:=ZJ.mp z;rw[Zm]at hj;rw[List.getElem_take]at e;obtain⟨hi,e'⟩:=Zl.mp h;exact Y6.mp nd j i (by omega) hi (by omega) (e.trans e'.symm)
def VW (t:Th):Str:=t.letter++V1 (dg t.sp).toNat
def Uh (S:Di)(t:Th):En:=⟨VW t,(nextOf S (VW t)).getD 0,t.dat⟩
theorem X8 (t:Th):t.letter.length=1:=by rw[length_cs,qS];rfl
theorem BV (t:Th):46∉cs t.letter:=by
 rw[qS];cases t
 ·show 46∉[76];decide
 ·show 46∉[84];decide
 ·show 46∉[78];decide
theorem jU (t:Th):46∉cs (VW t):=by
 unfold VW;rw[cs_append,Zf,not_or];exact⟨BV t,fun h=>(PyProof.Rows.intText_free_46 _).mp h⟩
theorem kH (t:Th):(VW t).length<=100:=by
 unfold VW;have h1:=BN (n:=(dg t.sp).toNat) (by have:=Iv t.sp;omega);rw[len_append,X8];omega
theorem KH (t:Th):Em t.letter=true:=by
 rw[qB,qS];intro c hc;rw[QV.mp hc];cases t
 ·show 76<1114112;decide
 ·show 84<1114112;decide
 ·show 78<1114112;decide
theorem X0:∀{ls:Da},(∀l∈ls,Em l=true)->yY (ls.map .str)=true/\xR (ls.map .str)=0
 |[],_=>⟨rfl,rfl⟩
 |l::ls,h=>by
  obtain⟨h1,h2⟩:=X0 fun x hx=>h x (QY _ hx);refine⟨?_,?_⟩
  ·show(Em l&&yY (ls.map .str))=true;rw[h l Q1,h1];rfl
  ·show max 0 (xR (ls.map .str))=0;rw[h2];rfl
theorem B1:∀{rs:Dg},(∀p∈z5 rs,Em p=true)->yY (rs.map rowDat)=true/\xR (rs.map rowDat)<=1
 |[],_=>⟨rfl,Zz _⟩
 |(x,y)::rs,h=>by
  obtain⟨h1,h2⟩:=B1 (rs:=rs) fun p hp=>h p (QY _ (QY _ hp));refine⟨?_,?_⟩
  ·show((Em x&&(Em y&&true))&&yY (rs.map rowDat))=true;rw[h x Q1,h y (QY _ Q1),h1];rfl
  ·show max (max 0 (max 0 0)+1) (xR (rs.map rowDat))<=1;omega
theorem uZ {t:Th}(g:t.Good):UG t.dat:=by
 have hs:∀p∈t.parts,Em p=true:=fun p hp=>(g.2 p hp).ok;cases t with
 |leaf ls =>
  obtain⟨h1,h2⟩:=X0 (ls:=ls) hs;refine⟨?_,?_⟩
  ·show(Em "leaf"&&(yY (ls.map .str)&&true))=true;rw[h1];decide +kernel
  ·show max 0 (max (xR (ls.map .str)+1) 0)+1<=6;rw[h2];decide
 |tree rs =>
  obtain⟨h1,h2⟩:=B1 (rs:=rs) hs;refine⟨?_,?_⟩
  ·show(Em "tree"&&(yY (rs.map rowDat)&&true))=true;rw[h1];decide +kernel
  ·show max 0 (max (xR (rs.map rowDat)+1) 0)+1<=6;omega
 |note x ps y =>
  have p1:∀p∈ps,Em p=true:=fun p hp=>hs p (by show p∈[x,dig ps.length]++ps++[y];simp[hp]);have p2:Em x=true:=hs x (by show x∈[x,dig ps.length]++ps++[y];simp);have p3:Em y=true:=hs y (by show y∈[x,dig ps.length]++ps++[y];simp);obtain⟨h1,h2⟩:=X0 p1;refine⟨?_,?_⟩
  ·show(Em "note"&&(Em x&&(yY (ps.map .str)&&(Em y&&true))))=true;rw[h1,p2,p3];decide +kernel
  ·show max 0 (max 0 (max (xR (ps.map .str)+1) (max 0 0)))+1<=6;rw[h2];decide
theorem uM {a b:Th}(h:a.dat=b.dat):a=b:=(Hj a b).mp (by
 rw[h];exact(Hj b b).mpr rfl)
def Hq (e:En):Prop:=∃t:Th,e.d=t.dat/\t.Good/\e.h=VW t
def Kc (e:En):Str:=match e.d with|.tuple (.str x::_)=>x|_=>""
theorem N5 (t:Th)(h:Str)(n:Nat):Kc ⟨h,n,t.dat⟩=t.word:=by cases t<;>rfl
theorem Xb {e:En}{t:Th}(h:e.d=t.dat):Kc e=t.word:=by
 obtain⟨a,b,c⟩:=e;have h:c=t.dat:=h;subst h;exact N5 t a b
def yG (S:Di)(x:Str)(ws:Da):Bool:=S.any fun e=>decide (e.nm=x)&&decide (Kc e∈ws)
def namesOk (S:Di):Th->Bool
 | .leaf _=>true
 | .tree Do=>Do.all fun r=>yG S r.2 ["leaf","tree"]
 | .note t ps _=>yG S t ["tree"]&&ps.all fun p=>yG S p ["note"]
theorem Om (g:GoodS S){e:En}(he:e∈S)(ws:Da):yG S e.nm ws=decide (Kc e∈ws):=by
 unfold yG;rw[Z8,Z2,Zt];constructor
 ·rintro⟨f,hf,h⟩;rw[Q8,Zt,Zt]at h;obtain⟨i,hi,ei⟩:=ZJ.mp he;obtain⟨j,hj,ej⟩:=ZJ.mp hf;have:i=j:=by
   have hp:=Y6.mp g.nn
   rcases JS i j with z|z|z
   ·exact absurd (by rw[ZF,ZF,ei,ej];exact h.1.symm) (hp i j (by rwa[QU]) (by rwa[QU]) z)
   ·exact z
   ·exact absurd (by rw[ZF,ZF,ei,ej];exact h.1) (hp j i (by rwa[QU]) (by rwa[QU]) z)
  subst this;rw[←ei,ej];exact h.2
 ·intro h;exact⟨e,he,by rw[QX rfl,QX h];rfl⟩
theorem MG {S:Di}{x:Str}(h:x∉S.map En.nm)(ws:Da):yG S x ws=false:=by
 unfold yG;rw[JO];intro e he z;rw[Q8,Zt]at z;exact h (QZ.mpr ⟨e,he,z.1⟩)
end An
namespace AxS
open PySem PySem.Spec PyProof.Rows
theorem U9 (t:Ll)(n:Nat):(t.orStandIn n).led=t.led/\(t.plain=false->(t.orStandIn n).plain=false):=by
 unfold SetTable.orStandIn
 split
 ·exact⟨rfl,id⟩
 ·exact⟨rfl,fun _=>rfl⟩
theorem GG (t:Ll)(es:Array (Int×Eg))(h:Int)(x:Eg):(layNew t es h x).2.1.led=t.led/\(t.plain=false->(layNew t es h x).2.1.plain=false):=by
 unfold layNew
 split
 ·rename_i slot wd _;have m:=U9 (t.put slot).1 (SetTable.insertAt es (t.put slot).2 (h,x)).size;exact⟨m.1,m.2⟩
 ·exact⟨rfl,fun _=>rfl⟩
theorem FB {mask finger moves:Nat}{led plain:Bool}{hs:Array Int}{t:Ll}{o:Array Nat}(h:SetTable.laid mask finger moves led plain hs=some (t,o)):t.led=led/\t.plain=plain:=by
 unfold SetTable.laid at h;simp only[Option.bind_eq_bind,Option.bind_eq_some_iff,Option.pure_def,Option.some.injEq,Prod.mk.injEq]at h;obtain⟨_,_,h,_⟩:=h;rw[←h];exact⟨rfl,rfl⟩
theorem XO (t:Ll)(es:Array (Int×Eg))(n:Nat):(relayAll t es n).2.1.led=t.led/\(t.plain=false->(relayAll t es n).2.1.plain=false):=by
 unfold relayAll
 split
 ·rename_i t' order he;have m:=FB he;dsimp only
  split
  ·exact⟨m.1,fun z=>m.2.trans z⟩
  ·exact⟨rfl,fun _=>rfl⟩
 ·exact⟨rfl,fun _=>rfl⟩
def keyOf (e:Int×Eg):Str:=match e.2 with
 | .str k _=>k
 |_=>""
def K9 (prog:Ei)(w:Eo)(es:Array (Int×Eg))(t:Ll)(ks:Da):Prop :=
 ElemsOf (strKind prog w) es.toList/\(es.toList.map keyOf).Perm ks/\es.size<Mi/\t.fits es.size=true/\t.led=!(w.params.followText "set-order")/\(es.size≠0->t.plain=false)
def TxSet (prog:Ei)(w:Eo)(h:EC)(a:Eh)(ks:Da):Prop:=∃o es ep t,h.get? a=some o/\o.ExactSet/\o.data=.set es ep t/\K9 prog w es t ks
section
variable {prog:Ei}{w:Eo}{A:EF}{E:Eg->Dh}{s:Ej}
theorem TxSet.at {h':EC}(x:TxSet prog w h a ks)(e:∀o,h.get? a=some o->h'.get? a=some o):TxSet prog w h' a ks:=by
 obtain⟨o,es,ep,t,ho,r⟩:=x;exact⟨o,es,ep,t,e _ ho,r⟩
theorem key_is {es:Array (Int×Eg)}(h:ElemsOf (strKind prog w) es.toList){e:Int×Eg}(he:e∈es.toList)(k:Str):(strKind prog w).is k e.2=true↔keyOf e=k:=by
 obtain⟨⟨k',hk',_⟩,_⟩:=h e he;obtain⟨t,et⟩:=YQ hk';have ek:keyOf e=k':=by unfold keyOf;rw[et]
 constructor
 ·intro z;rw[ek];exact(strKind prog w).inj e.2 k' k hk' z
 ·intro z;rwa[←z,ek]
theorem B3 {es:Array (Int×Eg)}{ks:Da}(h:ElemsOf (strKind prog w) es.toList)(p:(es.toList.map keyOf).Perm ks)(k:Str):k∈ks↔∃e∈es.toList,(strKind prog w).is k e.2=true:=by
 rw[←p.mem_iff,QZ];exact⟨fun⟨e,he,z⟩=>⟨e,he,(key_is h he k).mpr z⟩,fun⟨e,he,z⟩=>⟨e,he,(key_is h he k).mp z⟩⟩
theorem F7 {es:Array (Int×Eg)}{t:Ll}{ks:Da}(x:K9 prog w es t ks):es.size=ks.length:=by
 rw[←x.2.1.length_eq,QU,ZA]
theorem RJ {k:Str}{tk:Tok}{Q:Bool->Dh}(hS:TxSet prog w s.heap a ks)(hroom:ks.length+1<Mi)
  (h:∀h' r,Lb a s.heap h'->TxSet prog w h' a (if k∈ks then ks else ks++[k])->Q r { s with heap:=h' }) :
  Ek (Es prog w) A (setAddHashed a (.str k tk) (hashStr w k)) Q E s:=by
 obtain⟨o,es,ep,t,ho,hex,hd,X⟩:=hS;have Dq:=F7 X;obtain⟨hel,hp,hb,hf,hled,hpl⟩:=X;have D8:(strKind prog w).is k (.str k tk)=true:=by show E2 k (.str k tk)=true;simp[E2]
 have hsc:(L6 k tk).scannable=true:=rfl;have hh:hashStr w k=(strKind prog w).hash k:=rfl;rw[hh];unfold setAddHashed setAddHashedIn;refine Yr (QW (Ja ho hd hf ?_));dsimp only;rw[byScan_of (knd:=strKind prog w) hsc hb hel];simp only[↓reduceIte];unfold setAddByScan;refine QW (QW (J4 (QW (wpAny_setScan_of (knd:=strKind prog w) D8 ho hd hf hel ?_))));cases hr:List.findIdx? (fun e=>(strKind prog w).is k e.2) es.toList with
 |some j =>
  obtain⟨hj,hpj,_⟩:=List.findIdx?_eq_some_iff_getElem.mp hr;have hk:k∈ks:=(B3 hel hp k).mpr ⟨es.toList[j],ZV hj,hpj⟩;have:=h s.heap false (Heap.SameBut.refl a s.heap) (by rw[Zk hk];exact⟨o,es,ep,t,ho,hex,hd,hel,hp,hb,hf,hled,hpl⟩);exact Q3 (Q3 this)
 |none =>
  have hk:k∉ks:=fun z=>by
   obtain⟨e,he,q⟩:=(B3 hel hp k).mp z;have:=List.findIdx?_eq_none_iff.mp hr e he;rw[q]at this;cases this
  rw[Zh hk]at h;have hgw:∀(b:Bool) {s₁:Ej} {Q':Unit->Dh},Q' () s₁->Ek (Es prog w) A (match b with|true=>rule "set.scan.the-table-gave-way"|false=>Ly ()) Q' E s₁:=by
   intro b s₁ Q' hq;cases b
   ·exact Q3 hq
   ·exact J4 hq
  have hperm:=layNew_perm t es ((strKind prog w).hash k) (.str k tk);have hfits:=layNew_fits t es ((strKind prog w).hash k) (.str k tk);have hmk:=GG t es ((strKind prog w).hash k) (.str k tk);dsimp only;generalize layNew t es ((strKind prog w).hash k) (.str k tk)=L at hperm hfits hmk ⊢;obtain⟨es1,t1,wd,gave⟩:=L;dsimp only at hperm hfits hmk ⊢;rw[Array.toList_push]at hperm;have hsz:es1.size=es.size+1:=by rw[←ZA,hperm.length_eq,Q4,ZA];rfl
  have hel1:ElemsOf (strKind prog w) es1.toList:=(hel.push D8 hsc).perm hperm;have hp1:(es1.toList.map keyOf).Perm (ks++[k]):=by
   refine(hperm.map keyOf).trans ?_;rw[Q6];exact hp.append (List.Perm.refl _)
  have hb1:es1.size<scanBound:=by omega
  refine QW (hgw _ ?_);have tail:∀(t2:Ll),t2.fits es1.size=true->t2.led=t.led->t2.plain=false->Ek (Es prog w) A (do
    storeSet a es1 t2
    if(!wd&&t2.tooFull)=true then do
      (match(relayAll t2 es1 (Lu es1.size)).2.2 with|true=>rule "set.scan.the-table-gave-way"|false=>Ly ())
      storeSet a (relayAll t2 es1 (Lu es1.size)).1 (relayAll t2 es1 (Lu es1.size)).2.1
      Ly (some true)
     else Ly (some true)) (fun r s'=>r=some true/\Q true s') E s:=by
   intro t2 hf2 hl2 hp2;refine QW (wpAny_storeSet_of ho hd ?_ (fits_of_scanBound hb1));have sb1:=EV s.heap a (Mm es1 t2);have ho1:(s.heap.update a (Mm es1 t2)).get? a=some { o with data:=.set es1 (ep+1) t2 }:=by
    have:=ZY (Mm es1 t2) ho (by rw[putSet_of es1 t2 hd];rfl);rw[putSet_of es1 t2 hd]at this;exact this
   split
   ·have hpR:=relayAll_perm t2 es1 (Lu es1.size);have hfR:=relayAll_fits t2 es1 (Lu es1.size);have hmR:=XO t2 es1 (Lu es1.size);generalize relayAll t2 es1 (Lu es1.size)=Rl at hpR hfR hmR ⊢;obtain⟨es2,t3,gv⟩:=Rl;dsimp only at hpR hfR hmR ⊢;have hsz2:es2.size=es1.size:=by rw[←ZA,hpR.length_eq,ZA]
    refine QW (hgw _ (QW (wpAny_storeSet_of ho1 rfl ?_ (fits_of_scanBound (by omega)))));have ho2:((s.heap.update a (Mm es1 t2)).update a (Mm es2 t3)).get? a=some { o with data:=.set es2 (ep+1+1) t3 }:=by
     have:=ZY (Mm es2 t3) ho1 (by rw[putSet_of es2 t3 rfl];rfl);rw[putSet_of es2 t3 rfl]at this;exact this
    exact Q3 ⟨rfl,h _ true (sb1.trans (EV _ a _)) ⟨_,es2,_,t3,ho2,hex,rfl,hel1.perm hpR,((hpR.map keyOf)).trans hp1,by omega,hfR,hmR.1.trans (hl2.trans hled),fun _=>hmR.2 hp2⟩⟩
   ·exact Q3 ⟨rfl,h _ true sb1 ⟨_,es1,_,t2,ho1,hex,rfl,hel1,hp1,hb1,hf2,hl2.trans hled,fun _=>hp2⟩⟩
  split
  ·refine QW ?_;rw[hashByValue_scannable 8 hsc];refine Q3 ?_;refine Yd (tail { t1 with plain:=false } (SetTable.fits_plain_off hfits) hmk.1 rfl) (fun r s' q=>?_) fun _ _ z=>z;obtain⟨rfl,q⟩:=q;exact Q3 q
  ·rename_i hpf;refine QW (Q3 ?_);simp only[↓reduceIte];refine Yd (tail t1 hfits hmk.1 (by simpa using hpf)) (fun r s' q=>?_) fun _ _ z=>z;obtain⟨rfl,q⟩:=q;exact Q3 q
def step (ks:Da)(k:Str):Da:=if k∈ks then ks else ks++[k]
def uniq (xs:Da):Da:=xs.foldl step []
theorem Gs (xs:Da)(k:Str):uniq (xs++[k])=step (uniq xs) k:=by unfold uniq;rw[Z5];rfl
theorem NX (ks:Da)(k:Str):(step ks k).length<=ks.length+1:=by unfold step;split<;>simp
theorem uniq_len:∀(n:Nat) (xs:Da),xs.length=n->(uniq xs).length<=n
 | 0,xs,h=>by rw[YI h];exact Q2 _
 |n+1,xs,h=>by
  have hne:xs≠[]:=fun z=>by rw[z]at h;cases h
  rw[←Ve hne,Gs];have:=uniq_len n xs.dropLast (by rw[List.length_dropLast];omega);have:=NX (uniq xs.dropLast) (xs.getLast hne);omega
theorem K4 {xs:Da}{i:Nat}{k:Str}(h:xs[i]?=some k):uniq (xs.take (i+1))=if k∈uniq (xs.take i) then uniq (xs.take i) else uniq (xs.take i)++[k]:=by
 have e:xs.take (i+1)=xs.take i++[k]:=by rw[Z4,h];rfl
 rw[e,Gs];rfl
end
section
variable {prog:Ei}{w:Eo}{A:EF}{R:Result->Dh}{I:Eh}{fp wr:Dd}{G:Array GenState->Array GenState->Prop}{n:Nat}{P:Nat->Eg->Prop}{St:Nat->Dh}
theorem Ka (W:WalksS prog w A.in1 I fp wr G n P St)(S:Eh)(hSf:S∉fp)(xs:Da)(hn:xs.length=n)(hval:∀i v,P i v->∃k t,xs[i]?=some k/\v=.str k t)(hb:n+1<Mi) :
  ∀(m i:Nat) (s:Ej),n-i=m->i<=n->St i s->TxSet prog w s.heap S (uniq (xs.take i)) ->
   (∀s',Moved (S::wr) G s s'->TxSet prog w s'.heap S (uniq xs)->R (.ok (.ret .none)) s')->LR (Es prog w) A (.builtin "set.update.loop" ⟨[.ref S,.ref I],[]⟩) R s:=by
 have hSw:S∉wr:=fun h=>hSf (W.sub _ h);have hsub:∀b∈wr,b∈S::wr:=fun b hb=>QY _ hb;intro m
 induction m with
 |zero =>
  intro i s hk hi hst hS hR;have hin:i=n:=by omega
  subst hin;refine YO JC ?_;rw[Ln YS _];show Ek _ A.in1 (Ma (.ref I)>>=_) _ _ s;refine QW (W.done s _ _ hst fun s' hm=>?_);show Ek _ A.in1 (ret EG) _ _ s';rw[←hn,Zq]at hS;exact Q3 (hR s' (hm.mono hsub) (hS.at fun o e=>hm.heap S _ hSw e))
 |succ m ih =>
  intro i s hk hi hst hS hR;have hlt:i<n:=by omega
  refine YO JC ?_;rw[Ln YS _];show Ek _ A.in1 (Ma (.ref I)>>=_) _ _ s;refine QW (W.item i s _ _ hlt hst fun v s' hP hst' hm=>?_);obtain⟨k,t,hxk,rfl⟩:=hval i v hP;have hS':=hS.at (h':=s'.heap) fun o e=>hm.heap S _ hSw e;show Ek _ A.in1 (Mn [L6 k t] (setAdd S (.str k t))>>=_) _ _ s';refine QW (Yr ?_);unfold setAdd;refine Yr ?_;refine QW ((strKind prog w).pyHash (k:=k) (by show E2 k (.str k t)=true;simp[E2]) ?_);have hl:=uniq_len _ (xs.take i) rfl;rw[Zm]at hl;refine RJ (s:={ s' with toks:=s'.toks+1 }) hS' (by omega) fun h' r hsb hS2=>?_;rw[←K4 hxk]at hS2;refine Q3 ⟨Vs YS _,ih (i+1) _ (by omega) hlt (W.frame _ s' _ _ hst' (Jm _) fun b hb o e=>?_) hS2 fun s'' hm'' hS''=>?_⟩
  ·rw[hsb.2 b (fun h:b=S=>hSf (by rwa[←h]))];exact e
  ·refine hR s'' (Moved.trans W.gtrans ((hm.mono hsub).then_heap (Jm _) fun b o hb e=>?_) hm'') hS'';rw[hsb.2 b (fun h:b=S=>hb (by rw[h];exact Q1))];exact e
end
section
variable {prog:Ei}{w:Eo}{A:EF}{E:Eg->Dh}{s:Ej}
def zW (w:Eo):Obj:={ cls:=.type "set",dict:=none,data:=.set #[] 0 (.fresh 0 0 (!(w.params.followText "set-order"))) }
theorem Fe {h:EC}{a:Eh}{xs:Da}(e:h.get? a=some (zW w)):TxSet prog w h a (uniq (xs.take 0)) :=
 ⟨_,#[],0,_,e,⟨rfl,rfl,rfl⟩,rfl,fun _ z=>by simp at z,List.Perm.refl _,by decide,by rfl,rfl,fun z=>absurd rfl z⟩
theorem HL (a:Eg){Q₁:Eg->Dh}(h:Q₁ (.ref s.heap.objs.size) { s with heap:=s.heap.push (zW w) }) :
  LR (Es prog w) A (.call (.builtin "set.__new__") ⟨[.type "set",a],[]⟩) (wants Q₁ E) s:=by
 refine VE ?_;show Ek _ A.in1 (do checkBuiltinCall "set.__new__" ⟨[.type "set",a],[]⟩;again (.builtin "set.__new__" ⟨[.type "set",a],[]⟩)) _ _ s;refine QW (Jw (F.newCall_set_1 a) (Q3 ⟨Vs F.plain_set_new _,YO F.entry_set_new ?_⟩));rw[Ln F.plain_set_new _];unfold Builtin.«set.__new__» Builtin.Frozenset.newClass;have hsub:=sub_set_self;obtain⟨hp,g,d,tk,os⟩:=s;dsimp only
 wp_walk
 refine Jj (Q3 ?_);dsimp only;simp only[newObj];refine QW (wpAny_alloc (Q3 ?_));exact Q3 h
theorem sub_list_set:isSubtype (.type "list") (.type "set")=Ly false:=by rw[Jk];kernel_rfl
theorem sub_list_frozenset:isSubtype (.type "list") (.type "frozenset")=Ly false:=by rw[Jk];kernel_rfl
theorem sub_tuple_set:isSubtype (.type "tuple") (.type "set")=Ly false:=by rw[Jk];kernel_rfl
theorem sub_tuple_frozenset:isSubtype (.type "tuple") (.type "frozenset")=Ly false:=by rw[Jk];kernel_rfl
end
section
variable {M:Model}{A:EF}{E:Eg->Dh}{s:Ej}
theorem GS {src:Source}{n:Nat}{Q:Nat->Dh}(hn:n≠0)(h:∀i,i<n->Q i { s with drawn:=s.drawn.bump src }):Ek M A (choose src n) Q E s :=
 fun Γ p _=>⟨hn,h _ (Nat.mod_lt _ (Nat.pos_of_ne_zero hn))⟩
theorem Ia {α:Type}{xs:List α}{i:Nat}{x:α}(h:xs[i]?=some x):(x::xs.eraseIdx i).Perm xs:=by
 induction xs generalizing i with
 |nil=>cases h
 |cons y ys ih =>
  cases i with
  |zero =>
   have h:y=x:=Option.some.inj h;subst h;exact List.Perm.refl _
  |succ i =>
   have h:ys[i]?=some x:=by simpa using h
   show(x::y::ys.eraseIdx i).Perm (y::ys);exact(List.Perm.swap y x _).trans (List.Perm.cons y (ih h))
theorem jJ {α:Type}:∀(n:Nat) (xs:List α) (s:Ej) {Q:List α->Dh},xs.length<=n->(∀ys d,ys.Perm xs->Q ys { s with drawn:=d })->Ek M A (drawOrder n xs) Q E s
 | 0,xs,s,Q,hl,h=>by
  have e:xs=[]:=YI (by omega);subst e;exact Q3 (h [] s.drawn (List.Perm.refl _))
 |n+1,[],s,Q,hl,h=>Q3 (h [] s.drawn (List.Perm.refl _))
 |n+1,x::xs,s,Q,hl,h=>by
  refine QW (GS (by simp) fun i hi=>?_);have hx:(x::xs)[i]?=some ((x::xs)[i]):=Q5 hi;have hp:=Ia hx;show Ek M A (match(x::xs)[i]? with|some x_1=>_|none=>_) Q E _;rw[hx];refine QW (jJ n _ _ (by rw[List.length_eraseIdx_of_lt hi];simp at hl ⊢;omega) fun ys d hy=>?_);exact Q3 (h _ d ((List.Perm.cons _ hy).trans hp))
theorem HD {α:Type}(next:Nat->Nat):∀(fuel k:Nat) (left:List α) (out:Array α),left.length=fuel->(pickOrder.go next fuel k left out).toList.Perm (out.toList++left)
 | 0,k,left,out,h=>by
  rw[YI h,Zy];exact List.Perm.refl _
 |fuel+1,k,left,out,h=>by
  unfold pickOrder.go;have hlt:next k % left.length<left.length:=Nat.mod_lt _ (by omega);have hx:left[next k % left.length]?=some (left[next k % left.length]):=Q5 hlt;rw[hx];refine(HD next fuel (k+1) _ _ (by rw[List.length_eraseIdx_of_lt hlt];omega)).trans ?_;rw[Array.toList_push,Z6];exact List.Perm.append_left _ (Ia hx)
theorem UM {α:Type}(next:Nat->Nat)(xs:Array α):(LY next xs).toList.Perm xs.toList:=by
 have:=HD next xs.size 0 xs.toList #[] (by simp);simpa[LY] using this
end
section
variable {prog:Ei}{w:Eo}{A:EF}{E:Eg->Dh}{s:Ej}
def byText (w:Eo):Bool:=w.params.followText "set-order"
theorem XF {a:Eh}{o:Obj}{es:Array (Int×Eg)}{ep:Nat}{t:Ll}{Q:Bool->Dh}(ho:s.heap.get? a=some o)(hd:o.data=.set es ep t)(hf:t.fits es.size=true)
  (h:Q (!byText w&&(!t.plain&&decide (es.size>1))) s):Ek (Es prog w) A (setDrawn a) Q E s:=by
 unfold setDrawn setsByText;refine QW (Ja ho hd hf ?_);refine QW (QW (Jj (Q3 ?_)));exact Q3 h
theorem Fr:entryFor table "set.__iter__"=some Builtin.«frozenset.__iter__» :=
 entryFor_alias (id':="frozenset.__iter__") (by kernel_rfl) (by first|rfl|decide +kernel|(unfold String.splitOn;simp +decide [String.splitOnAux])) (by decide +kernel) (by kernel_rfl)
theorem Bw:Manifest.owners.lookup (String.ofList ['r','o','t','a','r','e','t','i','_','t','e','s'].reverse)=some Manifest.sig_set_iterator:=by kernel_rfl
theorem slot_next:Slot "set_iterator" "__next__" "set_iterator.__next__" :=
 .of (owner:="set_iterator") (n:="__next__") (by rw[typeLookup_type,builtinLookup_eq_fast];kernel_rfl) (by decide +kernel) (by decide +kernel) (by decide +kernel)
  (by first|exact .inl (by decide +kernel)|exact .inr (by decide +kernel)) (by rw[Jk];kernel_rfl)
theorem entry_next:entryFor table "set_iterator.__next__"=some Builtin.«set_iterator.__next__»:=entryFor_of_tree (by kernel_rfl)
theorem args_next (a:Eg):argsOk "set_iterator.__next__" ⟨[a],[]⟩:=by
 unfold argsOk;rw[signature?_of (id:="set_iterator.__next__") (n:=['_','_','t','x','e','n','_','_']) (o:=['r','o','t','a','r','e','t','i','_','t','e','s']) (by kernel_rfl) Bw];kernel_rfl
theorem U1:Slot "set_iterator" "__iter__" "set_iterator.__iter__" :=
 .of (owner:="set_iterator") (n:="__iter__") (by rw[typeLookup_type,builtinLookup_eq_fast];kernel_rfl) (by decide +kernel) (by decide +kernel) (by decide +kernel)
  (by first|exact .inl (by decide +kernel)|exact .inr (by decide +kernel)) (by rw[Jk];kernel_rfl)
theorem B2 (a:Eg):argsOk "set_iterator.__iter__" ⟨[a],[]⟩:=by
 unfold argsOk;rw[signature?_of (id:="set_iterator.__iter__") (n:=['_','_','r','e','t','i','_','_']) (o:=['r','o','t','a','r','e','t','i','_','t','e','s']) (by kernel_rfl) Bw];kernel_rfl
theorem GR:entryFor table "set_iterator.__iter__"=some Builtin.«dict_keyiterator.__iter__» :=
 entryFor_alias (id':="dict_keyiterator.__iter__") (by kernel_rfl) (by first|rfl|decide +kernel|(unfold String.splitOn;simp +decide [String.splitOnAux])) (by decide +kernel) (by kernel_rfl)
def Ht (first:Eg)(i:Int)(a:Eh)(n ep:Nat):Obj:={ cls:=.type "set_iterator",data:=.fields #[first,EW i,.ref a,EW n,EW ep] }
theorem MM {a:Eh}{o:Obj}{es:Array (Int×Eg)}{ep:Nat}{t:Ll}{Q:Eg->Dh}(ho:s.heap.get? a=some o)(hx:o.ExactSet)(hd:o.data=.set es ep t)(hf:t.fits es.size=true)(hz:es.size<=1000)
  (h1:(!byText w&&(!t.plain&&decide (es.size>1)))=false->Q (.ref s.heap.objs.size) { s with heap:=s.heap.push (Ht (EW 0) 0 a es.size ep) })
  (h2:(!byText w&&(!t.plain&&decide (es.size>1)))=true->∀(ps:List Nat) d tk,ps.Perm (EA es.size)->Q (.ref (s.heap.objs.size+1)) { s with heap:=(s.heap.push { cls:=.type "tuple",data:=.seq (ps.map fun i=>EW (i:Nat)).toArray }).push (Ht (.ref s.heap.objs.size) 0 a es.size ep),drawn:=d,toks:=tk }) :
  Ek (Es prog w) A (pyIter (.ref a)) Q E s:=by
 have hT:s.TypeIs (.ref a) "set":=⟨o,ho,hx.1⟩;refine wpAny_pyIter_slot hT PySem.F.slot_set_iter (Ya PySem.F.slot_set_iter hT Fr ?_ (PySem.F.args_set_iter_1 _));unfold Builtin.«frozenset.__iter__»;refine QW (m:=Builtin.Frozenset.slot0 _ _) (Jw (a:=a) rfl ?_);unfold Builtin.Frozenset.sizeOf;refine QW (QW (Jf ho hd hf (Q3 ?_)));refine QW (XF ho hd hf ?_);cases q:(!byText w&&(!t.plain&&decide (es.size>1))) with
 |false =>
  rw[Zh (by decide)];refine QW (Q3 (QW (wpAny_setEpoch_of ho hd hf ?_)));simp only[newFields];refine QW (ZR ?_);exact Q3 ⟨_,rfl,"set_iterator",_,⟨_,Ze _ rfl,rfl⟩,slot_next.lookup,h1 q⟩
 |true =>
  rw[Zk rfl];refine QW (jJ es.size (EA es.size) s (by rw[Yq];exact Q2 _) fun ps d hp=>?_);have pl:ps.length=es.size:=by rw[hp.length_eq,Yq]
  simp only[newTuple];refine QW (ZR ?_ ?_)
  ·have ho':(s.heap.push { cls:=.type "tuple",data:=.seq (ps.map fun i=>EW (i:Nat)).toArray }).get? a=some o:=Q0 _ ho;refine QW (wpAny_setEpoch_of (s:={ s with heap:=s.heap.push { cls:=.type "tuple",data:=.seq (ps.map fun i=>EW (i:Nat)).toArray },drawn:=d }) ho' hd hf ?_);simp only[newFields];refine QW (ZR ?_);have e:(s.heap.push { cls:=.type "tuple",data:=.seq (ps.map fun i=>EW (i:Nat)).toArray }).objs.size=s.heap.objs.size+1:=Yk _ _;refine Q3 ⟨_,rfl,"set_iterator",_,⟨_,Ze _ rfl,rfl⟩,slot_next.lookup,?_⟩;have:=h2 q ps d s.toks hp;rw[←e]at this;exact this
  ·show(ps.map fun i=>EW (i:Nat)).toArray.size<=sizeLine;rw[Zg,QU,pl,Yj];omega
theorem qA {it:Eh}(h:s.heap.get? it=some (Ht f i a n ep)):s.TypeIs (.ref it) "set_iterator":=⟨_,h,rfl⟩
theorem Gy {it a:Eh}{o:Obj}{es:Array (Int×Eg)}{ep:Nat}{t:Ll}{slot i DZ:Nat}{x:Eg}{Q:Dc->Dh}(hit:s.heap.get? it=some (Ht (EW slot) i a es.size ep))(hne:a≠it)(ho:s.heap.get? a=some o)(hd:o.data=.set es ep t)(hf:t.fits es.size=true)
  (hn:∀(A:EF) (E:Eg->Dh) (Q:Option (Eg×Nat)->Dh),Q (some (x,DZ)) s->Ek (Es prog w) A (setNext a slot i ep) Q E s)
  (h:∀h',h'.get? it=some (Ht (EW DZ) (i+1) a es.size ep)->Lb it s.heap h'->Q (some x) { s with heap:=h' }):Ek (Es prog w) A (Ma (.ref it)) Q E s:=by
 unfold Ma;refine QW (JE (Yu (name:=ES "__next__") (qA hit) slot_next (Ya slot_next (qA hit) entry_next ?_ (args_next _))))
 unfold Builtin.«set_iterator.__next__»;refine QW (Jw (a:=(Ew it,[])) rfl ?_);refine QW (Vl hit rfl ?_);show Ek _ _ (setEntries a>>=_) _ _ s;refine QW (Jf ho hd hf ?_);have e1:(((es.size:Nat):Int) !=((es.size:Nat):Int))=false:=by simp
 rw[Zh (by rw[e1];decide)];show Ek _ _ (setNext a slot i ep>>=_) _ _ s;refine QW (hn _ _ _ ?_);show Ek _ _ (setField (.ref it) 0 (EW DZ)>>=_) _ _ s;refine QW (YH hit rfl (by simp) ?_);have h1:=ZY (LA (·.setIfInBounds 0 (EW (DZ:Nat)))) hit rfl;refine QW (YH h1 rfl (by simp) ?_);have h2:=ZY (LA (·.setIfInBounds 1 (EW ((i:Int)+1)))) h1 rfl;exact Q3 ⟨x,rfl,Q3 (h _ h2 ((EV ..).trans (EV ..)))⟩
theorem kU {it a:Eh}{o:Obj}{es:Array (Int×Eg)}{ep:Nat}{t:Ll}{slot i:Nat}{Q:Dc->Dh}(hh:A.handled=none)(hit:s.heap.get? it=some (Ht (EW slot) i a es.size ep))(ho:s.heap.get? a=some o)(hd:o.data=.set es ep t)(hf:t.fits es.size=true)
  (hn:∀(A:EF) (E:Eg->Dh) (Q:Option (Eg×Nat)->Dh),Q none s->Ek (Es prog w) A (setNext a slot i ep) Q E s)
  (h:∀h',Heap.ExtBut it s.heap h'->Q none { s with heap:=h' }):Ek (Es prog w) A (Ma (.ref it)) Q E s:=by
 unfold Ma;refine QW (JE (Yu (name:=ES "__next__") (qA hit) slot_next (Ya slot_next (qA hit) entry_next ?_ (args_next _))))
 unfold Builtin.«set_iterator.__next__»;refine QW (Jw (a:=(Ew it,[])) rfl ?_);refine QW (Vl hit rfl ?_);show Ek _ _ (setEntries a>>=_) _ _ s;refine QW (Jf ho hd hf ?_);have e1:(((es.size:Nat):Int) !=((es.size:Nat):Int))=false:=by simp
 rw[Zh (by rw[e1];decide)];show Ek _ _ (setNext a slot i ep>>=_) _ _ s;refine QW (hn _ _ _ ?_);show Ek _ _ (setField (.ref it) 2 .none>>=_) _ _ s;refine QW (YH hit rfl (by simp) ?_);refine QW ?_;simp only[newExc,newTuple];refine QW (ZR ?_ (by size_fits));refine QW (m:=firstArgMember _ _) (Jw (a:=EG) (by first|rfl|(simp only[firstArgMember];rfl)) ?_);refine ZR ?_ (by size_fits);simp only[raiseNew];refine QW (wpAny_handled ?_)
 first|rw[show A.in1.handled=none from hh]|rw[hh]
 refine QW (Q3 (wpAny_throw ?_));refine QW (JA (T:="StopIteration") (b:=true) ⟨_,Ze _ rfl,rfl⟩ isSubtype_stop ?_);refine Q3 (h _ ?_);refine((Heap.ExtBut.push ?_ _).push _);exact(EV ..).extBut
def Pb (ps:List Nat):Obj:={ cls:=.type "tuple",data:=.seq (ps.map fun i=>EW (i:Nat)).toArray }
theorem FI {it a u:Eh}{o:Obj}{es:Array (Int×Eg)}{ep:Nat}{t:Ll}{i p:Nat}{ps:List Nat}{e:Int×Eg}{Q:Dc->Dh}(hit:s.heap.get? it=some (Ht (.ref u) i a es.size ep))(hu:s.heap.get? u=some (Pb ps))(ho:s.heap.get? a=some o)(hd:o.data=.set es ep t)(hf:t.fits es.size=true)
  (hp:ps[i]?=some p) (he:es[p]?=some e) (h:∀h',h'.get? it=some (Ht (.ref u) (i+1) a es.size ep)->Lb it s.heap h'->Q (some e.2) { s with heap:=h' }):Ek (Es prog w) A (Ma (.ref it)) Q E s:=by
 unfold Ma;refine QW (JE (Yu (name:=ES "__next__") (qA hit) slot_next (Ya slot_next (qA hit) entry_next ?_ (args_next _))))
 unfold Builtin.«set_iterator.__next__»;refine QW (Jw (a:=(Ew it,[])) rfl ?_);refine QW (Vl hit rfl ?_);show Ek _ _ (setEntries a>>=_) _ _ s;refine QW (Jf ho hd hf ?_);have e1:(((es.size:Nat):Int) !=((es.size:Nat):Int))=false:=by simp
 rw[Zh (by rw[e1];decide)];show Ek _ _ (seqItems? (.ref u)>>=_) _ _ s;refine QW (wpAny_seqItems hu rfl ?_);have hpi:(ps.map fun i=>EW ((i:Nat):Int)).toArray[i]?=some (EW (p:Nat)):=by
  rw[JY,Za,hp];rfl
 show Ek _ _ (match(ps.map fun i=>EW ((i:Nat):Int)).toArray[i]? with|some (.int place _)=>_|some _=>_|none=>_) _ _ s;rw[hpi];show Ek _ _ (setNextDrawn a p ep>>=_) _ _ s;unfold setNextDrawn;refine QW (QW (Ja ho hd hf ?_));have e2:(ep !=ep)=false:=by simp
 dsimp only;rw[Zh (by rw[e2];decide)];rw[he];refine Q3 ?_;show Ek _ _ (setField (.ref it) 1 (EW ((i:Int)+1))>>=_) _ _ s;refine QW (YH hit rfl (by simp) ?_);have h2:=ZY (LA (·.setIfInBounds 1 (EW ((i:Int)+1)))) hit rfl;exact Q3 ⟨e.2,rfl,Q3 (h _ h2 (EV ..))⟩
theorem Ib {it a u:Eh}{o:Obj}{es:Array (Int×Eg)}{ep:Nat}{t:Ll}{i:Nat}{ps:List Nat}{Q:Dc->Dh}(hh:A.handled=none)(hit:s.heap.get? it=some (Ht (.ref u) i a es.size ep))(hu:s.heap.get? u=some (Pb ps))(ho:s.heap.get? a=some o)(hd:o.data=.set es ep t)(hf:t.fits es.size=true)
  (hp:ps[i]?=none) (h:∀h',Heap.ExtBut it s.heap h'->Q none { s with heap:=h' }):Ek (Es prog w) A (Ma (.ref it)) Q E s:=by
 unfold Ma;refine QW (JE (Yu (name:=ES "__next__") (qA hit) slot_next (Ya slot_next (qA hit) entry_next ?_ (args_next _))))
 unfold Builtin.«set_iterator.__next__»;refine QW (Jw (a:=(Ew it,[])) rfl ?_);refine QW (Vl hit rfl ?_);show Ek _ _ (setEntries a>>=_) _ _ s;refine QW (Jf ho hd hf ?_);have e1:(((es.size:Nat):Int) !=((es.size:Nat):Int))=false:=by simp
 rw[Zh (by rw[e1];decide)];show Ek _ _ (seqItems? (.ref u)>>=_) _ _ s;refine QW (wpAny_seqItems hu rfl ?_);have hpi:(ps.map fun i=>EW ((i:Nat):Int)).toArray[i]?=none:=by
  rw[JY,Za,hp];rfl
 show Ek _ _ (match(ps.map fun i=>EW ((i:Nat):Int)).toArray[i]? with|some (.int place _)=>_|some _=>_|none=>_) _ _ s;rw[hpi];show Ek _ _ (setField (.ref it) 0 (EW 0)>>=_) _ _ s;refine QW (YH hit rfl (by simp) ?_);have h1:=ZY (LA (·.setIfInBounds 0 (EW 0))) hit rfl;refine QW (YH h1 rfl (by simp) ?_);refine QW ?_;simp only[newExc,newTuple];refine QW (ZR ?_ (by size_fits));refine QW (m:=firstArgMember _ _) (Jw (a:=EG) (by first|rfl|(simp only[firstArgMember];rfl)) ?_);refine ZR ?_ (by size_fits);simp only[raiseNew];refine QW (wpAny_handled ?_)
 first|rw[show A.in1.handled=none from hh]|rw[hh]
 refine QW (Q3 (wpAny_throw ?_));refine QW (JA (T:="StopIteration") (b:=true) ⟨_,Ze _ rfl,rfl⟩ isSubtype_stop ?_);refine Q3 (h _ ?_);refine((Heap.ExtBut.push ?_ _).push _);exact((EV ..).trans (EV ..)).extBut
end
section
variable {prog:Ei}{w:Eo}{A:EF}{E:Eg->Dh}{s:Ej}{a:Eh}{o:Obj}{es:Array (Int×Eg)}{ep:Nat}{t:Ll}
theorem uV {slot i:Nat}{Q:Option (Eg×Nat)->Dh}(hb:byText w=true)(ho:s.heap.get? a=some o)(hd:o.data=.set es ep t)(hf:t.fits es.size=true)
  (h:Q (((LY (w.params.setOrder a ep) es)[i]?).map fun e=>(e.2,slot)) s):Ek (Es prog w) A (setNext a slot i ep) Q E s:=by
 have hb':(Setting.mk (Es prog w).prog (Es prog w).w.params).params.followText "set-order"=true:=hb;unfold setNext setsByText;refine QW (Ja ho hd hf ?_);refine QW (QW (Jj (Q3 ?_)));dsimp only;rw[Zk hb'];have e2:(ep !=ep)=false:=by simp
 rw[Zh (by rw[e2];decide)];unfold setWalk setsByText;refine QW (QW (Ja ho hd hf ?_));refine QW (QW (Jj (Q3 ?_)));dsimp only;rw[Zk hb'];refine QW (Jj ?_);exact Q3 (Q3 h)
theorem U3 {slot i:Nat}{Q:Option (Eg×Nat)->Dh}(hb:byText w=false)(hl:t.led=true)(h1:es.size<=1)(ho:s.heap.get? a=some o)(hd:o.data=.set es ep t)(hf:t.fits es.size=true)
  (h:Q (match es[E5 t.place slot]?,t.place[E5 t.place slot]? with|some (_,x),some j=>some (x,j+1)|_,_=>none) s):Ek (Es prog w) A (setNext a slot i ep) Q E s:=by
 have hb':(Setting.mk (Es prog w).prog (Es prog w).w.params).params.followText "set-order"=false:=hb;have hdr:(!t.plain&&decide (es.size>1))=false:=by rw[Q9 (by omega),Jh]
 have hml:(!t.led&&!es.isEmpty)=false:=by rw[hl];rfl
 unfold setNext setsByText;refine QW (Ja ho hd hf ?_);refine QW (QW (Jj (Q3 ?_)));dsimp only;rw[Zh (by rw[hb'];decide)];refine QW (Q3 ?_);show Ek _ _ (if(!t.plain&&decide (es.size>1))=true then _ else _) _ _ _;rw[Zh (by rw[hdr];decide)];refine QW ?_;show Ek _ _ (if(!t.led&&!es.isEmpty)=true then _ else _) _ _ _;rw[Zh (by rw[hml];decide)];exact Q3 (Q3 h)
theorem Bi {it:Eh}{Q:Eg->Dh}(hit:s.heap.get? it=some (Ht f i a n ep))(h:Q (.ref it) s):Ek (Es prog w) A (pyIter (.ref it)) Q E s:=by
 refine wpAny_pyIter_slot (qA hit) U1 (Ya U1 (qA hit) GR ?_ (B2 _));show Ek _ _ (ret (.ref it)) _ _ s;exact Q3 ⟨_,rfl,"set_iterator",_,qA hit,slot_next.lookup,h⟩
theorem SH (hh:A.handled=none)(I:Eh)(hne:a≠I)(hb:byText w=true)(hd:o.data=.set es ep t)(hf:t.fits es.size=true) :
  Walks prog w A I [I,a] [I] es.size (fun i v=>((LY (w.params.setOrder a ep) es).toList.map (·.2))[i]?=some v) (fun i h=>h.get? I=some (Ht (EW (0:Nat)) (i:Nat) a es.size ep)/\h.get? a=some o) where
 sub:=fun b hb=>by simp at hb;simp[hb]
 frame:=fun _ _ _ st hk=>⟨hk I (by simp) _ st.1,hk a (by simp) _ st.2⟩
 item:=fun i s Q E hi st hQ=>by
  have hl:(LY (w.params.setOrder a ep) es).toList.length=es.size:=by rw[(UM _ es).length_eq,ZA]
  have he:(LY (w.params.setOrder a ep) es).toList[i]?=some ((LY (w.params.setOrder a ep) es).toList[i]'(by omega)):=Q5 (by omega);generalize (LY (w.params.setOrder a ep) es).toList[i]'(by omega)=e at he;refine Gy (slot:=0) (DZ:=0) (x:=e.2) st.1 hne st.2 hd hf (fun A E Q q=>uV hb st.2 hd hf ?_) fun h' h1 sb=>?_
  ·rwa[←Yh,he]
  ·exact hQ _ h' s.toks (by rw[Za,he];rfl) ⟨h1,(sb.2 a hne).trans st.2⟩ fun b o' hb e=>(sb.2 b (by simpa using hb)).trans e
 done:=fun s Q E st hQ=>by
  have hl:(LY (w.params.setOrder a ep) es).toList.length=es.size:=by rw[(UM _ es).length_eq,ZA]
  refine kU (slot:=0) hh st.1 st.2 hd hf (fun A E Q q=>uV hb st.2 hd hf ?_) fun h' eb=>hQ h' s.toks fun b o' hb e=>eb b o' (by simpa using hb) e;rwa[←Yh,ZO (by omega)]
 self:=fun _ _ _ _ st h=>Bi st.1 h
theorem SJ (hh:A.handled=none)(I u:Eh)(hne:a≠I)(hnu:u≠I)(ps:List Nat)(hp:ps.Perm (EA es.size))(hd:o.data=.set es ep t)(hf:t.fits es.size=true) :
  Walks prog w A I [I,a,u] [I] es.size (fun i v=>(ps.filterMap fun p=>(es[p]?).map (·.2))[i]?=some v) (fun i h=>h.get? I=some (Ht (.ref u) (i:Nat) a es.size ep)/\h.get? a=some o/\h.get? u=some (Pb ps)) where
 sub:=fun b hb=>by simp at hb;simp[hb]
 frame:=fun _ _ _ st hk=>⟨hk I (by simp) _ st.1,hk a (by simp) _ st.2.1,hk u (by simp) _ st.2.2⟩
 item:=fun i s Q E hi st hQ=>by
  have hl:ps.length=es.size:=by rw[hp.length_eq,Yq]
  have hpi:ps[i]?=some (ps[i]'(by omega)):=Q5 (by omega);have hm:ps[i]'(by omega)<es.size:=JM.mp (hp.mem_iff.mp (ZV _));have he:es[ps[i]'(by omega)]?=some (es[ps[i]'(by omega)]'hm):=Yp hm;have all:ps.filterMap (fun p=>(es[p]?).map (·.2))=ps.map fun p=>(((es[p]?).map (·.2)).getD .none):=by
   have:∀qs:List Nat,(∀q∈qs,q<es.size)->qs.filterMap (fun p=>(es[p]?).map (·.2))=qs.map fun p=>(((es[p]?).map (·.2)).getD .none):=fun qs=>by
    induction qs with
    |nil=>intro _;rfl
    |cons q qs ih =>
     intro hq;have hq0:es[q]?=some (es[q]'(hq q Q1)):=Yp _;rw[Yy,Zn,hq0];simp only[Yl,J5];rw[ih fun z hz=>hq z (QY _ hz)]
   exact this ps fun q hq=>JM.mp (hp.mem_iff.mp hq)
  refine FI st.1 st.2.2 st.2.1 hd hf hpi he fun h' h1 sb=>?_;refine hQ _ h' s.toks ?_ ⟨h1,(sb.2 a hne).trans st.2.1,(sb.2 u hnu).trans st.2.2⟩ fun b o' hb e=>(sb.2 b (by simpa using hb)).trans e;rw[all,Za,hpi];simp only[Yl,he,J5]
 done:=fun s Q E st hQ=>by
  have hl:ps.length=es.size:=by rw[hp.length_eq,Yq]
  exact Ib hh st.1 st.2.2 st.2.1 hd hf (ZO (by omega)) fun h' eb=>hQ h' s.toks fun b o' hb e=>eb b o' (by simpa using hb) e
 self:=fun _ _ _ _ st h=>Bi st.1 h
theorem XQ (xs:Array Nat)(h:xs.size<=1):E5 xs 0=0:=by
 unfold E5;have h2:xs.size=0\/xs.size=1:=by omega
 rcases h2 with e|e
 ·rw[e];rfl
 ·rw[e];unfold SetTable.below.go;rw[Zk (by decide)];show(if xs.getD 0 0<0 then _ else _)=_;rw[Zh (by omega)];rfl
theorem Ke (xs:Array Nat)(h:xs.size=1):E5 xs (xs.getD 0 0+1)=1:=by
 unfold E5;rw[h];unfold SetTable.below.go;rw[Zk (by decide)];show(if xs.getD 0 (xs.getD 0 0+1)<xs.getD 0 0+1 then _ else _)=_;have e:∀d,xs.getD 0 d=xs[0]'(by omega):=fun d=>by
  rw[ZK,Yp (by omega)];rfl
 rw[e,e,Zk (by omega)];rfl
def slotB (t:Ll):Nat->Nat
 | 0=>0
 |_+1=>t.place.getD 0 0+1
theorem SI (hh:A.handled=none)(I:Eh)(hne:a≠I)(hb:byText w=false)(hl:t.led=true)(h1:es.size<=1)(hd:o.data=.set es ep t)(hf:t.fits es.size=true) :
  Walks prog w A I [I,a] [I] es.size (fun i v=>(es.toList.map (·.2))[i]?=some v) (fun i h=>h.get? I=some (Ht (EW ((slotB t i:Nat):Int)) (i:Nat) a es.size ep)/\h.get? a=some o) where
 sub:=fun b hb=>by simp at hb;simp[hb]
 frame:=fun _ _ _ st hk=>⟨hk I (by simp) _ st.1,hk a (by simp) _ st.2⟩
 item:=fun i s Q E hi st hQ=>by
  have i0:i=0:=by omega
  subst i0;have hpz:t.place.size=es.size:=by
   unfold SetTable.fits at hf;rw[Q8]at hf;exact Vw hf.1
  have he:es[0]?=some (es[0]'hi):=Yp hi;have hp:t.place[0]?=some (t.place[0]'(by omega)):=Yp (by omega);have hgd:t.place.getD 0 0=t.place[0]'(by omega):=by rw[ZK,hp];rfl
  refine Gy (slot:=0) (DZ:=t.place.getD 0 0+1) (x:=(es[0]'hi).2) st.1 hne st.2 hd hf (fun A E Q q=>U3 hb hl h1 st.2 hd hf ?_) fun h' h1 sb=>?_
  ·rwa[XQ _ (by omega),he,hp,←hgd]
  ·refine hQ _ h' s.toks ?_ ⟨h1,(sb.2 a hne).trans st.2⟩ fun b o' hb e=>(sb.2 b (by simpa using hb)).trans e;rw[Za,Yh,he];rfl
 done:=fun s Q E st hQ=>by
  have hpz:t.place.size=es.size:=by
   unfold SetTable.fits at hf;rw[Q8]at hf;exact Vw hf.1
  refine kU (slot:=slotB t es.size) hh st.1 st.2 hd hf (fun A E Q q=>U3 hb hl h1 st.2 hd hf ?_) fun h' eb=>hQ h' s.toks fun b o' hb e=>eb b o' (by simpa using hb) e;have h2:es.size=0\/es.size=1:=by omega
  rcases h2 with e|e
  ·rw[e];show Q (match es[E5 t.place 0]?,t.place[E5 t.place 0]? with|some (_,x),some j=>some (x,j+1)|_,_=>none) s;rwa[XQ _ (by omega),Jq (by omega)]
  ·rw[e];show Q (match es[E5 t.place (t.place.getD 0 0+1)]?,t.place[E5 t.place (t.place.getD 0 0+1)]? with|some (_,x),some j=>some (x,j+1)|_,_=>none) s;rwa[Ke _ (by omega),Jq (by omega)]
 self:=fun _ _ _ _ st h=>Bi st.1 h
end
def qU (vs:Db)(zs:Da):Prop:=vs.length=zs.length/\∀(i:Nat) (v:Eg),vs[i]?=some v->∃k t,zs[i]?=some k/\v=.str k t
section
variable {prog:Ei}{w:Eo}{A:EF}{E:Eg->Dh}{s:Ej}{a:Eh}{ks:Da}
theorem XC {l:List (Int×Eg)}(h:ElemsOf (strKind prog w) l):qU (l.map (·.2)) (l.map keyOf):=by
 refine⟨by rw[QU,QU],fun i v e=>?_⟩;rw[Za]at e;cases q:l[i]? with
 |none=>rw[q]at e;cases e
 |some x =>
  rw[q]at e;have e:x.2=v:=Option.some.inj e;obtain⟨⟨k,hk,_⟩,_⟩:=h x (Zc q);obtain⟨t,et⟩:=YQ hk;exact⟨k,t,by rw[Za,q];show some (keyOf x)=_;unfold keyOf;rw[et],by rw[←e];exact et⟩
theorem Pd {Q:Eg->Dh}(hS:TxSet prog w s.heap a ks)(hk:ks.length<=1000)(hh:A.handled=none)
  (h:∀(I:Eh) (fp:Dd) (h':EC) d tk (vs:Db) (zs:Da) (St:Nat->EC->Prop),s.heap.objs.size<=I->(∀b∈fp,b=a\/s.heap.objs.size<=b)->(∀b o,s.heap.get? b=some o->h'.get? b=some o)->zs.Perm ks->qU vs zs -> Walks prog w A I fp [I] ks.length (fun i v=>vs[i]?=some v) St->St 0 h'->Q (.ref I) { s with heap:=h',drawn:=d,toks:=tk }):Ek (Es prog w) A (pyIter (.ref a)) Q E s:=by
 obtain⟨o,es,ep,t,ho,hx,hd,X⟩:=hS;have Dq:=F7 X;obtain⟨hel,hp,hb,hf,hled,hpl⟩:=X;have hlt:a<s.heap.objs.size:=Zi ho;have hne:a≠s.heap.objs.size:=Zr hlt;refine MM ho hx hd hf (by omega) (fun q=>?_) (fun q ps d tk hps=>?_)
 ·have kp:∀b u,s.heap.get? b=some u->(s.heap.push (Ht (EW 0) 0 a es.size ep)).get? b=some u:=fun b u e=>Q0 _ e;have fpo:∀b∈[s.heap.objs.size,a],b=a\/s.heap.objs.size<=b:=fun b hb=>by
   rcases Q7.mp hb with z|z
   ·exact .inr (JP z.symm)
   ·exact .inl (QV.mp z)
  cases hbt:byText w with
  |true =>
   have W:=SH (prog:=prog) (A:=A) (es:=es) (ep:=ep) (t:=t) (o:=o) hh s.heap.objs.size hne hbt hd hf;have pp:=UM (w.params.setOrder a ep) es;rw[Dq]at W;exact h _ _ _ s.drawn s.toks _ _ _ (Q2 _) fpo kp ((pp.map keyOf).trans hp) (XC (hel.perm pp)) W ⟨by rw[←Dq];exact Ze _ rfl,Q0 _ ho⟩
  |false =>
   have h1:es.size<=1:=by
    rw[hbt]at q
    by_cases z:es.size>1
    ·rw[hpl (by omega),QX z]at q;cases q
    ·omega
   have hl:t.led=true:=by rw[hled];show(!byText w)=true;rw[hbt];rfl
   have W:=SI (prog:=prog) (A:=A) (es:=es) (ep:=ep) (t:=t) (o:=o) hh s.heap.objs.size hne hbt hl h1 hd hf;rw[Dq]at W;exact h _ _ _ s.drawn s.toks _ _ _ (Q2 _) fpo kp hp (XC hel) W ⟨by rw[←Dq];exact Ze _ rfl,Q0 _ ho⟩
 ·have hnI:a≠s.heap.objs.size+1:=Zr (YK hlt);have W:=SJ (prog:=prog) (w:=w) (A:=A) (es:=es) (ep:=ep) (t:=t) (o:=o) (a:=a) hh (s.heap.objs.size+1) s.heap.objs.size hnI (Zr (Jg _)) ps hps hd hf;have hL:(ps.filterMap fun p=>es[p]?).Perm es.toList:=by
   refine(hps.filterMap _).trans ?_;have e:=List.filterMap_getElem?_range_length es.toList;rw[ZA]at e;have e2:(EA es.size).filterMap (fun p=>es[p]?)=(EA es.size).filterMap fun i=>es.toList[i]?:=by congr 1;funext p;exact(Yh ..).symm
   rw[e2,e]
  have hv:(ps.filterMap fun p=>(es[p]?).map (·.2))=(ps.filterMap fun p=>es[p]?).map (·.2):=by rw[List.map_filterMap]
  rw[Dq]at W;rw[hv]at W;have g0:(s.heap.push (Pb ps)).objs.size=s.heap.objs.size+1:=Yk _ _;refine h _ _ _ d tk _ _ _ (Jm _) (fun b hb=>?_) (fun b u e=>Q0 _ (Q0 _ e)) ((hL.map keyOf).trans hp) (XC (hel.perm hL)) W ⟨?_,Q0 _ (Q0 _ ho),Q0 _ (Ze _ rfl)⟩
  ·rcases Q7.mp hb with z|z
   ·exact .inr (by rw[z];exact Jm _)
   ·rcases Q7.mp z with z|z
    ·exact .inl z
    ·exact .inr (JP (QV.mp z).symm)
  ·rw[←g0,←Dq];exact Ze _ rfl
theorem MJ (hT:s.TypeIs (.ref a) "set"){Q:Bool->Dh}(h:Q false s):Ek (Es prog w) A (Builtin.List.listLengthHint (.ref a)) Q E s:=by
 unfold Builtin.List.listLengthHint;refine QW (JH hT PySem.F.slot_set_len.lookup ?_);generalize hid:("set.__len__":String)=id0;wp_delta;rw[show splitId id0=some ("set","__len__") from by subst hid;decide +kernel];subst hid;refine QW (JA (T:="set") (b:=true) hT (by rw[Jk];kernel_rfl) ?_);refine VF (fun hab=>absurd hab (by decide)) (fun _=>?_);refine VF (fun _=>?_) (fun hab=>absurd (by decide +kernel) hab);refine QW (Vi hT ?_);exact Q3 h
open PySem.Calls PyProof.V in
theorem K3 {R:Result->Dh}(hh:A.handled=none)(hT:TxSet prog w s.heap a ks)(hk:ks.length<=1000)(S:Eh)(hSa:S≠a)(res:Eg)(c₀:Nat)(hS:s.heap.get? S=some { cls:=.type "list",data:=.seq #[] c₀ })
  (hR:∀h' d tk DP c' (zs:Da),(∀b o,b≠S->s.heap.get? b=some o->h'.get? b=some o)->h'.get? S=some { cls:=.type "list",dict:=none,data:=.seq DP c',slots:=#[] }->zs.Perm ks->qU DP.toList zs->R (.ok (.ret res)) { s with heap:=h',drawn:=d,toks:=tk }) :
  Ek (Es prog w) A.in1 (LB (.ref S) (.ref a) res)
   (fun fin s'=>match fin with|.done f=>R (.ok f) s'|.again c'=>c'.quiet=true/\LR (Es prog w) A c' R s') (fun e s'=>R (.error e) s') s:=by
 have hSlt:S<s.heap.objs.size:=Zi hS;have ty:s.TypeIs (.ref a) "set":=by obtain⟨o,es,ep,t,ho,hx,_⟩:=hT;exact⟨o,ho,hx.1⟩
 unfold LB;refine QW (Vi (T:="set") ty ?_);have h1:Builtin.List.listSameRef (.ref S) (.ref a)=false:=by simp[Builtin.List.listSameRef,hSa]
 have nl:(Value.type "set"==Value.type "list")=false:=by decide
 have nt:(Value.type "set"==Value.type "tuple")=false:=by decide
 simp only[h1,nl,nt,Bool.or_false,Yt,JD];refine QW (Pd (A:=A.in1) hT hk hh fun I fp h' d tk vs zs St hI hfp kp hz tx W st=>?_);have ty':Shared.TypeIs { s with heap:=h',drawn:=d,toks:=tk } (.ref a) "set":=by obtain⟨o,es,ep,t,ho,hx,_⟩:=hT;exact⟨o,kp _ _ ho,hx.1⟩
 refine QW (Yr (MJ ty' ?_));have hSf:S∉fp:=fun z=>by
  rcases hfp S z with e|e
  ·exact hSa e
  ·exact Yc _ (Zp hSlt e)
 have hS₁:=kp _ _ hS;refine VF (fun _=>?_) (fun z=>absurd (by decide) z);refine QW (J4 ?_);refine QW ?_;show Ek _ _ (updateSeq S (·.push .none)>>=fun _=>updateSeq S (·.pop)) _ _ _;refine QW (wpAny_updateSeq hS₁ rfl ?_);have hS₂:=ZY (E4 (·.push EG)) hS₁ rfl;refine wpAny_updateSeq (hz:=by seq_fits) hS₂ rfl ?_;have hS₃:=ZY (E4 (·.pop)) hS₂ rfl;refine Q3 ⟨Vs PySem.F.plain_extend_loop _,?_⟩;have oth:∀b o,b≠S->h'.get? b=some o->((h'.update S (E4 (·.push EG))).update S (E4 (·.pop))).get? b=some o:=fun b o hb e =>
  (Ym _ _ (ED hb)).trans ((Ym _ _ (ED hb)).trans e)
 have st':=W.frame 0 _ _ st fun b hb o e=>oth b o (fun z=>hSf (z▸hb)) e;refine codeAny_extend_loopS W.toS (by rw[Yj];omega) S hSf res ks.length 0 _ #[] _ rfl (Zz _) st' hS₃ (ItemsOf.nil _) fun s' DP c' hm hS' Ef=>?_;rw[Moved.eq_with hm];have hva:DP.toList=vs:=by
  have hl:DP.toList.length=vs.length:=by rw[ZA,Ef.1,tx.1,hz.length_eq]
  refine List.ext_getElem? fun i=>?_
  by_cases hi:i<DP.size
  ·have e:=Yp hi;rw[Yh,e];exact(Ef.2 i _ e).symm
  ·rw[ZO (by rw[ZA];omega),ZO (by rw[←hl,ZA];omega)]
 refine hR s'.heap d s'.toks DP c' zs (fun b o hb e=>hm.heap b o (fun hmem=>?_) (oth b o hb (kp b o e))) hS' hz (by rwa[hva])
 rcases Q7.mp hmem with e'|hmem
 ·exact hb e'
 ·have hbI:b=I:=QV.mp hmem;exact absurd (hbI▸Zi e) (Nat.not_lt.mpr hI)
open PySem.Calls PyProof.V PySem.W in
theorem F6 {R:Db->Dh}(hh:A.handled=none)(hT:TxSet prog w s.heap a ks)(hk:ks.length<=1000)
  (h:∀(h':EC) d (tk:Nat) (vs:Db) (zs:Da),(∀b o,s.heap.get? b=some o->h'.get? b=some o)->zs.Perm ks->qU vs zs->R vs { s with heap:=h',drawn:=d,toks:=tk }):Ek (Es prog w) A (collect (.ref a)) R E s:=by
 have hlt:a<s.heap.objs.size:=by obtain⟨o,es,ep,t,ho,_⟩:=hT;exact Zi ho
 unfold collect;refine QW (wpAny_runValue (YO entry_proto_collect' ?_));rw[Ln PySem.F.plain_proto_collect _];show Ek _ A.in1 (newList []>>=fun l=>again (.builtin "list.__iadd__" ⟨[l,.ref a],[]⟩)) _ _ s;refine QW (ZR ?_);refine Q3 ⟨Vs PySem.F.plain_list_iadd _,YO entry_list_iadd' ?_⟩;rw[Ln PySem.F.plain_list_iadd _];have hS₁:(s.heap.push { cls:=.type "list",data:=.seq ([]:Db).toArray }).get? s.heap.objs.size=some { cls:=.type "list",data:=.seq #[] }:=Ze _ rfl;show Ek _ A.in1 (LB (.ref s.heap.objs.size) (.ref a) (.ref s.heap.objs.size)) _ _ _;have key:=K3 (prog:=prog) (w:=w) (A:=A) (a:=a) (ks:=ks) (s:={ s with heap:=s.heap.push { cls:=.type "list",data:=.seq ([]:Db).toArray } })
  (R:=fun(q:Result) (s':Ej)=>∃(h':EC) (d:Drawn) (tk:Nat) (DP:Array Eg) (c':Nat) (zs:Da),q=.ok (.ret (.ref s.heap.objs.size))/\s'={ s with heap:=h',drawn:=d,toks:=tk } /\ (∀b o,s.heap.get? b=some o->h'.get? b=some o)/\h'.get? s.heap.objs.size=some { cls:=.type "list",dict:=none,data:=.seq DP c',slots:=#[] }/\zs.Perm ks/\qU DP.toList zs)
  hh (hT.at fun o e=>Q0 _ e) hk s.heap.objs.size (JL hlt) (.ref s.heap.objs.size) 0 hS₁
  (fun h' d tk DP c' zs hk hS' hz tx=>⟨h',d,tk,DP,c',zs,rfl,rfl,fun b o e=>hk b o (Zr (Zi e)) (Q0 _ e),hS',hz,tx⟩)
 refine Yd key (fun fin s' x=>?_) fun e s' x=>?_
 ·cases fin with
  |done f =>
   obtain⟨h',d,tk,DP,c',zs,e,rfl,hk,hS',hz,tx⟩:=x;cases e;show Ek _ A (load s.heap.objs.size>>=_) _ _ _;refine QW (wpAny_load hS' ?_);exact Q3 (h h' d tk _ zs hk hz tx)
  |again c₁ =>
   refine⟨x.1,YU x.2 fun q s₂ y=>?_⟩;obtain⟨h',d,tk,DP,c',zs,rfl,rfl,hk,hS',hz,tx⟩:=y;show Ek _ A (load s.heap.objs.size>>=_) _ _ _;refine QW (wpAny_load hS' ?_);exact Q3 (h h' d tk _ zs hk hz tx)
 ·obtain⟨_,_,_,_,_,_,e',_⟩:=x;cases e'
end
section
variable {prog:Ei}{w:Eo}{A:EF}{E:Eg->Dh}{s:Ej}
set_option maxHeartbeats 6400000 in
theorem call_set_list {l:Eh}{Dn:Array Eg}{xs:Da}{Q:Eg->Dh}(hh:A.handled=none)(hl:s.heap.IsList l Dn)(Dq:xs.length=Dn.size)(hi:∀(i:Nat) (v:Eg),Dn[i]?=some v->∃k t,xs[i]?=some k/\v=.str k t)(hb:Dn.size+1<Mi)
  (h:∀(h':EC) (tk:Nat),TxSet prog w h' s.heap.objs.size (uniq xs)->(∀b o,s.heap.get? b=some o->h'.get? b=some o)->Q (.ref s.heap.objs.size) { s with heap:=h',toks:=tk }):Ek (Es prog w) A (call (.type "set") [.ref l]) Q E s:=by
 obtain⟨c,tl,hmro⟩:=F.called_set.mro;have hmade:=F.called_set.made;have hsub:=F.called_set.sub;have h1:=F.called_set.notType;have h2:=F.called_set.canCreate;have hct:=F.typeCall_set_1 (.ref l);refine J1 (VE ?_);show Ek _ _ (callAny (.type "set") _) _ _ _;refine Q3 ⟨Code.quiet_builtin _ (by decide +kernel),YO F.entry_type_call ?_⟩;rw[Around.under_plain (weight_type_call_type "set" [.ref l] []) rfl]
 repeat (any_goals (first|assumption|wp_step))
 refine YU (HL (.ref l) (E:=E) (Q₁:=fun obj s₁=>obj=.ref s.heap.objs.size/\s₁={ s with heap:=s.heap.push (zW w) }) ⟨rfl,rfl⟩) fun r s₁ hr=>?_;cases r with
 |error e=>exact hr
 |ok fl =>
  cases fl with
  |ret obj =>
   obtain⟨rfl,rfl⟩:=hr;have hS:(s.heap.push (zW w)).get? s.heap.objs.size=some (zW w):=Ze _ rfl;have hT:Shared.TypeIs { s with heap:=s.heap.push (zW w) } (.ref s.heap.objs.size) "set":=⟨_,hS,rfl⟩;have hli:=F.called_set.init.lookup;have hbi:=F.called_set.init.bind (.ref s.heap.objs.size)
   repeat (any_goals (first|assumption|wp_step))
   refine YU (Jx (R:=wants (fun r s₂=>r=.none/\∃h' tk,s₂={ s with heap:=h',toks:=tk }/\TxSet prog w h' s.heap.objs.size (uniq xs) /\ (∀b o,s.heap.get? b=some o->h'.get? b=some o)) E) F.called_set.init.plain F.entry_set_init (check_set_init_1 hT ?_)) fun r₂ s₂ hr₂=>?_
   ·have hl1:(s.heap.push (zW w)).IsList l Dn:=hl.push _;obtain⟨ol,hol,hcl,nl,hdl⟩:=id hl1;have hlS:l<s.heap.objs.size:=by obtain⟨_,e,_⟩:=hl;exact Zi e
    obtain⟨ocls,odict,odata,oslots⟩:=ol;simp only at hcl hdl;subst hcl;subst hdl;have hsls:=sub_list_set;have hslf:=sub_list_frozenset;have hne:(Value.type "list"==Value.type "dict")=false:=by decide
    unfold zW at hS hol;unfold Builtin.«set.__init__» noKeywords Builtin.Frozenset.updateFrom;generalize hPI:pyIter=PI;unfold zW
    wp_walk
    subst hPI;refine JN hl1 ?_;refine QW (wpAny_runValue ?_);have hh3:A.in1.in1.in1.handled=none:=by simp[hh]
    have hneI:l≠(s.heap.push (zW w)).objs.size:=by
     rw[Yk];exact Zr (YK hlS)
    have hSf:s.heap.objs.size∉[(s.heap.push (zW w)).objs.size,l]:=by
     rw[Yk];simp only[Q7,QV,Z3,Js,not_or];exact⟨Zr (Jg _),JL hlS⟩
    refine Ka ((Walks.list hh3 _ l hneI Dn).toS) s.heap.objs.size hSf xs Dq hi hb (Dn.size-0) 0 _ (by omega) (Zz _)
     ⟨⟨_,Ze _ rfl,rfl,rfl⟩,(hl1.push _)⟩ ?hS0 ?hR
    case hS0 =>
     have hget:((s.heap.push (zW w)).push { cls:=.type "list_iterator",data:=.fields #[.ref l,.int 0 0] }).get? s.heap.objs.size=some (zW w):=Q0 _ hS;exact Fe hget
    case hR =>
     intro s' hm hS';obtain⟨h',g',d',tk',os'⟩:=s';have eg:g'=s.gens:=hm.gens;have ed:d'=s.drawn:=hm.drawn;have eo:os'=s.os:=hm.os;subst eg;subst ed;subst eo;show Ek _ _ _ _ _ _;refine Q3 ?_;show Ek _ _ (ret EG) _ _ _;refine Q3 ⟨rfl,h',tk',rfl,hS',fun b o e=>?_⟩;have hb0:=Zi e;have hb1:b≠s.heap.objs.size:=Zr hb0;have hb2:b≠(s.heap.push (zW w)).objs.size:=by
      rw[Yk];exact Zr (YK hb0)
     exact hm.heap b o (by simp only[Q7,QV,Z3,Js,not_or];exact⟨hb1,hb2⟩) (Q0 _ (Q0 _ e))
   ·cases r₂ with
    |error e=>exact hr₂
    |ok fl₂ =>
     cases fl₂ with
     |ret r =>
      obtain⟨rfl,h',tk,rfl,hS',hk'⟩:=hr₂
      repeat (any_goals (first|assumption|wp_step))
      exact h _ _ hS' hk'
     |_=>exact hr₂.elim
  |_=>exact hr.elim
set_option maxHeartbeats 6400000 in
theorem Xu {l:Eh}{Dn:Array Eg}{xs:Da}{Q:Eg->Dh}(hh:A.handled=none)(hl:s.heap.IsTuple l Dn)(Dq:xs.length=Dn.size)(hi:∀(i:Nat) (v:Eg),Dn[i]?=some v->∃k t,xs[i]?=some k/\v=.str k t)(hb:Dn.size+1<Mi)
  (h:∀(h':EC) (tk:Nat),TxSet prog w h' s.heap.objs.size (uniq xs)->(∀b o,s.heap.get? b=some o->h'.get? b=some o)->Q (.ref s.heap.objs.size) { s with heap:=h',toks:=tk }):Ek (Es prog w) A (call (.type "set") [.ref l]) Q E s:=by
 obtain⟨c,tl,hmro⟩:=F.called_set.mro;have hmade:=F.called_set.made;have hsub:=F.called_set.sub;have h1:=F.called_set.notType;have h2:=F.called_set.canCreate;have hct:=F.typeCall_set_1 (.ref l);refine J1 (VE ?_);show Ek _ _ (callAny (.type "set") _) _ _ _;refine Q3 ⟨Code.quiet_builtin _ (by decide +kernel),YO F.entry_type_call ?_⟩;rw[Around.under_plain (weight_type_call_type "set" [.ref l] []) rfl]
 repeat (any_goals (first|assumption|wp_step))
 refine YU (HL (.ref l) (E:=E) (Q₁:=fun obj s₁=>obj=.ref s.heap.objs.size/\s₁={ s with heap:=s.heap.push (zW w) }) ⟨rfl,rfl⟩) fun r s₁ hr=>?_;cases r with
 |error e=>exact hr
 |ok fl =>
  cases fl with
  |ret obj =>
   obtain⟨rfl,rfl⟩:=hr;have hS:(s.heap.push (zW w)).get? s.heap.objs.size=some (zW w):=Ze _ rfl;have hT:Shared.TypeIs { s with heap:=s.heap.push (zW w) } (.ref s.heap.objs.size) "set":=⟨_,hS,rfl⟩;have hli:=F.called_set.init.lookup;have hbi:=F.called_set.init.bind (.ref s.heap.objs.size)
   repeat (any_goals (first|assumption|wp_step))
   refine YU (Jx (R:=wants (fun r s₂=>r=.none/\∃h' tk,s₂={ s with heap:=h',toks:=tk }/\TxSet prog w h' s.heap.objs.size (uniq xs) /\ (∀b o,s.heap.get? b=some o->h'.get? b=some o)) E) F.called_set.init.plain F.entry_set_init (check_set_init_1 hT ?_)) fun r₂ s₂ hr₂=>?_
   ·have hl1:(s.heap.push (zW w)).IsTuple l Dn:=hl.push _;obtain⟨ol,hol,hcl,nl,hdl⟩:=id hl1;have hlS:l<s.heap.objs.size:=by obtain⟨_,e,_⟩:=hl;exact Zi e
    obtain⟨ocls,odict,odata,oslots⟩:=ol;simp only at hcl hdl;subst hcl;subst hdl;have hsls:=sub_tuple_set;have hslf:=sub_tuple_frozenset;have hne:(Value.type "tuple"==Value.type "dict")=false:=by decide
    unfold zW at hS hol;unfold Builtin.«set.__init__» noKeywords Builtin.Frozenset.updateFrom;generalize hPI:pyIter=PI;unfold zW
    wp_walk
    subst hPI;refine wpAny_pyIter_tuple hl1 ?_;refine QW (wpAny_runValue ?_);have hh3:A.in1.in1.in1.handled=none:=by simp[hh]
    have hneI:l≠(s.heap.push (zW w)).objs.size:=by
     rw[Yk];exact Zr (YK hlS)
    have hSf:s.heap.objs.size∉[(s.heap.push (zW w)).objs.size,l]:=by
     rw[Yk];simp only[Q7,QV,Z3,Js,not_or];exact⟨Zr (Jg _),JL hlS⟩
    refine Ka ((Walks.tuple hh3 _ l hneI Dn).toS) s.heap.objs.size hSf xs Dq hi hb (Dn.size-0) 0 _ (by omega) (Zz _)
     ⟨⟨_,Ze _ rfl,rfl,rfl⟩,(hl1.push _)⟩ ?hS0 ?hR
    case hS0 =>
     have hget:((s.heap.push (zW w)).push { cls:=.type "tuple_iterator",data:=.fields #[.ref l,.int 0 0] }).get? s.heap.objs.size=some (zW w):=Q0 _ hS;exact Fe hget
    case hR =>
     intro s' hm hS';obtain⟨h',g',d',tk',os'⟩:=s';have eg:g'=s.gens:=hm.gens;have ed:d'=s.drawn:=hm.drawn;have eo:os'=s.os:=hm.os;subst eg;subst ed;subst eo;show Ek _ _ _ _ _ _;refine Q3 ?_;show Ek _ _ (ret EG) _ _ _;refine Q3 ⟨rfl,h',tk',rfl,hS',fun b o e=>?_⟩;have hb0:=Zi e;have hb1:b≠s.heap.objs.size:=Zr hb0;have hb2:b≠(s.heap.push (zW w)).objs.size:=by
      rw[Yk];exact Zr (YK hb0)
     exact hm.heap b o (by simp only[Q7,QV,Z3,Js,not_or];exact⟨hb1,hb2⟩) (Q0 _ (Q0 _ e))
   ·cases r₂ with
    |error e=>exact hr₂
    |ok fl₂ =>
     cases fl₂ with
     |ret r =>
      obtain⟨rfl,h',tk,rfl,hS',hk'⟩:=hr₂
      repeat (any_goals (first|assumption|wp_step))
      exact h _ _ hS' hk'
     |_=>exact hr₂.elim
  |_=>exact hr.elim
end
end AxS
namespace L2
open PySem PySem.Spec PyProof.Rows AxS
def GJ (P:Ei)(w:Eo)(a:Eh)(ks:Da):HO:=.ext fun h=>TxSet P w h a ks
theorem Pe (x:TxSet P w h a ks):ObjOk P w H h a (GJ P w a ks):=by
 obtain⟨o,es,ep,t,ho,r⟩:=id x;exact⟨x,⟨o,ho⟩,fun u1 u2 z k=>TxSet.at z fun o e=>k o e⟩
theorem B0 (x:ObjOk P w H h a (GJ P w a ks)):TxSet P w h a ks:=x.1
section
variable {X:Cx}{K:AZ}
def O2 (P:Ei)(w:Eo):Dj->Hp->VK->Prop:=fun xs H Q=>∃(a:Eh) (ks:Da),xs=[.ref a]/\H a=some (GJ P w a ks)/\Q (.int ks.length) H
theorem Kh:CallR X (.builtin "len") (O2 X.prog X.w):=by
 intro Dp s σ H xs us Q I r h;obtain⟨a,ks,rfl,ha,q⟩:=h;obtain⟨u,rfl,ru⟩:=vals1 r;cases ru;obtain⟨o,es,ep,t,ho,hex,hd,X'⟩:=B0 (I.hok a _ ha);have Dq:=F7 X';obtain⟨_,_,hb,hf,_⟩:=X';have hb:es.size<4096:=hb;refine call_len_set ho hex hd hf (by omega) ?_;rw[Dq];exact⟨.int _,H,I.tok _,⟨_,rfl⟩,q⟩
theorem Inv.drew {d:Drawn}(I:Inv X Dp σ H s):Inv X Dp σ H { s with drawn:=d } :=
 ⟨I.ok,I.os,I.bare,I.base,I.loc,I.cell,I.free,I.freeC,I.pin,I.hok,I.len⟩
theorem strs_of:∀{vs:Db} {zs:Da},qU vs zs->StrsAre vs zs
 |[],[],_=>.nil
 |[],_::_,h=>by cases h.1
 |_::_,[],h=>by cases h.1
 |v::vs,z::zs,h=>by
  obtain⟨k,t,e,rfl⟩:=h.2 0 v rfl;have e:z=k:=Option.some.inj e;subst e;exact .cons _ _ (strs_of ⟨by have:=h.1;simpa using this,fun i v e=>by
   obtain⟨k,t,e1,e2⟩:=h.2 (i+1) v (by simpa using e);exact⟨k,t,by simpa using e1,e2⟩⟩)
def ND (P:Ei)(w:Eo):Dj->Hp->VK->Prop:=fun xs H Q=>∃(a:Eh) (ks:Da),xs=[.ref a]/\H a=some (GJ P w a ks)/\ks.length<64/\∀l ss,H l=none->ss.Perm ks->sortedS ss=true->Q (.ref l) (upd H l (.lst (ss.map V.str)))
theorem Bj (hc:X.calm=true):CallR X (.builtin "sorted") (ND X.prog X.w):=by
 intro Dp s σ H xs us Q I r h;obtain⟨a,ks,rfl,ha,h64,q⟩:=h;obtain⟨u,rfl,ru⟩:=vals1 r;cases ru;have hT:=B0 (I.hok a _ ha);refine Calls.call_function_entry kind_sorted plain_sorted entry_sorted (args_sorted1 _) ?_;unfold Builtin.«sorted»;refine QW (m:=checkCount "sorted" 1 1 _) (Q3 ?_);refine QW (F6 (A:=X.A.in1) (I.ok.hd hc) hT (by omega) fun h' d tk acc zs hkp hz tx=>?_);have hstr:=strs_of tx;have hal:acc.length<64:=by rwa[tx.1,hz.length_eq]
 have DI:64<=sizeLine:=by rw[Yj];decide
 refine QW (wpAny_newList ?_ (by omega));have hoL:(h'.push (Lg "list" acc.toArray 0)).get? h'.objs.size=some (Lg "list" acc.toArray 0):=Ze _ rfl;refine QW (Yr (Ya slot_list_sort ⟨_,hoL,rfl⟩ entry_list_sort (list_sort_treeK strKind_oneLt hoL hstr.keysOf (fun v₁ v₂ rest e=>keyKind_strs (by rwa[←e])) (by omega) fun st' a1 a2=>⟨_,rfl,?_⟩) (args_list_sort _)));obtain⟨ss',b1,b2,b3⟩:=sorted_out_str hstr a1 a2;refine Q3 ⟨_,rfl,?_⟩;obtain⟨e,he⟩:=sortedHeap_at (out:=(arrOf st').map (·.2)) hoL;have nl:=Gk b1;have I1:Inv X Dp σ H { s with heap:=h',drawn:=d,toks:=tk }:=(I.kept (t':=tk) hkp).drew (d:=d);have kp2:∀b ob,h'.get? b=some ob->(sortedHeap (h'.push (Lg "list" acc.toArray 0)) h'.objs.size acc ((arrOf st').map (·.2))).get? b=some ob:=fun b ob q1=>by
  have hb:b<h'.objs.size:=Zi q1;rw[sortedHeap_old (Zr hb) (by rw[Yk];exact YK hb)];exact Q0 _ q1
 have fr:H h'.objs.size=none:=I1.hok.fresh (Q2 _);have hz2:(ss'.map V.str).length<=sizeLine:=by
  have:=b2.length_eq;have:=hz.length_eq;rw[QU];omega
 exact⟨.ref h'.objs.size,_,I1.laid (o:=.lst (ss'.map V.str)) (t':=tk) kp2 (Q2 _) ⟨hz2,_,e,nl,he⟩,rfl,q _ ss' fr (b2.trans hz) b3⟩
def To (K:AZ)(P:Ei)(w:Eo):Dj->Hp->VK->Prop:=fun xs H Q=>∃(a:Eh) (ls:Da),xs=[.ref a]/\(SqL K H a (ls.map V.str)\/SqT K H a (ls.map V.str))/\ls.length<=1000/\∀p,H p=none->Q (.ref p) (upd H p (GJ P w p (uniq ls)))
theorem Xy {ls:Da}(r:Vals (ls.map V.str) us):qU us ls:=by
 refine⟨by rw[←r.length,QU],fun i v e=>?_⟩;have hi:i<ls.length:=by have:=(Zl.mp e).1;rw[←r.length,QU]at this;exact this
 obtain⟨u,hu,ru⟩:=r.get (show(ls.map V.str)[i]?=some (V.str ls[i]) by rw[Za,Q5 hi];rfl);rw[hu]at e;cases e;obtain⟨t,rfl⟩:=ru;exact⟨_,t,Q5 hi,rfl⟩
theorem BB (hc:X.calm=true)(hK:X.K=K:=by rfl):CallR X (.type "set") (To K X.prog X.w):=by
 subst hK;intro Dp s σ H xs us Q I r h;obtain⟨a,ls,rfl,ha,hl,q⟩:=h;obtain⟨u,rfl,ru⟩:=vals1 r;cases ru;have fin:∀(h':EC) (tk:Nat),TxSet X.prog X.w h' s.heap.objs.size (uniq ls)->(∀b o,s.heap.get? b=some o->h'.get? b=some o)->EP X Dp σ Q (.ref s.heap.objs.size) { s with heap:=h',toks:=tk }:=fun h' tk x k =>
  ⟨.ref s.heap.objs.size,_,I.laid (o:=GJ X.prog X.w s.heap.objs.size (uniq ls)) (t':=tk) k (Q2 _) (Pe x),rfl,q _ (I.hok.fresh (Q2 _))⟩
 have sb:Mi=4096:=rfl
 rcases ha with ha|ha
 ·obtain⟨its,rv,pl,_⟩:=I.list ha;have tx:=Xy rv;exact call_set_list (I.ok.hd hc) pl.isList (by rw[Zg];exact tx.1.symm) (fun i v e=>tx.2 i v (by simpa using e)) (by rw[Zg,tx.1,sb];omega) fin
 ·obtain⟨its,rv,pl,_⟩:=I.tuple ha;have tx:=Xy rv;exact Xu (I.ok.hd hc) pl (by rw[Zg];exact tx.1.symm) (fun i v e=>tx.2 i v (by simpa using e)) (by rw[Zg,tx.1,sb];omega) fin
end
end L2
namespace An
open PySem PySem.Spec PyProof.Rows L2
def Ov (a b:Str):Prop:=¬b.cps.toList<a.cps.toList
theorem KC (h1:Ov a b)(h2:Ov b c):Ov a c:=by
 have h1:a.cps.toList<=b.cps.toList:=Jy.mp h1;have h2:b.cps.toList<=c.cps.toList:=Jy.mp h2;exact Jy.mpr (List.le_trans h1 h2)
theorem CB (h1:Ov a b)(h2:Ov b a):a=b:=by
 have e:a.cps.toList=b.cps.toList:=Vy (Jy.mp h1) (Jy.mp h2);exact cs_inj e
theorem Gr:∀(l:Da) (p:Str),risingS p l=true->(p::l).Pairwise Ov
 |[],p,_=>List.pairwise_singleton _ _
 |x::r,p,h=>by
  have h:(!ltCps x.cps.toList p.cps.toList&&risingS x r)=true:=h;rw[Q8,ltCps_eq]at h;have hx:Ov p x:=fun z=>by rw[QX z]at h;exact absurd h.1 (by decide)
  have ih:=Gr r x h.2;refine Vm.mpr ⟨fun y hy=>?_,ih⟩
  rcases Q7.mp hy with rfl|hy
  ·exact hx
  ·exact KC hx ((Vm.mp ih).1 y hy)
theorem IJ:∀{l:Da},sortedS l=true->l.Pairwise Ov
 |[],_=>List.Pairwise.nil
 |x::r,h=>Gr r x h
def Uv:Da->Bool
 |[]=>true
 |x::r=>r.all (fun y=>decide (x.cps.toList<y.cps.toList))&&Uv r
theorem rise_iff:∀{l:Da},Uv l=true↔l.Pairwise Ov/\l.Nodup
 |[]=>⟨fun _=>⟨List.Pairwise.nil,Yb⟩,fun _=>rfl⟩
 |x::r=>by
  show(r.all _&&Uv r)=true↔_;rw[Q8,rise_iff,Zu,Vm,Z1];constructor
  ·rintro⟨h1,h2,h3⟩;refine⟨⟨fun y hy=>?_,h2⟩,fun z=>?_,h3⟩
   ·have:=Zb (h1 y hy);exact fun z=>List.lt_irrefl _ (List.lt_trans this z)
   ·exact List.lt_irrefl _ (Zb (h1 x z))
  ·rintro⟨⟨h1,h2⟩,h3,h4⟩;refine⟨fun y hy=>QX ?_,h2,h4⟩
   by_cases z:x.cps.toList<y.cps.toList
   ·exact z
   ·have:=CB (h1 y hy) z;exact absurd (this▸hy) h3
theorem FZ {ks:Da}{k:Str}(h:ks.Nodup):(AxS.step ks k).Nodup:=by
 unfold AxS.step
 split
 ·exact h
 ·rename_i z;rw[Yw];exact⟨h,by simp,fun a ha b hb=>by rw[QV.mp hb];exact fun e=>z (e▸ha)⟩
theorem Iq:∀(xs ks:Da),ks.Nodup->(xs.foldl AxS.step ks).Nodup
 |[],ks,h=>h
 |x::xs,ks,h=>Iq xs _ (FZ h)
theorem fold_all:∀(xs ks:Da),(ks++xs).Nodup->xs.foldl AxS.step ks=ks++xs
 |[],ks,_=>by rw[Zy];rfl
 |x::xs,ks,h=>by
  have e:AxS.step ks x=ks++[x]:=by
   unfold AxS.step;rw[Zh];intro z;exact(Yw.mp h).2.2 x z x Q1 rfl
  rw[Jt,e,fold_all xs (ks++[x]) (by rwa[Z6]),Z6];rfl
theorem F8 (xs:Da):(AxS.uniq xs).Nodup:=Iq xs [] Yb
theorem GA {xs:Da}(h:xs.Nodup):AxS.uniq xs=xs:=fold_all xs [] h
theorem Ct:∀(xs ks:Da) {x:Str},x∈xs.foldl AxS.step ks->x∈ks\/x∈xs
 |[],ks,x,h=>.inl h
 |y::xs,ks,x,h=>by
  rcases Ct xs _ h with z|z
  ·unfold AxS.step at z
   split at z
   ·exact .inl z
   ·rcases Zf.mp z with z|z
    ·exact .inl z
    ·exact .inr (Q7.mpr (.inl (QV.mp z)))
  ·exact .inr (QY _ z)
theorem N3 {xs:Da}{x:Str}(h:x∈AxS.uniq xs):x∈xs:=(Ct xs [] h).elim (fun z=>nomatch z) id
theorem FV {xs ss:Da}(hp:ss.Perm (AxS.uniq xs))(hs:sortedS ss=true):decide (xs=ss)=Uv xs:=by
 rw[Z8,Zt,rise_iff];constructor
 ·intro e;subst e;exact⟨IJ hs,hp.nodup_iff.mpr (F8 _)⟩
 ·rintro⟨h1,h2⟩;rw[GA h2]at hp;exact(List.Perm.eq_of_pairwise (fun a b _ _=>CB) (IJ hs) h1 hp).symm
end An
namespace PySem.SeqAt
open MeetsSeq PyProof.Rows
end PySem.SeqAt
namespace L2
open PySem PySem.Spec PyProof.Rows
end L2
namespace PySem.W
open PySem PySem.Spec PySem.Calls PyProof.Rows Builtin Builtin.ObjectAttr Builtin.Getset_descriptor
section
variable {prog:Ei}{w:Eo}{A:EF}{E:Eg->Dh}{s:Ej}{K:Frag}{x D:Eh}{ox:Obj}
structure ExcKit (K:Frag)(D:Eh):Prop where
 ga:findIn K (.ref D) "__getattribute__"=some (some (.builtin "BaseException.__getattribute__"))
 hk:findIn K (.ref D) "__getattr__"=some none
 ha:findIn K (.ref D) "__class__"=some (some (.builtin "object.__class__"))
 hn:specialIn K (.builtin "object.__class__") "__get__"=some (some (.builtin "getset_descriptor.__get__"))
 htk:takesIn K (.builtin "object.__class__")=some true
 hm:mroIn K D (.type "object")=some true
 hb:subIn K (.ref D) (.type "BaseException")=some true
 cl:(clsIn K D).isSome=true
structure ExcIn (h:EC)(x D:Eh):Prop where
 ex:∃o,h.get? x=some o/\o.cls=.ref D/\notCls o=true
theorem ExcIn.type {M:Model}(I:ExcIn h x D):Looks M h (typeOf (.ref x)) (.ref D):=by
 obtain⟨o,ho,hc,_⟩:=I.ex;exact hc▸(Looks.ld ho).andThen .now
theorem IG {R:Result->Dh}{tp:Eg}(X:K.In s.heap)(I:ExcIn s.heap x D)(hm:mroIn K D (.type "object")=some true)
  (h:R (.ok (.ret (.ref D))) s):LR (Es prog w) A (.call (.builtin "getset_descriptor.__get__") ⟨[.builtin "object.__class__",.ref x,tp],[]⟩) R s:=by
 obtain⟨hh,g,dr,t,os⟩:=s;have L0:=I.type (M:=Es prog w);have L1:=looks_mroIn (M:=Es prog w) X hm;refine Jx KF.slot_gs.plain KF.entry_gs (KF.slot_gs.check _ _ _ _ _ _ _ _ KF.type_class (KF.args_gs _ _ _) ?_);unfold Builtin.«getset_descriptor.__get__» descrGet;rw[dga_obj];refine QW (Q3 ?_);unfold descrGetter descrCheckInstance descrNameAndClass isInstance;simp only[KF.owner_class]
 repeat lk
 refine⟨Code.quiet_builtin _ (by decide +kernel),YO KF.entry_class ?_⟩;unfold Builtin.«object.__class__» shownTypeOf
 repeat lk
 exact h
theorem My {M:Model}{h:EC}(X:K.In h)(k:ExcKit K D):Looks M h (find (.ref x) (.ref D) "__class__") (.bind (.builtin "getset_descriptor.__get__") (.builtin "object.__class__")):=by
 have L1:=looks_findIn (M:=M) X k.ha;have L2:=looks_specialIn (M:=M) X k.hn;have L3:=looks_takesIn (M:=M) X k.htk;unfold find;exact L1.andThen (Looks.andThen L2 (Looks.andThen (L3.andThen .now) (Looks.tag .now)))
theorem Kl {M:Model}{nameV:Eg}{Q:Unit->Dh}(k:ExcKit K D)(X:K.In s.heap)(I:ExcIn s.heap x D)(hq:Q () s):Ek M A (checkBuiltinCall "BaseException.__getattribute__" ⟨[.ref x,nameV],[]⟩) Q E s:=by
 have hk:builtinKind "BaseException.__getattribute__"=some .slot:=by decide +kernel
 have hsplit:splitId "BaseException.__getattribute__"=some ("BaseException","__getattribute__"):=by decide +kernel
 have ha:=F.args_bexc_ga (.ref x) nameV;obtain⟨hh,g,d,t,os⟩:=s;have L0:=I.type (M:=M);have L1:=looks_subIn (M:=M) X k.hb;simp only[checkBuiltinCall,hk,hsplit];refine QW ?_
 ·unfold isInstance
  repeat (first|lk|wp_step)
  exact hq
theorem Kn {tk:Tok}{Q:Fin->Dh}(k:ExcKit K D)(X:K.In s.heap)(I:ExcIn s.heap x D)(hq:Q (.done (.ret (.ref D))) s) :
  Ek (Es prog w) A (Builtin.«object.__getattribute__» ⟨[.ref x,.str "__class__" tk],[]⟩) Q E s:=by
 obtain⟨hh,g,d,t,os⟩:=s;have L0:=I.type (M:=Es prog w);have L1:=My (M:=Es prog w) (x:=x) X k;unfold Builtin.«object.__getattribute__»;refine QW (Q3 (QW (Q3 (QW (L0.at (QW (L1.at ?_)))))));show Ek _ _ (bindTo _ _ _ _) _ _ _;show Ek _ _ (Mn [Value.builtin "object.__class__"] (call (Value.builtin "getset_descriptor.__get__") [Value.builtin "object.__class__",Ew x,Ew D])>>=ret) _ _ _;exact QW (Yr (J1 (IG (s:=⟨hh,g,d,t,os⟩) X I k.hm (Q3 hq))))
theorem Km {Q:Dc->Dh}(k:ExcKit K D)(X:K.In s.heap)(I:ExcIn s.heap x D)(h:Q (some (.ref D)) { s with toks:=s.toks+1 }):Ek (Es prog w) A (getAttr? (.ref x) "__class__") Q E s:=by
 obtain⟨hh,g,d,t,os⟩:=s;have L0:=I.type (M:=Es prog w);have L1:=looks_findIn (M:=Es prog w) X k.ga;have L2:=looks_findIn (M:=Es prog w) X k.hk;unfold getAttr? getAttrBy? getAttrBy;refine QW (wpAny_mkText (QW (JE (Yr (QW (L0.at (QW (L1.at ?_))))))));show Ek _ _ (getAttrByItsOwn _ _ _ _ _ _) _ _ _;unfold getAttrByItsOwn hookBefore;refine QW (L2.at ?_);refine QW (JE (Yr ?_));show Ek _ _ (boundAndCalled _ _ _) _ _ _;unfold boundAndCalled;rw[F.attr_ValueError.ga.bind];refine QW (Q3 ?_);refine J1 (Jx F.attr_ValueError.ga.plain F.entry_bexc_ga (Kl k X I (Kn k X I ?_)));exact handed_on (s:=⟨hh,g,d,t+1,os⟩) rfl (Q3 h)
theorem kitx_exc (k:ExcKit K D):KitX K (.ref x) (.ref D) (fun h=>ExcIn h x D) where
 ty:=fun _ _ _ I=>I.type
 it:=fun _ _ X _=>by
  obtain⟨cdD,hcD⟩:=YF.mp k.cl;unfold clsIn at hcD
  split at hcD
  ·rename_i c' d' cd' sl' ho;intro A' Q' E' s' k q;unfold isType loadHead;exact QW (wpAny_loadPart (k _ _ (X _ _ ho)) (Q3 q))
  ·cases hcD
 ne:=fun h tp dd its n sl X htp=>by
  obtain⟨cdD,hcD⟩:=YF.mp k.cl;refine YL.mpr fun q=>?_;have e:D=tp:=Value.ref.inj (Jn.mp q);subst e;unfold clsIn at hcD
  split at hcD
  ·rename_i c' d' cd' sl' ho;have z:=(X _ _ ho).symm.trans htp;cases z
  ·cases hcD
 ca:=fun X I q=>Km k X I q
end
end PySem.W
namespace L2
open PySem PySem.Spec PyProof.Rows
section
variable {X:Cx}{K:AZ}
def Pn (K:AZ)(c:Eg)(cv:V):Dj->Hp->VK->Prop:=fun xs H Q=>∃(a D:Eh) (b:Bool),xs=[.ref a,cv]/\H a=some (U2 a (.ref D))/\PySem.W.ExcKit K D/\EB K (.ref D) c=some b/\Q (.bl b) H
theorem Hr {a D:Eh}{b:Bool}{c:Eg}{Q:VK}(I:Inv X Dp σ H s)(ha:H a=some (U2 a (.ref D)))(k:PySem.W.ExcKit X.K D)(e:EB X.K (.ref D) c=some b)(q:Q (.bl b) H) :
  Ek (Es X.prog X.w) X.A (call (.builtin "isinstance") [.ref a,c]) (EP X Dp σ Q) X.xe s:=by
 obtain⟨⟨o,vs,h1,h2,h3,_⟩,_⟩:=(I.hok a _ ha);refine ZW (PySem.W.kitx_exc k) I.kIn ⟨o,h1,h2,?_⟩ e (fun z=>nomatch z) fun tk=>⟨.bl b,H,I.tok _,rfl,q⟩;unfold PySem.W.notCls;rw[h3]
theorem xO (hK:X.K=K:=by rfl){C:Eh}:CallR X (.builtin "isinstance") (Pn K (.ref C) (.ref C)):=by
 subst hK;intro Dp s σ H xs us Q I r h;obtain⟨a,D,b,rfl,ha,k,e,q⟩:=h;obtain⟨u,w',rfl,ru,rw'⟩:=vals2 r;cases(show u=Ew a from ru);cases(show w'=Ew C from rw');exact Hr I ha k e q
theorem IA (hK:X.K=K:=by rfl){T:String}:CallR X (.builtin "isinstance") (Pn K (.type T) (.ty T)):=by
 subst hK;intro Dp s σ H xs us Q I r h;obtain⟨a,D,b,rfl,ha,k,e,q⟩:=h;obtain⟨u,w',rfl,ru,rw'⟩:=vals2 r;cases(show u=Ew a from ru);cases(show w'=Value.type T from rw');exact Hr I ha k e q
end
section
variable {X:Cx}
theorem kD:∀{l:List (Str×Tok)} {ys:Da},l.map (·.1)=ys->Vals (ys.map V.str) (strValues l)
 |[],_,h=>by rw[←h];exact .nil
 |p::l,_,h=>by
  rw[←h];exact .cons ⟨p.2,rfl⟩ (kD rfl)
def Rr:V->Dj->Hp->VK->Prop:=fun x vs H Q=>∃(a:Str) (c:Nat),x=.str a/\vs=[.str ⟨#[c]⟩]/\a.length<=100000/\∀l,H l=none->Q (.ref l) (upd H l (.lst ((Lv a ⟨#[c]⟩).map V.str)))
theorem CK:N9 X "str.split" Rr:=by
 intro Dp s σ H x xs v us Q I rx rs h;obtain⟨a,c,rfl,rfl,ha,q⟩:=h;obtain⟨t,rfl⟩:=rx;obtain⟨u,rfl,t',rfl⟩:=vals1 rs;have hz:a.length<=sizeLine:=An.le_line (by omega);have hy:((⟨#[c]⟩:Str).length==0)=false:=rfl;have hn:(Lq a (EX a ⟨#[c]⟩ 0 a.length (a.length+1)) (⟨#[c]⟩:Str).length).length<=200000:=by
  unfold Lq;have:=StrLaws.occ_length_le a ⟨#[c]⟩ 0 a.length (a.length+1);simp only[QU,List.length_zip,Zd,Q4,YN];omega
 cases h1:(decide (a.length<(⟨#[c]⟩:Str).length)||decide (Builtin.Str.strKind a<Builtin.Str.strKind ⟨#[c]⟩))
 ·cases hf:(EX a ⟨#[c]⟩ 0 a.length (a.length+1)).isEmpty
  ·have e:Lv a ⟨#[c]⟩=Lq a (EX a ⟨#[c]⟩ 0 a.length (a.length+1)) (⟨#[c]⟩:Str).length:=(Zh (Vh h1)).trans (Zh (Vh hf));refine Jo F.slot_str_split (J3 s a t) F.entry_str_split (F.args_str_split_2 _ _) (meets_str_split_sep a ⟨#[c]⟩ t t' h1 hy hf hz (An.le_line (by omega))) ?_;rw[strsFrom_eq];refine⟨.ref _,_,I.lnew (kD (numbered_texts _ _)) (by rw[QU];exact An.le_line (by omega)),rfl,?_⟩;rw[←e];exact q _ I.fresh
  ·have e:Lv a ⟨#[c]⟩=[a]:=(Zh (Vh h1)).trans (Zk hf);rw[e]at q;refine Jo F.slot_str_split (J3 s a t) F.entry_str_split (F.args_str_split_2 _ _) (meets_str_split_not_found a ⟨#[c]⟩ t t' h1 hy hf) ?_;exact⟨.ref _,_,I.lnew (t':=s.toks) (kD (l:=[(a,t)]) rfl) (by show 1<=sizeLine;decide),rfl,q _ I.fresh⟩
 ·have e:Lv a ⟨#[c]⟩=[a]:=Zk h1;rw[e]at q;refine Jo F.slot_str_split (J3 s a t) F.entry_str_split (F.args_str_split_2 _ _) (meets_str_split_cannot_occur a ⟨#[c]⟩ t t' h1) ?_;exact⟨.ref _,_,I.lnew (t':=s.toks) (kD (l:=[(a,t)]) rfl) (by show 1<=sizeLine;decide),rfl,q _ I.fresh⟩
def Tf (K:AZ):Dj->Hp->VK->Prop:=fun xs H Q=>∃(a:Eh) (bs:List Bool),xs=[.ref a]/\SqL K H a (bs.map V.bl)/\Q (.bl (bs.any id)) H
theorem Mp {K:AZ}(hc:X.calm=true)(hK:X.K=K:=by rfl):CallR X (.builtin "any") (Tf K):=by
 subst hK;intro Dp s σ H xs us Q I r h;obtain⟨a,bs,rfl,ha,q⟩:=h;obtain⟨u,rfl,ru⟩:=vals1 r;cases ru;obtain⟨its,rv,pl,hz⟩:=I.list ha;have ei:=GY rv;have hl:=pl.isList;have hlt:a<s.heap.objs.size:=by obtain⟨_,e,_⟩:=hl;exact Zi e
 refine call_any_walk (JN hl ?_);refine⟨s.heap.objs.size,[s.heap.objs.size,a],[s.heap.objs.size],its.toArray.size,_,_,fun i=>(bs[i]?).getD false,rfl,Walks.list (A:=X.A.in1) (I.ok.hd hc) _ a (Zr hlt) its.toArray,⟨⟨_,Ze _ rfl,rfl,rfl⟩,hl.push _⟩,fun i v s' Q' E' hP hQ=>?_,fun h' tk hk=>?_⟩
 ·have hP:its[i]?=some v:=by simpa using hP
  rw[ei,Za]at hP;cases e:bs[i]? with
  |none=>rw[e]at hP;cases hP
  |some b =>
   rw[e]at hP;have hP:LS b=v:=Option.some.inj hP;subst hP;simp only[e,J5]at hQ;exact YJ hQ
 ·have Dq:its.length=bs.length:=by rw[ei,QU]
  have e:((EA its.toArray.size).any fun i=>(bs[i]?).getD false)=bs.any id:=by
   rw[Zg,Dq];exact PyProof.Rows.LSm.range_any bs
  rw[e];exact⟨.bl _,H,I.kept (PyProof.Rows.LSm.kept_iter hk),rfl,q⟩
theorem Nd {K:AZ}(hK:X.K=K:=by rfl):N9 X "str.join" (rJoin K):=by
 subst hK;exact Bp
theorem Rk {K:AZ}{e:EI}{es:List EI}{name:Str}{Dr Ds:Pos}{T id:String}(pa:PlainAttrs T)(slot:Slot T name id)(hty:typeOf (.builtin id)=Ly (.type "method_descriptor"))(hm:N9 X id r)(ho:PE X o to)(ha:PA X (e::es) t)
  (DO:Lo o name X.env (EY o X.env)=EY o X.env:=by rfl)
  (hfew:((E7 Ds (Ev (e::es) X.env)).all (fun x=>!x.1)&&(Mj Ds (LG [] X.env)).all (fun x=>x.1.isSome) && decide ((e::es).length+([]:List Keyword).length+(if([]:List Keyword).isEmpty then 0 else 1)<30))=true:=by rfl)
  (DI:(Dr.endLine==Ds.line)=true:=by rfl) (hs:Ev (e::es) X.env=(false,EY e X.env)::Ev es X.env:=by rfl) (DY:(E7 Ds (Ev es X.env)).any (·.1)=false:=by rfl) (hK:X.K=K:=by rfl) :
  PE X (.Call (.Attribute o name Dr) (e::es) [] Ds) (TM K T r to t):=by
 subst hK;exact jY pa slot hty hm ho ha DO hfew DI hs DY
end
end L2
namespace An
open PySem L2
def Rv:Str:=⟨#[47]⟩
theorem Uz:("/":Str)=Rv:=by decide +kernel
def jn:List (List Nat)->List Nat
 |[]=>[]
 |[x]=>x
 |x::y::r=>x++47::jn (y::r)
def Ch:List Nat->List (List Nat)
 |[]=>[[]]
 |c::r=>if c=47 then[]::Ch r else match Ch r with
  |[]=>[[c]]
  |p::ps=>(c::p)::ps
theorem GO:∀l,Ch l≠[]
 |[]=>by simp[Ch]
 |c::r=>by
  unfold Ch
  split
  ·simp
  ·split<;>simp
theorem Xe {x:List Nat}{r:List (List Nat)}(h:r≠[]):jn (x::r)=x++47::jn r:=by
 cases r with
 |nil=>exact absurd rfl h
 |cons y r=>rfl
theorem FA:∀l,jn (Ch l)=l
 |[]=>rfl
 |c::r=>by
  have ih:=FA r;unfold Ch
  split
  ·rename_i e;rw[Xe (GO r),ih,e];rfl
  ·cases q:Ch r with
   |nil=>exact absurd q (GO r)
   |cons p ps =>
    rw[q]at ih;cases ps with
    |nil=>show c::p=_;rw[show p=r from ih]
    |cons y ps =>
     show(c::p)++47::jn (y::ps)=_;rw[←ih];rfl
theorem HW:∀(a b:List Nat),Ch (a++47::b)=Ch a++Ch b
 |[],b=>by
  show(if 47=47 then[]::Ch b else _)=[[]]++Ch b;rw[Zk rfl];rfl
 |c::a,b=>by
  have ih:=HW a b;show Ch (c::(a++47::b))=_;rw[Ch,Ch,ih]
  split
  ·rfl
  ·cases q:Ch a with
   |nil=>exact absurd q (GO a)
   |cons p ps=>rfl
theorem XY:∀{p:List Nat},47∉p->Ch p=[p]
 |[],_=>rfl
 |c::p,h=>by
  have ih:=XY (p:=p) fun z=>h (QY _ z);unfold Ch;rw[Zh (fun z=>h (by rw[z];exact Q1)),ih]
theorem FY:∀{ps:List (List Nat)},ps≠[]->(∀p∈ps,47∉p)->Ch (jn ps)=ps
 |[],h,_=>absurd rfl h
 |[p],_,h=>XY (h p Q1)
 |p::q::r,_,h=>by
  rw[Xe (by simp),HW,XY (h p Q1),FY (ps:=q::r) (by simp) fun x hx=>h x (QY _ hx)];rfl
theorem MN:∀{a b:List (List Nat)},a≠[]->b≠[]->jn (a++b)=jn a++47::jn b
 |[],_,h,_=>absurd rfl h
 |[x],b,_,hb=>Xe hb
 |x::y::r,b,_,hb=>by
  show x++47::jn ((y::r)++b)=(x++47::jn (y::r))++47::jn b;rw[MN (a:=y::r) (by simp) hb];simp
theorem MP:∀{ps:List (List Nat)} {p:List Nat},p∈ps->p.length<=(jn ps).length
 |[],_,h=>by cases h
 |[x],p,h=>by rw[QV.mp h];exact Q2 _
 |x::y::r,p,h=>by
  show _<=(x++47::jn (y::r)).length;rw[Q4,Zd]
  rcases Q7.mp h with rfl|h
  ·omega
  ·have:=MP h;omega
theorem MO:∀{ps:List (List Nat)},ps.length<=(jn ps).length+1
 |[]=>by simp
 |[x]=>by simp
 |x::y::r=>by
  show _<=(x++47::jn (y::r)).length+1;have:=MO (ps:=y::r);have e1:(x++47::jn (y::r)).length=x.length+((jn (y::r)).length+1):=by rw[Q4,Zd]
  have e2:(x::y::r).length=(y::r).length+1:=Zd;omega
def RP (l:List Nat):Str:=⟨l.toArray⟩
theorem cs_ofL (l:List Nat):cs (RP l)=l:=by simp[RP,cs]
theorem ofL_cs (x:Str):RP (cs x)=x:=cs_inj (cs_ofL _)
theorem qW:∀ys:Da,cs (Lj "/" ys)=jn (ys.map cs):=by
 intro ys;have e:Lj "/" ys=Ml "/" ys:=E9 "/" ys;rw[e];clear e
 induction ys with
 |nil=>rfl
 |cons x r ih =>
  cases r with
  |nil=>rfl
  |cons y r =>
   show cs (x++"/"++Ml "/" (y::r))=cs x++47::jn ((y::r).map cs);have:cs ("/":Str)=[47]:=by decide +kernel
   rw[cs_append,cs_append,ih,this];simp
theorem NW (x:Str):Lv x "/"=(Ch (cs x)).map RP:=by
 have h1:cs (Ml "/" (Lv x "/"))=cs x:=by rw[StrLaws.join_split]
 have e:Lj "/" (Lv x "/")=Ml "/" (Lv x "/"):=E9 "/" _;rw[←e,qW]at h1;have hne:Lv x "/"≠[]:=by
  unfold Lv
  split
  ·simp
  ·split
   ·simp
   ·unfold Lq;intro z;have:=congrArg List.length z;simp at this
 have h2:=FY (ps:=(Lv x "/").map cs) (by simpa using hne) (fun p hp=>by
  obtain⟨y,hy,rfl⟩:=QZ.mp hp;rw[Uz]at hy;exact StrLaws.split_free x 47 y hy)
 rw[h1]at h2;rw[h2,Zv];have:(RP∘cs)=(id:Str->Str):=funext ofL_cs;rw[this,Vc]
def VV (x:Str):Da:=Lv x "/"
theorem Xg (x:Str):(VV x).map cs=Ch (cs x):=by
 unfold VV;rw[NW,Zv];have:(cs∘RP)=(id:List Nat->List Nat):=funext cs_ofL;rw[this,Vc]
theorem CA {y:Str}(h:y∈VV x):y.length<=x.length:=by
 rw[length_cs,length_cs,←FA (cs x),←Xg];exact MP (List.mem_map_of_mem h)
theorem Ir (x:Str):(VV x).length<=x.length+1:=by
 have:=MO (ps:=Ch (cs x));rw[FA,←Xg,QU]at this;rwa[length_cs]
theorem MS (x:Str):0<(VV x).length:=by
 have:=Yg.mpr (GO (cs x));rw[←Xg,QU]at this;exact this
theorem kM {ys:Da}(h:ys≠[])(hf:∀y∈ys,47∉cs y):VV (Lj "/" ys)=ys:=by
 have:(VV (Lj "/" ys)).map cs=ys.map cs:=by
  rw[Xg,qW,FY (by simpa using h)];intro p hp;obtain⟨y,hy,rfl⟩:=QZ.mp hp;exact hf y hy
 have inj:∀{a b:Da},a.map cs=b.map cs->a=b:=by
  intro a
  induction a with
  |nil =>
   intro b e;cases b with
   |nil=>rfl
   |cons _ _=>cases e
  |cons x a ih =>
   intro b e;cases b with
   |nil=>cases e
   |cons y b =>
    rw[Zn,Zn]at e;injection e with e1 e2;rw[cs_inj e1,ih e2]
 exact inj this
def Nn (x:Str):Bool:=decide ((VV x).length<=4)&&(VV x).all z9
def CL:El->Bool
 | .str x=>Nn x
 |_=>false
theorem xX (h:z9 y=true):47∉cs y:=by
 unfold z9 at h;rw[Q8]at h;intro z;exact absurd (Zu.mp h.2 47 z) (by decide)
theorem KP {ys:Da}(h0:ys≠[])(h4:ys.length<=4)(h:∀y∈ys,z9 y=true):Nn (Lj "/" ys)=true:=by
 unfold Nn;rw[kM h0 fun y hy=>xX (h y hy),QX h4,Zu.mpr h];rfl
def Kp (x:Str):Da:=(EA ((VV x).length-1)).map fun i=>Lj "/" ((VV x).take (i+1))
def Ih (p q:Str):Bool:=Txt.startswith q (p++"/")
theorem OI:Ih p q=true↔∃t,cs q=cs p++47::t:=by
 unfold Ih Txt.startswith;rw[StrLaws.subAt_eq,List.drop_zero,Nat.zero_add,Q8,ZP,Jn];have e:(p++"/":Str).cps.toList=cs p++[47]:=by
  have:cs ("/":Str)=[47]:=by decide +kernel
  show cs (p++"/")=_;rw[cs_append,this]
 have el:(p++"/":Str).length=(cs p).length+1:=by
  rw[length_cs];show(cs (p++"/")).length=_;rw[show cs (p++"/")=cs p++[47] from e,Q4];rfl
 rw[e,el];constructor
 ·rintro⟨h1,h2⟩;refine⟨(cs q).drop ((cs p).length+1),?_⟩;have:=Y4 ((cs p).length+1) (cs q);rw[h2,Z6]at this;exact this.symm
 ·rintro⟨t,h⟩;rw[length_cs,h];refine⟨by simp,?_⟩;show(cs q).take _=_;rw[h];rw[show cs p++47::t=(cs p++[47])++t by simp];rw[List.take_left' (by simp)]
theorem Nl (p t:Str):Ih p (p++"/"++t)=true:=by
 rw[OI];refine⟨cs t,?_⟩;have:cs ("/":Str)=[47]:=by decide +kernel
 rw[cs_append,cs_append,this];simp
abbrev Fi:=Da×Da
abbrev Dk:=List Fi
def A4 (ls:Da):Str:=Lj "/" ls
structure OkS (S:Di):Prop where
 good:GoodS S
 th:∀e∈S,Hq e
 num:∀e∈S,e.n<S.length
def At (S:Di)(x:Str)(t:Th):Prop:=∃e∈S,e.nm=x/\e.d=t.dat
section
variable {S T:Di}{x y:Str}{t u:Th}
theorem Rg (g:(S.map En.nm).Nodup){e f:En}(he:e∈S)(hf:f∈S)(h:e.nm=f.nm):e=f:=by
 obtain⟨i,hi,rfl⟩:=ZJ.mp he;obtain⟨j,hj,rfl⟩:=ZJ.mp hf;have:=(YV (h₀:=by simpa using hi) (h₁:=by simpa using hj) g).mp (by rwa[ZF,ZF]);subst this;rfl
theorem At.thing (g:OkS S)(h:At S x t)(k:At S x u):t=u:=by
 obtain⟨e,he,rfl,hd⟩:=h;obtain⟨f,hf,fn,fd⟩:=k;have:=Rg g.good.nn hf he fn;subst this;exact uM (hd.symm.trans fd)
theorem At.name (g:OkS S)(h:At S x t)(k:At S y t):x=y:=by
 obtain⟨e,he,rfl,hd⟩:=h;obtain⟨f,hf,rfl,fd⟩:=k;rw[Rc g.good.nd he hf (hd.trans fd.symm)]
theorem At.more (h:At S x t):At (S++T) x t:=let ⟨e,he,a⟩:=h;⟨e,ZC _ he,a⟩
theorem At.mem (h:At S x t):x∈S.map En.nm:=let ⟨e,he,a,_⟩:=h;QZ.mpr ⟨e,he,a⟩
end
noncomputable def PF (S:Di)(x:Str):Option Th:=open Classical in if h:∃t,At S x t then some (choose h) else none
theorem G6 (g:OkS S)(h:At S x t):PF S x=some t:=by
 unfold PF;have ex:∃t,At S x t:=⟨t,h⟩;rw[dif_pos ex];exact congrArg some (At.thing g (Classical.choose_spec ex) h)
noncomputable def reads:Nat->Di->Str->Dk
 | 0,_,_=>[]
 |d+1,S,x=>match PF S x with
  |some (.leaf ls)=>[([],ls)]
  |some (.tree Do)=>Do.flatMap fun r=>(reads d S r.2).map fun f=>(r.1::f.1,f.2)
  |_=>[]
theorem k8 {ls:Da}{d:Nat}(g:OkS S)(h:At S x (.leaf ls)):reads (d+1) S x=[([],ls)]:=by
 show(match PF S x with|some (.leaf ls)=>[([],ls)]|some (.tree Do)=>_|_=>_)=_;rw[G6 g h]
theorem kW {Do:Dg}{d:Nat}(g:OkS S)(h:At S x (.tree Do)):reads (d+1) S x=Do.flatMap fun r=>(reads d S r.2).map fun f=>(r.1::f.1,f.2):=by
 show(match PF S x with|some (.leaf ls)=>[([],ls)]|some (.tree Do)=>_|_=>_)=_;rw[G6 g h]
def SL (a b:Str):Prop:=cs a<cs b
def Tree:Nat->Di->Str->Prop
 | 0,_,_=>False
 |d+1,S,x=>(∃ls,At S x (.leaf ls))\/∃Do,At S x (.tree Do)/\(Do.map (·.1)).Pairwise SL/\∀r∈Do,z9 r.1=true/\Tree d S r.2/\reads d S r.2≠[]
theorem Tree.more {S T:Di}(g:OkS (S++T))(g0:OkS S):∀{d:Nat} {x:Str},Tree d S x->Tree d (S++T) x/\reads d (S++T) x=reads d S x
 | 0,_,h=>absurd h (fun z=>z)
 |d+1,x,h=>by
  rcases h with⟨ls,h⟩|⟨Do,h,so,hr⟩
  ·exact⟨.inl ⟨ls,h.more⟩,by rw[k8 g h.more,k8 g0 h]⟩
  ·have ih:∀r∈Do,Tree d (S++T) r.2/\reads d (S++T) r.2=reads d S r.2:=fun r m=>Tree.more g g0 (hr r m).2.1;refine⟨.inr ⟨Do,h.more,so,fun r m=>⟨(hr r m).1,(ih r m).1,by rw[(ih r m).2];exact(hr r m).2.2⟩⟩,?_⟩;rw[kW g h.more,kW g0 h];rw[J8,J8]
   congr 1
   exact Z0 fun r m=>by rw[(ih r m).2]
theorem Tree.mem (h:Tree d S x):x∈S.map En.nm:=by
 cases d with
 |zero=>exact absurd h (fun z=>z)
 |succ d =>
  rcases h with⟨ls,h⟩|⟨Do,h,_⟩
  ·exact h.mem
  ·exact h.mem
theorem Ij (l:Str){p:Da}(h:p≠[]):cs (A4 (l::p))=cs l++47::cs (A4 p):=by
 unfold A4;rw[qW,qW,Zn,Xe (by simpa using h)]
theorem HE (l:Str):cs (A4 [l])=cs l:=by
 unfold A4;rw[qW];rfl
theorem Sf (h:SL a b):a≠b:=fun z=>by subst z;exact List.lt_irrefl _ h
noncomputable def A0 (S:Di)(t:Th):List En×Str:=open Classical in if h:∃x,At S x t then(S,choose h) else(S++[Uh S t],(Uh S t).nm)
section
variable {S T:Di}{x:Str}{t:Th}
theorem Bl (g:OkS S)(h:At S x t):A0 S t=(S,x):=by
 unfold A0;have ex:∃x,At S x t:=⟨x,h⟩;rw[dif_pos ex];exact congrArg (Prod.mk S) (At.name g (Classical.choose_spec ex) h)
theorem BE (h:∀e∈S,e.d≠t.dat):A0 S t=(S++[Uh S t],(Uh S t).nm):=by
 unfold A0;rw[dif_neg];rintro⟨x,e,he,_,hd⟩;exact h e he hd
theorem P0 {e:En}(h:e.h=VW t)(hn:e.n<1000000):Ok 1000 e.nm:=by
 refine⟨?_,?_⟩
 ·have h1:=kH t;have h2:(V1 e.n).length<=10:=Je (by omega) (by decide) (by
   have:e.n<10 ^ 9:=by omega
   omega)
  unfold En.nm;rw[len_append,len_append,h];have:dot.length=1:=rfl;omega
 ·unfold En.nm;rw[h];exact FL (FL (FL (KH t) (FK _)) (by decide +kernel)) (FK _)
theorem OkS.nm (g:OkS S){e:En}(he:e∈S):Ok 1000 e.nm:=by
 obtain⟨t,_,_,h⟩:=g.th e he;exact P0 h (g.good.ent e he).num
theorem OkS.snoc (g:OkS S)(gt:t.Good)(l:S.length<2000)(h:∀e∈S,e.d≠t.dat):OkS (S++[Uh S t]):=by
 have nl:=Hx g.num (VW t);refine⟨g.good.snoc ⟨uZ gt,jU t,?_,kH t⟩ (fun z=>?_) (Ng g.good (jU t)) l,fun e he=>?_,fun e he=>?_⟩
 ·show(nextOf S (VW t)).getD 0<1000000;omega
 ·obtain⟨e,he,hd⟩:=QZ.mp z;exact h e he hd
 ·rcases Zf.mp he with z|z
  ·exact g.th e z
  ·rw[QV.mp z];exact⟨t,rfl,gt,rfl⟩
 ·rw[Q4,ZN]
  rcases Zf.mp he with z|z
  ·have:=g.num e z;omega
  ·rw[QV.mp z];show(nextOf S (VW t)).getD 0<_;omega
theorem kA (g:OkS S)(gt:t.Good)(l:S.length<2000):OkS (A0 S t).1/\At (A0 S t).1 (A0 S t).2 t/\(A0 S t).1.length<=S.length+1/\∃T,(A0 S t).1=S++T/\∀e∈T,e.nm=(A0 S t).2:=by
 by_cases z:∃x,At S x t
 ·obtain⟨x,h⟩:=z;rw[Bl g h];exact⟨g,h,Jm _,[],(Zy _).symm,fun e he=>(nomatch he)⟩
 ·have h:∀e∈S,e.d≠t.dat:=fun e he hd=>z ⟨e.nm,e,he,rfl,hd⟩;rw[BE h];exact⟨g.snoc gt l h,⟨_,Zo _ (QV.mpr rfl),rfl,rfl⟩,by rw[Q4];exact Q2 _,[Uh S t],rfl,fun e he=>by rw[QV.mp he]⟩
end
noncomputable def met:Nat->Di->Str->Da
 | 0,_,_=>[]
 |d+1,S,x=>x::match PF S x with
  |some (.tree Do)=>Do.flatMap fun r=>met d S r.2
  |_=>[]
theorem CI {ls:Da}{d:Nat}(g:OkS S)(h:At S x (.leaf ls)):met (d+1) S x=[x]:=by
 show x::(match PF S x with|some (.tree Do)=>_|_=>_)=_;rw[G6 g h]
theorem X9 {Do:Dg}{d:Nat}(g:OkS S)(h:At S x (.tree Do)):met (d+1) S x=x::Do.flatMap fun r=>met d S r.2:=by
 show x::(match PF S x with|some (.tree Do)=>_|_=>_)=_;rw[G6 g h]
theorem Nb {x:Str}{d:Nat}:x∈met (d+1) S x:=Q1 ..
theorem Tree.met_more {S T:Di}(g:OkS (S++T))(g0:OkS S):∀{d:Nat} {x:Str},Tree d S x->met d (S++T) x=met d S x
 | 0,_,h=>absurd h (fun z=>z)
 |d+1,x,h=>by
  rcases h with⟨ls,h⟩|⟨Do,h,so,hr⟩
  ·rw[CI g h.more,CI g0 h]
  ·rw[X9 g h.more,X9 g0 h,J8,J8]
   congr 2
   exact Z0 fun r m=>Tree.met_more g g0 (hr r m).2.1
def RN (a b:Str×Str):Bool:=!decide (cs b.1<cs a.1)
def V2 (Do:Dg):Dg:=Do.mergeSort RN
theorem leR_iff:RN a b=true↔cs a.1<=cs b.1:=by
 unfold RN;rw[Y9,YM];exact Jy
theorem BP (Do:Dg):(V2 Do).Pairwise (fun a b=>RN a b=true) :=
 List.pairwise_mergeSort (le:=RN) (fun a b c h1 h2=>leR_iff.mpr (List.le_trans (leR_iff.mp h1) (leR_iff.mp h2))) (fun a b=>by
  rw[VD,leR_iff (a:=a) (b:=b),leR_iff (a:=b) (b:=a)];exact List.le_total _ _) Do
theorem yF (Do:Dg):(V2 Do).Perm Do:=List.mergeSort_perm Do RN
theorem CV {Do:Dg}(nd:(Do.map (·.1)).Nodup):((V2 Do).map (·.1)).Pairwise SL:=by
 have nd2:((V2 Do).map (·.1)).Nodup:=((yF Do).map _).nodup_iff.mpr nd;have h1:((V2 Do).map (·.1)).Pairwise (fun a b=>cs a<=cs b):=List.pairwise_map.mpr ((BP Do).imp fun{a b} h=>leR_iff.mp h);exact(h1.and (Y2.mp nd2)).imp fun{a b} h=>by
  by_cases z:cs a<cs b
  ·exact z
  ·exact absurd (cs_inj (Vy h.1 (Jy.mp z))) h.2
theorem NL {Do ss:Dg}(nd:(Do.map (·.1)).Nodup)(p:ss.Perm Do)(so:ss.Pairwise (fun a b=>cs a.1<=cs b.1)):ss=V2 Do:=by
 refine List.Perm.eq_of_pairwise (le:=fun a b=>cs a.1<=cs b.1) (fun a b ha hb h1 h2=>?_) so ((BP Do).imp fun{a b} h=>leR_iff.mp h) (p.trans (yF Do).symm);have e:=cs_inj (Vy h1 h2);have ha:=p.mem_iff.mp ha;have hb:=(yF Do).mem_iff.mp hb;obtain⟨i,hi,rfl⟩:=ZJ.mp ha;obtain⟨j,hj,rfl⟩:=ZJ.mp hb;have:=(YV (h₀:=by simpa using hi) (h₁:=by simpa using hj) nd).mp (by rwa[ZF,ZF]);subst this;rfl
theorem IM {α β:Type}{f:α->β}{l:List α}(h:(l.map f).Nodup):l.Nodup:=by
 rw[Y2]at h ⊢;rw[List.pairwise_map]at h;exact h.imp fun{a b} n e=>n (by rw[e])
def Uc (ls:Da):Prop:=ls.length<=63/\∀l∈ls,VS l=true
structure GoodF (d:Nat)(fs:Dk):Prop where
 lab:∀f∈fs,f.1≠[]/\f.1.length<=d/\(∀l∈f.1,z9 l=true)/\Uc f.2
 nd:(fs.map (·.1)).Nodup
 pre:∀f∈fs,∀k∈fs,∀t,k.1=f.1++t->t=[]
def A5 (fs:Dk):List (Str×Da):=fs.filterMap fun f=>match f.1 with
 |[a]=>some (a,f.2)
 |_=>none
def Ut (l:Str)(f:Fi):Option Fi:=match f.1 with
 |a::b::r=>if a=l then some (b::r,f.2) else none
 |_=>none
def sub (fs:Dk)(l:Str):Dk:=fs.filterMap (Ut l)
def x9 (L:Da)(p:Str):Da:=if p∈L then L else L++[p]
def A6 (fs:Dk):Da:=fs.foldl (fun L f=>match f.1 with
 |a::_::_=>x9 L a
 |_=>L) []
theorem FH {q:Str}:q∈x9 L p↔q∈L\/q=p:=by
 unfold x9
 split
 ·rename_i h;exact⟨.inl,fun z=>z.elim id (fun z=>z▸h)⟩
 ·rw[Zf,QV]
theorem Kd {L:Da}(h:L.Nodup):(x9 L p).Nodup:=by
 unfold x9
 split
 ·exact h
 ·rename_i z;exact q8 h z
theorem jT (fs:Dk)(f:Fi):A6 (fs++[f])=match f.1 with
 |a::_::_=>x9 (A6 fs) a
 |_=>A6 fs:=by
 unfold A6;rw[Z5];rfl
theorem yV (fs:Dk):(A6 fs).Nodup/\∀l,l∈A6 fs↔∃f∈fs,∃b r,f.1=l::b::r:=by
 induction fs using snoc_ind with
 |h0=>exact⟨Yb,fun l=>⟨fun h=>(nomatch h),fun⟨f,hf,_⟩=>(nomatch hf)⟩⟩
 |h1 fs f ih =>
  rw[jT];have old:∀l,(∃k∈fs++[f],∃b r,k.1=l::b::r)↔(∃k∈fs,∃b r,k.1=l::b::r)\/∃b r,f.1=l::b::r:=fun l=>by
   constructor
   ·rintro⟨k,hk,z⟩
    rcases Zf.mp hk with q|q
    ·exact .inl ⟨k,q,z⟩
    ·rw[QV.mp q]at z;exact .inr z
   ·rintro(⟨k,hk,z⟩|z)
    ·exact⟨k,ZC _ hk,z⟩
    ·exact⟨f,Zo _ (QV.mpr rfl),z⟩
  match e:f.1 with
  |[]=>exact⟨ih.1,fun l=>by rw[old,ih.2,e];exact⟨.inl,fun z=>z.elim id fun⟨b,r,z⟩=>(nomatch z)⟩⟩
  |[a]=>exact⟨ih.1,fun l=>by rw[old,ih.2,e];exact⟨.inl,fun z=>z.elim id fun⟨b,r,z⟩=>(nomatch z)⟩⟩
  |a::b::r =>
   refine⟨Kd ih.1,fun l=>?_⟩;show l∈x9 (A6 fs) a↔_;rw[FH,ih.2,old,e];exact or_congr Iff.rfl ⟨fun z=>⟨b,r,by rw[z]⟩,fun⟨_,_,z⟩=>(List.cons.inj z).1.symm⟩
theorem mem_sub {k:Fi}:k∈sub fs l↔k.1≠[]/\(l::k.1,k.2)∈fs:=by
 unfold sub;rw[YZ];constructor
 ·rintro⟨f,hf,e⟩;unfold Ut at e
  split at e
  ·rename_i a b r q
   split at e
   ·rename_i z;subst z;cases e;refine⟨Yv _ _,?_⟩;have:f=(a::b::r,f.2):=Prod.ext q rfl;rwa[←this]
   ·cases e
  ·cases e
 ·rintro⟨h0,hf⟩;refine⟨_,hf,?_⟩;cases q:k.1 with
  |nil=>exact absurd q h0
  |cons b r =>
   unfold Ut;show(if l=l then some ((b::r,k.2):Fi) else none)=some k;rw[Zk rfl]
   congr 1
   exact Prod.ext q.symm rfl
theorem mem_lvs {a:Str}{ls:Da}:(a,ls)∈A5 fs↔([a],ls)∈fs:=by
 unfold A5;rw[YZ];constructor
 ·rintro⟨f,hf,e⟩
  split at e
  ·rename_i b q;cases e;have:f=([a],f.2):=Prod.ext q rfl;rwa[←this]
  ·cases e
 ·intro h;exact⟨_,h,rfl⟩
theorem GoodF.sub {d:Nat}(h:GoodF (d+1) fs)(l:Str):GoodF d (sub fs l):=by
 refine⟨fun k hk=>?_,?_,fun k hk m hm t e=>?_⟩
 ·obtain⟨h0,hf⟩:=mem_sub.mp hk;obtain⟨_,h2,h3,h4⟩:=h.lab _ hf;have h2:k.1.length+1<=d+1:=h2;exact⟨h0,by omega,fun z hz=>h3 z (QY _ hz),h4⟩
 ·have:((An.sub fs l).map fun k=>l::k.1).Sublist (fs.map (·.1)):=by
   unfold An.sub;have:∀fs:Dk,((fs.filterMap (Ut l)).map fun k=>l::k.1).Sublist (fs.map (·.1)):=by
    intro fs
    induction fs with
    |nil=>exact List.Sublist.slnil
    |cons f fs ih =>
     rw[Yy,Zn];cases q:Ut l f with
     |none=>exact ih.cons _
     |some k =>
      show((l::k.1)::_).Sublist _;have e:l::k.1=f.1:=by
       unfold Ut at q
       split at q
       ·rename_i a b r e
        split at q
        ·rename_i z;subst z;cases q;exact e.symm
        ·cases q
       ·cases q
      rw[e];exact ih.cons₂ _
   exact this fs
  have:=this.nodup h.nd;have e:((An.sub fs l).map fun k=>l::k.1)=((An.sub fs l).map (·.1)).map (List.cons l):=by rw[Zv];rfl
  rw[e]at this;exact IM this
 ·obtain⟨_,hf⟩:=mem_sub.mp hk;obtain⟨_,hg⟩:=mem_sub.mp hm;exact h.pre _ hf _ hg t (by show l::m.1=l::k.1++t;rw[e];rfl)
noncomputable def AY (a:List En×Dg)(f:Str×Da):List En×Dg:=((A0 a.1 (.leaf f.2)).1,a.2++[(f.1,(A0 a.1 (.leaf f.2)).2)])
noncomputable def VN:Nat->Di->Dk->List En×Str
 | 0,S,_=>(S,"")
 |d+1,S,fs =>
  let b:=(A6 fs).foldl (fun a l=>((VN d a.1 (sub fs l)).1,a.2++[(l,(VN d a.1 (sub fs l)).2)])) ((A5 fs).foldl AY (S,[]))
  A0 b.1 (.tree (V2 b.2))
structure Fo (d:Nat)(S0 S:Di)(Do:Dg)(ps:List (Str×Dk)):Prop where
 ok:OkS S
 new:∃T,S=S0++T/\∀e∈T,∃r∈Do,e.nm∈met d S r.2
 lab:Do.map (·.1)=ps.map (·.1)
 rd:∀(i:Nat) (r:Str×Str) (p:Str×Dk),Do[i]?=some r->ps[i]?=some p->Tree d S r.2/\∀f,f∈reads d S r.2↔f∈p.2
theorem Fo.nil (g:OkS S):Fo d S S [] []:=⟨g,⟨[],(Zy _).symm,fun e he=>(nomatch he)⟩,rfl,fun i r p h=>(nomatch h)⟩
theorem Fo.len (h:Fo d S0 S Do ps):Do.length=ps.length:=by
 have:=congrArg List.length h.lab;rw[QU,QU]at this;exact this
theorem Fo.step {T:Di}(h:Fo d S0 S Do ps){l n:Str}{g:Dk}(ok:OkS (S++T))(new:∀e∈T,e.nm∈met d (S++T) n)(tr:Tree d (S++T) n)(rd:∀f,f∈reads d (S++T) n↔f∈g):Fo d S0 (S++T) (Do++[(l,n)]) (ps++[(l,g)]):=by
 obtain⟨T0,e0,h0⟩:=h.new;refine⟨ok,⟨T0++T,by rw[←Z6,←e0],fun e he=>?_⟩,by rw[Q6,Q6,h.lab];rfl,fun i r p hi hp=>?_⟩
 ·rcases Zf.mp he with z|z
  ·obtain⟨r,hr,m⟩:=h0 e z;obtain⟨i,hi⟩:=Z7.mp hr;have hl:=(Zl.mp hi).1;obtain⟨t,_⟩:=h.rd i r _ hi (Q5 (by rwa[←h.len]));exact⟨r,ZC _ hr,by rw[t.met_more ok h.ok];exact m⟩
  ·exact⟨(l,n),Zo _ (QV.mpr rfl),new e z⟩
 ·by_cases z:i<Do.length
  ·rw[ZI z]at hi;rw[ZI (by rwa[←h.len])]at hp;obtain⟨t,k⟩:=h.rd i r p hi hp;obtain⟨t2,k2⟩:=t.more ok h.ok;exact⟨t2,by rw[k2];exact k⟩
  ·rw[ZQ (by omega)]at hi;rw[ZQ (by rw[←h.len];omega)]at hp;have z0:i-Do.length=0:=by
    rcases Y1 (i-Do.length) with q|q
    ·exact q
    ·rw[JB.mpr (by show 1<=_;omega)]at hi;cases hi
   rw[z0]at hi;rw[←h.len,z0]at hp;cases hi;cases hp;exact⟨tr,rd⟩
theorem flat_len:∀rs:Dg,(z5 rs).length=2*rs.length
 |[]=>rfl
 |r::rs=>by
  show(z5 rs).length+1+1=2*(rs.length+1);rw[flat_len rs];omega
theorem CH:∀{rs:Dg} {p:Str},p∈z5 rs->∃r∈rs,p=r.1\/p=r.2
 |r::rs,p,h=>by
  rcases Q7.mp h with q|h
  ·exact⟨r,Q1 ..,.inl q⟩
  ·rcases Q7.mp h with q|h
   ·exact⟨r,Q1 ..,.inr q⟩
   ·obtain⟨s,hs,q⟩:=CH h;exact⟨s,QY _ hs,q⟩
structure PutOk (d:Nat)(S:Di)(fs:Dk)(q:List En×Str):Prop where
 ok:OkS q.1
 new:∃T,q.1=S++T/\∀e∈T,e.nm∈met d q.1 q.2
 tree:Tree d q.1 q.2
 rd:∀f,f∈reads d q.1 q.2↔f∈fs
 node:∃Do,At q.1 q.2 (.tree Do)
theorem IR (h:z9 x=true):Ok 1000 x:=by
 unfold z9 at h;rw[Q8,Q8,ZP,ZP]at h;refine⟨by omega,?_⟩;rw[qB];intro c hc;have:=Zu.mp h.2 c hc;unfold UH at this;simp only[Q8,ZP]at this;omega
theorem GM (g:OkS S){Do:Dg}(hl:Do.length<=63)(h:∀r∈Do,z9 r.1=true/\r.2∈S.map En.nm):(Th.tree Do).Good:=by
 refine⟨by show(z5 Do).length<=1000;rw[flat_len];omega,fun p hp=>?_⟩;obtain⟨r,hr,q⟩:=CH hp;obtain⟨h1,h2⟩:=h r hr
 rcases q with q|q
 ·rw[q];exact IR h1
 ·obtain⟨e,he,en⟩:=QZ.mp h2;rw[q,←en];exact g.nm he
theorem Fo.put (h:Fo d S0 S Do ps)(hl:Do.length<=63)(nd:(ps.map (·.1)).Nodup)(lb:∀p∈ps,z9 p.1=true/\p.2≠[])(ls:S.length<2000):PutOk (d+1) S0 (ps.flatMap fun p=>p.2.map fun f=>(p.1::f.1,f.2)) (A0 S (.tree (V2 Do)))/\(A0 S (.tree (V2 Do))).1.length<=S.length+1:=by
 have at_:∀r∈Do,∃p∈ps,r.1=p.1/\Tree d S r.2/\∀f,f∈reads d S r.2↔f∈p.2:=fun r hr=>by
  obtain⟨i,hi⟩:=Z7.mp hr;have hl:=(Zl.mp hi).1;have hp:=Q5 (l:=ps) (i:=i) (by rwa[←h.len]);have e:=congrArg (fun l=>l[i]?) h.lab;simp only[Za,hi,hp,Yl]at e;exact⟨_,ZV _,Option.some.inj e,h.rd i r _ hi hp⟩
 have ta:∀p∈ps,∃r∈Do,r.1=p.1/\Tree d S r.2/\∀f,f∈reads d S r.2↔f∈p.2:=fun p hp'=>by
  obtain⟨i,hp⟩:=Z7.mp hp';have hl:=(Zl.mp hp).1;have hi:=Q5 (l:=Do) (i:=i) (by rwa[h.len]);have e:=congrArg (fun l=>l[i]?) h.lab;simp only[Za,hi,hp,Yl]at e;exact⟨_,ZV _,Option.some.inj e,h.rd i _ p hi hp⟩
 have ms:∀{r},r∈V2 Do↔r∈Do:=(yF Do).mem_iff;have gt:(Th.tree (V2 Do)).Good:=GM h.ok (by rwa[(yF Do).length_eq]) fun r hr=>by
  obtain⟨p,hp,e,t,_⟩:=at_ r (ms.mp hr);exact⟨by rw[e];exact(lb p hp).1,t.mem⟩
 obtain⟨ok,at1,l1,T,eT,hT⟩:=kA h.ok gt ls;refine⟨?_,l1⟩;have ne:∀r∈Do,reads d S r.2≠[]:=fun r hr=>by
  obtain⟨p,hp,e,t,k⟩:=at_ r hr;intro z;refine(lb p hp).2 (Jl.mpr fun f hf=>?_);rw[←k,z]at hf;cases hf
 rw[eT]at ok at1;have mo:∀r∈Do,Tree d (S++T) r.2/\reads d (S++T) r.2=reads d S r.2:=fun r hr=>by
  obtain⟨p,hp,e,t,k⟩:=at_ r hr;exact t.more ok h.ok
 obtain⟨T0,e0,h0⟩:=h.new;refine⟨by rw[eT];exact ok,⟨T0++T,by rw[eT,e0,Z6],fun e he=>?_⟩,?_,fun f=>?_,⟨_,by rw[eT];exact at1⟩⟩
 ·rw[eT,X9 ok at1]
  rcases Zf.mp he with z|z
  ·obtain⟨r,hr,m⟩:=h0 e z;obtain⟨p,hp,_,t,_⟩:=at_ r hr;exact QY _ (J9.mpr ⟨r,ms.mpr hr,by rw[t.met_more ok h.ok];exact m⟩)
  ·rw[hT e z];exact Q1 ..
 ·rw[eT];refine .inr ⟨_,at1,CV (by rwa[h.lab]),fun r hr=>?_⟩;have hr:=ms.mp hr;obtain⟨p,hp,e,t,_⟩:=at_ r hr;exact⟨by rw[e];exact(lb p hp).1,(mo r hr).1,by rw[(mo r hr).2];exact ne r hr⟩
 ·rw[eT,kW ok at1,J9,J9];constructor
  ·rintro⟨r,hr,hf⟩;have hr:=ms.mp hr;obtain⟨p,hp,e,t,k⟩:=at_ r hr;obtain⟨f',hf',rfl⟩:=QZ.mp hf;rw[(mo r hr).2,k]at hf';exact⟨p,hp,QZ.mpr ⟨f',hf',by rw[e]⟩⟩
  ·rintro⟨p,hp,hf⟩;obtain⟨r,hr,e,t,k⟩:=ta p hp;obtain⟨f',hf',rfl⟩:=QZ.mp hf;exact⟨r,ms.mpr hr,QZ.mpr ⟨f',by rw[(mo r hr).2,k];exact hf',by rw[e]⟩⟩
def wt (fs:Dk):Nat:=(fs.map fun f=>f.1.length).sum
theorem F9 (a b:Dk):wt (a++b)=wt a+wt b:=by
 unfold wt;rw[Q6,VG]
theorem MY (h:VS x=true):Ok 1000 x:=by
 unfold VS at h;rw[Q8,ZP]at h;refine⟨by omega,?_⟩;rw[qB];intro c hc;have:=Zu.mp h.2 c hc;unfold V7 at this;simp only[Q8,ZP]at this;omega
theorem qI (h:Uc ls):(Th.leaf ls).Good:=⟨by show ls.length<=1000;have:=h.1;omega,fun p hp=>MY (h.2 p hp)⟩
theorem Xd {d:Nat}:∀(vs:List (Str×Da)) {S:Di} {Do:Dg} {ps:List (Str×Dk)},Fo (d+1) S0 S Do ps->(∀v∈vs,Uc v.2)->S.length+vs.length<=2000 ->
  Fo (d+1) S0 (vs.foldl AY (S,Do)).1 (vs.foldl AY (S,Do)).2 (ps++vs.map fun v=>(v.1,[([],v.2)]))/\(vs.foldl AY (S,Do)).1.length<=S.length+vs.length
 |[],S,Do,ps,h,_,_=>⟨by rw[JQ,Zy];exact h,Q2 _⟩
 |v::vs,S,Do,ps,h,hv,hl=>by
  have hl:S.length+(vs.length+1)<=2000:=hl;obtain⟨ok,at1,l1,T,eT,hT⟩:=kA h.ok (qI (hv v (Q1 ..))) (by omega);rw[Jt];show Fo (d+1) S0 (vs.foldl AY (AY (S,Do) v)).1 (vs.foldl AY (AY (S,Do) v)).2 _/\(vs.foldl AY (AY (S,Do) v)).1.length<=S.length+(vs.length+1);have e:AY (S,Do) v=((A0 S (.leaf v.2)).1,Do++[(v.1,(A0 S (.leaf v.2)).2)]):=rfl;rw[e,Zn,show ps++(v.1,[(([],v.2):Fi)])::vs.map (fun v=>(v.1,[(([],v.2):Fi)]))=(ps++[(v.1,[(([],v.2):Fi)])])++vs.map (fun v=>(v.1,[(([],v.2):Fi)])) by simp];have st:Fo (d+1) S0 (A0 S (.leaf v.2)).1 (Do++[(v.1,(A0 S (.leaf v.2)).2)]) (ps++[(v.1,[(([],v.2):Fi)])]):=by
   generalize (A0 S (.leaf v.2)).2=n at at1 hT ⊢;rw[eT]at ok at1 ⊢;exact h.step ok (fun e he=>by rw[hT e he];exact Nb) (.inl ⟨_,at1⟩) (fun f=>by rw[k8 ok at1])
  obtain⟨f1,f2⟩:=Xd vs st (fun w hw=>hv w (QY _ hw)) (by omega);exact⟨f1,by omega⟩
noncomputable def A1 (d:Nat)(fs:Dk)(a:List En×Dg)(l:Str):List En×Dg:=((VN d a.1 (sub fs l)).1,a.2++[(l,(VN d a.1 (sub fs l)).2)])
theorem uJ (d:Nat)(S:Di)(fs:Dk):VN (d+1) S fs=A0 ((A6 fs).foldl (A1 d fs) ((A5 fs).foldl AY (S,[]))).1 (.tree (V2 ((A6 fs).foldl (A1 d fs) ((A5 fs).foldl AY (S,[]))).2)):=rfl
theorem Ft {S0:Di}:∀(ls:Da) (H:∀l∈ls,∀S,OkS S->S.length+1+wt (sub fs l)<=2000->PutOk e S (sub fs l) (VN d S (sub fs l))/\(VN d S (sub fs l)).1.length<=S.length+1+wt (sub fs l)) {S:Di} {Do:Dg} {ps:List (Str×Dk)},
  Fo e S0 S Do ps->S.length+(ls.map fun l=>1+wt (sub fs l)).sum<=2000 ->
  Fo e S0 (ls.foldl (A1 d fs) (S,Do)).1 (ls.foldl (A1 d fs) (S,Do)).2 (ps++ls.map fun l=>(l,sub fs l))/\(ls.foldl (A1 d fs) (S,Do)).1.length<=S.length+(ls.map fun l=>1+wt (sub fs l)).sum
 |[],_,S,Do,ps,h,_=>⟨by rw[JQ,Zy];exact h,Q2 _⟩
 |l::ls,H,S,Do,ps,h,hl=>by
  rw[Zn,YG]at hl;obtain⟨pk,l1⟩:=H l (Q1 ..) S h.ok (by omega);rw[Jt,Zn,Zn,YG];have e':A1 d fs (S,Do) l=((VN d S (sub fs l)).1,Do++[(l,(VN d S (sub fs l)).2)]):=rfl;rw[e',show ps++(l,sub fs l)::ls.map (fun l=>(l,sub fs l))=(ps++[(l,sub fs l)])++ls.map (fun l=>(l,sub fs l)) by simp];obtain⟨ok,⟨T,eT,hT⟩,tr,rd,_⟩:=pk;have st:Fo e S0 (VN d S (sub fs l)).1 (Do++[(l,(VN d S (sub fs l)).2)]) (ps++[(l,sub fs l)]):=by
   generalize (VN d S (sub fs l)).2=n at hT tr rd ⊢;rw[eT]at ok hT tr rd ⊢;exact h.step ok hT tr rd
  obtain⟨f1,f2⟩:=Ft ls (fun w hw=>H w (QY _ hw)) st (by omega);exact⟨f1,by omega⟩
theorem Fc {g g':Str->Nat}{a:Str}{c:Nat}(h:∀l,l≠a->g' l=g l)(ha:g' a<=g a+c):∀{L:Da},L.Nodup->(L.map g').sum<=(L.map g).sum+c
 |[],_=>Zz _
 |l::L,nd=>by
  rw[Z1]at nd;rw[Zn,Zn,YG,YG]
  by_cases z:l=a
  ·subst z;have:L.map g'=L.map g:=Z0 fun m hm=>h m fun q=>nd.1 (q▸hm);rw[this];omega
  ·have:=Fc h ha nd.2;rw[h l z];omega
theorem sub_snoc (fs:Dk)(f:Fi)(l:Str):sub (fs++[f]) l=sub fs l++(Ut l f).toList:=by
 unfold sub;rw[List.filterMap_append]
 congr 1
theorem NZ {f:Fi}(h:f.1=[]):Ut l f=none:=by unfold Ut;rw[h]
theorem Fb {f:Fi}{a:Str}(h:f.1=[a]):Ut l f=none:=by unfold Ut;rw[h]
theorem uY {f:Fi}{a b:Str}{r:Da}(h:f.1=a::b::r):Ut l f=if a=l then some (b::r,f.2) else none:=by unfold Ut;rw[h]
theorem uX (fs:Dk)(f:Fi):A5 (fs++[f])=A5 fs++(match f.1 with|[a]=>[(a,f.2)]|_=>[]):=by
 unfold A5;rw[List.filterMap_append]
 congr 1
 rw[Yy]
 match f.1 with
 |[]=>rfl
 |[a]=>rfl
 |a::b::r=>rfl
theorem many (fs:Dk):(A5 fs).length+((A6 fs).map fun l=>1+wt (sub fs l)).sum<=wt fs:=by
 induction fs using snoc_ind with
 |h0=>exact Q2 _
 |h1 fs f ih =>
  have same:(∀l,Ut l f=none)->∀l,sub (fs++[f]) l=sub fs l:=fun h l=>by rw[sub_snoc,h l];exact Zy _
  rw[F9,uX,jT,Q4];have w1:wt [f]=f.1.length:=by unfold wt;simp
  rw[w1]
  match e:f.1 with
  |[] =>
   have:=same fun l=>NZ e;rw[show(fun l=>1+wt (sub (fs++[f]) l))=fun l=>1+wt (sub fs l) from funext fun l=>by rw[this l]];show(A5 fs).length+0+((A6 fs).map fun l=>1+wt (sub fs l)).sum<=wt fs+0;omega
  |[a] =>
   have:=same fun l=>Fb e;rw[show(fun l=>1+wt (sub (fs++[f]) l))=fun l=>1+wt (sub fs l) from funext fun l=>by rw[this l]];show(A5 fs).length+1+((A6 fs).map fun l=>1+wt (sub fs l)).sum<=wt fs+1;omega
  |a::b::r =>
   show(A5 fs).length+0+((x9 (A6 fs) a).map fun l=>1+wt (sub (fs++[f]) l)).sum<=wt fs+(r.length+1+1);have hne:∀l,l≠a->1+wt (sub (fs++[f]) l)=1+wt (sub fs l):=fun l hl=>by
    rw[sub_snoc,uY e,Zh (ED hl)];show 1+wt (sub fs l++[])=_;rw[Zy]
   have ha:1+wt (sub (fs++[f]) a)=1+wt (sub fs a)+(r.length+1):=by
    rw[sub_snoc,uY e,Zk rfl];show 1+wt (sub fs a++[(b::r,f.2)])=_;rw[F9];show 1+(wt (sub fs a)+((b::r).length+0))=_;rw[Zd];omega
   have bump:=Fc (g:=fun l=>1+wt (sub fs l)) (g':=fun l=>1+wt (sub (fs++[f]) l)) (a:=a) (c:=r.length+1) hne (JP ha) (yV fs).1;unfold x9
   split
   ·omega
   ·rename_i z;rw[Q6,VG];have s0:sub fs a=[]:=Jl.mpr fun k hk=>by
     obtain⟨h0,hf⟩:=mem_sub.mp hk;refine z (((yV fs).2 a).mpr ⟨_,hf,?_⟩);cases q:k.1 with
     |nil=>exact absurd q h0
     |cons b r=>exact⟨b,r,rfl⟩
    have same2:(A6 fs).map (fun l=>1+wt (sub (fs++[f]) l))=(A6 fs).map (fun l=>1+wt (sub fs l)):=Z0 fun l hl=>hne l fun q=>z (q▸hl);rw[same2];show(A5 fs).length+0+(((A6 fs).map fun l=>1+wt (sub fs l)).sum+((1+wt (sub (fs++[f]) a))+0))<=_;rw[ha,s0];show _+(_+(1+0+(r.length+1)+0))<=_;omega
def pieces (fs:Dk):List (Str×Dk):=(A5 fs).map (fun v=>(v.1,[([],v.2)]))++(A6 fs).map fun l=>(l,sub fs l)
theorem FN (g:GoodF d fs)(f:Fi):f∈((pieces fs).flatMap fun p=>p.2.map fun k=>(p.1::k.1,k.2))↔f∈fs:=by
 rw[J9];constructor
 ·rintro⟨p,hp,hf⟩;obtain⟨k,hk,rfl⟩:=QZ.mp hf
  rcases Zf.mp hp with z|z
  ·obtain⟨v,hv,rfl⟩:=QZ.mp z;rw[QV.mp hk];exact mem_lvs.mp hv
  ·obtain⟨l,hl,rfl⟩:=QZ.mp z;exact(mem_sub.mp hk).2
 ·intro hf;obtain⟨h0,_⟩:=g.lab f hf
  match e:f.1 with
  |[]=>exact absurd e h0
  |[a] =>
   have ef:f=([a],f.2):=Prod.ext e rfl;exact⟨(a,[([],f.2)]),ZC _ (QZ.mpr ⟨(a,f.2),mem_lvs.mpr (ef▸hf),rfl⟩),QZ.mpr ⟨([],f.2),QV.mpr rfl,ef.symm⟩⟩
  |a::b::r =>
   have ef:f=(a::b::r,f.2):=Prod.ext e rfl;exact⟨(a,sub fs a),Zo _ (QZ.mpr ⟨a,((yV fs).2 a).mpr ⟨f,hf,b,r,e⟩,rfl⟩),QZ.mpr ⟨(b::r,f.2),mem_sub.mpr ⟨Yv _ _,ef▸hf⟩,ef.symm⟩⟩
theorem M8 {fs:Dk}(nd:(fs.map (·.1)).Nodup):((A5 fs).map (·.1)).Nodup:=by
 have:((A5 fs).map fun v=>[v.1]).Sublist (fs.map (·.1)):=by
  unfold A5
  induction fs with
  |nil=>exact List.Sublist.slnil
  |cons f fs ih =>
   rw[Zn,Z1]at nd;rw[Yy,Zn]
   match e:f.1 with
   |[]=>exact(ih nd.2).cons _
   |[a]=>exact(ih nd.2).cons₂ _
   |a::b::r=>exact(ih nd.2).cons _
 have:=this.nodup nd;have e:((A5 fs).map fun v=>[v.1])=((A5 fs).map (·.1)).map fun a=>[a]:=by rw[Zv];rfl
 rw[e]at this;exact IM this
theorem UD (g:GoodF d fs):((pieces fs).map (·.1)).Nodup:=by
 unfold pieces;rw[Q6,Zv,Zv,Yw];refine⟨M8 g.nd,by rw[show((fun p:Str×Dk=>p.1)∘fun l=>(l,sub fs l))=id from rfl,Vc];exact(yV fs).1,fun a ha b hb z=>?_⟩;subst z;obtain⟨v,hv,e⟩:=QZ.mp ha;obtain⟨l,hl,rfl⟩:=QZ.mp hb;have e:v.1=l:=e;obtain⟨f,hf,b,r,ef⟩:=((yV fs).2 l).mp hl;have hv:([v.1],v.2)∈fs:=mem_lvs.mp hv;have:=g.pre _ hv f hf (b::r) (by rw[ef,e];rfl);cases this
theorem IY (g:GoodF d fs):∀p∈pieces fs,z9 p.1=true/\p.2≠[]:=fun p hp=>by
 rcases Zf.mp hp with z|z
 ·obtain⟨v,hv,rfl⟩:=QZ.mp z;exact⟨(g.lab _ (mem_lvs.mp hv)).2.2.1 _ (QV.mpr rfl),Yv _ _⟩
 ·obtain⟨l,hl,rfl⟩:=QZ.mp z;obtain⟨f,hf,b,r,ef⟩:=((yV fs).2 l).mp hl;refine⟨(g.lab f hf).2.2.1 _ (by rw[ef];exact Q1 ..),List.ne_nil_of_mem (a:=(b::r,f.2)) (mem_sub.mpr ⟨Yv _ _,?_⟩)⟩;have:f=(l::b::r,f.2):=Prod.ext ef rfl;exact this▸hf
theorem sub_len:(sub fs l).length<=fs.length:=List.length_filterMap_le _ _
theorem qM (fs:Dk):(A5 fs).length+(A6 fs).length<=fs.length:=by
 induction fs using snoc_ind with
 |h0=>exact Q2 _
 |h1 fs f ih =>
  rw[uX,jT,Q4,Q4]
  match e:f.1 with
  |[]=>show(A5 fs).length+0+(A6 fs).length<=fs.length+1;omega
  |[a]=>show(A5 fs).length+1+(A6 fs).length<=fs.length+1;omega
  |a::b::r =>
   show _+0+(x9 (A6 fs) a).length<=_+1;unfold x9
   split
   ·omega
   ·rw[Q4];show _+0+(_+1)<=_+1;omega
theorem CM {d e:Nat}(ok:OkS S)(g:GoodF n fs)(hl:fs.length<=63)(hs:S.length+1+wt fs<=2000)
  (H:∀l∈A6 fs,∀S,OkS S->S.length+1+wt (sub fs l)<=2000->PutOk (e+1) S (sub fs l) (VN d S (sub fs l))/\(VN d S (sub fs l)).1.length<=S.length+1+wt (sub fs l)) :
  PutOk (e+2) S fs (VN (d+1) S fs)/\(VN (d+1) S fs).1.length<=S.length+1+wt fs:=by
 have hm:=many fs;have pl:=qM fs;obtain⟨a1,a2⟩:=Xd (d:=e) (A5 fs) (Fo.nil ok) (fun v hv=>(g.lab _ (mem_lvs.mp hv)).2.2.2) (by omega);have b:=Ft (A6 fs) H (S:=((A5 fs).foldl AY (S,[])).1) (Do:=((A5 fs).foldl AY (S,[])).2) a1 (by omega);obtain⟨b1,b2⟩:=b;rw[uJ];rw[VH]at b1;have ep:pieces fs=(A5 fs).map (fun v=>(v.1,[(([],v.2):Fi)]))++(A6 fs).map fun l=>(l,sub fs l):=rfl;rw[←ep]at b1;have b1:Fo (e+1) S ((A6 fs).foldl (A1 d fs) ((A5 fs).foldl AY (S,[]))).1 ((A6 fs).foldl (A1 d fs) ((A5 fs).foldl AY (S,[]))).2 (pieces fs):=b1;have b2:((A6 fs).foldl (A1 d fs) ((A5 fs).foldl AY (S,[]))).1.length<=_:=b2;generalize (A6 fs).foldl (A1 d fs) ((A5 fs).foldl AY (S,[]))=q at b1 b2 ⊢;have rl:q.2.length<=63:=by
  rw[b1.len,ep,Q4,QU,QU];omega
 obtain⟨pk,pl⟩:=b1.put rl (UD g) (IY g) (by omega);exact⟨⟨pk.ok,pk.new,pk.tree,fun f=>by rw[pk.rd,FN g],pk.node⟩,by omega⟩
theorem vK:∀(d:Nat) {S:Di} {fs:Dk},OkS S->GoodF (d+1) fs->fs.length<=63->S.length+1+wt fs<=2000->PutOk (d+2) S fs (VN (d+1) S fs)/\(VN (d+1) S fs).1.length<=S.length+1+wt fs
 | 0,S,fs,ok,g,hl,hs=>CM ok g hl hs fun l hl=>by
  obtain⟨f,hf,b,r,ef⟩:=((yV fs).2 l).mp hl;have:=(g.lab f hf).2.1;rw[ef,Zd,Zd]at this;omega
 |d+1,S,fs,ok,g,hl,hs=>CM ok g hl hs fun l _ S' ok' hs'=>vK d ok' (g.sub l) (ZD sub_len hl) hs'
end An
namespace AxK
structure TO (β:Type) where
 lt:β->β->Bool
 asy:∀a b,lt a b=true->lt b a=false
 tra:∀a b c,lt b a=false->lt c b=false->lt c a=false
 ant:∀a b,lt a b=false->lt b a=false->a=b
section
variable {β γ:Type}{O:TO β}
def TO.le (O:TO β)(a b:β):Prop:=O.lt b a=false
theorem TO.refl (O:TO β)(a:β):O.le a a:=by
 show O.lt a a=false;cases h:O.lt a a with
 |false=>rfl
 |true=>exact h.symm.trans (O.asy a a h)
theorem TO.of_lt {a b:β}(h:O.lt a b=true):O.le a b:=O.asy a b h
theorem TO.trans {a b c:β}(h1:O.le a b)(h2:O.le b c):O.le a c:=O.tra a b c h1 h2
def TO.nat:TO Nat:=⟨fun a b=>decide (a<b),fun a b h=>by have:=Zb h;exact Q9 (by omega),fun a b c h1 h2=>by
 have:=Y3 h1;have:=Y3 h2;exact Q9 (by omega),fun a b h1 h2=>by
 have:=Y3 h1;have:=Y3 h2;omega⟩
def yL (O:TO β):List β->List β->Bool
 |[],[]=>false
 |[],_::_=>true
 |_::_,[]=>false
 |a::as,b::bs=>O.lt a b||(!O.lt b a&&yL O as bs)
theorem BI (O:TO β):∀a b:List β,yL O a b=true->yL O b a=false
 |[],[],h=>nomatch h
 |[],_::_,_=>rfl
 |_::_,[],h=>nomatch h
 |a::as,b::bs,h=>by
  unfold yL at h ⊢;cases h1:O.lt a b with
  |true =>
   rw[O.asy _ _ h1];simp
  |false =>
   rw[h1]at h;have h:O.lt b a=false/\yL O as bs=true:=by simpa using h
   rw[h.1,BI O as bs h.2];rfl
theorem CD (O:TO β):∀a b:List β,yL O a b=false->yL O b a=false->a=b
 |[],[],_,_=>rfl
 |[],_::_,h,_=>nomatch h
 |_::_,[],_,h=>nomatch h
 |a::as,b::bs,h1,h2=>by
  unfold yL at h1 h2;have h1:=Jb.mp h1;have h2:=Jb.mp h2;have e:=O.ant _ _ h1.1 h2.1;have g1:yL O as bs=false:=by have:=h1.2;rw[h2.1]at this;simpa using this
  have g2:yL O bs as=false:=by have:=h2.2;rw[h1.1]at this;simpa using this
  rw[e,CD O as bs g1 g2]
theorem CF (O:TO β):∀a b c:List β,yL O b a=false->yL O c b=false->yL O c a=false
 |[],[],c,_,h=>h
 |[],_::_,[],_,_=>rfl
 |[],_::_,_::_,_,_=>rfl
 |_::_,[],c,h,_=>nomatch h
 |_::_,_::_,[],_,h=>nomatch h
 |a::as,b::bs,c::cs,h1,h2=>by
  unfold yL at h1 h2 ⊢;have h1:=Jb.mp h1;have h2:=Jb.mp h2;rw[O.tra _ _ _ h1.1 h2.1,Vq];cases q:O.lt a c with
  |true=>rfl
  |false =>
   have e1:a=c:=O.ant _ _ q (O.tra _ _ _ h1.1 h2.1);have e2:O.lt a b=false:=by rw[e1];exact h2.1
   have e3:O.lt b c=false:=by rw[←e1];exact h1.1
   have g1:yL O bs as=false:=by have:=h1.2;rw[e2]at this;simpa using this
   have g2:yL O cs bs=false:=by have:=h2.2;rw[e3]at this;simpa using this
   rw[CF O as bs cs g1 g2];rfl
def TO.list (O:TO β):TO (List β):=⟨yL O,BI O,CF O,CD O⟩
def TO.by_ (O:TO β)(f:γ->β)(h:∀a b,f a=f b->a=b):TO γ:=⟨fun a b=>O.lt (f a) (f b),fun a b=>O.asy _ _,fun a b c=>O.tra _ _ _,fun a b h1 h2=>h a b (O.ant _ _ h1 h2)⟩
end
open PySem PySem.W PyProof.Rows
def run {β:Type}(lt:Nat->Nat->Bool):KasT β->β
 | .ret a=>a
 | .ask i j k=>run lt (k (lt i j))
theorem run_bind {β γ:Type}{f:β->KasT γ}:∀t:KasT β,run lt (t.bind f)=run lt (f (run lt t))
 | .ret _=>rfl
 | .ask i j k=>run_bind (k (lt i j))
section
variable {β:Type}{O:TO β}{key:Nat->β}
def kn (key:Nat->β)(p:Array Nat)(i:Nat):β:=key (p.getD i 0)
def Up (O:TO β)(key:Nat->β)(p:Array Nat)(n:Nat):Prop:=∀i j,i<=j->j<n->O.le (kn key p i) (kn key p j)
def Down (O:TO β)(key:Nat->β)(p:Array Nat)(n:Nat):Prop:=∀i j,i<=j->j<n->O.le (kn key p j) (kn key p i)
theorem Cy {p q:Array Nat}{i j:Nat}(h:p[i]?=q[j]?):kn key p i=kn key q j:=by
 unfold kn;rw[ZK,ZK,h]
theorem Up.snoc {n:Nat}(h1:1<=n)(h:Up O key p n)(hl:O.le (kn key p (n-1)) (kn key p n)):Up O key p (n+1):=fun i j hij hj=>by
 by_cases z:j<n
 ·exact h i j hij z
 ·have z:j=n:=by omega
  subst z
  by_cases z:i=j
  ·subst z;exact O.refl _
  ·exact TO.trans (h i (j-1) (by omega) (by omega)) hl
theorem Down.snoc {n:Nat}(h1:1<=n)(h:Down O key p n)(hl:O.le (kn key p n) (kn key p (n-1))):Down O key p (n+1):=fun i j hij hj=>by
 by_cases z:j<n
 ·exact h i j hij z
 ·have z:j=n:=by omega
  subst z
  by_cases z:i=j
  ·subst z;exact O.refl _
  ·exact TO.trans hl (h i (j-1) (by omega) (by omega))
theorem one_up (p:Array Nat):Up O key p 1:=fun i j hij hj=>by
 have:i=j:=by omega
 subst this;exact O.refl _
theorem Fk:∀(f n:Nat),1<=n->Up O key p n->∃m,run (fun i j=>O.lt (key i) (key j)) (kas_asc p f n)=m/\n<=m/\m<=n+f/\Up O key p m/\(m=n+f\/O.lt (kn key p m) (kn key p (m-1))=true)
 | 0,n,_,h=>⟨n,rfl,Q2 _,Q2 _,h,.inl rfl⟩
 |f+1,n,h1,h=>by
  unfold kas_asc;show∃m,run _ (if O.lt (kn key p n) (kn key p (n-1))=true then KasT.ret n else kas_asc p f (n+1))=m/\_;cases q:O.lt (kn key p n) (kn key p (n-1)) with
  |true=>exact⟨n,by rw[Zk rfl];rfl,Q2 _,by omega,h,.inr q⟩
  |false =>
   rw[Zh (by decide)];obtain⟨m,e,a,b,c,d⟩:=Fk f (n+1) (by omega) (h.snoc h1 q);exact⟨m,e,by omega,by omega,c,d.imp (fun z=>by omega) id⟩
theorem FS {p:Array Nat}{i j:Nat}(hj:j<=p.size)(k:Nat):kn key (kas_rev p i j) k=if i<=k/\k<j then kn key p (i+j-1-k) else kn key p k:=by
 have e:=getElem?_mirror_all (i:=i) hj k;unfold kas_rev
 by_cases z:i<=k/\k<j
 ·rw[Zk z]at e ⊢;exact Cy e
 ·rw[Zh z]at e ⊢;exact Cy e
theorem XA {p:Array Nat}{i j:Nat}(hj:j<=p.size)(h:∀k,i<=k->k<j->kn key p k=kn key p (j-1))(k:Nat):kn key (kas_rev p i j) k=kn key p k:=by
 rw[FS hj]
 split
 ·rw[h _ (by omega) (by omega),h k (by omega) (by omega)]
 ·rfl
theorem xD (p:Array Nat)(i j:Nat):(kas_rev p i j).Perm p:=mirror_perm _ _ _ _
theorem Down.of_kn (h:Down O key p n)(e:∀k,kn key q k=kn key p k):Down O key q n:=fun i j h1 h2=>by
 rw[e,e];exact h i j h1 h2
def Flat (key:Nat->β)(p:Array Nat)(n q:Nat):Prop:=q+1<=n/\∀i,n-(q+1)<=i->i<n->kn key p i=kn key p (n-1)
theorem Ip {n:Nat}(h:1<=n):Flat key p n 0:=⟨h,fun i h1 h2=>by
 have:i=n-1:=by omega
 rw[this]⟩
theorem Xn:∀(f:Nat) (p:Array Nat) (n q:Nat),1<=n->n+f<=p.size->Down O key p n->Flat key p n q ->
  ∃p' n' q',run (fun i j=>O.lt (key i) (key j)) (kas_desc f p n q)=(p',n',q')/\p'.Perm p/\n<=n'/\n'<=n+f/\Down O key p' n'/\Flat key p' n' q'
 | 0,p,n,q,_,_,h,hq=>⟨p,n,q,rfl,Array.Perm.refl _,Q2 _,Q2 _,h,hq⟩
 |f+1,p,n,q,h1,hz,h,hq=>by
  unfold kas_desc;show∃p' n' q',run (fun i j=>O.lt (key i) (key j)) (if O.lt (kn key p n) (kn key p (n-1))=true then(if q>0 then kas_desc f (kas_rev p (n-(q+1)) n) (n+1) 0 else kas_desc f p (n+1) 0)
   else .ask (p.getD (n-1) 0) (p.getD n 0) fun d=>if d=true then .ret (p,n,q) else kas_desc f p (n+1) (q+1))=(p',n',q')/\_
  cases c:O.lt (kn key p n) (kn key p (n-1)) with
  |true =>
   rw[Zk rfl];have hd:=h.snoc h1 (TO.of_lt c)
   by_cases z:q>0
   ·rw[Zk z];have fl:=XA (key:=key) (p:=p) (i:=n-(q+1)) (j:=n) (by omega) hq.2;obtain⟨p',n',q',e,a,b,d,g,k⟩:=Xn f (kas_rev p (n-(q+1)) n) (n+1) 0 (by omega) (by rw[(xD p _ _).size_eq];omega) (hd.of_kn fl) (Ip (by omega));exact⟨p',n',q',e,a.trans (xD _ _ _),by omega,by omega,g,k⟩
   ·rw[Zh z];obtain⟨p',n',q',e,a,b,d,g,k⟩:=Xn f p (n+1) 0 (by omega) (by omega) hd (Ip (by omega));exact⟨p',n',q',e,a,by omega,by omega,g,k⟩
  |false =>
   rw[Zh (by decide)];show∃p' n' q',run (fun i j=>O.lt (key i) (key j)) (if O.lt (kn key p (n-1)) (kn key p n)=true then KasT.ret (p,n,q) else kas_desc f p (n+1) (q+1))=(p',n',q')/\_;cases d:O.lt (kn key p (n-1)) (kn key p n) with
   |true=>exact⟨p,n,q,by rw[Zk rfl];rfl,Array.Perm.refl _,Q2 _,by omega,h,hq⟩
   |false =>
    rw[Zh (by decide)];have eq:kn key p n=kn key p (n-1):=O.ant _ _ c d;have fl:Flat key p (n+1) (q+1):=⟨by have:=hq.1;omega,fun i i1 i2=>by
     rw[show n+1-1=n by omega]
     by_cases z:i=n
     ·rw[z]
     ·rw[eq];exact hq.2 i (by omega) (by omega)⟩
    obtain⟨p',n',q',e,a,b,g,k,l⟩:=Xn f p (n+1) (q+1) (by omega) (by omega) (h.snoc h1 d) fl;exact⟨p',n',q',e,a,by omega,by omega,k,l⟩
theorem B4 {p:Array Nat}{n Du:Nat}(h1:1<=n)(hn:n<=Du)(hz:Du<=p.size)(h:Down O key p n) :
  ∃m p',run (fun i j=>O.lt (key i) (key j)) (kas_tail3 n Du p)=(m,p')/\p'.Perm p/\1<=m/\m<=Du/\Up O key p' m:=by
 have up:Up O key (kas_rev p 0 n) n:=fun i j hij hj=>by
  rw[FS (by omega),FS (by omega),Zk (by omega),Zk (by omega)];exact h _ _ (by omega) (by omega)
 obtain⟨m,e,a,b,c,_⟩:=Fk (Du-n) n h1 up;refine⟨m,kas_rev p 0 n,?_,xD _ _ _,by omega,by omega,c⟩;unfold kas_tail3;rw[run_bind,e];rfl
theorem UT {p:Array Nat}{n Du:Nat}(hn:n+1<=Du)(hz:Du<=p.size)(h:Down O key p (n+1)) :
  ∃m p',run (fun i j=>O.lt (key i) (key j)) (kas_descPart n Du p)=(m,p')/\p'.Perm p/\1<=m/\m<=Du/\Up O key p' m:=by
 obtain⟨p',n',q',e,a,b,c,d,fl⟩:=Xn (Du-(n+1)) p (n+1) 0 (by omega) (by omega) h (Ip (by omega));have hz':Du<=p'.size:=by rwa[a.size_eq]
 unfold kas_descPart;rw[run_bind,e];show∃m p'',run _ (if q'>0 then kas_tail3 n' Du (kas_rev p' (n'-(q'+1)) n') else kas_tail3 n' Du p')=(m,p'')/\_
 by_cases z:q'>0
 ·rw[Zk z];have hf:=XA (key:=key) (p:=p') (i:=n'-(q'+1)) (j:=n') (by omega) fl.2;obtain⟨m,p'',e1,a1,b1,c1,d1⟩:=B4 (Du:=Du) (by omega) (by omega) (by rwa[(xD p' _ _).size_eq]) (d.of_kn hf);exact⟨m,p'',e1,(a1.trans (xD _ _ _)).trans a,b1,c1,d1⟩
 ·rw[Zh z];obtain⟨m,p'',e1,a1,b1,c1,d1⟩:=B4 (Du:=Du) (by omega) (by omega) hz' d;exact⟨m,p'',e1,a1.trans a,b1,c1,d1⟩
theorem Ms {p:Array Nat}{Du:Nat}(h1:1<=Du)(hz:Du<=p.size) :
  ∃m p',run (fun i j=>O.lt (key i) (key j)) (kas_count Du p)=(m,p')/\p'.Perm p/\1<=m/\m<=Du/\Up O key p' m:=by
 obtain⟨n,e,a,b,c,d⟩:=Fk (O:=O) (key:=key) (p:=p) (Du-1) 1 (Q2 _) (one_up p);unfold kas_count;rw[run_bind,e]
 by_cases z:n=Du
 ·rw[Zk (by simpa using z)];exact⟨n,p,rfl,Array.Perm.refl _,a,by omega,c⟩
 rw[Zh (by simpa using z)];have less:O.lt (kn key p n) (kn key p (n-1))=true:=d.resolve_left (by omega)
 by_cases g:n>1
 ·rw[Zk g];show∃m p',run _ (if O.lt (kn key p 0) (kn key p (n-1))=true then KasT.ret (n,p) else kas_descPart n Du (kas_rev p 0 n))=(m,p')/\_;cases q:O.lt (kn key p 0) (kn key p (n-1)) with
  |true =>
   rw[Zk rfl];exact⟨n,p,rfl,Array.Perm.refl _,a,by omega,c⟩
  |false =>
   rw[Zh (by decide)];have flat:∀k,0<=k->k<n->kn key p k=kn key p (n-1):=fun k _ hk =>
    O.ant _ _ (TO.trans q (c 0 k (by omega) hk)) (c k (n-1) (by omega) (by omega))
   have fl:=XA (key:=key) (p:=p) (i:=0) (j:=n) (by omega) flat;have dn:Down O key p n:=fun i j hij hj=>by
    rw[flat i (by omega) (by omega),flat j (by omega) hj];exact O.refl _
   obtain⟨m,p',e1,a1,b1,c1,d1⟩:=UT (O:=O) (key:=key) (p:=kas_rev p 0 n) (n:=n) (Du:=Du) (by omega) (by rwa[(xD p _ _).size_eq]) ((dn.snoc a (TO.of_lt less)).of_kn fl);exact⟨m,p',e1,a1.trans (xD _ _ _),b1,c1,d1⟩
 ·rw[Zh g];have g:n=1:=by omega
  subst g;exact UT (by omega) hz (Down.snoc (Q2 _) (fun i j hij hj=>by
   have:i=j:=by omega
   subst this;exact O.refl _) (TO.of_lt less))
theorem X3 (hs:Up O key p k):∀(f l r:Nat),l<=r->r<=k->r-l<=f->(∀i,i<l->O.le (kn key p i) (kn key p k))->(∀i,r<=i->i<k->O.lt (kn key p k) (kn key p i)=true) ->
  ∃m,run (fun i j=>O.lt (key i) (key j)) (kas_place p k f l r)=m/\m<=k/\(∀i,i<m->O.le (kn key p i) (kn key p k))/\(∀i,m<=i->i<k->O.lt (kn key p k) (kn key p i)=true)
 | 0,l,r,h1,h2,h3,h4,h5=>⟨l,rfl,by omega,h4,fun i i1 i2=>h5 i (by omega) i2⟩
 |f+1,l,r,h1,h2,h3,h4,h5=>by
  unfold kas_place
  by_cases z:l≥r
  ·rw[Zk z];exact⟨l,rfl,by omega,h4,fun i i1 i2=>h5 i (by omega) i2⟩
  rw[Zh z];show∃m,run _ (if O.lt (kn key p k) (kn key p ((l+r) / 2))=true then kas_place p k f l ((l+r) / 2) else kas_place p k f ((l+r) / 2+1) r)=m/\_;cases q:O.lt (kn key p k) (kn key p ((l+r) / 2)) with
  |true =>
   rw[Zk rfl];refine X3 hs f l ((l+r) / 2) (by omega) (by omega) (by omega) h4 fun i i1 i2=>?_;cases w:O.lt (kn key p k) (kn key p i) with
   |true=>rfl
   |false =>
    have:=O.tra _ _ _ (hs _ _ i1 i2) w;rw[q]at this;exact this.symm
  |false =>
   rw[Zh (by decide)];exact X3 hs f ((l+r) / 2+1) r (by omega) (by omega) (by omega) (fun i i1=>TO.trans (hs i ((l+r) / 2) (by omega) (by omega)) q) h5
theorem GD {p:Array Nat}{k l:Nat}(hk:k<p.size)(hl:l<=k)(i:Nat):kn key (bubble p k (k-l)) i=if i=l then kn key p k else if l<i/\i<=k then kn key p (i-1) else kn key p i:=by
 have e:=getElem?_bubble hk (k-l) (by omega) i;rw[show k-(k-l)=l by omega]at e
 by_cases z:i=l
 ·rw[Zk z]at e ⊢;exact Cy e
 ·rw[Zh z]at e ⊢
  by_cases z:l<i/\i<=k
  ·rw[Zk z]at e ⊢;exact Cy e
  ·rw[Zh z]at e ⊢;exact Cy e
theorem Mo:∀(f:Nat) (p:Array Nat) (k:Nat),k+f<=p.size->Up O key p k->∃p',run (fun i j=>O.lt (key i) (key j)) (kas_bin f p k)=p'/\p'.Perm p/\Up O key p' (k+f)
 | 0,p,k,_,h=>⟨p,rfl,Array.Perm.refl _,h⟩
 |f+1,p,k,hz,h=>by
  obtain⟨m,e,a,b,c⟩:=X3 h k 0 k (by omega) (Q2 _) (by omega) (fun i hi=>by omega) (fun i i1 i2=>by omega);have up:Up O key (bubble p k (k-m)) (k+1):=fun i j hij hj=>by
   rw[GD (by omega) a,GD (by omega) a]
   repeat' split
   all_goals first
    |(exfalso;omega)
    |exact O.refl _
    |exact b _ (by omega)
    |exact TO.of_lt (c _ (by omega) (by omega))
    |exact h _ _ (by omega) (by omega)
  obtain⟨p',e1,a1,b1⟩:=Mo f (bubble p k (k-m)) (k+1) (by rw[bubble_size];omega) up;unfold kas_bin;rw[run_bind,e];exact⟨p',e1,a1.trans (bubble_perm _ _ _),by rw[show k+(f+1)=k+1+f by omega];exact b1⟩
theorem O6 {n:Nat}(h1:1<=n):∃p',run (fun i j=>O.lt (key i) (key j)) (kas_sort n)=p'/\p'.Perm (E6 (EA n))/\Up O key p' n:=by
 have hz:(E6 (EA n)).size=n:=by simp
 obtain⟨m,p',e,a,b,c,d⟩:=Ms (O:=O) (key:=key) (p:=E6 (EA n)) (Du:=n) h1 (JP hz.symm);unfold kas_sort;rw[run_bind,e];show∃p'',run _ (if m<n then kas_bin (n-max m 1) p' (max m 1) else KasT.ret p')=p''/\_;have em:max m 1=m:=by omega
 rw[em]
 by_cases z:m<n
 ·rw[Zk z];obtain⟨p'',e1,a1,b1⟩:=Mo (n-m) p' m (by rw[a.size_eq,hz];omega) d;exact⟨p'',e1,a1.trans a,by rw[show m+(n-m)=n by omega]at b1;exact b1⟩
 ·rw[Zh z];have z:m=n:=by omega
  rw[z]at d;exact⟨p',rfl,a,d⟩
end
def Asks (n:Nat){β:Type}(R:β->Prop):KasT β->Prop
 | .ret a=>R a
 | .ask i j k=>i<n/\j<n/\∀b,Asks n R (k b)
theorem Asks.bind {β γ:Type}{R:β->Prop}{R':γ->Prop}{f:β->KasT γ}(hf:∀a,R a->Asks n R' (f a)):∀{t:KasT β},Asks n R t->Asks n R' (t.bind f)
 | .ret a,h=>hf a h
 | .ask i j k,h=>⟨h.1,h.2.1,fun b=>Asks.bind hf (h.2.2 b)⟩
theorem Asks.wp {n:Nat}{β:Type}{R:β->Prop}{cmp:Nat->Nat->(Bool->Dh)->Dh}{lt:Nat->Nat->Bool}{s:Ej}(hc:∀i j,i<n->j<n->∀C:Bool->Dh,C (lt i j) s->cmp i j C s){Q:β->Dh} :
  ∀{t:KasT β},Asks n R t->Q (run lt t) s->t.kasWp cmp Q s
 | .ret _,_,q=>q
 | .ask i j k,h,q=>hc i j h.1 h.2.1 _ (Asks.wp hc (h.2.2 _) q)
def Bd (n:Nat)(p:Array Nat):Prop:=∀i:Nat,p.getD i 0<n
theorem Bd.perm {q:Array Nat}(h:Bd n p)(e:q.Perm p):Bd n q:=fun i=>by
 rw[ZK]
 rcases VA i q.size with z|z
 ·rw[VB q i z];have hm:q[i]∈p:=e.mem_iff.mp (Array.getElem_mem z);obtain⟨j,hj,ej⟩:=Array.getElem_of_mem hm;have:=h j;rw[ZK,VB p j hj,ej]at this;exact this
 ·rw[Jq z];have:=h p.size;rw[ZK,Jq (Q2 _)]at this;exact this
theorem XB (h:Bd n p):∀f m:Nat,Asks n (fun _=>True) (kas_asc p f m)
 | 0,m=>trivial
 | f+1,m=>⟨h _,h _,fun c=>by
  show Asks n _ (if c=true then KasT.ret m else kas_asc p f (m+1))
  split
  ·trivial
  ·exact XB h f (m+1)⟩
theorem kJ:∀(f:Nat) (p:Array Nat) (m q:Nat),Bd n p->Asks n (fun r=>Bd n r.1) (kas_desc f p m q)
 | 0,p,m,q,h=>h
 | f+1,p,m,q,h=>⟨h _,h _,fun c=>by
  cases c with
  |true =>
   show Asks n _ (if q>0 then kas_desc f (kas_rev p (m-(q+1)) m) (m+1) 0 else kas_desc f p (m+1) 0)
   split
   ·exact kJ f _ _ _ (h.perm (xD _ _ _))
   ·exact kJ f _ _ _ h
  |false =>
   refine⟨h _,h _,fun d=>?_⟩;cases d with
   |true=>exact h
   |false=>exact kJ f _ _ _ h⟩
theorem XH {m r:Nat}(h:Bd n p):Asks n (fun r=>Bd n r.2) (kas_tail3 m r p):=by
 have h':Bd n (kas_rev p 0 m):=h.perm (xD _ _ _);unfold kas_tail3;refine Asks.bind (fun a _=>?_) (XB h' _ _);exact h'
theorem kO {m r:Nat}(h:Bd n p):Asks n (fun r=>Bd n r.2) (kas_descPart m r p):=by
 refine Asks.bind (fun a ha=>?_) (kJ _ _ _ _ h);show Asks n _ (if a.2.2>0 then _ else _)
 split
 ·exact XH (Bd.perm ha (xD _ _ _))
 ·exact XH ha
theorem Fp {r:Nat}(h:Bd n p):Asks n (fun r=>Bd n r.2) (kas_count r p):=by
 refine Asks.bind (fun a _=>?_) (XB h _ _);show Asks n _ (if(a==r)=true then _ else _)
 split
 ·exact h
 ·split
  ·refine⟨h _,h _,fun c=>?_⟩;cases c with
   |true=>exact h
   |false=>exact kO (h.perm (xD _ _ _))
  ·exact kO h
theorem uE {k:Nat}(h:Bd n p):∀f l r:Nat,Asks n (fun _=>True) (kas_place p k f l r)
 | 0,l,r=>trivial
 |f+1,l,r=>by
  unfold kas_place
  split
  ·trivial
  ·refine⟨h _,h _,fun c=>?_⟩;cases c with
   |true=>exact uE h f _ _
   |false=>exact uE h f _ _
theorem Ck:∀(f:Nat) (p:Array Nat) (k:Nat),Bd n p->Asks n (fun r=>Bd n r) (kas_bin f p k)
 | 0,p,k,h=>h
 |f+1,p,k,h=>Asks.bind (fun l _=>Ck f _ _ (h.perm (bubble_perm _ _ _))) (uE h _ _ _)
theorem KZ {n:Nat}(h1:1<=n):Asks n (fun r=>Bd n r) (kas_sort n):=by
 have h:Bd n (E6 (EA n)):=fun i=>by
  rw[ZK,JY]
  rcases VA i n with z|z
  ·rwa[List.getElem?_range z]
  ·rw[ZO (by rwa[Yq])];exact h1
 refine Asks.bind (fun a ha=>?_) (Fp h);show Asks n _ (if a.1<n then _ else _)
 split
 ·exact Ck _ _ _ ha
 ·exact ha
end AxK
namespace L2
open PySem PyProof.Rows
mutual
def RM:El->El->Bool->Prop
 | .int a,.int b,r=>r=decide (a<b)
 | .str a,.str b,r=>r=decide (a.cps.toList<b.cps.toList)
 | .tuple xs,.tuple ys,r=>Pg xs ys r
 |_,_,_=>False
def Pg:Df->Df->Bool->Prop
 |[],ys,r=>r=decide (0<ys.length)
 |_::_,[],r=>r=false
 |x::xs,y::ys,r=>(EE x y=true/\Pg xs ys r)\/(EE x y=false/\RM x y r)
end
section
variable {prog:Ei}{w:Eo}
def Ha (prog:Ei)(w:Eo)(A:EF)(r:Bool)(fin:Bool)(s:Ej):List (Eg×Eg)->Prop
 |[]=>fin=r
 |p::l=>(∀(Q:Bool->Dh) (E:Eg->Dh),Q true s->Ek (Es prog w) A (eqBool p.1 p.2) Q E s)/\Ha prog w A r fin s l \/
  (∀(Q:Bool->Dh) (E:Eg->Dh),Q false s->Ek (Es prog w) A (eqBool p.1 p.2) Q E s) /\
  (∀(Q:Eg->Dh) (E:Eg->Dh),Q (.bool r) s->Ek (Es prog w) A (richCompare .Lt p.1 p.2) Q E s)
theorem ID {A:EF}{E:Eg->Dh}{s:Ej}{a b:Eh}{oa ob:Obj}{xs ys:Array Eg}{na nb:Nat}{r:Bool}{P:Fin->Dh}
  (hoa:s.heap.get? a=some oa) (hda:oa.data=.seq xs na) (hob:s.heap.get? b=some ob) (hcb:ob.cls=.type "tuple") (hdb:ob.data=.seq ys nb)
  (hq:Ha prog w A r (decide (xs.size<ys.size)) s (xs.toList.zip ys.toList)) (h:P (.done (.ret (.bool r))) s) :
  Ek (Es prog w) A (Builtin.«tuple.__lt__» ⟨[.ref a,.ref b],[]⟩) P E s:=by
 have hTb:s.TypeIs (.ref b) "tuple":=⟨ob,hob,hcb⟩;show Ek _ _ (isInstance (.ref b) (.type "tuple")>>=_) _ _ s;refine QW (JA hTb isSubtype_tuple_tuple ?_);simp only[Vr,Yt,JD];refine QW (Vj hoa hda (QW (Vj hob hdb (QW ?_))));refine Vx _ (fun rest c s'=>c.1=none/\s'=s/\Ha prog w A r (decide (xs.size<ys.size)) s rest) _ ?_ ?_ _ _ ⟨rfl,rfl,hq⟩
 ·rintro⟨u,v⟩ rest c s' ⟨hc,rfl,ha⟩
  rcases ha with⟨h1,h2⟩|⟨h1,h2⟩
  ·refine QW (h1 _ _ ?_);simp only[Vr,Yt,JD];exact Q3 ⟨rfl,rfl,h2⟩
  ·refine QW (h1 _ _ ?_);simp only[Bool.not_false,VJ];refine QW (J4 (QW (h2 _ _ (QW (Q3 (Q3 ?_))))));exact Q3 h
 ·rintro⟨c1,c2⟩ s' ⟨hc,rfl,ha⟩;simp only at hc;subst hc;refine Q3 ?_;have ha:decide (xs.size<ys.size)=r:=ha;show P (.done (.ret (.bool (decide (xs.size<ys.size))))) s';rwa[ha]
def K7 (prog:Ei)(w:Eo)(d:El):Prop:=∀(e:El) (r:Bool) (A:EF) (s:Ej) (a b:Eg) (as bs:Dd),Reads s.heap a d as->Reads s.heap b e bs->d.canLay0=true->e.canLay0=true->A.units+min d.depth e.depth<E8->RM d e r ->
  ∀(Q:Eg->Dh) (E:Eg->Dh),Q (.bool r) s->Ek (Es prog w) A (richCompare .Lt a b) Q E s
def Cj (prog:Ei)(w:Eo)(xs:Df):Prop:=∀(ys:Df) (r:Bool) (A:EF) (s:Ej) (vs us:Db) (as bs:Dd),Lz s.heap vs xs as->Lz s.heap us ys bs->Ep xs=true->Ep ys=true->A.units+min (Ez xs) (Ez ys)<E8->Pg xs ys r ->
  ∀k:Nat,Ha prog w A r (decide (k+vs.length<k+us.length)) s (vs.zip us)
theorem KJ (i:Int):K7 prog w (.int i):=by
 intro e r A s a b as bs ra rb _ _ _ h Q E q;cases e with
 |int j =>
  cases ra;cases rb;cases(show r=_ from h);exact(lt_int q:Ek _ _ (EO .Lt _ _) _ _ _)
 |_=>exact EH h
theorem KK (i:Str):K7 prog w (.str i):=by
 intro e r A s a b as bs ra rb _ _ _ h Q E q;cases e with
 |str j =>
  cases ra;cases rb;cases(show r=_ from h);exact(lt_str q:Ek _ _ (EO .Lt _ _) _ _ _)
 |_=>exact EH h
theorem KL (ih:Cj prog w xs):K7 prog w (.tuple xs):=by
 intro e r A s a b as bs ra rb ha hb hu h Q E q;cases e with
 |tuple ys =>
  cases ra with
  |tuple h1 h2 h3 h4 =>
   cases rb with
   |tuple k1 k2 k3 k4 =>
    have asked:=ih ys r A.in1 s _ _ _ _ h4 k4 ha hb (SeqAt.room_in hu) h 0;rw[Nat.zero_add,Nat.zero_add,ZA,ZA]at asked;exact wpAny_richCompare_same_room (op:=.Lt) ⟨_,h1,h2⟩ ⟨_,k1,k2⟩ F.slot_tuple_lt
     (Ya F.slot_tuple_lt ⟨_,h1,h2⟩ F.entry_tuple_lt (ID h1 h3 k1 k2 k3 (r:=r) asked ⟨_,rfl,(fun e=>nomatch e),q⟩) (F.args_tuple_lt_2 _ _)) (SeqAt.room_here hu)
 |_=>exact EH h
theorem Ow:Cj prog w []:=by
 intro ys r A s vs us as bs rx ry _ _ _ h k;cases rx;have e:us.length=ys.length:=SeqAt.ReadsAll.length _ _ _ ry;rw[List.zip_nil_left];show decide (k+0<k+us.length)=r;rw[show r=_ from h,e];exact J6.mpr (by omega)
theorem M5 (h1:K7 prog w x)(h2:Cj prog w xs):Cj prog w (x::xs):=by
 intro ys r A s vs us as bs rx ry hx hy hu h k;cases ys with
 |nil =>
  cases ry;cases rx;rw[List.zip_nil_right];show decide (k+_<k+0)=r;rw[show r=_ from h];exact Q9 (by omega)
 |cons y ys =>
  have hx':x.canLay0=true/\Ep xs=true:=by simpa[Ep] using hx
  have hy':y.canLay0=true/\Ep ys=true:=by simpa[Ep] using hy
  have hu1:A.units+min x.depth y.depth<cLine:=SeqAt.room_head hu;have hu2:A.units+min (Ez xs) (Ez ys)<cLine:=SeqAt.room_tail hu;cases rx with
  | @cons v vs _ _ _ _ p1 p2 =>
   cases ry with
   | @cons u us _ _ _ _ q1 q2 =>
    rw[List.zip_cons_cons];have h:(EE x y=true/\Pg xs ys r)\/(EE x y=false/\RM x y r):=h
    rcases h with⟨e,h⟩|⟨e,h⟩
    ·refine .inl ⟨fun Q E q=>LI prog w A E s _ _ _ _ _ _ Q p1 q1 hx'.1 hy'.1 hu1 (by rwa[e]),?_⟩;have ih:=h2 ys r A s _ _ _ _ p2 q2 hx'.2 hy'.2 hu2 h (k+1);rwa[Zd,Zd,show k+(vs.length+1)=k+1+vs.length by omega,show k+(us.length+1)=k+1+us.length by omega]
    ·exact .inr ⟨fun Q E q=>LI prog w A E s _ _ _ _ _ _ Q p1 q1 hx'.1 hy'.1 hu1 (by rwa[e]),fun Q E q=>h1 y r A s _ _ _ _ p1 q1 hx'.1 hy'.1 hu1 h Q E q⟩
mutual
theorem M1:∀d:El,K7 prog w d
 | .int i=>KJ i
 | .str i=>KK i
 | .tuple xs=>KL (M3 xs)
 | .none=>fun e r A s a b as bs ra rb _ _ _ h=>EH h
 | .bool _=>fun e r A s a b as bs ra rb _ _ _ h=>EH h
 | .list _=>fun e r A s a b as bs ra rb _ _ _ h=>EH h
 | .dict _=>fun e r A s a b as bs ra rb _ _ _ h=>EH h
theorem M3:∀xs:Df,Cj prog w xs
 |[]=>Ow
 |x::xs=>M5 (M1 x) (M3 xs)
end
end
end L2
namespace L2
open PySem PySem.Spec PyProof.Rows PySem.W AxK
section
variable {prog:Ei}{w:Eo}{A:EF}{E:Eg->Dh}{s:Ej}
theorem FU {a:Eh}{vs:Db}{n:Nat}{κ:SortKind}{lt:Nat->Nat->Bool}{P:PySem.Fin->Dh}(ho:s.heap.get? a=some (Lg "list" vs.toArray n))(h64:vs.length<64)
  (hk:2<=vs.length->∀s1:Ej,(∀b o,b≠a->s.heap.get? b=some o->s1.heap.get? b=some o)->(∀(Q:SortKind->Dh) (E':Eg->Dh),Q κ s1->Ek (Es prog w) A (keyKind' vs.toArray) Q E' s1) /\ ∀i j,i<vs.length->j<vs.length->∀C:Bool->Dh,C (lt i j) s1->kas_ask prog w A κ vs i j C s1)
  (h:∀p:Array Nat,(vs.length<2/\p=E6 (EA vs.length))\/(2<=vs.length/\p=run lt (kas_sort vs.length))->P (.done (.ret .none)) { s with heap:=sortedHeap s.heap a vs (E6 (p.toList.map fun i=>vs.getD i EG)) }) :
  Ek (Es prog w) A (Builtin.«list.sort» ⟨[.ref a],[]⟩) P E s:=by
 have ha:a<s.heap.objs.size:=Zi ho;have e0:=EV s.heap a (E4 fun _=>(#[]:Array Eg));obtain⟨n1,ho1⟩:∃e1,(s.heap.update a (E4 fun _=>(#[]:Array Eg))).get? a=some (Lg "list" #[] e1):=⟨_,get?_update_seq ho fun _=>#[]⟩;have ho2:(((s.heap.update a (E4 fun _=>(#[]:Array Eg))).push (Lg "tuple" vs.toArray 0)).push (Lg "list" #[] 0)).get? a=some (Lg "list" #[] n1):=Q0 _ (Q0 _ ho1);have keep:∀b o,b≠a->s.heap.get? b=some o->(((s.heap.update a (E4 fun _=>(#[]:Array Eg))).push (Lg "tuple" vs.toArray 0)).push (Lg "list" #[] 0)).get? b=some o:=fun b o hb q =>
  Q0 _ (Q0 _ (by rwa[Heap.get?_update_ne _ _ _ _ hb]))
 have hsz:vs.toArray.size=vs.length:=by simp
 rw[list_sort_plain];refine QW (listItems_at ho rfl (QW (listUpdate_at ho rfl (QW (seqEpoch_at ho1 rfl (QW (wpAny_newTuple (QW (wpAny_newList (Yr ?_) (Zz _))) (by show vs.length<=_;rw[Yj];omega))))) (by rw[Zg,Yj];omega) (Zz _))));show Ek (Es prog w) A _ P E { s with heap:=((s.heap.update a (E4 fun _=>#[])).push (Lg "tuple" vs.toArray 0)).push (Lg "list" #[] 0) };dsimp only
 by_cases h2:vs.length<2
 ·have fin:=h (E6 (EA vs.length)) (.inl ⟨h2,rfl⟩);have eo:(E6 ((E6 (EA vs.length)).toList.map fun i=>vs.getD i EG))=(vs.toArray.zip vs.toArray).map (·.2):=by
   have e:=kas_range (vs.toArray.zip vs.toArray);rw[show(vs.toArray.zip vs.toArray).size=vs.length by simp]at e;exact(kat_snds (ks:=vs) (vs:=vs) (st:=SortSt.mk' general' (vs.toArray.zip vs.toArray) #[] 7 none) rfl e.symm).symm
  rw[eo]at fin;rw[Zk (by rwa[hsz]),Zk (by rwa[hsz])];refine QW (Q3 ?_);rw[StateT.run_pure];refine QW (Q3 ?_);dsimp only;refine QW (seqEpoch_at ho2 rfl (QW (listUpdate_at ho2 rfl ?_ (Zz _) (by rw[Array.size_map,Array.size_zip,hsz,Nat.min_self,Yj];omega))));simp only[bne_self_eq_false,Yt,JD];exact Q3 fin
 ·have h2':2<=vs.length:=by omega
  rw[Zh (by rwa[hsz]),Zh (by rwa[hsz])];obtain⟨k1,k2⟩:=hk h2' { s with heap:=((s.heap.update a (E4 fun _=>(#[]:Array Eg))).push (Lg "tuple" vs.toArray 0)).push (Lg "list" #[] 0) } keep;refine QW (k1 _ _ ?_);have asked:(kas_sort vs.length).kasWp (kas_ask prog w A κ vs) (fun p s'=>p=run lt (kas_sort vs.length)/\s'={ s with heap:=((s.heap.update a (E4 fun _=>(#[]:Array Eg))).push (Lg "tuple" vs.toArray 0)).push (Lg "list" #[] 0) })
    { s with heap:=((s.heap.update a (E4 fun _=>(#[]:Array Eg))).push (Lg "tuple" vs.toArray 0)).push (Lg "list" #[] 0) }:=(KZ (by omega)).wp k2 ⟨rfl,rfl⟩
  refine QW (Yd (kat_run (Q:=fun st' s'=>arrOf st'=(run lt (kas_sort vs.length)).map (kas_item (vs.toArray.zip vs.toArray))/\failedOf st'=none/\(run lt (kas_sort vs.length)).size=vs.length/\s'={ s with heap:=((s.heap.update a (E4 fun _=>(#[]:Array Eg))).push (Lg "tuple" vs.toArray 0)).push (Lg "list" #[] 0) }) rfl h2' h64 (fun p' st' s' a1 a2 a3 a4=>by obtain⟨rfl,rfl⟩:=a4;exact⟨a2,a3,a1,rfl⟩) asked) ?_ fun _ _ e=>e)
  rintro⟨⟨⟩,st'⟩ s' ⟨har,hf,hp,rfl⟩;dsimp only;have hout:=kat_snds rfl har;rw[hout];refine QW (seqEpoch_at ho2 rfl (QW (listUpdate_at ho2 rfl ?_ (Zz _) (by rw[Zg,QU,ZA,hp,Yj];omega))));rw[hf];simp only[bne_self_eq_false,Yt,JD];exact Q3 (h _ (.inr ⟨h2',rfl⟩))
def XD (T:String):El->Prop
 | .tuple (.int _::_)=>T="int"
 | .tuple (.str _::_)=>T="str"
 | .tuple (.tuple _::_)=>T="tuple"
 |_=>False
def PK (h h':EC)(d:El):Prop:=∀(v:Eg) (as:Dd),d.canLay0=true->Reads h v d as->Reads h' v d as
def N8 (h h':EC)(ds:Df):Prop:=∀(vs:Db) (as:Dd),Ep ds=true->Lz h vs ds as->Lz h' vs ds as
mutual
theorem FR {h h':EC}(k:∀b o,h.get? b=some o->h'.get? b=some o):∀d:El,PK h h' d
 | .none=>fun v as _ r=>by cases r;exact .none
 | .bool _=>fun v as _ r=>by cases r;exact .bool _
 | .int _=>fun v as _ r=>by cases r;exact .int _ _
 | .str _=>fun v as _ r=>by cases r;exact .str _ _
 | .list xs=>fun v as l r=>by
  have ih:=xU k xs;cases r with
  |list h1 h2 h3 h4=>exact .list (k _ _ h1) h2 h3 (ih _ _ l h4)
 | .tuple xs=>fun v as l r=>by
  have ih:=xU k xs;cases r with
  |tuple h1 h2 h3 h4=>exact .tuple (k _ _ h1) h2 h3 (ih _ _ l h4)
 | .dict Dm=>fun v as l r=>nomatch l
theorem xU {h h':EC}(k:∀b o,h.get? b=some o->h'.get? b=some o):∀ds:Df,N8 h h' ds
 |[]=>fun vs as _ r=>by cases r;exact .nil
 |d::ds=>fun vs as l r=>by
  have i1:=FR k d;have i2:=xU k ds;have l:d.canLay0=true/\Ep ds=true:=by simpa[Ep] using l
  cases r with
  |cons h1 h2=>exact .cons (i1 _ _ l.1 h1) (i2 _ _ l.2 h2)
end
theorem IQ {h:EC}:∀{ds:Df} {us:Db} {as:Dd},Lz h us ds as->(∀d∈ds,XD T d)->∃fs:Db,fs.length=ds.length/\KatTups h us fs/\∀v∈fs,(T="int"/\∃i t,v=.int i t)\/(T="str"/\∃i t,v=.str i t)\/(T="tuple"/\∃a o,v=.ref a/\h.get? a=some o/\o.cls=.type "tuple")
 |[],_,_,r,_=>by
  cases r;exact⟨[],rfl,KatTups.nil,fun v hv=>(nomatch hv)⟩
 |d::ds,_,_,r,hf=>by
  cases r with
  |cons r1 r2 =>
   obtain⟨fs,e1,e2,e3⟩:=IQ r2 fun x hx=>hf x (QY _ hx);have hd:=hf d (Q1 ..);unfold XD at hd
   split at hd
   all_goals first
    |exact hd.elim
    | (cases r1 with
     |tuple h1 h2 h3 h4 =>
      rename_i vsx nx;cases q:vsx.toList with
      |nil=>rw[q]at h4;cases h4
      |cons v0 vr =>
       rw[q]at h4;have q0:vsx[0]?=some v0:=by rw[←Yh,q];rfl
       cases h4 with
       |cons g1 g2 =>
        refine⟨v0::fs,by rw[Zd,Zd,e1],KatTups.cons h1 h2 h3 q0 e2,fun v hv=>?_⟩
        rcases Q7.mp hv with rfl|hv
        ·cases g1
         first
          |exact .inl ⟨hd,_,_,rfl⟩
          |exact .inr (.inl ⟨hd,_,_,rfl⟩)
          |(rename_i k1 k2 k3 k4;exact .inr (.inr ⟨hd,_,_,rfl,k1,k2⟩))
        ·exact e3 v hv)
theorem Ou {ds:Df}{us:Db}{as:Dd}(r:Lz s.heap us ds as)(hf:∀d∈ds,XD T d)(hn:0<ds.length){Q:SortKind->Dh}(q:Q (tuples' (Value.type T !=Value.type "tuple")) s) :
  Ek (Es prog w) A (keyKind' us.toArray) Q E s:=by
 obtain⟨fs,e1,e2,e3⟩:=IQ r hf;refine kat_kind e2 (by omega) (T:=.type T) (fun v hv=>?_) (by simp) q
 rcases e3 v hv with⟨rfl,i,t,rfl⟩|⟨rfl,i,t,rfl⟩|⟨rfl,a,o,rfl,ho,hc⟩
 ·exact .now
 ·exact .now
 ·rw[←hc];exact(Looks.ld ho).andThen .now
def PM (x y:El):Prop:=(∃i j,x=.int i/\y=.int j)\/(∃i j,x=.str i/\y=.str j)
theorem P9 {b:Bool}{Q:Bool->Dh}{r:Bool}(q:Q r s)(xs:Df):∀(ys:Df) (vs us:Db) (as bs:Dd) (i k:Nat),Lz s.heap vs xs as->Lz s.heap us ys bs->Ep xs=true->Ep ys=true->A.units+min (Ez xs) (Ez ys)<E8 ->
  Pg xs ys r->(b=true->i=0->∀x xs' y ys',xs=x::xs'->ys=y::ys'->PM x y)->KatLex prog w A b (decide (k+vs.length<k+us.length)) Q (vs.zip us) i s:=by
 induction xs with
 |nil =>
  intro ys vs us as bs i k rx ry _ _ _ h _;cases rx;have e:us.length=ys.length:=SeqAt.ReadsAll.length _ _ _ ry;rw[List.zip_nil_left];show Q (decide (k+0<k+us.length)) s;rw[show decide (k+0<k+us.length)=r by rw[show r=_ from h,e];exact J6.mpr (by omega)];exact q
 |cons x xs ih =>
  intro ys vs us as bs i k rx ry hx hy hu h hb;cases ys with
  |nil =>
   cases ry;cases rx with
   | @cons v vs _ _ _ _ p1 p2 =>
    rw[List.zip_nil_right];show Q (decide (k+(vs.length+1)<k+0)) s;rw[show decide (k+(vs.length+1)<k+0)=r by rw[show r=_ from h];exact Q9 (by omega)];exact q
  |cons y ys =>
   have hx':x.canLay0=true/\Ep xs=true:=by simpa[Ep] using hx
   have hy':y.canLay0=true/\Ep ys=true:=by simpa[Ep] using hy
   have hu1:A.units+min x.depth y.depth<cLine:=SeqAt.room_head hu;have hu2:A.units+min (Ez xs) (Ez ys)<cLine:=SeqAt.room_tail hu;cases rx with
   | @cons v vs _ _ _ _ p1 p2 =>
    cases ry with
    | @cons u us _ _ _ _ q1 q2 =>
     rw[List.zip_cons_cons];refine kat_cons ?_;have h:(EE x y=true/\Pg xs ys r)\/(EE x y=false/\RM x y r):=h
     rcases h with⟨e,h⟩|⟨e,h⟩
     ·refine LI prog w A _ s _ _ _ _ _ _ _ p1 q1 hx'.1 hy'.1 hu1 ?_;rw[e];refine kat_yes ?_;have ih:=ih ys vs us _ _ (i+1) (k+1) p2 q2 hx'.2 hy'.2 hu2 h (fun _ z=>by omega);rwa[Zd,Zd,show k+(vs.length+1)=k+1+vs.length by omega,show k+(us.length+1)=k+1+us.length by omega]
     ·refine LI prog w A _ s _ _ _ _ _ _ _ p1 q1 hx'.1 hy'.1 hu1 ?_;rw[e];refine kat_no ?_;cases c:(b&&i==0) with
      |true =>
       have c':b=true/\i=0:=by simpa using c
       rcases hb c'.1 c'.2 x xs y ys rfl rfl with⟨i1,j1,rfl,rfl⟩|⟨i1,j1,rfl,rfl⟩
       ·cases p1;cases q1;refine kat_lt_int ?_;rwa[←(show r=_ from h)]
       ·cases p1;cases q1;refine kas_lt_str ?_;rwa[←(show r=_ from h)]
      |false=>exact kat_one _ _ (M1 x y r A s _ _ _ _ p1 q1 hx'.1 hy'.1 hu1 h _ _ q)
theorem KB {d e:El}{u v:Eg}{as bs:Dd}{C:Bool->Dh}(ru:Reads s.heap u d as)(rv:Reads s.heap v e bs)(fd:XD T d)(fe:XD T e)(ld:d.canLay0=true)(le:e.canLay0=true)(hu:A.units+min d.depth e.depth<E8)(h:RM d e r)(c:C r s) :
  Ek (Es prog w) A (keyLt' (tuples' (Value.type T !=Value.type "tuple")) u v) C (fun _ _=>False) s:=by
 cases d with
 |tuple xs =>
  cases e with
  |tuple ys =>
   cases ru with
   |tuple h1 h2 h3 h4 =>
    cases rv with
    |tuple k1 k2 k3 k4 =>
     refine kat_lt h1 h3 k1 k3 ?_;have:=P9 (prog:=prog) (w:=w) (A:=A) (b:=(Value.type T !=Value.type "tuple")) c xs ys _ _ _ _ 0 0 h4 k4 ld le (by
      have e1:(PyData.tuple xs).depth=Ez xs+1:=rfl;have e2:(PyData.tuple ys).depth=Ez ys+1:=rfl;rw[e1,e2]at hu;omega) h (fun hb _ x xs' y ys' ex ey=>by
      subst ex ey;unfold XD at fd fe
      split at fd
      ·rename_i e;cases e
       split at fe
       ·rename_i e;cases e;exact .inl ⟨_,_,rfl,rfl⟩
       ·rw[fd]at fe;exact absurd fe (by decide)
       ·rw[fd]at fe;exact absurd fe (by decide)
       ·exact fe.elim
      ·rename_i e;cases e
       split at fe
       ·rw[fd]at fe;exact absurd fe (by decide)
       ·rename_i e;cases e;exact .inr ⟨_,_,rfl,rfl⟩
       ·rw[fd]at fe;exact absurd fe (by decide)
       ·exact fe.elim
      ·subst fd;simp at hb
      ·exact fd.elim)
     simpa using this
  |_=>exact fe.elim
 |_=>exact fd.elim
end
section
variable {X:Cx}{K:AZ}
theorem Gh:∀{vs:Dj} {us:Db},Vals vs us->∀(p:List Nat),(∀i∈p,i<vs.length)->Vals (p.map fun i=>vs.getD i .non) (p.map fun i=>us.getD i EG)
 |vs,us,r,[],_=>.nil
 |vs,us,r,i::p,h=>by
  refine .cons ?_ (Gh r p fun j hj=>h j (QY _ hj));have hi:=h i (Q1 ..);have go:∀{vs:Dj} {us:Db} (i:Nat),Vals vs us->i<vs.length->RelV (vs.getD i .non) (us.getD i EG):=fun{vs us} i r hi=>by
   induction i generalizing vs us with
   |zero =>
    cases r with
    |nil=>exact absurd hi (VI _)
    |cons a b=>exact a
   |succ i ih =>
    cases r with
    |nil=>exact absurd hi (VI _)
    |cons a b=>exact ih b (by simpa using hi)
  exact go i r hi
theorem Hi (h:DtAll K H ds vs):∀(p:List Nat),(∀i∈p,i<vs.length)->DtAll K H (p.map fun i=>ds.getD i .none) (p.map fun i=>vs.getD i .non)
 |[],_=>rfl
 |i::p,hp=>by
  have hi:=hp i (Q1 ..);obtain⟨d,e1,e2⟩:=h.get (Q5 hi);refine⟨vs.getD i .non,_,rfl,?_,Hi h p fun j hj=>hp j (QY _ hj)⟩;show Dt K H (ds.getD i .none) (vs.getD i .non);rwa[ZX,ZX,e1,Q5 hi]
theorem UE {h:EC}:∀{ds:Df} {us:Db} {as:Dd} (i:Nat),Lz h us ds as->i<ds.length->∃bs,Reads h (us.getD i EG) (ds.getD i .none) bs
 |[],_,_,i,_,hi=>absurd hi (VI _)
 |d::ds,_,_,0,r,_=>by
  cases r with
  |cons r1 r2=>exact⟨_,r1⟩
 |d::ds,_,_,i+1,r,hi=>by
  cases r with
  |cons r1 r2=>exact UE i r2 (by simpa using hi)
theorem Nu {β:Type}{l:List β}{z:β}:(EA l.length).map (fun i=>l.getD i z)=l:=by
 apply List.ext_getElem?
 intro i;rw[Za]
 rcases VA i l.length with q|q
 ·rw[List.getElem?_range q,Q5 q];simp[ZX,Q5 q]
 ·rw[ZO (by rwa[Yq]),ZO q];rfl
end
end L2
namespace AxS
open PySem PySem.Spec PyProof.Rows
end AxS
namespace L2
open PySem PySem.Spec PyProof.Rows AxS
section
variable {X:Cx}{Dp:De}{σ:St}{H:Hp}{s:Ej}{d:Eh}{Dm:Dl}
theorem Pq (I:Inv X Dp σ H s)(e:Rd H d (.dK Dm)):∃vs ep,KV Dm vs/\s.heap.DictAt (zY X.prog X.w) d vs ep/\(d==EN)=false/\Dm.length<=sizeLine:=by
 obtain⟨z,hd,vs,rel,o,es,ep,ho,hx,hdat,hk,hp,hnd⟩:=UZ I.hok e;exact⟨vs,ep,rel,⟨o,es,ho,hx,hdat,hk,hp,hnd⟩,hd,z⟩
theorem Io {α β:Type}{F G:α->β->Prop}(h:∀a b,F a b->G a b):∀{l:List α} {m:List β},Ld F l m->Ld G l m
 |_,_,.nil=>.nil
 |_,_,.cons r t=>.cons (h _ _ r) (Io h t)
theorem ObjOk.thaw {ob:Obj}{x:HO}(hd:H d=some (.frz ob x)){y:HO}(ok:ObjOk P w H h b u):ObjOk P w (upd H d y) h b u:=by
 have keep:∀{c:Eh} {z:HO},H c=some z->(∀o v,z≠.frz o v)->upd H d y c=some z:=fun{c z} e n=>by
  rw[zG fun q=>by rw[q,hd]at e;exact n _ _ (Option.some.inj e).symm];exact e
 induction u generalizing b with
 |lst xs=>exact ok
 |tup xs=>exact ok
 |dK Dm=>exact ok
 |dT Dm =>
  obtain⟨h1,h2,xs,hp,h3⟩:=ok;exact⟨h1,h2,xs,Io (fun p q r=>⟨r.1,keep r.2.1 (fun o v z=>(nomatch z)),r.2.2⟩) hp,h3⟩
 |set S n=>exact ok
 |ins C dx fs=>exact⟨keep ok.1 (fun o v z=>(nomatch z)),ok.2⟩
 |own x=>exact ok
 |xd fs=>exact ok
 |rng lo hi=>exact ok
 |frz o u ih=>exact⟨ok.1,ih ok.2⟩
 |tbl ps=>exact ok
 |met f x=>exact ok
 |ext φ=>exact ok
theorem Inv.thaw {ob:Obj}(I:Inv X Dp σ H s)(hd:H d=some (.frz ob (.dK Dm)))(n0:∀o u,X.H₀ d≠some (.frz o u)):Inv X Dp σ (upd H d (.dK Dm)) s:=by
 have ne:∀{b:Eh},H b=none->b≠d:=fun{b} e z=>by rw[z,hd]at e;cases e
 have nt:∀{b:Eh} {z:HO},H b=some z->(∀o v,z≠.frz o v)->b≠d:=fun{b z} e n q=>by rw[q,hd]at e;exact n _ _ (Option.some.inj e).symm
 refine⟨I.ok,I.os,I.bare,⟨I.base.keep,I.base.slot,fun b o h1 h2 h3=>?_,I.base.there,fun b xs h1=>?_,fun b o u h1=>?_,fun b ps h1=>?_⟩,I.loc,I.cell,?_,fun x c h1=>?_,fun p hp=>?_,fun b u h1=>?_,I.len⟩
 ·have:=I.base.free b o h1 h2 h3;rwa[zG (ne this)]
 ·have:=I.base.tups b xs h1;rwa[zG (nt this fun o v z=>(nomatch z))]
 ·have:=I.base.frzs b o u h1;rw[zG fun z=>n0 o u (by rwa[←z])];exact this
 ·obtain⟨more,this⟩:=I.base.tbls b ps h1;exact⟨more,by rw[zG (nt this fun o v z=>(nomatch z))];exact this⟩
 ·rw[zG (ne I.free)];exact I.free
 ·have:=I.freeC x c h1;rwa[zG (ne this)]
 ·obtain⟨a1,a2,a3⟩:=I.pin p hp;exact⟨a1,by rw[zG (ne a2)];exact a2,a3⟩
 ·by_cases z:b=d
  ·rw[z,zB]at h1;cases h1;rw[z];exact(I.hok d _ hd).2
  ·rw[zG z]at h1;exact(I.hok b u h1).thaw hd
end
end L2
namespace An10
end An10
namespace An12
open PySem L2 An An10
end An12
namespace An10
open PySem L2 An
end An10
namespace An12
open PySem L2 An An10
end An12
namespace AnJ
section
variable {α:Type}
inductive Pt (α:Type) where
 |same (ls:List α)
 |clash (b m y:List α)
end
open An10
open AxK
open PySem L2 An An12
def tupS (ls:Da):PyData:=.tuple (ls.map .str)
theorem Hv {β:Type}{f:β->El}{n:Nat}:∀{l:List β},(∀x∈l,(f x).canLay0=true/\(f x).depth<=n)->Ep (l.map f)=true/\Ez (l.map f)<=n
 |[],_=>⟨rfl,Zz _⟩
 |x::l,h=>by
  obtain⟨a,b⟩:=Hv fun y hy=>h y (QY _ hy);obtain⟨c,d⟩:=h x (Q1 ..);constructor
  ·show((f x).canLay0&&Ep (l.map f))=true;rw[a,c];rfl
  ·show max (f x).depth (Ez (l.map f))<=n;omega
theorem KY {d:El}(h:d.canLay0=true)(n:d.depth<=60):SeqAt.shaped d=true:=by
 unfold SeqAt.shaped;rw[h,QX (by omega)];rfl
theorem shaped_list {β:Type}{f:β->El}{n:Nat}(hn:n<=50){l:List β}(h:∀x∈l,(f x).canLay0=true/\(f x).depth<=n):SeqAt.shaped (.list (l.map f))=true:=by
 obtain⟨a,b⟩:=Hv h;exact KY a (by show Ez (l.map f)+1<=60;omega)
theorem Hw:∀a b:List Nat,decide (a<b)=yL TO.nat a b
 |[],[]=>by decide
 |[],_::_=>by simp[yL]
 |_::_,[]=>by simp[yL]
 |a::as,b::bs=>by
  have ih:=Hw as bs;unfold yL;rw[←ih,Z8,Zt,List.cons_lt_cons_iff];show _↔(decide (a<b)||(!decide (b<a)&&decide (as<bs)))=true;rw[VD,Q8,Zt,Zt,Y9,YM];constructor
  ·rintro(h|⟨h,h'⟩)
   ·exact .inl h
   ·exact .inr ⟨by omega,h'⟩
  ·rintro(h|⟨h,h'⟩)
   ·exact .inl h
   ·by_cases z:a<b
    ·exact .inl z
    ·exact .inr ⟨by omega,h'⟩
def strO:TO Str:=TO.by_ (TO.list TO.nat) cs fun a b h=>cs_inj h
theorem strO_lt (a b:Str):strO.lt a b=decide (a.cps.toList<b.cps.toList):=(Hw _ _).symm
theorem lt_strs:∀a b:Da,Pg (a.map .str) (b.map .str) ((TO.list strO).lt a b)
 |[],[]=>by
  show false=decide (0<0);rfl
 |[],_::_=>by
  show true=decide (0<_);simp
 |_::_,[]=>rfl
 |x::a,y::b=>by
  show((x==y)=true/\Pg (a.map .str) (b.map .str) (yL strO (x::a) (y::b)))\/((x==y)=false/\yL strO (x::a) (y::b)=decide (x.cps.toList<y.cps.toList))
  by_cases e:x=y
  ·subst e;refine .inl ⟨by simp,?_⟩;unfold yL;have:strO.lt x x=false:=strO.refl x;rw[this];exact lt_strs a b
  ·refine .inr ⟨by simpa using e,?_⟩;unfold yL;rw[←strO_lt];cases q:strO.lt x y with
   |true=>rfl
   |false =>
    cases q':strO.lt y x with
    |true=>rfl
    |false=>exact absurd (strO.ant _ _ q q') e
end AnJ
namespace L2
open PySem PySem.Spec PyProof.Rows PySem.W AxK An
def lays:Hp->List (Eh×Dj)->Hp
 |H,[]=>H
 |H,p::r=>lays (upd H p.1 (.tup p.2)) r
theorem kP:∀{l:List (Eh×Dj)} {H:Hp} {b:Eh},b∉l.map (·.1)->lays H l b=H b
 |[],_,_,_=>rfl
 |p::r,H,b,h=>by
  rw[Zn,Q7,not_or]at h;show lays (upd H p.1 (.tup p.2)) r b=_;rw[kP h.2,zG h.1]
theorem Bs:∀{l:List (Eh×Dj)} {H:Hp} {p:Eh×Dj},(l.map (·.1)).Nodup->p∈l->lays H l p.1=some (.tup p.2)
 |q::r,H,p,nd,h=>by
  rw[Zn,Z1]at nd;show lays (upd H q.1 (.tup q.2)) r p.1=_
  rcases Q7.mp h with rfl|h
  ·rw[kP nd.1,zB]
  ·exact Bs nd.2 h
theorem lays_some:∀{l:List (Eh×Dj)} {H:Hp} {b:Eh} {o:HO},(l.map (·.1)).Nodup->lays H l b=some o->H b=some o\/∃xs,(b,xs)∈l/\o=.tup xs:=fun{l H b o} nd h=>by
 by_cases z:b∈l.map (·.1)
 ·obtain⟨p,hp,rfl⟩:=QZ.mp z;rw[Bs nd hp]at h;exact .inr ⟨p.2,hp,(Option.some.inj h).symm⟩
 ·rw[kP z]at h;exact .inl h
theorem IZ {l:List (Eh×Dj)}{H:Hp}(f:∀p∈l,H p.1=none):Same H (lays H l):=fun b o e=>by
 rw[kP]
 ·exact e
 ·intro z;obtain⟨p,hp,rfl⟩:=QZ.mp z;rw[f p hp]at e;cases e
section
variable {X:Cx}{Dp:De}{σ:St}{H:Hp}{s:Ej}{h':EC}{K:AZ}
theorem Inv.lays {t':Nat}(I:Inv X Dp σ H s){l:List (Eh×Dj)}(nd:(l.map (·.1)).Nodup)(k:∀b u,s.heap.get? b=some u->h'.get? b=some u)(hp:∀p∈l,s.heap.objs.size<=p.1)(new:∀p∈l,ObjOk X.prog X.w (lays H l) h' p.1 (.tup p.2)) :
  Inv X Dp σ (lays H l) { s with heap:=h',toks:=t' }:=by
 have fr:∀p∈l,H p.1=none:=fun p m=>I.hok.fresh (hp p m);have sm:=IZ fr;have nx:∀b u,s.heap.get? b=some u->b∉l.map (·.1):=fun b u q z=>by
  obtain⟨p,m,rfl⟩:=QZ.mp z;exact absurd (Zi q) (Nat.not_lt.mpr (hp p m))
 refine I.un ⟨fun b u q _ _ _=>k b u q,fun b u q _ _ _=>⟨u.slots,k b u q⟩,fun b u q n _=>by rw[kP (nx b u q)];exact n,fun b u q _=>⟨u,k b u q⟩,fun b xs q=>sm _ _ q,fun b u xs q=>sm _ _ q,fun b ps q=>⟨#[],by rw[sm _ _ q];simp⟩⟩ fun b u e=>?_
 rcases lays_some nd e with z|⟨xs,m,rfl⟩
 ·exact(I.hok b u z).stay (fun c v _ q=>k c v q) (fun c q=>sm _ _ q) fun c xs q=>sm _ _ q
 ·exact new _ m
theorem X7:∀{ps:Dg},(∀p∈ps,Em p.1=true/\Em p.2=true)->Ep (ps.map An.rowDat)=true
 |[],_=>rfl
 |p::ps,h=>by
  obtain⟨h1,h2⟩:=h p (Q1 ..);show(((Em p.1)&&((Em p.2)&&true))&&Ep (ps.map An.rowDat))=true;rw[h1,h2,X7 fun q hq=>h q (QY _ hq)];rfl
def IE:El->Da
 | .tuple xs=>xs.map fun d=>match d with
  | .str x=>x
  |_=>""
 |_=>[]
theorem Xw {ps:Dg}{i:Nat}(h:i<ps.length):(ps.map An.rowDat).getD i .none=An.rowDat (ps.getD i ("","")):=by
 rw[ZX,ZX,Za,Q5 h];rfl
theorem Rt {a b:Str×Str}(h:(TO.list AnJ.strO).le (IE (An.rowDat a)) (IE (An.rowDat b))):cs a.1<=cs b.1:=by
 have h:yL AnJ.strO [b.1,b.2] [a.1,a.2]=false:=h;have h:(AnJ.strO.lt b.1 a.1||(!AnJ.strO.lt a.1 b.1&&yL AnJ.strO [b.2] [a.2]))=false:=h;rw[Jb,AnJ.strO_lt,YM]at h;exact Jy.mp h.1
def RF (K:AZ)(td:TE):TE:=fun σ H Q=>td σ H fun v H1=>∃(d:Eh) (ps:Dg),v=.ref d/\Rd H1 d (.dK (ps.map fun p=>((.inr p.1:Key),V.str p.2)))/\ps.length<64/\(∀p∈ps,Em p.1=true/\Em p.2=true) /\
 ∀(l:Eh) (ss:Dg) (ts:Dj) (H2:Hp),ss.Perm ps->(ss.Pairwise fun a b=>cs a.1<=cs b.1)->Same H1 H2->H1 l=none->H2 l=some (.lst ts)->DtAll K H2 (ss.map An.rowDat) ts->Q (.ref l) H2
theorem Nt {p Dr Ds pos:Pos}(hc:X.calm=true)(hu:X.A.units+64<E8)(hg:Gl X x)(hm:X.mg x=none)(hv:Lx x=some (.builtin "sorted"))(ho:PE X o td)
  (DO:Lo o "items" X.env (EY o X.env)=EY o X.env:=by rfl) (DI:(Dr.endLine==Ds.line)=true:=by rfl) (hn:x≠"__name__":=by decide) (hdb:(x==("__debug__":Str))=false:=by decide)
  (he:Ev [.Call (.Attribute o "items" Dr) [] [] Ds] X.env=(false,EY (.Call (.Attribute o "items" Dr) [] [] Ds) X.env)::Ev [] X.env:=by rfl) (hpl:(E7 pos (Ev [] X.env)).any (·.1)=false:=by rfl) (hK:X.K=K:=by rfl) :
  PE X (.Call (.Name x p) [.Call (.Attribute o "items" Dr) [] [] Ds] [] pos) (RF K td):=by
 subst hK;intro Dp s σ H Q I h;refine YD (vG I hg hm hv ?_ hn hdb);refine J2 ?_ he hpl;rw[he];show Ek _ _ (spliced ((false,EY (.Call (.Attribute o "items" Dr) [] [] Ds) X.env)::E7 pos (Ev [] X.env))) _ _ s;refine LV ?_;refine JK DO DI (A3 (ho Dp s σ H _ I h) fun v s1 ⟨x,H1,I1,r,d,ps,ex,hd,h64,hok,q⟩=>?_);subst ex;cases r;obtain⟨vs,ep,rel,da,hS,hzz⟩:=Pq I1 hd;have dO:=da.dictOf;obtain⟨ob',es',h1,h2,h3⟩:=id da;refine⟨"dict","dict.items",F.plainAttrs_dict,L5,F.type_dict_items,dO.typeIs,fun b q=>by cases q;exact⟨ob',h1,h2.2.1⟩,Lf rfl (Vg ?_)⟩;refine Vz L5 dO.typeIs F.entry_dict_items (F.args_dict_items_1 _) (meets_dict_items (zY X.prog X.w) d hS) ⟨⟨vs,dO⟩,?_⟩;refine Calls.spliced_nil ?_;have I2:Inv X Dp σ H1 { s1 with heap:=s1.heap.push { cls:=.type "dict_items",data:=.fields #[.ref d] } }:=I1.kept (t':=s1.toks) fun b o e=>Q0 _ e;have da2:(s1.heap.push { cls:=.type "dict_items",data:=.fields #[.ref d] }).DictAt (zY X.prog X.w) d vs ep:=da.at' fun o e=>Q0 _ e;have hvw:(s1.heap.push { cls:=.type "dict_items",data:=.fields #[.ref d] }).IsItemsView s1.heap.objs.size d:=⟨_,Ze _ rfl,rfl,rfl⟩;have Dq:(ps.map fun p=>((.inr p.1:Key),V.str p.2)).length=vs.length:=Paired.length rel;rw[QU]at Dq;have DI:64<=sizeLine:=by rw[Yj];decide
 refine Calls.call_function_entry kind_sorted plain_sorted entry_sorted (args_sorted1 _) ?_;unfold Builtin.«sorted»;refine QW (m:=checkCount "sorted" 1 1 _) (Q3 ?_);refine QW (kdx_collect (A:=X.A.in1) (knd:=zY X.prog X.w) (I.ok.hd hc) hvw da2 (by omega) fun h' tk as hkp hl hG=>?_);have hkp0:∀b o,(s1.heap.push { cls:=.type "dict_items",data:=.fields #[.ref d] }).get? b=some o->h'.get? b=some o:=hkp;generalize s1.heap.push { cls:=.type "dict_items",data:=.fields #[.ref d] }=h0 at I2 hG hkp0;clear da2 hvw hkp;have ln:as.length=ps.length:=by rw[hl,←Dq]
 have nda:as.Nodup:=Y2.mpr (hG.rise.imp fun{a b} z=>Zr z);have z1:((as.zip ps).map fun(q:Eh×(Str×Str))=>(q.1,[V.str q.2.1,V.str q.2.2])).map (·.1)=as:=by
  rw[Zv];exact Va (by omega)
 have I3:Inv X Dp σ (lays H1 ((as.zip ps).map fun(q:Eh×(Str×Str))=>(q.1,[V.str q.2.1,V.str q.2.2]))) { s1 with heap:=h',toks:=tk }:=by
  refine Inv.lays (s:={ s1 with heap:=h0 }) I2 (by rwa[z1]) hkp0 (fun p hp=>?_) (fun p hp=>?_)
  ·obtain⟨c,hc',rfl⟩:=QZ.mp hp;exact Yn (hG.above _ (JG hc').1)
  ·obtain⟨c,hc',rfl⟩:=QZ.mp hp;obtain⟨j,hj⟩:=Z7.mp hc';rw[Y5]at hj;obtain⟨key,k,x,e1,hk,e2⟩:=hG.pairs j _ hj.1;obtain⟨p,ep',ekk,rx⟩:=kI rel e1;rw[Za,hj.2]at ep';have ep':=(Option.some.inj ep').symm;subst ep';have ekk:(Et c.2.1:Key)=k:=ekk;rw[←ekk]at hk;obtain⟨t,et⟩:=YQ (show E2 c.2.1 key=true from hk);exact⟨by show 2<=_;omega,[key,x],.cons ⟨t,et⟩ (.cons rx .nil),_,e2,rfl,0,rfl,rfl⟩
 have sm:Same H1 (lays H1 ((as.zip ps).map fun(q:Eh×(Str×Str))=>(q.1,[V.str q.2.1,V.str q.2.2]))):=IZ fun p hp=>by
  obtain⟨c,hc',rfl⟩:=QZ.mp hp;exact I2.hok.fresh (Yn (hG.above _ (JG hc').1))
 have hds:DtAll X.K (lays H1 ((as.zip ps).map fun(q:Eh×(Str×Str))=>(q.1,[V.str q.2.1,V.str q.2.2]))) (ps.map An.rowDat) (as.map V.ref):=by
  have at_:∀(j:Nat) (a:Eh) (p:Str×Str),as[j]?=some a->ps[j]?=some p->lays H1 ((as.zip ps).map fun(q:Eh×(Str×Str))=>(q.1,[V.str q.2.1,V.str q.2.2])) a=some (.tup [V.str p.1,V.str p.2]):=fun j a p ha hp =>
   Bs (p:=(a,[V.str p.1,V.str p.2])) (by rwa[z1]) (QZ.mpr ⟨(a,p),Zc (i:=j) (Y5.mpr ⟨ha,hp⟩),rfl⟩)
  generalize lays H1 ((as.zip ps).map fun(q:Eh×(Str×Str))=>(q.1,[V.str q.2.1,V.str q.2.2]))=Hs at at_;clear I3 sm z1 nda hG hl hok q hd rel h64 Dq hzz
  induction as generalizing ps with
  |nil =>
   cases ps with
   |nil=>rfl
   |cons p ps=>cases ln
  |cons a as ih =>
   cases ps with
   |nil=>cases ln
   |cons p ps =>
    have h0:=at_ 0 a p rfl rfl;exact⟨.ref a,as.map V.ref,rfl,⟨a,[V.str p.1,V.str p.2],rfl,SqT.of h0,_,_,rfl,rfl,_,_,rfl,rfl,rfl⟩,ih ps (by simpa using ln) fun j b q' hb hq'=>at_ (j+1) b q' hb hq'⟩
 generalize lays H1 ((as.zip ps).map fun(q:Eh×(Str×Str))=>(q.1,[V.str q.2.1,V.str q.2.2]))=Hs at I3 sm hds;have rv:Vals (as.map V.ref) (as.map Ew):=by
  clear hG hl nda ln z1 hds I3
  induction as with
  |nil=>exact .nil
  |cons a as ih=>exact .cons rfl ih
 obtain⟨cs',rd⟩:=DtAll.reads I3 _ _ _ hds rv;have rd:Lz h' (as.map Ew) (ps.map An.rowDat) cs':=rd;have lay:Ep (ps.map An.rowDat)=true:=X7 hok;have l1:(as.map V.ref).length=(ps.map An.rowDat).length:=by rwa[QU,QU]
 have l2:(as.map Ew).length=(ps.map An.rowDat).length:=by rwa[QU,QU]
 have l3:(ps.map An.rowDat).length<64:=by rwa[QU]
 have hdd:∀d∈ps.map An.rowDat,XD "str" d/\d.canLay0=true/\d.depth<=60:=fun d hd=>by
  obtain⟨p,hp,rfl⟩:=QZ.mp hd;obtain⟨h1,h2⟩:=hok p hp;refine⟨rfl,?_,by show max 0 (max 0 0)+1<=60;decide⟩;show(Em p.1&&(Em p.2&&true))=true;rw[h1,h2];rfl
 have hlt:∀d∈ps.map An.rowDat,∀e∈ps.map An.rowDat,RM d e ((TO.list AnJ.strO).lt (IE d) (IE e)):=fun d hd e he=>by
  obtain⟨p,hp,rfl⟩:=QZ.mp hd;obtain⟨p',hp',rfl⟩:=QZ.mp he;exact AnJ.lt_strs [p.1,p.2] [p'.1,p'.2]
 generalize as.map Ew=its at rd rv l2;generalize as.map V.ref=vs' at rv hds l1;refine QW (wpAny_newList ?_ (by rw[l2];omega));have hoL:(h'.push (Lg "list" its.toArray 0)).get? h'.objs.size=some (Lg "list" its.toArray 0):=Ze _ rfl;have kp:∀b o,h'.get? b=some o->(h'.push (Lg "list" its.toArray 0)).get? b=some o:=fun b o z=>Q0 _ z;show Ek _ _ _ _ _ { s1 with heap:=h'.push (Lg "list" its.toArray 0),toks:=tk };generalize h'.push (Lg "list" its.toArray 0)=h1' at hoL kp;refine QW (Yr (Ya slot_list_sort ⟨_,hoL,rfl⟩ entry_list_sort ?body (args_list_sort _)));refine FU (s:={ s1 with heap:=h1',toks:=tk }) (κ:=tuples' (Value.type "str" !=Value.type "tuple")) (lt:=fun i j=>(TO.list AnJ.strO).lt (IE ((ps.map An.rowDat).getD i .none)) (IE ((ps.map An.rowDat).getD j .none))) hoL (by omega) (fun h2 s2 k1=>?_) fun p hp=>⟨_,rfl,Q3 ⟨_,rfl,?_⟩⟩
 ·have rd1:Lz s2.heap its (ps.map An.rowDat) cs':=xU (fun b o z=>k1 b o (Zr (Zi z)) (kp b o z)) _ _ _ lay rd;refine⟨fun Q' E' z=>Ou rd1 (fun d hd'=>(hdd d hd').1) (by omega) z,fun i j hi hj C c=>?_⟩;obtain⟨b1,r1⟩:=UE i rd1 (by omega);obtain⟨b2,r2⟩:=UE j rd1 (by omega);have m:∀k,k<its.length->(ps.map An.rowDat).getD k .none∈ps.map An.rowDat:=fun k hk=>by
   rw[ZX,Q5 (by omega)];exact ZV _
  have d1:=hdd _ (m i hi);have d2:=hdd _ (m j hj);exact KB r1 r2 d1.1 d2.1 d1.2.1 d2.2.1 (by show X.A.units+1+1+_<_;omega) (hlt _ (m i hi) _ (m j hj)) c
 ·have pp:p.Perm (E6 (EA its.length))/\Up (TO.list AnJ.strO) (fun i=>IE ((ps.map An.rowDat).getD i .none)) p its.length:=by
   rcases hp with⟨n2,rfl⟩|⟨n2,rfl⟩
   ·refine⟨Array.Perm.refl _,fun(i j:Nat) (hij:i<=j) (hj:j<its.length)=>?_⟩;have:i=j:=by omega
    subst this;exact(TO.list AnJ.strO).refl _
   ·obtain⟨p',e,a1,a2⟩:=O6 (O:=TO.list AnJ.strO) (key:=fun i=>IE ((ps.map An.rowDat).getD i .none)) (n:=its.length) (by omega);rw[e];exact⟨a1,a2⟩
  obtain⟨pp,up⟩:=pp;have pl':p.toList.Perm (EA its.length):=by simpa using Array.perm_iff_toList_perm.mp pp
  have pm:∀i∈p.toList,i<vs'.length:=fun i hi=>by
   have:=JM.mp (pl'.mem_iff.mp hi);omega
  obtain⟨e,he'⟩:=sortedHeap_at (out:=E6 (p.toList.map fun i=>its.getD i EG)) hoL;have nl:=Gh rv p.toList pm;have kp2:∀b ob,h'.get? b=some ob->(sortedHeap h1' h'.objs.size its (E6 (p.toList.map fun i=>its.getD i EG))).get? b=some ob:=fun b ob q1=>by
   have hb:b<h'.objs.size:=Zi q1;rw[sortedHeap_old (Zr hb) (Zi (kp b ob q1))];exact kp b ob q1
  have hl':p.toList.length=its.length:=by rw[pl'.length_eq,Yq]
  have fr3:Hs h'.objs.size=none:=I3.hok.fresh (Q2 _);have fr1:H1 h'.objs.size=none:=sm.free fr3;have up2:=zC (o:=.lst (p.toList.map fun i=>vs'.getD i .non)) fr3;refine⟨.ref h'.objs.size,_,I3.laid (o:=.lst (p.toList.map fun i=>vs'.getD i .non)) (t':=tk) kp2 (Q2 _) ⟨by rw[QU,hl',Yj];omega,_,e,nl,he'⟩,rfl,q _ (p.toList.map fun i=>ps.getD i ("","")) _ _ ?_ ?_ (sm.trans up2) fr1 zB ?_⟩
  ·have:=pl'.map fun i=>ps.getD i ("","");rw[show its.length=ps.length by rw[l2,QU],Nu]at this;exact this
  ·rw[Y6];intro i j hi hj hij;rw[ZF,ZF];have:=up i j (Yn hij) (by rw[QU,hl']at hj;exact hj);unfold kn at this;rw[QU,ZA]at hi hj;rw[ZK,ZK,VB p i hi,VB p j hj]at this;have pi:p[i]<ps.length:=by
    have:=pm p[i] (by rw[←Jz hi];exact ZV _);rw[l1,QU]at this;exact this
   have pj:p[j]<ps.length:=by
    have:=pm p[j] (by rw[←Jz hj];exact ZV _);rw[l1,QU]at this;exact this
   rw[Jz hi,Jz hj];have this:(TO.list AnJ.strO).le (IE ((ps.map An.rowDat).getD p[i] .none)) (IE ((ps.map An.rowDat).getD p[j] .none)):=by simpa using this
   rw[Xw pi,Xw pj]at this;exact Rt this
  ·have:=DtAll.same up2 _ _ (Hi hds p.toList pm);rw[show(p.toList.map fun i=>(ps.map An.rowDat).getD i .none)=(p.toList.map fun i=>ps.getD i ("","")).map An.rowDat by
    rw[Zv];refine Z0 fun i hi=>Xw ?_;have:=pm i hi;rw[l1,QU]at this;exact this]at this
   exact this
end
section
variable {X:Cx}
def RG (H₀:Hp)(t:TS):TS:=fun D σ H=>t { D with nx:=fun σ' H'=>∃d ob Dm,H' d=some (.frz ob (.dK Dm))/\(∀o u,H₀ d≠some (.frz o u))/\D.nx σ' (upd H' d (.dK Dm)) } σ H
theorem Xh {st:ER}(h:PS X st t):PS X st (RG X.H₀ t):=by
 intro Dp s σ H D I q;refine A3 (h Dp s σ H _ I q) fun f s1 z=>?_;cases f with
 |next =>
  obtain⟨σ',H',I',d,ob,Dm,hd,n0,q⟩:=z;exact⟨σ',_,I'.thaw hd n0,q⟩
 |ret v=>exact z
 |brk=>exact z
 |cont=>exact z
def Ss (K:AZ):Dj->Hp->VK->Prop:=fun xs H Q=>∃a T Dm b,xs=[.ref a,.ty T]/\Rd H a (.dK Dm)/\EB K (.type "dict") (.type T)=some b/\Q (.bl b) H
theorem Bh {K:AZ}(hK:X.K=K:=by rfl):CallR X (.builtin "isinstance") (Ss K):=by
 subst hK;intro Dp s σ H xs us Q I r h;obtain⟨a,T,Dm,b,rfl,ha,kt,q⟩:=h;obtain⟨u,w',rfl,ru,rw'⟩:=vals2 r;cases(show w'=Value.type T from rw');cases ru;obtain⟨vs,ep,rel,da,hS,_⟩:=Pq I ha;exact ZW Vo I.kIn da.dictOf.typeIs kt (fun z=>nomatch z) fun tk=>⟨.bl b,H,I.tok _,rfl,q⟩
end
end L2
namespace An28
open PySem L2 An
seal L2.PS L2.PSs L2.PE L2.PT L2.PW L2.PA L2.PG L2.PGs L2.PI L2.PFi L2.PC
def top (i:Nat):Stmt:=PySem.Challenge.pw_annals_k28_reached.main.body.getD i (.Pass ⟨0,0,0,0⟩)
def kinds:List String:=["NoneType","bool","int","str","list","tuple","dict"]
def xK:Dl:=[(Et "leaf",.str "L"),(Et "tree",.str "T"),(Et "note",.str "N")]
theorem FD (t:Th):VQ xK (Et t.word:Key)=some (.str t.letter):=by
 cases t
 ·show VQ xK (Et "leaf":Key)=some (.str "L")
  decide +kernel
 ·show VQ xK (Et "tree":Key)=some (.str "T")
  decide +kernel
 ·show VQ xK (Et "note":Key)=some (.str "N")
  decide +kernel
section
variable {K:AZ}{H:Hp}
theorem jD {ls:Da}{v:V}(h:Dt K H (Th.leaf ls).dat v):∃a b,v=.ref a/\SqT K H a [.str "leaf",.ref b]/\SqT K H b (ls.map V.str):=by
 obtain⟨a,xs,rfl,hs,x0,r0,rfl,e0,x1,r1,rfl,⟨b,ys,rfl,hb,hy⟩,e2⟩:=h;have e0:x0=.str "leaf":=e0;have e2:r1=[]:=e2;subst e0 e2;rw[DtAll.strs_of hy]at hb;exact⟨a,b,rfl,hs,hb⟩
theorem uF {rs:Dg}{v:V}(h:Dt K H (Th.tree rs).dat v):∃a b,v=.ref a/\SqT K H a [.str "tree",.ref b]/\Dt K H (.tuple (rs.map rowDat)) (.ref b):=by
 obtain⟨a,xs,rfl,hs,x0,r0,rfl,e0,x1,r1,rfl,⟨b,ys,rfl,hb,hy⟩,e2⟩:=h;have e0:x0=.str "tree":=e0;have e2:r1=[]:=e2;subst e0 e2;exact⟨a,b,rfl,hs,b,ys,rfl,hb,hy⟩
theorem uC {t:Str}{ps:Da}{w:Str}{v:V}(h:Dt K H (Th.note t ps w).dat v):∃a b,v=.ref a/\SqT K H a [.str "note",.str t,.ref b,.str w]/\SqT K H b (ps.map V.str):=by
 obtain⟨a,xs,rfl,hs,x0,r0,rfl,e0,x1,r1,rfl,e1,x2,r2,rfl,⟨b,ys,rfl,hb,hy⟩,x3,r3,rfl,e3,e4⟩:=h;have e0:x0=.str "note":=e0;have e1:x1=.str t:=e1;have e3:x3=.str w:=e3;have e4:r3=[]:=e4;subst e0 e1 e3 e4;rw[DtAll.strs_of hy]at hb;exact⟨a,b,rfl,hs,hb⟩
theorem X2 {t:Th}(h:Dt K H t.dat v):∃a r,v=.ref a/\SqT K H a (.str t.word::r):=by
 cases t with
 |leaf ls=>obtain⟨a,b,e,h1,_⟩:=jD h;exact⟨a,_,e,h1⟩
 |tree rs=>obtain⟨a,b,e,h1,_⟩:=uF h;exact⟨a,_,e,h1⟩
 |note t ps w=>obtain⟨a,b,e,h1,_⟩:=uC h;exact⟨a,_,e,h1⟩
theorem Rs (h:Dt K H (rowDat r) v):∃a,v=.ref a/\SqT K H a [.str r.1,.str r.2]:=by
 obtain⟨a,xs,rfl,hs,x0,r0,rfl,e0,x1,r1,rfl,e1,e2⟩:=h;have e0:x0=.str r.1:=e0;have e1:x1=.str r.2:=e1;have e2:r1=[]:=e2;subst e0 e1 e2;exact⟨a,rfl,hs⟩
theorem B7 {rs:Dg}{i:Nat}{x:V}(h:DtAll K H (rs.map rowDat) xs)(e:xs[i]?=some x):∃r a,rs[i]?=some r/\x=.ref a/\SqT K H a [.str r.1,.str r.2]:=by
 obtain⟨d,e1,e2⟩:=h.get e;rw[Za]at e1;cases q:rs[i]? with
 |none=>rw[q]at e1;cases e1
 |some r =>
  rw[q]at e1;have e1:rowDat r=d:=Option.some.inj e1;subst e1;obtain⟨a,e3,e4⟩:=Rs e2;exact⟨r,a,rfl,e3,e4⟩
end
def Ie (K:AZ):Sp:=fun vs H Q _=>∃v t,vs=[v]/\Dt K H (Th.dat t) v/\Q (.str t.letter) H
def UY (K:AZ):Sp:=fun vs H Q _=>∃v rs,vs=[v]/\Dt K H (.tuple (rs.map rowDat)) v/\rs.length<=1000/\∀l,H l=none->Q (.ref l) (upd H l (.lst ((z5 rs).map V.str)))
def HV (K:AZ):Sp:=fun vs H Q _=>∃v t,vs=[v]/\Dt K H (Th.dat t) v/\t.Good/\∀l H',Same H H'->H l=none->H' l=some (.lst (t.parts.map V.str))->Q (.ref l) H'
def IH:Sp:=fun vs H Q _=>∃x,vs=[.str x]/\x.length<=1000/\Q (.str (counted x)) H
def IK (K:AZ):Sp:=fun vs H Q _=>∃v t,vs=[v]/\Dt K H (Th.dat t) v/\t.Good/\∀H',Same H H'->Q (.str t.sp) H'
def BS (K:AZ):Sp:=fun vs H Q _=>∃v t,vs=[v]/\Dt K H (Th.dat t) v/\t.Good/\∀H',Same H H'->Q (.int (dg t.sp)) H'
structure Txt (P:Ei)(w:Eo)(K:AZ)(mg:Str->Dc)(t1 t2 t3 t4 t5 t6 t7:Tok)(aL aC aN aT aA b1 b2 b3 fI:Eh):Prop where
 len:mg "len"=none
 all:mg "all"=none
 ord:mg "ord"=none
 isinstance:mg "isinstance"=none
 str:mg "str"=none
 set:mg "set"=none
 sorted:mg "sorted"=none
 tuple:mg "tuple"=none
 list:mg "list"=none
 max:mg "max"=none
 int:mg "int"=none
 bool:mg "bool"=none
 range:mg "range"=none
 dict:mg "dict"=none
 any:mg "any"=none
 LONGEST_LINE:mg "LONGEST_LINE"=some (.int 20 t1)
 LONGEST_LABEL:mg "LONGEST_LABEL"=some (.int 8 t2)
 MOST_PARENTS:mg "MOST_PARENTS"=some (.int 2 t3)
 PERCENT:mg "PERCENT"=some (.int 37 t4)
 MOST_LABELS:mg "MOST_LABELS"=some (.int 4 t7)
 DIGEST_FACTOR:mg "DIGEST_FACTOR"=some (.int 31 t5)
 DIGEST_BOUND:mg "DIGEST_BOUND"=some (.int 97 t6)
 LETTERS:mg "LETTERS"=some (.ref aL)
 NoName:mg "NoName"=some (.ref aN)
 NoThing:mg "NoThing"=some (.ref aT)
 AnnalsError:mg "AnnalsError"=some (.ref aA)
 NoVersion:mg "NoVersion"=some (.ref b1)
 names_in:mg "names_in"=some (.ref fI)
 ValueError:mg "ValueError"=none
 reversed:mg "reversed"=none
 BadFiles:mg "BadFiles"=some (.ref b2)
 NoFit:mg "NoFit"=some (.ref b3)
 Shelf:mg "Shelf"=some (.ref aC)
 xNoName:E3 K aN Uu "ValueError.__new__"=true
 xNoThing:E3 K aT Uu "ValueError.__new__"=true
 exmN:PySem.W.exmOne K (.ref aN) (.ref aA)=some true
 ekN:PySem.W.ExcKit K aN
 kN0:EB K (.ref aN) (.ref aT)=some false
 kN1:EB K (.ref aN) (.ref b1)=some false
 kN2:EB K (.ref aN) (.ref b3)=some false
 kN3:EB K (.ref aN) (.ref b2)=some false
 kN4:EB K (.ref aN) (.ref aN)=some true
 kNV:EB K (.ref aN) (.type "ValueError")=some true
 xBadFiles:E3 K b2 Uu "ValueError.__new__"=true
 xNoFit:E3 K b3 Uu "ValueError.__new__"=true
 kd:KD P w K aL xK
 cls:Cls K aC
 n1:NoAttr K aC "thing_by_name"
 n2:NoAttr K aC "name_by_thing"
 n3:NoAttr K aC "next_numbers"
 kit:∀a∈kinds,∀b∈kinds,EB K (.type a) (.type b)=some (a==b||(a=="bool"&&b=="int"))
theorem Nf (d:El):Um d∈kinds:=by cases d<;>simp[Um,kinds]
def BD:El->Str
 | .str x=>x
 |_=>""
def qX:El->Bool
 | .tuple ds=>ds.all V3&&(decide (ds.length<=2)&&decide ((AxS.uniq (ds.map BD)).length=ds.length))
 |_=>false
def XW (K:AZ):Sp:=fun vs H Q _=>∃(d:El) (v:V),vs=[v]/\Dw K H d v/\small d=true/\∀H',Same H H'->Q (.bl (qX d)) H'
theorem Fd {K:AZ}:∀{ds:Df} {xs:Dj},DwAll K H ds xs->ds.all V3=true->xs=(ds.map BD).map V.str
 |[],_,h,_=>by rw[show _=[] from h];rfl
 | .str x::ds,_,⟨v,r,e,hv,hr⟩,h=>by
  rw[List.all_cons,Q8]at h;rw[e,Fd hr h.2,show v=V.str x from hv];rfl
 | .none::_,_,_,h=>by cases h
 | .bool _::_,_,_,h=>by cases h
 | .int _::_,_,_,h=>by cases h
 | .list _::_,_,_,h=>by cases h
 | .tuple _::_,_,_,h=>by cases h
 | .dict _::_,_,_,h=>by cases h
theorem uD (d:El):(Um d=="str"||(Um d=="bool"&&"str"=="int"))=V3 d:=by cases d<;>rfl
def Ug:El->Str
 | .tuple (.str l::_)=>l
 |_=>""
def II:El->Bool
 | .tuple ds=>ds.all Us&&Uv (ds.map Ug)
 |_=>false
def NU (K:AZ):Sp:=fun vs H Q _=>∃(d:El) (v:V),vs=[v]/\Dw K H d v/\small d=true/\(∀ds,d=.tuple ds->ds.length<=63)/\∀H',Same H H'->Q (.bl (II d)) H'
theorem HJ {K:AZ}(h:Dw K H d v)(r:Us d=true):∃(t:Eh) (y:V),v=.ref t/\SqT K H t [.str (Ug d),y]/\z9 (Ug d)=true:=by
 match d,r with
 | .tuple [l,n],r =>
  have r:(uR l&&V3 n)=true:=r;rw[Q8]at r;obtain⟨t,xs,rfl,ht,x0,r0,rfl,h0,x1,r1,rfl,h1,e⟩:=h;have e:r1=[]:=e;subst e;cases l with
  |str x=>cases(show x0=_ from h0);exact⟨t,x1,rfl,ht,r.1⟩
  |none=>cases r.1
  |bool _=>cases r.1
  |int _=>cases r.1
  |list _=>cases r.1
  |tuple _=>cases r.1
  |dict _=>cases r.1
theorem IT (h:z9 x=true):Em x=true:=by
 unfold z9 at h;rw[Q8]at h;rw[qB];intro c hc;have:=Zu.mp h.2 c hc;unfold UH at this;rw[Q8]at this;have:=Zb this.2;omega
def Cf (ds:Df)(i:Nat):PyData:=(ds[i]?).getD .none
def Uj (word:Str)(ds:Df):Bool:=decide (word="leaf")&&(decide (ds.length=1)&&vA (Cf ds 0))
def Uk (word:Str)(ds:Df):Bool:=decide (word="tree")&&(decide (ds.length=1)&&II (Cf ds 0))
def UR (K:AZ)(b:Str->Df->Bool):Sp:=fun vs H Q _=>∃(word:Str) (a:Eh) (ds:Df) (xs:Dj),vs=[.str word,.ref a]/\SqT K H a xs/\DwAll K H ds xs/\yE ds=true/\ds.length<=63/\(∀e∈ds,∀es,e=.tuple es->es.length<=63)/\∀H',Same H H'->Q (.bl (b word ds)) H'
def Ur (word:Str)(ds:Df):Bool:=decide (word="note")&&(decide (ds.length=3)&&(V3 (Cf ds 0)&&(qX (Cf ds 1)&&Uq (Cf ds 2))))
def kN:El->Bool
 | .tuple (.str word::ds)=>Uj word ds||(Uk word ds||Ur word ds)
 |_=>false
def narrow (d:El):Prop:=∀ds,d=.tuple ds->ds.length<=63/\∀e∈ds,∀es,e=.tuple es->es.length<=63
def DE (K:AZ):Sp:=fun vs H Q _=>∃(d:El) (v:V),vs=[v]/\Dw K H d v/\small d=true/\narrow d/\∀H',Same H H'->Q (.bl (kN d)) H'
theorem Og {K:AZ}{H':Hp}{lo:Option Int}{v:V}(hs:SqT K H a xs)(h:(v=.ref a/\H'=H/\V9 xs lo hi=xs)\/(∃p,H p=none/\v=.ref p/\H'=upd H p (.tup (V9 xs lo hi)))) :
  ∃p:Eh,v=.ref p/\Same H H'/\SqT K H' p (V9 xs lo hi):=by
 rcases h with⟨rfl,rfl,e2⟩|⟨p,np,rfl,rfl⟩
 ·exact⟨a,rfl,Same.refl _,by rw[e2];exact hs⟩
 ·exact⟨p,rfl,zC np,SqT.of zB⟩
def NS (K:AZ)(aT:Eh):Sp:=fun vs H Q E=>∃(d:El) (v:V),vs=[v]/\Dw K H d v/\small d=true/\narrow d/\(kN d=true->∀H',Same H H'->Q v H')/\(kN d=false->∀H',Same H H'->E (.ref aT) none H')
def Uf (S:Di):El->Bool
 | .str x=>decide (x∈S.map En.nm)
 |_=>false
def FX (P:Ei)(w:Eo)(K:AZ)(C:Eh):Sp:=fun vs H Q _=>∃(a:Eh) (fp:Dd) (S:Di) (e:En) (t:Eh),vs=[.ref a,.str e.nm,.ref t]/\ShAt P w K C H a fp S/\GoodE e/\Dt K H e.d (.ref t)/\e.d∉S.map (·.d)/\e.nm∉S.map En.nm/\S.length<2000 /\
 ∀H',Off fp H H'->ShAt P w K C H' a fp (S++[e])->Q .non H'
def vJ (P:Ei)(w:Eo)(K:AZ)(C:Eh):Sp:=fun vs H Q _=>∃(a:Eh) (fp:Dd) (S:Di),vs=[.ref a]/\ShAt P w K C H a fp S/\∀l,H l=none->Q (.ref l) (upd H l (.lst (S.map fun e=>V.str e.nm)))
def R8 (Dm:Dl):El->Bool
 | .str x=>(VQ Dm (Et x:Key)).isSome
 |_=>false
def Pw (K:AZ):Sp:=fun vs H Q _=>∃(d1:Eh) (Dm:Dl) (d:El) (v:V),vs=[.ref d1,v]/\H d1=some (.dK Dm)/\Dw K H d v/\Q (.bl (R8 Dm d)) H
def uG (P:Ei)(w:Eo)(K:AZ)(C aN:Eh):Sp:=fun vs H Q E=>∃(a:Eh) (fp:Dd) (S:Di) (d:El) (v:V),vs=[.ref a,v]/\ShAt P w K C H a fp S/\Dw K H d v/\(Uf S d=true->Q .non H)/\(Uf S d=false->E (.ref aN) none H)
def Pu (P:Ei)(w:Eo)(K:AZ)(C:Eh):Sp:=fun vs H Q _=>∃(a:Eh) (fp:Dd) (S:Di) (d:El) (v:V),vs=[.ref a,v]/\ShAt P w K C H a fp S/\Dw K H d v/\Q (.bl (Uf S d)) H
def vL (P:Ei)(w:Eo)(K:AZ)(C aN:Eh):Sp:=fun vs H Q E=>∃(a:Eh) (fp:Dd) (S:Di) (d:El) (v:V),vs=[.ref a,v]/\ShAt P w K C H a fp S/\Dw K H d v/\(∀e∈S,d=.str e.nm->∀t,Dt K H e.d (.ref t)->Q (.ref t) H)/\(Uf S d=false->E (.ref aN) none H)
def HP (P:Ei)(w:Eo)(K:AZ)(C aN:Eh):Sp:=fun vs H Q E=>∃(a f:Eh) (fp:Dd) (S:Di) (x:Str) (ws:Da),vs=[.ref a,.str x,.ref f]/\ShAt P w K C H a fp S/\(∀e∈S,Hq e)/\SqT K H f (ws.map V.str)/\(∀y∈ws,Em y=true) /\
 (yG S x ws=true->Q .non H)/\(yG S x ws=false->E (.ref aN) none H)
def HS (P:Ei)(w:Eo)(K:AZ)(C aN:Eh):Sp:=fun vs H Q E=>∃(a:Eh) (fp:Dd) (S:Di) (t:Th) (v:V),vs=[.ref a,v]/\ShAt P w K C H a fp S/\(∀e∈S,Hq e)/\Dt K H t.dat v /\
 (namesOk S t=true->∀H',Same H H'->Q .non H')/\(namesOk S t=false->∀H',Same H H'->E (.ref aN) none H')
def PN (P:Ei)(w:Eo)(K:AZ)(C:Eh)(H:Hp)(a:Eh)(fp:Dd)(S:Di)(t:Th)(H2:Hp)(S':Di)(e:En):Prop :=
 Off fp H H2/\ShAt P w K C H2 a fp S'/\e∈S'/\e.d=t.dat/\(S'=S\/(S'=S++[e]/\e=Uh S t/\t.dat∉S.map (·.d)))
def Ub (P:Ei)(w:Eo)(K:AZ)(C aN aT:Eh):Sp:=fun vs H Q E=>∃(a:Eh) (fp:Dd) (S:Di) (d:El) (v:V),vs=[.ref a,v]/\ShAt P w K C H a fp S/\(∀e∈S,Hq e)/\Dw K H d v/\small d=true/\narrow d/\(kN d=true->∃t:Th,d=t.dat/\t.Good)/\S.length<2000/\(∀h,(nextOf S h).getD 0<1000000) /\
 (kN d=false->∀H',Same H H'->E (.ref aT) none H') /\
 (∀t,d=t.dat->kN d=true->namesOk S t=false->∀H',Same H H'->E (.ref aN) none H') /\
 (∀t,d=t.dat->kN d=true->namesOk S t=true->∀H2 S' e,PN P w K C H a fp S t H2 S' e->Q (.str e.nm) H2)
def NP (P:Ei)(w:Eo)(K:AZ)(C:Eh):Sp:=fun vs H Q _=>∃(x dx:Eh) (b:V) (S:Di),vs=[.ref x,b]/\H x=some (.ins C dx [])/\H dx=some (.own x)/\dx≠x /\
 ((b=.non/\S=[])\/∃a fp0,b=.ref a/\ShAt P w K C H a fp0 S/\x∉fp0/\dx∉fp0/\S.length<2000)/\∀fp H',(∀c∈fp,c=x\/c=dx\/H c=none)->Off [x] H H'->ShAt P w K C H' x fp S->Q .non H'
section
variable {P:Ei}{w:Eo}{K:AZ}{mg:Str->Dc}{base:EC}{t1 t2 t3 t4 t5 t6 t7:Tok}{aL aC aN aT aA b1 b2 b3 fI:Eh}
theorem Txt.is {T:String}(t:Txt P w K mg t1 t2 t3 t4 t5 t6 t7 aL aC aN aT aA b1 b2 b3 fI)(hT:T∈kinds):EB K (.type (Um d)) (.type T)=some (Um d==T||(Um d=="bool"&&T=="int")):=t.kit _ (Nf d) _ hT
namespace Aa
abbrev st:Stmt:=top 18
theorem sc:FnScope ["sign"] ["sign"] (zH st):=Ca
theorem ok (F:Fun K "is_sign" "is_sign" st f fd)(T:Txt P w K mg t1 t2 t3 t4 t5 t6 t7 aL aC aN aT aA b1 b2 b3 fI):FnOk P w K mg base A9 1 f fd ["sign"] NV:=by
 refine F.ok sc (fun vs H Q E h=>?_) (fun cdv A outer s H vs Q E hr h=>?_)
 ·obtain⟨c,rfl,_⟩:=h;rfl
 ·obtain⟨c,rfl,k⟩:=h;refine⟨_,(zF (zO (xI (XM Bf Bf pe_str (pv 0) pe_str) (qJ (yU HB (zJ Cm (by rfl) T.ord PyProof.Rows.boot_ord (zA (pv 0) zD)) (xA (v:=.int 37) rfl T.PERCENT ⟨_,rfl⟩) (zT _)))))),?_⟩;refine⟨_,rfl,_,_,rfl,rfl,_,rfl,?_⟩;rw[MU c 32 " " (by decide +kernel)];refine VU (fun h1=>?_) (fun h1=>?_)
  ·refine⟨_,_,rfl,rfl,_,rfl,?_⟩;rw[one_le c 126 "~" (by decide +kernel)];refine VU (fun h2=>?_) (fun h2=>?_)
   ·refine⟨_,rfl,_,rfl,rfl,rfl,?_⟩;have e:V7 c=!decide (V.int (((⟨#[c]⟩:Str).cps.getD 0 0:Nat):Int)=V.int 37):=by
     unfold V7;rw[h1,h2];show decide (c≠37)=!decide (V.int (c:Int)=V.int 37);rw[eq_comm];exact GI ⟨fun h z=>h (by rw[z];rfl),fun h z=>h (by injection z with z;omega)⟩
    rw[e]at k;exact k
   ·have e:V7 c=false:=by
     unfold V7;rw[h1,YL.mpr h2];rfl
    rw[e]at k;exact k
  ·have e:V7 c=false:=by
    unfold V7;rw[YL.mpr h1];rfl
   rw[e]at k;exact⟨_,rfl,k⟩
end Aa
namespace Ab
abbrev st:Stmt:=top 19
theorem sc:FnScope ["thing"] ["thing"] (zH st):=Ca
theorem ok (F:Fun K "is_line" "is_line" st f fd)(T:Txt P w K mg t1 t2 t3 t4 t5 t6 t7 aL aC aN aT aA b1 b2 b3 fI)(Qr:Cal P w K mg base 1 "is_sign" ["sign"] NV):FnOk P w K mg base A9 2 f fd ["thing"] (FW K):=by
 refine F.ok sc (fun vs H Q E h=>?_) (fun cdv A outer s H vs Q E hr h=>?_)
 ·obtain⟨d,v,rfl,_⟩:=h;rfl
 ·obtain⟨d,v,rfl,hd,sm,k⟩:=h;refine⟨_,(zF (zO (xI (zJ (zX (K:=K)) (by rfl) T.isinstance Zj (zA (pv 0) (zA (yX (v:=.ty "str") rfl T.str ZS rfl) zD))) (xI (yU BU (zJ jH (by rfl) T.len ZE (zA (pv 0) zD)) (xA (v:=.int 20) rfl T.LONGEST_LINE ⟨_,rfl⟩) (zT _)) (qJ (zJ (jQ rfl) (by rfl) T.all YC (zA (y7 (sc:=zH st) (N:=["thing"]) (N':=["sign"]) (src:=[none]) ⟨by decide +kernel,rfl,rfl,by decide +kernel,by decide +kernel,by decide +kernel,by decide +kernel⟩ rfl rfl rfl (FM (pv 0)) (fun _ _ _ _=>(zS (i:=0) (show(["sign"]:Da).Nodup by decide +kernel) rfl (EJ rfl))) (fun _ _ _ _=>qF) (fun _ _ _ _=>(zK Qr hr.m (zA (pv 0) zD)))) zD))))))),?_⟩;refine⟨_,rfl,_,_,d,_,rfl,hd,T.is (by simp[kinds]),_,rfl,?_⟩;cases d with
  |str x =>
   cases(show v=_ from hd);have xl:x.length<=1000:=Zb sm;refine VM ⟨_,rfl,x,rfl,le_line (by omega),_,_,rfl,rfl,_,rfl,VU (fun h1=>?_) (fun h1=>?_)⟩
   ·have h1:x.length<=20:=by have:=Zb h1;omega
    refine⟨_,rfl,_,rfl,IS (fun i ys σ H2=>∃o,σ=[o]/\H2=H/\ys=(((cs x).take i).map V7).map V.bl) ⟨none,rfl,rfl,rfl⟩ (le_line (by omega)) ?_ ?_ ?_⟩
    ·rintro i ys σ H2 hi ⟨o,rfl,rfl,rfl⟩;rw[QU,QU,Zm];omega
    ·rintro i c ys σ H2 hc ⟨o,rfl,rfl,rfl⟩;refine⟨_,rfl,c,rfl,_,rfl,rfl,?_⟩;rw[yW (Mt hc),Q6];rfl
    ·rintro ys σ H2 ⟨o,rfl,rfl,rfl⟩ p np;refine⟨p,_,rfl,SqL.of zB,?_⟩;rw[length_cs,Zq,all_map];have e:Uq (.str x)=(cs x).all V7:=by
      show(decide (x.length<=20)&&(cs x).all V7)=_;rw[QX h1];rfl
     rw[e]at k;exact k _ (zC np)
   ·have e:Uq (.str x)=false:=by
     show(decide (x.length<=20)&&(cs x).all V7)=_;rw[Q9 (fun z=>h1 (QX (by omega)))];rfl
    rw[e]at k;exact k _ (Same.refl _)
  |none=>exact VL (k _ (Same.refl _))
  |bool b=>exact VL (k _ (Same.refl _))
  |int i=>exact VL (k _ (Same.refl _))
  |list ds=>exact VL (k _ (Same.refl _))
  |tuple ds=>exact VL (k _ (Same.refl _))
  |dict Dm=>exact VL (k _ (Same.refl _))
end Ab
namespace Ac
abbrev st:Stmt:=top 20
theorem sc:FnScope ["thing"] ["thing"] (zH st):=Ca
theorem ok (F:Fun K "is_lines" "is_lines" st f fd)(T:Txt P w K mg t1 t2 t3 t4 t5 t6 t7 aL aC aN aT aA b1 b2 b3 fI)(Qh:Cal P w K mg base 2 "is_line" ["thing"] (FW K)):FnOk P w K mg base A9 3 f fd ["thing"] (G2 K):=by
 refine F.ok sc (fun vs H Q E h=>?_) (fun cdv A outer s H vs Q E hr h=>?_)
 ·obtain⟨d,v,rfl,_⟩:=h;rfl
 ·obtain⟨d,v,rfl,hd,sm,k⟩:=h;refine⟨_,(zF (zO (xI (zJ (zX (K:=K)) (by rfl) T.isinstance Zj (zA (pv 0) (zA (yX (v:=.ty "tuple") rfl T.tuple ZZ rfl) zD))) (qJ (zJ (jQ rfl) (by rfl) T.all YC (zA (y7 (sc:=zH st) (N:=["thing"]) (N':=["line"]) (src:=[none]) ⟨by decide +kernel,rfl,rfl,by decide +kernel,by decide +kernel,by decide +kernel,by decide +kernel⟩ rfl rfl rfl (kT (pv 0)) (fun _ _ _ _=>(zS (i:=0) (show(["line"]:Da).Nodup by decide +kernel) rfl (EJ rfl))) (fun _ _ _ _=>qF) (fun _ _ _ _=>(zK Qh hr.m (zA (pv 0) zD)))) zD)))))),?_⟩;refine⟨_,rfl,_,_,d,_,rfl,hd,T.is (by simp[kinds]),_,rfl,?_⟩;cases d with
  |tuple ds =>
   obtain⟨a,xs,rfl,hs,ha⟩:=hd;obtain⟨sl,sa⟩:=qC sm;have Dq:=ha.length;refine VM ⟨_,rfl,a,rfl,⟨_,hs⟩,qK (K:=K) (a:=a) (xs:=xs) (fun i ys σ H2=>∃o,σ=[o]/\Same H H2/\ys=((ds.take i).map Uq).map V.bl) ⟨none,rfl,Same.refl _,rfl⟩ (le_line (by omega)) ?_ ?_ ?_⟩
   ·rintro i ys σ H2 hi ⟨o,rfl,e2,rfl⟩;refine⟨e2.tupS hs,?_⟩;rw[QU,QU,Zm];omega
   ·rintro i x ys σ H2 hx ⟨o,rfl,e2,rfl⟩;obtain⟨d,hd,dx⟩:=ha.get hx;refine⟨_,rfl,d,x,rfl,dx.same e2,yO sa hd,fun H3 e3=>⟨_,rfl,e2.trans e3,?_⟩⟩;rw[yW hd,Q6];rfl
   ·rintro ys σ H2 ⟨o,rfl,e2,rfl⟩ p np;refine⟨p,_,rfl,SqL.of zB,?_⟩;rw[Dq,Zq,all_map];exact k _ (e2.trans (zC np))
  |none=>exact VL (k _ (Same.refl _))
  |bool b=>exact VL (k _ (Same.refl _))
  |int i=>exact VL (k _ (Same.refl _))
  |list ds=>exact VL (k _ (Same.refl _))
  |str x=>exact VL (k _ (Same.refl _))
  |dict Dm=>exact VL (k _ (Same.refl _))
end Ac
namespace Ad
abbrev st:Stmt:=top 21
theorem sc:FnScope ["thing"] ["thing"] (zH st):=Ca
theorem ok (F:Fun K "is_label" "is_label" st f fd)(T:Txt P w K mg t1 t2 t3 t4 t5 t6 t7 aL aC aN aT aA b1 b2 b3 fI):FnOk P w K mg base A9 1 f fd ["thing"] (GZ K):=by
 refine F.ok sc (fun vs H Q E h=>?_) (fun cdv A outer s H vs Q E hr h=>?_)
 ·obtain⟨d,v,rfl,_⟩:=h;rfl
 ·obtain⟨d,v,rfl,hd,sm,k⟩:=h;refine⟨_,(zE (yM (xS (zV (K:=K) (zJ (zX (K:=K)) (by rfl) T.isinstance Zj (zA (pv 0) (zA (yX (v:=.ty "str") rfl T.str ZS rfl) zD))) (fun _=>rfl))) (zF (zO uK)) zU) (zF (zO (xI (XM BU BU zI (zJ jH (by rfl) T.len ZE (zA (pv 0) zD)) (xA (v:=.int 8) rfl T.LONGEST_LABEL ⟨_,rfl⟩)) (qJ (zJ (jQ rfl) (by rfl) T.all YC (zA (y7 (sc:=zH st) (N:=["thing"]) (N':=["sign"]) (src:=[none]) ⟨by decide +kernel,rfl,rfl,by decide +kernel,by decide +kernel,by decide +kernel,by decide +kernel⟩ rfl rfl rfl (FM (pv 0)) (fun _ _ _ _=>(zS (i:=0) (show(["sign"]:Da).Nodup by decide +kernel) rfl (EJ rfl))) (fun _ _ _ _=>qF) (fun _ _ _ _=>(XM Bf Bf pe_str (pv 0) pe_str))) zD))))))),?_⟩
  refine⟨_,rfl,_,_,d,_,rfl,hd,T.is (by simp[kinds]),_,rfl,?_⟩;cases d with
  |str x =>
   cases(show v=_ from hd);have xl:x.length<=1000:=Zb sm;refine VL ?_;refine⟨_,rfl,x,rfl,le_line (by omega),_,_,rfl,rfl,_,rfl,VU (fun h0=>?_) (fun h0=>?_)⟩
   ·refine⟨_,_,rfl,rfl,_,rfl,VU (fun h1=>?_) (fun h1=>?_)⟩
    ·have h0:1<=x.length:=by have:=Zb h0;omega
     have h1:x.length<=8:=by have:=Zb h1;omega
     refine⟨_,rfl,_,rfl,IS (fun i ys σ H2=>∃o,σ=[o]/\H2=H/\ys=(((cs x).take i).map UH).map V.bl) ⟨none,rfl,rfl,rfl⟩ (le_line (by omega)) ?_ ?_ ?_⟩
     ·rintro i ys σ H2 hi ⟨o,rfl,rfl,rfl⟩;rw[QU,QU,Zm];omega
     ·rintro i c ys σ H2 hc ⟨o,rfl,rfl,rfl⟩;rw[yW (Mt hc),Q6];refine⟨_,rfl,_,_,rfl,rfl,_,rfl,?_⟩;rw[MU c 97 "a" (by decide +kernel)];refine VU (fun h3=>?_) (fun h3=>?_)
      ·refine⟨_,_,rfl,rfl,?_⟩;rw[one_le c 122 "z" (by decide +kernel)];have e:UH c=decide (c<=122):=by unfold UH;rw[h3];rfl
       rw[e];exact⟨_,rfl,rfl,rfl⟩
      ·have e:UH c=false:=by unfold UH;rw[YL.mpr h3];rfl
       rw[e];exact⟨_,rfl,rfl,rfl⟩
     ·rintro ys σ H2 ⟨o,rfl,rfl,rfl⟩ p np;refine⟨p,_,rfl,SqL.of zB,?_⟩;rw[length_cs,Zq,all_map];have e:uR (.str x)=(cs x).all UH:=by
       show(decide (1<=x.length)&&decide (x.length<=8)&&(cs x).all UH)=_;rw[QX h0,QX h1];rfl
      rw[e]at k;exact k _ (zC np)
    ·have e:uR (.str x)=false:=by
      show(decide (1<=x.length)&&decide (x.length<=8)&&(cs x).all UH)=_;rw[Q9 (p:=x.length<=8) (fun z=>h1 (QX (by omega))),Jh];rfl
     rw[e]at k;exact k _ (Same.refl _)
   ·have e:uR (.str x)=false:=by
     show(decide (1<=x.length)&&decide (x.length<=8)&&(cs x).all UH)=_;rw[Q9 (p:=1<=x.length) (fun z=>h0 (QX (by omega)))];rfl
    rw[e]at k;exact⟨_,rfl,k _ (Same.refl _)⟩
  |none=>exact VM (k _ (Same.refl _))
  |bool b=>exact VM (k _ (Same.refl _))
  |int i=>exact VM (k _ (Same.refl _))
  |list ds=>exact VM (k _ (Same.refl _))
  |tuple ds=>exact VM (k _ (Same.refl _))
  |dict Dm=>exact VM (k _ (Same.refl _))
end Ad
namespace Ae
abbrev st:Stmt:=top 22
theorem sc:FnScope ["thing"] ["thing"] (zH st):=Ca
theorem ok (F:Fun K "is_row" "is_row" st f fd)(T:Txt P w K mg t1 t2 t3 t4 t5 t6 t7 aL aC aN aT aA b1 b2 b3 fI)(Qi:Cal P w K mg base 1 "is_label" ["thing"] (GZ K)):FnOk P w K mg base A9 2 f fd ["thing"] (Px K):=by
 refine F.ok sc (fun vs H Q E h=>?_) (fun cdv A outer s H vs Q E hr h=>?_)
 ·obtain⟨d,v,rfl,_⟩:=h;rfl
 ·obtain⟨d,v,rfl,hd,sm,k⟩:=h;refine⟨_,(zF (zO (xI (zJ (zX (K:=K)) (by rfl) T.isinstance Zj (zA (pv 0) (zA (yX (v:=.ty "tuple") rfl T.tuple ZZ rfl) zD))) (xI (yU xN (zJ zN (by rfl) T.len ZE (zA (pv 0) zD)) zI (zT _)) (xI (zK Qi hr.m (zA (z7 (ix_tup:A7 _ (VR K)) (pv 0) zI (fun _ _=>rfl)) zD)) (qJ (zJ (zX (K:=K)) (by rfl) T.isinstance Zj (zA (z7 (ix_tup:A7 _ (VR K)) (pv 0) zI (fun _ _=>rfl)) (zA (yX (v:=.ty "str") rfl T.str ZS rfl) zD))))))))),?_⟩;refine⟨_,rfl,_,_,d,_,rfl,hd,T.is (by simp[kinds]),_,rfl,?_⟩;cases d with
  |tuple ds =>
   obtain⟨a,xs,rfl,hs,ha⟩:=hd;obtain⟨sl,sa⟩:=qC sm;have Dq:=ha.length;refine VM ⟨_,rfl,a,_,rfl,.inr hs,rfl,_,rfl,VU (fun h1=>?_) (fun h1=>?_)⟩
   ·have h1:xs.length=2:=by have:=Zb h1;injection this with z;omega
    match ds,ha,Dq,sa,k with
    |[l,n],⟨x0,r0,e0,d0,x1,r1,e1,d1,e2⟩,_,sa,k =>
     have e2:r1=[]:=e2;subst e2 e1 e0;refine⟨_,rfl,a,_,_,_,rfl,rfl,hs,rfl,l,_,rfl,d0,yO (i:=0) sa rfl,fun H2 s2=>⟨_,rfl,VU (fun h2=>?_) (fun h2=>?_)⟩⟩
     ·refine⟨_,rfl,a,_,_,_,rfl,rfl,s2.tupS hs,rfl,_,_,n,_,rfl,d1.same s2,T.is (by simp[kinds]),?_⟩;have e:Us (.tuple [l,n])=(Um n=="str"||(Um n=="bool"&&"str"=="int")):=by
       show(uR l&&V3 n)=_;rw[h2];cases n<;>rfl
      rw[e]at k;exact k _ s2
     ·have e:Us (.tuple [l,n])=false:=by
       show(uR l&&V3 n)=_;rw[YL.mpr h2];rfl
      rw[e]at k;exact k _ s2
    |[],_,hl,_,_=>exact absurd (hl.symm.trans h1) (by simp)
    |[_],_,hl,_,_=>exact absurd (hl.symm.trans h1) (by simp)
    |_::_::_::_,_,hl,_,_=>exact absurd (hl.symm.trans h1) (by simp)
   ·have e:Us (.tuple ds)=false:=by
     match ds,Dq with
     |[_,_],hl=>exact absurd (QX (by rw[hl];rfl)) h1
     |[],_=>rfl
     |[_],_=>rfl
     |_::_::_::_,_=>rfl
    rw[e]at k;exact k _ (Same.refl _)
  |none=>exact VL (k _ (Same.refl _))
  |bool b=>exact VL (k _ (Same.refl _))
  |int i=>exact VL (k _ (Same.refl _))
  |list ds=>exact VL (k _ (Same.refl _))
  |str x=>exact VL (k _ (Same.refl _))
  |dict Dm=>exact VL (k _ (Same.refl _))
end Ae
namespace Af
abbrev st:Stmt:=top 24
theorem sc:FnScope ["thing"] ["thing"] (zH st):=Ca
theorem ok (F:Fun K "is_parents" "is_parents" st f fd)(T:Txt P w K mg t1 t2 t3 t4 t5 t6 t7 aL aC aN aT aA b1 b2 b3 fI):FnOk P w K mg base A9 1 f fd ["thing"] (XW K):=by
 refine F.ok sc (fun vs H Q E h=>?_) (fun cdv A outer s H vs Q E hr h=>?_)
 ·obtain⟨d,v,rfl,_⟩:=h;rfl
 ·obtain⟨d,v,rfl,hd,sm,k⟩:=h;refine⟨_,(zE (yM (PW.pt (uH (xS (zV (K:=K) (zJ (zX (K:=K)) (by rfl) T.isinstance Zj (zA (pv 0) (zA (yX (v:=.ty "tuple") rfl T.tuple ZZ rfl) zD))) (fun _=>rfl))) (j0 (xS (zV (K:=K) (zJ (jQ rfl) (by rfl) T.all YC (zA (y7 (sc:=zH st) (N:=["thing"]) (N':=["name"]) (src:=[none]) ⟨by decide +kernel,rfl,rfl,by decide +kernel,by decide +kernel,by decide +kernel,by decide +kernel⟩ rfl rfl rfl (kT (pv 0)) (fun _ _ _ _=>(zS (i:=0) (show(["name"]:Da).Nodup by decide +kernel) rfl (EJ rfl))) (fun _ _ _ _=>qF) (fun _ _ _ _=>(zJ (zX (K:=K)) (by rfl) T.isinstance Zj (zA (pv 0) (zA (yX (v:=.ty "str") rfl T.str ZS rfl) zD))))) zD)) (fun _=>rfl)))))) (zF (zO uK)) zU) (zF (zO (xI (yU BU (zJ zN (by rfl) T.len ZE (zA (pv 0) zD)) (xA (v:=.int 2) rfl T.MOST_PARENTS ⟨_,rfl⟩) (zT _)) (qJ (yU xN (zJ Kh (by rfl) T.len ZE (zA (zZ (BB (K:=K) rfl) (by rfl) T.set PyProof.Rows.boot_set (zA (pv 0) zD)) zD)) (zJ zN (by rfl) T.len ZE (zA (pv 0) zD)) (zT _))))))),?_⟩
  refine⟨_,rfl,_,_,d,_,rfl,hd,T.is (by simp[kinds]),_,rfl,?_⟩;cases d with
  |tuple ds =>
   obtain⟨a,xs,rfl,hs,ha⟩:=hd;obtain⟨sl,sa⟩:=qC sm;have Dq:=ha.length;refine VL ⟨_,rfl,a,rfl,⟨_,hs⟩,qK (K:=K) (a:=a) (xs:=xs) (fun i ys σ H2=>∃o,σ=[o]/\H2=H/\ys=((ds.take i).map V3).map V.bl) ⟨none,rfl,rfl,rfl⟩ (le_line (by omega)) ?_ ?_ ?_⟩
   ·rintro i ys σ H2 hi ⟨o,rfl,rfl,rfl⟩;refine⟨hs,?_⟩;rw[QU,QU,Zm];omega
   ·rintro i x ys σ H2 hx ⟨o,rfl,rfl,rfl⟩;obtain⟨d,hd,dx⟩:=ha.get hx;refine⟨_,rfl,_,_,d,_,rfl,dx,T.is (by simp[kinds]),_,rfl,rfl,?_⟩;rw[uD,yW hd,Q6];rfl
   ·rintro ys σ H2 ⟨o,rfl,rfl,rfl⟩ p np;refine⟨p,_,rfl,SqL.of zB,?_⟩;rw[Dq,Zq,all_map];have u:=zC (o:=.lst ((ds.map V3).map V.bl)) np;cases q:ds.all V3 with
    |false =>
     have e:qX (.tuple ds)=false:=by show(ds.all V3&&_)=false;rw[q];rfl
     rw[e]at k;exact⟨_,rfl,VM (k _ u)⟩
    |true =>
     have ex:=Fd ha q;rw[ex]at hs;refine⟨_,rfl,VL ?_⟩;refine⟨_,rfl,a,_,rfl,.inr (u.tupS hs),_,_,rfl,rfl,_,rfl,VU (fun h1=>?_) (fun h1=>?_)⟩
     ·refine⟨_,rfl,a,ds.map BD,rfl,.inr (u.tupS hs),by rw[QU];exact sl,fun p2 n2=>?_⟩;have u2:=zC (o:=GJ P w p2 (AxS.uniq (ds.map BD))) n2;refine⟨p2,_,rfl,zB,_,rfl,a,_,rfl,.inr ((u.trans u2).tupS hs),rfl,?_⟩;have l2:ds.length<=2:=by have:=Zb h1;rw[QU,QU]at this;omega
      have e:qX (.tuple ds)=decide (V.int (((AxS.uniq (ds.map BD)).length:Nat):Int)=V.int (((((ds.map BD).map V.str).length:Nat)):Int)):=by
       show(ds.all V3&&(decide (ds.length<=2)&&decide _))=_;rw[q,QX l2,Vt,Vt,Z8,Zt,Zt,QU,QU];constructor
       ·intro z;rw[z]
       ·intro z;injection z with z;omega
      rw[e]at k;exact k _ (u.trans u2)
     ·have e:qX (.tuple ds)=false:=by
       show(ds.all V3&&(decide (ds.length<=2)&&_))=false;rw[Q9 (p:=ds.length<=2) (fun z=>h1 (QX (by rw[QU,QU];omega))),YY,Jh]
      rw[e]at k;exact k _ u
  |none=>exact VM (k _ (Same.refl _))
  |bool b=>exact VM (k _ (Same.refl _))
  |int i=>exact VM (k _ (Same.refl _))
  |list ds=>exact VM (k _ (Same.refl _))
  |str x=>exact VM (k _ (Same.refl _))
  |dict Dm=>exact VM (k _ (Same.refl _))
end Af
namespace Ag
abbrev st:Stmt:=top 23
theorem sc:FnScope ["thing","labels"] ["thing"] (zH st):=Ca
theorem ok (F:Fun K "is_rows" "is_rows" st f fd)(T:Txt P w K mg t1 t2 t3 t4 t5 t6 t7 aL aC aN aT aA b1 b2 b3 fI)(Qs:Cal P w K mg base 2 "is_row" ["thing"] (Px K)):FnOk P w K mg base A9 3 f fd ["thing"] (NU K):=by
 refine F.ok sc (fun vs H Q E h=>?_) (fun cdv A outer s H vs Q E hr h=>?_)
 ·obtain⟨d,v,rfl,_⟩:=h;rfl
 ·obtain⟨d,v,rfl,hd,sm,d60,k⟩:=h;refine⟨_,(zE (yM (PW.pt (uH (xS (zV (K:=K) (zJ (zX (K:=K)) (by rfl) T.isinstance Zj (zA (pv 0) (zA (yX (v:=.ty "tuple") rfl T.tuple ZZ rfl) zD))) (fun _=>rfl))) (j0 (xS (zV (K:=K) (zJ (jQ rfl) (by rfl) T.all YC (zA (y7 (sc:=zH st) (N:=["thing","labels"]) (N':=["row"]) (src:=[none]) ⟨by decide +kernel,rfl,rfl,by decide +kernel,by decide +kernel,by decide +kernel,by decide +kernel⟩ rfl rfl rfl (kT (pv 0)) (fun _ _ _ _=>(zS (i:=0) (show(["row"]:Da).Nodup by decide +kernel) rfl (EJ rfl))) (fun _ _ _ _=>qF) (fun _ _ _ _=>(zK Qs hr.m (zA (pv 0) zD)))) zD)) (fun _=>rfl)))))) (zF (zO uK)) zU) (zE (Xm (sc:=zH st) (N:=["thing","labels"]) (N':=["row"]) (src:=[none]) ⟨by decide +kernel,rfl,rfl,by decide +kernel,by decide +kernel,by decide +kernel,by decide +kernel⟩ rfl rfl rfl (kT (pv 0)) (fun _ _ _ _=>(zS (i:=0) (show(["row"]:Da).Nodup by decide +kernel) rfl (EJ rfl))) (fun _ _ _ _=>qF) (fun _ _ _ _=>(z7 (ix_tup:A7 _ (VR K)) (pv 0) zI (fun _ _=>rfl))) sc.nd rfl (EJ rfl) (k:=1)) (zF (zO (yU (G4 hr.units) (pv 1) (zJ (Bj rfl) (by rfl) T.sorted PyProof.Rows.boot_sorted (zA (zZ (BB (K:=K) rfl) (by rfl) T.set PyProof.Rows.boot_set (zA (pv 1) zD)) zD)) (zT _)))))),?_⟩
  refine⟨_,rfl,_,_,d,_,rfl,hd,T.is (by simp[kinds]),_,rfl,?_⟩;cases d with
  |tuple ds =>
   have d60:=d60 ds rfl;obtain⟨a,xs,rfl,hs,ha⟩:=hd;obtain⟨sl,sa⟩:=qC sm;have Dq:=ha.length;refine VL ⟨_,rfl,a,rfl,⟨_,hs⟩,qK (K:=K) (a:=a) (xs:=xs) (fun i ys σ H2=>∃o,σ=[o]/\Same H H2/\ys=((ds.take i).map Us).map V.bl) ⟨none,rfl,Same.refl _,rfl⟩ (le_line (by omega)) ?_ ?_ ?_⟩
   ·rintro i ys σ H2 hi ⟨o,rfl,e2,rfl⟩;refine⟨e2.tupS hs,?_⟩;rw[QU,QU,Zm];omega
   ·rintro i x ys σ H2 hx ⟨o,rfl,e2,rfl⟩;obtain⟨d,hd,dx⟩:=ha.get hx;refine⟨_,rfl,d,x,rfl,dx.same e2,yO sa hd,fun H3 e3=>⟨_,rfl,e2.trans e3,?_⟩⟩;rw[yW hd,Q6];rfl
   ·rintro ys σ H2 ⟨o,rfl,e2,rfl⟩ p np;refine⟨p,_,rfl,SqL.of zB,?_⟩;rw[Dq,Zq,all_map];have u:=e2.trans (zC (o:=.lst ((ds.map Us).map V.bl)) np);cases q:ds.all Us with
    |false =>
     have e:II (.tuple ds)=false:=by show(ds.all Us&&_)=false;rw[q];rfl
     rw[e]at k;exact⟨_,rfl,VM (k _ u)⟩
    |true =>
     refine⟨_,rfl,VL ?_⟩;show Pa _ _ _ _ (upd H2 p (.lst ((ds.map Us).map V.bl)));generalize upd H2 p (.lst ((ds.map Us).map V.bl))=G at u;have haG:=DwAll.same u _ _ ha;refine⟨_,rfl,a,rfl,⟨_,u.tupS hs⟩,qK (K:=K) (a:=a) (xs:=xs) (fun i ys σ H2=>∃o,σ=[o]/\H2=G/\ys=((ds.take i).map Ug).map V.str) ⟨none,rfl,rfl,rfl⟩ (le_line (by omega)) ?_ ?_ ?_⟩
     ·rintro i ys σ H2 hi ⟨o,rfl,rfl,rfl⟩;refine⟨u.tupS hs,?_⟩;rw[QU,QU,Zm];omega
     ·rintro i x ys σ H2 hx ⟨o,rfl,rfl,rfl⟩;obtain⟨d,hd,dx⟩:=haG.get hx;obtain⟨t,y,rfl,ht,_⟩:=HJ dx (Zu.mp q d (Zc hd));refine⟨_,rfl,t,_,_,_,rfl,rfl,ht,rfl,_,rfl,rfl,?_⟩;have e1:ds.take (i+1)=ds.take i++[d]:=by rw[Z4,hd];rfl
      rw[e1,Q6,Q6];rfl
     ·rintro ys σ H2 ⟨o,rfl,rfl,rfl⟩ l nl;rw[Dq,Zq];have v1:=zC (o:=.lst ((ds.map Ug).map V.str)) nl;have ul:=AxS.uniq_len _ (ds.map Ug) rfl;rw[QU]at ul;refine⟨_,rfl,_,rfl,l,ds.map Ug,rfl,.inl (SqL.of zB),by rw[QU];omega,fun p2 n2=>?_⟩;have v2:=v1.trans (zC (o:=GJ P w p2 (AxS.uniq (ds.map Ug))) n2);refine⟨p2,_,rfl,zB,by omega,fun l3 ss n3 hp hso=>?_⟩;have v3:=v2.trans (zC (o:=.lst (ss.map V.str)) n3);have okL:∀x∈ds.map Ug,Em x=true:=fun x hx=>by
       obtain⟨d,hd,rfl⟩:=QZ.mp hx;obtain⟨j,hj⟩:=List.getElem?_of_mem hd;obtain⟨z,hz,dz⟩:=haG.at hj;obtain⟨_,_,_,_,hl⟩:=HJ dz (Zu.mp q d hd);exact IT hl
      have okS:∀x∈ss,Em x=true:=fun x hx=>okL x (N3 (hp.mem_iff.mp hx));have hlb:=(v2.trans (zC (o:=.lst (ss.map V.str)) n3));have hl3:=(((zC (o:=GJ P w p2 (AxS.uniq (ds.map Ug))) n2).trans (zC (o:=.lst (ss.map V.str)) n3))) _ _ (zB (H:=H2) (a:=l) (o:=.lst ((ds.map Ug).map V.str)));refine⟨.list ((ds.map Ug).map .str),.list (ss.map .str),⟨l,_,rfl,SqL.of hl3,DtAll.strs _⟩,⟨l3,_,rfl,SqL.of zB,DtAll.strs _⟩,(y9 okL).1,(y9 okS).1,?_⟩;have ev:EE (.list ((ds.map Ug).map .str)) (.list (ss.map .str))=decide (ds.map Ug=ss):=jM _ _;rw[ev,FV hp hso];have e:II (.tuple ds)=Uv (ds.map Ug):=by show(ds.all Us&&_)=_;rw[q];rfl
      rw[e]at k;exact k _ (u.trans v3)
  |none=>exact VM (k _ (Same.refl _))
  |bool b=>exact VM (k _ (Same.refl _))
  |int i=>exact VM (k _ (Same.refl _))
  |list ds=>exact VM (k _ (Same.refl _))
  |str x=>exact VM (k _ (Same.refl _))
  |dict Dm=>exact VM (k _ (Same.refl _))
end Ag
namespace Ah
abbrev st:Stmt:=top 25
theorem sc:FnScope ["word","parts"] ["word","parts"] (zH st):=Ca
theorem ok (F:Fun K "is_leaf" "is_leaf" st f fd)(T:Txt P w K mg t1 t2 t3 t4 t5 t6 t7 aL aC aN aT aA b1 b2 b3 fI)(Qj:Cal P w K mg base 3 "is_lines" ["thing"] (G2 K)):FnOk P w K mg base A9 4 f fd ["word","parts"] (UR K Uj):=by
 refine F.ok sc (fun vs H Q E h=>?_) (fun cdv A outer s H vs Q E hr h=>?_)
 ·obtain⟨word,a,ds,xs,rfl,_⟩:=h;rfl
 ·obtain⟨word,a,ds,xs,rfl,hs,ha,sa,d60,e60,k⟩:=h;refine⟨_,(zF (zO (xI (yU xN (pv 0) pe_str (zT _)) (xI (yU xN (zJ zN (by rfl) T.len ZE (zA (pv 1) zD)) zI (zT _)) (qJ (zK Qj hr.m (zA (z7 (ix_tup:A7 _ (VR K)) (pv 1) zI (fun _ _=>rfl)) zD))))))),?_⟩;have Dq:=ha.length;refine⟨_,rfl,rfl,_,rfl,VU (fun h1=>?_) (fun h1=>?_)⟩
  ·have h1:V.str word=V.str "leaf":=Zb h1;have h1:word="leaf":=by injection h1
   refine⟨_,rfl,a,_,rfl,.inr hs,rfl,_,rfl,VU (fun h2=>?_) (fun h2=>?_)⟩
   ·have h2:xs.length=1:=by have:=Zb h2;injection this with z;omega
    have hd0:ds[0]?=some (Cf ds 0):=by
     have:ds[0]?=some (ds[0]'(by omega)):=Q5 _;unfold Cf;rw[this];rfl
    obtain⟨x,hx,dx⟩:=ha.at hd0;refine⟨_,rfl,a,_,_,_,rfl,rfl,hs,xQ (j:=0) hx,Cf ds 0,_,rfl,dx,yO sa hd0,fun H2 s2=>?_⟩;have e:Uj word ds=vA (Cf ds 0):=by
     unfold Uj;rw[QX h1,QX (show ds.length=1 by omega)];rfl
    rw[e]at k;exact k _ s2
   ·have e:Uj word ds=false:=by
     unfold Uj;rw[Q9 (p:=ds.length=1) (fun z=>h2 (QX (by rw[Dq,z];rfl))),YY,Jh]
    rw[e]at k;exact k _ (Same.refl _)
  ·have e:Uj word ds=false:=by
    unfold Uj;rw[Q9 (p:=word="leaf") (fun z=>h1 (QX (by rw[z]))),YY]
   rw[e]at k;exact k _ (Same.refl _)
end Ah
namespace Ai
abbrev st:Stmt:=top 26
theorem sc:FnScope ["word","parts"] ["word","parts"] (zH st):=Ca
theorem ok (F:Fun K "is_tree" "is_tree" st f fd)(T:Txt P w K mg t1 t2 t3 t4 t5 t6 t7 aL aC aN aT aA b1 b2 b3 fI)(Qt:Cal P w K mg base 3 "is_rows" ["thing"] (NU K)):FnOk P w K mg base A9 4 f fd ["word","parts"] (UR K Uk):=by
 refine F.ok sc (fun vs H Q E h=>?_) (fun cdv A outer s H vs Q E hr h=>?_)
 ·obtain⟨word,a,ds,xs,rfl,_⟩:=h;rfl
 ·obtain⟨word,a,ds,xs,rfl,hs,ha,sa,d60,e60,k⟩:=h;refine⟨_,(zF (zO (xI (yU xN (pv 0) pe_str (zT _)) (xI (yU xN (zJ zN (by rfl) T.len ZE (zA (pv 1) zD)) zI (zT _)) (qJ (zK Qt hr.m (zA (z7 (ix_tup:A7 _ (VR K)) (pv 1) zI (fun _ _=>rfl)) zD))))))),?_⟩;have Dq:=ha.length;refine⟨_,rfl,rfl,_,rfl,VU (fun h1=>?_) (fun h1=>?_)⟩
  ·have h1:V.str word=V.str "tree":=Zb h1;have h1:word="tree":=by injection h1
   refine⟨_,rfl,a,_,rfl,.inr hs,rfl,_,rfl,VU (fun h2=>?_) (fun h2=>?_)⟩
   ·have h2:xs.length=1:=by have:=Zb h2;injection this with z;omega
    have hd0:ds[0]?=some (Cf ds 0):=by
     have:ds[0]?=some (ds[0]'(by omega)):=Q5 _;unfold Cf;rw[this];rfl
    obtain⟨x,hx,dx⟩:=ha.at hd0;refine⟨_,rfl,a,_,_,_,rfl,rfl,hs,xQ (j:=0) hx,Cf ds 0,_,rfl,dx,yO sa hd0,fun es he=>e60 _ (Zc hd0) es he,fun H2 s2=>?_⟩;have e:Uk word ds=II (Cf ds 0):=by
     unfold Uk;rw[QX h1,QX (show ds.length=1 by omega)];rfl
    rw[e]at k;exact k _ s2
   ·have e:Uk word ds=false:=by
     unfold Uk;rw[Q9 (p:=ds.length=1) (fun z=>h2 (QX (by rw[Dq,z];rfl))),YY,Jh]
    rw[e]at k;exact k _ (Same.refl _)
  ·have e:Uk word ds=false:=by
    unfold Uk;rw[Q9 (p:=word="tree") (fun z=>h1 (QX (by rw[z]))),YY]
   rw[e]at k;exact k _ (Same.refl _)
end Ai
namespace Aj
abbrev st:Stmt:=top 27
theorem sc:FnScope ["word","parts"] ["word","parts"] (zH st):=Ca
theorem ok (F:Fun K "is_note" "is_note" st f fd)(T:Txt P w K mg t1 t2 t3 t4 t5 t6 t7 aL aC aN aT aA b1 b2 b3 fI)(Qu:Cal P w K mg base 1 "is_parents" ["thing"] (XW K))(Qh:Cal P w K mg base 2 "is_line" ["thing"] (FW K)):FnOk P w K mg base A9 3 f fd ["word","parts"] (UR K Ur):=by
 refine F.ok sc (fun vs H Q E h=>?_) (fun cdv A outer s H vs Q E hr h=>?_)
 ·obtain⟨word,a,ds,xs,rfl,_⟩:=h;rfl
 ·obtain⟨word,a,ds,xs,rfl,hs,ha,sa,d60,e60,k⟩:=h;refine⟨_,(zE (yM (PW.pt (uH (zP HB (pv 0) pe_str (zT _)) (j0 (zP HB (zJ zN (by rfl) T.len ZE (zA (pv 1) zD)) zI (zT _))))) (zF (zO uK)) zU) (zF (zO (xI (zJ (zX (K:=K)) (by rfl) T.isinstance Zj (zA (z7 (ix_tup:A7 _ (VR K)) (pv 1) zI (fun _ _=>rfl)) (zA (yX (v:=.ty "str") rfl T.str ZS rfl) zD))) (xI (zK Qu hr.m (zA (z7 (ix_tup:A7 _ (VR K)) (pv 1) zI (fun _ _=>rfl)) zD)) (qJ (zK Qh hr.m (zA (z7 (ix_tup:A7 _ (VR K)) (pv 1) zI (fun _ _=>rfl)) zD)))))))),?_⟩
  have Dq:=ha.length
  by_cases h1:word="note"
  ·refine⟨_,rfl,rfl,_,rfl,Pk (by rw[h1]) ?_⟩
   by_cases h2:ds.length=3
   ·refine⟨_,rfl,a,_,rfl,.inr hs,rfl,_,rfl,Pk (by rw[Dq,h2];rfl) ?_⟩;have get:∀i,i<3->ds[i]?=some (Cf ds i):=fun i hi=>by
     have:ds[i]?=some (ds[i]'(by omega)):=Q5 _;unfold Cf;rw[this];rfl
    obtain⟨x0,hx0,dx0⟩:=ha.at (get 0 (by decide));obtain⟨x1,hx1,dx1⟩:=ha.at (get 1 (by decide));obtain⟨x2,hx2,dx2⟩:=ha.at (get 2 (by decide));have e:Ur word ds=(V3 (Cf ds 0)&&(qX (Cf ds 1)&&Uq (Cf ds 2))):=by
     unfold Ur;rw[QX h1,QX h2];rfl
    rw[e]at k;refine⟨_,rfl,a,_,_,_,rfl,rfl,hs,xQ (j:=0) hx0,_,_,Cf ds 0,_,rfl,dx0,T.is (by simp[kinds]),_,rfl,?_⟩;rw[uD];cases q0:V3 (Cf ds 0) with
    |false =>
     rw[q0]at k;exact VL (k _ (Same.refl _))
    |true =>
     rw[q0]at k;refine VM ⟨_,rfl,a,_,_,_,rfl,rfl,hs,xQ (j:=1) hx1,Cf ds 1,_,rfl,dx1,yO sa (get 1 (by decide)),fun H2 s2=>⟨_,rfl,?_⟩⟩;cases q1:qX (Cf ds 1) with
     |false =>
      rw[q1]at k;exact VL (k _ s2)
     |true =>
      rw[q1]at k;exact VM ⟨_,rfl,a,_,_,_,rfl,rfl,s2.tupS hs,xQ (j:=2) hx2,Cf ds 2,_,rfl,dx2.same s2,yO sa (get 2 (by decide)),fun H3 s3=>k _ (s2.trans s3)⟩
   ·have e:Ur word ds=false:=by
     unfold Ur;rw[Q9 h2,YY,Jh]
    rw[e]at k;refine⟨_,rfl,a,_,rfl,.inr hs,rfl,_,rfl,?_⟩;rw[Q9 (p:=V.int ((xs.length:Nat):Int)=V.int 3) (fun z=>h2 (by injection z with z;omega))];exact VM (k _ (Same.refl _))
  ·have e:Ur word ds=false:=by
    unfold Ur;rw[Q9 h1,YY]
   rw[e]at k;refine⟨_,rfl,rfl,_,rfl,?_⟩;rw[Q9 (p:=V.str word=V.str "note") (fun z=>h1 (by injection z))];exact VM (VM (k _ (Same.refl _)))
end Aj
namespace Ak
abbrev st:Stmt:=top 28
theorem sc:FnScope ["thing","word","parts"] ["thing"] (zH st):=Ca
theorem ok (F:Fun K "is_thing" "is_thing" st f fd)(T:Txt P w K mg t1 t2 t3 t4 t5 t6 t7 aL aC aN aT aA b1 b2 b3 fI)(Qv:Cal P w K mg base 4 "is_leaf" ["word","parts"] (UR K Uj))(Qw:Cal P w K mg base 4 "is_tree" ["word","parts"] (UR K Uk))(Qx:Cal P w K mg base 3 "is_note" ["word","parts"] (UR K Ur)) :
  FnOk P w K mg base A9 5 f fd ["thing"] (DE K):=by
 refine F.ok sc (fun vs H Q E h=>?_) (fun cdv A outer s H vs Q E hr h=>?_)
 ·obtain⟨d,v,rfl,_⟩:=h;rfl
 ·obtain⟨d,v,rfl,hd,sm,nar,k⟩:=h;refine⟨_,(zE (yM (PW.pt (uH (xS (zV (K:=K) (zJ (zX (K:=K)) (by rfl) T.isinstance Zj (zA (pv 0) (zA (yX (v:=.ty "tuple") rfl T.tuple ZZ rfl) zD))) (fun _=>rfl))) (uH (zP xN (zJ zN (by rfl) T.len ZE (zA (pv 0) zD)) zI (zT _)) (j0 (xS (zV (K:=K) (zJ (zX (K:=K)) (by rfl) T.isinstance Zj (zA (z7 (ix_tup:A7 _ (VR K)) (pv 0) zI (fun _ _=>rfl)) (zA (yX (v:=.ty "str") rfl T.str ZS rfl) zD))) (fun _=>rfl))))))) (zF (zO uK)) zU) (zE (A8 (i:=1) sc.nd (z7 (ix_tup:A7 _ (VR K)) (pv 0) zI (fun _ _=>rfl))) (zE (A8 (i:=2) sc.nd (xF (sl_tup2:Hc _ (Pp K)) (pv 0) (yZ zI) j6)) (zF (zO (Pm (zK Qv hr.m (zA (pv 1) (zA (pv 2) zD))) (Pm (zK Qw hr.m (zA (pv 1) (zA (pv 2) zD))) (qJ (zK Qx hr.m (zA (pv 1) (zA (pv 2) zD))))))))))),?_⟩
  refine⟨_,rfl,_,_,d,_,rfl,hd,T.is (by simp[kinds]),_,rfl,?_⟩;cases d with
  |tuple ds =>
   obtain⟨n1,n2⟩:=nar ds rfl;obtain⟨a,xs,rfl,hs,ha⟩:=hd;obtain⟨sl,sa⟩:=qC sm;have Dq:=ha.length;refine VL ?_
   match ds,ha,Dq,sa,n1,n2,k with
   |[],ha,Dq,sa,n1,n2,k =>
    refine⟨_,rfl,a,_,rfl,.inr hs,rfl,_,rfl,?_⟩;rw[QX (show V.int ((xs.length:Nat):Int)=V.int 0 by rw[Dq];rfl)];exact VM (VM (k _ (Same.refl _)))
   |d0::ds,⟨x0,r,ex,hd0,hr'⟩,Dq,sa,n1,n2,k =>
    subst ex;refine⟨_,rfl,a,_,rfl,.inr hs,rfl,_,rfl,MK (fun z=>by injection z with z;simp at z;omega) ?_⟩;refine⟨_,rfl,a,_,_,_,rfl,rfl,hs,xQ (j:=0) rfl,_,_,d0,_,rfl,hd0,T.is (by simp[kinds]),_,rfl,?_⟩;rw[uD];cases d0 with
    |str word =>
     cases(show x0=_ from hd0);refine VL ?_;refine⟨_,rfl,a,_,_,_,rfl,rfl,hs,xQ (j:=0) rfl,?_⟩;refine⟨_,rfl,_,rfl,a,_,rfl,hs,fun v H1 hv=>?_⟩;obtain⟨q,rfl,s1,hq⟩:=Og hs hv;rw[Ik (by decide)]at hq;have hq:SqT K H1 q r:=hq;have sa':yE ds=true:=by
      have sa:(small (.str word)&&yE ds)=true:=sa;rw[Q8]at sa;exact sa.2
     have n1':ds.length<=63:=by have:=n1;simp at this;omega
     have n2':∀e∈ds,∀es,e=.tuple es->es.length<=63:=fun e he=>n2 e (QY _ he);refine⟨_,rfl,_,rfl,word,q,ds,r,rfl,hq,DwAll.same s1 _ _ hr',sa',n1',n2',fun H2 s2=>⟨_,rfl,?_⟩⟩;have k:∀H',Same H H'->Q (.bl (Uj word ds||(Uk word ds||Ur word ds))) H':=k;cases q0:Uj word ds with
     |true =>
      rw[q0]at k;exact VM (k _ (s1.trans s2))
     |false =>
      rw[q0,Vq]at k;have s12:=s1.trans s2;refine VL ⟨_,rfl,_,rfl,word,q,ds,r,rfl,s2.tupS hq,DwAll.same s12 _ _ hr',sa',n1',n2',fun H3 s3=>⟨_,rfl,?_⟩⟩;cases q1:Uk word ds with
      |true =>
       rw[q1]at k;exact VM (k _ (s12.trans s3))
      |false =>
       rw[q1,Vq]at k;exact VL ⟨_,rfl,_,rfl,word,q,ds,r,rfl,(s2.trans s3).tupS hq,DwAll.same (s12.trans s3) _ _ hr',sa',n1',n2',fun H4 s4=>k _ ((s12.trans s3).trans s4)⟩
    |none=>exact VM (k _ (Same.refl _))
    |bool _=>exact VM (k _ (Same.refl _))
    |int _=>exact VM (k _ (Same.refl _))
    |list _=>exact VM (k _ (Same.refl _))
    |tuple _=>exact VM (k _ (Same.refl _))
    |dict _=>exact VM (k _ (Same.refl _))
  |none=>exact VM (VM (k _ (Same.refl _)))
  |bool b=>exact VM (VM (k _ (Same.refl _)))
  |int i=>exact VM (VM (k _ (Same.refl _)))
  |list ds=>exact VM (VM (k _ (Same.refl _)))
  |str x=>exact VM (VM (k _ (Same.refl _)))
  |dict Dm=>exact VM (VM (k _ (Same.refl _)))
end Ak
namespace Al
abbrev st:Stmt:=top 29
theorem sc:FnScope ["thing"] ["thing"] (zH st):=Ca
theorem ok (F:Fun K "need_thing" "need_thing" st f fd)(T:Txt P w K mg t1 t2 t3 t4 t5 t6 t7 aL aC aN aT aA b1 b2 b3 fI)(Qy:Cal P w K mg base 5 "is_thing" ["thing"] (DE K)):FnOk P w K mg base (Ci P w) 6 f fd ["thing"] (NS K aT):=by
 refine F.okX sc (fun vs H Q E h=>?_) (fun cdv A outer s H vs Q E hr h=>?_)
 ·obtain⟨d,v,rfl,_⟩:=h;rfl
 ·obtain⟨d,v,rfl,hd,sm,nar,k1,k2⟩:=h;refine⟨_,(zE (yM (xS (zV (K:=K) (zK Qy hr.m (zA (pv 0) zD)) (fun _=>rfl))) (zF (jV rfl qP rfl T.NoThing T.xNoThing (zA pe_str zD))) zU) (zF (zO (pv 0)))),?_⟩
  refine⟨_,rfl,d,v,rfl,hd,sm,nar,fun H2 s2=>⟨_,rfl,?_⟩⟩;cases q:kN d with
  |true=>exact VL ⟨_,rfl,k1 q _ s2⟩
  |false=>exact VM ⟨VP 1,k2 q _ s2⟩
end Al
namespace Am
abbrev st:Stmt:=top 30
theorem sc:FnScope ["thing"] ["thing"] (zH st):=Ca
theorem ok (F:Fun K "letter_of" "letter_of" st f fd)(T:Txt P w K mg t1 t2 t3 t4 t5 t6 t7 aL aC aN aT aA b1 b2 b3 fI):FnOk P w K mg base A9 1 f fd ["thing"] (Ie K):=by
 refine F.ok sc (fun vs H Q E h=>?_) (fun cdv A outer s H vs Q E hr h=>?_)
 ·obtain⟨v,t,rfl,_⟩:=h;rfl
 ·obtain⟨v,t,rfl,hd,k⟩:=h;refine⟨_,(zF (zO (OM (xA (v:=.ref aL) rfl T.LETTERS rfl) (z7 (ix_tup:A7 _ (VR K)) (pv 0) zI (fun _ _=>rfl)) (fun _ _=>rfl)))),?_⟩;obtain⟨a,r,rfl,hs⟩:=X2 hd;exact⟨_,rfl,a,_,_,_,rfl,rfl,hs,Id _ _,_,_,Et t.word,_,rfl,rfl,T.kd,FD t,k⟩
end Am
namespace Ao
abbrev st:Stmt:=top 31
theorem sc:FnScope ["rows","parts","label","name"] ["rows"] (zH st):=Ca
theorem flat_len:∀rs:Dg,(z5 rs).length=2*rs.length
 |[]=>rfl
 |r::rs=>by
  show(z5 rs).length+2=2*(rs.length+1);rw[flat_len rs];omega
theorem ok (F:Fun K "tree_parts" "tree_parts" st f fd)(T:Txt P w K mg t1 t2 t3 t4 t5 t6 t7 aL aC aN aT aA b1 b2 b3 fI):FnOk P w K mg base A9 1 f fd ["rows"] (UY K):=by
 refine F.ok sc (fun vs H Q E h=>?_) (fun cdv A outer s H vs Q E hr h=>?_)
 ·obtain⟨v,t,rfl,_⟩:=h;rfl
 ·obtain⟨v,rs,rfl,hd,hl,k⟩:=h;obtain⟨a,xs,rfl,hs,hx⟩:=hd;have hxl:xs.length=rs.length:=by rw[hx.length,QU]
  refine⟨_,(zE (A8 (i:=1) sc.nd (yN zD)) (zE (xP EM rfl (kT (pv 0)) (Bm rfl (qE (zS (i:=2) sc.nd rfl (EJ rfl)) (qE (zS (i:=3) sc.nd rfl (EJ rfl)) Xo))) (zE (yB (jY ZL Ye Yf x8 (pv 1) (zA (pv 2) zD))) (zF (yB (jY ZL Ye Yf x8 (pv 1) (zA (pv 3) zD)))))) (zF (zO (pv 1))))),?_⟩
  refine⟨Zz _,fun l nl=>?_⟩;refine⟨_,rfl,a,rfl,⟨_,(zC nl).tupS hs⟩,Bb (K:=K) (a:=a) (xs:=xs) (fun i σ H2=>∃(x y:Option V),σ=[some (.ref a),some (.ref l),x,y]/\H2=upd H l (.lst ((z5 (rs.take i)).map V.str))) ⟨none,none,rfl,rfl⟩ (fun i σ H2 _ ⟨_,_,_,e⟩=>by rw[e];exact(zC nl).tupS hs) ?_ ?_⟩
  ·rintro i x σ H2 hi ⟨x0,y0,rfl,rfl⟩;obtain⟨r,b,er,rfl,hb⟩:=B7 hx hi;have hil:i<rs.length:=(Zl.mp er).1;have hll:((z5 (rs.take i)).map V.str).length<=2000:=by
    rw[QU,flat_len,Zm];omega
   refine⟨b,_,rfl,(zC nl).tupS hb,rfl,_,_,rfl,_,_,rfl,rfl,?_⟩;refine⟨_,rfl,.inl ⟨rfl,_,SqL.of zB⟩,_,rfl,l,_,_,rfl,rfl,zB,JI hll (by rw[Yj];decide),?_⟩;refine⟨_,rfl,.inl ⟨rfl,_,SqL.of zB⟩,_,rfl,l,_,_,rfl,rfl,zB,?_,?_⟩
   ·rw[Q4,ZN];exact JI (YE hll) (by rw[Yj];decide)
   ·refine⟨_,_,rfl,?_⟩;rw[Kb,Kb]
    congr 2
    rw[Z4,er];show _=(z5 (rs.take i++[r])).map V.str;rw[jE,Q6];show _=(z5 (rs.take i)).map V.str++[V.str r.1,V.str r.2];rw[Z6];rfl
  ·rintro σ H2 ⟨x0,y0,rfl,rfl⟩;refine⟨_,rfl,?_⟩;rw[hxl,Zq];exact k l nl
end Ao
theorem Se {c A B:Prop} [Decidable c](hc:c)(h:A):if decide c=true then A else B:=by
 rw[QX hc];exact VM h
theorem MK {c A B:Prop} [Decidable c](hc:¬c)(h:B):if decide c=true then A else B:=by
 rw[Q9 hc];exact VL h
theorem GT {n:Nat}(h:n<=100000):(dig n).length<=10:=Je (by omega) (by decide) (by
 have:(10:Int) ^ 10=10000000000:=by decide
 rw[this];omega)
theorem Gg {n:Nat}(h:n<=1900):((n:Int)).natAbs.log2<1920:=by
 rw[Vk];exact JI (Nat.log2_le_self n) (by omega)
theorem Ku {rs:Dg}(g:(Th.tree rs).Good):rs.length<=1000:=by
 have h:=g.1;have e:(z5 rs).length<=1000:=h;rw[Ao.flat_len]at e;omega
theorem Kt {x:Str}{ps:Da}{w:Str}(g:(Th.note x ps w).Good):ps.length<=1000:=by
 have h:=g.1;have e:([x,dig ps.length]++ps++[w]).length<=1000:=h;simp at e;omega
namespace Ap
abbrev st:Stmt:=top 32
theorem sc:FnScope ["thing","parents"] ["thing"] (zH st):=Ca
theorem ok (F:Fun K "parts_of" "parts_of" st f fd)(T:Txt P w K mg t1 t2 t3 t4 t5 t6 t7 aL aC aN aT aA b1 b2 b3 fI)(Qz:Cal P w K mg base 1 "tree_parts" ["rows"] (UY K)):FnOk P w K mg base A9 2 f fd ["thing"] (HV K):=by
 refine F.ok sc (fun vs H Q E h=>?_) (fun cdv A outer s H vs Q E hr h=>?_)
 ·obtain⟨v,t,rfl,_⟩:=h;rfl
 ·obtain⟨v,t,rfl,hd,g,k⟩:=h;refine⟨_,(zE (yM (zP xN (z7 (ix_tup:A7 _ (VR K)) (pv 0) zI (fun _ _=>rfl)) pe_str (zT _)) (zF (zO (zZ yP (by rfl) T.list ZT (zA (z7 (ix_tup:A7 _ (VR K)) (pv 0) zI (fun _ _=>rfl)) zD)))) zU) (zE (yM (zP xN (z7 (ix_tup:A7 _ (VR K)) (pv 0) zI (fun _ _=>rfl)) pe_str (zT _)) (zF (zO (zK Qz hr.m (zA (z7 (ix_tup:A7 _ (VR K)) (pv 0) zI (fun _ _=>rfl)) zD)))) zU) (zE (A8 (i:=1) sc.nd (z7 (ix_tup:A7 _ (VR K)) (pv 0) zI (fun _ _=>rfl))) (zF (zO (zQ uS (zQ uS (yN (zA (z7 (ix_tup:A7 _ (VR K)) (pv 0) zI (fun _ _=>rfl)) (zA (zZ jF (by rfl) T.str ZS (zA (zJ zN (by rfl) T.len ZE (zA (pv 1) zD)) zD)) zD))) (zZ yP (by rfl) T.list ZT (zA (pv 1) zD))) (yN (zA (z7 (ix_tup:A7 _ (VR K)) (pv 0) zI (fun _ _=>rfl)) zD)))))))),?_⟩
  cases t with
  |leaf ls =>
   obtain⟨a,b,rfl,hs,hb⟩:=jD hd;refine⟨_,rfl,a,_,_,_,rfl,rfl,hs,rfl,rfl,_,rfl,Se rfl ?_⟩;exact⟨_,rfl,a,_,_,_,rfl,rfl,hs,rfl,b,_,rfl,.inr hb,fun l nl=>k l _ (zC nl) nl zB⟩
  |tree rs =>
   obtain⟨a,b,rfl,hs,hb⟩:=uF hd;refine⟨_,rfl,a,_,_,_,rfl,rfl,hs,rfl,rfl,_,rfl,MK (by decide +kernel) ?_⟩;refine⟨_,rfl,a,_,_,_,rfl,rfl,hs,rfl,rfl,_,rfl,Se rfl ?_⟩;exact⟨_,rfl,a,_,_,_,rfl,rfl,hs,rfl,_,rs,rfl,hb,Ku g,fun l nl=>k l _ (zC nl) nl zB⟩
  |note x ps y =>
   obtain⟨a,b,rfl,hs,hb⟩:=uC hd;have hp:=Kt g;refine⟨_,rfl,a,_,_,_,rfl,rfl,hs,rfl,rfl,_,rfl,MK (by decide +kernel) ?_⟩;refine⟨_,rfl,a,_,_,_,rfl,rfl,hs,rfl,rfl,_,rfl,MK (by decide +kernel) ?_⟩;refine⟨_,rfl,a,_,_,_,rfl,rfl,hs,rfl,?_⟩;refine⟨_,rfl,a,_,_,_,rfl,rfl,hs,rfl,_,rfl,b,_,rfl,.inr hb,_,rfl,?_,VP 2,fun l1 n1=>?_⟩
   ·rw[QU];exact Gg (by omega)
   have s1:=zC (o:=.lst [V.str x,V.str (ES (LN (((ps.map V.str).length:Nat):Int)))]) n1;refine⟨_,rfl,b,_,rfl,.inr (s1.tupS hb),fun l2 n2=>?_⟩;have s2:=s1.trans (zC (o:=.lst (ps.map V.str)) n2);have d12:l1≠l2:=zM zB n2;refine⟨l1,l2,_,_,rfl,rfl,(by rw[zG d12];exact zB),zB,(by rw[QU];exact le_line (by simp only[Zd,YN];omega)),fun l3 n3=>?_⟩;have s3:=s2.trans (zC (o:=.lst ([V.str x,V.str (ES (LN (((ps.map V.str).length:Nat):Int)))]++ps.map V.str)) n3);refine⟨_,rfl,a,_,_,_,rfl,rfl,s3.tupS hs,rfl,VP 1,fun l4 n4=>?_⟩;have s4:=s3.trans (zC (o:=.lst [V.str y]) n4);have d34:l3≠l4:=zM zB n4;refine⟨l3,l4,_,_,rfl,rfl,(by rw[zG d34];exact zB),zB,?_,fun l5 n5=>?_⟩
   ·rw[Q4,QU];exact le_line (by simp only[Zd,YN];omega)
   ·refine k l5 _ (s4.trans (zC n5)) (s4.free n5) ?_;rw[zB]
    congr 2
    show _=([x,dig ps.length]++ps++[y]).map V.str;rw[Q6,Q6];show([V.str x,V.str (ES (LN (((ps.map V.str).length:Nat):Int)))]++ps.map V.str)++[V.str y]=_;rw[QU];rfl
end Ap
namespace Aq
abbrev st:Stmt:=top 33
theorem sc:FnScope ["part"] ["part"] (zH st):=Ca
theorem ok (F:Fun K "counted" "counted" st f fd)(T:Txt P w K mg t1 t2 t3 t4 t5 t6 t7 aL aC aN aT aA b1 b2 b3 fI):FnOk P w K mg base A9 1 f fd ["part"] IH:=by
 refine F.ok sc (fun vs H Q E h=>?_) (fun cdv A outer s H vs Q E hr h=>?_)
 ·obtain⟨x,rfl,_⟩:=h;rfl
 ·obtain⟨x,rfl,hl,k⟩:=h;refine⟨_,(zF (zO (zQ qQ (zQ qQ (zZ jF (by rfl) T.str ZS (zA (zJ jH (by rfl) T.len ZE (zA (pv 0) zD)) zD)) pe_str) (pv 0)))),?_⟩;have d:=GT (n:=x.length) (by omega);have c1:(""++":":String).length=1:=by decide
  have c2:(":":Str).length=1:=by decide +kernel
  refine⟨_,rfl,x,rfl,le_line (by omega),_,rfl,Gg (by omega),_,_,rfl,rfl,le_line (by rw[c2];exact ZD (Nat.add_le_add_right d 1) (by decide)),_,rfl,_,_,rfl,rfl,le_line ?_,k⟩;show(dig x.length++":").length+x.length<=_;rw[len_append,c2];omega
end Aq
namespace Ar
abbrev st:Stmt:=top 34
theorem sc:FnScope ["thing"] ["thing"] (zH st):=Ca
theorem BF {x:Str}(h:x.length<=1000):(counted x).length<=1011:=by
 have d:=GT (n:=x.length) (by omega);have c2:(":":Str).length=1:=by decide +kernel
 show(dig x.length++":"++x).length<=_;rw[len_append,len_append,c2];omega
theorem ok (F:Fun K "spelled" "spelled" st f fd)(T:Txt P w K mg t1 t2 t3 t4 t5 t6 t7 aL aC aN aT aA b1 b2 b3 fI)(Qk:Cal P w K mg base 1 "letter_of" ["thing"] (Ie K))(QA:Cal P w K mg base 2 "parts_of" ["thing"] (HV K))
  (QB:Cal P w K mg base 1 "counted" ["part"] IH):FnOk P w K mg base A9 3 f fd ["thing"] (IK K):=by
 refine F.ok sc (fun vs H Q E h=>?_) (fun cdv A outer s H vs Q E hr h=>?_)
 ·obtain⟨v,t,rfl,_⟩:=h;rfl
 ·obtain⟨v,t,rfl,hd,g,k⟩:=h;refine⟨_,(zF (zO (zQ qQ (zK Qk hr.m (zA (pv 0) zD)) (jY Yo JZ J0 Bp pe_str (zA (y7 (sc:=zH st) (N:=["thing"]) (N':=["part"]) (src:=[none]) ⟨by decide +kernel,rfl,rfl,by decide +kernel,by decide +kernel,by decide +kernel,by decide +kernel⟩ rfl rfl rfl (xJ (zK QA hr.m (zA (pv 0) zD))) (fun _ _ _ _=>(zS (i:=0) (show(["part"]:Da).Nodup by decide +kernel) rfl (EJ rfl))) (fun _ _ _ _=>qF) (fun _ _ _ _=>(zK QB hr.m (zA (pv 0) zD)))) zD))))),?_⟩;refine⟨_,rfl,v,t,rfl,hd,rfl,_,rfl,v,t,rfl,hd,g,fun l H1 s1 nl hl=>?_⟩;have Dq:(t.parts.map V.str).length<=1000:=by rw[QU];exact g.1
  refine⟨l,rfl,⟨_,SqL.of hl⟩,kX (K:=K) (a:=l) (xs:=t.parts.map V.str) (fun i ys σ H2=>∃x,σ=[x]/\H2=H1/\ys=((t.parts.take i).map counted).map V.str) ⟨none,rfl,rfl,rfl⟩ (le_line (by omega)) (fun i ys σ H2 hi ⟨x,_,e,ey⟩=>⟨by rw[e];exact SqL.of hl,?_⟩) ?_ ?_⟩
  ·rw[ey,QU,QU,Zm];exact Nat.min_le_left _ _
  ·rintro i x ys σ H2 hi ⟨x0,rfl,rfl,rfl⟩;rw[Za]at hi;cases q:t.parts[i]? with
   |none=>rw[q]at hi;cases hi
   |some p =>
    rw[q]at hi;have hi:V.str p=x:=Option.some.inj hi;subst hi;have hp:=g.2 p (Zc q);refine⟨_,rfl,p,rfl,hp.len,_,rfl,rfl,?_⟩;rw[Z4,q,Q6,Q6];rfl
  ·rintro ys σ H2 ⟨x0,rfl,rfl,rfl⟩ p np;have e:(t.parts.take (t.parts.map V.str).length)=t.parts:=by rw[QU,Zq]
   rw[e];have b1:∀y∈t.parts.map counted,y.length<=1011:=fun y hy=>by
    obtain⟨z,hz,rfl⟩:=QZ.mp hy;exact BF (g.2 z hz).len
   have b2:=F0 _ b1;have b3:(t.parts.map counted).length<=1000:=by rw[QU];exact g.1
   have b4:(t.parts.map counted).length*1011<=1011000:=Nat.mul_le_mul_right 1011 b3;have c0:("":Str).length=0:=by decide +kernel
   have c1:t.letter.length=1:=by rw[length_cs,qS];rfl
   refine⟨_,p,t.parts.map counted,rfl,rfl,.inl (SqL.of zB),by rw[c0];omega,_,_,rfl,rfl,?_,?_⟩
   ·have:=StrLaws.join_length_le "" (t.parts.map counted);have e2:Lj "" (t.parts.map counted)=Ml "" (t.parts.map counted):=E9 _ _;rw[e2];rw[c0]at this;exact le_line (by omega)
   ·rw[Sx];exact k _ (s1.trans (zC np))
end Ar
namespace As
abbrev st:Stmt:=top 35
theorem sc:FnScope ["thing","number","sign"] ["thing"] (zH st):=Ca
theorem ok (F:Fun K "digest" "digest" st f fd)(T:Txt P w K mg t1 t2 t3 t4 t5 t6 t7 aL aC aN aT aA b1 b2 b3 fI)(QC:Cal P w K mg base 3 "spelled" ["thing"] (IK K)):FnOk P w K mg base A9 4 f fd ["thing"] (BS K):=by
 refine F.ok sc (fun vs H Q E h=>?_) (fun cdv A outer s H vs Q E hr h=>?_)
 ·obtain⟨v,t,rfl,_⟩:=h;rfl
 ·obtain⟨v,t,rfl,hd,g,k⟩:=h;refine⟨_,(zE (A8 (i:=1) sc.nd zI) (zE (xP EM rfl (FM (zK QC hr.m (zA (pv 0) zD))) (zS (i:=2) sc.nd rfl (EJ rfl)) (zF (A8 (i:=1) sc.nd (zQ yI (zQ x6 (zQ UQ (xA (v:=.int 31) rfl T.DIGEST_FACTOR ⟨_,rfl⟩) (pv 1)) (zJ Cm (by rfl) T.ord PyProof.Rows.boot_ord (zA (pv 2) zD))) (xA (v:=.int 97) rfl T.DIGEST_BOUND ⟨_,rfl⟩))))) (zF (zO (pv 1))))),?_⟩
  refine⟨_,rfl,v,t,rfl,hd,g,fun H1 s1=>⟨_,rfl,Oj (fun i σ H2=>∃x,σ=[some v,some (.int (((cs t.sp).take i).foldl R1 0)),x]/\H2=H1) ⟨none,rfl,rfl⟩ ?_ ?_⟩⟩
  ·rintro i c σ H2 hc ⟨x,rfl,rfl⟩;refine⟨_,rfl,_,_,rfl,rfl,.inl ⟨by decide,by decide⟩,_,rfl,_,rfl,rfl,_,_,rfl,rfl,_,_,rfl,rfl,(by show(0:Int)<97;decide),some (.str ⟨#[c]⟩),?_,rfl⟩;have hc':(cs t.sp)[i]?=some c:=by rw[←hc];simp
   rw[Z4,hc',Z5];rfl
  ·rintro σ H2 ⟨x,rfl,rfl⟩;refine⟨_,rfl,?_⟩;rw[length_cs,Zq];exact k _ s1
end As
namespace Au
abbrev st:Stmt:=inClass (top 42) 7
theorem sc:FnScope ["self"] ["self"] (zH st):=Ca
theorem ok (F:Fun K "names" "Shelf.names" st f fd)(T:Txt P w K mg t1 t2 t3 t4 t5 t6 t7 aL aC aN aT aA b1 b2 b3 fI):FnOk P w K mg base A9 1 f fd ["self"] (vJ P w K aC):=by
 refine F.ok sc (fun vs H Q E h=>?_) (fun cdv A outer s H vs Q E hr h=>?_)
 ·obtain⟨a,fp,S,rfl,_⟩:=h;rfl
 ·obtain⟨a,fp,S,rfl,sh,k⟩:=h;refine⟨_,(zF (zO (zZ (Fm rfl) (by rfl) T.list ZT (zA (j3 (pv 0) rfl) zD)))),?_⟩;obtain⟨g,dx,d1,d2,d3,ts,nx,rfl,nd,h1,h2,h3,h4,h5,h6,h7,h8,h9⟩:=sh;refine⟨_,rfl,a,aC,dx,_,_,rfl,h1,T.cls,T.n1,rfl,d1,_,rfl,h4,fun l nl=>?_⟩;have e:(((S.zip ts).map fun e=>((Et e.1.nm:Key),V.ref e.2)).map fun kv=>kV kv.1)=S.map fun e=>V.str e.nm:=by
   rw[Zv];have:(S.zip ts).map (·.1)=S:=Va (by omega)
   conv=>rhs;rw[←this]
   rw[Zv];rfl
  rw[e];exact k l nl
end Au
namespace Av
abbrev st:Stmt:=inClass (top 42) 1
theorem sc:FnScope ["self","name","thing","halves","head"] ["self","name","thing"] (zH st):=Ca
theorem ok (F:Fun K "take" "Shelf.take" st f fd)(T:Txt P w K mg t1 t2 t3 t4 t5 t6 t7 aL aC aN aT aA b1 b2 b3 fI):FnOk P w K mg base A9 1 f fd ["self","name","thing"] (FX P w K aC):=by
 refine F.ok sc (fun vs H Q E h=>?_) (fun cdv A outer s H vs Q E hr h=>?_)
 ·obtain⟨a,fp,S,e,t,rfl,_⟩:=h;rfl
 ·obtain⟨a,fp,S,e,t,rfl,sh,ge,ht,hd,hn,hl,k⟩:=h;have hu:=Ho hr;refine⟨_,(zE (A8 (i:=3) sc.nd (jY Yo PySem.F.slot_str_partition PySem.F.type_str_partition uO (pv 1) (zA pe_str zD))) (zE (A8 (i:=4) sc.nd (z7 (ix_tup:A7 _ (VR K)) (pv 3) zI (fun _ _=>rfl))) (zE (qH hu (j3 (pv 0) rfl) (pv 4) (zJ (Ki rfl) (by rfl) T.max PyProof.Rows.boot_max (zA (XE hu (j3 (pv 0) rfl) (pv 4) zI ⟨rfl,rfl,rfl,rfl⟩) (zA (zQ x6 (zZ Kg (by rfl) T.int PyProof.Rows.boot_int (zA (z7 (ix_tup:A7 _ (VR K)) (pv 3) zI (fun _ _=>rfl)) zD)) zI) zD))) rfl) (zE (qH hu (j3 (pv 0) rfl) (pv 1) (pv 2) rfl) (zF (OS hr.units (j3 (pv 0) rfl) (pv 2) (pv 1) rfl)))))),?_⟩
  obtain⟨g,dx,d1,d2,d3,ts,nx,rfl,nd,h1,h2,h3,h4,h5,h6,h7,h8,h9⟩:=id sh;have noseq:=sh.noseq.tup;have nl:(V1 e.n).length<=2000:=by
   have hlog:((e.n:Int)).natAbs.log2<1920:=by
    have:=ge.num;rw[Vk]
    rcases Y1 e.n with z|z
    ·rw[z];decide
    ·have:e.n.log2<20:=(Nat.log2_lt (by omega)).mpr (by omega);omega
   have:=J7 hlog;have e':(V1 e.n).length<=1921:=this;omega
  have nml:e.nm.length<=100000:=by
   have:=ge.hl;have e1:dot.length=1:=rfl;unfold En.nm;rw[len_append,len_append,e1];omega
  simp only[Z1,Q7,Z3,Js,not_or,Yb,and_true,not_false_eq_true]at nd;obtain⟨⟨n01,n02,n03,n04⟩,⟨n12,n13,n14⟩,⟨n23,n24⟩,n34⟩:=nd;refine⟨_,rfl,rfl,e.h,V1 e.n,46,rfl,by rw[Mx];rfl,ge.free,nml,fun p np=>?_⟩;have u1:=zC (o:=.tup [V.str e.h,V.str ⟨#[46]⟩,V.str (V1 e.n)]) np;have hp:SqT K (upd H p (.tup [V.str e.h,V.str ⟨#[46]⟩,V.str (V1 e.n)])) p [V.str e.h,V.str ⟨#[46]⟩,V.str (V1 e.n)]:=SqT.of zB;show Pa _ _ _ _ (upd H p (.tup [V.str e.h,V.str ⟨#[46]⟩,V.str (V1 e.n)]));generalize upd H p (.tup [V.str e.h,V.str ⟨#[46]⟩,V.str (V1 e.n)])=H1 at u1 hp;have g1:=u1 _ _ h1;have g4:=u1 _ _ h4;have g6:=u1 _ _ h6;refine⟨_,rfl,p,_,_,_,rfl,rfl,hp,rfl,?_⟩;refine⟨_,rfl,a,aC,dx,_,_,rfl,g1,T.cls,T.n3,rfl,d3,rfl,.inl ⟨_,.inl g6⟩,_,rfl,_,DGet.k (k:=(Et e.h:Key)) g6,?_⟩;obtain⟨m,em,en⟩:∃m:Nat,(VQ nx (Et e.h:Key)).getD (V.int 0)=V.int (m:Int)/\m=(nextOf S e.h).getD 0:=by
   rw[h8];cases nextOf S e.h with
   |none=>exact⟨0,rfl,rfl⟩
   |some m=>exact⟨m,rfl,rfl⟩
  rw[em];refine⟨_,rfl,p,_,_,_,rfl,rfl,hp,rfl,e.n,rfl,by have:=ge.num;omega,_,_,rfl,rfl,_,_,rfl,?_⟩;have emax:(if(e.n:Int)+1>(m:Int) then(e.n:Int)+1 else(m:Int))=((max m (e.n+1):Nat):Int):=by
   split<;>omega
  rw[emax];have nxl:nx.length<2000:=by omega
  refine⟨_,rfl,a,aC,dx,_,_,rfl,g1,T.cls,T.n3,rfl,_,rfl,d3,_,rfl,DPut.k (k:=(Et e.h:Key)) g6 (yT (by omega)),?_⟩;have o1:Off [a,dx,d1,d2,d3] H (upd H1 d3 (.dK (putK nx (Et e.h:Key) (V.int ((max m (e.n+1):Nat):Int))))):=(Off.of u1).upd (by simp);have g1b:upd H1 d3 (.dK (putK nx (Et e.h:Key) (V.int ((max m (e.n+1):Nat):Int)))) a=some (.ins aC dx (MB d1 d2 d3)):=by rwa[zG n04]
  have g4b:upd H1 d3 (.dK (putK nx (Et e.h:Key) (V.int ((max m (e.n+1):Nat):Int)))) d1=some (.dK ((S.zip ts).map fun e=>((Et e.1.nm:Key),V.ref e.2))):=by rwa[zG n24]
  have g6b:upd H1 d3 (.dK (putK nx (Et e.h:Key) (V.int ((max m (e.n+1):Nat):Int)))) d3=some (.dK (putK nx (Et e.h:Key) (V.int ((max m (e.n+1):Nat):Int)))):=zB;have g2b:upd H1 d3 (.dK (putK nx (Et e.h:Key) (V.int ((max m (e.n+1):Nat):Int)))) dx=some (.own a):=by rw[zG n14];exact u1 _ _ h2
  obtain⟨xs5,e5,_⟩:=h5.2.2.2;have g5b:upd H1 d3 (.dK (putK nx (Et e.h:Key) (V.int ((max m (e.n+1):Nat):Int)))) d2=H d2:=by rw[zG n34,e5];exact u1 _ _ e5
  show Pa _ _ _ _ (upd H1 d3 (.dK (putK nx (Et e.h:Key) (V.int ((max m (e.n+1):Nat):Int)))));generalize upd H1 d3 (.dK (putK nx (Et e.h:Key) (V.int ((max m (e.n+1):Nat):Int))))=H2 at o1 g1b g4b g6b g2b g5b;have zl:((S.zip ts).map fun e=>((Et e.1.nm:Key),V.ref e.2)).length<=2000:=by rw[QU,List.length_zip];omega
  refine⟨_,rfl,_,rfl,a,aC,dx,_,_,rfl,g1b,T.cls,T.n1,rfl,_,rfl,d1,_,rfl,DPut.k (k:=(Et e.nm:Key)) g4b (yT (by omega)),?_⟩;have ek:((S.zip ts).map fun e=>((Et e.1.nm:Key),V.ref e.2)).map (·.1)=S.map fun e=>(Et e.nm:Key):=by
   rw[Zv];have:(S.zip ts).map (·.1)=S:=Va (by omega)
   conv=>rhs;rw[←this]
   rw[Zv];rfl
  have hk:(Et e.nm:Key)∉((S.zip ts).map fun e=>((Et e.1.nm:Key),V.ref e.2)).map (·.1):=fun z=>by
   rw[ek]at z;obtain⟨e',he',q⟩:=QZ.mp z;exact hn (QZ.mpr ⟨e',he',Sum.inr.inj q⟩)
  rw[vE hk];have o2:Off [a,dx,d1,d2,d3] H (upd H2 d1 (.dK ((S.zip ts).map (fun e=>((Et e.1.nm:Key),V.ref e.2))++[(Et e.nm,V.ref t)]))):=o1.upd (by simp);have g1c:upd H2 d1 (.dK ((S.zip ts).map (fun e=>((Et e.1.nm:Key),V.ref e.2))++[(Et e.nm,V.ref t)])) a=some (.ins aC dx (MB d1 d2 d3)):=by rwa[zG n02]
  have g2c:upd H2 d1 (.dK ((S.zip ts).map (fun e=>((Et e.1.nm:Key),V.ref e.2))++[(Et e.nm,V.ref t)])) dx=some (.own a):=by rwa[zG n12]
  have g4c:upd H2 d1 (.dK ((S.zip ts).map (fun e=>((Et e.1.nm:Key),V.ref e.2))++[(Et e.nm,V.ref t)])) d1=some (.dK ((S.zip ts).map (fun e=>((Et e.1.nm:Key),V.ref e.2))++[(Et e.nm,V.ref t)])):=zB;have g5c:upd H2 d1 (.dK ((S.zip ts).map (fun e=>((Et e.1.nm:Key),V.ref e.2))++[(Et e.nm,V.ref t)])) d2=H d2:=by rwa[zG (ED n23)]
  have g6c:upd H2 d1 (.dK ((S.zip ts).map (fun e=>((Et e.1.nm:Key),V.ref e.2))++[(Et e.nm,V.ref t)])) d3=some (.dK (putK nx (Et e.h:Key) (V.int ((max m (e.n+1):Nat):Int)))):=by rwa[zG (ED n24)]
  generalize upd H2 d1 (.dK ((S.zip ts).map (fun e=>((Et e.1.nm:Key),V.ref e.2))++[(Et e.nm,V.ref t)]))=H3 at o2 g1c g2c g4c g5c g6c;have T3:ThD P w K H3 d2 (S.map fun e=>(e.d,V.str e.nm)):=ThD.off noseq o2 g5c h5;have ht3:Dt K H3 e.d (.ref t):=Dt.off noseq o2 _ _ ge.key.1 ht;refine⟨_,rfl,_,rfl,a,aC,dx,_,_,rfl,g1c,T.cls,T.n2,rfl,_,rfl,t,d2,_,e.d,rfl,rfl,T3,by rw[QU];omega,ge.key,ht3,fun o T4 ⟨es,eo⟩=>?_⟩;have hk2:e.d∉(S.map fun e=>(e.d,V.str e.nm)).map (·.1):=by rwa[Zv]
  rw[vE hk2]at T4;have o3:Off [a,dx,d1,d2,d3] H (upd H3 d2 o):=o2.upd (by simp);refine k _ o3 ⟨g.snoc ge hd hn (by omega),dx,d1,d2,d3,ts++[t],_,rfl,by simp[n01,n02,n03,n04,n12,n13,n14,n23,n24,n34],by rw[zG n03];exact g1c,by rw[zG n13];exact g2c,by rw[Q4,Q4,h3];rfl,?_,?_,by rw[zG (ED n34)];exact g6c,?_,?_,?_⟩
  ·rw[zG n23,g4c,List.zip_append h3.symm,Q6];rfl
  ·rw[Q6];exact T4
  ·have:=qV nx (Et e.h:Key) (V.int ((max m (e.n+1):Nat):Int));rw[Q4,ZN];omega
  ·intro h;rw[By,US]
   by_cases q:e.h=h
   ·rw[Zk (by rw[q]),Zk q,←q,←en];rfl
   ·rw[Zh (fun z=>q (Sum.inr.inj z).symm),Zh q];exact h8 h
  ·intro i e' t' q1 q2
   rcases JS i S.length with z|z|z
   ·rw[ZI z]at q1;rw[ZI (by omega)]at q2;exact Dt.off noseq o3 _ _ (g.ent e' (Zc q1)).key.1 (h9 i e' t' q1 q2)
   ·subst z;rw[ZQ (Q2 _),VC]at q1;rw[ZQ (by omega),h3,VC]at q2;cases q1;cases q2;exact Dt.off noseq o3 _ _ ge.key.1 ht
   ·rw[ZO (by rw[Q4,ZN];omega)]at q1;cases q1
end Av
theorem Hu {S:Di}{ts:Dd}(h:ts.length=S.length):((S.zip ts).map fun e=>((Et e.1.nm:Key),V.ref e.2)).map (·.1)=S.map fun e=>(Et e.nm:Key):=by
 rw[Zv];have:(S.zip ts).map (·.1)=S:=Va (by omega)
 conv=>rhs;rw[←this]
 rw[Zv];rfl
theorem Os {S:Di}{ts:Dd}(h:ts.length=S.length)(x:Str):(VQ ((S.zip ts).map fun e=>((Et e.1.nm:Key),V.ref e.2)) (Et x:Key)).isSome=decide (x∈S.map En.nm):=by
 have ek:=Hu h;rw[Z8,Zt];constructor
 ·intro z;obtain⟨v,hv⟩:=YF.mp z;have:=uL hv;rw[ek]at this;obtain⟨e,he,q⟩:=QZ.mp this;exact QZ.mpr ⟨e,he,Sum.inr.inj q⟩
 ·intro z;obtain⟨e,he,q⟩:=QZ.mp z;cases hv:VQ ((S.zip ts).map fun e=>((Et e.1.nm:Key),V.ref e.2)) (Et x:Key) with
  |some v=>rfl
  |none =>
   refine absurd ?_ (XI hv);rw[ek];exact QZ.mpr ⟨e,he,by rw[q]⟩
theorem PU {ts:Dd}(g:GoodS S)(h:ts.length=S.length){i:Nat}{e:En}{t:Eh}(q1:S[i]?=some e)(q2:ts[i]?=some t):VQ ((S.zip ts).map fun e=>((Et e.1.nm:Key),V.ref e.2)) (Et e.nm:Key)=some (V.ref t):=by
 have nd':(((S.zip ts).map fun e=>((Et e.1.nm:Key),V.ref e.2)).map (·.1)).Nodup:=by
  rw[Hu h];have:=List.Pairwise.map (S:=fun a b:Key=>a≠b) (fun x=>(Et x:Key)) (fun a b h z=>h (Sum.inr.inj z)) g.nn;rw[Zv]at this;exact this
 have hm:((Et e.nm:Key),V.ref t)∈(S.zip ts).map fun e=>((Et e.1.nm:Key),V.ref e.2) :=
  QZ.mpr ⟨(e,t),Zc (i:=i) (by rw[Y5];exact⟨q1,q2⟩),rfl⟩
 exact Xf nd' hm
namespace Aw
abbrev st:Stmt:=top 8
theorem sc:FnScope ["table","thing"] ["table","thing"] (zH st):=Ca
theorem ok (F:Fun K "is_key" "is_key" st f fd)(T:Txt P w K mg t1 t2 t3 t4 t5 t6 t7 aL aC aN aT aA b1 b2 b3 fI):FnOk P w K mg base A9 1 f fd ["table","thing"] (Pw K):=by
 refine F.ok sc (fun vs H Q E h=>?_) (fun cdv A outer s H vs Q E hr h=>?_)
 ·obtain⟨d1,Dm,d,v,rfl,_⟩:=h;rfl
 ·obtain⟨d1,Dm,d,v,rfl,h4,hd,k⟩:=h;refine⟨_,(zF (zO (xI (zJ (zX (K:=K)) (by rfl) T.isinstance Zj (zA (pv 1) (zA (yX (v:=.ty "str") rfl T.str ZS rfl) zD))) (qJ (yU (X5 hr.units) (pv 1) (pv 0) (by with_unfolding_all rfl)))))),?_⟩;refine⟨_,rfl,_,_,d,_,rfl,hd,T.is (by simp[kinds]),_,rfl,?_⟩;cases d with
  |str x =>
   cases(show v=_ from hd);exact VM ⟨_,rfl,_,rfl,d1,_,rfl,DGet.k (k:=(Et x:Key)) h4,k⟩
  |none=>exact VL k
  |bool b=>exact VL k
  |int i=>exact VL k
  |list ds=>exact VL k
  |tuple ds=>exact VL k
  |dict Dm=>exact VL k
end Aw
theorem Oq {S:Di}{ts:Dd}(h:ts.length=S.length)(d:El):R8 ((S.zip ts).map fun e=>((Et e.1.nm:Key),V.ref e.2)) d=Uf S d:=by
 cases d with
 |str x=>exact Os h x
 |none=>rfl
 |bool b=>rfl
 |int i=>rfl
 |list ds=>rfl
 |tuple ds=>rfl
 |dict Dm=>rfl
namespace Ax
abbrev st:Stmt:=inClass (top 42) 5
theorem sc:FnScope ["self","name"] ["self","name"] (zH st):=Ca
theorem ok (F:Fun K "has" "Shelf.has" st f fd)(T:Txt P w K mg t1 t2 t3 t4 t5 t6 t7 aL aC aN aT aA b1 b2 b3 fI)(QD:Cal P w K mg base 1 "is_key" ["table","thing"] (Pw K)):FnOk P w K mg base A9 2 f fd ["self","name"] (Pu P w K aC):=by
 refine F.ok sc (fun vs H Q E h=>?_) (fun cdv A outer s H vs Q E hr h=>?_)
 ·obtain⟨a,fp,S,d,v,rfl,_⟩:=h;rfl
 ·obtain⟨a,fp,S,d,v,rfl,sh,hd,k⟩:=h;refine⟨_,(zF (zO (zK QD hr.m (zA (j3 (pv 0) rfl) (zA (pv 1) zD))))),?_⟩;obtain⟨g,dx,d1,d2,d3,ts,nx,rfl,nd,h1,h2,h3,h4,h5,h6,h7,h8,h9⟩:=sh;refine⟨_,rfl,a,aC,dx,_,_,rfl,h1,T.cls,T.n1,rfl,_,rfl,d1,_,d,v,rfl,h4,hd,?_⟩;rwa[Oq h3 d]
end Ax
namespace Ay
abbrev st:Stmt:=top 9
theorem sc:FnScope ["store","name"] ["store","name"] (zH st):=Ca
theorem ok (F:Fun K "need_name" "need_name" st f fd)(T:Txt P w K mg t1 t2 t3 t4 t5 t6 t7 aL aC aN aT aA b1 b2 b3 fI)(QE:Met P w K mg base aC 2 "has" ["self","name"] (Pu P w K aC)):FnOk P w K mg base (Ci P w) 3 f fd ["store","name"] (uG P w K aC aN):=by
 refine F.okX sc (fun vs H Q E h=>?_) (fun cdv A outer s H vs Q E hr h=>?_)
 ·obtain⟨a,fp,S,d,v,rfl,_⟩:=h;rfl
 ·obtain⟨a,fp,S,d,v,rfl,sh,hd,k1,k2⟩:=h;refine⟨_,(zF (yM (xS (zV (K:=K) (G5 (pv 0) T.cls QE hr.m (zA (pv 1) zD)) (fun _=>rfl))) (zF (jV rfl qP rfl T.NoName T.xNoName (zA pe_str zD))) zU)),?_⟩
  obtain⟨g,dx,d1,d2,d3,ts,nx,efp,nd,h1,h2,h3,h4,h5,h6,h7,h8,h9⟩:=id sh;refine⟨_,rfl,a,dx,_,rfl,h1,rfl,_,rfl,a,_,S,d,v,rfl,sh,hd,_,rfl,?_⟩;cases q:Uf S d with
  |false=>exact VM ⟨VP 1,k2 q⟩
  |true=>exact VL (k1 q)
end Ay
namespace Az
abbrev st:Stmt:=inClass (top 42) 6
theorem sc:FnScope ["self","name"] ["self","name"] (zH st):=Ca
theorem ok (F:Fun K "thing" "Shelf.thing" st f fd)(T:Txt P w K mg t1 t2 t3 t4 t5 t6 t7 aL aC aN aT aA b1 b2 b3 fI)(Ql:CalX P w K mg base 3 "need_name" ["store","name"] (uG P w K aC aN)):FnOk P w K mg base (Ci P w) 4 f fd ["self","name"] (vL P w K aC aN):=by
 refine F.okX sc (fun vs H Q E h=>?_) (fun cdv A outer s H vs Q E hr h=>?_)
 ·obtain⟨a,fp,S,d,v,rfl,_⟩:=h;rfl
 ·obtain⟨a,fp,S,d,v,rfl,sh,hd,k1,k2⟩:=h;have hu:=Ho hr;refine⟨_,(zE (yB (jW Ql hr.m xH (zA (pv 0) (zA (pv 1) zD)))) (zF (zO (OL hu (j3 (pv 0) rfl) (pv 1) (fun _ _=>rfl))))),?_⟩
  obtain⟨g,dx,d1,d2,d3,ts,nx,efp,nd,h1,h2,h3,h4,h5,h6,h7,h8,h9⟩:=id sh;refine⟨_,rfl,_,rfl,a,_,S,d,v,rfl,sh,hd,fun q=>?_,k2⟩;cases d with
  |str x =>
   cases(show v=_ from hd);have q:x∈S.map En.nm:=Zb q;obtain⟨e,he,rfl⟩:=QZ.mp q;obtain⟨i,hi,ei⟩:=ZJ.mp he;have hi':i<ts.length:=by omega
   have q1:S[i]?=some e:=by rw[Q5 hi,ei]
   have q2:ts[i]?=some ts[i]:=Q5 hi';have hv:=PU g h3 q1 q2;exact⟨_,rfl,a,aC,dx,_,_,rfl,h1,T.cls,T.n1,rfl,_,rfl,d1,_,rfl,by rw[←hv];exact DGet.k (k:=(Et e.nm:Key)) h4,k1 e he rfl _ (h9 i e _ q1 q2)⟩
  |none=>cases q
  |bool b=>cases q
  |int i=>cases q
  |list ds=>cases q
  |tuple ds=>cases q
  |dict Dm=>cases q
end Az
namespace AA
abbrev st:Stmt:=inClass (top 42) 4
theorem sc:FnScope ["self","name","forms"] ["self","name","forms"] (zH st):=Ca
theorem ok (F:Fun K "need_form" "Shelf.need_form" st f fd)(T:Txt P w K mg t1 t2 t3 t4 t5 t6 t7 aL aC aN aT aA b1 b2 b3 fI)(Qc:MetX P w K mg base aC 4 "thing" ["self","name"] (vL P w K aC aN)):FnOk P w K mg base (Ci P w) 5 f fd ["self","name","forms"] (HP P w K aC aN):=by
 refine F.okX sc (fun vs H Q E h=>?_) (fun cdv A outer s H vs Q E hr h=>?_)
 ·obtain⟨a,f,fp,S,x,ws,rfl,_⟩:=h;rfl
 ·obtain⟨a,fo,fp,S,x,ws,rfl,sh,th,hf,okw,k1,k2⟩:=h;refine⟨_,(zF (yM (zP (Nk (K:=K) hr.units) (z7 (ix_tup:A7 _ (VR K)) (xE (pv 0) T.cls Qc hr.m xH (zA (pv 1) zD)) zI (fun _ _=>rfl)) (pv 2) (by with_unfolding_all rfl)) (zF (jV rfl qP rfl T.NoName T.xNoName (zA pe_str zD))) zU)),?_⟩
  obtain⟨g,dx,d1,d2,d3,ts,nx,efp,nd,h1,_⟩:=id sh;refine⟨_,rfl,a,dx,_,rfl,h1,rfl,_,rfl,a,_,S,.str x,.str x,rfl,sh,rfl,fun e he ex t ht=>?_,fun no=>?_⟩
  ·have ex:x=e.nm:=by injection ex
   obtain⟨t',ed,gt,_⟩:=th e he;rw[ed]at ht;obtain⟨c,r,ec,hc⟩:=X2 ht;cases ec;have wd:=Xb ed;have fe:=Om g he ws;rw[←ex,wd]at fe;refine⟨t,_,_,_,rfl,rfl,hc,Id _ _,_,rfl,.str t'.word,ws.map .str,rfl,⟨fo,_,rfl,hf,DtAll.strs ws⟩,(jN ws okw).1,?_,(show 0<=60 by decide),!decide (t'.word∈ws),?_,?_⟩
   ·cases t'
    ·show Em "leaf"=true;decide +kernel
    ·show Em "tree"=true;decide +kernel
    ·show Em "note"=true;decide +kernel
   ·rw[Ii];cases decide (t'.word∈ws)<;>rfl
   ·cases q:decide (t'.word∈ws) with
    |true=>rw[q]at fe;exact VL (k1 fe)
    |false=>rw[q]at fe;exact VM ⟨VP 1,k2 fe⟩
  ·have no:x∉S.map En.nm:=Y3 no;exact k2 (MG no ws)
end AA
theorem Sg:∀y∈(["leaf","tree"]:Da),Em y=true:=fun y hy=>by
 rcases Q7.mp hy with rfl|hy
 ·decide +kernel
 ·rw[QV.mp hy];decide +kernel
theorem TJ:∀y∈(["tree"]:Da),Em y=true:=fun y hy=>by
 rw[QV.mp hy];decide +kernel
theorem Tb:∀y∈(["note"]:Da),Em y=true:=fun y hy=>by
 rw[QV.mp hy];decide +kernel
namespace AB
abbrev st:Stmt:=inClass (top 42) 3
theorem sc:FnScope ["self","thing","row","parent"] ["self","thing"] (zH st):=Ca
theorem ok (F:Fun K "need_names" "Shelf.need_names" st f fd)(T:Txt P w K mg t1 t2 t3 t4 t5 t6 t7 aL aC aN aT aA b1 b2 b3 fI)(Qm:MetX P w K mg base aC 5 "need_form" ["self","name","forms"] (HP P w K aC aN)):FnOk P w K mg base (Ci P w) 6 f fd ["self","thing"] (HS P w K aC aN):=by
 refine F.okX sc (fun vs H Q E h=>?_) (fun cdv A outer s H vs Q E hr h=>?_)
 ·obtain⟨a,fp,S,t,v,rfl,_⟩:=h;rfl
 ·obtain⟨a,fp,S,t,v,rfl,sh,th,hd,k1,k2⟩:=h;refine⟨_,(q9 (yM (zP xN (z7 (ix_tup:A7 _ (VR K)) (pv 1) zI (fun _ _=>rfl)) pe_str (zT _)) (zF (xP LD rfl (kT (z7 (ix_tup:A7 _ (VR K)) (pv 1) zI (fun _ _=>rfl))) (zS (i:=2) sc.nd rfl (EJ rfl)) (zF (yB (xE (pv 0) T.cls Qm hr.m xH (zA (z7 (ix_tup:A7 _ (VR K)) (pv 2) zI (fun _ _=>rfl)) (zA (jA (zA pe_str (zA pe_str zD))) zD))))))) zU) (zF (yM (zP xN (z7 (ix_tup:A7 _ (VR K)) (pv 1) zI (fun _ _=>rfl)) pe_str (zT _)) (zE (yB (xE (pv 0) T.cls Qm hr.m xH (zA (z7 (ix_tup:A7 _ (VR K)) (pv 1) zI (fun _ _=>rfl)) (zA (jA (zA pe_str zD)) zD)))) (zF (xP LD rfl (kT (z7 (ix_tup:A7 _ (VR K)) (pv 1) zI (fun _ _=>rfl))) (zS (i:=3) sc.nd rfl (EJ rfl)) (zF (yB (xE (pv 0) T.cls Qm hr.m xH (zA (pv 3) (zA (jA (zA pe_str zD)) zD)))))))) zU))),?_⟩
  obtain⟨g,dx,d1,d2,d3,ts,nx,efp,nd,h1,_⟩:=id sh;cases t with
  |leaf ls =>
   obtain⟨p,b,rfl,hs,hb⟩:=jD hd;refine⟨fun σ' H'=>σ'=[some (.ref a),some (.ref p),none,none]/\H'=H,⟨_,rfl,p,_,_,_,rfl,rfl,hs,rfl,rfl,false,congrArg V.bl (by decide +kernel),VL (A:=False) ⟨rfl,rfl⟩⟩,?_⟩;rintro σ' H' ⟨rfl,rfl⟩;exact⟨_,rfl,p,_,_,_,rfl,rfl,hs,rfl,rfl,false,congrArg V.bl (by decide +kernel),VL (A:=False) (k1 rfl _ (Same.refl _))⟩
  |tree rs =>
   obtain⟨p,b,rfl,hs,hb⟩:=uF hd;obtain⟨b',xs,e,hb1,hx⟩:=hb;cases e;have hxl:xs.length=rs.length:=by rw[hx.length,QU]
   refine⟨fun σ' H'=>∃o,σ'=[some (.ref a),some (.ref p),o,none]/\Same H H'/\(rs.all fun r=>yG S r.2 ["leaf","tree"])=true,?_,?_⟩
   ·refine⟨_,rfl,p,_,_,_,rfl,rfl,hs,rfl,rfl,true,congrArg V.bl (QX rfl),VM (B:=False) ?_⟩;refine⟨_,rfl,p,_,_,_,rfl,rfl,hs,rfl,b,rfl,⟨_,hb1⟩,Bb (K:=K) (a:=b) (xs:=xs) (fun i σ H2=>∃o,σ=[some (.ref a),some (.ref p),o,none]/\Same H H2/\((rs.take i).all fun r=>yG S r.2 ["leaf","tree"])=true) ⟨none,rfl,Same.refl _,rfl⟩ (fun i σ H2 _ ⟨_,_,e,_⟩=>e.tupS hb1) ?_ ?_⟩
    ·rintro i x σ H2 hi ⟨o,rfl,s2,al⟩;obtain⟨r,c,er,rfl,hc⟩:=B7 hx hi;refine⟨_,rfl,a,dx,_,rfl,s2 _ _ h1,rfl,_,rfl,c,_,_,_,rfl,rfl,s2.tupS hc,rfl,VP 2,fun q nq=>?_⟩;have s3:=s2.trans (zC (o:=.tup [V.str "leaf",V.str "tree"]) nq);refine⟨a,q,fp,S,r.2,["leaf","tree"],rfl,sh.same s3,th,SqT.of zB,Sg,fun ok=>⟨_,rfl,s3,?_⟩,fun no=>?_⟩
     ·rw[Z4,er,List.all_append,al];show(yG S r.2 ["leaf","tree"]&&true)=true;rw[ok];rfl
     ·refine k2 ?_ _ s3;show(rs.all fun r=>yG S r.2 ["leaf","tree"])=false;rw[List.all_eq_false];exact⟨r,Zc er,by rw[no];decide⟩
    ·rintro σ H2 ⟨o,rfl,s2,al⟩;rw[hxl,Zq]at al;exact⟨o,rfl,s2,al⟩
   ·rintro σ' H' ⟨o,rfl,s2,al⟩;exact⟨_,rfl,p,_,_,_,rfl,rfl,s2.tupS hs,rfl,rfl,false,congrArg V.bl (by decide +kernel),VL (A:=False) (k1 al _ s2)⟩
  |note x ps y =>
   obtain⟨p,b,rfl,hs,hb⟩:=uC hd;refine⟨fun σ' H'=>σ'=[some (.ref a),some (.ref p),none,none]/\H'=H,⟨_,rfl,p,_,_,_,rfl,rfl,hs,rfl,rfl,false,congrArg V.bl (by decide +kernel),VL (A:=False) ⟨rfl,rfl⟩⟩,?_⟩;rintro σ' H' ⟨rfl,rfl⟩;refine⟨_,rfl,p,_,_,_,rfl,rfl,hs,rfl,rfl,true,congrArg V.bl (QX rfl),VM (B:=False) ?_⟩;refine⟨_,rfl,a,dx,_,rfl,h1,rfl,_,rfl,p,_,_,_,rfl,rfl,hs,rfl,VP 1,fun q nq=>?_⟩;have s3:=zC (o:=.tup [V.str "tree"]) nq;refine⟨a,q,fp,S,x,["tree"],rfl,sh.same s3,th,SqT.of zB,TJ,fun ok=>?_,fun no=>k2 ?_ _ s3⟩
   ·show PD _ _ (upd H' q (.tup [V.str "tree"]));generalize upd H' q (.tup [V.str "tree"])=G at s3;refine⟨_,rfl,p,_,_,_,rfl,rfl,s3.tupS hs,rfl,b,rfl,⟨_,s3.tupS hb⟩,Bb (K:=K) (a:=b) (xs:=ps.map V.str) (fun i σ H2=>∃o,σ=[some (.ref a),some (.ref p),none,o]/\Same H' H2/\((ps.take i).all fun r=>yG S r ["note"])=true) ⟨none,rfl,s3,rfl⟩ (fun i σ H2 _ ⟨_,_,e,_⟩=>e.tupS hb) ?_ ?_⟩
    ·rintro i z σ H2 hi ⟨o,rfl,s2,al⟩;rw[Za]at hi;cases er:ps[i]? with
     |none=>rw[er]at hi;cases hi
     |some r =>
      rw[er]at hi;have hi:V.str r=z:=Option.some.inj hi;subst hi;refine⟨_,rfl,a,dx,_,rfl,s2 _ _ h1,rfl,_,rfl,VP 1,fun q2 nq2=>?_⟩;have s4:=s2.trans (zC (o:=.tup [V.str "note"]) nq2);refine⟨a,q2,fp,S,r,["note"],rfl,sh.same s4,th,SqT.of zB,Tb,fun ok2=>⟨_,rfl,s4,?_⟩,fun no=>k2 ?_ _ s4⟩
      ·rw[Z4,er,List.all_append,al];show(yG S r ["note"]&&true)=true;rw[ok2];rfl
      ·show(yG S x ["tree"]&&ps.all fun p=>yG S p ["note"])=false;rw[ok,Vt,List.all_eq_false];exact⟨r,Zc er,by rw[no];decide⟩
    ·rintro σ H2 ⟨o,rfl,s2,al⟩;rw[QU,Zq]at al;refine k1 ?_ _ s2;show(yG S x ["tree"]&&ps.all fun p=>yG S p ["note"])=true;rw[ok,al];rfl
   ·show(yG S x ["tree"]&&ps.all fun p=>yG S p ["note"])=false;rw[no];rfl
end AB
theorem yJ:Raises X (fun _ _ _=>False):=by
 intro Dp σ H s e s' I hx;obtain⟨_,_,_,_,_,_,_,_,_,_,_,_,_,_,q⟩:=hx;exact q.elim
theorem Bu (g:GoodS S){e f:En}(he:e∈S)(hf:f∈S)(h:e.nm=f.nm):e=f:=by
 obtain⟨i,hi,ei⟩:=ZJ.mp he;obtain⟨j,hj,ej⟩:=ZJ.mp hf;have hp:=Y6.mp g.nn;have:i=j:=by
  rcases JS i j with z|z|z
  ·exact absurd (by rwa[ZF,ZF,ei,ej]) (hp i j (by rwa[QU]) (by rwa[QU]) z)
  ·exact z
  ·exact absurd (by rw[ZF,ZF,ei,ej];exact h.symm) (hp j i (by rwa[QU]) (by rwa[QU]) z)
 subst this;rw[←ei,ej]
theorem Bz:∀rs:Dg,yK (rs.map rowDat)=true
 |[]=>rfl
 |r::rs=>by
  show(vD (rowDat r)&&yK (rs.map rowDat))=true;rw[Bz rs];rfl
theorem Pc (t:Th):vD t.dat=true:=by
 cases t with
 |leaf ls=>show(true&&(yK (ls.map .str)&&true))=true;rw[jG];rfl
 |tree rs=>show(true&&(yK (rs.map rowDat)&&true))=true;rw[Bz];rfl
 |note x ps y=>show(true&&(true&&(yK (ps.map .str)&&(true&&true))))=true;rw[jG];rfl
theorem PY {K:AZ}{t:Th}(h:Dw K H t.dat v):Dt K H t.dat v:=Dw.dt _ _ (U0 _ (Pc t)) h
namespace AC
abbrev st:Stmt:=inClass (top 42) 2
theorem sc:FnScope ["self","thing","head","number","name"] ["self","thing"] (zH st):=Ca
theorem ok (F:Fun K "put" "Shelf.put" st f fd)(T:Txt P w K mg t1 t2 t3 t4 t5 t6 t7 aL aC aN aT aA b1 b2 b3 fI)(QF:CalX P w K mg base 6 "need_thing" ["thing"] (NS K aT))(QG:MetX P w K mg base aC 6 "need_names" ["self","thing"] (HS P w K aC aN))
  (Qk:Cal P w K mg base 1 "letter_of" ["thing"] (Ie K)) (QH:Cal P w K mg base 4 "digest" ["thing"] (BS K)) (Qn:Met P w K mg base aC 1 "take" ["self","name","thing"] (FX P w K aC)):FnOk P w K mg base (Ci P w) 7 f fd ["self","thing"] (Ub P w K aC aN aT):=by
 refine F.okX sc (fun vs H Q E h=>?_) (fun cdv A outer s H vs Q E hr h=>?_)
 ·obtain⟨a,fp,S,d,v,rfl,_⟩:=h;rfl
 ·obtain⟨a,fp,S,d,v,rfl,sh,th,hd,sm,nar,tg,hl,hn,k1,k2,k3⟩:=h;have hu:=Ho hr;refine⟨_,(zE (yB (jW QF hr.m xH (zA (pv 1) zD))) (zE (yB (xE (pv 0) T.cls QG hr.m xH (zA (pv 1) zD))) (zE (yM (zP (Rj hr.units) (pv 1) (j3 (pv 0) rfl) (by with_unfolding_all rfl)) (zF (zO (OP hr.units (j3 (pv 0) rfl) (pv 1) (fun _ _=>rfl)))) zU) (zE (A8 (i:=2) sc.nd (zQ qQ (zK Qk hr.m (zA (pv 1) zD)) (zZ jF (by rfl) T.str ZS (zA (zK QH hr.m (zA (pv 1) zD)) zD)))) (zE (A8 (i:=3) sc.nd (XE hu (j3 (pv 0) rfl) (pv 2) zI ⟨rfl,rfl,rfl,rfl⟩)) (zE (A8 (i:=4) sc.nd (Sm (pv 2) (pv 3))) (zE (yB (G5 (pv 0) T.cls Qn hr.m (zA (pv 4) (zA (pv 1) zD)))) (zF (zO (pv 4)))))))))),?_⟩
  refine⟨_,rfl,d,v,rfl,hd,sm,nar,fun tb H1 s1=>?_,fun tb H1 s1=>k1 tb _ s1⟩;obtain⟨t,rfl,gt⟩:=tg tb;have hd:=PY hd;obtain⟨tv,ev⟩:∃t,v=.ref t:=by
   obtain⟨c,r,e,_⟩:=X2 hd;exact⟨c,e⟩
  subst ev;have sh1:=sh.same s1;have hd1:=Dt.same s1 _ _ hd;obtain⟨gS,dx,d1,d2,d3,ts,nx,efp,nd,h1,h2,h3,h4,h5,h6,h7,h8,h9⟩:=id sh1;refine⟨_,rfl,a,dx,_,rfl,h1,rfl,_,rfl,a,fp,S,t,.ref tv,rfl,sh1,th,hd1,fun nok H2 s2=>?_,fun no H2 s2=>k2 t rfl tb no _ (s1.trans s2)⟩;have k3:=k3 t rfl tb nok;have s12:=s1.trans s2;have sh2:=sh1.same s2;have hd2:=Dt.same s2 _ _ hd1;clear sh1 h2 h3 h4 h5 h6 h7 h8 h9 h1 hd1 efp nd;obtain⟨gS,dx,d1,d2,d3,ts,nx,efp,nd,h1,h2,h3,h4,h5,h6,h7,h8,h9⟩:=id sh2;have kt:=uZ gt;refine⟨_,rfl,_,rfl,a,aC,dx,_,_,rfl,h1,T.cls,T.n2,rfl,tv,d2,_,t.dat,rfl,rfl,h5,kt,hd2,_,rfl,?_⟩;cases hv:VQ (S.map fun e=>(e.d,V.str e.nm)) t.dat with
  |some u =>
   obtain⟨p,hp,e⟩:=QZ.mp (uL hv);obtain⟨en,hen,rfl⟩:=QZ.mp hp;have e:en.d=t.dat:=e;have hu':VQ (S.map fun e=>(e.d,V.str e.nm)) t.dat=some (V.str en.nm):=Xf (by rw[Zv];exact gS.nd) (QZ.mpr ⟨en,hen,by rw[e]⟩);exact VM ⟨_,rfl,a,aC,dx,_,_,rfl,h1,T.cls,T.n2,rfl,_,rfl,tv,d2,_,t.dat,_,rfl,rfl,h5,kt,hd2,hu',k3 _ S en ⟨Off.of s12,sh2,hen,e,.inl rfl⟩⟩
  |none =>
   have hnd:t.dat∉S.map (·.d):=fun z=>by
    have:=XI hv;rw[Zv]at this;exact this z
   refine VL (A:=False) ?_;have db:=Iv t.sp;have hnt:=hn (VW t);refine⟨_,rfl,.ref tv,t,rfl,hd2,_,rfl,.ref tv,t,rfl,hd2,gt,fun H3 s3=>⟨_,rfl,?_,_,_,rfl,rfl,?_,?_⟩⟩
   ·have hz:(dg t.sp).natAbs<97:=by omega
    rcases Y1 (dg t.sp).natAbs with z|z
    ·rw[z];decide
    ·have:(dg t.sp).natAbs.log2<7:=(Nat.log2_lt (by omega)).mpr (by omega);omega
   ·rw[Nj];have h1:=BN (n:=(dg t.sp).toNat) (by omega);have h2:=X8 t;exact le_line (by omega)
   rw[Nj];show IU 2 (V.str (VW t)) _ H3 _;have sh3:=sh2.same s3;have g1:=s3 _ _ h1;have g6:=s3 _ _ h6;refine⟨_,rfl,a,aC,dx,_,_,rfl,g1,T.cls,T.n3,rfl,d3,rfl,.inl ⟨_,.inl g6⟩,_,rfl,_,DGet.k (k:=(Et (VW t):Key)) g6,?_⟩;have em:(VQ nx (Et (VW t):Key)).getD (V.int 0)=V.int (((nextOf S (VW t)).getD 0:Nat):Int):=by
    rw[h8];cases nextOf S (VW t) with
    |none=>rfl
    |some m=>rfl
   rw[em];have dl:(".":Str).length=1:=by decide +kernel
   refine⟨_,rfl,_,rfl,by have:=kH t;omega,by rw[dl];decide,_,rfl,_,rfl,hnt,?_⟩;have enm:VW t++"."++V1 ((nextOf S (VW t)).getD 0)=(Uh S t).nm:=by unfold En.nm Uh;rw[Mx]
   rw[enm];refine⟨_,rfl,a,dx,_,rfl,g1,rfl,_,rfl,_,rfl,a,fp,S,Uh S t,tv,rfl,sh3,⟨kt,jU t,hnt,kH t⟩,Dt.same s3 _ _ hd2,hnd,Ng gS (jU t),hl,fun H4 o4 sh4=>?_⟩;exact⟨_,rfl,k3 _ _ _ ⟨(Off.of (s12.trans s3)).trans o4,sh4,by simp,rfl,.inr ⟨rfl,rfl,hnd⟩⟩⟩
end AC
namespace AD
abbrev st:Stmt:=inClass (top 42) 0
theorem sc:FnScope ["self","base","name"] ["self","base"] (zH st):=Ca
theorem ok (F:Fun K "__init__" "Shelf.__init__" st f fd)(T:Txt P w K mg t1 t2 t3 t4 t5 t6 t7 aL aC aN aT aA b1 b2 b3 fI)(Qb:Met P w K mg base aC 1 "names" ["self"] (vJ P w K aC))(Qn:Met P w K mg base aC 1 "take" ["self","name","thing"] (FX P w K aC))
  (Qc:MetX P w K mg base aC 4 "thing" ["self","name"] (vL P w K aC aN)):FnOk P w K mg base A9 5 f fd ["self","base"] (NP P w K aC):=by
 refine F.ok sc (fun vs H Q E h=>?_) (fun cdv A outer s H vs Q E hr h=>?_)
 ·obtain⟨x,dx,b,S,rfl,_⟩:=h;rfl
 ·obtain⟨x,dx,b,S,rfl,hx,hdx,ne,hb,k⟩:=h;refine⟨_,(zE (FP (pv 0) qG rfl) (zE (FP (pv 0) Nq rfl) (zE (FP (pv 0) qG rfl) (zF (yM (zP OH (pv 1) Bq (zT _)) (zF (xP EM rfl (xJ (kK (pv 1) T.cls Qb hr.m)) (zS (i:=2) sc.nd rfl (EJ rfl)) (zF (yB (G5 (pv 0) T.cls Qn hr.m (zA (pv 2) (zA (xE (pv 1) T.cls Qc hr.m yJ (zA (pv 2) zD)) zD))))))) zU))))),?_⟩
  refine fun d1 n1=>⟨_,rfl,x,aC,dx,_,rfl,(zC n1) _ _ hx,T.cls,T.n1,by decide,?_⟩;have x1:x≠d1:=zM hx n1;have dx1:dx≠d1:=zM hdx n1;refine fun d2 o2 n2 T2 e2=>?_;obtain⟨es,rfl⟩:=e2;have n2':d2≠x/\d2≠d1/\H d2=none:=by
   refine⟨fun z=>?_,fun z=>?_,?_⟩
   ·rw[z,zB]at n2;cases n2
   ·rw[z,zG (ED x1),zB]at n2;cases n2
   ·have a1:d2≠x:=fun z=>by rw[z,zB]at n2;cases n2
    have a2:d2≠d1:=fun z=>by rw[z,zG (ED x1),zB]at n2;cases n2
    rw[zG a1,zG a2]at n2;exact n2
  obtain⟨c2x,c21,c2n⟩:=n2';have dx2:dx≠d2:=zM hdx c2n;refine⟨_,rfl,x,aC,dx,[("thing_by_name",V.ref d1)],rfl,by rw[zG (ED c2x),zB];rfl,T.cls,T.n2,(show 1<1000 by decide),?_⟩;refine fun d3 n3=>?_;have n3':d3≠x/\d3≠d2/\d3≠d1/\H d3=none:=by
   have a1:d3≠x:=fun z=>by rw[z,zB]at n3;cases n3
   have a2:d3≠d2:=fun z=>by rw[z,zG c2x,zB]at n3;cases n3
   have a3:d3≠d1:=fun z=>by rw[z,zG (ED x1),zG (ED c21),zG (ED x1),zB]at n3;cases n3
   refine⟨a1,a2,a3,?_⟩;rw[zG a1,zG a2,zG a1,zG a3]at n3;exact n3
  obtain⟨c3x,c32,c31,c3n⟩:=n3';have dx3:dx≠d3:=zM hdx c3n;refine⟨_,rfl,x,aC,dx,[("thing_by_name",V.ref d1),("name_by_thing",V.ref d2)],rfl,by rw[zG (ED c3x),zB];rfl,T.cls,T.n3,(show 2<1000 by decide),?_⟩;obtain⟨H4,e4⟩:∃H4,H4=upd (upd (upd (upd (upd (upd H d1 (.dK [])) x (.ins aC dx (VN "thing_by_name" (V.ref d1) []))) d2 (X4 d2 es)) x (.ins aC dx (VN "name_by_thing" (V.ref d2) [("thing_by_name",V.ref d1)]))) d3 (.dK [])) x (.ins aC dx (VN "next_numbers" (V.ref d3) [("thing_by_name",V.ref d1),("name_by_thing",V.ref d2)])):=⟨_,rfl⟩;have q0:H4 x=some (.ins aC dx (MB d1 d2 d3)):=by rw[e4,zB];rfl
  have q1:H4 d1=some (.dK []):=by rw[e4,zG (ED x1),zG (ED c31),zG (ED x1),zG (ED c21),zG (ED x1),zB]
  have q2:H4 d2=some (X4 d2 es):=by rw[e4,zG c2x,zG (ED c32),zG c2x,zB]
  have q3:H4 d3=some (.dK []):=by rw[e4,zG c3x,zB]
  have qx:H4 dx=some (.own x):=by rwa[e4,zG ne,zG dx3,zG ne,zG dx2,zG ne,zG dx1]
  have of4:Off [x] H H4:=fun c o hc e=>by
   have cx:c≠x:=fun z=>hc (by rw[z];exact Q1);rwa[e4,zG cx,zG (zM e c3n),zG cx,zG (zM e c2n),zG cx,zG (zM e n1)]
  have fpn:∀c∈[x,dx,d1,d2,d3],c=x\/c=dx\/H c=none:=fun c hc=>by
   simp only[Q7,Z3,Js]at hc
   rcases hc with rfl|rfl|rfl|rfl|rfl
   ·exact .inl rfl
   ·exact .inr (.inl rfl)
   ·exact .inr (.inr n1)
   ·exact .inr (.inr c2n)
   ·exact .inr (.inr c3n)
  have sh4:ShAt P w K aC H4 x [x,dx,d1,d2,d3] []:=by
   obtain⟨_,_,_,xs,exs,r⟩:=T2;cases r;rw[zB]at exs;have q2':H4 d2=some (X4 d2 (List.map (LU (yS P w)) [])):=q2.trans exs;exact⟨GoodS.nil,dx,d1,d2,d3,[],[],rfl,by simp[ED ne,x1,ED c2x,ED c3x,dx1,dx2,dx3,ED c21,ED c31,ED c32],q0,qx,rfl,q1,⟨Zz _,fun _ z=>(nomatch z),Yb,[],q2',.nil⟩,q3,Zz _,fun h=>rfl,fun i e t z=>by cases z⟩
  rw[←e4];clear e4
  rcases hb with⟨rfl,rfl⟩|⟨a,fp0,rfl,sh0,x0,dx0,Sl⟩
  ·exact⟨_,rfl,rfl,false,congrArg V.bl (by rw[QX rfl];rfl),VL (A:=False) (k _ _ fpn of4 sh4)⟩
  ·refine⟨_,rfl,rfl,true,congrArg V.bl (by rw[Q9 (fun z=>by cases z)];rfl),VM (B:=False) ?_⟩;have dj:∀c∈fp0,c∉[x,dx,d1,d2,d3]:=fun c hc z=>by
    obtain⟨o,eo,_⟩:=sh0.noseq c hc
    rcases fpn c z with rfl|rfl|q
    ·exact x0 hc
    ·exact dx0 hc
    ·rw[eo]at q;cases q
   have sh04:ShAt P w K aC H4 a fp0 S:=sh0.off (gp:=[x]) (fun b hb xs z=>by
    rw[QV.mp hb]at z
    rcases z with z|⟨u,z⟩
    ·rw[hx]at z;cases z
    ·rw[hx]at z;cases z) of4 (fun c hc z=>x0 (by rwa[←QV.mp z]))
   obtain⟨gS,dy,e1,e2,e3,ts,nx,efp,nd,h1,h2,h3,h4,h5,h6,h7,h8,h9⟩:=id sh04;refine⟨_,rfl,a,dy,_,rfl,h1,rfl,a,fp0,S,rfl,sh04,fun l nl=>?_⟩;have ul:=zC (o:=.lst (S.map fun e=>V.str e.nm)) nl;have hl5:upd H4 l (.lst (S.map fun e=>V.str e.nm)) l=some (.lst (S.map fun e=>V.str e.nm)):=zB;have sh5:=sh4.same ul;have sh05:=sh04.same ul;have lfp:l∉[x,dx,d1,d2,d3]:=fun z=>by
    obtain⟨o,eo,_⟩:=sh4.noseq l z;rw[eo]at nl;cases nl
   have of5:Off [x] H (upd H4 l (.lst (S.map fun e=>V.str e.nm))):=of4.trans (Off.of ul);refine⟨l,rfl,⟨_,SqL.of hl5⟩,?_⟩;generalize upd H4 l (.lst (S.map fun e=>V.str e.nm))=H5 at ul hl5 sh5 sh05 of5;have ns5:=sh5.noseq.tup;refine kC (K:=K) (a:=l) (xs:=S.map fun e=>V.str e.nm) (fun i σ H6=>∃o,σ=[some (.ref x),some (.ref a),o]/\Off [x,dx,d1,d2,d3] H5 H6/\ShAt P w K aC H6 x [x,dx,d1,d2,d3] (S.take i)) ⟨none,rfl,Off.refl _ _,sh5⟩ (fun i σ H6 hi ⟨_,_,o6,_⟩=>SqL.of (o6 _ _ lfp hl5)) ?_ ?_
   ·rintro i v σ H6 hv ⟨o,rfl,o6,sh6⟩;rw[Za]at hv;cases q:S[i]? with
    |none=>rw[q]at hv;cases hv
    |some e =>
     rw[q]at hv;have hv:V.str e.nm=v:=Option.some.inj hv;subst hv;have he:=Zc q;have sh06:=sh05.off ns5 o6 dj;obtain⟨_,dy',_,_,_,_,_,_,_,k1,_⟩:=id sh06;obtain⟨_,dz',_,_,_,_,_,_,_,z1,_⟩:=id sh6;refine⟨_,rfl,x,dz',_,rfl,z1,rfl,_,rfl,_,rfl,a,dy',_,rfl,k1,rfl,_,rfl,a,fp0,S,.str e.nm,.str e.nm,rfl,sh06,rfl,fun e2 he2 ex t ht=>?_,fun no=>(Y3 no (QZ.mpr ⟨e,he,rfl⟩))⟩;cases Bu gS he he2 (by injection ex);refine⟨x,_,S.take i,e,t,rfl,sh6,gS.ent e he,ht,?_,?_,by rw[Zm];omega,fun H7 o7 sh7=>?_⟩
     ·rw[Jd];exact XU gS.nd (by rw[Za,q];rfl)
     ·rw[Jd];exact XU gS.nn (by rw[Za,q];rfl)
     ·refine⟨_,rfl,o6.trans o7,?_⟩;rwa[Z4,q]
   ·rintro σ H6 ⟨o,rfl,o6,sh6⟩;rw[QU,Zq]at sh6;refine k _ _ fpn (fun c u hc e=>?_) sh6;have e5:=of5 c u hc e
    by_cases z:c∈[x,dx,d1,d2,d3]
    ·rcases fpn c z with q|q|q
     ·exact absurd (by rw[q];exact Q1) hc
     ·subst q;obtain⟨_,dz',y1,y2,y3,_,_,efp',_,_,z2,_⟩:=id sh6;injection efp' with w1 w2;injection w2 with w2 w3;subst w2;rw[hdx]at e;cases e;exact z2
     ·rw[e]at q;cases q
    ·exact o6 c u z e5
end AD
end
end An28
namespace An
open PySem L2 AnJ
theorem uW (h:Uc ls):Ue (tupS ls)=true:=(uZ (qI h)).1 |> fun z=>by
 have z:(Ue (.str "leaf")&&(Ue (tupS ls)&&true))=true:=z;rw[Q8,Q8]at z;exact z.2.1
structure FsAt (K:AZ)(H:Hp)(fs:Dk)(Dm:Dl):Prop where
 keys:Dm.map (·.1)=fs.map fun f=>(.inr (A4 f.1):Key)
 val:∀(i:Nat) (f:Fi) (kv:Key×V),fs[i]?=some f->Dm[i]?=some kv->Dt K H (tupS f.2) kv.2/\Uc f.2
section
variable {K:AZ}{H H':Hp}{fs:Dk}{Dm:Dl}
theorem FsAt.nil:FsAt K H [] []:=⟨rfl,fun i f kv h=>(nomatch h)⟩
theorem FsAt.len (h:FsAt K H fs Dm):Dm.length=fs.length:=by
 have:=congrArg List.length h.keys;rw[QU,QU]at this;exact this
theorem FsAt.same (h:FsAt K H fs Dm)(e:Same H H'):FsAt K H' fs Dm:=⟨h.keys,fun i f kv a b=>⟨Dt.same e _ _ (h.val i f kv a b).1,(h.val i f kv a b).2⟩⟩
theorem FsAt.off {X:Dd}(h:FsAt K H fs Dm)(n:∀b∈X,∀xs,¬Rd H b (.tup xs))(o:Off X H H'):FsAt K H' fs Dm:=⟨h.keys,fun i f kv a b=>⟨Dt.off n o _ _ (uW (h.val i f kv a b).2) (h.val i f kv a b).1,(h.val i f kv a b).2⟩⟩
theorem FsAt.get (h:FsAt K H fs Dm){i:Nat}{k:Key}{v:V}(e:Dm[i]?=some (k,v)):∃f,fs[i]?=some f/\k=.inr (A4 f.1)/\Dt K H (tupS f.2) v/\Uc f.2:=by
 have hl:=(Zl.mp e).1;have hf:=Q5 (l:=fs) (i:=i) (by rwa[←h.len]);have ek:=congrArg (fun l=>l[i]?) h.keys;simp only[Za,e,hf,Yl]at ek;obtain⟨a,b⟩:=h.val i _ _ hf e;exact⟨_,hf,Option.some.inj ek,a,b⟩
theorem FsAt.snoc (h:FsAt K H fs Dm){f:Fi}{v:V}(hv:Dt K H (tupS f.2) v)(hl:Uc f.2):FsAt K H (fs++[f]) (Dm++[(.inr (A4 f.1),v)]):=by
 refine⟨by rw[Q6,Q6,h.keys];rfl,fun i g kv a b=>?_⟩
 by_cases z:i<fs.length
 ·rw[ZI z]at a;rw[ZI (by rwa[h.len])]at b;exact h.val i g kv a b
 ·rw[ZQ (by omega)]at a;rw[ZQ (by rw[h.len];omega)]at b;have z0:i-fs.length=0:=by
   rcases Y1 (i-fs.length) with q|q
   ·exact q
   ·rw[JB.mpr (by show 1<=_;omega)]at a;cases a
  rw[z0]at a;rw[h.len,z0]at b;cases a;cases b;exact⟨hv,hl⟩
end
theorem GQ {d:Nat}{a b:Da}(ha:a≠[])(hb:b≠[])(la:∀l∈a,z9 l=true)(lb:∀l∈b,z9 l=true)(e:A4 a=A4 b):a=b:=by
 have h1:=kM ha fun y hy=>xX (la y hy);have h2:=kM hb fun y hy=>xX (lb y hy);unfold A4 at e;rw[←h1,←h2,e]
def Fg (Do:Dg):Dl:=Do.map fun p=>((.inr p.1:Key),V.str p.2)
theorem NH (Do:Dg):(Fg Do).map (·.1)=Do.map fun p=>(.inr p.1:Key):=by unfold Fg;rw[Zv];rfl
theorem HI {Do:Dg}{l n:Str}(h:l∉Do.map (·.1)):putK (Fg Do) (.inr l) (.str n)=Fg (Do++[(l,n)]):=by
 rw[vE]
 ·unfold Fg;rw[Q6];rfl
 ·rw[NH];intro z;obtain⟨p,hp,e⟩:=QZ.mp z;cases e;exact h (QZ.mpr ⟨p,hp,rfl⟩)
def Cb (fa:List (Str×Eh)):Dl:=fa.map fun p=>((.inr p.1:Key),V.ref p.2)
theorem Cr (fa:List (Str×Eh)):(Cb fa).map (·.1)=fa.map fun p=>(.inr p.1:Key):=by unfold Cb;rw[Zv];rfl
theorem P1 {fa:List (Str×Eh)}(nd:(fa.map (·.1)).Nodup):((Cb fa).map (·.1)).Nodup:=by
 rw[Cr];have:(fa.map fun p=>(.inr p.1:Key))=(fa.map (·.1)).map Sum.inr:=by rw[Zv];rfl
 rw[this];exact List.Pairwise.map _ (fun a b n e=>by cases e;exact n rfl) nd
theorem k9 {fa:List (Str×Eh)}(nd:(fa.map (·.1)).Nodup){p:Str×Eh}(h:p∈fa):VQ (Cb fa) (.inr p.1)=some (.ref p.2):=Xf (P1 nd) (QZ.mpr ⟨p,h,rfl⟩)
theorem MA {fa:List (Str×Eh)}{l:Str}(h:l∉fa.map (·.1)):VQ (Cb fa) (.inr l)=none:=by
 cases e:VQ (Cb fa) (.inr l) with
 |none=>rfl
 |some v =>
  have:=uL e;rw[Cr]at this;obtain⟨p,hp,z⟩:=QZ.mp this;cases z;exact absurd (QZ.mpr ⟨p,hp,rfl⟩) h
theorem BJ {fa:List (Str×Eh)}{l:Str}{b:Eh}(h:l∉fa.map (·.1)):putK (Cb fa) (.inr l) (.ref b)=Cb (fa++[(l,b)]):=by
 rw[CN _ (MA h)];unfold Cb;rw[Q6];rfl
theorem Cs {fa:List (Str×Eh)}(nd:(fa.map (·.1)).Nodup){p:Str×Eh}(h:p∈fa):putK (Cb fa) (.inr p.1) (.ref p.2)=Cb fa:=by
 unfold putK;rw[Zk (by rw[xW,k9 nd h];rfl)];unfold Cb;rw[Zv];refine Z0 fun q hq=>?_;show(if(.inr q.1:Key)=.inr p.1 then((.inr q.1:Key),V.ref p.2) else(.inr q.1,V.ref q.2))=(.inr q.1,V.ref q.2)
 split
 ·rename_i e;have e:q.1=p.1:=Sum.inr.inj e;have:V.ref q.2=V.ref p.2:=by
   have h1:=k9 nd hq;rw[e,k9 nd h]at h1;exact(Option.some.inj h1).symm
  rw[this]
 ·rfl
structure Fols (K:AZ)(H1 H:Hp)(fs:Dk)(fa:List (Str×Eh)):Prop where
 lab:fa.map (·.1)=A6 fs
 nd:(fa.map (·.2)).Nodup
 new:∀p∈fa,H1 p.2=none
 at_:∀p∈fa,∃Dm,H p.2=some (.dK Dm)/\FsAt K H (sub fs p.1) Dm
section
variable {K:AZ}{H1 H H':Hp}{fs:Dk}{fa:List (Str×Eh)}
theorem Fols.nil:Fols K H1 H [] []:=⟨rfl,Yb,fun p h=>(nomatch h),fun p h=>(nomatch h)⟩
theorem Fols.off {X:Dd}(h:Fols K H1 H fs fa)(ex:∀c∈X,∃o,H1 c=some o)(n:∀b∈X,∀xs,¬Rd H b (.tup xs))(o:Off X H H'):Fols K H1 H' fs fa:=⟨h.lab,h.nd,h.new,fun p hp=>by
 obtain⟨Dm,a,b⟩:=h.at_ p hp;refine⟨Dm,o _ _ (fun z=>?_) a,b.off n o⟩;obtain⟨q,e⟩:=ex _ z;rw[h.new p hp]at e;cases e⟩
theorem Fols.same (h:Fols K H1 H fs fa)(e:Same H H'):Fols K H1 H' fs fa:=⟨h.lab,h.nd,h.new,fun p hp=>by
 obtain⟨Dm,a,b⟩:=h.at_ p hp;exact⟨Dm,e _ _ a,b.same e⟩⟩
theorem Fols.one (h:Fols K H1 H fs fa){f:Fi}{a:Str}(e:f.1=[a]):Fols K H1 H (fs++[f]) fa:=⟨by rw[jT,e];exact h.lab,h.nd,h.new,fun p hp=>by
 rw[sub_snoc,Fb e];show∃Dm,_/\FsAt K H (sub fs p.1++[]) Dm;rw[Zy];exact h.at_ p hp⟩
theorem Fols.labs_nd (h:Fols K H1 H fs fa):(fa.map (·.1)).Nodup:=by rw[h.lab];exact(yV fs).1
theorem z6 {c:Eh}:Off [c] H (upd H c o):=(Off.refl _ _).upd (QV.mpr rfl)
theorem yA {c:Eh}{Dm:Dl}(h:H c=some (.dK Dm)):∀b∈[c],∀xs,¬Rd H b (.tup xs):=fun b hb xs=>by
 rw[QV.mp hb];exact XZ h (fun _ z=>(nomatch z)) (fun _ _ z=>(nomatch z)) xs
theorem Fols.old (h:Fols K H1 H fs fa){p:Str×Eh}(hp:p∈fa){Dm:Dl}(hk:H p.2=some (.dK Dm))(hf:FsAt K H (sub fs p.1) Dm){f:Fi}{b:Str}{r:Da}(e:f.1=p.1::b::r){v:V}(hv:Dt K H (tupS f.2) v)(hl:Uc f.2) :
  Fols K H1 (upd H p.2 (.dK (Dm++[(.inr (A4 (b::r)),v)]))) (fs++[f]) fa:=by
 have nt:=yA hk;have o:Off [p.2] H (upd H p.2 (.dK (Dm++[((.inr (A4 (b::r)):Key),v)]))):=z6;have inl:p.1∈A6 fs:=by rw[←h.lab];exact QZ.mpr ⟨p,hp,rfl⟩
 refine⟨?_,h.nd,h.new,fun q hq=>?_⟩
 ·rw[jT,e];show _=x9 (A6 fs) p.1;unfold x9;rw[Zk inl];exact h.lab
 ·rw[sub_snoc,uY e]
  by_cases z:p.1=q.1
  ·rw[Zk z];have eq:p.2=q.2:=by
    have h1:=k9 h.labs_nd hq;rw[←z,k9 h.labs_nd hp]at h1;injection (Option.some.inj h1)
   refine⟨_,by rw[←eq];exact zB,?_⟩;rw[←z];exact(hf.off nt o).snoc (f:=(b::r,f.2)) (Dt.off nt o _ _ (uW hl) hv) hl
  ·rw[Zh z];obtain⟨kq,a1,a2⟩:=h.at_ q hq;have ne:q.2≠p.2:=fun y=>by
    obtain⟨i,hi,ei⟩:=ZJ.mp hp;obtain⟨j,hj,ej⟩:=ZJ.mp hq;have:=(YV (h₀:=by simpa using hi) (h₁:=by simpa using hj) h.nd).mp (by rw[ZF,ZF,ei,ej];exact y.symm);subst this;rw[ei]at ej;exact z (by rw[ej])
   refine⟨kq,by rw[zG ne];exact a1,?_⟩;show FsAt K _ (sub fs q.1++[]) kq;rw[Zy];exact a2.off nt o
theorem Fols.fresh' (h:Fols K H1 H fs fa){l b:Str}{r:Da}(nl:l∉A6 fs){c:Eh}(hc:H c=some (.dK []))(n1:H1 c=none)(nf:∀p∈fa,p.2≠c){f:Fi}(e:f.1=l::b::r){v:V}(hv:Dt K H (tupS f.2) v)(hl:Uc f.2) :
  Fols K H1 (upd H c (.dK [(.inr (A4 (b::r)),v)])) (fs++[f]) (fa++[(l,c)]):=by
 have nt:=yA hc;have o:Off [c] H (upd H c (.dK [((.inr (A4 (b::r)):Key),v)])):=z6;have s0:sub fs l=[]:=Jl.mpr fun k hk=>by
  obtain⟨h0,hf⟩:=mem_sub.mp hk;refine nl (((yV fs).2 l).mpr ⟨_,hf,?_⟩);cases q:k.1 with
  |nil=>exact absurd q h0
  |cons b r=>exact⟨b,r,rfl⟩
 refine⟨?_,?_,fun p hp=>?_,fun p hp=>?_⟩
 ·rw[jT,e,Q6,h.lab];show _=x9 (A6 fs) l;unfold x9;rw[Zh nl];rfl
 ·rw[Q6];refine q8 h.nd fun z=>?_;obtain⟨p,hp,ep⟩:=QZ.mp z;exact nf p hp ep
 ·rcases Zf.mp hp with z|z
  ·exact h.new p z
  ·rwa[QV.mp z]
 ·rw[sub_snoc,uY e]
  rcases Zf.mp hp with z|z
  ·have ne:l≠p.1:=fun y=>nl (by rw[y,←h.lab];exact QZ.mpr ⟨p,z,rfl⟩);rw[Zh ne];obtain⟨Dm,a,b⟩:=h.at_ p z;refine⟨Dm,by rw[zG (nf p z)];exact a,?_⟩;show FsAt K _ (sub fs p.1++[]) Dm;rw[Zy];exact b.off nt o
  ·rw[QV.mp z,Zk rfl,s0];exact⟨_,zB,FsAt.snoc (fs:=[]) FsAt.nil (f:=(b::r,f.2)) (Dt.off nt o _ _ (uW hl) hv) hl⟩
end
end An
namespace An28
open PySem L2 An
seal L2.PS L2.PSs L2.PE L2.PT L2.PW L2.PA L2.PG L2.PGs L2.PI L2.PFi L2.PC
def NT (K:AZ):Sp:=fun vs H Q _=>∃(d:El) (v:V),vs=[v]/\Dw K H d v/\small d=true/\∀H',Same H H'->Q (.bl (CL d)) H'
def NO (K:AZ):Sp:=fun vs H Q _=>∃x:Str,vs=[.str x]/\x.length<=1000/\∀p H',Same H H'->SqL K H' p ((Kp x).map V.str)->Q (.ref p) H'
def NN (K:AZ):Sp:=fun vs H Q _=>∃(d e:El) (v u:V),vs=[v,u]/\Dw K H d v/\Dw K H e u/\small d=true/\small e=true/\∀H',Same H H'->Q (.bl (CL d&&vA e)) H'
theorem O5:[V.str "/"]=[V.str ⟨#[47]⟩]:=by rw[Uz];rfl
theorem MR (x:Str):PySem.Txt.split x ⟨#[47]⟩=VV x:=by unfold VV;rw[Uz];rfl
theorem line_parts:VS x=true↔x.length<=20/\(cs x).all V7=true:=by
 unfold VS;rw[Q8,ZP]
theorem label_parts:z9 x=true↔1<=x.length/\x.length<=8/\(cs x).all UH=true:=by
 unfold z9;rw[Q8,Q8,ZP,ZP,and_assoc]
def vB (t:Th):Prop:=t.Good/\kN t.dat=true/\small t.dat=true/\narrow t.dat
theorem kY (h:VS x=true):Ok 1000 x:=by
 obtain⟨h1,h2⟩:=line_parts.mp h;refine⟨by omega,?_⟩;rw[qB];intro c hc;have:=Zu.mp h2 c hc;unfold V7 at this;simp only[Q8,ZP]at this;omega
theorem Cz (h:z9 x=true):Ok 1000 x:=⟨by have:=(label_parts.mp h).2.1;omega,IT h⟩
theorem jR:∀{ls:Da},(∀l∈ls,l.length<=1000)->yE (ls.map .str)=true
 |[],_=>rfl
 |l::ls,h=>by
  show(decide (l.length<=1000)&&yE (ls.map .str))=true;rw[QX (h l Q1),jR fun x hx=>h x (QY _ hx)];rfl
theorem XG:∀{rs:Dg},(∀r∈rs,r.1.length<=1000/\r.2.length<=1000)->yE (rs.map rowDat)=true
 |[],_=>rfl
 |r::rs,h=>by
  obtain⟨h1,h2⟩:=h r Q1;show((decide (2<=1000)&&(decide (r.1.length<=1000)&&(decide (r.2.length<=1000)&&true)))&&yE (rs.map rowDat))=true;rw[QX h1,QX h2,XG fun x hx=>h x (QY _ hx)];rfl
theorem kR {ls:Da}(h:∀l∈ls,VS l=true)(hl:ls.length<=63):vB (.leaf ls):=by
 have h1:∀l∈ls,l.length<=1000:=fun l hl=>(kY (h l hl)).len;refine⟨⟨by show ls.length<=1000;omega,fun p hp=>kY (h p hp)⟩,?_,?_,fun ds e=>?_⟩
 ·show((decide (("leaf":Str)="leaf")&&(decide (1=1)&&((ls.map EL).all Uq)))||_)=true;have:(ls.map EL).all Uq=true:=by rwa[List.all_map,Zu]
  rw[this,QX rfl];rfl
 ·show(decide (2<=1000)&&(decide (("leaf":Str).length<=1000)&&((decide ((ls.map EL).length<=1000)&&yE (ls.map .str))&&true)))=true;rw[jR h1,QU,QX (show ls.length<=1000 by omega),QX (show("leaf":Str).length<=1000 by decide +kernel)];rfl
 ·have e:[EL "leaf",.tuple (ls.map .str)]=ds:=by injection e
  subst e;refine⟨by show 2<=63;decide,fun e he es ee=>?_⟩
  rcases Q7.mp he with q|q
  ·rw[q]at ee;cases ee
  ·rw[QV.mp q]at ee;cases ee;rwa[QU]
theorem Kv {rs:Dg}(h:∀r∈rs,z9 r.1=true/\Ok 1000 r.2)(hr:Uv (rs.map (·.1))=true)(hl:rs.length<=63):vB (.tree rs):=by
 have fl:∀rs:Dg,(∀r∈rs,z9 r.1=true/\Ok 1000 r.2)->∀p∈z5 rs,Ok 1000 p:=by
  intro rs
  induction rs with
  |nil=>intro _ p hp;cases hp
  |cons r rs ih =>
   intro h p hp
   rcases Q7.mp hp with q|hp
   ·rw[q];exact Cz (h r Q1).1
   ·rcases Q7.mp hp with q|hp
    ·rw[q];exact(h r Q1).2
    ·exact ih (fun x hx=>h x (QY _ hx)) p hp
 refine⟨⟨?_,fl rs h⟩,?_,?_,fun ds e=>?_⟩
 ·show(z5 rs).length<=1000;rw[Ao.flat_len];omega
 ·show((decide (("tree":Str)="leaf")&&(decide (1=1)&&vA (.tuple (rs.map rowDat))))||((decide (("tree":Str)="tree")&&(decide (1=1)&&((rs.map rowDat).all Us&&Uv ((rs.map rowDat).map Ug))))||_))=true;have e1:(rs.map rowDat).all Us=true:=by
   rw[List.all_map,Zu];intro r hr;show(z9 r.1&&true)=true;rw[(h r hr).1];rfl
  have e2:(rs.map rowDat).map Ug=rs.map (·.1):=by rw[Zv];rfl
  rw[e1,e2,hr,Q9 (show¬("tree":Str)="leaf" by decide +kernel),QX (show("tree":Str)="tree" from rfl)];rfl
 ·show(decide (2<=1000)&&(decide (("tree":Str).length<=1000)&&((decide ((rs.map rowDat).length<=1000)&&yE (rs.map rowDat))&&true)))=true;rw[XG fun r hr=>⟨(Cz (h r hr).1).len,(h r hr).2.len⟩,QU,QX (show rs.length<=1000 by omega),QX (show("tree":Str).length<=1000 by decide +kernel)];rfl
 ·have e:[EL "tree",.tuple (rs.map rowDat)]=ds:=by injection e
  subst e;refine⟨by show 2<=63;decide,fun e he es ee=>?_⟩
  rcases Q7.mp he with q|q
  ·rw[q]at ee;cases ee
  ·rw[QV.mp q]at ee;cases ee;rwa[QU]
theorem Ks {ps:Da}(hx:Ok 1000 x)(hy:VS y=true)(hp:∀p∈ps,Ok 1000 p)(nd:ps.Nodup)(hl:ps.length<=2):vB (.note x ps y):=by
 refine⟨⟨?_,fun p h=>?_⟩,?_,?_,fun ds e=>?_⟩
 ·show([x,dig ps.length]++ps++[y]).length<=1000;simp;omega
 ·have h:p∈[x,dig ps.length]++ps++[y]:=h;simp at h
  rcases h with z|z|z|z
  ·rwa[z]
  ·rw[z];exact⟨ZD (GT (by omega)) (by decide),FK _⟩
  ·exact hp p z
  ·rw[z];exact kY hy
 ·show((decide (("note":Str)="leaf")&&(decide (3=1)&&vA (.str x)))||((decide (("note":Str)="tree")&&(decide (3=1)&&II (.str x)))||(decide (("note":Str)="note")&&(decide (3=3)&&(true&&(((ps.map EL).all V3&&(decide ((ps.map EL).length<=2)&&decide ((AxS.uniq ((ps.map EL).map BD)).length=(ps.map EL).length)))&&VS y))))))=true;have e1:(ps.map EL).all V3=true:=by rw[List.all_map,Zu];exact fun _ _=>rfl
  have e2:(ps.map EL).map BD=ps:=by rw[Zv];exact Vc _
  rw[e1,e2,GA nd,QU,hy,QX hl,QX (show ps.length=ps.length from rfl),Q9 (show¬("note":Str)="leaf" by decide +kernel),Q9 (show¬("note":Str)="tree" by decide +kernel),QX (show("note":Str)="note" from rfl)];rfl
 ·show(decide (4<=1000)&&(decide (("note":Str).length<=1000)&&(decide (x.length<=1000)&&((decide ((ps.map EL).length<=1000)&&yE (ps.map .str))&&(decide (y.length<=1000)&&true)))))=true;rw[jR fun p h=>(hp p h).len,QU,QX (show ps.length<=1000 by omega),QX hx.len,QX (kY hy).len,QX (show("note":Str).length<=1000 by decide +kernel)];rfl
 ·have e:[EL "note",.str x,.tuple (ps.map .str),.str y]=ds:=by injection e
  subst e;refine⟨by show 4<=63;decide,fun e he es ee=>?_⟩;simp only[Q7,Z3,Js]at he
  rcases he with q|q|q|q
  ·rw[q]at ee;cases ee
  ·rw[q]at ee;cases ee
  ·rw[q]at ee;cases ee;rw[QU];omega
  ·rw[q]at ee;cases ee
theorem O3 {l:Da}(h:l.Pairwise SL):Uv l=true:=rise_iff.mpr ⟨h.imp fun{a b} z q=>List.lt_asymm z q,Y2.mpr (h.imp fun{a b} z=>Sf z)⟩
theorem Ol (h:yG S x ws=true):x∈S.map En.nm:=by
 unfold yG at h;obtain⟨e,he,q⟩:=Z2.mp h;rw[Q8,ZP]at q;exact QZ.mpr ⟨e,he,q.1⟩
theorem Kq {ls:Da}(h:At S x (.leaf ls)):yG S x ["leaf","tree"]=true:=by
 obtain⟨e,he,rfl,hd⟩:=h;refine Z2.mpr ⟨e,he,?_⟩;rw[Q8,Zt,Zt,Xb hd];exact⟨rfl,Q1 ..⟩
theorem Kr {Do:Dg}(h:At S x (.tree Do)):yG S x ["leaf","tree"]=true:=by
 obtain⟨e,he,rfl,hd⟩:=h;refine Z2.mpr ⟨e,he,?_⟩;rw[Q8,Zt,Zt,Xb hd];exact⟨rfl,QY _ (Q1 ..)⟩
theorem On (h:Tree d S x):yG S x ["leaf","tree"]=true:=by
 cases d with
 |zero=>exact absurd h (fun z=>z)
 |succ d =>
  rcases h with⟨ls,h⟩|⟨Do,h,_⟩
  ·exact Kq h
  ·exact Kr h
theorem Gn {K:AZ}{aN aT:Eh}{Q:VK}{E:XK}(sh:ShAt P w K C H a fp S)(ok:OkS S)(g:vB t)(nok:namesOk S t=true)(l:S.length<2000)(hv:Dt K H t.dat v)
  (k:∀H2,Off fp H H2->ShAt P w K C H2 a fp (A0 S t).1->Q (.str (A0 S t).2) H2):Ub P w K C aN aT [.ref a,v] H Q E:=by
 refine⟨a,fp,S,t.dat,v,rfl,sh,ok.th,Dt.dw hv,g.2.2.1,g.2.2.2,fun _=>⟨t,rfl,g.1⟩,l,fun h=>by have:=Hx ok.num h;omega,fun z=>?_,fun t' e _ no=>?_,fun t' e _ _ H2 S' e2 pr=>?_⟩
 ·rw[g.2.1]at z;cases z
 ·have:=uM e;subst this;rw[nok]at no;cases no
 ·have:=uM e;subst this;obtain⟨of,sh2,he2,ed,q⟩:=pr
  rcases q with q|⟨q,q2,q3⟩
  ·rw[q]at he2 sh2;have pe:=Bl ok (x:=e2.nm) ⟨e2,he2,rfl,ed⟩;rw[pe]at k;exact k H2 of sh2
  ·have pe:=BE (S:=S) (t:=t) fun e he hd=>q3 (QZ.mpr ⟨e,he,hd⟩);rw[pe]at k;rw[q2]at q;rw[q]at sh2;rw[q2];exact k H2 of sh2
def UL (P:Ei)(w:Eo)(K:AZ)(C:Eh):Sp:=fun vs H Q _=>∃(a d:Eh) (fp:Dd) (S:Di) (Do:Dg),vs=[.ref a,.ref d]/\ShAt P w K C H a fp S/\OkS S/\Rd H d (.dK (Fg Do))/\(Do.map (·.1)).Nodup/\(∀r∈Do,z9 r.1=true/\yG S r.2 ["leaf","tree"]=true)/\Do.length<=63/\S.length<2000 /\
 ∀H',Off fp H H'->ShAt P w K C H' a fp (A0 S (.tree (V2 Do))).1->Q (.str (A0 S (.tree (V2 Do))).2) H'
section
variable {P:Ei}{w:Eo}{K:AZ}{mg:Str->Dc}{base:EC}{t1 t2 t3 t4 t5 t6 t7:Tok}{aL aC aN aT aA b1 b2 b3 fI:Eh}
theorem jZ (h:ShAt P w K C H a fp S):∃dx d1 d2 d3,H a=some (.ins C dx (MB d1 d2 d3)):=by
 obtain⟨_,dx,d1,d2,d3,_,_,_,_,h1,_⟩:=h;exact⟨dx,d1,d2,d3,h1⟩
namespace AE
abbrev st:Stmt:=top 45
theorem sc:FnScope ["thing","labels"] ["thing"] (zH st):=Ca
theorem ok (F:Fun K "is_path" "is_path" st f fd)(T:Txt P w K mg t1 t2 t3 t4 t5 t6 t7 aL aC aN aT aA b1 b2 b3 fI)(Qi:Cal P w K mg base 1 "is_label" ["thing"] (GZ K)):FnOk P w K mg base A9 2 f fd ["thing"] (NT K):=by
 refine F.ok sc (fun vs H Q E h=>?_) (fun cdv A outer s H vs Q E hr h=>?_)
 ·obtain⟨d,v,rfl,_⟩:=h;rfl
 ·obtain⟨d,v,rfl,hd,sm,k⟩:=h;refine⟨_,(zE (yM (xS (zV (K:=K) (zJ (zX (K:=K)) (by rfl) T.isinstance Zj (zA (pv 0) (zA (yX (v:=.ty "str") rfl T.str ZS rfl) zD))) (fun _=>rfl))) (zF (zO uK)) zU) (zE (A8 (i:=1) sc.nd (jY Yo PySem.F.slot_str_split PySem.F.type_str_split CK (pv 0) (zA pe_str zD))) (zF (zO (xI (yU BU (zJ zN (by rfl) T.len ZE (zA (pv 1) zD)) (xA (v:=.int 4) rfl T.MOST_LABELS ⟨_,rfl⟩) (zT _)) (qJ (zJ (jQ rfl) (by rfl) T.all YC (zA (y7 (sc:=zH st) (N:=["thing","labels"]) (N':=["label"]) (src:=[none]) ⟨by decide +kernel,rfl,rfl,by decide +kernel,by decide +kernel,by decide +kernel,by decide +kernel⟩ rfl rfl rfl (xJ (pv 1)) (fun _ _ _ _=>(zS (i:=0) (show(["label"]:Da).Nodup by decide +kernel) rfl (EJ rfl))) (fun _ _ _ _=>qF) (fun _ _ _ _=>(zK Qi hr.m (zA (pv 0) zD)))) zD)))))))),?_⟩
  refine⟨_,rfl,_,_,d,_,rfl,hd,T.is (by simp[kinds]),_,rfl,?_⟩;cases d with
  |str x =>
   cases(show v=_ from hd);have xl:x.length<=1000:=Zb sm;have cl:=Ir x;refine VL ⟨_,rfl,rfl,x,47,rfl,O5,by omega,fun l nl=>?_⟩;rw[MR];have u:=zC (o:=.lst ((VV x).map V.str)) nl;refine⟨_,rfl,l,_,rfl,.inl (SqL.of zB),_,_,rfl,rfl,_,rfl,VU (fun h1=>?_) (fun h1=>?_)⟩
   ·have h1:(VV x).length<=4:=by have:=Zb h1;rw[QU]at this;omega
    refine⟨_,rfl,l,rfl,⟨_,SqL.of zB⟩,kX (K:=K) (a:=l) (xs:=(VV x).map V.str) (fun i ys σ H2=>∃o,σ=[o]/\Same (upd H l (.lst ((VV x).map V.str))) H2/\ys=(((VV x).take i).map z9).map V.bl) ⟨none,rfl,Same.refl _,rfl⟩ (le_line (by rw[QU];omega)) ?_ ?_ ?_⟩
    ·rintro i ys σ H2 hi ⟨o,rfl,e2,rfl⟩;refine⟨SqL.of (e2 _ _ zB),?_⟩;rw[QU,QU,Zm];omega
    ·rintro i y ys σ H2 hy ⟨o,rfl,e2,rfl⟩;rw[Za]at hy;cases q:(VV x)[i]? with
     |none=>rw[q]at hy;cases hy
     |some z =>
      rw[q]at hy;have hy:V.str z=y:=Option.some.inj hy;subst hy;have zl:=CA (Zc q);refine⟨_,rfl,.str z,_,rfl,rfl,QX (by omega),fun H3 s3=>⟨_,rfl,e2.trans s3,?_⟩⟩;rw[yW q,Q6];rfl
    ·rintro ys σ H2 ⟨o,rfl,e2,rfl⟩ p np;refine⟨p,_,rfl,SqL.of zB,?_⟩;rw[QU,Zq,all_map];have e:CL (.str x)=(VV x).all z9:=by
      show(decide ((VV x).length<=4)&&(VV x).all z9)=_;rw[QX h1];rfl
     rw[e]at k;exact k _ ((u.trans e2).trans (zC np))
   ·have e:CL (.str x)=false:=by
     show(decide ((VV x).length<=4)&&(VV x).all z9)=_;rw[Q9 (p:=(VV x).length<=4) (fun z=>h1 (QX (by rw[QU];omega)))];rfl
    rw[e]at k;exact k _ u
  |none=>exact VM (k _ (Same.refl _))
  |bool b=>exact VM (k _ (Same.refl _))
  |int i=>exact VM (k _ (Same.refl _))
  |list ds=>exact VM (k _ (Same.refl _))
  |tuple ds=>exact VM (k _ (Same.refl _))
  |dict Dm=>exact VM (k _ (Same.refl _))
end AE
namespace AF
abbrev st:Stmt:=top 46
theorem sc:FnScope ["path","labels"] ["path"] (zH st):=Ca
theorem ok (F:Fun K "folders_of" "folders_of" st f fd)(T:Txt P w K mg t1 t2 t3 t4 t5 t6 t7 aL aC aN aT aA b1 b2 b3 fI):FnOk P w K mg base A9 1 f fd ["path"] (NO K):=by
 refine F.ok sc (fun vs H Q E h=>?_) (fun cdv A outer s H vs Q E hr h=>?_)
 ·obtain⟨x,rfl,_⟩:=h;rfl
 ·obtain⟨x,rfl,xl,k⟩:=h;refine⟨_,(zE (A8 (i:=1) sc.nd (jY Yo PySem.F.slot_str_split PySem.F.type_str_split CK (pv 0) (zA pe_str zD))) (zF (zO (y7 (sc:=zH st) (N:=["path","labels"]) (N':=["count","labels"]) (src:=[none,some 1]) ⟨by decide +kernel,rfl,rfl,by decide +kernel,by decide +kernel,by decide +kernel,by decide +kernel⟩ rfl rfl rfl (KR rfl T.range (zA zI (zA (zJ zN (by rfl) T.len ZE (zA (pv 1) zD)) zD))) (fun _ _ _ _=>(zS (i:=0) (show(["count","labels"]:Da).Nodup by decide +kernel) rfl (EJ rfl))) (fun _ _ _ _=>qF) (fun _ _ _ _=>(Rk (K:=K) Yo JZ J0 (Nd (K:=K)) pe_str (zA (xF (sl_list:Hc _ (Ig K)) (pv 1) j6 (yZ (pv 0))) zD))))))),?_⟩
  have cl:=Ir x;have cp:=MS x;have e1:("/":Str).length=1:=by decide +kernel
  refine⟨_,rfl,rfl,x,47,rfl,O5,by omega,fun l nl=>?_⟩;rw[MR];have u:=zC (o:=.lst ((VV x).map V.str)) nl;refine⟨_,rfl,l,_,rfl,.inl (SqL.of zB),1,(((VV x).map V.str).length:Int),rfl,⟨by decide,by decide,by omega,by rw[QU];omega⟩,?_⟩;have en:((((VV x).map V.str).length:Int)-1).toNat=(VV x).length-1:=by rw[QU];omega
  rw[en];refine j7 (fun i ys σ H2=>∃o,σ=[o,some (.ref l)]/\Same (upd H l (.lst ((VV x).map V.str))) H2/\ys=((EA i).map fun i=>PySem.Txt.join "/" ((VV x).take (i+1))).map V.str) ⟨none,rfl,Same.refl _,rfl⟩ (le_line (by omega)) ?_ ?_ ?_
  ·rintro i ys σ H2 hi ⟨o,rfl,e2,rfl⟩;rw[QU,QU,Yq];exact Q2 _
  ·rintro i ys σ H2 hi ⟨o,rfl,e2,rfl⟩;refine⟨rfl,_,rfl,_,rfl,_,rfl,l,_,rfl,SqL.of (e2 _ _ zB),fun p np=>?_⟩;have et:V9 ((VV x).map V.str) none (some (1+(i:Int)))=((VV x).take (i+1)).map V.str:=by
    rw[GU (by omega),Jd]
    congr 1
    omega
   rw[et];refine⟨"/",p,(VV x).take (i+1),rfl,rfl,.inl (SqL.of zB),?_,_,rfl,e2.trans (zC np),?_⟩
   ·have h1:=F0 (n:=1000) ((VV x).take (i+1)) (fun y hy=>by have:=CA (ZU hy);omega);have h2:((VV x).take (i+1)).length<=1001:=by rw[Zm];omega
    have h3:((VV x).take (i+1)).length*1000<=1001*1000:=Nat.mul_le_mul_right _ h2;refine le_line ?_;rw[e1];omega
   ·rw[Y8,Q6,Q6];rfl
  ·rintro ys σ H2 ⟨o,rfl,e2,rfl⟩ p np;exact k p _ ((u.trans e2).trans (zC np)) (SqL.of zB)
end AF
namespace AG
abbrev st:Stmt:=top 47
theorem sc:FnScope ["path","lines"] ["path","lines"] (zH st):=Ca
theorem ok (F:Fun K "is_file" "is_file" st f fd)(T:Txt P w K mg t1 t2 t3 t4 t5 t6 t7 aL aC aN aT aA b1 b2 b3 fI)(QI:Cal P w K mg base 2 "is_path" ["thing"] (NT K))(Qj:Cal P w K mg base 3 "is_lines" ["thing"] (G2 K)):FnOk P w K mg base A9 4 f fd ["path","lines"] (NN K):=by
 refine F.ok sc (fun vs H Q E h=>?_) (fun cdv A outer s H vs Q E hr h=>?_)
 ·obtain⟨d,e,v,u,rfl,_⟩:=h;rfl
 ·obtain⟨d,e,v,u,rfl,hd,he,sd,se,k⟩:=h;refine⟨_,(zF (zO (xI (zK QI hr.m (zA (pv 0) zD)) (qJ (zK Qj hr.m (zA (pv 1) zD)))))),?_⟩;refine⟨_,rfl,d,v,rfl,hd,sd,fun H2 s2=>⟨_,rfl,VU (fun h1=>?_) (fun h1=>?_)⟩⟩
  ·rw[h1,Vt]at k;exact⟨_,rfl,e,u,rfl,Dw.same s2 _ _ he,se,fun H3 s3=>k _ (s2.trans s3)⟩
  ·have h1:=YL.mpr h1;rw[h1]at k;exact k _ s2
end AG
namespace AH
abbrev st:Stmt:=top 50
theorem sc:FnScope ["shelf","rows"] ["shelf","rows"] (zH st):=Ca
theorem ok (F:Fun K "put_rows" "put_rows" st f fd)(T:Txt P w K mg t1 t2 t3 t4 t5 t6 t7 aL aC aN aT aA b1 b2 b3 fI)(Qa:MetX P w K mg base aC 7 "put" ["self","thing"] (Ub P w K aC aN aT)):FnOk P w K mg base A9 8 f fd ["shelf","rows"] (UL P w K aC):=by
 refine F.ok sc (fun vs H Q E h=>?_) (fun cdv A outer s H vs Q E hr h=>?_)
 ·obtain⟨a,d,fp,S,Do,rfl,_⟩:=h;rfl
 ·obtain⟨a,d,fp,S,Do,rfl,sh,ok,hd,nd,hr',rl,sl,k⟩:=h;refine⟨_,(zF (zO (xE (pv 0) T.cls Qa hr.m yJ (zA (jA (zA pe_str (zA (zZ xT (by rfl) T.tuple ZZ (zA (Nt (K:=K) rfl hr.units (by rfl) T.sorted PyProof.Rows.boot_sorted (pv 1)) zD)) zD))) zD)))),?_⟩;obtain⟨ix,i1,i2,i3,hix⟩:=jZ sh;have oks:∀r∈Do,z9 r.1=true/\Ok 1000 r.2:=fun r m=>by
   obtain⟨e,he,en⟩:=QZ.mp (Ol (hr' r m).2);exact⟨(hr' r m).1,by rw[←en];exact ok.nm he⟩
  refine⟨_,rfl,a,ix,_,rfl,hix,rfl,_,rfl,d,Do,rfl,hd,by omega,fun p hp=>⟨(IR (oks p hp).1).ok,(oks p hp).2.ok⟩,fun l ss ts H2 pm so sm nl hl dt=>?_⟩;have es:=NL nd pm so;subst es;refine⟨l,_,rfl,.inl ⟨SqL.of hl,fun p2 n2=>?_⟩⟩;have v2:=zC (o:=.tup ts) n2;refine⟨VP 2,fun p4 n4=>?_⟩;have v4:=zC (o:=.tup [V.str "tree",V.ref p2]) n4;have sall:=(sm.trans v2).trans v4;have d0:Dt K (upd (upd H2 p2 (.tup ts)) p4 (.tup [V.str "tree",V.ref p2])) (Th.tree (V2 Do)).dat (.ref p4):=⟨p4,_,rfl,SqT.of zB,_,_,rfl,rfl,_,_,rfl,⟨p2,ts,rfl,SqT.of (v4 _ _ zB),DtAll.same (v2.trans v4) _ _ dt⟩,rfl⟩;have ms:∀{r},r∈V2 Do↔r∈Do:=(yF Do).mem_iff;have g:vB (.tree (V2 Do)):=Kv (fun r m=>oks r (ms.mp m)) (O3 (CV nd)) (by rwa[(yF Do).length_eq]);have nok:namesOk S (.tree (V2 Do))=true:=Zu.mpr fun r m=>(hr' r (ms.mp m)).2;delta Bo;dsimp only;show Ub P w K aC aN aT [V.ref a,V.ref p4] (upd (upd H2 p2 (.tup ts)) p4 (.tup [V.str "tree",V.ref p2])) _ _;exact Gn (sh.same sall) ok g nok sl d0 fun H5 of5 sh5=>k H5 (fun b o nb e=>of5 b o nb (sall _ _ e)) sh5
end AH
end
end An28
namespace An
open PySem L2
theorem Pf (fs:Dk)(i:Nat):wt (fs.take i)<=wt fs:=by
 have:=F9 (fs.take i) (fs.drop i);rw[Y4]at this;omega
theorem M9 {fs:Dk}{i:Nat}{v:Str×Da}(h:v∈A5 (fs.take i)):v∈A5 fs:=by
 obtain⟨a,ls⟩:=v;exact mem_lvs.mpr (ZU (mem_lvs.mp h))
theorem Sh (ok:OkS S)(g:GoodF n fs)(hs:S.length+1+wt fs<=2000)(i:Nat) :
  OkS ((A5 (fs.take i)).foldl AY (S,[])).1/\((A5 (fs.take i)).foldl AY (S,[])).1.length<2000/\((A5 (fs.take i)).foldl AY (S,[])).2.map (·.1)=(A5 (fs.take i)).map (·.1):=by
 have hm:=many (fs.take i);have hw:=Pf fs i;obtain⟨a1,a2⟩:=Xd (d:=0) (A5 (fs.take i)) (Fo.nil ok) (fun v hv=>(g.lab _ (mem_lvs.mp (M9 hv))).2.2.2) (by omega);refine⟨a1.ok,by omega,?_⟩;rw[a1.lab,VH,Zv];rfl
theorem Ph {d:Nat}(ok:OkS S)(g:GoodF (d+1) fs)(hl:fs.length<=63)(hs:S.length+1+wt fs<=2000)(ls rest:Da)(e:ls++rest=A6 fs) :
  Fo (d+1) S (ls.foldl (A1 d fs) ((A5 fs).foldl AY (S,[]))).1 (ls.foldl (A1 d fs) ((A5 fs).foldl AY (S,[]))).2 ((A5 fs).map (fun v=>(v.1,[(([],v.2):Fi)]))++ls.map fun l=>(l,sub fs l)) /\
  (ls.foldl (A1 d fs) ((A5 fs).foldl AY (S,[]))).1.length+(rest.map fun l=>1+wt (sub fs l)).sum<=S.length+wt fs:=by
 have hm:=many fs;rw[←e,Q6,VG]at hm;obtain⟨a1,a2⟩:=Xd (d:=d) (A5 fs) (Fo.nil ok) (fun v hv=>(g.lab _ (mem_lvs.mp hv)).2.2.2) (by omega);rw[VH]at a1;have H:∀l∈ls,∀S,OkS S->S.length+1+wt (sub fs l)<=2000->PutOk (d+1) S (sub fs l) (VN d S (sub fs l))/\(VN d S (sub fs l)).1.length<=S.length+1+wt (sub fs l):=fun l hl' S' ok' hs'=>by
  cases d with
  |zero =>
   obtain⟨f,hf,b,r,ef⟩:=((yV fs).2 l).mp (by rw[←e];exact ZC _ hl');have:=(g.lab f hf).2.1;rw[ef,Zd,Zd]at this;omega
  |succ d=>exact vK d ok' (g.sub l) (ZD sub_len hl) hs'
 obtain⟨b1,b2⟩:=Ft ls H (S:=((A5 fs).foldl AY (S,[])).1) (Do:=((A5 fs).foldl AY (S,[])).2) a1 (by omega);refine⟨b1,?_⟩;have b2:(ls.foldl (A1 d fs) ((A5 fs).foldl AY (S,[]))).1.length<=_:=b2;omega
theorem S4 {d:Nat}(ok:OkS S)(g:GoodF (d+1) fs)(hl:fs.length<=63)(hs:S.length+1+wt fs<=2000){j:Nat}{l:Str}(hj:(A6 fs)[j]?=some l) :
  OkS (((A6 fs).take j).foldl (A1 d fs) ((A5 fs).foldl AY (S,[]))).1/\(((A6 fs).take j).foldl (A1 d fs) ((A5 fs).foldl AY (S,[]))).1.length+1+wt (sub fs l)<=2000 /\
  (((A6 fs).take j).foldl (A1 d fs) ((A5 fs).foldl AY (S,[]))).2.map (·.1)=(A5 fs).map (·.1)++(A6 fs).take j:=by
 obtain⟨h1,h2⟩:=Ph ok g hl hs ((A6 fs).take j) ((A6 fs).drop j) (Y4 _ _);have hd:(A6 fs).drop j=l::(A6 fs).drop (j+1):=by
  have:=(Zl.mp hj);rw[←this.2];exact List.drop_eq_getElem_cons this.1
 rw[hd,Zn,YG]at h2;refine⟨h1.ok,by omega,?_⟩;rw[h1.lab,Q6,Zv,Zv]
 congr 1
 exact Vc _
theorem Mz {d:Nat}(ok:OkS S)(g:GoodF (d+1) fs)(hl:fs.length<=63)(hs:S.length+1+wt fs<=2000){q:List En×Dg}(e:q=(A6 fs).foldl (A1 d fs) ((A5 fs).foldl AY (S,[]))) :
  OkS q.1/\q.1.length<2000/\(q.2.map (·.1)).Nodup/\(∀r∈q.2,z9 r.1=true/\∃e,Tree e q.1 r.2)/\q.2.length<=63:=by
 subst e;obtain⟨h1,h2⟩:=Ph ok g hl hs (A6 fs) [] (Zy _);have h1:Fo (d+1) S _ _ (pieces fs):=h1;have h2:_+0<=S.length+wt fs:=h2;have pl:=qM fs;refine⟨h1.ok,by omega,by rw[h1.lab];exact UD g,fun r hr=>?_,?_⟩
 ·obtain⟨i,hi⟩:=Z7.mp hr;have il:=(Zl.mp hi).1;have hp:=Q5 (l:=pieces fs) (i:=i) (by rwa[←h1.len]);have e:=congrArg (fun l=>l[i]?) h1.lab;simp only[Za,hi,hp,Yl]at e;exact⟨by rw[Option.some.inj e];exact(IY g _ (ZV _)).1,d+1,(h1.rd i r _ hi hp).1⟩
 ·rw[h1.len];unfold pieces;rw[Q4,QU,QU];omega
theorem Nz (l:Str):A4 [l]=l:=cs_inj (HE l)
theorem OV (l b:Str)(r:Da):A4 (l::b::r)=l++⟨#[47]⟩++A4 (b::r):=cs_inj (by
 rw[Ij l (Yv _ _),cs_append,cs_append];show _=cs l++[47]++_;simp)
theorem Rn (l b:Str)(r:Da):l≠A4 (l::b::r):=fun z=>by
 have:=congrArg (fun x=>(cs x).length) z;simp only[Ij l (Yv b r),Q4,Zd]at this;omega
theorem GL:∀{p:Da},(∀l∈p,z9 l=true)->(cs (A4 p)).length<=9*p.length
 |[],_=>by
  show(cs (Lj "/" [])).length<=0;rw[qW];exact Q2 _
 |[l],h=>by
  have:=h l (QV.mpr rfl);rw[HE];unfold z9 at this;rw[Q8,Q8,ZP,ZP,length_cs]at this;show _<=9;omega
 |l::b::r,h=>by
  have h1:=h l (Q1 ..);have ih:=GL (p:=b::r) fun x hx=>h x (QY _ hx);rw[Ij l (Yv _ _),Q4,Zd];unfold z9 at h1;rw[Q8,Q8,ZP,ZP,length_cs]at h1;rw[Zd]at ih ⊢;rw[Zd];omega
theorem O8 (g:GoodF n fs){i:Nat}{f:Fi}{l b:Str}{r:Da}(hf:fs[i]?=some f)(e:f.1=l::b::r):(.inr (A4 (b::r)):Key)∉(sub (fs.take i) l).map fun k=>(.inr (A4 k.1):Key):=fun z=>by
 obtain⟨k,hk,q⟩:=QZ.mp z;have q:A4 k.1=A4 (b::r):=Sum.inr.inj q;obtain⟨k0,hk⟩:=mem_sub.mp hk;have lk:=(g.lab _ (ZU hk)).2.2.1;have lf:=(g.lab _ (Zc hf)).2.2.1;have q:=GQ (d:=0) k0 (Yv _ _) (fun x hx=>lk x (QY _ hx)) (fun x hx=>lf x (by rw[e];exact QY _ hx)) q;obtain⟨j,hj⟩:=Z7.mp hk;rw[List.getElem?_take]at hj
 split at hj
 ·rename_i ji;have h1:(fs.map (·.1))[j]?=some f.1:=by rw[Za,hj];show some (l::k.1)=_;rw[q,e]
  have h2:(fs.map (·.1))[i]?=some f.1:=by rw[Za,hf];rfl
  obtain⟨a1,a2⟩:=Zl.mp h1;obtain⟨c1,c2⟩:=Zl.mp h2;have:=(YV g.nd).mp (a2.trans c2.symm);omega
 ·cases hj
end An
namespace L2
open PySem PySem.Spec PyProof.Rows
theorem CG (x:Str)(c:Nat)(t u:Tok)(ho:EX x ⟨#[c]⟩ 0 x.length 1=[]):Meets (Builtin.«str.partition» ⟨[.str x t,.str ⟨#[c]⟩ u],[]⟩)
  (fun _ R s=>R (.ok (.ret (.ref s.heap.objs.size))) { s with heap:=s.heap.push { cls:=.type "tuple",data:=.seq #[.str x t,.str L7 s.toks,.str L7 s.toks] },toks:=s.toks+1 }) :=
 .of_wp fun prog w A R s h=>by
  obtain⟨raising,e⟩:=partition_tree x ⟨#[c]⟩ t u;rw[e,Zh (show¬((⟨#[c]⟩:Str).length==0)=true from(by show¬(1==0)=true;decide)),ho];refine QW (J4 ?_);refine QW (wpAny_mkStr ?_ (Zz _));refine QW (wpAny_newTuple ?_ (by show 3<=sizeLine;decide));exact Q3 ⟨_,rfl,h⟩
section
variable {X:Cx}
def NC:V->Dj->Hp->VK->Prop:=fun x vs H Q=>∃(u:Str) (c:Nat),x=.str u/\vs=[.str ⟨#[c]⟩]/\c∉An.cs u/\∀p,H p=none->Q (.ref p) (upd H p (.tup [.str u,.str "",.str ""]))
def Rq:V->Dj->Hp->VK->Prop:=fun x vs H Q=>Po x vs H Q\/NC x vs H Q
theorem IF:N9 X "str.partition" NC:=by
 intro Dp s σ H x xs v us Q I rx rs h;obtain⟨a,c,rfl,rfl,hc,q⟩:=h;obtain⟨t,rfl⟩:=rx;obtain⟨w,rfl,t',rfl⟩:=vals1 rs;have hi:EX a ⟨#[c]⟩ 0 a.length 1=[]:=by
  rcases StrLaws.occ_head_from a ⟨#[c]⟩ 0 1 (Q2 1) with⟨h0,hn⟩|⟨k,r,h0,hlo,hk,hn⟩
  ·exact h0
  ·have hm:=(L4 _ c k).mp hk;have hm:(An.cs a)[k]?=some c:=hm;exact absurd (Zc hm) hc
 refine Jo F.slot_str_partition (J3 s _ t) F.entry_str_partition (F.args_str_partition_2 _ _) (CG _ c t t' hi) ?_;have hn:H s.heap.objs.size=none:=I.hok.fresh (Q2 _);refine⟨.ref s.heap.objs.size,_,I.laid (t':=s.toks+1) (a:=s.heap.objs.size) (o:=.tup [.str a,.str "",.str ""]) (fun _ _ q=>Q0 _ q) (Q2 _) ?_,rfl,q _ hn⟩;exact⟨by show 3<=sizeLine;decide,_,.cons ⟨_,rfl⟩ (.cons ⟨_,rfl⟩ (.cons ⟨_,rfl⟩ .nil)),⟨_,Ze _ rfl,rfl,_,rfl,rfl⟩⟩
theorem Iy:N9 X "str.partition" Rq:=by
 intro Dp s σ H x xs v us Q I rx rs h
 rcases h with h|h
 ·exact uO Dp s σ H x xs v us Q I rx rs h
 ·exact IF Dp s σ H x xs v us Q I rx rs h
end
end L2
namespace An28
open PySem L2 An
seal L2.PS L2.PSs L2.PE L2.PT L2.PW L2.PA L2.PG L2.PGs L2.PI L2.PFi L2.PC
def Is (P:Ei)(w:Eo)(K:AZ)(C:Eh):Nat->Sp
 | 0=>fun _ _ _ _=>False
 |d+1=>fun vs H Q _=>∃(a c:Eh) (fp:Dd) (S:Di) (fs:Dk) (Dm:Dl),vs=[.ref a,.ref c]/\ShAt P w K C H a fp S/\OkS S/\H c=some (.dK Dm)/\c∉fp/\FsAt K H fs Dm/\GoodF (d+1) fs/\fs.length<=63/\S.length+1+wt fs<=2000 /\
  ∀H',Off fp H H'->ShAt P w K C H' a fp (VN (d+1) S fs).1->Q (.str (VN (d+1) S fs).2) H'
theorem take_snoc {α:Type}{l:List α}{i:Nat}{x:α}(h:l[i]?=some x):l.take (i+1)=l.take i++[x]:=by rw[Z4,h];rfl
section
variable {P:Ei}{w:Eo}{K:AZ}{mg:Str->Dc}{base:EC}{t1 t2 t3 t4 t5 t6 t7:Tok}{aL aC aN aT aA b1 b2 b3 fI:Eh}
namespace AI
abbrev st:Stmt:=top 52
theorem sc:FnScope ["shelf","files","rows","folders","path","lines","parts","label","beneath"] ["shelf","files"] (zH st):=Ca
theorem step {L d:Nat}(F:Fun K "put_files" "put_files" st f fd)(T:Txt P w K mg t1 t2 t3 t4 t5 t6 t7 aL aC aN aT aA b1 b2 b3 fI)(Qa:MetX P w K mg base aC 7 "put" ["self","thing"] (Ub P w K aC aN aT))(Qd:Cal P w K mg base 8 "put_rows" ["shelf","rows"] (UL P w K aC))(hL:8<=L)(hd:d<=100)(Qo:Cal P w K mg base L "put_files" ["shelf","files"] (Is P w K aC d)):FnOk P w K mg base A9 (L+1) f fd ["shelf","files"] (Is P w K aC (d+1)):=by
 refine F.ok sc (fun vs H Q E h=>?_) (fun cdv A outer s H vs Q E hr h=>?_)
 ·obtain⟨a,c,fp,S,fs,Dm,rfl,_⟩:=h;rfl
 ·obtain⟨a,c,fp,S,fs,Dm,rfl,sh,ok,hc,ncf,ff,gf,fl,sl,k⟩:=h;have hu:=Ho hr;refine⟨_,(zE (A8 (i:=2) sc.nd qG) (zE (A8 (i:=3) sc.nd qG) (zE (Xh (xP EM rfl (Iw (GP (pv 1))) (Bm rfl (qE (zS (i:=4) sc.nd rfl (EJ rfl)) (qE (zS (i:=5) sc.nd rfl (EJ rfl)) Xo))) (zE (A8 (i:=6) sc.nd (jY Yo PySem.F.slot_str_partition PySem.F.type_str_partition Iy (pv 4) (zA pe_str zD))) (zE (A8 (i:=7) sc.nd (z7 (ix_tup:A7 _ (VR K)) (pv 6) zI (fun _ _=>rfl))) (zF (yM (zP xN (pv 7) (pv 4) (zT _)) (zF (qH hu (pv 2) (pv 7) (xE (pv 0) T.cls Qa (hr.mono (by omega)) yJ (zA (jA (zA pe_str (zA (pv 5) zD))) zD)) rfl)) (zE (A8 (i:=8) sc.nd (XE hu (pv 3) (pv 7) qG ⟨rfl,rfl,rfl,rfl⟩)) (zE (qH hu (pv 8) (z7 (ix_tup:A7 _ (VR K)) (pv 6) zI (fun _ _=>rfl)) (pv 5) rfl) (zF (qH hu (pv 3) (pv 7) (pv 8) rfl)))))))))) (zE (Xh (xP EM rfl (Iw (GP (pv 3))) (Bm rfl (qE (zS (i:=7) sc.nd rfl (EJ rfl)) (qE (zS (i:=8) sc.nd rfl (EJ rfl)) Xo))) (zF (qH hu (pv 2) (pv 7) (zK Qo (hr.mono (by omega)) (zA (pv 0) (zA (pv 8) zD))) rfl)))) (zF (zO (zK Qd (hr.mono (by omega)) (zA (pv 0) (zA (pv 2) zD))))))))),?_⟩
  refine fun rw' nrw=>?_;have u1:=zC (o:=.dK []) nrw;refine fun fo nfo=>?_;have u2:=zC (o:=.dK []) nfo;have sb:=u1.trans u2;have hrw:upd (upd H rw' (.dK [])) fo (.dK []) rw'=some (.dK (Fg [])):=u2 _ _ zB;have hfo:upd (upd H rw' (.dK [])) fo (.dK []) fo=some (.dK (Cb [])):=zB;have shb:=sh.same sb;have hcb:=sb _ _ hc;have ffb:=ff.same sb;have nrw0:H rw'=none:=nrw;have nfo0:H fo=none:=u1.free nfo;have rf:rw'≠fo:=zM (zB (H:=H) (a:=rw') (o:=.dK [])) nfo;generalize upd (upd H rw' (.dK [])) fo (.dK [])=Hb at sb hrw hfo shb hcb ffb ⊢;have cr:c≠rw':=zM hc nrw0;have cf:c≠fo:=zM hc nfo0;refine⟨_,rfl,c,Dm,rfl,hcb,fun ob=>?_⟩;have hcz:upd Hb c (.frz ob (.dK Dm)) c=some (.frz ob (.dK Dm)):=zB;have nz:∀{b:Eh},b≠c->upd Hb c (.frz ob (.dK Dm)) b=Hb b:=fun{b} z=>zG z;have oz:Off [c] Hb (upd Hb c (.frz ob (.dK Dm))):=z6;have shz:ShAt P w K aC (upd Hb c (.frz ob (.dK Dm))) a fp S:=shb.off (yA hcb) oz fun b hb z=>ncf (QV.mp z▸hb);have ffz:=ffb.off (yA hcb) oz;have hrz:upd Hb c (.frz ob (.dK Dm)) rw'=some (.dK (Fg [])):=by rwa[nz (ED cr)]
  have hfz:upd Hb c (.frz ob (.dK Dm)) fo=some (.dK (Cb [])):=by rwa[nz (ED cf)]
  have frz0:∀{b:Eh},upd Hb c (.frz ob (.dK Dm)) b=none->Hb b=none/\b≠c:=fun{b} z=>by
   have ne:b≠c:=fun q=>by rw[q,zB]at z;cases z
   rw[nz ne]at z;exact⟨z,ne⟩
  generalize upd Hb c (.frz ob (.dK Dm))=H1 at hcz nz oz shz ffz hrz hfz frz0 ⊢;have ex1:∀b∈rw'::fo::fp,∃o,H1 b=some o:=fun b hb=>by
   rcases Q7.mp hb with z|hb
   ·rw[z];exact⟨_,hrz⟩
   ·rcases Q7.mp hb with z|hb
    ·rw[z];exact⟨_,hfz⟩
    ·exact shz.ex b hb
  have rnp:rw'∉fp:=fun z=>by
   obtain⟨o,e⟩:=sh.ex _ z;rw[nrw0]at e;cases e
  have fnp:fo∉fp:=fun z=>by
   obtain⟨o,e⟩:=sh.ex _ z;rw[nfo0]at e;cases e
  have cX:c∉rw'::fo::fp:=fun z=>by
   rcases Q7.mp z with z|z
   ·exact cr z
   ·rcases Q7.mp z with z|z
    ·exact cf z
    ·exact ncf z
  have kl:Dm.length=fs.length:=ff.len;have nt1:∀b∈rw'::fo::fp,∀xs,¬Rd H1 b (.tup xs):=fun b hb=>by
   rcases Q7.mp hb with z|hb
   ·exact yA hrz b (QV.mpr z)
   ·rcases Q7.mp hb with z|hb
    ·exact yA hfz b (QV.mpr z)
    ·exact shz.noseq.tup b hb
  refine⟨c,ob,Dm,rfl,hcz,UC (fun i σ H'=>∃o4 o5 o6 o7 o8 fa,σ=[some (.ref a),some (.ref c),some (.ref rw'),some (.ref fo),o4,o5,o6,o7,o8]/\ShAt P w K aC H' a fp ((A5 (fs.take i)).foldl AY (S,[])).1/\H' rw'=some (.dK (Fg ((A5 (fs.take i)).foldl AY (S,[])).2))/\H' fo=some (.dK (Cb fa))/\Fols K H1 H' (fs.take i) fa/\Off (rw'::fo::fp) H1 H') ⟨none,none,none,none,none,[],rfl,shz,hrz,hfz,Fols.nil,Off.refl _ _⟩ (fun i σ H' hi h=>?_) ?_ ?_⟩
  ·obtain⟨_,_,_,_,_,_,_,_,_,_,_,o⟩:=h;exact o _ _ cX hcz
  ·rintro i kk v T0 σ H' hi ⟨o4,o5,o6,o7,o8,fa,rfl,sh',hr',hf',Fl,of'⟩ nT;obtain⟨f,hfi,rfl,dv,lnok⟩:=ffz.get hi;obtain⟨ok',ll',lb'⟩:=Sh ok gf sl i;have etk:=take_snoc hfi;have glab:=gf.lab f (Zc hfi);have dv':Dt K H' (AnJ.tupS f.2) v:=Dt.off nt1 of' _ _ (uW lnok) dv;have uT:=zC (o:=.tup [kV (.inr (A4 f.1)),v]) nT;refine⟨T0,_,rfl,SqT.of zB,rfl,_,_,rfl,_,_,rfl,rfl,?_⟩;have sh2:=sh'.same uT;have hr2:=uT _ _ hr';have hf2:=uT _ _ hf';have Fl2:=Fl.same uT;have of2:=of'.trans (Off.of uT);have dv2:=Dt.same uT _ _ dv';generalize upd H' T0 (.tup [kV (.inr (A4 f.1)),v])=H2 at sh2 hr2 hf2 Fl2 of2 dv2 ⊢;clear sh' hr' hf' Fl of' dv' nT uT;have go:∀{H3:Hp},Same H2 H3->ShAt P w K aC H3 a fp ((A5 (fs.take i)).foldl AY (S,[])).1/\H3 rw'=some (.dK (Fg ((A5 (fs.take i)).foldl AY (S,[])).2))/\H3 fo=some (.dK (Cb fa))/\Fols K H1 H3 (fs.take i) fa/\Off (rw'::fo::fp) H1 H3/\Dt K H3 (AnJ.tupS f.2) v:=fun{H3} e=>⟨sh2.same e,e _ _ hr2,e _ _ hf2,Fl2.same e,of2.trans (Off.of e),Dt.same e _ _ dv2⟩;have free1:∀{H3:Hp} {b:Eh},ShAt P w K aC H3 a fp ((A5 (fs.take i)).foldl AY (S,[])).1->H3 rw'=some (.dK (Fg ((A5 (fs.take i)).foldl AY (S,[])).2))->H3 fo=some (.dK (Cb fa))->Off (rw'::fo::fp) H1 H3->H3 b=none->H1 b=none:=fun{H3 b} h1 h2 h3 o z=>by
    cases q:H1 b with
    |none=>rfl
    |some x =>
     by_cases m:b∈rw'::fo::fp
     ·rcases Q7.mp m with y|m
      ·rw[y,h2]at z;cases z
      ·rcases Q7.mp m with y|m
       ·rw[y,h3]at z;cases z
       ·obtain⟨o',e'⟩:=h1.ex b m;rw[e']at z;cases z
     ·rw[o b x m q]at z;cases z
   have ql:((A5 (fs.take i)).foldl AY (S,[])).2.length<=63:=by
    have:=congrArg List.length lb';rw[QU,QU]at this;have h2:=qM (fs.take i);rw[Zm]at h2;omega
   match e1:f.1,glab with
   |[],gl=>exact absurd rfl gl.1
   |[l],gl =>
    have ep:A4 [l]=l:=Nz l;rw[ep];have lbl:z9 l=true:=gl.2.2.1 l (QV.mpr rfl);refine⟨_,rfl,rfl,.inr ⟨l,47,rfl,O5,xX lbl,fun p np=>?_⟩⟩;have up:=zC (o:=.tup [V.str l,V.str "",V.str ""]) np;obtain⟨sh3,hr3,hf3,Fl3,of3,dv3⟩:=go up;refine⟨_,rfl,p,_,_,_,rfl,rfl,SqT.of zB,rfl,?_⟩;refine⟨_,rfl,_,rfl,rfl,true,?_,VM ?_⟩
    ·show V.bl (decide (V.str l=V.str l))=V.bl true;rw[QX rfl]
    generalize upd H2 p (.tup [V.str l,V.str "",V.str ""])=H3 at sh3 hr3 hf3 Fl3 of3 dv3 ⊢;obtain⟨ix,i1,i2,i3,hix⟩:=jZ sh3;refine⟨_,rfl,a,ix,_,rfl,hix,rfl,_,rfl,VP 2,fun p4 n4=>?_⟩;have v4:=zC (o:=.tup [V.str "leaf",v]) n4;obtain⟨vp,vxs,rfl,vt,vd⟩:=id dv3;have d0:Dt K (upd H3 p4 (.tup [V.str "leaf",V.ref vp])) (Th.leaf f.2).dat (.ref p4):=⟨p4,_,rfl,SqT.of zB,_,_,rfl,rfl,_,_,rfl,Dt.same v4 _ _ dv3,rfl⟩;have sh4:=sh3.same v4;have hr4:=v4 _ _ hr3;have hf4:=v4 _ _ hf3;have Fl4:=Fl3.same v4;have of4:=of3.trans (Off.of v4);delta Bo;dsimp only;show Ub P w K aC aN aT [V.ref a,V.ref p4] (upd H3 p4 (.tup [V.str "leaf",V.ref vp])) _ _;generalize upd H3 p4 (.tup [V.str "leaf",V.ref vp])=H4 at d0 sh4 hr4 hf4 Fl4 of4 ⊢;have el:A5 (fs.take (i+1))=A5 (fs.take i)++[(l,f.2)]:=by rw[etk,uX,e1]
    have ef:(A5 (fs.take (i+1))).foldl AY (S,[])=AY ((A5 (fs.take i)).foldl AY (S,[])) (l,f.2):=by rw[el,Z5];rfl
    have nl:l∉((A5 (fs.take i)).foldl AY (S,[])).2.map (·.1):=fun z=>by
     rw[lb']at z;have nd:=M8 (fs:=fs.take (i+1)) (by rw[Jd];exact gf.nd.sublist (List.take_sublist _ _));rw[el,Q6,Yw]at nd;exact nd.2.2 l z l (QV.mpr rfl) rfl
    have Fl':=Fl4.one (f:=f) e1;rw[←etk]at Fl';clear free1 go lb';generalize (A5 (fs.take i)).foldl AY (S,[])=q at sh4 hr4 ok' ll' ef nl ql;refine Gn sh4 ok' (kR lnok.2 lnok.1) rfl ll' d0 fun H5 of5 sh5=>?_;have hr5:H5 rw'=_:=of5 _ _ rnp hr4;have hf5:H5 fo=_:=of5 _ _ fnp hf4;have Fl5:=Fl'.off (X:=fp) (fun c hc=>ex1 c (QY _ (QY _ hc))) sh4.noseq.tup of5;have of6:Off (rw'::fo::fp) H1 H5:=fun b o nb e=>of5 b o (fun z=>nb (QY _ (QY _ z))) (of4 b o nb e);refine⟨_,rfl,_,rfl,rw',_,rfl,DPut.k (k:=.inr l) hr5 (yT (by unfold Fg;rw[QU];omega)),_,_,_,_,_,fa,rfl,?_,?_,?_,?_,?_⟩
    ·rw[ef];exact sh5.off (yA hr5) z6 fun b hb z=>rnp (QV.mp z▸hb)
    ·rw[ef,zB,HI nl];rfl
    ·rwa[zG (ED rf)]
    ·exact Fl5.off (X:=[rw']) (fun c hc=>by rw[QV.mp hc];exact⟨_,hrz⟩) (yA hr5) z6
    ·exact of6.upd (Q1 ..)
   |l::b::r,gl =>
    have ep:A4 (l::b::r)=l++⟨#[47]⟩++A4 (b::r):=OV l b r;have lbl:z9 l=true:=gl.2.2.1 l (Q1 ..);have pl:(A4 (l::b::r)).length<=100000:=by
     have:=GL gl.2.2.1;have h4:=gl.2.1;rw[length_cs];omega
    have el:A5 (fs.take (i+1))=A5 (fs.take i):=by rw[etk,uX,e1];exact Zy _
    have nin:=O8 gf hfi e1;refine⟨_,rfl,rfl,.inl ⟨l,A4 (b::r),47,by rw[ep];rfl,O5,xX lbl,by rw[←ep];exact pl,fun p np=>?_⟩⟩;have up:=zC (o:=.tup [V.str l,V.str ⟨#[47]⟩,V.str (A4 (b::r))]) np;obtain⟨sh3,hr3,hf3,Fl3,of3,dv3⟩:=go up;have hp3:upd H2 p (.tup [V.str l,V.str ⟨#[47]⟩,V.str (A4 (b::r))]) p=some (.tup [V.str l,V.str ⟨#[47]⟩,V.str (A4 (b::r))]):=zB;refine⟨_,rfl,p,_,_,_,rfl,rfl,SqT.of zB,rfl,?_⟩;refine⟨_,rfl,_,rfl,rfl,false,?_,VL ?_⟩
    ·show V.bl (decide (V.str l=V.str (A4 (l::b::r))))=V.bl false;rw[Q9 fun z=>Rn l b r (by injection z)]
    generalize upd H2 p (.tup [V.str l,V.str ⟨#[47]⟩,V.str (A4 (b::r))])=H3 at sh3 hr3 hf3 Fl3 of3 dv3 hp3 ⊢;refine⟨_,rfl,fo,rfl,.inl ⟨_,.inl hf3⟩,_,rfl,fun e ne=>?_⟩;have ue:=zC (o:=.dK []) ne;have e10:H1 e=none:=free1 sh3 hr3 hf3 of3 ne;have sh4:=sh3.same ue;have hr4:=ue _ _ hr3;have hf4:=ue _ _ hf3;have Fl4:=Fl3.same ue;have of4:=of3.trans (Off.of ue);have dv4:=Dt.same ue _ _ dv3;have hp4:=ue _ _ hp3;have he4:upd H3 e (.dK []) e=some (.dK []):=zB;have nfe:∀q∈fa,q.2≠e:=fun q hq z=>by
     obtain⟨kq,hq1,_⟩:=Fl3.at_ q hq;rw[z,ne]at hq1;cases hq1
    generalize upd H3 e (.dK [])=H4 at sh4 hr4 hf4 Fl4 of4 dv4 hp4 he4 ⊢;clear sh2 hr2 hf2 Fl2 of2 dv2 go free1 sh3 hr3 hf3 Fl3 of3 dv3 hp3 up np;have lfa:fa.map (·.1)=A6 (fs.take i):=Fl4.lab;have fal:fa.length<=63:=by
     have:=congrArg List.length lfa;rw[QU]at this;have h2:=qM (fs.take i);rw[Zm]at h2;omega
    have neX:∀{x:Eh},H1 x=none->x∉rw'::fo::fp:=fun{x} hx z=>by
     obtain⟨o',e'⟩:=ex1 x z;rw[hx]at e';cases e'
    by_cases inl:l∈A6 (fs.take i)
    ·have inf:l∈fa.map (·.1):=by rwa[lfa]
     obtain⟨pr,hpr,el2⟩:=QZ.mp inf;obtain⟨pl1,pb⟩:=pr;have el2:pl1=l:=el2;subst el2;have vv:=k9 Fl4.labs_nd hpr;refine⟨_,DGet.k (k:=.inr pl1) hf4,?_⟩;rw[vv];obtain⟨kb,hb,fb⟩:=Fl4.at_ _ hpr;have hb:H4 pb=some (.dK kb):=hb;have fb:FsAt K H4 (sub (fs.take i) pl1) kb:=fb;have nb:H1 pb=none:=Fl4.new _ hpr;have kbl:kb.length<=63:=by
      have:=fb.len;have h2:=sub_len (fs:=fs.take i) (l:=pl1);rw[Zm]at h2;omega
     refine⟨_,rfl,_,rfl,_,rfl,p,_,_,_,rfl,rfl,SqT.of hp4,rfl,pb,_,rfl,DPut.k (k:=.inr (A4 (b::r))) hb (yT (by omega)),?_⟩;have pn:putK kb (.inr (A4 (b::r))) v=kb++[(.inr (A4 (b::r)),v)]:=vE (by rwa[fb.keys]);rw[pn];have Fl5:=Fl4.old hpr hb fb e1 dv4 lnok;rw[←etk]at Fl5;have bX:=neX nb;have b_rw:rw'≠pb:=fun z=>bX (by rw[←z];exact Q1 ..);have b_fo:fo≠pb:=fun z=>bX (by rw[←z];exact QY _ (Q1 ..));have b_fp:pb∉fp:=fun z=>bX (QY _ (QY _ z));have of5:Off (rw'::fo::fp) H1 (upd H4 pb (.dK (kb++[((.inr (A4 (b::r)):Key),v)]))):=fun x o nx ex=>by
      rw[zG (fun z=>by rw[z,nb]at ex;cases ex)];exact of4 x o nx ex
     have sh5:=sh4.off (yA hb) (z6 (o:=.dK (kb++[((.inr (A4 (b::r)):Key),v)]))) fun x hx z=>b_fp (by rwa[←QV.mp z]);have hr5:=(zG (o:=.dK (kb++[((.inr (A4 (b::r)):Key),v)])) b_rw).trans hr4;have hf5:=(zG (o:=.dK (kb++[((.inr (A4 (b::r)):Key),v)])) b_fo).trans hf4;generalize upd H4 pb (.dK (kb++[((.inr (A4 (b::r)):Key),v)]))=H5 at Fl5 of5 sh5 hr5 hf5 ⊢;refine⟨_,rfl,_,rfl,_,rfl,fo,_,rfl,DPut.k (k:=.inr pl1) hf5 (yT (by unfold Cb;rw[QU];omega)),_,_,_,_,_,fa,rfl,?_,?_,?_,?_,?_⟩
     ·rw[el];exact sh5.off (yA hf5) z6 fun x hx z=>fnp (QV.mp z▸hx)
     ·rwa[el,zG rf]
     ·rw[zB];exact congrArg (fun z=>some (HO.dK z)) (Cs Fl4.labs_nd hpr)
     ·exact Fl5.off (X:=[fo]) (fun c hc=>by rw[QV.mp hc];exact⟨_,hfz⟩) (yA hf5) z6
     ·exact of5.upd (QY _ (Q1 ..))
    ·have inf:l∉fa.map (·.1):=by rwa[lfa]
     have vv:=MA inf;refine⟨_,DGet.k (k:=.inr l) hf4,?_⟩;rw[vv];refine⟨_,rfl,_,rfl,_,rfl,p,_,_,_,rfl,rfl,SqT.of hp4,rfl,e,_,rfl,DPut.k (k:=.inr (A4 (b::r))) he4 (yT (by show 0<16777216;decide)),?_⟩;have bX:=neX e10;have b_rw:rw'≠e:=fun z=>bX (by rw[←z];exact Q1 ..);have b_fo:fo≠e:=fun z=>bX (by rw[←z];exact QY _ (Q1 ..));have b_fp:e∉fp:=fun z=>bX (QY _ (QY _ z));have pn:putK ([]:Dl) (.inr (A4 (b::r))) v=[(.inr (A4 (b::r)),v)]:=rfl;rw[pn];have Fl5:=Fl4.fresh' inl he4 e10 nfe e1 dv4 lnok;rw[←etk]at Fl5;have of5:Off (rw'::fo::fp) H1 (upd H4 e (.dK [((.inr (A4 (b::r)):Key),v)])):=fun x o nx ex=>by
      rw[zG (fun z=>by rw[z,e10]at ex;cases ex)];exact of4 x o nx ex
     have sh5:=sh4.off (yA he4) (z6 (o:=.dK [((.inr (A4 (b::r)):Key),v)])) fun x hx z=>b_fp (by rwa[←QV.mp z]);have hr5:=(zG (o:=.dK [((.inr (A4 (b::r)):Key),v)]) b_rw).trans hr4;have hf5:=(zG (o:=.dK [((.inr (A4 (b::r)):Key),v)]) b_fo).trans hf4;generalize upd H4 e (.dK [((.inr (A4 (b::r)):Key),v)])=H5 at Fl5 of5 sh5 hr5 hf5 ⊢;refine⟨_,rfl,_,rfl,_,rfl,fo,_,rfl,DPut.k (k:=.inr l) hf5 (yT (by unfold Cb;rw[QU];omega)),_,_,_,_,_,fa++[(l,e)],rfl,?_,?_,?_,?_,?_⟩
     ·rw[el];exact sh5.off (yA hf5) z6 fun x hx z=>fnp (QV.mp z▸hx)
     ·rwa[el,zG rf]
     ·rw[zB];exact congrArg (fun z=>some (HO.dK z)) (BJ inf)
     ·exact Fl5.off (X:=[fo]) (fun c hc=>by rw[QV.mp hc];exact⟨_,hfz⟩) (yA hf5) z6
     ·exact of5.upd (QY _ (Q1 ..))
  ·rintro σ H' ⟨o4,o5,o6,o7,o8,fa,rfl,sh',hr',hf',Fl,of'⟩;rw[kl,Zq]at sh' hr' Fl;refine⟨c,ob,Dm,of' _ _ cX hcz,fun o u z=>?_,?_⟩
   ·have z:H c=some (.frz o u):=z;rw[hc]at z;cases z
   have hc2:=of' _ _ cX hcz;have frn:∀x∈[c],∀xs,¬Rd H' x (.tup xs):=fun x hx xs z=>by
    rw[QV.mp hx]at z
    rcases z with z|⟨o,z⟩<;>rw[hc2]at z<;>cases z
   have oc:Off [c] H' (upd H' c (.dK Dm)):=z6;have sh2:ShAt P w K aC (upd H' c (.dK Dm)) a fp ((A5 fs).foldl AY (S,[])).1:=sh'.off frn oc fun x hx z=>ncf (QV.mp z▸hx);have hr2:upd H' c (.dK Dm) rw'=some (.dK (Fg ((A5 fs).foldl AY (S,[])).2)):=by rwa[zG (ED cr)]
   have hf2:upd H' c (.dK Dm) fo=some (.dK (Cb fa)):=by rwa[zG (ED cf)]
   have Fl2:Fols K H1 (upd H' c (.dK Dm)) fs fa:=Fl.off (X:=[c]) (fun x hx=>by rw[QV.mp hx];exact⟨_,hcz⟩) frn oc;have of2:Off fp H (upd H' c (.dK Dm)):=fun x o nx ex=>by
    by_cases z:x=c
    ·rw[z,zB];rw[z,hc]at ex;exact ex
    ·rw[zG z];refine of' x o (fun q=>?_) (by rw[nz z];exact sb _ _ ex)
     rcases Q7.mp q with q|q
     ·rw[q,nrw0]at ex;cases ex
     ·rcases Q7.mp q with q|q
      ·rw[q,nfo0]at ex;cases ex
      ·exact nx q
   generalize upd H' c (.dK Dm)=H2 at sh2 hr2 hf2 Fl2 of2 ⊢;clear sh' hr' hf' Fl of' hc2 frn oc;refine⟨_,rfl,fo,Cb fa,rfl,hf2,fun ob2=>?_⟩;have of3:Off [fo] H2 (upd H2 fo (.frz ob2 (.dK (Cb fa)))):=z6;have hf3:upd H2 fo (.frz ob2 (.dK (Cb fa))) fo=some (.frz ob2 (.dK (Cb fa))):=zB;have sh3:ShAt P w K aC (upd H2 fo (.frz ob2 (.dK (Cb fa)))) a fp ((A5 fs).foldl AY (S,[])).1:=sh2.off (yA hf2) of3 fun x hx z=>fnp (QV.mp z▸hx);have hr3:upd H2 fo (.frz ob2 (.dK (Cb fa))) rw'=some (.dK (Fg ((A5 fs).foldl AY (S,[])).2)):=by rwa[zG rf]
   have Fl3:Fols K H1 (upd H2 fo (.frz ob2 (.dK (Cb fa)))) fs fa:=Fl2.off (X:=[fo]) (fun x hx=>by rw[QV.mp hx];exact⟨_,hfz⟩) (yA hf2) of3;have of4:Off fp H (upd H2 fo (.frz ob2 (.dK (Cb fa)))):=fun x o nx ex=>by
    rw[zG (fun z=>by rw[z,nfo0]at ex;cases ex)];exact of2 x o nx ex
   generalize upd H2 fo (.frz ob2 (.dK (Cb fa)))=H3 at of3 hf3 sh3 hr3 Fl3 of4 ⊢;have fal:fa.map (·.1)=A6 fs:=Fl3.lab;have falen:(Cb fa).length=(A6 fs).length:=by rw[←fal,QU];unfold Cb;rw[QU]
   have f60:(A5 fs).length+(A6 fs).length<=63:=by have:=qM fs;omega
   refine⟨fo,ob2,Cb fa,rfl,hf3,UC (fun j σ H'=>∃o4 o5 o6 o7 o8,σ=[some (.ref a),some (.ref c),some (.ref rw'),some (.ref fo),o4,o5,o6,o7,o8]/\ShAt P w K aC H' a fp (((A6 fs).take j).foldl (A1 d fs) ((A5 fs).foldl AY (S,[]))).1/\H' rw'=some (.dK (Fg (((A6 fs).take j).foldl (A1 d fs) ((A5 fs).foldl AY (S,[]))).2))/\H' fo=some (.frz ob2 (.dK (Cb fa)))/\Fols K H1 H' fs fa/\Off fp H H') ⟨o4,o5,o6,o7,o8,rfl,sh3,hr3,hf3,Fl3,of4⟩ (fun j σ H' hj h=>?_) ?_ ?_⟩
   ·obtain⟨_,_,_,_,_,_,_,_,hf,_⟩:=h;exact hf
   ·clear sh3 hr3 hf3 Fl3 of4 sh2 hr2 hf2 Fl2 of2;rintro j kk v T0 σ H' hj ⟨o4,o5,o6,o7,o8,rfl,sh',hr',hf',Fl,of'⟩ nT;unfold Cb at hj;rw[Za]at hj;obtain⟨pr,hj2,hj⟩:=ZB.mp hj;obtain⟨l,b⟩:=pr;have hj:((.inr l:Key),V.ref b)=(kk,v):=hj;cases hj;have hpr:=Zc hj2;have hjl:(A6 fs)[j]?=some l:=by rw[←fal,Za,hj2];rfl
    obtain⟨ok',ll',lb'⟩:=S4 ok gf fl sl hjl;have uT:=zC (o:=.tup [V.str l,V.ref b]) nT;refine⟨T0,_,rfl,SqT.of zB,rfl,_,_,rfl,_,_,rfl,rfl,?_⟩;have sh5:=sh'.same uT;have hr5:=uT _ _ hr';have hf5:=uT _ _ hf';have Fl5:=Fl.same uT;have of5:=of'.trans (Off.of uT);show Ps _ _ _ _ _ (upd H' T0 (.tup [V.str l,V.ref b]));generalize upd H' T0 (.tup [V.str l,V.ref b])=H5 at sh5 hr5 hf5 Fl5 of5 ⊢;clear sh' hr' hf' Fl of' uT nT;obtain⟨kb,hb,fb⟩:=Fl5.at_ _ hpr;have hb:H5 b=some (.dK kb):=hb;have fb:FsAt K H5 (sub fs l) kb:=fb;have nb:H1 b=none:=Fl5.new _ hpr;have bfp:b∉fp:=fun z=>by
     obtain⟨o',e'⟩:=shz.ex b z;rw[nb]at e';cases e'
    cases d with
    |zero =>
     obtain⟨f,hf,b,r,ef⟩:=((yV fs).2 l).mp (Zc hjl);have:=(gf.lab f hf).2.1;rw[ef,Zd,Zd]at this;omega
    |succ d =>
     have el:(A6 fs).take (j+1)=(A6 fs).take j++[l]:=take_snoc hjl;have ef:((A6 fs).take (j+1)).foldl (A1 (d+1) fs) ((A5 fs).foldl AY (S,[]))=A1 (d+1) fs (((A6 fs).take j).foldl (A1 (d+1) fs) ((A5 fs).foldl AY (S,[]))) l:=by rw[el,Z5];rfl
     have nl:l∉(((A6 fs).take j).foldl (A1 (d+1) fs) ((A5 fs).foldl AY (S,[]))).2.map (·.1):=fun z=>by
      rw[lb']at z;have nd:=UD gf;have e0:(pieces fs).map (·.1)=(A5 fs).map (·.1)++A6 fs:=by
       unfold pieces;rw[Q6,Zv,Zv]
       congr 1
       exact Vc _
      rw[e0,←Y4 j (A6 fs),←Z6,Yw]at nd;have hd:(A6 fs).drop j=l::(A6 fs).drop (j+1):=by
       have:=(Zl.mp hjl);rw[←this.2];exact List.drop_eq_getElem_cons this.1
      exact nd.2.2 l z l (by rw[hd];exact Q1 ..) rfl
     have ql:(((A6 fs).take j).foldl (A1 (d+1) fs) ((A5 fs).foldl AY (S,[]))).2.length<=63:=by
      have:=congrArg List.length lb';rw[QU,Q4,QU,Zm]at this;omega
     generalize ((A6 fs).take j).foldl (A1 (d+1) fs) ((A5 fs).foldl AY (S,[]))=q at sh5 hr5 ok' ll' ef nl ql;refine⟨_,rfl,_,rfl,a,b,fp,q.1,sub fs l,kb,rfl,sh5,ok',hb,bfp,fb,gf.sub l,ZD sub_len fl,ll',fun H6 of6 sh6=>?_⟩;have hr6:H6 rw'=_:=of6 _ _ rnp hr5;have hf6:H6 fo=_:=of6 _ _ fnp hf5;have Fl6:=Fl5.off (X:=fp) (fun c hc=>shz.ex c hc) sh5.noseq.tup of6;refine⟨_,rfl,_,rfl,rw',_,rfl,DPut.k (k:=.inr l) hr6 (yT (by unfold Fg;rw[QU];omega)),_,_,_,_,_,rfl,?_,?_,?_,?_,?_⟩
     ·rw[ef];exact sh6.off (yA hr6) z6 fun x hx z=>rnp (QV.mp z▸hx)
     ·rw[ef,zB,HI nl];rfl
     ·rwa[zG (ED rf)]
     ·exact Fl6.off (X:=[rw']) (fun c hc=>by rw[QV.mp hc];exact⟨_,hrz⟩) (yA hr6) z6
     ·intro x o nx ex;rw[zG (fun z=>by rw[z,nrw0]at ex;cases ex)];exact of6 x o nx (of5 x o nx ex)
   ·rintro σ H' ⟨o4,o5,o6,o7,o8,rfl,sh',hr',hf',Fl,of'⟩;rw[falen,Zq]at sh' hr';refine⟨fo,ob2,Cb fa,hf',fun o u z=>?_,?_⟩
    ·have z:H fo=some (.frz o u):=z;rw[nfo0]at z;cases z
    have frn:∀x∈[fo],∀xs,¬Rd H' x (.tup xs):=fun x hx xs z=>by
     rw[QV.mp hx]at z
     rcases z with z|⟨o,z⟩<;>rw[hf']at z<;>cases z
    have sh6:=sh'.off frn (z6 (o:=.dK (Cb fa))) fun x hx z=>fnp (QV.mp z▸hx);have hr6:=(zG (o:=.dK (Cb fa)) rf).trans hr';have of6:Off fp H (upd H' fo (.dK (Cb fa))):=fun x o nx ex=>by
     rw[zG (fun z=>by rw[z,nfo0]at ex;cases ex)];exact of' x o nx ex
    have fe:=Mz ok gf fl sl (q:=(A6 fs).foldl (A1 d fs) ((A5 fs).foldl AY (S,[]))) rfl;have pf:=uJ d S fs;rw[pf]at k;generalize (A6 fs).foldl (A1 d fs) ((A5 fs).foldl AY (S,[]))=q at sh6 hr6 fe k;obtain⟨g1,g2,g3,g4,g5⟩:=fe;exact⟨_,rfl,_,rfl,a,rw',fp,q.1,q.2,rfl,sh6,g1,.inl hr6,g3,fun r hr=>⟨(g4 r hr).1,let ⟨e,te⟩:=(g4 r hr).2;On te⟩,g5,g2,fun H7 of7 sh7=>k H7 (of6.trans of7) sh7⟩
end AI
theorem MC (g:GoodF n fs){f:Fi}(hf:f∈fs){z:Str}(hz:z∈Kp (A4 f.1)):∀k∈fs,z≠A4 k.1:=fun k hk e=>by
 obtain⟨f0,_,fl,_⟩:=g.lab f hf;obtain⟨k0,_,kl,_⟩:=g.lab k hk;have lf:VV (A4 f.1)=f.1:=kM f0 fun y hy=>xX (fl y hy);unfold Kp at hz;obtain⟨i,hi,ez⟩:=QZ.mp hz;rw[lf]at hi ez;have hi:=JM.mp hi;have ez:A4 (f.1.take (i+1))=z:=ez;have t0:f.1.take (i+1)≠[]:=by
  intro q;have:=congrArg List.length q;rw[Zm,YN]at this;omega
 have:=GQ (d:=0) t0 k0 (fun y hy=>fl y (ZU hy)) kl (ez.trans e);have e2:f.1=k.1++f.1.drop (i+1):=by rw[←this,Y4]
 have:=congrArg List.length (g.pre k hk f hf _ e2);rw[Z9,YN]at this;omega
theorem Gu {f:Fi}{n:Nat}(n4:n<=4){fs:Dk}(g:GoodF n fs)(hf:f∈fs):CL (.str (A4 f.1))=true/\vA (AnJ.tupS f.2)=true/\small (.str (A4 f.1))=true/\small (AnJ.tupS f.2)=true:=by
 obtain⟨f0,f1,fl,fn⟩:=g.lab f hf;refine⟨KP f0 (by omega) fl,?_,?_,?_⟩
 ·show(f.2.map EL).all Uq=true;rw[List.all_map,Zu];exact fn.2
 ·refine QX ?_;have:=GL fl;rw[length_cs];omega
 ·show(decide ((f.2.map EL).length<=1000)&&yE (f.2.map .str))=true;rw[jR fun l hl=>(kY (fn.2 l hl)).len,QU,QX (show f.2.length<=1000 by have:=fn.1;omega)];rfl
def HR (K:AZ):Sp:=fun vs H Q _=>∃(c:Eh) (Dm:Dl) (fs:Dk),vs=[.ref c]/\H c=some (.dK Dm)/\FsAt K H fs Dm/\GoodF 4 fs/\fs.length<=63/\∀H',Same H H'->Q .non H'
def NQ (P:Ei)(w:Eo)(K:AZ)(C:Eh):Sp:=fun vs H Q _=>∃(a c:Eh) (fp:Dd) (S:Di) (fs:Dk) (Dm:Dl),vs=[.ref a,.ref c]/\ShAt P w K C H a fp S/\OkS S/\H c=some (.dK Dm)/\c∉fp/\FsAt K H fs Dm/\GoodF 4 fs/\fs.length<=63/\S.length+1+wt fs<=2000 /\
 ∀H',Off fp H H'->ShAt P w K C H' a fp (VN 4 S fs).1->Q (.str (VN 4 S fs).2) H'
theorem Cu {H:Hp}{c:Eh}{ob:Obj}{Dm:Dl}(hc:H c=some (.dK Dm))(e:Same (upd H c (.frz ob (.dK Dm))) H2):Same H (upd H2 c (.dK Dm)):=fun b o h=>by
 by_cases z:b=c
 ·rw[z,zB];rw[z,hc]at h;exact h
 ·rw[zG z];exact e _ _ (by rwa[zG z])
namespace AI
theorem ok0 (F:Fun K "put_files" "put_files" st f fd):FnOk P w K mg base A9 8 f fd ["shelf","files"] (Is P w K aC 0) :=
 F.ok sc (fun vs H Q E h=>EH h) (fun cdv A outer s H vs Q E hr h=>EH h)
theorem ok (F:Fun K "put_files" "put_files" st f fd)(T:Txt P w K mg t1 t2 t3 t4 t5 t6 t7 aL aC aN aT aA b1 b2 b3 fI)(Qa:MetX P w K mg base aC 7 "put" ["self","thing"] (Ub P w K aC aN aT))(Qd:Cal P w K mg base 8 "put_rows" ["shelf","rows"] (UL P w K aC))(Hm:mg "put_files"=some (.ref f))(Hb:Binds K fd ["shelf","files"] []):FnOk P w K mg base A9 12 f fd ["shelf","files"] (Is P w K aC 4):=by
 have c0:=Cal.mk' F (ok0 (P:=P) (w:=w) (mg:=mg) (base:=base) (aC:=aC) F) Hm Hb;have c1:=Cal.mk' F (step F T Qa Qd (by decide) (by decide) c0) Hm Hb;have c2:=Cal.mk' F (step F T Qa Qd (by decide) (by decide) c1) Hm Hb;have c3:=Cal.mk' F (step F T Qa Qd (by decide) (by decide) c2) Hm Hb;exact step F T Qa Qd (by decide) (by decide) c3
end AI
namespace AJ
abbrev st:Stmt:=top 48
theorem sc:FnScope ["files","path","lines"] ["files"] (zH st):=Ca
theorem ok (F:Fun K "need_files" "need_files" st f fd)(T:Txt P w K mg t1 t2 t3 t4 t5 t6 t7 aL aC aN aT aA b1 b2 b3 fI)(QJ:Cal P w K mg base 4 "is_file" ["path","lines"] (NN K))(QK:Cal P w K mg base 1 "folders_of" ["path"] (NO K)):FnOk P w K mg base (Ci P w) 5 f fd ["files"] (HR K):=by
 refine F.okX sc (fun vs H Q E h=>?_) (fun cdv A outer s H vs Q E hr h=>?_)
 ·obtain⟨c,Dm,fs,rfl,_⟩:=h;rfl
 ·obtain⟨c,Dm,fs,rfl,hc,ff,gf,fl,k⟩:=h;refine⟨_,(zE (yM (xS (zV (K:=K) (zJ (CallR.or (zX (K:=K)) (Bh (K:=K))) (by rfl) T.isinstance Zj (zA (pv 0) (zA (yX (v:=.ty "dict") rfl T.dict PyProof.Rows.boot_dict rfl) zD))) (fun _=>rfl))) (zF (jV rfl qP rfl T.BadFiles T.xBadFiles (zA pe_str zD))) zU) (zE (Xh (xP LD rfl (Iw (GP (pv 0))) (Bm rfl (qE (zS (i:=1) sc.nd rfl (EJ rfl)) (qE (zS (i:=2) sc.nd rfl (EJ rfl)) Xo))) (zF (yM (xS (zV (K:=K) (zK QJ hr.m (zA (pv 1) (zA (pv 2) zD))) (fun _=>rfl))) (zF (jV rfl qP rfl T.BadFiles T.xBadFiles (zA pe_str zD))) zU)))) (zF (Xh (xP LD rfl (OQ (GP (pv 0))) (zS (i:=1) sc.nd rfl (EJ rfl)) (zF (yM (zV (K:=K) (zJ (Mp rfl) (by rfl) T.any PyProof.Rows.boot_any (zA (y7 (sc:=zH st) (N:=["files","path","lines"]) (N':=["folder","files"]) (src:=[none,some 0]) ⟨by decide +kernel,rfl,rfl,by decide +kernel,by decide +kernel,by decide +kernel,by decide +kernel⟩ rfl rfl rfl (xJ (zK QK hr.m (zA (pv 1) zD))) (fun _ _ _ _=>(zS (i:=0) (show(["folder","files"]:Da).Nodup by decide +kernel) rfl (EJ rfl))) (fun _ _ _ _=>qF) (fun _ _ _ _=>(yU (X5 hr.units) (pv 0) (pv 1) (by with_unfolding_all rfl)))) zD)) (fun _=>rfl)) (zF (jV rfl qP rfl T.BadFiles T.xBadFiles (zA pe_str zD))) zU))))))),?_⟩
  refine⟨_,rfl,.inr ⟨c,"dict",Dm,_,rfl,.inl hc,T.kit _ (by simp[kinds]) _ (by simp[kinds]),_,rfl,VL ?_⟩⟩;refine⟨_,rfl,c,Dm,rfl,hc,fun ob=>?_⟩;have kl:Dm.length=fs.length:=ff.len;have hc1:upd H c (.frz ob (.dK Dm)) c=some (.frz ob (.dK Dm)):=zB;have ff1:=ff.off (yA hc) (z6 (o:=.frz ob (.dK Dm)));refine⟨c,ob,Dm,rfl,hc1,UC (fun i σ H2=>∃o1 o2,σ=[some (.ref c),o1,o2]/\Same (upd H c (.frz ob (.dK Dm))) H2) ⟨none,none,rfl,Same.refl _⟩ (fun i σ H2 hi ⟨_,_,_,e2⟩=>e2 _ _ hc1) ?_ ?_⟩
  ·rintro i kk v T0 σ H2 hi ⟨o1,o2,rfl,e2⟩ nT;obtain⟨f,hfi,rfl,dv,ln⟩:=(ff1.same e2).get hi;obtain⟨g1,g2,g3,g4⟩:=Gu (Q2 4) gf (Zc hfi);have uT:=zC (o:=.tup [kV (.inr (A4 f.1)),v]) nT;refine⟨T0,_,rfl,SqT.of zB,rfl,_,_,rfl,_,_,rfl,rfl,?_⟩;refine⟨_,rfl,_,rfl,.str (A4 f.1),AnJ.tupS f.2,_,_,rfl,rfl,Dt.dw (Dt.same uT _ _ dv),g3,g4,fun H3 s3=>⟨_,rfl,?_⟩⟩;rw[g1,g2];exact VL ⟨_,_,rfl,(e2.trans uT).trans s3⟩
  ·rintro σ H2 ⟨o1,o2,rfl,e2⟩;refine⟨c,ob,Dm,e2 _ _ hc1,fun o u z=>?_,?_⟩
   ·have z:H c=some (.frz o u):=z;rw[hc]at z;cases z
   have e3:=Cu hc e2;have hc3:upd H2 c (.dK Dm) c=some (.dK Dm):=zB;generalize upd H2 c (.dK Dm)=H3 at e3 hc3 ⊢;clear e2 ff1 hc1;refine⟨_,rfl,c,Dm,rfl,hc3,fun ob=>?_⟩;have hc1:upd H3 c (.frz ob (.dK Dm)) c=some (.frz ob (.dK Dm)):=zB;refine⟨c,ob,Dm,rfl,hc1,MD (fun i σ H2=>∃o1 o2,σ=[some (.ref c),o1,o2]/\Same (upd H3 c (.frz ob (.dK Dm))) H2) ⟨o1,o2,rfl,Same.refl _⟩ (fun i σ H2 hi ⟨_,_,_,e2⟩=>e2 _ _ hc1) ?_ ?_⟩
   ·rintro i kk v σ H4 hi ⟨o1,o2,rfl,e4⟩;obtain⟨f,hfi,rfl,_,_⟩:=ff.get hi;have hfm:=Zc hfi;obtain⟨_,_,g3,_⟩:=Gu (Q2 4) gf hfm;have xl:(A4 f.1).length<=1000:=Zb g3;refine⟨_,rfl,A4 f.1,rfl,xl,fun lp H5 s5 hlp=>?_⟩;have fll:(Kp (A4 f.1)).length<=1001:=by
     unfold Kp;rw[QU,Yq];have:=Ir (A4 f.1);omega
    refine⟨lp,rfl,⟨_,hlp⟩,kX (K:=K) (a:=lp) (xs:=(Kp (A4 f.1)).map V.str) (fun i ys σ' H6=>∃o,σ'=[o,some (.ref c)]/\Same H5 H6/\ys.length=i/\∀y∈ys,y=V.bl false) ⟨none,rfl,Same.refl _,rfl,fun y hy=>(nomatch hy)⟩ (le_line (by rw[QU];omega)) ?_ ?_ ?_⟩
    ·rintro i ys σ' H6 hi' ⟨o,rfl,e6,yl,_⟩;exact⟨e6.seq hlp,by omega⟩
    ·rintro i y ys σ' H6 hy ⟨o,rfl,e6,yl,yf⟩;rw[Za]at hy;obtain⟨z,hz,rfl⟩:=ZB.mp hy;refine⟨_,rfl,_,rfl,c,_,rfl,Oo (k:=.inr z) (((e4.trans s5).trans e6) _ _ hc1),_,rfl,e6,by rw[Q4,yl];rfl,fun y hy=>?_⟩
     rcases Zf.mp hy with q|q
     ·exact yf y q
     ·rw[QV.mp q]
      congr 1
      cases q:VQ Dm (.inr z) with
      |none=>rfl
      |some v =>
       have:=uL q;rw[ff.keys]at this;obtain⟨g,hg,e⟩:=QZ.mp this;exact absurd (Sum.inr.inj e).symm (MC gf hfm (Zc hz) g hg)
    ·rintro ys σ' H6 ⟨o,rfl,e6,yl,yf⟩ p np;have ey:ys=(LF ys.length false).map V.bl:=by
      rw[List.map_replicate];exact List.eq_replicate_iff.mpr ⟨rfl,yf⟩
     refine⟨p,LF ys.length false,rfl,SqL.of (by rw[zB];exact congrArg (fun z=>some (HO.lst z)) ey),_,rfl,?_⟩;have ea:(LF ys.length false).any id=false:=by
      rw[JO];intro x hx;rw[List.eq_of_mem_replicate hx]
      decide
     rw[ea];exact VL ⟨_,_,rfl,((e4.trans s5).trans e6).trans (zC np)⟩
   ·rintro σ H4 ⟨o1,o2,rfl,e4⟩;refine⟨c,ob,Dm,e4 _ _ hc1,fun o u z=>?_,?_⟩
    ·have z:H c=some (.frz o u):=z;rw[hc]at z;cases z
    exact k _ (e3.trans (Cu hc3 e4))
end AJ
namespace AK
abbrev st:Stmt:=top 51
theorem sc:FnScope ["shelf","files"] ["shelf","files"] (zH st):=Ca
theorem ok (F:Fun K "keep_files" "keep_files" st f fd)(T:Txt P w K mg t1 t2 t3 t4 t5 t6 t7 aL aC aN aT aA b1 b2 b3 fI)(QL:CalX P w K mg base 5 "need_files" ["files"] (HR K))(Qo:Cal P w K mg base 12 "put_files" ["shelf","files"] (Is P w K aC 4)):FnOk P w K mg base (Ci P w) 13 f fd ["shelf","files"] (NQ P w K aC):=by
 refine F.okX sc (fun vs H Q E h=>?_) (fun cdv A outer s H vs Q E hr h=>?_)
 ·obtain⟨a,c,fp,S,fs,Dm,rfl,_⟩:=h;rfl
 ·obtain⟨a,c,fp,S,fs,Dm,rfl,sh,ok,hc,nc,ff,gf,fl,sl,k⟩:=h;refine⟨_,(zE (yB (jW QL hr.m xH (zA (pv 1) zD))) (zF (zO (zK Qo hr.m (zA (pv 0) (zA (pv 1) zD)))))),?_⟩
  refine⟨_,rfl,c,Dm,fs,rfl,hc,ff,gf,fl,fun H1 e1=>?_⟩;exact⟨_,rfl,_,rfl,a,c,fp,S,fs,Dm,rfl,sh.same e1,ok,e1 _ _ hc,nc,ff.same e1,gf,fl,sl,fun H2 of2 sh2=>k H2 (fun b o nb e=>of2 b o nb (e1 _ _ e)) sh2⟩
end AK
end
end An28
namespace AnJ
open AxK
open PySem L2 An An10 An12
end AnJ
namespace L2
open PySem PySem.Spec PyProof.Rows
end L2
namespace AxS
open PySem PySem.Spec PyProof.Rows
section
variable {prog:Ei}{w:Eo}{A:EF}{E:Eg->Dh}{s:Ej}
set_option maxHeartbeats 6400000 in
end
end AxS
namespace L2
open PySem PySem.Spec PyProof.Rows AxS
end L2
namespace AxS
open PySem PySem.Spec PyProof.Rows
end AxS
namespace L2
open PySem PySem.Spec PyProof.Rows AxS
theorem Room.units1 (r:Room k A):A.units+1<cLine:=by have:=r.un;omega
section
variable {X:Cx}
def Su:R2:=fun y x H Q=>∃a o,x=.ref a/\DGet H a y o/\Q (.bl (!o.isSome)) H
theorem OG (hu:X.A.units+64<E8):Ce X (EO .NotIn) Su:=by
 intro Dp s σ H y x v u Q I ry rx h;obtain⟨a,o,rfl,g,q⟩:=h;cases rx;exact Oh (by omega) I g ry fun s' I'=>⟨.bl _,H,I',rfl,q⟩
end
end L2
namespace AnS
open PySem L2 An AnJ
structure DictIs (K:AZ)(H:Hp)(Dm:Dl)(L:Da)(g:Str->El):Prop where
 keys:Dm.map (·.1)=L.map Et
 nd:L.Nodup
 val:∀p∈L,∃v,VQ Dm (.inr p)=some v/\Dt K H (g p) v
section
variable {K:AZ}{H H':Hp}{Dm more:Dl}{L M:Da}{g:Str->El}
theorem DictIs.nil:DictIs K H [] [] g:=⟨rfl,Yb,fun _ h=>(nomatch h)⟩
theorem DictIs.len (h:DictIs K H Dm L g):Dm.length=L.length:=by
 have:=congrArg List.length h.keys;rw[QU,QU]at this;exact this
theorem DictIs.cong {g':Str->El}(h:DictIs K H Dm L g)(e:∀p∈L,g p=g' p):DictIs K H Dm L g':=⟨h.keys,h.nd,fun p hp=>let ⟨v,a,b⟩:=h.val p hp;⟨v,a,e p hp▸b⟩⟩
theorem DictIs.mem (h:DictIs K H Dm L g){p:Str}:(.inr p:Key)∈Dm.map (·.1)↔p∈L:=by
 rw[h.keys,QZ];exact⟨fun⟨q,hq,e⟩=>by cases e;exact hq,fun z=>⟨p,z,rfl⟩⟩
theorem DictIs.no (h:DictIs K H Dm L g){p:Str}(n:p∉L):VQ Dm (.inr p)=none:=by
 cases e:VQ Dm (.inr p) with
 |none=>rfl
 |some v=>exact absurd (h.mem.mp (uL e)) n
theorem DictIs.isSome (h:DictIs K H Dm L g)(p:Str):(VQ Dm (.inr p)).isSome=decide (p∈L):=by
 by_cases z:p∈L
 ·obtain⟨v,e,_⟩:=h.val p z;rw[e,QX z];rfl
 ·rw[h.no z,Q9 z];rfl
def addL (L:Da)(p:Str):Da:=if p∈L then L else L++[p]
theorem mem_addL {q:Str}:q∈addL L p↔q∈L\/q=p:=by
 unfold addL
 by_cases z:p∈L
 ·rw[Zk z];exact⟨.inl,fun h=>h.elim id fun e=>e▸z⟩
 ·rw[Zh z,Zf,QV]
theorem DictIs.put (h:DictIs K H Dm L g)(p:Str){v:V}{d:El}(hv:Dt K H d v):DictIs K H (putK Dm (.inr p) v) (addL L p) (fun q=>if q=p then d else g q):=by
 refine⟨?_,?_,fun q hq=>?_⟩
 ·unfold addL
  by_cases z:p∈L
  ·rw[Zk z];unfold putK;rw[Zk (by rw[xW,h.isSome,QX z]),Zv,←h.keys];refine Z0 fun kv _=>?_;show(if kv.1=.inr p then(kv.1,v) else kv).1=kv.1
   split<;>rfl
  ·rw[Zh z,CN v (h.no z),Q6,Q6,h.keys];rfl
 ·unfold addL
  by_cases z:p∈L
  ·rw[Zk z];exact h.nd
  ·rw[Zh z];exact q8 h.nd z
 ·rw[By]
  by_cases e:q=p
  ·subst e;rw[Zk rfl];exact⟨v,rfl,by show Dt K H (if q=q then d else g q) v;rw[Zk rfl];exact hv⟩
  ·have e':¬((.inr q:Key)=.inr p):=fun z=>by cases z;exact e rfl
   rw[Zh e'];obtain⟨w,a,b⟩:=h.val q ((mem_addL.mp hq).resolve_right e);exact⟨w,a,by show Dt K H (if q=p then d else g q) w;rw[Zh e];exact b⟩
end
theorem len_sub {l m:List PySem.Str}(n1:l.Nodup)(n2:m.Nodup)(h:∀p∈l,p∈m):l.length<=m.length:=by
 have:=(List.perm_ext_iff_of_nodup n1 (n2.filter (fun p=>decide (p∈l)))).mpr fun p=>by
  rw[Ys,Zt];exact⟨fun z=>⟨h p z,z⟩,fun z=>z.2⟩
 rw[this.length_eq];exact Yi _ _
end AnS
namespace An
open PySem L2
def NY (ds:Df):Da:=ds.filterMap fun d=>match d with
 | .str x=>some x
 |_=>none
theorem Gx:∀ps:Da,NY (ps.map .str)=ps
 |[]=>rfl
 |p::ps=>by
  show p::NY (ps.map .str)=_;rw[Gx ps]
inductive Rch (par:Str->Da)(rs:Da):Str->Prop
 |root {x:Str}:x∈rs->Rch par rs x
 |step {x y:Str}:Rch par rs x->y∈par x->Rch par rs y
theorem Oi {S:Di}(g:(S.map En.nm).Nodup){e:En}(he:e∈S):S.find? (fun f=>decide (f.nm=e.nm))=some e:=by
 cases q:S.find? (fun f=>decide (f.nm=e.nm)) with
 |none =>
  rw[List.find?_eq_none]at q;exact absurd (QX rfl) (q e he)
 |some f =>
  have h1:=List.find?_some q;have h2:=List.mem_of_find?_eq_some q;have h1:f.nm=e.nm:=Zb h1;obtain⟨i,hi,ei⟩:=ZJ.mp he;obtain⟨j,hj,ej⟩:=ZJ.mp h2;have:(S.map En.nm)[i]'(by simpa using hi)=(S.map En.nm)[j]'(by simpa using hj):=by
   rw[ZF,ZF,ei,ej,h1]
  have:=(YV g).mp this;subst this;rw[←ei,ej]
theorem HH {par:Str->Da}{rs F:Da}(h1:∀r∈rs,r∈F)(h2:∀x∈F,∀y∈par x,y∈F){x:Str}(h:Rch par rs x):x∈F:=by
 induction h with
 |root h=>exact h1 _ h
 |step _ b ih=>exact h2 _ ih _ b
def namesW:Th->Da
 | .leaf _=>[]
 | .tree Do=>Do.map (·.2)
 | .note x ps _=>x::ps
def CU (ds:Df):Da:=ds.filterMap fun d=>match d with
 | .tuple [_,.str n]=>some n
 |_=>none
def inD:El->Da
 | .tuple [_,.tuple ds]=>CU ds
 | .tuple [_,.str t,.tuple ds,_]=>t::NY ds
 |_=>[]
theorem Il:∀ls:Da,CU (ls.map .str)=[]
 |[]=>rfl
 |l::ls=>by
  show CU (ls.map .str)=[];exact Il ls
theorem Im:∀Do:Dg,CU (Do.map rowDat)=Do.map (·.2)
 |[]=>rfl
 |r::Do=>by
  show r.2::CU (Do.map rowDat)=_;rw[Im Do];rfl
theorem XJ:∀t:Th,inD t.dat=namesW t
 | .leaf ls=>Il ls
 | .tree Do=>Im Do
 | .note x ps y=>congrArg (x::·) (Gx ps)
def Cw (S:Di)(x:Str):Da:=match S.find? (fun e=>decide (e.nm=x)) with
 |some e=>inD e.d
 |none=>[]
theorem Gw {S:Di}(g:(S.map En.nm).Nodup){e:En}(he:e∈S):Cw S e.nm=inD e.d:=by
 unfold Cw;rw[Oi g he]
def Cl (S:Di):Prop:=∀(i:Nat) (e:En),S[i]?=some e->∀n∈inD e.d,∃j f,j<i/\S[j]?=some f/\f.nm=n
theorem Cl.snoc {e:En}(c:Cl S)(h:∀n∈inD e.d,n∈S.map En.nm):Cl (S++[e]):=fun i f hf n hn=>by
 rcases VA i S.length with z|z
 ·rw[ZI z]at hf;obtain⟨j,g,h1,h2,h3⟩:=c i f hf n hn;exact⟨j,g,h1,by rw[ZI (by omega)];exact h2,h3⟩
 ·rw[ZQ z]at hf;have:i-S.length=0:=by
   rcases Y1 (i-S.length) with q|q
   ·exact q
   ·rw[ZO (by show 1<=_;omega)]at hf;cases hf
  rw[this]at hf;cases hf;obtain⟨g,hg,e2⟩:=QZ.mp (h n hn);obtain⟨j,hj⟩:=Z7.mp hg;have jl:=(Zl.mp hj).1;exact⟨j,g,by omega,by rw[ZI jl];exact hj,e2⟩
theorem Cl.mem (c:Cl S){e:En}(he:e∈S){n:Str}(hn:n∈inD e.d):n∈S.map En.nm:=by
 obtain⟨i,hi⟩:=Z7.mp he;obtain⟨j,f,_,hj,e2⟩:=c i e hi n hn;exact QZ.mpr ⟨f,Zc hj,e2⟩
theorem kZ {t:Th}(g:OkS S)(gt:t.Good)(l:S.length<2000)(c:Cl S)(h:∀n∈namesW t,n∈S.map En.nm):Cl (A0 S t).1/\(A0 S t).2∈(A0 S t).1.map En.nm/\∀n∈S.map En.nm,n∈(A0 S t).1.map En.nm:=by
 obtain⟨_,at_,_,T,eT,_⟩:=kA g gt l;refine⟨?_,at_.mem,fun n hn=>by rw[eT,Q6];exact ZC _ hn⟩;unfold A0
 split
 ·exact c
 ·refine c.snoc fun n hn=>?_;have:inD (Uh S t).d=namesW t:=XJ t;rw[this]at hn;exact h n hn
theorem M6:∀(vs:List (Str×Da)) {a:List En×Dg},OkS a.1->Cl a.1->(∀r∈a.2,r.2∈a.1.map En.nm)->(∀v∈vs,Uc v.2)->a.1.length+vs.length<2000->OkS (vs.foldl AY a).1/\Cl (vs.foldl AY a).1/\(∀r∈(vs.foldl AY a).2,r.2∈(vs.foldl AY a).1.map En.nm)/\(vs.foldl AY a).1.length<=a.1.length+vs.length
 |[],a,ok,c,h,_,_=>⟨ok,c,h,by simp⟩
 |v::vs,a,ok,c,h,ln,hl=>by
  rw[Zd]at hl;have lv:=ln v Q1;obtain⟨ok1,at1,l1,_⟩:=kA ok (qI lv) (by omega);obtain⟨c1,m1,s1⟩:=kZ ok (qI lv) (by omega) c (fun n hn=>(nomatch hn));have:=M6 vs (a:=AY a v) ok1 c1 (fun r hr=>by
   rcases Zf.mp hr with z|z
   ·exact s1 _ (h r z)
   ·rwa[QV.mp z]) (fun v hv=>ln v (QY _ hv)) (by
   show(A0 a.1 (.leaf v.2)).1.length+_<2000;omega)
  refine⟨this.1,this.2.1,this.2.2.1,ZD this.2.2.2 ?_⟩;show(A0 a.1 (.leaf v.2)).1.length+_<=_;rw[Zd];omega
theorem R5:∀(ls:Da),(∀l∈ls,∀S,OkS S->Cl S->S.length+1+wt (sub fs l)<=2000->(OkS (VN d S (sub fs l)).1/\Cl (VN d S (sub fs l)).1/\(VN d S (sub fs l)).2∈(VN d S (sub fs l)).1.map En.nm/\(∀n∈S.map En.nm,n∈(VN d S (sub fs l)).1.map En.nm))/\(VN d S (sub fs l)).1.length<=S.length+1+wt (sub fs l)) ->
  ∀{a:List En×Dg},OkS a.1->Cl a.1->(∀r∈a.2,r.2∈a.1.map En.nm)->a.1.length+(ls.map fun l=>1+wt (sub fs l)).sum<=2000->OkS (ls.foldl (A1 d fs) a).1/\Cl (ls.foldl (A1 d fs) a).1/\(∀r∈(ls.foldl (A1 d fs) a).2,r.2∈(ls.foldl (A1 d fs) a).1.map En.nm)
 |[],_,a,ok,c,h,_=>⟨ok,c,h⟩
 |l::ls,H,a,ok,c,h,hl=>by
  rw[Zn,YG]at hl;obtain⟨⟨ok1,c1,m1,s1⟩,l1⟩:=H l Q1 a.1 ok c (by omega);refine R5 ls (fun l hl'=>H l (QY _ hl')) (a:=A1 d fs a l) ok1 c1 (fun r hr=>?_) ?_
  ·rcases Zf.mp hr with z|z
   ·exact s1 _ (h r z)
   ·rwa[QV.mp z]
  ·show(VN d a.1 (sub fs l)).1.length+_<=2000;omega
theorem OW:∀(d:Nat) {S:Di} {fs:Dk},OkS S->Cl S->GoodF (d+1) fs->fs.length<=63->S.length+1+wt fs<=2000->Cl (VN (d+1) S fs).1:=fun d=>by
 induction d with
 |zero =>
  intro S fs ok c g hl hs;have f0:A6 fs=[]:=by
   cases q:A6 fs with
   |nil=>rfl
   |cons l r =>
    obtain⟨f,hf,b,r',ef⟩:=((yV fs).2 l).mp (by rw[q];exact Q1);have:=(g.lab f hf).2.1;rw[ef,Zd,Zd]at this;omega
  have hm:=many fs;obtain⟨ok1,c1,m1,l1⟩:=M6 (A5 fs) (a:=(S,[])) ok c (fun r hr=>(nomatch hr)) (fun v hv=>(g.lab _ (mem_lvs.mp hv)).2.2.2) (by show S.length+_<2000;omega);obtain⟨ok2,l2,nd2,lab2,n2⟩:=Mz ok g hl hs (q:=(A5 fs).foldl AY (S,[])) (by rw[f0];rfl);rw[uJ,f0];refine(kZ ok1 (GM ok1 (by rwa[(yF _).length_eq]) fun r hr=>?_) l2 c1 fun n hn=>?_).1
  ·have hr:=(yF _).mem_iff.mp hr;exact⟨(lab2 r hr).1,m1 r hr⟩
  ·obtain⟨r,hr,e⟩:=QZ.mp hn;rw[←e];exact m1 r ((yF _).mem_iff.mp hr)
 |succ d ih =>
  intro S fs ok c g hl hs;have hm:=many fs;obtain⟨ok1,c1,m1,l1⟩:=M6 (A5 fs) (a:=(S,[])) ok c (fun r hr=>(nomatch hr)) (fun v hv=>(g.lab _ (mem_lvs.mp hv)).2.2.2) (by show S.length+_<2000;omega);have l1:((A5 fs).foldl AY (S,[])).1.length<=S.length+(A5 fs).length:=l1;obtain⟨ok3,c3,m3⟩:=R5 (d:=d+1) (fs:=fs) (A6 fs) (fun l hl' S' ok' c' hs'=>by
   obtain⟨pk,pl⟩:=vK d ok' (g.sub l) (ZD sub_len hl) hs';obtain⟨T,eT,_⟩:=pk.new;exact⟨⟨pk.ok,ih ok' c' (g.sub l) (ZD sub_len hl) hs',pk.tree.mem,fun n hn=>by rw[eT,Q6];exact ZC _ hn⟩,pl⟩) ok1 c1 m1 (by omega)
  obtain⟨ok2,l2,nd2,lab2,n2⟩:=Mz ok g hl hs rfl;rw[uJ];refine(kZ ok3 (GM ok3 (by rwa[(yF _).length_eq]) fun r hr=>?_) l2 c3 fun n hn=>?_).1
  ·have hr:=(yF _).mem_iff.mp hr;exact⟨(lab2 r hr).1,m3 r hr⟩
  ·obtain⟨r,hr,e⟩:=QZ.mp hn;rw[←e];exact m3 r ((yF _).mem_iff.mp hr)
def qO (x:Str)(F:Da)(o:Str):Da:=if x∈F then AnS.addL F o else F
theorem vI (x:Str):∀(ws F:Da),(∀y,y∈ws.foldl (qO x) F↔y∈F\/(x∈F/\y∈ws))
 |[],F,y=>⟨.inl,fun h=>h.elim id fun z=>(nomatch z.2)⟩
 |w::ws,F,y=>by
  show y∈ws.foldl (qO x) (qO x F w)↔_;rw[vI x ws];have hm:∀z,z∈qO x F w↔z∈F\/(x∈F/\z=w):=fun z=>by
   unfold qO
   split
   ·rename_i hx;rw[AnS.mem_addL];exact⟨fun h=>h.imp id fun q=>⟨hx,q⟩,fun h=>h.imp id fun q=>q.2⟩
   ·rename_i hx;exact⟨.inl,fun h=>h.elim id fun q=>absurd q.1 hx⟩
  rw[hm,hm,Q7];constructor
  ·rintro((h|⟨h1,h2⟩)|⟨h1|h1,h2⟩)
   ·exact .inl h
   ·exact .inr ⟨h1,.inl h2⟩
   ·exact .inr ⟨h1,.inr h2⟩
   ·exact .inr ⟨h1.1,.inr h2⟩
  ·rintro(h|⟨h1,h2|h2⟩)
   ·exact .inl (.inl h)
   ·exact .inl (.inr ⟨h1,h2⟩)
   ·exact .inr ⟨.inl h1,h2⟩
structure Bk (S:Di)(rs F:Da)(i:Nat):Prop where
 rch:∀x∈F,Rch (Cw S) rs x
 root:∀r∈rs,r∈F
 par:∀(k:Nat) (e:En),i<=k->S[k]?=some e->e.nm∈F->∀y∈inD e.d,y∈F
theorem Sj {S:Di}(g:(S.map En.nm).Nodup){j k:Nat}{e f:En}(hj:S[j]?=some e)(hk:S[k]?=some f)(h:e.nm=f.nm):j=k:=by
 obtain⟨j1,j2⟩:=Zl.mp hj;obtain⟨k1,k2⟩:=Zl.mp hk;have:(S.map En.nm)[j]'(by rwa[QU])=(S.map En.nm)[k]'(by rwa[QU]):=by
  rw[ZF,ZF,j2,k2,h]
 exact(YV g).mp this
theorem Bk.step {i:Nat}{e:En}(b:Bk S rs F (i+1))(g:(S.map En.nm).Nodup)(c:Cl S)(he:S[i]?=some e):Bk S rs ((inD e.d).foldl (qO e.nm) F) i:=by
 have em:=Zc he;refine⟨fun x hx=>?_,fun r hr=>(vI _ _ _ _).mpr (.inl (b.root r hr)),fun k f hk hf hm y hy=>?_⟩
 ·rcases(vI _ _ _ _).mp hx with h|⟨h1,h2⟩
  ·exact b.rch x h
  ·exact .step (b.rch _ h1) (by rwa[Gw g em])
 ·rw[vI]at hm ⊢
  rcases Nat.eq_or_lt_of_le hk with q|q
  ·subst q;rw[he]at hf;cases hf
   rcases hm with h|⟨h,_⟩
   ·exact .inr ⟨h,hy⟩
   ·exact .inr ⟨h,hy⟩
  ·rcases hm with h|⟨_,h2⟩
   ·exact .inl (b.par k f q hf h y hy)
   ·obtain⟨j,f',hj,hj2,e2⟩:=c i e he _ h2;have:=Sj g hj2 hf e2;omega
theorem Bk.all (b:Bk S rs F 0)(g:(S.map En.nm).Nodup)(c:Cl S)(hr:∀r∈rs,r∈S.map En.nm):∀x,x∈F↔Rch (Cw S) rs x:=fun x=>by
 refine⟨b.rch x,fun h=>HH b.root (fun y hy z hz=>?_) h⟩;have:y∈S.map En.nm:=by
  have:=b.rch y hy;clear hz hy h
  induction this with
  |root h=>exact hr _ h
  |step h1 h2 ih =>
   obtain⟨e,he,e2⟩:=QZ.mp ih;rw[←e2,Gw g he]at h2;exact c.mem he h2
 obtain⟨e,he,rfl⟩:=QZ.mp this;obtain⟨k,hk⟩:=Z7.mp he;rw[Gw g he]at hz;exact b.par k e (Zz _) hk hy z hz
end An
namespace L2
open PySem PySem.Spec PyProof.Rows
section
variable {X:Cx}
def Rx (i:Nat)(f:Eh)(sp:Sp)(t:TA):TE:=fun σ H Q=>σ[i]?=some (some (.ref f))/\t σ H fun vs H1=>sp vs H1 Q E0
theorem Np {x:Str}{e:EI}{es:List EI}{p pos:Pos}{f:Eh}(C:Cal X.prog X.w X.K X.mg X.base k y ps sp)(hy:X.mg y=some (.ref f))(hr:Room k X.A)(hv:PE X (.Name x p) (RH i))(ha:PA X (e::es) t)
  (he:Ev (e::es) X.env=(false,EY e X.env)::Ev es X.env:=by rfl) (hpl:(E7 pos (Ev es X.env)).any (·.1)=false:=by rfl) :
  PE X (.Call (.Name x p) (e::es) [] pos) (Rx i f sp t):=by
 obtain⟨g,fd,F,hm,hk,hb⟩:=C.ex;have e0:g=f:=by
  rw[hm]at hy;injection hy with z;injection z
 subst e0;intro Dp s σ H Q I ⟨hσ,h⟩;refine YD (A3 (hv Dp s σ H (fun v H1=>v=.ref g/\H1=H) I ⟨_,hσ,rfl,rfl⟩) fun u s0 ⟨v0,H0,I0,r0,ev,eH⟩=>?_);subst ev eH;cases r0;refine Y0 (h₀:=X.base) I0.ok.mod.kin hk (A3 (ha pos Dp s0 σ H0 _ I0 h) fun us s1 ⟨vs,H1,I1,r,q⟩=>⟨I1.kIn,?_⟩) he hpl;exact GK (E:=E0) F hr hb .nil BL I1 r (by rwa[Zy])
end
end L2
namespace An28
open PySem L2 An
seal L2.PS L2.PSs L2.PE L2.PT L2.PW L2.PA L2.PG L2.PGs L2.PI L2.PFi L2.PC
theorem yC {i:Nat}{v:V}{σ:St}{H:Hp}{Q:St->Hp->Prop}(h:Q (σ.set i (some v)) H):IU i v σ H Q:=h
theorem Xl (c:Cl S)(g:(S.map En.nm).Nodup){rs:Da}(hr:∀r∈rs,r∈S.map En.nm){x:Str}(h:Rch (Cw S) rs x):x∈S.map En.nm:=by
 induction h with
 |root h=>exact hr _ h
 |step h1 h2 ih =>
  obtain⟨e,he,rfl⟩:=QZ.mp ih;rw[Gw g he]at h2;exact c.mem he h2
theorem uN {t:Th}(g:t.Good):(namesW t).length<=1000:=by
 have h:=g.1;cases t with
 |leaf ls=>exact Zz _
 |tree Do =>
  have h:(z5 Do).length<=1000:=h;rw[flat_len]at h;show(Do.map (·.2)).length<=1000;rw[QU];omega
 |note x ps y =>
  have h:(x::V1 ps.length::(ps++[y])).length<=1000:=h;rw[Zd,Zd,Q4]at h;show ps.length+1<=1000;simp at h;omega
def Gi (K:AZ):Sp:=fun vs H Q _=>∃(a:Eh) (t:Th),vs=[.ref a]/\Dt K H t.dat (.ref a)/\t.Good/\∀l H',Same H H'->H l=none->H' l=some (.lst ((namesW t).map V.str))->Q (.ref l) H'
def NM (P:Ei)(w:Eo)(K:AZ)(C fI:Eh):Sp:=fun vs H Q _=>∃(a fo rl:Eh) (fp:Dd) (S:Di) (rs:Da),vs=[.ref a,.ref fo,.ref rl,.ref fI]/\ShAt P w K C H a fp S/\OkS S/\Cl S/\H fo=some (.dK [])/\fo∉fp/\SqL K H rl (rs.map V.str)/\rs.length<=1000/\(∀r∈rs,r∈S.map En.nm) /\
 ∀H',Off [fo] H H'->(∃ke F,H' fo=some (.dK ke)/\AnS.DictIs K H' ke F (fun _=>.bool true)/\(∀x,x∈F↔Rch (Cw S) rs x))->Q .non H'
def HU (P:Ei)(w:Eo)(K:AZ)(C:Eh):Sp:=fun vs H Q _=>∃(a fo:Eh) (fp:Dd) (S:Di) (ke:Dl) (F:Da),vs=[.ref a,.ref fo]/\ShAt P w K C H a fp S/\H fo=some (.dK ke)/\AnS.DictIs K H ke F (fun _=>.bool true) /\
 ∀l H',Same H H'->H l=none->H' l=some (.lst (((S.map En.nm).filter fun x=>decide (x∈F)).map V.str))->Q (.ref l) H'
def Gp (P:Ei)(w:Eo)(K:AZ)(C aN:Eh):Sp:=fun vs H Q E=>∃(a rl:Eh) (fp:Dd) (S:Di) (ds:Df) (xs:Dj),vs=[.ref a,.ref rl]/\ShAt P w K C H a fp S/\OkS S/\Cl S/\SqL K H rl xs/\DtAll K H ds xs/\ds.length<=1000 /\
 (∀rs,ds=rs.map .str->(∀r∈rs,r∈S.map En.nm)->∀l H',Same H H'->H l=none->(∃F:Da,(∀x,x∈F↔Rch (Cw S) rs x)/\H' l=some (.lst (((S.map En.nm).filter fun x=>decide (x∈F)).map V.str)))->Q (.ref l) H')/\((∃d∈ds,Uf S d=false)->E (.ref aN) none H)
section
variable {P:Ei}{w:Eo}{K:AZ}{mg:Str->Dc}{base:EC}{t1 t2 t3 t4 t5 t6 t7:Tok}{aL aC aN aT aA b1 b2 b3 fI:Eh}
structure Wk (S:Di)(rs F L:Da):Prop where
 nd:F.Nodup
 rch:∀x,x∈F\/x∈L->Rch (Cw S) rs x
 roots:∀r∈rs,r∈F\/r∈L
 par:∀x∈F,∀y∈Cw S x,y∈F\/y∈L
theorem Wk.len (h:Wk S rs F L)(c:Cl S)(hr:∀r∈rs,r∈S.map En.nm)(g:(S.map En.nm).Nodup):F.length<=S.length:=by
 have:=AnS.len_sub h.nd g fun p hp=>Xl c g hr (h.rch p (.inl hp));rw[QU]at this;exact this
theorem Wk.skip {L:Da}{x:Str}(h:Wk S rs F (L++[x]))(hx:x∈F):Wk S rs F L:=by
 have sub:∀y,y∈F\/y∈L++[x]->y∈F\/y∈L:=fun y hy=>by
  rcases hy with z|z
  ·exact .inl z
  ·rcases Zf.mp z with z|z
   ·exact .inr z
   ·rw[QV.mp z];exact .inl hx
 exact⟨h.nd,fun y hy=>h.rch y (hy.imp id fun z=>ZC _ z),fun r hr=>sub r (h.roots r hr),fun y hy z hz=>sub z (h.par y hy z hz)⟩
theorem Wk.take {L:Da}{x:Str}(h:Wk S rs F (L++[x]))(hx:x∉F):Wk S rs (AnS.addL F x) (L++Cw S x):=by
 have rx:=h.rch x (.inr (Zo _ (QV.mpr rfl)));have sub:∀y,y∈F\/y∈L++[x]->y∈AnS.addL F x\/y∈L++Cw S x:=fun y hy=>by
  rcases hy with z|z
  ·exact .inl (AnS.mem_addL.mpr (.inl z))
  ·rcases Zf.mp z with z|z
   ·exact .inr (ZC _ z)
   ·rw[QV.mp z];exact .inl (AnS.mem_addL.mpr (.inr rfl))
 refine⟨?_,fun y hy=>?_,fun r hr=>sub r (h.roots r hr),fun y hy z hz=>?_⟩
 ·unfold AnS.addL;rw[Zh hx];exact q8 h.nd hx
 ·rcases hy with z|z
  ·rcases AnS.mem_addL.mp z with z|z
   ·exact h.rch y (.inl z)
   ·rwa[z]
  ·rcases Zf.mp z with z|z
   ·exact h.rch y (.inr (ZC _ z))
   ·exact .step rx z
 ·rcases AnS.mem_addL.mp hy with q|q
  ·exact sub z (h.par y q z hz)
  ·rw[q]at hz;exact .inr (Zo _ hz)
theorem Hy {H:Hp}{fo:Eh}{kv:Dl}(h:H fo=some (.dK kv)):∀b∈[fo],∀xs,¬Rd H b (.tup xs):=fun b hb xs z=>by
 rw[QV.mp hb]at z
 rcases z with z|⟨u,z⟩
 ·rw[h]at z;cases z
 ·rw[h]at z;cases z
theorem NJ {Do:Dg}(h:DtAll K H (Do.map rowDat) rs){i:Nat}{v:V}(e:rs[i]?=some v):∃r c,Do[i]?=some r/\v=.ref c/\SqT K H c [V.str r.1,V.str r.2]:=by
 obtain⟨d,hd,hv⟩:=h.get e;rw[Za]at hd;obtain⟨r,hr,rfl⟩:=ZB.mp hd;obtain⟨c,xs,rfl,h1,x,r2,e2,h2,y,r3,e3,h3,h4⟩:=hv;have h2:x=V.str r.1:=h2;have h3:y=V.str r.2:=h3;have h4:r3=[]:=h4;subst e2 e3 h2 h3 h4;exact⟨r,c,hr,rfl,h1⟩
theorem Fa (e:Same H H')(h:SqT K H c xs):SqT K H' c xs:=by
 rcases h with(h|⟨o,h⟩)|h
 ·exact .inl (.inl (e _ _ h))
 ·exact .inl (.inr ⟨o,e _ _ h⟩)
 ·exact .inr h
namespace AL
abbrev st:Stmt:=top 36
theorem sc:FnScope ["thing"] ["thing"] (zH st):=Ca
theorem ok (F:Fun K "names_in" "names_in" st f fd)(T:Txt P w K mg t1 t2 t3 t4 t5 t6 t7 aL aC aN aT aA b1 b2 b3 fI):FnOk P w K mg base A9 1 f fd ["thing"] (Gi K):=by
 refine F.ok sc (fun vs H Q E h=>?_) (fun cdv A outer s H vs Q E hr h=>?_)
 ·obtain⟨a,t,rfl,_⟩:=h;rfl
 ·obtain⟨a,t,rfl,ha,tg,k⟩:=h;have wl:=uN tg;refine⟨_,(zE (yM (zP xN (z7 (ix_tup:A7 _ (VR K)) (pv 0) zI (fun _ _=>rfl)) pe_str (zT _)) (zF (zO (yN zD))) zU) (zE (yM (zP xN (z7 (ix_tup:A7 _ (VR K)) (pv 0) zI (fun _ _=>rfl)) pe_str (zT _)) (zF (zO (y7 (sc:=zH st) (N:=["thing"]) (N':=["row"]) (src:=[none]) ⟨by decide +kernel,rfl,rfl,by decide +kernel,by decide +kernel,by decide +kernel,by decide +kernel⟩ rfl rfl rfl (kT (z7 (ix_tup:A7 _ (VR K)) (pv 0) zI (fun _ _=>rfl))) (fun _ _ _ _=>(zS (i:=0) (show(["row"]:Da).Nodup by decide +kernel) rfl (EJ rfl))) (fun _ _ _ _=>qF) (fun _ _ _ _=>(z7 (ix_tup:A7 _ (VR K)) (pv 0) zI (fun _ _=>rfl)))))) zU) (zF (zO (zQ uS (yN (zA (z7 (ix_tup:A7 _ (VR K)) (pv 0) zI (fun _ _=>rfl)) zD)) (zZ yP (by rfl) T.list ZT (zA (z7 (ix_tup:A7 _ (VR K)) (pv 0) zI (fun _ _=>rfl)) zD))))))),?_⟩
  cases t with
  |leaf ls =>
   obtain⟨c,b,ec,h1,h2⟩:=jD ha;cases ec;refine⟨_,rfl,a,_,_,_,rfl,rfl,h1,rfl,rfl,true,?_,VM ⟨VP 0,fun l nl=>k l _ (zC nl) nl zB⟩⟩;show V.bl (decide (V.str "leaf"=V.str "leaf"))=V.bl true;rw[QX rfl]
  |tree Do =>
   obtain⟨c,b,ec,h1,h2⟩:=uF ha;cases ec;obtain⟨b',rs,eb,hb,hrs⟩:=h2;cases eb;have rl:=hrs.length;rw[QU]at rl;have wl:(Do.map (·.2)).length<=1000:=wl;rw[QU]at wl;refine⟨_,rfl,a,_,_,_,rfl,rfl,h1,rfl,rfl,false,?_,VL ⟨_,rfl,a,_,_,_,rfl,rfl,h1,rfl,rfl,true,?_,VM ?_⟩⟩
   ·show V.bl (decide (V.str "tree"=V.str "leaf"))=V.bl false;rw[Q9 (by intro z;exact absurd (V.str.inj z) (by decide +kernel))]
   ·show V.bl (decide (V.str "tree"=V.str "tree"))=V.bl true;rw[QX rfl]
   refine⟨_,rfl,a,_,_,_,rfl,rfl,h1,rfl,b,rfl,⟨_,hb⟩,qK (K:=K) (a:=b) (xs:=rs) (fun j ys σ H5=>∃o,σ=[o]/\H5=H/\ys=((Do.take j).map (·.2)).map V.str) ⟨none,rfl,rfl,rfl⟩ (le_line (by omega)) ?_ ?_ ?_⟩
   ·rintro j ys σ H5 hj ⟨o,rfl,rfl,rfl⟩;refine⟨hb,?_⟩;rw[QU,QU,Zm];omega
   ·rintro j v ys σ H5 hv ⟨o,rfl,rfl,rfl⟩;obtain⟨r,c',hr',rfl,hc'⟩:=NJ hrs hv;refine⟨_,rfl,c',_,_,_,rfl,rfl,hc',rfl,_,rfl,rfl,?_⟩;rw[take_snoc hr',Q6,Q6];rfl
   ·rintro ys σ H5 ⟨o,rfl,rfl,rfl⟩ p np;rw[rl,Zq];exact k p _ (zC np) np zB
  |note x ps y =>
   obtain⟨c,b,ec,h1,h2⟩:=uC ha;cases ec;refine⟨_,rfl,a,_,_,_,rfl,rfl,h1,rfl,rfl,false,?_,VL ⟨_,rfl,a,_,_,_,rfl,rfl,h1,rfl,rfl,false,?_,VL ?_⟩⟩
   ·show V.bl (decide (V.str "note"=V.str "leaf"))=V.bl false;rw[Q9 (by intro z;exact absurd (V.str.inj z) (by decide +kernel))]
   ·show V.bl (decide (V.str "note"=V.str "tree"))=V.bl false;rw[Q9 (by intro z;exact absurd (V.str.inj z) (by decide +kernel))]
   refine⟨_,rfl,a,_,_,_,rfl,rfl,h1,rfl,VP 1,fun l1 nl1=>?_⟩;have u1:=zC (o:=.lst [V.str x]) nl1;have h2':=Fa u1 h2;have h1':=Fa u1 h1;have wl:ps.length+1<=1000:=wl;refine⟨_,rfl,a,_,_,_,rfl,rfl,h1',rfl,b,_,rfl,.inr h2',fun l2 nl2=>?_⟩;have u2:=zC (o:=.lst (ps.map V.str)) nl2;refine⟨l1,l2,_,_,rfl,rfl,u2 _ _ zB,zB,le_line (by rw[QU];show 1+_<=_;omega),fun l3 nl3=>?_⟩;exact k l3 _ ((u1.trans u2).trans (zC nl3)) ((u1.trans u2).free nl3) zB
end AL
namespace AM
abbrev st:Stmt:=top 38
theorem sc:FnScope ["store","found","roots","names_behind","left","name"] ["store","found","roots","names_behind"] (zH st):=Ca
theorem ok (F:Fun K "add_found" "add_found" st f fd)(T:Txt P w K mg t1 t2 t3 t4 t5 t6 t7 aL aC aN aT aA b1 b2 b3 fI)(Qc:MetX P w K mg base aC 4 "thing" ["self","name"] (vL P w K aC aN))(QM:Cal P w K mg base 1 "names_in" ["thing"] (Gi K)):FnOk P w K mg base A9 5 f fd ["store","found","roots","names_behind"] (NM P w K aC fI):=by
 refine F.ok sc (fun vs H Q E h=>?_) (fun cdv A outer s H vs Q E hr h=>?_)
 ·obtain⟨a,fo,rl,fp,S,rs,rfl,_⟩:=h;rfl
 ·obtain⟨a,fo,rl,fp,S,rs,rfl,sh,ok,vc,hfo,nfo,hrl,rsl,rn,k⟩:=h;refine⟨_,(zE (A8 (i:=4) sc.nd (zZ yP (by rfl) T.list ZT (zA (pv 2) zD))) (zF (Nw EM (zP HA (zJ zN (by rfl) T.len ZE (zA (pv 4) zD)) zI (zT _)) (zE (A8 (i:=5) sc.nd (No ZL PySem.F.slot_list_pop PySem.F.type_list_pop Ra (pv 4))) (zF (yM (zP (OG hr.units) (pv 5) (pv 1) (by with_unfolding_all rfl)) (zE (qH hr.units1 (pv 1) (pv 5) uK rfl) (zF (yB (jY ZL PySem.F.slot_list_extend PySem.F.type_list_extend KM (pv 4) (zA (Np QM T.names_in hr.m (pv 3) (zA (xE (pv 0) T.cls Qc hr.m yJ (zA (pv 5) zD)) zD)) zD))))) zU)))))),?_⟩
  have gn:=sh.good.nn;have gl:=sh.good.len;refine⟨_,rfl,rl,_,rfl,.inl hrl,fun lf nlf=>?_⟩;have flf:fo≠lf:=zM hfo nlf
  let Pv:St->Hp->Prop:=fun σ H2=>∃o5 kv F L,σ=[some (.ref a),some (.ref fo),some (.ref rl),some (.ref fI),some (.ref lf),o5]/\Off [fo] H H2/\H2 fo=some (.dK kv)/\AnS.DictIs K H2 kv F (fun _=>.bool true)/\H2 lf=some (.lst (L.map V.str))/\Wk S rs F L/\L.length<=1000+1000*F.length
  let μ:St->Hp->Nat:=fun σ H2=>match H2 fo,H2 lf with
   |some (.dK kv),some (.lst xs)=>1001*(S.length-kv.length)+xs.length
   |_,_=>0
  have μ_is:∀{σ H2 kv xs},H2 fo=some (.dK kv)->H2 lf=some (.lst xs)->μ σ H2=1001*(S.length-kv.length)+xs.length:=fun{σ H2 kv xs} h1 h2=>by
   show(match H2 fo,H2 lf with
    |some (.dK kv),some (.lst xs)=>1001*(S.length-kv.length)+xs.length
    |_,_=>0)=_
   rw[h1,h2]
  refine yC ?_;refine N4 Pv μ ?_ ?_ ?_
  ·exact⟨none,[],[],rs,rfl,Off.of (zC nlf),by rw[zG flf];exact hfo,AnS.DictIs.nil,zB,⟨Yb,fun x hx=>.root (hx.resolve_left (fun z=>nomatch z)),fun r hr=>.inr hr,fun x hx=>(nomatch hx)⟩,by rw[YN];omega⟩
  ·rintro σ H2 ⟨o5,kv,F',L,rfl,of2,hf2,df2,hl2,wk,bd⟩;have sh2:=sh.off (Hy hfo) of2 (fun b hb z=>nfo (QV.mp z▸hb));refine⟨_,rfl,lf,_,rfl,.inl (SqL.of hl2),_,_,rfl,rfl,_,rfl,VU (fun c=>?_) (fun c=>?_)⟩
   ·have c:0<L.length:=by
     have c:decide ((0:Int)<((L.map V.str).length:Int))=true:=c;have:=Zb c;rw[QU]at this;omega
    obtain⟨L',x,rfl⟩:∃L' x,L=L'++[x]:=⟨L.dropLast,L.getLast (by intro z;rw[z]at c;exact absurd c (by decide)),(Ve _).symm⟩;rw[Q4,ZN]at bd;have ml:(L'++[x]).map V.str=L'.map V.str++[V.str x]:=by rw[Q6];rfl
    refine⟨_,rfl,.inl ⟨rfl,_,SqL.of hl2⟩,lf,_,V.str x,rfl,rfl,hl2,by rw[ml,Q4,ZN,Nat.add_sub_cancel,ZQ (Q2 _),VC];rfl,?_⟩;rw[ml,List.dropLast_concat];have hl2':H2 lf=some (.lst (L'.map V.str++[V.str x])):=by rwa[←ml]
    have hf3:upd H2 lf (.lst (L'.map V.str)) fo=some (.dK kv):=by rwa[zG flf]
    have ts3:TSame H2 (upd H2 lf (.lst (L'.map V.str))):=TSame.upd hl2';have of3:Off [fo] H (upd H2 lf (.lst (L'.map V.str))):=fun b o nb e=>by
     rw[zG (fun z=>by rw[z,nlf]at e;cases e)];exact of2 b o nb e
    have hl3:upd H2 lf (.lst (L'.map V.str)) lf=some (.lst (L'.map V.str)):=zB;have df3:AnS.DictIs K (upd H2 lf (.lst (L'.map V.str))) kv F' (fun _=>.bool true):=⟨df2.keys,df2.nd,df2.val⟩;have m0:=μ_is (σ:=[some (.ref a),some (.ref fo),some (.ref rl),some (.ref fI),some (.ref lf),o5]) hf2 hl2';rw[Q4,QU,ZN]at m0;generalize upd H2 lf (.lst (L'.map V.str))=H3 at hf3 ts3 of3 hl3 df3 ⊢;have fl:=wk.len vc rn gn;have kl:=df3.len;refine⟨_,rfl,_,rfl,fo,_,rfl,DGet.k (k:=.inr x) hf3,_,rfl,VU (fun c2=>?_) (fun c2=>?_)⟩
    ·rw[df3.isSome,Y9,YM]at c2;have wk2:=wk.take c2;have fl2:=wk2.len vc rn gn;have ea:AnS.addL F' x=F'++[x]:=by unfold AnS.addL;rw[Zh c2]
     rw[ea,Q4,ZN]at fl2;have nx:=Xl vc gn rn (wk.rch x (.inr (Zo _ (QV.mpr rfl))));obtain⟨e,he,rfl⟩:=QZ.mp nx;obtain⟨th,hd',tg,_⟩:=ok.th e he;have ep:Cw S e.nm=namesW th:=by rw[Gw gn he,hd',XJ]
     have pl:=uN tg;refine⟨_,rfl,_,rfl,fo,_,rfl,DPut.k (k:=.inr e.nm) hf3 (Zp (by omega:kv.length<16777216) (le_line (Q2 _))),?_⟩;have p1:=(df3.put e.nm (v:=.bl true) (d:=.bool true) rfl).cong (g':=fun _=>.bool true) fun p _=>by show(if p=e.nm then PyData.bool true else .bool true)=_;rw[ite_self]
     have kl4:=p1.len;have hf4:upd H3 fo (.dK (putK kv (.inr e.nm) (.bl true))) fo=some (.dK (putK kv (.inr e.nm) (.bl true))):=zB;have hl4:upd H3 fo (.dK (putK kv (.inr e.nm) (.bl true))) lf=some (.lst (L'.map V.str)):=by rwa[zG (ED flf)]
     have of4:Off [fo] H (upd H3 fo (.dK (putK kv (.inr e.nm) (.bl true)))):=of3.upd (QV.mpr rfl);have df4:AnS.DictIs K (upd H3 fo (.dK (putK kv (.inr e.nm) (.bl true)))) (putK kv (.inr e.nm) (.bl true)) (AnS.addL F' e.nm) (fun _=>.bool true):=⟨p1.keys,p1.nd,p1.val⟩;generalize upd H3 fo (.dK (putK kv (.inr e.nm) (.bl true)))=H4 at hf4 hl4 of4 df4 ⊢;generalize putK kv (.inr e.nm) (.bl true)=kv4 at hf4 df4 kl4;have sh4:=sh.off (Hy hfo) of4 (fun b hb z=>nfo (QV.mp z▸hb));obtain⟨gS,dx,d1,d2,d3,tts,nx',efp,nd',h1,_⟩:=id sh4;refine⟨_,rfl,.inl ⟨rfl,_,SqL.of hl4⟩,rfl,_,rfl,a,dx,_,rfl,h1,rfl,_,rfl,a,fp,S,.str e.nm,.str e.nm,rfl,sh4,rfl,fun e2 he2 ed tt ht=>?_,fun z=>?_⟩
     ·have:e=e2:=Bu gS he he2 (by injection ed);subst this;rw[hd']at ht;refine⟨tt,th,rfl,ht,tg,fun b H5' s5 nb hb=>?_⟩;have lfb:lf≠b:=fun z=>by rw[←z,hl4]at nb;cases nb
      have hl5':=s5 _ _ hl4;have hf5':=s5 _ _ hf4;refine⟨lf,b,_,_,rfl,rfl,hl5',hb,le_line (by rw[QU,QU];omega),?_⟩;have hl5:upd H5' lf (.lst (L'.map V.str++(namesW th).map V.str)) lf=some (.lst ((L'++namesW th).map V.str)):=by rw[zB,Q6]
      have hf5:upd H5' lf (.lst (L'.map V.str++(namesW th).map V.str)) fo=some (.dK kv4):=by rwa[zG flf]
      refine⟨⟨_,kv4,AnS.addL F' e.nm,L'++namesW th,rfl,fun b o nb q=>?_,hf5,⟨df4.keys,df4.nd,df4.val⟩,hl5,?_,?_⟩,?_⟩
      ·rw[zG (fun z=>by rw[z,nlf]at q;cases q)];exact s5 _ _ (of4 b o nb q)
      ·rw[ep]at wk2;exact wk2
      ·rw[ea,Q4,Q4,ZN];omega
      ·rw[m0,μ_is (σ:=[]) hf5 hl5,kl4,ea,Q4,QU,Q4,ZN];omega
     ·rw[show Uf S (.str e.nm)=decide (e.nm∈S.map En.nm) from rfl,QX (QZ.mpr ⟨e,he,rfl⟩)]at z;cases z
    ·rw[df3.isSome,Y9,YM,Decidable.not_not]at c2;refine⟨⟨_,kv,F',L',rfl,of3,hf3,df3,hl3,wk.skip c2,by omega⟩,?_⟩;rw[m0,μ_is (σ:=[]) hf3 hl3,QU];omega
   ·have e0:L=[]:=by
     cases L with
     |nil=>rfl
     |cons x l=>exact absurd (show decide ((0:Int)<((((x::l).map V.str).length:Nat):Int))=true from QX (by rw[QU,Zd];omega)) c
    subst e0;refine k H2 of2 ⟨kv,F',hf2,df2,fun x=>⟨fun hx=>wk.rch x (.inl hx),fun hx=>HH (fun r hr=>(wk.roots r hr).resolve_right (fun z=>nomatch z)) (fun y hy z hz=>(wk.par y hy z hz).resolve_right (fun q=>nomatch q)) hx⟩⟩
  ·intro σ H Q Q' hq hc;obtain⟨v,e1,l,xs,e2,e3,i,j,e4,e5,b,e6,q⟩:=hc;exact⟨v,e1,l,xs,e2,e3,i,j,e4,e5,b,e6,hq _ _ q⟩
end AM
namespace AN
abbrev st:Stmt:=top 39
theorem sc:FnScope ["store","found"] ["store","found"] (zH st):=Ca
theorem ok (F:Fun K "in_order" "in_order" st f fd)(T:Txt P w K mg t1 t2 t3 t4 t5 t6 t7 aL aC aN aT aA b1 b2 b3 fI)(Qb:Met P w K mg base aC 1 "names" ["self"] (vJ P w K aC)):FnOk P w K mg base A9 2 f fd ["store","found"] (HU P w K aC):=by
 refine F.ok sc (fun vs H Q E h=>?_) (fun cdv A outer s H vs Q E hr h=>?_)
 ·obtain⟨a,fo,fp,S,ke,F',rfl,_⟩:=h;rfl
 ·obtain⟨a,fo,fp,S,ke,F',rfl,sh,hfo,df,k⟩:=h;refine⟨_,(zF (zO (y7 (sc:=zH st) (N:=["store","found"]) (N':=["name","found"]) (src:=[none,some 1]) ⟨by decide +kernel,rfl,rfl,by decide +kernel,by decide +kernel,by decide +kernel,by decide +kernel⟩ rfl rfl rfl (xJ (kK (pv 0) T.cls Qb hr.m)) (fun _ _ _ _=>(zS (i:=0) (show(["name","found"]:Da).Nodup by decide +kernel) rfl (EJ rfl))) (fun _ _ _ _=>(XS (zP (X5 hr.units) (pv 0) (pv 1) (by with_unfolding_all rfl)))) (fun _ _ _ _=>(pv 0))))),?_⟩;obtain⟨gS,dx,d1,d2,d3,tts,nx',efp,nd',h1,_⟩:=id sh;refine⟨_,rfl,a,dx,_,rfl,h1,rfl,a,fp,S,rfl,sh,fun l nl=>⟨l,rfl,⟨_,SqL.of zB⟩,?_⟩⟩;have em:(S.map fun e=>V.str e.nm)=(S.map En.nm).map V.str:=by rw[Zv];rfl
  rw[em];have u:=zC (o:=.lst ((S.map En.nm).map V.str)) nl;have hl:SqL K (upd H l (.lst ((S.map En.nm).map V.str))) l ((S.map En.nm).map V.str):=SqL.of zB;have hf1:=u _ _ hfo;generalize upd H l (.lst ((S.map En.nm).map V.str))=H1 at u hl hf1 ⊢;have gl:=gS.len;refine qL (K:=K) (a:=l) (xs:=(S.map En.nm).map V.str) (fun i ys σ H2=>∃o,σ=[o,some (.ref fo)]/\Same H1 H2/\ys.length<=i/\ys=(((S.map En.nm).take i).filter fun x=>decide (x∈F')).map V.str) ⟨none,rfl,Same.refl _,Q2 _,rfl⟩ (le_line (by rw[QU,QU];omega)) ?_ ?_ ?_
  ·rintro i ys σ H2 hi ⟨o,rfl,e2,yl,_⟩;exact⟨e2.seq hl,yl⟩
  ·rintro i y ys σ H2 hy ⟨o,rfl,e2,yl,rfl⟩;rw[Za]at hy;obtain⟨x,hx,ex⟩:=ZB.mp hy;subst ex;have tk:((S.map En.nm).take (i+1)).filter (fun x=>decide (x∈F'))=((S.map En.nm).take i).filter (fun x=>decide (x∈F'))++(if x∈F' then[x] else[]):=by
    rw[Z4,hx,Jr];show _++[x].filter _=_;rw[YW]
    by_cases z:x∈F'
    ·rw[Zk (QX z),Zk z];rfl
    ·rw[Zh (fun q=>z (Zb q)),Zh z];rfl
   refine⟨_,rfl,_,rfl,fo,_,rfl,DGet.k (k:=.inr x) (e2 _ _ hf1),_,rfl,VU (fun c=>⟨_,rfl,_,rfl,e2,?_,?_⟩) (fun c=>⟨_,rfl,e2,Jc yl,?_⟩)⟩
   ·rw[Q4];exact YE yl
   ·rw[df.isSome]at c;rw[tk,Zk (Zb c),Q6];rfl
   ·rw[df.isSome]at c;rw[tk,Zh (fun z=>c (QX z)),Zy]
  ·rintro ys σ H2 ⟨o,rfl,e2,yl,rfl⟩ r nr;rw[QU,Zq];exact k r _ ((u.trans e2).trans (zC nr)) ((u.trans e2).free nr) zB
end AN
theorem BT:∀{ds:Df},(∀d∈ds,Uf S d=true)->∃rs:Da,ds=rs.map .str/\∀r∈rs,r∈S.map En.nm
 |[],_=>⟨[],rfl,fun r hr=>(nomatch hr)⟩
 |d::ds,h=>by
  obtain⟨rs,e,hr⟩:=BT (ds:=ds) fun d hd=>h d (QY _ hd);have h0:=h d Q1;cases d with
  |str x =>
   have h0:decide (x∈S.map En.nm)=true:=h0;refine⟨x::rs,by rw[e];rfl,fun r hr'=>?_⟩
   rcases Q7.mp hr' with z|z
   ·rw[z];exact Zb h0
   ·exact hr r z
  |none=>cases h0
  |bool b=>cases h0
  |int i=>cases h0
  |list ds=>cases h0
  |tuple ds=>cases h0
  |dict Dm=>cases h0
theorem Be:∀{rs:Da} {xs:Dj},DtAll K H (rs.map .str) xs->xs=rs.map V.str
 |[],xs,h=>h
 |r::rs,xs,h=>by
  obtain⟨v,ys,e,hv,hr⟩:=h;rw[e,Be hr];have hv:v=V.str r:=hv;rw[hv];rfl
namespace AO
abbrev st:Stmt:=top 40
theorem sc:FnScope ["store","roots","root","found"] ["store","roots"] (zH st):=Ca
theorem ok (F:Fun K "reached" "reached" st f fd)(T:Txt P w K mg t1 t2 t3 t4 t5 t6 t7 aL aC aN aT aA b1 b2 b3 fI)(Ql:CalX P w K mg base 3 "need_name" ["store","name"] (uG P w K aC aN))(QN:Cal P w K mg base 5 "add_found" ["store","found","roots","names_behind"] (NM P w K aC fI))(QO:Cal P w K mg base 2 "in_order" ["store","found"] (HU P w K aC)):FnOk P w K mg base (Ci P w) 6 f fd ["store","roots"] (Gp P w K aC aN):=by
 refine F.okX sc (fun vs H Q E h=>?_) (fun cdv A outer s H vs Q E hr h=>?_)
 ·obtain⟨a,rl,fp,S,ds,rs,rfl,_⟩:=h;rfl
 ·obtain⟨a,rl,fp,S,ds,xs,rfl,sh,ok,cl,hrl,hds,rsl,k1,k2⟩:=h;refine⟨_,(zE (xP LD rfl (xJ (pv 1)) (zS (i:=2) sc.nd rfl (EJ rfl)) (zF (yB (jW Ql hr.m xH (zA (pv 0) (zA (pv 2) zD)))))) (zE (A8 (i:=3) sc.nd qG) (zE (yB (zK QN hr.m (zA (pv 0) (zA (pv 3) (zA (pv 1) (zA (xA (v:=.ref fI) rfl T.names_in rfl) zD)))))) (zF (zO (zK QO hr.m (zA (pv 0) (zA (pv 3) zD)))))))),?_⟩
  have xl:=hds.length;refine⟨_,rfl,rl,rfl,⟨_,hrl⟩,kC (K:=K) (a:=rl) (xs:=xs) (fun i σ H'=>∃o2,σ=[some (.ref a),some (.ref rl),o2,none]/\H'=H/\∀d∈ds.take i,Uf S d=true) ⟨none,rfl,rfl,fun d hd=>(nomatch hd)⟩ (fun i σ H' _ ⟨_,_,e2,_⟩=>by rwa[e2]) ?_ ?_⟩
  ·rintro i v σ H' hv ⟨o2,rfl,rfl,hb⟩;obtain⟨d,hd,dv⟩:=hds.get hv;refine yC ⟨_,rfl,_,rfl,a,fp,S,d,v,rfl,sh,Dt.dw dv,fun z=>⟨_,rfl,rfl,fun d' hd'=>?_⟩,fun z=>k2 ⟨d,Zc hd,z⟩⟩;rw[take_snoc hd]at hd'
   rcases Zf.mp hd' with q|q
   ·exact hb d' q
   ·rwa[QV.mp q]
  ·rintro σ H' ⟨o2,rfl,rfl,hb⟩;rw[xl,Zq]at hb;obtain⟨rs,rfl,hrs⟩:=BT hb;have ex:xs=rs.map V.str:=Be hds;subst ex;rw[QU]at rsl;refine fun fo nfo=>?_;have u1:=zC (o:=.dK []) nfo;refine⟨_,rfl,_,rfl,_,rfl,a,fo,rl,fp,S,rs,rfl,sh.same u1,ok,cl,zB,sh.ex.not nfo,u1.seq hrl,rsl,hrs,fun H2 of2 ⟨ke,F',hf2,df2,hF⟩=>?_⟩;have s2:Same H' H2:=fun b o e=>of2 b o (fun z=>by rw[QV.mp z,nfo]at e;cases e) (u1 _ _ e);refine⟨_,rfl,_,rfl,a,fo,fp,S,ke,F',rfl,sh.same s2,hf2,df2,fun l H3 s3 nl hl=>?_⟩;exact k1 rs rfl hrs l H3 (s2.trans s3) (s2.free nl) ⟨F',hF,hl⟩
end AO
def MenuP (p:Nat->Bool)(n:Nat)(x:Str):Prop:=(cs x).length=n/\(cs x).all p=true
theorem MenuP.at (h:MenuP p n x){i:Int}(h0:0<=i)(h1:i<n):∃c,Cg x.cps.toList i=some c/\p c=true:=by
 obtain⟨j,rfl⟩:=Ji h0;have hj:j<(cs x).length:=by rw[h.1];omega
 exact⟨(cs x)[j],xQ (Q5 hj),Zu.mp h.2 _ (ZV hj)⟩
theorem MenuP.len (h:MenuP p n x)(hn:n<=1000):x.length<=sizeLine:=le_line (by rw[length_cs,h.1];omega)
def VY (ns:List Int)(k:Int):Int:=ns.getD k.toNat 0
def HN (K:AZ):Sp:=fun vs H Q _=>∃(a:Eh) (ns:List Int) (k:Int),vs=[.ref a,.int k]/\SqL K H a (ns.map V.int)/\0<=k/\Q (.int (VY ns k)) H
def menuZ:Str:=" !\"#$&'()*+,-./0123456789:;<=>?@ABCDEFGHIJKLMNOPQRSTUVWXYZ[\\]^_`"++"abcdefghijklmnopqrstuvwxyz{|}~"
def sizeZ (c:Int):Int:=if c / 4 % 9=1 then 17+c / 36 % 4 else c % 4
def Tq (c:Int)(i:Nat):Nat:=(Cg menuZ.cps.toList ((c / 4*(0+(i:Int)+1)+c / 7+5*(0+(i:Int))) % 94)).getD 0
def RO (c:Int)(n:Nat):List Nat:=(EA n).map (Tq c)
def MX (c:Int):Str:=⟨(RO c (sizeZ c).toNat).toArray⟩
theorem MZ (c:Int)(n:Nat):RO c (n+1)=RO c n++[Tq c n]:=by
 unfold RO;rw[Y8,Q6];rfl
theorem Mu (c:Int):cs (MX c)=RO c (sizeZ c).toNat:=rfl
def CZ:Sp:=fun vs H Q _=>∃c,vs=[.int c]/\∀x H',VS x=true->x=MX c->Same H H'->Q (.str x) H'
def FE (c:Int)(t:Nat):Str:=([("a":Str),"b","","cd","zz",MX (c / 7)][((c / 11+(0+(t:Int))) % 6).toNat]?).getD ""
def xV (c:Int)(row:Da)(t:Nat):Da :=
 if c / 2 % 2=(0+(t:Int)) % 2 then row.take ((c / 3+5*(0+(t:Int))) % ((row.length:Int)+1)).toNat++[FE c t]++row.drop ((c / 3+5*(0+(t:Int))) % ((row.length:Int)+1)).toNat
 else row.take ((c / 3+5*(0+(t:Int))) % ((row.length:Int)+1)).toNat++row.drop (((c / 3+5*(0+(t:Int))) % ((row.length:Int)+1)).toNat+1)
def Ix (c:Int)(L:Da):Da:=(EA (c % 3).toNat).foldl (xV c) L
def NR (K:AZ):Sp:=fun vs H Q _=>∃(v:V) (c:Int) (L:Da),vs=[v,.int c]/\Dt K H (AnJ.tupS L) v/\(∀l∈L,VS l=true)/\L.length<=500/\∀p H',Same H H'->H' p=some (.tup ((Ix c L).map V.str))->(∀l∈Ix c L,VS l=true)->(Ix c L).length<=L.length+2->Q (.ref p) H'
theorem Re {H:Hp}{a:Eh}(n:H a=none):Same H (upd H a o)/\upd H a o a=some o:=⟨zC n,zB⟩
def HM:Da:=["a","b","","cd"]
def VZ (c:Int)(Ls:List Da):Da:=if c % 4=0\/Ls=[] then(EA (c / 4 % 7).toNat).map (fun(k:Nat)=>(HM[((c / 4+(0+(k:Int))*(c / 28 % 4)) % 4).toNat]?).getD "") else Ix (c / 5) ((Ls[(c / 4 % (Ls.length:Int)).toNat]?).getD [])
def V4 (L:Da):PyData:=(Th.leaf L).dat
theorem XX:∀Ls:List Da,(∀L∈Ls,∀l∈L,VS l=true)->Ep (Ls.map V4)=true/\Ez (Ls.map V4)<=10
 |[],_=>⟨rfl,Zz _⟩
 |L::Ls,h=>by
  obtain⟨h1,h2⟩:=XX Ls fun L hL=>h L (QY _ hL);obtain⟨g1,g2⟩:=jN L fun l hl=>(kY (h L Q1 l hl)).ok;constructor
  ·show((Em "leaf"&&(Ep (L.map .str)&&true))&&Ep (Ls.map V4))=true;rw[g1,h1]
   decide +kernel
  ·show max (max 0 (max (Ez (L.map .str)+1) 0)+1) (Ez (Ls.map V4))<=10;rw[g2];omega
theorem yQ {Ls:List Da}(h:∀L∈Ls,∀l∈L,VS l=true):SeqAt.shaped (.list (Ls.map V4))=true:=by
 obtain⟨h1,h2⟩:=XX Ls h;unfold SeqAt.shaped;rw[Q8,Zt];exact⟨h1,by show Ez (Ls.map V4)+1<=64;omega⟩
theorem Xi (Ls:List Da):EE (.list (Ls.map V4)) (.list [])=decide (Ls=[]):=by
 cases Ls with
 |nil=>rfl
 |cons L Ls=>rw[Q9 (Yv _ _)];rfl
def CY (K:AZ):Sp:=fun vs H Q _=>∃(a:Eh) (c:Int) (Ls:List Da) (n:Nat) (xs:Dj),vs=[.ref a,.int c]/\H a=some (.lst xs)/\DtAll K H (Ls.map V4) xs/\(∀L∈Ls,∀l∈L,VS l=true)/\(∀L∈Ls,L.length<=n)/\n<=400/\Ls.length<=100 /\
 ∀v H',Same H H'->Dt K H' (V4 (VZ c Ls)) v->(∀l∈VZ c Ls,VS l=true)->(VZ c Ls).length<=max 6 (n+2)->Q v H'
namespace AQ
abbrev st:Stmt:=top 54
theorem sc:FnScope ["_law_script","_law_k"] ["_law_script","_law_k"] (zH st):=Ca
theorem ok (F:Fun K "_law_cell_at" "_law_cell_at" st f fd)(T:Txt P w K mg t1 t2 t3 t4 t5 t6 t7 aL aC aN aT aA b1 b2 b3 fI):FnOk P w K mg base A9 1 f fd ["_law_script","_law_k"] (HN K):=by
 refine F.ok sc (fun vs H Q E h=>?_) (fun cdv A outer s H vs Q E hr h=>?_)
 ·obtain⟨a,ns,k,rfl,_⟩:=h;rfl
 ·obtain⟨a,ns,k,rfl,hs,h0,q⟩:=h;refine⟨_,(zE (yM (zP Sk (pv 1) (zJ zN (by rfl) T.len ZE (zA (pv 0) zD)) (zT _)) (zF (zO (z7 (ix_list:A7 _ (Xa K)) (pv 0) (pv 1) (fun _ _=>rfl)))) zU) (zF (zO zI))),?_⟩
  refine⟨_,rfl,_,rfl,a,_,rfl,.inl hs,_,_,rfl,rfl,_,rfl,VU (fun h=>?_) (fun h=>?_)⟩
  ·have h1:k<ns.length:=by simpa using h
   have hj:k.toNat<ns.length:=by omega
   have hn:Cg (ns.map V.int) k=some (.int (VY ns k)):=by
    have e:((k.toNat:Nat):Int)=k:=Int.toNat_of_nonneg h0
    conv=>lhs;rw[←e]
    refine xQ ?_;rw[Za,Q5 hj];unfold VY;rw[ZX,Q5 hj];rfl
   exact⟨_,rfl,_,rfl,a,_,_,_,rfl,rfl,hs,hn,q⟩
  ·have h1:¬k<ns.length:=by simpa using h
   have e:VY ns k=0:=by
    unfold VY;rw[ZX,JB.mpr (by omega)];rfl
   rw[e]at q;exact q
end AQ
namespace AR
abbrev st:Stmt:=top 55
theorem sc:FnScope ["_law_cell","_law_some","_law_size"] ["_law_cell"] (zH st):=Ca
theorem ok (F:Fun K "_law_line_by" "_law_line_by" st f fd)(T:Txt P w K mg t1 t2 t3 t4 t5 t6 t7 aL aC aN aT aA b1 b2 b3 fI):FnOk P w K mg base A9 1 f fd ["_law_cell"] CZ:=by
 refine F.ok sc (fun vs H Q E h=>?_) (fun cdv A outer s H vs Q E hr h=>?_)
 ·obtain⟨c,rfl,_⟩:=h;rfl
 ·obtain⟨c,rfl,k⟩:=h;refine⟨_,(zE (A8 (i:=1) sc.nd pe_str) (zE (A8 (i:=1) sc.nd (zQ qQ (pv 1) pe_str)) (zE (A8 (i:=2) sc.nd (zQ yI (pv 0) zI)) (q9 (yM (zP xN (zQ yI (zQ yD (pv 0) zI) zI) zI (zT _)) (zF (A8 (i:=2) sc.nd (zQ x6 zI (zQ yI (zQ yD (pv 0) zI) zI)))) zU) (zF (zO (jY Yo JZ J0 Bp pe_str (zA (y7 (sc:=zH st) (N:=["_law_cell","_law_some","_law_size"]) (N':=["_law_k","_law_some","_law_cell"]) (src:=[none,some 1,some 0]) ⟨by decide +kernel,rfl,rfl,by decide +kernel,by decide +kernel,by decide +kernel,by decide +kernel⟩ rfl rfl rfl (jL rfl T.range (zA (pv 2) zD)) (fun _ _ _ _=>(zS (i:=0) (show(["_law_k","_law_some","_law_cell"]:Da).Nodup by decide +kernel) rfl (EJ rfl))) (fun _ _ _ _=>qF) (fun _ _ _ _=>(z7 Fz (pv 1) (zQ yI (zQ x6 (zQ x6 (zQ UQ (zQ yD (pv 2) zI) (zQ x6 (pv 0) zI)) (zQ yD (pv 2) zI)) (zQ UQ zI (pv 0))) zI) (fun _ _=>rfl)))) zD)))))))),?_⟩
  refine⟨_,rfl,_,_,rfl,rfl,le_line (by decide +kernel),_,rfl,_,_,rfl,rfl,(by show(0:Int)<4;decide),fun σ' H'=>∃n S,σ'=[some (.int c),some (.str S),some (.int n)]/\H'=H/\0<=n/\n<=20/\n=sizeZ c/\S=menuZ/\MenuP V7 94 S,?_,?_⟩
  ·refine⟨_,rfl,_,_,rfl,rfl,⟨by decide,by decide⟩,_,_,rfl,rfl,(by show(0:Int)<9;decide),rfl,_,rfl,VU (fun z=>?_) (fun z=>?_)⟩
   ·have z:c / 4 % 9=1:=by simpa using z
    exact⟨_,rfl,_,_,rfl,rfl,⟨by decide,by decide⟩,_,_,rfl,rfl,(by show(0:Int)<4;decide),_,_,rfl,rfl,_,_,rfl,rfl,by omega,by omega,by unfold sizeZ;rw[Zk z],rfl,by decide +kernel,by decide +kernel⟩
   ·have z:¬c / 4 % 9=1:=by simpa using z
    exact⟨_,_,rfl,rfl,by omega,by omega,by unfold sizeZ;rw[Zh z],rfl,by decide +kernel,by decide +kernel⟩
  ·rintro σ' H' ⟨n,S,rfl,rfl,h0,h20,en,eS,hS⟩;refine⟨rfl,_,rfl,n,rfl,by omega,by omega,j7 (fun i ys σ H2=>∃x l,σ=[x,some (.str S),some (.int c)]/\H2=H'/\ys=(l.map one).map V.str/\l.length=i/\l=RO c i/\∀c∈l,V7 c=true) ⟨none,[],rfl,rfl,rfl,rfl,rfl,fun c hc=>nomatch hc⟩ (le_line (by omega))
    (fun i ys σ H2 hi ⟨x,l,_,_,ey,el,_,_⟩=>by rw[ey,QU,QU,el];exact Q2 _) ?_ ?_⟩
   ·rintro i ys σ H2 hi ⟨x,l,rfl,rfl,rfl,rfl,lz,al⟩;refine⟨_,rfl,_,rfl,_,_,rfl,rfl,⟨by decide,by decide⟩,_,rfl,_,_,rfl,rfl,_,_,rfl,rfl,.inr ⟨by omega,by omega⟩,_,rfl,_,_,rfl,rfl,⟨by decide,by decide⟩,_,_,rfl,rfl,_,rfl,_,_,rfl,rfl,.inl ⟨by decide,by decide⟩,_,_,rfl,rfl,_,_,rfl,rfl,(by show(0:Int)<94;decide),?_⟩;obtain⟨d,hd1,hd2⟩:=hS.at (i:=(c / 4*(0+((l.length:Nat):Int)+1)+c / 7+5*(0+((l.length:Nat):Int))) % 94) (by omega) (by omega);refine⟨S,_,d,rfl,rfl,hS.len (by decide),hd1,_,l++[d],rfl,rfl,?_,by simp,?_,Xv al hd2⟩
    ·rw[Q6,Q6];rfl
    ·rw[MZ,←lz]
     congr 2
     unfold Tq;rw[←eS,hd1];rfl
   ·rintro ys σ H2 ⟨x,l,rfl,rfl,rfl,el,lz,al⟩ p np;have c0:("":Str).length=0:=by decide +kernel
    refine⟨_,p,l.map one,rfl,rfl,.inl (SqL.of zB),by rw[B8,c0];omega,k _ _ (line_parts.mpr ⟨?_,?_⟩) (cs_inj (by rwa[j8,Mu,←en])) (zC np)⟩
    ·rw[length_cs,j8];omega
    ·rwa[j8,Zu]
end AR
namespace AS
abbrev st:Stmt:=top 56
theorem sc:FnScope ["_law_lines","_law_cell","_law_row","_law_turn","_law_at","_law_line"] ["_law_lines","_law_cell"] (zH st):=Ca
theorem ok (F:Fun K "_law_lines_near" "_law_lines_near" st f fd)(T:Txt P w K mg t1 t2 t3 t4 t5 t6 t7 aL aC aN aT aA b1 b2 b3 fI)(QP:Cal P w K mg base 1 "_law_line_by" ["_law_cell"] CZ):FnOk P w K mg base A9 2 f fd ["_law_lines","_law_cell"] (NR K):=by
 refine F.ok sc (fun vs H Q E h=>?_) (fun cdv A outer s H vs Q E hr h=>?_)
 ·obtain⟨v,c,L,rfl,_⟩:=h;rfl
 ·obtain⟨v,c,L,rfl,dv,lb,ll,k⟩:=h;refine⟨_,(zE (A8 (i:=2) sc.nd (zZ yP (by rfl) T.list ZT (zA (pv 0) zD))) (zE (xP EM rfl (jL rfl T.range (zA (zQ yI (pv 1) zI) zD)) (zS (i:=3) sc.nd rfl (EJ rfl)) (zE (A8 (i:=4) sc.nd (zQ yI (zQ x6 (zQ yD (pv 1) zI) (zQ UQ zI (pv 3))) (zQ x6 (zJ zN (by rfl) T.len ZE (zA (pv 2) zD)) zI))) (zE (A8 (i:=5) sc.nd (z7 (ix_list:A7 _ (Xa K)) (yN (zA pe_str (zA pe_str (zA pe_str (zA pe_str (zA pe_str (zA (zK QP hr.m (zA (zQ yD (pv 1) zI) zD)) zD))))))) (zQ yI (zQ x6 (zQ yD (pv 1) zI) (pv 3)) zI) (fun _ _=>rfl))) (zF (yM (zP xN (zQ yI (zQ yD (pv 1) zI) zI) (zQ yI (pv 3) zI) (zT _)) (zF (A8 (i:=2) sc.nd (zQ uS (zQ uS (xF (sl_list:Hc _ (Ig K)) (pv 2) j6 (yZ (pv 4))) (yN (zA (pv 5) zD))) (xF (sl_list:Hc _ (Ig K)) (pv 2) (yZ (pv 4)) j6)))) (zF (A8 (i:=2) sc.nd (zQ uS (xF (sl_list:Hc _ (Ig K)) (pv 2) j6 (yZ (pv 4))) (xF (sl_list:Hc _ (Ig K)) (pv 2) (yZ (zQ x6 (pv 4) zI)) j6))))))))) (zF (zO (zZ xT (by rfl) T.tuple ZZ (zA (pv 2) zD)))))),?_⟩
  obtain⟨b,xs,rfl,hb,hx⟩:=dv;have ex:=Be hx;subst ex;refine⟨_,rfl,b,_,rfl,.inr hb,fun l0 n0=>?_⟩;have u0:=zC (o:=.lst (L.map V.str)) n0;have m3:0<=c % 3/\c % 3<3:=⟨ZG _ (by decide),Zx _ (by decide)⟩;refine yC ⟨_,rfl,_,_,rfl,rfl,(by decide:(0:Int)<3),_,rfl,by omega,by omega,UF (lo:=0) (n:=(c % 3).toNat) (fun t σ H'=>∃l o3 o4 o5,σ=[some (.ref b),some (.int c),some (.ref l),o3,o4,o5]/\Same H H'/\H' l=some (.lst (((EA t).foldl (xV c) L).map V.str))/\(∀y∈(EA t).foldl (xV c) L,VS y=true)/\((EA t).foldl (xV c) L).length<=L.length+t) ⟨l0,none,none,none,rfl,u0,zB,lb,Q2 _⟩ ?_ ?_⟩
  ·rintro t σ H' ht ⟨l,o3,o4,o5,rfl,s',hl,lb',ll'⟩;have ht:t<3:=by omega
   have ef:(EA (t+1)).foldl (xV c) L=xV c ((EA t).foldl (xV c) L) t:=by rw[Y8,Z5];rfl
   rw[ef];generalize (EA t).foldl (xV c) L=row at hl lb' ll' ⊢;have rl:(row.map V.str).length=row.length:=QU _;have a0:0<=(c / 3+5*(0+(t:Int))) % ((row.length:Int)+1):=ZG _ (by omega);have a1:(c / 3+5*(0+(t:Int))) % ((row.length:Int)+1)<(row.length:Int)+1:=Zx _ (by omega);refine yC ⟨_,rfl,_,_,rfl,rfl,⟨by decide,by decide⟩,_,rfl,_,_,rfl,rfl,.inl ⟨by decide,by decide⟩,_,_,rfl,rfl,_,rfl,l,_,rfl,.inl (SqL.of hl),_,_,rfl,rfl,_,_,rfl,rfl,(show(0:Int)<(((row.map V.str).length:Nat):Int)+1 by omega),?_⟩;rw[rl];refine⟨_,rfl,_,_,rfl,rfl,⟨by decide,by decide⟩,_,rfl,fun x H1 lx ex s1=>⟨VP 6,fun l6 n6=>?_⟩⟩;have b0:0<=(c / 11+(0+(t:Int))) % 6:=ZG _ (by decide);have b1:(c / 11+(0+(t:Int))) % 6<6:=Zx _ (by decide);obtain⟨y,hy,ey⟩:=XN (f:=V.str) (xs:=[("a":Str),"b","","cd","zz",x]) (i:=(c / 11+(0+(t:Int))) % 6) b0 b1;have yl:y=FE c t:=by
    unfold FE;rw[←ex,hy];rfl
   have yb:VS y=true:=by
    have:=Zc hy
    rcases Q7.mp this with z|z
    ·rw[z];decide +kernel
    rcases Q7.mp z with z|z
    ·rw[z];decide +kernel
    rcases Q7.mp z with z|z
    ·rw[z];decide +kernel
    rcases Q7.mp z with z|z
    ·rw[z];decide +kernel
    rcases Q7.mp z with z|z
    ·rw[z];decide +kernel
    rwa[QV.mp z]
   have u6:=zC (o:=.lst [V.str "a",V.str "b",V.str "",V.str "cd",V.str "zz",V.str x]) n6;refine⟨_,rfl,_,_,rfl,rfl,⟨by decide,by decide⟩,_,rfl,_,_,rfl,rfl,_,_,rfl,rfl,(by decide:(0:Int)<6),l6,_,_,_,rfl,rfl,SqL.of zB,ey,?_⟩;have s6:=(s'.trans s1).trans u6;have hl6:=u6 _ _ (s1 _ _ hl);rw[yl]at yb ⊢;generalize upd H1 l6 (.lst [V.str "a",V.str "b",V.str "",V.str "cd",V.str "zz",V.str x])=H6 at s6 hl6 ⊢;clear u6 n6 hl s1 s' ey hy;unfold xV;dsimp only;generalize (c / 3+5*(0+(t:Int))) % ((row.length:Int)+1)=at_ at a0 a1 ⊢;have tk:∀(n:Nat),(row.map V.str).take n=(row.take n).map V.str:=fun n=>Jd.symm;have dp:∀(n:Nat),(row.map V.str).drop n=(row.drop n).map V.str:=fun n=>List.map_drop.symm;have tl:(row.take at_.toNat).length<=row.length:=by rw[Zm];omega
   have dl:∀n,(row.drop n).length<=row.length:=fun n=>by rw[Z9];omega
   refine⟨_,rfl,_,_,rfl,rfl,⟨by decide,by decide⟩,_,_,rfl,rfl,(by decide:(0:Int)<2),_,rfl,_,_,rfl,rfl,(by decide:(0:Int)<2),rfl,_,rfl,VU (fun z=>?_) (fun z=>?_)⟩
   ·have z:c / 2 % 2=(0+(t:Int)) % 2:=by
     have:=Zb z;exact V.int.inj this
    rw[Zk z];refine⟨_,rfl,_,rfl,at_,rfl,l,_,rfl,SqL.of hl6,fun l7 n7=>?_⟩;rw[GU a0,tk];have u7:=zC (o:=.lst ((row.take at_.toNat).map V.str)) n7;refine⟨_,rfl,VP 1,fun l8 n8=>?_⟩;have u8:=zC (o:=.lst [V.str (FE c t)]) n8;refine⟨l7,l8,_,_,rfl,rfl,u8 _ _ zB,zB,le_line (by rw[QU];show _+1<=_;omega),fun l9 n9=>?_⟩;have e9:(row.take at_.toNat).map V.str++[V.str (FE c t)]=(row.take at_.toNat++[FE c t]).map V.str:=by rw[Q6];rfl
    rw[e9];have u9:=zC (o:=.lst ((row.take at_.toNat++[FE c t]).map V.str)) n9;have u79:=(u7.trans u8).trans u9;refine⟨_,rfl,_,rfl,at_,rfl,l,_,rfl,SqL.of (u79 _ _ hl6),fun l10 n10=>?_⟩;rw[Ik a0,dp];have u10:=zC (o:=.lst ((row.drop at_.toNat).map V.str)) n10;refine⟨l9,l10,_,_,rfl,rfl,u10 _ _ zB,zB,le_line (by have:=dl at_.toNat;rw[QU,QU,Q4];show _+1+_<=_;omega),fun l11 n11=>?_⟩;rw[←Q6];have dl':=dl at_.toNat;refine⟨l11,_,_,_,rfl,((s6.trans u79).trans u10).trans (zC n11),zB,fun y hy=>?_,?_⟩
    ·rcases Zf.mp hy with q|q
     ·rcases Zf.mp q with q|q
      ·exact lb' y (ZU q)
      ·rwa[QV.mp q]
     ·exact lb' y (Vd q)
    ·rw[Q4,Q4,Zm,Z9];show _+1+_<=_;omega
   ·have z:¬c / 2 % 2=(0+(t:Int)) % 2:=fun q=>z (QX (congrArg V.int q));rw[Zh z];refine⟨_,rfl,_,rfl,at_,rfl,l,_,rfl,SqL.of hl6,fun l7 n7=>?_⟩;rw[GU a0,tk];have u7:=zC (o:=.lst ((row.take at_.toNat).map V.str)) n7;refine⟨_,rfl,_,rfl,_,_,rfl,rfl,at_+1,rfl,l,_,rfl,SqL.of (u7 _ _ hl6),fun l8 n8=>?_⟩;have e8:(at_+1).toNat=at_.toNat+1:=by omega
    rw[Ik (by omega),e8,dp];have u8:=zC (o:=.lst ((row.drop (at_.toNat+1)).map V.str)) n8;have dl':=dl (at_.toNat+1);refine⟨l7,l8,_,_,rfl,rfl,u8 _ _ zB,zB,le_line (by rw[QU,QU];omega),fun l9 n9=>?_⟩;rw[←Q6];refine⟨l9,_,_,_,rfl,((s6.trans u7).trans u8).trans (zC n9),zB,fun y hy=>?_,?_⟩
    ·rcases Zf.mp hy with q|q
     ·exact lb' y (ZU q)
     ·exact lb' y (Vd q)
    ·rw[Q4,Zm,Z9];omega
  ·rintro σ H' ⟨l,o3,o4,o5,rfl,s',hl,lb',ll'⟩;refine⟨_,rfl,l,_,rfl,.inl ⟨SqL.of hl,fun p np=>?_⟩⟩;exact k p _ (s'.trans (zC np)) zB lb' (by show(Ix c L).length<=_;unfold Ix;omega)
end AS
namespace AT
abbrev st:Stmt:=top 57
theorem sc:FnScope ["_law_leaves","_law_cell","_law_some"] ["_law_leaves","_law_cell"] (zH st):=Ca
theorem ok (F:Fun K "_law_leaf_by" "_law_leaf_by" st f fd)(T:Txt P w K mg t1 t2 t3 t4 t5 t6 t7 aL aC aN aT aA b1 b2 b3 fI)(QQ:Cal P w K mg base 2 "_law_lines_near" ["_law_lines","_law_cell"] (NR K)):FnOk P w K mg base A9 3 f fd ["_law_leaves","_law_cell"] (CY K):=by
 refine F.ok sc (fun vs H Q E h=>?_) (fun cdv A outer s H vs Q E hr h=>?_)
 ·obtain⟨a,c,Ls,n,xs,rfl,_⟩:=h;rfl
 ·obtain⟨a,c,Ls,n,xs,rfl,ha,hx,lb,ll,n4,l10,k⟩:=h;refine⟨_,(zE (yM (PW.pt (uH (zP xN (zQ yI (pv 1) zI) zI (zT _)) (j0 (zP (G4 hr.units) (pv 0) (yN zD) (zT _))))) (zE (A8 (i:=2) sc.nd (yN (zA pe_str (zA pe_str (zA pe_str (zA pe_str zD)))))) (zF (zO (jA (zA pe_str (zA (zZ xT (by rfl) T.tuple ZZ (zA (y7 (sc:=zH st) (N:=["_law_leaves","_law_cell","_law_some"]) (N':=["_law_k","_law_some","_law_cell"]) (src:=[none,some 2,some 1]) ⟨by decide +kernel,rfl,rfl,by decide +kernel,by decide +kernel,by decide +kernel,by decide +kernel⟩ rfl rfl rfl (jL rfl T.range (zA (zQ yI (zQ yD (pv 1) zI) zI) zD)) (fun _ _ _ _=>(zS (i:=0) (show(["_law_k","_law_some","_law_cell"]:Da).Nodup by decide +kernel) rfl (EJ rfl))) (fun _ _ _ _=>qF) (fun _ _ _ _=>(z7 (ix_list:A7 _ (Xa K)) (pv 1) (zQ yI (zQ x6 (zQ yD (pv 2) zI) (zQ UQ (pv 0) (zQ yI (zQ yD (pv 2) zI) zI))) zI) (fun _ _=>rfl)))) zD)) zD)))))) zU) (zF (zO (jA (zA pe_str (zA (zK QQ hr.m (zA (z7 (ix_tup:A7 _ (VR K)) (z7 (ix_list:A7 _ (Xa K)) (pv 0) (zQ yI (zQ yD (pv 1) zI) (zJ zN (by rfl) T.len ZE (zA (pv 0) zD))) (fun _ _=>rfl)) zI (fun _ _=>rfl)) (zA (zQ yD (pv 1) zI) zD))) zD)))))),?_⟩
  have xl:=hx.length;rw[QU]at xl;have m7:0<=c / 4 % 7/\c / 4 % 7<7:=⟨ZG _ (by decide),Zx _ (by decide)⟩;have lnil:∀L∈([]:List Da),∀l∈L,VS l=true:=fun L hL=>(nomatch hL);refine⟨_,rfl,_,_,rfl,rfl,(by decide:(0:Int)<4),rfl,_,rfl,VU (fun h1=>?b) (fun h1=>⟨_,rfl,VP 0,fun l0 n0=>⟨.list (Ls.map V4),.list [],⟨a,xs,rfl,SqL.of (zC n0 _ _ ha),DtAll.same (zC n0) _ _ hx⟩,⟨l0,[],rfl,SqL.of zB,rfl⟩,yQ lb,yQ lnil,_,rfl,VU (fun h2=>?c) (fun h2=>?d)⟩⟩)⟩
  case' b =>
   have s1:=Same.refl H;have hz:c % 4=0\/Ls=[]:=.inl (V.int.inj (Zb h1))
  case' c =>
   have s1:=zC (o:=.lst []) n0;have hz:c % 4=0\/Ls=[]:=.inr (by rw[Xi]at h2;exact Zb h2);generalize upd H l0 (.lst [])=H1 at s1 ⊢
  case b|c =>
   refine⟨VP 4,fun l1 n1=>?_⟩;obtain⟨u1,hl1⟩:=Re (o:=.lst [V.str "a",V.str "b",V.str "",V.str "cd"]) n1;have s2:=s1.trans u1;have ez:VZ c Ls=(EA (c / 4 % 7).toNat).map (fun(k:Nat)=>(HM[((c / 4+(0+(k:Int))*(c / 28 % 4)) % 4).toNat]?).getD ""):=by
    unfold VZ;rw[Zk hz]
   refine yC ⟨_,rfl,_,_,rfl,rfl,⟨by decide,by decide⟩,_,_,rfl,rfl,(by decide:(0:Int)<7),_,rfl,by omega,by omega,j7 (fun i ys σ H2=>∃o ls,σ=[o,some (.ref l1),some (.int c)]/\H2=_/\ys=ls.map V.str/\ls.length=i/\ls=(EA i).map (fun(k:Nat)=>(HM[((c / 4+(0+(k:Int))*(c / 28 % 4)) % 4).toNat]?).getD "")/\∀l∈ls,VS l=true) ⟨none,[],rfl,rfl,rfl,rfl,rfl,fun l hl=>(nomatch hl)⟩ (le_line (by omega)) ?_ ?_ ?_⟩
   ·rintro i ys σ H2 hi ⟨o,ls,rfl,rfl,rfl,ll,_,_⟩;rw[QU,ll];exact Q2 _
   ·rintro i ys σ H2 hi ⟨o,ls,rfl,rfl,rfl,ll,lz,lo⟩;have b0:0<=(c / 4+(0+(i:Int))*(c / 28 % 4)) % 4:=ZG _ (by decide);have b1:(c / 4+(0+(i:Int))*(c / 28 % 4)) % 4<4:=Zx _ (by decide);obtain⟨y,hy,ey⟩:=XN (f:=V.str) (xs:=HM) (i:=(c / 4+(0+(i:Int))*(c / 28 % 4)) % 4) b0 b1;have yb:VS y=true:=by
     rcases Q7.mp (Zc hy) with z|z
     ·rw[z];decide +kernel
     rcases Q7.mp z with z|z
     ·rw[z];decide +kernel
     rcases Q7.mp z with z|z
     ·rw[z];decide +kernel
     rw[QV.mp z];decide +kernel
    refine⟨_,rfl,_,rfl,_,_,rfl,rfl,⟨by decide,by decide⟩,_,rfl,_,rfl,_,_,rfl,rfl,⟨by decide,by decide⟩,_,_,rfl,rfl,(by decide:(0:Int)<4),_,_,rfl,rfl,.inr ⟨by have:(0:Int)<=c / 28 % 4:=ZG _ (by decide);omega,by have:c / 28 % 4<4:=Zx _ (by decide);omega⟩,_,_,rfl,rfl,_,_,rfl,rfl,(by decide:(0:Int)<4),l1,_,_,_,rfl,rfl,SqL.of hl1,ey,_,ls++[y],rfl,rfl,by rw[Q6];rfl,by rw[Q4,ll];rfl,by rw[Y8,Q6,←lz,Zn,JQ,hy];rfl,Xv lo yb⟩
   ·rintro ys σ H2 ⟨o,ls,rfl,rfl,rfl,ll,lz,lo⟩ p np;have up:=zC (o:=.lst (ls.map V.str)) np;refine⟨p,_,rfl,.inl ⟨SqL.of zB,fun p2 n2=>⟨VP 2,fun p3 n3=>?_⟩⟩⟩;have u2:=zC (o:=.tup (ls.map V.str)) n2;have u3:=zC (o:=.tup [V.str "leaf",V.ref p2]) n3;refine k _ _ (((s2.trans up).trans u2).trans u3) ?_ (by rwa[ez,←lz]) (by rw[ez,←lz,ll];omega);rw[ez,←lz];exact⟨p3,_,rfl,SqT.of zB,_,_,rfl,rfl,_,_,rfl,⟨p2,_,rfl,SqT.of (u3 _ _ zB),DtAll.strs ls⟩,rfl⟩
  case d =>
   have u0:=zC (o:=.lst []) n0;have ne:Ls≠[]:=fun z=>h2 (by rw[Xi,QX z]);have lp:0<Ls.length:=Yg.mpr ne;have n1:¬(c % 4=0\/Ls=[]):=fun z=>z.elim (fun q=>h1 (QX (congrArg V.int q))) ne;have a0:0<=c / 4 % (Ls.length:Int):=ZG _ (by omega);have a1:c / 4 % (Ls.length:Int)<(Ls.length:Int):=Zx _ (by omega);obtain⟨L,hL⟩:∃L,Ls[(c / 4 % (Ls.length:Int)).toNat]?=some L:=⟨_,Q5 (by omega)⟩;have ez:VZ c Ls=Ix (c / 5) L:=by
    unfold VZ;rw[Zh n1,hL];rfl
   have Lm:=Zc hL;obtain⟨v,hv⟩:∃v,xs[(c / 4 % (xs.length:Int)).toNat]?=some v:=⟨_,Q5 (by rw[xl];omega)⟩;have ev:Cg xs (c / 4 % (xs.length:Int))=some v:=by
    unfold Cg;rw[Fy (by rwa[xl]) (by rwa[xl])];exact hv
   obtain⟨dd,hdd,dv⟩:=(DtAll.same u0 _ _ hx).get hv;rw[Za,xl,hL]at hdd;cases hdd;obtain⟨t,b,rfl,ht,hb⟩:=jD dv;have ha0:=u0 _ _ ha;generalize upd H l0 (.lst [])=H1 at u0 ha0 ht hb ⊢;refine⟨_,rfl,_,rfl,_,_,rfl,rfl,⟨by decide,by decide⟩,_,rfl,a,_,rfl,.inl (SqL.of ha0),_,_,rfl,rfl,(show(0:Int)<(xs.length:Int) by omega),a,_,_,_,rfl,rfl,SqL.of ha0,ev,t,_,_,_,rfl,rfl,ht,rfl,_,rfl,_,_,rfl,rfl,⟨by decide,by decide⟩,_,c / 5,L,rfl,⟨b,_,rfl,hb,DtAll.strs L⟩,lb L Lm,by have:=ll L Lm;omega,fun p H2 s2 hp lb2 ll2=>⟨VP 2,fun p3 n3=>?_⟩⟩;have u3:=zC (o:=.tup [V.str "leaf",V.ref p]) n3;refine k _ _ ((u0.trans s2).trans u3) ?_ (by rwa[ez]) (by rw[ez];have:=ll L Lm;omega);rw[ez];exact⟨p3,_,rfl,SqT.of zB,_,_,rfl,rfl,_,_,rfl,⟨p,_,rfl,SqT.of (u3 _ _ hp),DtAll.strs _⟩,rfl⟩
end AT
def Rb:Th->Da
 | .leaf _=>[]
 | .tree Do=>Do.map (·.2)
 | .note t _ _=>[t]
def jO (P:Ei)(w:Eo)(K:AZ)(C:Eh):Sp:=fun vs H Q _=>∃(a rl:Eh) (fp:Dd) (S:Di) (rs:Da),vs=[.ref a,.ref rl]/\ShAt P w K C H a fp S/\OkS S/\Cl S/\SqL K H rl (rs.map V.str)/\rs.length<=1000/\(∀r∈rs,r∈S.map En.nm) /\
 ∀l H',Same H H'->H l=none->(∃F:Da,(∀x,x∈F↔Rch (Cw S) rs x)/\H' l=some (.lst (((S.map En.nm).filter fun x=>decide (x∈F)).map V.str)))->Q (.ref l) H'
namespace AU
abbrev st:Stmt:=top 59
theorem sc:FnScope ["_law_store","_law_roots","_law_found","_law_root","_law_name","_law_thing","_law_within","_law_other"] ["_law_store","_law_roots"] (zH st):=Ca
theorem ok (F:Fun K "_law_closed" "_law_closed" st f fd)(T:Txt P w K mg t1 t2 t3 t4 t5 t6 t7 aL aC aN aT aA b1 b2 b3 fI)(Qb:Met P w K mg base aC 1 "names" ["self"] (vJ P w K aC))(Qc:MetX P w K mg base aC 4 "thing" ["self","name"] (vL P w K aC aN)):FnOk P w K mg base A9 5 f fd ["_law_store","_law_roots"] (jO P w K aC):=by
 refine F.ok sc (fun vs H Q E h=>?_) (fun cdv A outer s H vs Q E hr h=>?_)
 ·obtain⟨a,rl,fp,S,rs,rfl,_⟩:=h;rfl
 ·obtain⟨a,rl,fp,S,rs,rfl,sh,ok,cl,hrl,rsl,hrs,k⟩:=h;refine⟨_,(zE (A8 (i:=2) sc.nd qG) (zE (xP EM rfl (xJ (pv 1)) (zS (i:=3) sc.nd rfl (EJ rfl)) (zF (qH hr.units1 (pv 2) (pv 3) uK rfl))) (zE (xP EM rfl (OR rfl T.reversed (zA (kK (pv 0) T.cls Qb hr.m) zD)) (zS (i:=4) sc.nd rfl (EJ rfl)) (zE (A8 (i:=5) sc.nd (xE (pv 0) T.cls Qc hr.m yJ (zA (pv 4) zD))) (q9 (A8 (i:=6) sc.nd (XV (zP xN (z7 (ix_tup:A7 _ (VR K)) (pv 5) zI (fun _ _=>rfl)) pe_str (zT _)) (yN zD) (XV (zP xN (z7 (ix_tup:A7 _ (VR K)) (pv 5) zI (fun _ _=>rfl)) pe_str (zT _)) (y7 (sc:=zH st) (N:=["_law_store","_law_roots","_law_found","_law_root","_law_name","_law_thing","_law_within","_law_other"]) (N':=["_law_row"]) (src:=[none]) ⟨by decide +kernel,rfl,rfl,by decide +kernel,by decide +kernel,by decide +kernel,by decide +kernel⟩ rfl rfl rfl (kT (z7 (ix_tup:A7 _ (VR K)) (pv 5) zI (fun _ _=>rfl))) (fun _ _ _ _=>(zS (i:=0) (show(["_law_row"]:Da).Nodup by decide +kernel) rfl (EJ rfl))) (fun _ _ _ _=>qF) (fun _ _ _ _=>(z7 (ix_tup:A7 _ (VR K)) (pv 0) zI (fun _ _=>rfl)))) (yN (zA (z7 (ix_tup:A7 _ (VR K)) (pv 5) zI (fun _ _=>rfl)) zD))))) (q9 (yM (zP xN (z7 (ix_tup:A7 _ (VR K)) (pv 5) zI (fun _ _=>rfl)) pe_str (zT _)) (zF (A8 (i:=6) sc.nd (zQ uS (pv 6) (zZ yP (by rfl) T.list ZT (zA (z7 (ix_tup:A7 _ (VR K)) (pv 5) zI (fun _ _=>rfl)) zD))))) zU) (zF (xP EM rfl (xJ (pv 6)) (zS (i:=7) sc.nd rfl (EJ rfl)) (zF (yM (zP (X5 hr.units) (pv 4) (pv 2) (by with_unfolding_all rfl)) (zF (qH hr.units1 (pv 2) (pv 7) uK rfl)) zU)))))))) (zF (zO (y7 (sc:=zH st) (N:=["_law_store","_law_roots","_law_found","_law_root","_law_name","_law_thing","_law_within","_law_other"]) (N':=["_law_name","_law_found"]) (src:=[none,some 2]) ⟨by decide +kernel,rfl,rfl,by decide +kernel,by decide +kernel,by decide +kernel,by decide +kernel⟩ rfl rfl rfl (xJ (kK (pv 0) T.cls Qb hr.m)) (fun _ _ _ _=>(zS (i:=0) (show(["_law_name","_law_found"]:Da).Nodup by decide +kernel) rfl (EJ rfl))) (fun _ _ _ _=>(XS (zP (X5 hr.units) (pv 0) (pv 1) (by with_unfolding_all rfl)))) (fun _ _ _ _=>(pv 0)))))))),?_⟩
  have gn:=sh.good.nn;have gl:=sh.good.len;refine fun fo nfo=>?_;have u0:=zC (o:=.dK []) nfo;have nff:=sh.ex.not nfo;have addS:∀{F:Da} {y:Str},AnS.addL F y=F\/AnS.addL F y=F++[y]:=fun{F y}=>by
   unfold AnS.addL
   split
   ·exact .inl rfl
   ·exact .inr rfl
  have sm:∀{H':Hp},Off [fo] H H'->Same H H':=fun{H'} o b x e=>o b x (fun z=>by rw[QV.mp z,nfo]at e;cases e) e;refine yC ⟨_,rfl,rl,rfl,⟨_,u0.seq hrl⟩,kC (K:=K) (a:=rl) (xs:=rs.map V.str) (fun i σ H'=>∃o3 kv F,σ=[some (.ref a),some (.ref rl),some (.ref fo),o3,none,none,none,none]/\Off [fo] H H'/\H' fo=some (.dK kv)/\AnS.DictIs K H' kv F (fun _=>.bool true)/\(∀x,x∈F↔x∈rs.take i)/\F.length<=i) ⟨none,[],[],rfl,Off.of u0,zB,AnS.DictIs.nil,fun x=>Iff.rfl,Q2 _⟩ (fun i σ H' _ ⟨_,_,_,_,o',_⟩=>?_) ?_ ?_⟩
  ·exact(sm o').seq hrl
  ·rintro i v σ H' hv ⟨o3,kv,F',rfl,of1,hf1,df1,hF,fl⟩;rw[Za]at hv;obtain⟨r,hr,rfl⟩:=ZB.mp hv;have il:=(Zl.mp hr).1;have kl:=df1.len;refine yC ⟨_,rfl,_,rfl,fo,_,rfl,DPut.k (k:=.inr r) hf1 (yT (by omega)),?_⟩;have p1:=(df1.put r (v:=.bl true) (d:=.bool true) rfl).cong (g':=fun _=>.bool true) fun p _=>by show(if p=r then PyData.bool true else .bool true)=_;rw[ite_self]
   refine⟨_,_,AnS.addL F' r,rfl,of1.upd (QV.mpr rfl),zB,⟨p1.keys,p1.nd,p1.val⟩,fun x=>?_,?_⟩
   ·rw[AnS.mem_addL,hF,take_snoc hr,Zf,QV]
   ·rcases addS (F:=F') (y:=r) with e|e
    ·rw[e];omega
    ·rw[e,Q4];show _+1<=_;omega
  ·rintro σ H' ⟨o3,kv,F',rfl,of1,hf1,df1,hF,fl⟩;rw[QU]at hF fl;have s1:=sm of1;obtain⟨ix,i1,i2,i3,hix⟩:=jZ (sh.same s1);have em:(S.map fun e=>V.str e.nm)=(S.map En.nm).map V.str:=by rw[Zv];rfl
   refine⟨_,rfl,a,ix,_,rfl,hix,rfl,a,fp,S,rfl,sh.same s1,fun l nl=>?_⟩;rw[em];have ul:=zC (o:=.lst ((S.map En.nm).map V.str)) nl;have hl:=zB (H:=H') (a:=l) (o:=.lst ((S.map En.nm).map V.str));have of2:Off [fo] H (upd H' l (.lst ((S.map En.nm).map V.str))):=of1.trans (Off.of ul);have hf2:=ul _ _ hf1;have lf:l≠fo:=fun z=>by rw[z,hf1]at nl;cases nl
   have df2:AnS.DictIs K (upd H' l (.lst ((S.map En.nm).map V.str))) kv F' (fun _=>.bool true):=⟨df1.keys,df1.nd,df1.val⟩;generalize upd H' l (.lst ((S.map En.nm).map V.str))=H2 at ul hl of2 hf2 df2 ⊢;have b0:Bk S rs F' S.length:=⟨fun x hx=>.root (by rw[hF]at hx;exact ZU hx),fun r hr=>by rw[hF,Zq];exact hr,fun k e hk he=>by rw[ZO hk]at he;cases he⟩;have f0:∀y∈F',y∈S.map En.nm:=fun y hy=>Xl cl gn hrs (b0.rch y hy);refine⟨l,_,rfl,SqL.of hl,ME (K:=K) (a:=l) (xs:=(S.map En.nm).map V.str) (fun i σ H3=>∃o4 o5 o6 o7 kv F,σ=[some (.ref a),some (.ref rl),some (.ref fo),o3,o4,o5,o6,o7]/\Off [fo] H H3/\H3 l=some (.lst ((S.map En.nm).map V.str))/\H3 fo=some (.dK kv)/\AnS.DictIs K H3 kv F (fun _=>.bool true)/\Bk S rs F (S.length-i)) ⟨none,none,none,none,kv,F',rfl,of2,hl,hf2,df2,b0⟩ (fun i σ H3 _ ⟨_,_,_,_,_,_,_,_,h3,_⟩=>SqL.of h3) ?_ ?_⟩
   ·clear b0 f0 hF fl of1 hf1 df1 s1 of2 hf2 df2 hl ul hix;rintro i v σ H3 hi hv ⟨o4,o5,o6,o7,kv,F',rfl,of3,hl3,hf3,df3,bk⟩;rw[QU,QU]at hi hv;rw[Za,Za]at hv;obtain⟨x,hx,rfl⟩:=ZB.mp hv;obtain⟨e,he,rfl⟩:=ZB.mp hx;have em:=Zc he;have s3:=sm of3;have sh3:=sh.same s3;obtain⟨th,ed,tg,_⟩:=ok.th e em;have fS:∀y∈F',y∈S.map En.nm:=fun y hy=>Xl cl gn hrs (bk.rch y hy);obtain⟨ix,i1,i2,i3,hix⟩:=jZ sh3;refine yC ⟨_,rfl,a,ix,_,rfl,hix,rfl,_,rfl,a,fp,S,.str e.nm,.str e.nm,rfl,sh3,rfl,fun e2 he2 ed2 tt ht=>?_,fun z=>?_⟩
    rotate_left
    ·rw[show Uf S (.str e.nm)=decide (e.nm∈S.map En.nm) from rfl,QX (QZ.mpr ⟨e,em,rfl⟩)]at z;cases z
    have:e=e2:=Bu sh.good em he2 (by injection ed2);subst this;rw[ed]at ht;have wl:=uN tg;have wS:∀y∈namesW th,y∈S.map En.nm:=fun y hy=>cl.mem em (by rwa[ed,XJ]);refine⟨fun σ' H'=>∃l6,σ'=[some (.ref a),some (.ref rl),some (.ref fo),o3,some (.str e.nm),some (.ref tt),some (.ref l6),o7]/\Same H3 H'/\H' l6=some (.lst ((Rb th).map V.str)),?_,?_⟩
    ·cases th with
     |leaf ls =>
      obtain⟨c,b,ec,h1,h2⟩:=jD ht;cases ec;refine⟨_,rfl,tt,_,_,_,rfl,rfl,h1,rfl,rfl,true,?_,VM ⟨VP 0,fun l6 n6=>⟨l6,rfl,zC n6,zB⟩⟩⟩;show V.bl (decide (V.str "leaf"=V.str "leaf"))=V.bl true;rw[QX rfl]
     |tree Do =>
      obtain⟨c,b,ec,h1,h2⟩:=uF ht;cases ec;obtain⟨b',rs',eb,hb,hrs'⟩:=h2;cases eb;have rl':=hrs'.length;rw[QU]at rl';have wl:(Do.map (·.2)).length<=1000:=wl;rw[QU]at wl;refine⟨_,rfl,tt,_,_,_,rfl,rfl,h1,rfl,rfl,false,?_,VL ⟨_,rfl,tt,_,_,_,rfl,rfl,h1,rfl,rfl,true,?_,VM ?_⟩⟩
      ·show V.bl (decide (V.str "tree"=V.str "leaf"))=V.bl false;rw[Q9 (by intro z;exact absurd (V.str.inj z) (by decide +kernel))]
      ·show V.bl (decide (V.str "tree"=V.str "tree"))=V.bl true;rw[QX rfl]
      refine⟨_,rfl,tt,_,_,_,rfl,rfl,h1,rfl,b,rfl,⟨_,hb⟩,qK (K:=K) (a:=b) (xs:=rs') (fun j ys σ H5=>∃o,σ=[o]/\H5=H3/\ys=((Do.take j).map (·.2)).map V.str) ⟨none,rfl,rfl,rfl⟩ (le_line (by omega)) ?_ ?_ ?_⟩
      ·rintro j ys σ H5 hj ⟨o,rfl,rfl,rfl⟩;refine⟨hb,?_⟩;rw[QU,QU,Zm];omega
      ·rintro j v ys σ H5 hv ⟨o,rfl,rfl,rfl⟩;obtain⟨r,c',hr',rfl,hc'⟩:=NJ hrs' hv;refine⟨_,rfl,c',_,_,_,rfl,rfl,hc',rfl,_,rfl,rfl,?_⟩;rw[take_snoc hr',Q6,Q6];rfl
      ·rintro ys σ H5 ⟨o,rfl,rfl,rfl⟩ p np;rw[rl',Zq];exact⟨p,rfl,zC np,zB⟩
     |note x ps y =>
      obtain⟨c,b,ec,h1,h2⟩:=uC ht;cases ec;refine⟨_,rfl,tt,_,_,_,rfl,rfl,h1,rfl,rfl,false,?_,VL ⟨_,rfl,tt,_,_,_,rfl,rfl,h1,rfl,rfl,false,?_,VL ?_⟩⟩
      ·show V.bl (decide (V.str "note"=V.str "leaf"))=V.bl false;rw[Q9 (by intro z;exact absurd (V.str.inj z) (by decide +kernel))]
      ·show V.bl (decide (V.str "note"=V.str "tree"))=V.bl false;rw[Q9 (by intro z;exact absurd (V.str.inj z) (by decide +kernel))]
      exact⟨_,rfl,tt,_,_,_,rfl,rfl,h1,rfl,VP 1,fun l6 n6=>⟨l6,rfl,zC n6,zB⟩⟩
    rintro σ' H4 ⟨l6,rfl,s4,hl6⟩;refine⟨fun σ' H'=>∃l6,σ'=[some (.ref a),some (.ref rl),some (.ref fo),o3,some (.str e.nm),some (.ref tt),some (.ref l6),o7]/\Same H4 H'/\H' l6=some (.lst ((namesW th).map V.str)),?_,?_⟩
    ·have ht4:=Dt.same s4 _ _ ht;cases th with
     |leaf ls =>
      obtain⟨c,b,ec,h1,h2⟩:=jD ht4;cases ec;refine⟨_,rfl,tt,_,_,_,rfl,rfl,h1,rfl,rfl,false,?_,VL ⟨l6,rfl,Same.refl _,hl6⟩⟩;show V.bl (decide (V.str "leaf"=V.str "note"))=V.bl false;rw[Q9 (by intro z;exact absurd (V.str.inj z) (by decide +kernel))]
     |tree Do =>
      obtain⟨c,b,ec,h1,h2⟩:=uF ht4;cases ec;refine⟨_,rfl,tt,_,_,_,rfl,rfl,h1,rfl,rfl,false,?_,VL ⟨l6,rfl,Same.refl _,hl6⟩⟩;show V.bl (decide (V.str "tree"=V.str "note"))=V.bl false;rw[Q9 (by intro z;exact absurd (V.str.inj z) (by decide +kernel))]
     |note x ps y =>
      obtain⟨c,b,ec,h1,h2⟩:=uC ht4;cases ec;have wl:ps.length+1<=1000:=wl;refine⟨_,rfl,tt,_,_,_,rfl,rfl,h1,rfl,rfl,true,?_,VM ?_⟩
      ·show V.bl (decide (V.str "note"=V.str "note"))=V.bl true;rw[QX rfl]
      refine⟨_,rfl,_,rfl,tt,_,_,_,rfl,rfl,h1,rfl,b,_,rfl,.inr h2,fun l2 nl2=>?_⟩;have u2:=zC (o:=.lst (ps.map V.str)) nl2;refine⟨l6,l2,_,_,rfl,rfl,u2 _ _ hl6,zB,le_line (by rw[QU,QU];show 1+ps.length<=_;omega),fun l3 nl3=>?_⟩;exact⟨l3,rfl,u2.trans (zC nl3),zB⟩
    rintro σ' H5 ⟨l7,rfl,s5,hl7⟩;have s35:=s4.trans s5;have of5:Off [fo] H H5:=of3.trans (Off.of s35);refine⟨_,rfl,l7,rfl,⟨_,SqL.of hl7⟩,kC (K:=K) (a:=l7) (xs:=(namesW th).map V.str) (fun j σ H'=>∃o7 kv F,σ=[some (.ref a),some (.ref rl),some (.ref fo),o3,some (.str e.nm),some (.ref tt),some (.ref l7),o7]/\Off [fo] H5 H'/\H' fo=some (.dK kv)/\AnS.DictIs K H' kv F (fun _=>.bool true)/\F=((namesW th).take j).foldl (qO e.nm) F') ⟨o7,kv,F',rfl,Off.refl _ _,s35 _ _ hf3,⟨df3.keys,df3.nd,df3.val⟩,rfl⟩ (fun j σ H' _ ⟨_,_,_,_,o',_⟩=>?_) ?_ ?_⟩
    ·exact SqL.of (o' _ _ (fun z=>by rw[QV.mp z,s35 _ _ hf3]at hl7;cases hl7) hl7)
    ·rintro j v σ H' hv ⟨o7,kv',F2,rfl,o6',hf6,df6,rfl⟩;rw[Za]at hv;obtain⟨y,hy,rfl⟩:=ZB.mp hv;have ef:((namesW th).take (j+1)).foldl (qO e.nm) F'=qO e.nm (((namesW th).take j).foldl (qO e.nm) F') y:=by rw[take_snoc hy,Z5];rfl
     have fm:∀z∈((namesW th).take j).foldl (qO e.nm) F',z∈S.map En.nm:=fun z hz=>by
      rcases(vI _ _ _ _).mp hz with q|⟨_,q⟩
      ·exact fS z q
      ·exact wS z (ZU q)
     rw[ef];generalize ((namesW th).take j).foldl (qO e.nm) F'=F2 at df6 fm ⊢;have kl:=df6.len;have fl2:F2.length<=S.length:=by
      have:=AnS.len_sub df6.nd gn fm;rw[QU]at this;exact this
     unfold qO;refine yC ⟨_,rfl,_,rfl,fo,_,rfl,DGet.k (k:=.inr e.nm) hf6,_,rfl,VU (fun c=>?_) (fun c=>?_)⟩
     ·rw[df6.isSome]at c;rw[Zk (Zb c)];refine⟨_,rfl,_,rfl,fo,_,rfl,DPut.k (k:=.inr y) hf6 (yT (by omega)),?_⟩;have p1:=(df6.put y (v:=.bl true) (d:=.bool true) rfl).cong (g':=fun _=>.bool true) fun p _=>by show(if p=y then PyData.bool true else .bool true)=_;rw[ite_self]
      exact⟨_,_,_,rfl,o6'.upd (QV.mpr rfl),zB,⟨p1.keys,p1.nd,p1.val⟩,rfl⟩
     ·rw[df6.isSome]at c;rw[Zh (fun z=>c (QX z))];exact⟨_,_,_,rfl,o6',hf6,df6,rfl⟩
    ·rintro σ H' ⟨o7,kv',F2,rfl,o6',hf6,df6,rfl⟩;have bk':Bk S rs F' (S.length-1-i+1):=by
      have:S.length-1-i+1=S.length-i:=by omega
      rwa[this]
     have bs:=bk'.step gn cl he;rw[ed,XJ]at bs;rw[QU,Zq]at df6;refine⟨_,_,_,_,kv',_,rfl,of5.trans o6',o6' _ _ (fun z=>by rw[QV.mp z,hf3]at hl3;cases hl3) (s35 _ _ hl3),hf6,df6,?_⟩;have:S.length-(i+1)=S.length-1-i:=by omega
     rwa[this]
   ·rintro σ H3 ⟨o4,o5,o6,o7,kv3,F3,rfl,of3,hl3,hf3,df3,bk⟩;rw[QU,QU,VC]at bk;have s3:=sm of3;obtain⟨ix,i1,i2,i3,hix⟩:=jZ (sh.same s3);refine⟨_,rfl,a,ix,_,rfl,hix,rfl,a,fp,S,rfl,sh.same s3,fun l9 n9=>⟨l9,rfl,⟨_,SqL.of zB⟩,?_⟩⟩;rw[em];have u9:=zC (o:=.lst ((S.map En.nm).map V.str)) n9;have hl9:SqL K (upd H3 l9 (.lst ((S.map En.nm).map V.str))) l9 ((S.map En.nm).map V.str):=SqL.of zB;have hf9:=u9 _ _ hf3;generalize upd H3 l9 (.lst ((S.map En.nm).map V.str))=H9 at u9 hl9 hf9 ⊢;refine qL (K:=K) (a:=l9) (xs:=(S.map En.nm).map V.str) (fun i ys σ H2=>∃o,σ=[o,some (.ref fo)]/\Same H9 H2/\ys.length<=i/\ys=(((S.map En.nm).take i).filter fun x=>decide (x∈F3)).map V.str) ⟨none,rfl,Same.refl _,Q2 _,rfl⟩ (le_line (by rw[QU,QU];omega)) ?_ ?_ ?_
    ·rintro i ys σ H2 hi ⟨o,rfl,e2,yl,_⟩;exact⟨e2.seq hl9,yl⟩
    ·rintro i y ys σ H2 hy ⟨o,rfl,e2,yl,rfl⟩;rw[Za]at hy;obtain⟨x,hx,ex⟩:=ZB.mp hy;subst ex;have tk:((S.map En.nm).take (i+1)).filter (fun x=>decide (x∈F3))=((S.map En.nm).take i).filter (fun x=>decide (x∈F3))++(if x∈F3 then[x] else[]):=by
      rw[Z4,hx,Jr];show _++[x].filter _=_;rw[YW]
      by_cases z:x∈F3
      ·rw[Zk (QX z),Zk z];rfl
      ·rw[Zh (fun q=>z (Zb q)),Zh z];rfl
     refine⟨_,rfl,_,rfl,fo,_,rfl,DGet.k (k:=.inr x) (e2 _ _ hf9),_,rfl,VU (fun c=>⟨_,rfl,_,rfl,e2,?_,?_⟩) (fun c=>⟨_,rfl,e2,Jc yl,?_⟩)⟩
     ·rw[Q4];exact YE yl
     ·rw[df3.isSome]at c;rw[tk,Zk (Zb c),Q6];rfl
     ·rw[df3.isSome]at c;rw[tk,Zh (fun z=>c (QX z)),Zy]
    ·rintro ys σ H2 ⟨o,rfl,e2,yl,rfl⟩ r nr;rw[QU,Zq];have s9:=(s3.trans u9).trans e2;exact k r _ (s9.trans (zC nr)) (s9.free nr) ⟨F3,bk.all gn cl hrs,zB⟩
end AU
def uQ (P:Ei)(w:Eo)(K:AZ)(C:Eh):Sp:=fun vs H Q _=>∃(a rl:Eh) (fp:Dd) (S:Di) (ds:Df) (xs:Dj),vs=[.ref a,.ref rl]/\ShAt P w K C H a fp S/\OkS S/\Cl S/\SqL K H rl xs/\DtAll K H ds xs/\ds.length<=1000 /\
 (∀rs,ds=rs.map .str->(∀r∈rs,r∈S.map En.nm)->∀l H',Same H H'->H l=none->(∃F:Da,(∀x,x∈F↔Rch (Cw S) rs x)/\H' l=some (.lst (((S.map En.nm).filter fun x=>decide (x∈F)).map V.str)))->Q (.ref l) H')/\((∃d∈ds,Uf S d=false)->∀H',Same H H'->Q (.str "no name") H')
namespace AV
abbrev st:Stmt:=top 60
theorem sc:FnScope ["_law_shelf","_law_roots","error"] ["_law_shelf","_law_roots"] (zH st):=Ca
theorem ok (F:Fun K "_law_told" "_law_told" st f fd)(T:Txt P w K mg t1 t2 t3 t4 t5 t6 t7 aL aC aN aT aA b1 b2 b3 fI)(QR:CalX P w K mg base 6 "reached" ["store","roots"] (Gp P w K aC aN)):FnOk P w K mg base A9 7 f fd ["_law_shelf","_law_roots"] (uQ P w K aC):=by
 refine F.ok sc (fun vs H Q E h=>?_) (fun cdv A outer s H vs Q E hr h=>?_)
 ·obtain⟨a,rl,fp,S,ds,rs,rfl,_⟩:=h;rfl
 ·obtain⟨a,rl,fp,S,ds,xs,rfl,sh,ok,cl,hrl,hds,rsl,k1,k2⟩:=h;refine⟨_,(zF (OT rfl rfl rfl (fun _ _=>(zF (zO (jW QR hr.m (CQ rfl) (zA (pv 0) (zA (pv 1) zD)))))) rfl T.AnnalsError sc.nd (i:=2) rfl rfl (fun z=>(zE (yM (PW.pt (uH (zV (K:=K) (zJ (xO (K:=K) (C:=aT)) (by rfl) T.isinstance Zj (zA (pv 2) (zA (xA (v:=.ref aT) rfl T.NoThing rfl) zD))) (fun _=>rfl)) (uH (zV (K:=K) (zJ (xO (K:=K) (C:=b1)) (by rfl) T.isinstance Zj (zA (pv 2) (zA (xA (v:=.ref b1) rfl T.NoVersion rfl) zD))) (fun _=>rfl)) (j0 (zV (K:=K) (zJ (xO (K:=K) (C:=b3)) (by rfl) T.isinstance Zj (zA (pv 2) (zA (xA (v:=.ref b3) rfl T.NoFit rfl) zD))) (fun _=>rfl)))))) (zF (zO pe_str)) zU) (zE (yM (PW.pt (uH (zV (K:=K) (zJ (xO (K:=K) (C:=b2)) (by rfl) T.isinstance Zj (zA (pv 2) (zA (xA (v:=.ref b2) rfl T.BadFiles rfl) zD))) (fun _=>rfl)) (uH (xS (zV (K:=K) (zJ (xO (K:=K) (C:=aN)) (by rfl) T.isinstance Zj (zA (pv 2) (zA (xA (v:=.ref aN) rfl T.NoName rfl) zD))) (fun _=>rfl))) (j0 (xS (zV (K:=K) (zJ (IA (K:=K) (T:="ValueError")) (by rfl) T.isinstance Zj (zA (pv 2) (zA (yX (v:=.ty "ValueError") rfl T.ValueError (by decide +kernel) rfl) zD))) (fun _=>rfl))))))) (zF (zO pe_str)) zU) (zF (zO pe_str))))))),?_⟩
  refine⟨fun σ' H' cls=>H'=H/\σ'=[some (.ref a),some (.ref rl),none]/\cls=.ref aN/\∃d∈ds,Uf S d=false,?_,?_⟩
  ·exact⟨_,rfl,_,rfl,a,rl,fp,S,ds,xs,rfl,sh,ok,cl,hrl,hds,rsl,fun rs e1 e2 l H' s' nl hl=>k1 rs e1 e2 l H' s' nl hl,fun hn=>⟨rfl,rfl,rfl,hn⟩⟩
  ·rintro σ' H' cls z ⟨rfl,rfl,rfl,hn⟩ nz;have u:=zC (o:=U2 z (.ref aN)) nz;have he:=zB (H:=H') (a:=z) (o:=U2 z (.ref aN));refine⟨T.exmN,?_⟩;refine⟨_,rfl,z,aN,false,rfl,he,T.ekN,T.kN0,_,rfl,VL ⟨_,rfl,z,aN,false,rfl,he,T.ekN,T.kN1,_,rfl,VL ⟨_,rfl,z,aN,false,rfl,he,T.ekN,T.kN2,_,rfl,VL ?_⟩⟩⟩;refine⟨_,rfl,z,aN,false,rfl,he,T.ekN,T.kN3,_,rfl,VL ⟨_,rfl,z,aN,true,rfl,he,T.ekN,T.kN4,_,rfl,ML ⟨_,rfl,z,aN,true,rfl,he,T.ekN,T.kNV,_,rfl,ML ?_⟩⟩⟩;exact k2 hn _ u
end AV
end
end An28
namespace An
open PySem L2
def kB (e:En):Prop:=∃Do,e.d=(Th.tree Do).dat
theorem M7:∀(vs:List (Str×Da)) {a:List En×Dg},OkS a.1->(∀v∈vs,∃x,At a.1 x (.leaf v.2))->(vs.foldl AY a).1=a.1
 |[],a,_,_=>rfl
 |v::vs,a,ok,h=>by
  obtain⟨x,hx⟩:=h v Q1;have e:A0 a.1 (.leaf v.2)=(a.1,x):=Bl ok hx;have e1:(AY a v).1=a.1:=by show(A0 a.1 (.leaf v.2)).1=a.1;rw[e]
  show(vs.foldl AY (AY a v)).1=a.1;rw[M7 vs (by rw[e1];exact ok) (fun v hv=>by rw[e1];exact h v (QY _ hv)),e1]
theorem uP (S:Di)(Do:Dg):∀e∈(A0 S (.tree Do)).1,e∈S\/kB e:=fun e he=>by
 unfold A0 at he
 split at he
 ·exact .inl he
 ·rcases Zf.mp he with z|z
  ·exact .inl z
  ·rw[QV.mp z];exact .inr ⟨Do,rfl⟩
theorem R6 {fs:Dk}:∀(ls:Da),(∀l∈ls,∀S,OkS S->(∀f∈fs,∃x,At S x (.leaf f.2))->S.length+1+wt (sub fs l)<=2000->(OkS (VN d S (sub fs l)).1/\(∀e∈(VN d S (sub fs l)).1,e∈S\/kB e)/\∃T,(VN d S (sub fs l)).1=S++T)/\(VN d S (sub fs l)).1.length<=S.length+1+wt (sub fs l)) ->
  ∀{a:List En×Dg},OkS a.1->(∀f∈fs,∃x,At a.1 x (.leaf f.2))->a.1.length+(ls.map fun l=>1+wt (sub fs l)).sum<=2000->∀e∈(ls.foldl (A1 d fs) a).1,e∈a.1\/kB e
 |[],_,a,_,_,_=>fun e he=>.inl he
 |l::ls,H,a,ok,h,hl=>fun e he=>by
  rw[Zn,YG]at hl;obtain⟨⟨ok1,n1,T,eT⟩,l1⟩:=H l Q1 a.1 ok h (by omega);have he:e∈(ls.foldl (A1 d fs) (A1 d fs a l)).1:=he
  rcases R6 ls (fun l hl'=>H l (QY _ hl')) (a:=A1 d fs a l) ok1 (fun f hf=>by
   obtain⟨x,hx⟩:=h f hf;refine⟨x,?_⟩;show At (VN d a.1 (sub fs l)).1 x (.leaf f.2);rw[eT];exact hx.more) (by
   show(VN d a.1 (sub fs l)).1.length+_<=2000;omega) e he with z|z
  ·exact n1 e z
  ·exact .inr z
theorem O7 {f:Fi}(h:f∈sub fs l):∃g∈fs,g.2=f.2:=by
 unfold sub at h;obtain⟨g,hg,e⟩:=YZ.mp h;refine⟨g,hg,?_⟩;unfold Ut at e
 split at e
 ·split at e
  ·cases e;rfl
  ·cases e
 ·cases e
theorem OX:∀(d:Nat) {S:Di} {fs:Dk},OkS S->GoodF (d+1) fs->fs.length<=63->S.length+1+wt fs<=2000->(∀f∈fs,∃x,At S x (.leaf f.2))->∀e∈(VN (d+1) S fs).1,e∈S\/kB e:=fun d=>by
 induction d with
 |zero =>
  intro S fs ok g hl hs h e he;have f0:A6 fs=[]:=by
   cases q:A6 fs with
   |nil=>rfl
   |cons l r =>
    obtain⟨f,hf,b,r',ef⟩:=((yV fs).2 l).mp (by rw[q];exact Q1);have:=(g.lab f hf).2.1;rw[ef,Zd,Zd]at this;omega
  rw[uJ,f0]at he;have lv:=M7 (A5 fs) (a:=(S,[])) ok (fun v hv=>h _ (mem_lvs.mp hv));have he:e∈(A0 ((A5 fs).foldl AY (S,[])).1 _).1:=he;rw[lv]at he;exact uP _ _ e he
 |succ d ih =>
  intro S fs ok g hl hs h e he;have hm:=many fs;rw[uJ]at he
  rcases uP _ _ e he with z|z
  ·have lv:=M7 (A5 fs) (a:=(S,[])) ok (fun v hv=>h _ (mem_lvs.mp hv));have lv:((A5 fs).foldl AY (S,[])).1=S:=lv
   rcases R6 (d:=d+1) (fs:=fs) (A6 fs) (fun l hl' S' ok' h' hs'=>by
    obtain⟨pk,pl⟩:=vK d ok' (g.sub l) (ZD sub_len hl) hs';obtain⟨T,eT,_⟩:=pk.new;refine⟨⟨pk.ok,ih ok' (g.sub l) (ZD sub_len hl) hs' (fun f hf=>?_),T,eT⟩,pl⟩;obtain⟨g',hg',e'⟩:=O7 hf;rw[←e'];exact h' g' hg') (a:=(A5 fs).foldl AY (S,[])) (by rw[lv];exact ok) (by rwa[lv]) (by rw[lv];omega) e z with q|q
   ·rw[lv]at q;exact .inl q
   ·exact .inr q
  ·exact .inr z
def MV (h:Str):Nat:=((cs h).head?).getD 0
def Ua (e:En):Bool:=decide (MV e.h=76)
def VO (S:Di):Nat:=(S.filter Ua).length
def LC (S:Di):Prop:=∀e∈S,Ua e=true->e.n<VO S
theorem qR (S T:Di):VO (S++T)=VO S+VO T:=by
 unfold VO;rw[Jr,Q4]
theorem Gz (t:Th):MV (VW t)=(match t with|.leaf _=>76|.tree _=>84|.note _ _ _=>78):=by
 unfold MV VW;rw[cs_append,qS];cases t<;>rfl
theorem IO (g:OkS S){e:En}(he:e∈S):Ua e=true->∃L,e.d=(Th.leaf L).dat:=fun h=>by
 obtain⟨t,td,_,th⟩:=g.th e he;unfold Ua at h;rw[th,Gz]at h;have h:=Zb h;cases t with
 |leaf L=>exact⟨L,td⟩
 |tree Do=>cases h
 |note x ps y=>cases h
theorem LC.nil:LC []:=fun e he=>(nomatch he)
theorem LC.snoc (h:LC S)(t:Th):LC (S++[Uh S t]):=fun e he hl=>by
 rw[qR]
 rcases Zf.mp he with z|z
 ·have:=h e z hl;omega
 ·have ee:=QV.mp z;subst ee;have l1:VO [Uh S t]=1:=by
   unfold VO;rw[YW,Zk hl];rfl
  rw[l1];show(nextOf S (VW t)).getD 0<_
  rcases next_in S (VW t) with q|⟨e',he',hh,q⟩
  ·rw[q];omega
  ·have hl':Ua e'=true:=by
    unfold Ua at hl ⊢;rwa[hh]
   have:=h e' he' hl';omega
theorem Bg (h:LC S)(t:Th):LC (A0 S t).1/\VO (A0 S t).1<=VO S+1:=by
 unfold A0
 split
 ·exact⟨h,Jm _⟩
 ·refine⟨h.snoc t,?_⟩;rw[qR];have:VO [Uh S t]<=1:=Yi _ _;omega
theorem KU (S:Di)(t:Th):VO (A0 S t).1<=VO S+1:=by
 unfold A0
 split
 ·exact Jm _
 ·rw[qR];have:VO [Uh S t]<=1:=Yi _ _;omega
theorem NA (nt:Ua (Uh S t)=false):VO (A0 S t).1=VO S:=by
 unfold A0
 split
 ·rfl
 ·rw[qR];have:VO [Uh S t]=0:=by
   unfold VO;rw[YW,nt];rfl
  omega
theorem Oz (x:Str)(ps:Da)(y:Str):VO (A0 S (.note x ps y)).1=VO S:=NA (by
 unfold Ua;show decide (MV (VW (.note x ps y))=76)=false;rw[Gz];rfl)
theorem CC {S T:Di}(g:OkS (S++T))(n:∀e∈T,kB e\/e∈S)(nd:((S++T).map En.nm).Nodup):VO (S++T)=VO S:=by
 have nt:∀e∈T,Ua e=false:=fun e he=>by
  cases q:Ua e with
  |false=>rfl
  |true =>
   obtain⟨L,hL⟩:=IO g (Zo _ he) q
   rcases n e he with⟨Do,hr⟩|z
   ·have:=uM (hL.symm.trans hr);cases this
   ·rw[Q6,Yw]at nd;exact absurd rfl (nd.2.2 e.nm (QZ.mpr ⟨e,z,rfl⟩) e.nm (QZ.mpr ⟨e,he,rfl⟩))
 have l0:VO T=0:=by
  unfold VO;rw[JU.mpr (fun e he=>by rw[nt e he];decide)];rfl
 have le:VO (S++T)=VO S:=by rw[qR,l0];rfl
 exact le
theorem LC.trees {T:Di}(h:LC S)(g:OkS (S++T))(n:∀e∈T,kB e\/e∈S)(nd:((S++T).map En.nm).Nodup):LC (S++T)/\VO (S++T)=VO S:=by
 have nt:∀e∈T,Ua e=false:=fun e he=>by
  cases q:Ua e with
  |false=>rfl
  |true =>
   obtain⟨L,hL⟩:=IO g (Zo _ he) q
   rcases n e he with⟨Do,hr⟩|z
   ·have:=uM (hL.symm.trans hr);cases this
   ·rw[Q6,Yw]at nd;exact absurd rfl (nd.2.2 e.nm (QZ.mpr ⟨e,z,rfl⟩) e.nm (QZ.mpr ⟨e,he,rfl⟩))
 have l0:VO T=0:=by
  unfold VO;rw[JU.mpr (fun e he=>by rw[nt e he];decide)];rfl
 have le:VO (S++T)=VO S:=by rw[qR,l0];rfl
 refine⟨fun e he hl=>?_,le⟩;rw[le]
 rcases Zf.mp he with z|z
 ·exact h e z hl
 ·rw[nt e z]at hl;cases hl
theorem Nh {S:Di}(h:46∉cs x):x∉S.map En.nm:=fun z=>by
 obtain⟨e,he,rfl⟩:=QZ.mp z;refine h ?_;unfold En.nm;rw[cs_append,cs_append];exact ZC _ (Zo _ (QV.mpr rfl))
theorem Oy (g:OkS S)(lc:LC S)(n:VO S<=99):("L1.99":Str)∉S.map En.nm:=fun z=>by
 obtain⟨e,he,ee⟩:=QZ.mp z;have hf:=(g.good.ent e he).free;have h:cs e.h++[46]++cs (V1 e.n)=[76,49,46,57,57]:=by
  have:=congrArg cs ee;unfold En.nm at this;rw[cs_append,cs_append]at this;rw[show cs ("L1.99":Str)=[76,49,46,57,57] by decide +kernel]at this;exact this
 have key:cs e.h=[76,49]/\cs (V1 e.n)=[57,57]:=by
  match q:cs e.h,h,hf with
  |[],h,_=>cases h
  |[a],h,_=>cases h
  |[a,b],h,_ =>
   injection h with h1 h;injection h with h2 h;injection h with h3 h;exact⟨by rw[h1,h2],h⟩
  |a::b::c::r,h,hf =>
   exfalso;injection h with h1 h;injection h with h2 h;injection h with h3 h;rw[h3]at hf;exact hf (QY _ (QY _ Q1))
 have en:e.n=99:=by
  refine BZ (cs_inj ?_);rw[key.2]
  decide +kernel
 have hl:Ua e=true:=by
  unfold Ua MV;rw[key.1];rfl
 have:=lc e he hl;omega
open AnJ
def VT (fs:Dk)(f:Fi):Dk:=if f.1∈fs.map (·.1) then fs.map (fun g=>if g.1=f.1 then f else g) else fs++[f]
theorem FQ (fs:Dk)(f:Fi):(VT fs f).map (·.1)=if f.1∈fs.map (·.1) then fs.map (·.1) else fs.map (·.1)++[f.1]:=by
 unfold VT
 split
 ·rw[Zv];refine Z0 fun g _=>?_;show(if g.1=f.1 then f else g).1=g.1
  split
  ·rename_i z;exact z.symm
  ·rfl
 ·rw[Q6];rfl
theorem UO {k:Fi}(h:k∈VT fs f):k∈fs\/k=f:=by
 unfold VT at h
 split at h
 ·obtain⟨g,hg,e⟩:=QZ.mp h
  split at e
  ·exact .inr e.symm
  ·exact .inl (e▸hg)
 ·rcases Zf.mp h with z|z
  ·exact .inl z
  ·exact .inr (QV.mp z)
theorem OU {a t:Da}(ha:a≠[])(ht:t≠[]):A4 (a++t)=A4 a++"/"++A4 t:=cs_inj (by
 have e:cs ("/":Str)=[47]:=by decide +kernel
 unfold A4;rw[qW,Q6,MN (by simpa using ha) (by simpa using ht),cs_append,cs_append,qW,qW,e];simp)
theorem GoodF.put (g:GoodF 4 fs){f:Fi}(h0:f.1≠[])(h4:f.1.length<=4)(hl:∀l∈f.1,z9 l=true)(hn:Uc f.2)(fr:∀k∈fs,Ih (A4 k.1) (A4 f.1)=false/\Ih (A4 f.1) (A4 k.1)=false):GoodF 4 (VT fs f):=by
 have ov:∀{a b t:Da},a≠[]->b=a++t->Ih (A4 a) (A4 b)=false->t=[]:=fun{a b t} ha e z=>by
  rcases Classical.em (t=[]) with q|q
  ·exact q
  ·rw[e,OU ha q,Nl]at z;cases z
 refine⟨fun k hk=>?_,?_,fun k hk m hm t e=>?_⟩
 ·rcases UO hk with z|z
  ·exact g.lab k z
  ·rw[z];exact⟨h0,h4,hl,hn⟩
 ·rw[FQ]
  split
  ·exact g.nd
  ·rename_i z;exact q8 g.nd z
 ·rcases UO hk with z|z<;>rcases UO hm with y|y
  ·exact g.pre k z m y t e
  ·rw[y]at e;exact ov (g.lab k z).1 e (fr k z).1
  ·rw[z]at e;exact ov h0 e (fr m y).2
  ·rw[z,y]at e;have:=congrArg List.length e;rw[Q4]at this;exact YI (by omega)
theorem FsAt.put {K:AZ}(h:FsAt K H fs Dm){n:Nat}(g:GoodF n fs){f:Fi}{v:V}(h0:f.1≠[])(hl:∀l∈f.1,z9 l=true)(hv:Dt K H (tupS f.2) v)(hn:Uc f.2):FsAt K H (VT fs f) (putK Dm (.inr (A4 f.1)) v):=by
 have key:∀k∈fs,((.inr (A4 k.1):Key)=.inr (A4 f.1))↔k.1=f.1:=fun k hk=>⟨fun z=>GQ (d:=0) (g.lab k hk).1 h0 (g.lab k hk).2.2.1 hl (Sum.inr.inj z),fun z=>by rw[z]⟩
 by_cases z:f.1∈fs.map (·.1)
 ·have hin:∃k∈fs,k.1=f.1:=let ⟨k,hk,e⟩:=QZ.mp z;⟨k,hk,e⟩;have ha:(Dm.any fun kv=>decide (kv.1=.inr (A4 f.1)))=true:=by
   obtain⟨k,hk,e⟩:=hin;have:(.inr (A4 f.1):Key)∈Dm.map (·.1):=by rw[h.keys];exact QZ.mpr ⟨k,hk,by rw[e]⟩
   obtain⟨kv,m,e2⟩:=QZ.mp this;exact Z2.mpr ⟨kv,m,QX e2⟩
  unfold putK VT;rw[Zk ha,Zk z];refine⟨?_,fun i k kv a b=>?_⟩
  ·rw[Zv,Zv];have e1:Dm.map ((fun p=>p.1)∘fun kv=>if kv.1=.inr (A4 f.1) then(kv.1,v) else kv)=Dm.map (·.1):=Z0 fun kv _=>by
    show(if kv.1=.inr (A4 f.1) then(kv.1,v) else kv).1=kv.1
    split<;>rfl
   rw[e1,h.keys];refine Z0 fun k _=>?_;show(Et (A4 k.1):Key)=.inr (A4 (if k.1=f.1 then f else k).1)
   split
   ·rename_i q;rw[q]
   ·rfl
  ·rw[Za]at a b;obtain⟨k0,hk0,ek⟩:=ZB.mp a;obtain⟨kv0,hkv0,ekv⟩:=ZB.mp b;have e1:=congrArg (fun l=>l[i]?) h.keys;simp only[Za,hk0,hkv0,Yl]at e1;have e1:kv0.1=.inr (A4 k0.1):=Option.some.inj e1
   by_cases q:k0.1=f.1
   ·rw[Zk q]at ek;rw[Zk (by rw[e1,q])]at ekv;rw[←ek,←ekv];exact⟨hv,hn⟩
   ·rw[Zh q]at ek;rw[Zh (fun y=>q ((key k0 (Zc hk0)).mp (e1.symm.trans y)))]at ekv;rw[←ek,←ekv];exact h.val i k0 kv0 hk0 hkv0
 ·have nk:(.inr (A4 f.1):Key)∉Dm.map (·.1):=fun y=>by
   rw[h.keys]at y;obtain⟨k,hk,e⟩:=QZ.mp y;exact z (QZ.mpr ⟨k,hk,(key k hk).mp e⟩)
  rw[vE nk];unfold VT;rw[Zh z];exact h.snoc hv hn
theorem SK {n:Nat}{fs:Dk}(g:∀f∈fs,f.1.length<=n):wt fs<=n*fs.length:=by
 unfold wt
 induction fs with
 |nil=>exact Zz _
 |cons f fs ih =>
  have h1:=g f (Q1 ..);have h2:=ih fun k hk=>g k (QY _ hk);rw[Zn,YG,Zd,Nat.mul_succ];omega
theorem GoodF.wt (g:GoodF n fs):wt fs<=n*fs.length:=SK fun f hf=>(g.lab f hf).2.1
end An
namespace An28
open PySem L2 An
seal L2.PS L2.PSs L2.PE L2.PT L2.PW L2.PA L2.PG L2.PGs L2.PI L2.PFi L2.PC
def V5 (x:Str):Nat:=((cs x).head?).getD 0
structure Zs where
 S:Di
 ns:Da
 Ls:List Da
def pathsZ:List Da:=[["a"],["b","c"],["b","d"],["ab","a","a"]]
def V0 (c:Int)(Ls:List Da)(k:Nat):Fi:=((pathsZ[((c / 28+(0+(k:Int))) % 4).toNat]?).getD [],(Ls[((c / 11+(0+(k:Int))) % (Ls.length:Int)).toNat]?).getD [])
def x4 (c:Int)(Ls:List Da):Dk:=(EA (c / 7 % 4).toNat).foldl (fun fs k=>VT fs (V0 c Ls k)) []
def z8 (ns:Da):Da:=ns.filter fun x=>decide (V5 x=84)
def zL (ns:Da):Da:=ns.filter fun x=>decide (V5 x=78)
def VX (c:Int)(nt:Da):Da:=if nt≠[]/\c / 14 % 3>0 then[(nt[(c / 7 % (nt.length:Int)).toNat]?).getD ""] else[]
def V8 (c:Int)(nt:Da):Da:=nt.filter fun x=>decide (VX c nt≠[]/\x∉VX c nt/\c / 42 % 2=1)
def Uo (c:Int)(nt:Da):Da:=VX c nt++(V8 c nt).take 1
def Ud (c:Int)(ns:Da):Th:=.note (((z8 ns)[(c / 11 % ((z8 ns).length:Int)).toNat]?).getD "") (Uo c (zL ns)) "w"
noncomputable def A2 (z:Zs)(c:Int):Zs :=
 if c % 7>4/\z.Ls≠[] then⟨(VN 4 z.S (x4 c z.Ls)).1,z.ns++[(VN 4 z.S (x4 c z.Ls)).2],z.Ls⟩
 else if c % 7=4/\z8 z.ns≠[] then⟨(A0 z.S (Ud c z.ns)).1,z.ns++[(A0 z.S (Ud c z.ns)).2],z.Ls⟩
 else⟨(A0 z.S (.leaf (VZ (c / 7) z.Ls))).1,z.ns++[(A0 z.S (.leaf (VZ (c / 7) z.Ls))).2],z.Ls++[VZ (c / 7) z.Ls]⟩
noncomputable def Cd (S:Di)(cs:List Int):Zs:=cs.foldl A2 ⟨S,[],[]⟩
structure ZOk (z:Zs)(S0:Di)(i:Nat):Prop where
 ok:OkS z.S
 cl:Cl z.S
 ext:∃T,z.S=S0++T
 len:z.S.length<=S0.length+13*i
 nm:∀x∈z.ns,x∈z.S.map En.nm
 nl:z.ns.length<=i
 ln:∀L∈z.Ls,∀l∈L,VS l=true
 ll:∀L∈z.Ls,L.length<=6+2*i
 lz:z.Ls.length<=i
 lf:∀L∈z.Ls,∃x,At z.S x (.leaf L)
 lc:LC S0->LC z.S
 ct:VO z.S<=VO S0+i
def Ta:Th->Nat
 | .leaf _=>76
 | .tree _=>84
 | .note _ _ _=>78
theorem IX (g:OkS S){e:En}(he:e∈S){t:Th}(hd:e.d=t.dat):V5 e.nm=Ta t:=by
 obtain⟨t',td,_,th⟩:=g.th e he;have:=uM (td.symm.trans hd);subst this;unfold V5 En.nm;rw[th];unfold VW;rw[cs_append,cs_append,cs_append,qS];cases t'<;>rfl
theorem BM (g:OkS S){x:Str}(hx:x∈S.map En.nm):(V5 x=84->∃Do,At S x (.tree Do))/\(V5 x=78->∃t ps y,At S x (.note t ps y)):=by
 obtain⟨e,he,rfl⟩:=QZ.mp hx;obtain⟨t,td,_,th⟩:=g.th e he;have:=IX g he td;rw[this];cases t with
 |leaf L=>exact⟨fun z=>absurd (show(76:Nat)=84 from z) (by decide),fun z=>absurd (show(76:Nat)=78 from z) (by decide)⟩
 |tree Do=>exact⟨fun _=>⟨Do,e,he,rfl,td⟩,fun z=>absurd (show(84:Nat)=78 from z) (by decide)⟩
 |note t ps y=>exact⟨fun z=>absurd (show(78:Nat)=84 from z) (by decide),fun _=>⟨t,ps,y,e,he,rfl,td⟩⟩
def CW (P:Ei)(w:Eo)(K:AZ)(C:Eh):Sp:=fun vs H Q _=>∃(a cl:Eh) (fp:Dd) (S:Di) (cs:List Int),vs=[.ref a,.ref cl]/\ShAt P w K C H a fp S/\OkS S/\Cl S/\SqL K H cl (cs.map V.int)/\cs.length<=24/\S.length<=500 /\
 ∀l H',Off fp H H'->ShAt P w K C H' a fp (Cd S cs).S->ZOk (Cd S cs) S cs.length->Q (.ref l) H'
theorem Xq:(pathsZ.all fun a=>pathsZ.all fun b=>!Ih (A4 a) (A4 b))=true:=by decide +kernel
theorem IL:(pathsZ.all fun a=>decide (a≠[])&&decide (a.length<=4)&&a.all z9)=true:=by decide +kernel
theorem OJ (c:Int)(k:Nat):(pathsZ[((c / 28+(0+(k:Int))) % 4).toNat]?).getD []∈pathsZ:=by
 have b0:0<=(c / 28+(0+(k:Int))) % 4:=ZG _ (by decide);have b1:(c / 28+(0+(k:Int))) % 4<4:=Zx _ (by decide);have:((c / 28+(0+(k:Int))) % 4).toNat<pathsZ.length:=by show _<4;omega
 rw[Q5 this];exact ZV this
theorem Ge {g:Fi}(h:g∈VT fs f):g∈fs\/g=f:=by
 unfold VT at h
 split at h
 ·obtain⟨k,hk,e⟩:=QZ.mp h
  split at e
  ·exact .inr e.symm
  ·exact .inl (by rwa[←e])
 ·rcases Zf.mp h with z|z
  ·exact .inl z
  ·exact .inr (QV.mp z)
theorem KG (fs:Dk)(f:Fi):(VT fs f).length<=fs.length+1:=by
 unfold VT
 split
 ·rw[QU];omega
 ·rw[Q4];exact Q2 _
theorem uA {Ls:List Da}{n:Nat}(ne:Ls≠[])(ln:∀L∈Ls,∀l∈L,VS l=true)(ll:∀L∈Ls,L.length<=n)(n63:n<=63):∀t:Nat,GoodF 4 ((EA t).foldl (fun fs k=>VT fs (V0 c Ls k)) [])/\((EA t).foldl (fun fs k=>VT fs (V0 c Ls k)) []).length<=t/\∀f∈(EA t).foldl (fun fs k=>VT fs (V0 c Ls k)) [],f.1∈pathsZ
 | 0=>⟨⟨fun f hf=>(nomatch hf),Yb,fun f hf=>(nomatch hf)⟩,Q2 _,fun f hf=>(nomatch hf)⟩
 |t+1=>by
  obtain⟨g,l,m⟩:=uA ne ln ll n63 t (c:=c);rw[Y8,Z5];show GoodF 4 (VT _ (V0 c Ls t))/\(VT _ (V0 c Ls t)).length<=t+1/\∀f∈VT _ (V0 c Ls t),_;generalize (EA t).foldl (fun fs k=>VT fs (V0 c Ls k)) []=fs at g l m ⊢;have pm:(V0 c Ls t).1∈pathsZ:=OJ c t;have pl:=Zu.mp IL _ pm;rw[Q8,Q8,Zt,Zt,Zu]at pl;have lp:0<Ls.length:=Yg.mpr ne;have b0:0<=(c / 11+(0+(t:Int))) % (Ls.length:Int):=ZG _ (by omega);have b1:(c / 11+(0+(t:Int))) % (Ls.length:Int)<(Ls.length:Int):=Zx _ (by omega);have lm:(V0 c Ls t).2∈Ls:=by
   show(Ls[_]?).getD []∈Ls;rw[Q5 (show((c / 11+(0+(t:Int))) % (Ls.length:Int)).toNat<Ls.length by omega)];exact ZV _
  have lk:Uc (V0 c Ls t).2:=⟨ZD (ll _ lm) n63,ln _ lm⟩;refine⟨g.put pl.1.1 pl.1.2 pl.2 lk fun k hk=>?_,ZD (KG _ _) (by omega),fun f hf=>?_⟩
  ·have h1:=Zu.mp (Zu.mp Xq _ (m k hk)) _ pm;have h2:=Zu.mp (Zu.mp Xq _ pm) _ (m k hk);rw[Y9]at h1 h2;exact⟨h1,h2⟩
  ·rcases Ge hf with z|z
   ·exact m f z
   ·rwa[z]
theorem IP (h:At S n t):yG S n [t.word]=true:=by
 obtain⟨e,he,rfl,hd⟩:=h;unfold yG;rw[Z2];refine⟨e,he,?_⟩;rw[Q8,Zt,Zt,Xb hd];exact⟨rfl,QV.mpr rfl⟩
theorem UW {Ls:List Da}(ne:Ls≠[]):∀t:Nat,∀f∈(EA t).foldl (fun fs k=>VT fs (V0 c Ls k)) [],f.2∈Ls
 | 0=>fun f hf=>(nomatch hf)
 |t+1=>fun f hf=>by
  rw[Y8,Z5]at hf;have hf:f∈VT _ (V0 c Ls t):=hf
  rcases Ge hf with z|z
  ·exact UW ne t f z
  ·rw[z];have lp:0<Ls.length:=Yg.mpr ne;have b0:0<=(c / 11+(0+(t:Int))) % (Ls.length:Int):=ZG _ (by omega);have b1:(c / 11+(0+(t:Int))) % (Ls.length:Int)<(Ls.length:Int):=Zx _ (by omega);show(Ls[_]?).getD []∈Ls;rw[Q5 (show((c / 11+(0+(t:Int))) % (Ls.length:Int)).toNat<Ls.length by omega)];exact ZV _
section
variable {z:Zs}{S0:Di}{i:Nat}{c:Int}
theorem ZOk.leaf (h:ZOk z S0 i)(i24:i<24)(s5:S0.length<=500)(lb:∀l∈VZ (c / 7) z.Ls,VS l=true)(ll:(VZ (c / 7) z.Ls).length<=max 6 (6+2*i+2)):Uc (VZ (c / 7) z.Ls)/\ZOk ⟨(A0 z.S (.leaf (VZ (c / 7) z.Ls))).1,z.ns++[(A0 z.S (.leaf (VZ (c / 7) z.Ls))).2],z.Ls++[VZ (c / 7) z.Ls]⟩ S0 (i+1):=by
 generalize VZ (c / 7) z.Ls=L at lb ll ⊢;have lk:Uc L:=⟨by omega,lb⟩;have hl:=h.len;obtain⟨ok1,at1,l1,T,eT,_⟩:=kA h.ok (qI lk) (by omega);obtain⟨c1,m1,s1⟩:=kZ h.ok (qI lk) (by omega) h.cl (fun n hn=>(nomatch hn));obtain⟨T0,e0⟩:=h.ext;refine⟨lk,ok1,c1,⟨T0++T,by rw[eT,e0,Z6]⟩,by show(A0 _ _).1.length<=_;omega,fun x hx=>?_,by rw[Q4];exact YE h.nl,fun L' hL'=>?_,fun L' hL'=>?_,by rw[Q4];exact YE h.lz,fun L' hL'=>?_,fun q=>(Bg (h.lc q) _).1,ZD (KU _ _) (YE h.ct)⟩
 ·rcases Zf.mp hx with q|q
  ·exact s1 _ (h.nm x q)
  ·rwa[QV.mp q]
 ·rcases Zf.mp hL' with q|q
  ·exact h.ln L' q
  ·rwa[QV.mp q]
 ·rcases Zf.mp hL' with q|q
  ·have:=h.ll L' q;omega
  ·rw[QV.mp q];omega
 ·rcases Zf.mp hL' with q|q
  ·obtain⟨x,hx⟩:=h.lf L' q;exact⟨x,by show At (A0 z.S (.leaf L)).1 x _;rw[eT];exact hx.more⟩
  ·rw[QV.mp q];exact⟨_,at1⟩
theorem ZOk.files (h:ZOk z S0 i)(i24:i<24)(s5:S0.length<=500)(ne:z.Ls≠[]):ZOk ⟨(VN 4 z.S (x4 c z.Ls)).1,z.ns++[(VN 4 z.S (x4 c z.Ls)).2],z.Ls⟩ S0 (i+1):=by
 have m4:c / 7 % 4<4:=Zx _ (by decide);obtain⟨g,l,_⟩:=uA (c:=c) ne h.ln h.ll (by omega) (c / 7 % 4).toNat;have g:GoodF 4 (x4 c z.Ls):=g;have fl:=UW (c:=c) ne (c / 7 % 4).toNat;have fl:∀f∈x4 c z.Ls,f.2∈z.Ls:=fl;have l:(x4 c z.Ls).length<=3:=by have:(x4 c z.Ls).length<=(c / 7 % 4).toNat:=l;omega
 generalize x4 c z.Ls=fs at g l fl ⊢;have hl:=h.len;have hw:=g.wt;obtain⟨pk,pl⟩:=vK 3 (S:=z.S) h.ok g (by omega) (by omega);have c1:=OW 3 h.ok h.cl g (by omega) (by omega);obtain⟨T,eT,_⟩:=pk.new;have pno:=OX 3 h.ok g (by omega) (by omega) (fun f hf=>h.lf _ (fl f hf));have okT:=pk.ok;have ndT:=pk.ok.good.nn;have nT:∀e∈T,kB e\/e∈z.S:=fun e he=>(pno e (by show e∈(VN 4 z.S fs).1;rw[eT];exact Zo _ he)).symm;rw[eT]at okT ndT;obtain⟨T0,e0⟩:=h.ext;refine⟨pk.ok,c1,⟨T0++T,by rw[eT,e0,Z6]⟩,by show(VN 4 z.S fs).1.length<=_;have:(VN 4 z.S fs).1.length<=z.S.length+1+wt fs:=pl;omega,fun x hx=>?_,by rw[Q4];exact YE h.nl,h.ln,fun L hL=>by have:=h.ll L hL;omega,Jc h.lz,fun L hL=>?_,fun q=>by show LC (VN 4 z.S fs).1;rw[eT];exact((h.lc q).trees okT nT ndT).1,by show VO (VN 4 z.S fs).1<=_;rw[eT,CC okT nT ndT];exact Jc h.ct⟩
 rotate_left
 ·obtain⟨x,hx⟩:=h.lf L hL;exact⟨x,by show At (VN 4 z.S fs).1 x _;rw[eT];exact hx.more⟩
 rcases Zf.mp hx with q|q
 ·show x∈(VN 4 z.S fs).1.map En.nm;rw[eT,Q6];exact ZC _ (h.nm x q)
 ·rw[QV.mp q];exact pk.tree.mem
theorem Nm (S:Di)(g:OkS S){nt:Da}(hn:∀x∈nt,x∈S.map En.nm/\V5 x=78):(∀p∈Uo c nt,p∈nt)/\(Uo c nt).Nodup/\(Uo c nt).length<=2:=by
 have p0:(∀p∈VX c nt,p∈nt)/\(VX c nt).Nodup/\(VX c nt).length<=1:=by
  unfold VX
  split
  ·rename_i hh;have lp:0<nt.length:=Yg.mpr hh.1;have b0:0<=c / 7 % (nt.length:Int):=ZG _ (by omega);have b1:c / 7 % (nt.length:Int)<(nt.length:Int):=Zx _ (by omega);rw[Q5 (show(c / 7 % (nt.length:Int)).toNat<nt.length by omega)];refine⟨fun p hp=>?_,by simp,Q2 _⟩;rw[QV.mp hp];exact ZV _
  ·exact⟨fun p hp=>(nomatch hp),Yb,Zz _⟩
 have m0:∀p∈V8 c nt,p∈nt/\p∉VX c nt:=fun p hp=>by
  unfold V8 at hp;rw[Ys]at hp;exact⟨hp.1,(Zb hp.2).2.1⟩
 have tl:((V8 c nt).take 1).length<=1:=by rw[Zm];omega
 unfold Uo;refine⟨fun p hp=>?_,?_,by rw[Q4];omega⟩
 ·rcases Zf.mp hp with q|q
  ·exact p0.1 p q
  ·exact(m0 p (ZU q)).1
 ·rw[Yw];refine⟨p0.2.1,?_,fun a ha b hb e=>?_⟩
  ·cases q:(V8 c nt).take 1 with
   |nil=>exact Yb
   |cons x xs =>
    rw[q,Zd]at tl;have:xs=[]:=List.length_eq_zero_iff.mp (by omega);rw[this];simp
  ·rw[e]at ha;exact(m0 b (ZU hb)).2 ha
theorem ZOk.note (h:ZOk z S0 i)(i24:i<24)(s5:S0.length<=500)(ne:z8 z.ns≠[]):vB (Ud c z.ns)/\namesOk z.S (Ud c z.ns)=true/\z.S.length<2000/\ZOk ⟨(A0 z.S (Ud c z.ns)).1,z.ns++[(A0 z.S (Ud c z.ns)).2],z.Ls⟩ S0 (i+1):=by
 have hl:=h.len;have hnt:∀x∈zL z.ns,x∈z.S.map En.nm/\V5 x=78:=fun x hx=>by
  unfold zL at hx;rw[Ys]at hx;exact⟨h.nm x hx.1,Zb hx.2⟩
 have htr:∀x∈z8 z.ns,x∈z.S.map En.nm/\V5 x=84:=fun x hx=>by
  unfold z8 at hx;rw[Ys]at hx;exact⟨h.nm x hx.1,Zb hx.2⟩
 obtain⟨pm,pn,pl⟩:=Nm z.S h.ok hnt (c:=c);have lp:0<(z8 z.ns).length:=Yg.mpr ne;have b0:0<=c / 11 % ((z8 z.ns).length:Int):=ZG _ (by omega);have b1:c / 11 % ((z8 z.ns).length:Int)<((z8 z.ns).length:Int):=Zx _ (by omega);have tm:(((z8 z.ns)[(c / 11 % ((z8 z.ns).length:Int)).toNat]?).getD "")∈z8 z.ns:=by
  rw[Q5 (show(c / 11 % ((z8 z.ns).length:Int)).toNat<(z8 z.ns).length by omega)];exact ZV _
 unfold Ud;generalize ((z8 z.ns)[(c / 11 % ((z8 z.ns).length:Int)).toNat]?).getD ""=t at tm ⊢;have pS:∀p∈Uo c (zL z.ns),p∈z.S.map En.nm/\V5 p=78:=fun p hp=>hnt p (pm p hp);generalize Uo c (zL z.ns)=ps at pn pl pS ⊢;have nmok:∀{x:Str},x∈z.S.map En.nm->Ok 1000 x:=fun{x} hx=>by
  obtain⟨e,he,rfl⟩:=QZ.mp hx;exact h.ok.nm he
 obtain⟨tS,tl⟩:=htr t tm;have gt:vB (.note t ps "w"):=Ks (nmok tS) (by decide +kernel) (fun p hp=>nmok (pS p hp).1) pn pl;have nok:namesOk z.S (.note t ps "w")=true:=by
  show(yG z.S t ["tree"]&&ps.all fun p=>yG z.S p ["note"])=true;rw[Q8,Zu];refine⟨?_,fun p hp=>?_⟩
  ·obtain⟨Do,at_⟩:=(BM h.ok tS).1 tl;exact IP at_
  ·obtain⟨t',ps',y',at_⟩:=(BM h.ok (pS p hp).1).2 (pS p hp).2;exact IP at_
 have gd:(Th.note t ps "w").Good:=gt.1;refine⟨gt,nok,by omega,?_⟩;obtain⟨ok1,at1,l1,T,eT,_⟩:=kA h.ok gd (by omega);obtain⟨c1,m1,s1⟩:=kZ h.ok gd (by omega) h.cl (fun n hn=>by
  rcases Q7.mp hn with q|q
  ·rwa[q]
  ·exact(pS n q).1)
 obtain⟨T0,e0⟩:=h.ext;refine⟨ok1,c1,⟨T0++T,by rw[eT,e0,Z6]⟩,by show(A0 _ _).1.length<=_;omega,fun x hx=>?_,by rw[Q4];exact YE h.nl,h.ln,fun L hL=>by have:=h.ll L hL;omega,Jc h.lz,fun L hL=>?_,fun q=>(Bg (h.lc q) _).1,by show VO (A0 z.S _).1<=_;rw[Oz];exact Jc h.ct⟩
 rotate_left
 ·obtain⟨x,hx⟩:=h.lf L hL;exact⟨x,by show At (A0 z.S _).1 x _;rw[eT];exact hx.more⟩
 rcases Zf.mp hx with q|q
 ·exact s1 _ (h.nm x q)
 ·rwa[QV.mp q]
end
end An28
namespace L2
open PySem PySem.Spec PyProof.Rows
section
variable {X:Cx}{K:AZ}
theorem OF (hu:X.A.units+64<E8)(hK:X.K=K:=by rfl):Ce X (EO .NotEq) (Rp K):=by
 subst hK;exact kF hu
end
end L2
namespace An28
open PySem L2 An
seal L2.PS L2.PSs L2.PE L2.PT L2.PW L2.PA L2.PG L2.PGs L2.PI L2.PFi L2.PC
theorem GE (n:NoSeq H fp):∀b∈fp,∀xs,¬Rd H b (.tup xs):=fun b hb xs=>by
 obtain⟨o,e,h1,_,h3⟩:=n b hb;exact XZ e h1 h3 xs
theorem xB (n:NoSeq H fp){c:Eh}{xs:Dj}(h:H c=some (.lst xs)):c∉fp:=fun z=>by
 obtain⟨o,e,_,h2,_⟩:=n c z;rw[h]at e;exact h2 xs (Option.some.inj e).symm
theorem jK {H:Hp}{a:Eh}{xs:Dj}(h:H a=some (.lst xs)):∀ys,¬Rd H a (.tup ys):=fun ys z=>by
 rcases z with z|⟨o,z⟩
 ·rw[h]at z;cases z
 ·rw[h]at z;cases z
theorem BR (h:V5 x≠0):Cg x.cps.toList 0=some (V5 x):=by
 have h:((cs x).head?).getD 0≠0:=h;show Cg (cs x) 0=some (((cs x).head?).getD 0);cases q:cs x with
 |nil=>rw[q]at h;exact absurd rfl h
 |cons a r=>exact Id _ _
theorem SU (n:Nat):(V.str ⟨#[n]⟩=V.str "T")↔n=84:=by
 have e:("T":Str)=⟨#[84]⟩:=by decide +kernel
 rw[e];exact⟨fun h=>by injection h with h;injection h with h;injection h with h;injection h,fun h=>by rw[h]⟩
theorem SS (n:Nat):(V.str ⟨#[n]⟩=V.str "N")↔n=78:=by
 have e:("N":Str)=⟨#[78]⟩:=by decide +kernel
 rw[e];exact⟨fun h=>by injection h with h;injection h with h;injection h with h;injection h,fun h=>by rw[h]⟩
theorem MW (g:OkS S){x:Str}(hx:x∈S.map En.nm):V5 x≠0/\x.length<=1000:=by
 obtain⟨e,he,rfl⟩:=QZ.mp hx;obtain⟨t,td,_,th⟩:=g.th e he;refine⟨?_,(g.nm he).len⟩;rw[IX g he td];cases t with
 |leaf _=>exact(by decide:(76:Nat)≠0)
 |tree _=>exact(by decide:(84:Nat)≠0)
 |note _ _ _=>exact(by decide:(78:Nat)≠0)
theorem xM {K:AZ}{X:Dd}(n:∀b∈X,∀xs,¬Rd H b (.tup xs))(o:Off X H H'):∀{Ls:List Da} {xs:Dj},(∀L∈Ls,Uc L)->DtAll K H (Ls.map V4) xs->DtAll K H' (Ls.map V4) xs
 |[],xs,_,h=>h
 |L::Ls,xs,lb,h=>by
  obtain⟨v,ys,e,hv,hr⟩:=h;refine⟨v,ys,e,?_,xM n o (fun L hL=>lb L (QY _ hL)) hr⟩;exact Dt.off n o _ _ (uZ (qI (lb L Q1))).1 hv
section
variable {P:Ei}{w:Eo}{K:AZ}{mg:Str->Dc}{base:EC}{t1 t2 t3 t4 t5 t6 t7:Tok}{aL aC aN aT aA b1 b2 b3 fI:Eh}
theorem HY (n:NoSeq H fp)(o:Off fp H H')(h:SqL K H l xs):SqL K H' l xs:=by
 rcases h with(h|⟨ob,h⟩)|h
 ·exact .inl (.inl (o _ _ (xB n h) h))
 ·refine .inl (.inr ⟨ob,o _ _ (fun z=>?_) h⟩);obtain⟨o,e,_,_,h3⟩:=n l z;rw[h]at e;exact h3 _ _ (Option.some.inj e).symm
 ·exact .inr h
theorem Oc {xs:Dj}{v:V}(h:xs.getLast?=some v):Cg xs (-1)=some v:=by
 have hl:0<xs.length:=by
  cases xs with
  |nil=>cases h
  |cons a b=>exact Nat.succ_pos _
 have e:(-1:Int)+(xs.length:Int)=((xs.length-1:Nat):Int):=by omega
 rw[List.getLast?_eq_getElem?]at h;have e2:N6 xs.length (-1)=some (xs.length-1):=by
  unfold N6;rw[Zh (by decide),Zk (by omega)]
  congr 1
  omega
 unfold Cg;rwa[e2]
theorem KQ:pathsZ.map (fun p=>V.str (A4 p))=[V.str "a",V.str "b/c",V.str "b/d",V.str "ab/a/a"]:=by
 have:pathsZ.map A4=([("a":Str),"b/c","b/d","ab/a/a"]:Da):=by decide +kernel
 have e:pathsZ.map (fun p=>V.str (A4 p))=(pathsZ.map A4).map V.str:=by rw[Zv];rfl
 rw[e,this];rfl
theorem BY (g:OkS S){L:Nat}{w:Str}(wi:∀n,(V.str ⟨#[n]⟩=V.str w)↔n=L){ns:Da}(nm:∀x∈ns,x∈S.map En.nm){i:Nat}{x:Str}(hx:ns[i]?=some x):((ns.take (i+1)).filter fun x=>decide (V5 x=L))=((ns.take i).filter fun x=>decide (V5 x=L))++(if decide (V.str ⟨#[V5 x]⟩=V.str w)=true then[x] else[]):=by
 rw[take_snoc hx,Jr,YW]
 by_cases q:V5 x=L
 ·rw[Zk (QX q),Zk (QX ((wi _).mpr q))];rfl
 ·rw[Zh (fun z=>q (Zb z)),Zh (fun z=>q ((wi _).mp (Zb z)))];rfl
namespace AW
abbrev st:Stmt:=top 58
theorem sc:FnScope ["_law_shelf","_law_cells","_law_names","_law_leaves","_law_cell","_law_form","_law_trees","_law_notes","_law_files","_law_k","_law_path","_law_parents","_law_more","_law_thing"] ["_law_shelf","_law_cells"] (zH st):=Ca
theorem ok (F:Fun K "_law_filled" "_law_filled" st f fd)(T:Txt P w K mg t1 t2 t3 t4 t5 t6 t7 aL aC aN aT aA b1 b2 b3 fI)(QS:CalX P w K mg base 13 "keep_files" ["shelf","files"] (NQ P w K aC))(Qa:MetX P w K mg base aC 7 "put" ["self","thing"] (Ub P w K aC aN aT))(QT:Cal P w K mg base 3 "_law_leaf_by" ["_law_leaves","_law_cell"] (CY K)):FnOk P w K mg base A9 14 f fd ["_law_shelf","_law_cells"] (CW P w K aC):=by
 refine F.ok sc (fun vs H Q E h=>?_) (fun cdv A outer s H vs Q E hr h=>?_)
 ·obtain⟨a,cl,fp,S,cs,rfl,_⟩:=h;rfl
 ·obtain⟨a,cl,fp,S,cs,rfl,sh,ok,hcl,hcs,c24,s5,k⟩:=h;refine⟨_,(zE (A8 (i:=2) sc.nd (yN zD)) (zE (A8 (i:=3) sc.nd (yN zD)) (zE (xP EM rfl (xJ (pv 1)) (zS (i:=4) sc.nd rfl (Or.inr rfl)) (zE (A8 (i:=5) sc.nd (zQ yI (pv 4) zI)) (zE (Xm (sc:=zH st) (N:=["_law_shelf","_law_cells","_law_names","_law_leaves","_law_cell","_law_form","_law_trees","_law_notes","_law_files","_law_k","_law_path","_law_parents","_law_more","_law_thing"]) (N':=["_law_name"]) (src:=[none]) ⟨by decide +kernel,rfl,rfl,by decide +kernel,by decide +kernel,by decide +kernel,by decide +kernel⟩ rfl rfl rfl (xJ (pv 2)) (fun _ _ _ _=>(zS (i:=0) (show(["_law_name"]:Da).Nodup by decide +kernel) rfl (EJ rfl))) (fun _ _ _ _=>(XS (zP xN (z7 Fz (pv 0) zI (fun _ _=>rfl)) pe_str (zT _)))) (fun _ _ _ _=>(pv 0)) sc.nd rfl (EJ rfl) (k:=6)) (zE (Xm (sc:=zH st) (N:=["_law_shelf","_law_cells","_law_names","_law_leaves","_law_cell","_law_form","_law_trees","_law_notes","_law_files","_law_k","_law_path","_law_parents","_law_more","_law_thing"]) (N':=["_law_name"]) (src:=[none]) ⟨by decide +kernel,rfl,rfl,by decide +kernel,by decide +kernel,by decide +kernel,by decide +kernel⟩ rfl rfl rfl (xJ (pv 2)) (fun _ _ _ _=>(zS (i:=0) (show(["_law_name"]:Da).Nodup by decide +kernel) rfl (EJ rfl))) (fun _ _ _ _=>(XS (zP xN (z7 Fz (pv 0) zI (fun _ _=>rfl)) pe_str (zT _)))) (fun _ _ _ _=>(pv 0)) sc.nd rfl (EJ rfl) (k:=7)) (zF (yM (PW.pt (UP (zP HA (pv 5) zI (zT _)) (vC (zP (kF hr.units) (pv 3) (yN zD) (zT _))))) (zE (A8 (i:=8) sc.nd qG) (zE (xP EM rfl (jL rfl T.range (zA (zQ yI (zQ yD (pv 4) zI) zI) zD)) (zS (i:=9) sc.nd rfl (EJ rfl)) (zE (A8 (i:=10) sc.nd (z7 (ix_list:A7 _ (Xa K)) (yN (zA pe_str (zA pe_str (zA pe_str (zA pe_str zD))))) (zQ yI (zQ x6 (zQ yD (pv 4) zI) (pv 9)) zI) (fun _ _=>rfl))) (zF (qH hr.units1 (pv 8) (pv 10) (z7 (ix_tup:A7 _ (VR K)) (z7 (ix_list:A7 _ (Xa K)) (pv 3) (zQ yI (zQ x6 (zQ yD (pv 4) zI) (pv 9)) (zJ zN (by rfl) T.len ZE (zA (pv 3) zD))) (fun _ _=>rfl)) zI (fun _ _=>rfl)) rfl)))) (zF (yB (jY ZL Ye Yf x8 (pv 2) (zA (jW QS hr.m yJ (zA (pv 0) (zA (pv 8) zD))) zD)))))) (zF (yM (PW.pt (UP (zP xN (pv 5) zI (zT _)) (vC (zP (kF hr.units) (pv 6) (yN zD) (zT _))))) (q9 (A8 (i:=11) sc.nd (XV (PW.pt (UP (zP (kF hr.units) (pv 7) (yN zD) (zT _)) (vC (zP HA (zQ yI (zQ yD (pv 4) zI) zI) zI (zT _))))) (yN (zA (z7 (ix_list:A7 _ (Xa K)) (pv 7) (zQ yI (zQ yD (pv 4) zI) (zJ zN (by rfl) T.len ZE (zA (pv 7) zD))) (fun _ _=>rfl)) zD)) (yN zD))) (zE (Xm (sc:=zH st) (N:=["_law_shelf","_law_cells","_law_names","_law_leaves","_law_cell","_law_form","_law_trees","_law_notes","_law_files","_law_k","_law_path","_law_parents","_law_more","_law_thing"]) (N':=["_law_name","_law_parents","_law_cell"]) (src:=[none,some 11,some 4]) ⟨by decide +kernel,rfl,rfl,by decide +kernel,by decide +kernel,by decide +kernel,by decide +kernel⟩ rfl rfl rfl (xJ (pv 7)) (fun _ _ _ _=>(zS (i:=0) (show(["_law_name","_law_parents","_law_cell"]:Da).Nodup by decide +kernel) rfl (EJ rfl))) (fun _ _ _ _=>(XS (PW.pt (UP (zP (OF (K:=K) hr.units) (pv 1) (yN zD) (zT _)) (UP (zP (HC (K:=K) hr.units) (pv 0) (pv 1) (by with_unfolding_all rfl)) (vC (zP xN (zQ yI (zQ yD (pv 2) zI) zI) zI (zT _)))))))) (fun _ _ _ _=>(pv 0)) sc.nd rfl (EJ rfl) (k:=12)) (zE (A8 (i:=11) sc.nd (zQ uS (pv 11) (xF (sl_list:Hc _ (Ig K)) (pv 12) j6 (yZ zI)))) (zE (A8 (i:=13) sc.nd (jA (zA pe_str (zA (z7 (ix_list:A7 _ (Xa K)) (pv 6) (zQ yI (zQ yD (pv 4) zI) (zJ zN (by rfl) T.len ZE (zA (pv 6) zD))) (fun _ _=>rfl)) (zA (zZ xT (by rfl) T.tuple ZZ (zA (pv 11) zD)) (zA pe_str zD)))))) (zF (yB (jY ZL Ye Yf x8 (pv 2) (zA (xE (pv 0) T.cls Qa hr.m yJ (zA (pv 13) zD)) zD)))))))) (zE (yB (jY ZL Ye Yf x8 (pv 3) (zA (zK QT hr.m (zA (pv 3) (zA (zQ yD (pv 4) zI) zD))) zD))) (zF (yB (jY ZL Ye Yf x8 (pv 2) (zA (xE (pv 0) T.cls Qa hr.m yJ (zA (z7 (ix_list:A7 _ (Xa K)) (pv 3) (Sn RK zI) (fun _ _=>rfl)) zD)) zD))))))))))))) (zF (zO (pv 2)))))),?_⟩
  refine⟨VP 0,fun ln nln=>?_⟩;have un:=zC (o:=.lst []) nln;refine yC ⟨VP 0,fun ll nll=>?_⟩;have ul:=zC (o:=.lst []) nll;have hn0:=ul _ _ (zB (H:=H) (a:=ln) (o:=.lst []));have lne:ln≠ll:=zM (zB (H:=H) (a:=ln) (o:=.lst [])) nll;have hl0:=zB (H:=upd H ln (.lst [])) (a:=ll) (o:=.lst []);have s0:=un.trans ul;have nsq:=sh.noseq;have z0:ZOk (((cs.take 0).foldl A2 ⟨S,[],[]⟩)) S 0:=⟨ok,hcl,⟨[],(Zy S).symm⟩,Q2 _,fun x hx=>(nomatch hx),Q2 _,fun L hL=>(nomatch hL),fun L hL=>(nomatch hL),Q2 _,fun L hL=>(nomatch hL),fun q=>q,Q2 _⟩;refine yC ⟨_,rfl,cl,rfl,⟨_,s0.seq hcs⟩,kC (K:=K) (a:=cl) (xs:=cs.map V.int) (fun i σ H'=>∃xs o4 o5 o6 o7 o8 o9 o10 o11 o12 o13,σ=[some (.ref a),some (.ref cl),some (.ref ln),some (.ref ll),o4,o5,o6,o7,o8,o9,o10,o11,o12,o13]/\Off fp H H'/\ShAt P w K aC H' a fp ((cs.take i).foldl A2 ⟨S,[],[]⟩).S/\ZOk ((cs.take i).foldl A2 ⟨S,[],[]⟩) S i/\H' ln=some (.lst (((cs.take i).foldl A2 ⟨S,[],[]⟩).ns.map V.str))/\H' ll=some (.lst xs)/\DtAll K H' (((cs.take i).foldl A2 ⟨S,[],[]⟩).Ls.map V4) xs) ⟨[],none,none,none,none,none,none,none,none,none,none,rfl,Off.of s0,sh.same s0,z0,hn0,hl0,rfl⟩ (fun i σ H' _ ⟨_,_,_,_,_,_,_,_,_,_,_,_,o',_⟩=>HY nsq o' hcs) ?_ ?_⟩
  ·rintro i v σ H' hv ⟨xs,o4,o5,o6,o7,o8,o9,o10,o11,o12,o13,rfl,of1,sh1,zk,hn1,hl1,hd1⟩;rw[Za]at hv;obtain⟨c,hc,rfl⟩:=ZB.mp hv;have il:=(Zl.mp hc).1;have i24:i<24:=Zp il c24;have ez:(cs.take (i+1)).foldl A2 ⟨S,[],[]⟩=A2 ((cs.take i).foldl A2 ⟨S,[],[]⟩) c:=by rw[take_snoc hc,Z5];rfl
   rw[ez];generalize (cs.take i).foldl A2 ⟨S,[],[]⟩=z at sh1 zk hn1 hd1 ⊢;have zn:=zk.nl;have lk:∀L∈z.Ls,Uc L:=fun L hL=>⟨by have:=zk.ll L hL;omega,zk.ln L hL⟩;refine yC ⟨_,rfl,_,_,rfl,rfl,(by decide:(0:Int)<7),?_⟩;refine⟨_,rfl,ln,rfl,⟨_,SqL.of hn1⟩,qL (K:=K) (a:=ln) (xs:=z.ns.map V.str) (fun j ys σ H2=>∃o,σ=[o]/\H2=H'/\ys=(((z.ns.take j).filter fun x=>decide (V5 x=84))).map V.str) ⟨none,rfl,rfl,rfl⟩ (le_line (by rw[QU];omega)) ?_ ?_ ?_⟩
   ·rintro j ys σ H2 hj ⟨o,rfl,rfl,rfl⟩;refine⟨SqL.of hn1,?_⟩;rw[QU];have:=Yi (fun x=>decide (V5 x=84)) (z.ns.take j);rw[Zm]at this;omega
   ·rintro j y ys σ H2 hy ⟨o,rfl,rfl,rfl⟩;rw[Za]at hy;obtain⟨x,hx,rfl⟩:=ZB.mp hy;obtain⟨x0,xl⟩:=MW zk.ok (zk.nm x (Zc hx));have lc:=BY zk.ok SU zk.nm hx;refine⟨_,rfl,x,0,V5 x,rfl,rfl,le_line (by omega),BR x0,rfl,_,rfl,VU (fun q=>⟨_,rfl,_,rfl,rfl,?_⟩) (fun q=>⟨_,rfl,rfl,?_⟩)⟩
    ·rw[lc,Zk q,Q6];rfl
    ·rw[lc,Zh q,Zy]
   rintro ys σ H2 ⟨o,rfl,rfl,rfl⟩ l6 n6;have e6:(z.ns.take (z.ns.map V.str).length).filter (fun x=>decide (V5 x=84))=z8 z.ns:=by rw[QU,Zq];rfl
   rw[e6];have u6:=zC (o:=.lst ((z8 z.ns).map V.str)) n6;have hn6:=u6 _ _ hn1;have h66:=zB (H:=H2) (a:=l6) (o:=.lst ((z8 z.ns).map V.str));have sh6:=sh1.same u6;have of6:=of1.trans (Off.of u6);have hl6:=u6 _ _ hl1;have hd6:=DtAll.same u6 _ _ hd1;generalize upd H2 l6 (.lst ((z8 z.ns).map V.str))=H6 at u6 hn6 h66 sh6 of6 hl6 hd6 ⊢;clear e6 n6 u6 sh1 of1 hn1 hl1 hd1;refine⟨_,rfl,ln,rfl,⟨_,SqL.of hn6⟩,qL (K:=K) (a:=ln) (xs:=z.ns.map V.str) (fun j ys σ H2=>∃o,σ=[o]/\H2=H6/\ys=(((z.ns.take j).filter fun x=>decide (V5 x=78))).map V.str) ⟨none,rfl,rfl,rfl⟩ (le_line (by rw[QU];omega)) ?_ ?_ ?_⟩
   ·rintro j ys σ H2 hj ⟨o,rfl,rfl,rfl⟩;refine⟨SqL.of hn6,?_⟩;rw[QU];have:=Yi (fun x=>decide (V5 x=78)) (z.ns.take j);rw[Zm]at this;omega
   ·rintro j y ys σ H2 hy ⟨o,rfl,rfl,rfl⟩;rw[Za]at hy;obtain⟨x,hx,rfl⟩:=ZB.mp hy;obtain⟨x0,xl⟩:=MW zk.ok (zk.nm x (Zc hx));have lc:=BY zk.ok SS zk.nm hx;refine⟨_,rfl,x,0,V5 x,rfl,rfl,le_line (by omega),BR x0,rfl,_,rfl,VU (fun q=>⟨_,rfl,_,rfl,rfl,?_⟩) (fun q=>⟨_,rfl,rfl,?_⟩)⟩
    ·rw[lc,Zk q,Q6];rfl
    ·rw[lc,Zh q,Zy]
   rintro ys σ H2 ⟨o,rfl,rfl,rfl⟩ l7 n7;have e7:(z.ns.take (z.ns.map V.str).length).filter (fun x=>decide (V5 x=78))=zL z.ns:=by rw[QU,Zq];rfl
   rw[e7];have u7:=zC (o:=.lst ((zL z.ns).map V.str)) n7;have hn7:=u7 _ _ hn6;have h67:=u7 _ _ h66;have h77:=zB (H:=H2) (a:=l7) (o:=.lst ((zL z.ns).map V.str));have sh7:=sh6.same u7;have of7:=of6.trans (Off.of u7);have hl7:=u7 _ _ hl6;have hd7:=DtAll.same u7 _ _ hd6;generalize upd H2 l7 (.lst ((zL z.ns).map V.str))=H7 at u7 hn7 h67 h77 sh7 of7 hl7 hd7 ⊢;clear e7 n7 u7 sh6 of6 hn6 hl6 hd6 h66;have lnil:∀L∈([]:List Da),∀l∈L,VS l=true:=fun L hL=>(nomatch hL);have s500:S.length<=500:=s5;refine⟨_,rfl,_,_,rfl,rfl,_,rfl,VU (fun h1=>⟨_,rfl,VP 0,fun l8 n8=>⟨.list (z.Ls.map V4),.list [],⟨ll,xs,rfl,SqL.of (zC n8 _ _ hl7),DtAll.same (zC n8) _ _ hd7⟩,⟨l8,[],rfl,SqL.of zB,rfl⟩,yQ zk.ln,yQ lnil,_,rfl,VU (fun h2=>?x) (fun h2=>?y)⟩⟩) (fun h1=>VL ?w)⟩
   case x =>
    have u8:=zC (o:=.lst []) n8;have ne:z.Ls≠[]:=fun q=>by
     have h2:(!EE (.list (z.Ls.map V4)) (.list []))=true:=h2;rw[Xi,QX q]at h2;cases h2
    have c5:c % 7>4:=Zb h1;have fz:A2 z c=⟨(VN 4 z.S (x4 c z.Ls)).1,z.ns++[(VN 4 z.S (x4 c z.Ls)).2],z.Ls⟩:=by
     unfold A2;rw[Zk ⟨c5,ne⟩]
    have hn8:=u8 _ _ hn7;have sh8:=sh7.same u8;have of8:=of7.trans (Off.of u8);have hl8:=u8 _ _ hl7;have hd8:=DtAll.same u8 _ _ hd7;generalize upd H7 l8 (.lst [])=H8 at hn8 sh8 of8 hl8 hd8 ⊢;clear hn7 sh7 of7 hl7 hd7 u8 h67 h77;refine fun d nd=>?_;have ud:=zC (o:=.dK []) nd;have dfp:=sh8.ex.not nd;have nd0:H d=none:=by
     cases q:H d with
     |none=>rfl
     |some o=>rw[of8 d o dfp q]at nd;cases nd
    have m4:0<=c / 7 % 4/\c / 7 % 4<4:=⟨ZG _ (by decide),Zx _ (by decide)⟩;have fg:=uA (c:=c) ne zk.ln zk.ll (show 6+2*i<=63 by omega);have zlz:=zk.lz;have xl:xs.length=z.Ls.length:=by rw[hd8.length,QU]
    have lp:0<z.Ls.length:=Yg.mpr ne;have zlen:=zk.len;have dl:d≠ll:=fun q=>by rw[q,hl8]at nd;cases nd
    have dn:d≠ln:=fun q=>by rw[q,hn8]at nd;cases nd
    refine yC ⟨_,rfl,_,_,rfl,rfl,⟨by decide,by decide⟩,_,_,rfl,rfl,(by decide:(0:Int)<4),_,rfl,by omega,by omega,UF (lo:=0) (n:=(c / 7 % 4).toNat) (fun t σ H'=>∃o9 o10 kv,σ=[some (.ref a),some (.ref cl),some (.ref ln),some (.ref ll),some (.int c),some (.int (c % 7)),some (.ref l6),some (.ref l7),some (.ref d),o9,o10,o11,o12,o13]/\Off [d] (upd H8 d (.dK [])) H'/\H' d=some (.dK kv)/\FsAt K H' ((EA t).foldl (fun fs k=>VT fs (V0 c z.Ls k)) []) kv) ⟨_,_,[],rfl,Off.refl _ _,zB,FsAt.nil⟩ ?_ ?_⟩
    ·rintro t σ H' ht ⟨o9,o10,kv,rfl,od,hd',ff⟩;obtain⟨g1,l1,_⟩:=fg t;have kl:=ff.len;have eP:(EA (t+1)).foldl (fun fs k=>VT fs (V0 c z.Ls k)) []=VT ((EA t).foldl (fun fs k=>VT fs (V0 c z.Ls k)) []) (V0 c z.Ls t):=by rw[Y8,Z5];rfl
     rw[eP];generalize (EA t).foldl (fun fs k=>VT fs (V0 c z.Ls k)) []=fs at g1 l1 ff kl ⊢;have nt:∀b∈[d],∀ys,¬Rd (upd H8 d (.dK [])) b (.tup ys):=yA zB;have hl':=od _ _ (fun q=>dl (QV.mp q).symm) (ud _ _ hl8);have hdx:=xM nt od lk (DtAll.same ud _ _ hd8);refine yC ⟨VP 4,fun l9 n9=>?_⟩;have u9:=zC (o:=.lst [V.str "a",V.str "b/c",V.str "b/d",V.str "ab/a/a"]) n9;have b0:0<=(c / 28+(0+(t:Int))) % 4:=ZG _ (by decide);have b1:(c / 28+(0+(t:Int))) % 4<4:=Zx _ (by decide);obtain⟨p,hp,ep⟩:=XN (f:=fun p=>V.str (A4 p)) (xs:=pathsZ) (i:=(c / 28+(0+(t:Int))) % 4) b0 b1;rw[KQ]at ep;have p1:(V0 c z.Ls t).1=p:=by show(pathsZ[_]?).getD []=p;rw[hp];rfl
     have pm:=Zc hp;have pl:=Zu.mp IL _ pm;rw[Q8,Q8,Zt,Zt,Zu]at pl;refine⟨_,rfl,_,_,rfl,rfl,⟨by decide,by decide⟩,_,rfl,_,_,rfl,rfl,_,_,rfl,rfl,(by decide:(0:Int)<4),l9,_,_,_,rfl,rfl,SqL.of zB,ep,?_⟩;have d0:0<=(c / 11+(0+(t:Int))) % (z.Ls.length:Int):=ZG _ (by omega);have d1:(c / 11+(0+(t:Int))) % (z.Ls.length:Int)<(z.Ls.length:Int):=Zx _ (by omega);obtain⟨L,hL⟩:∃L,z.Ls[((c / 11+(0+(t:Int))) % (z.Ls.length:Int)).toNat]?=some L:=⟨_,Q5 (by omega)⟩;have p2:(V0 c z.Ls t).2=L:=by show(z.Ls[_]?).getD []=L;rw[hL];rfl
     obtain⟨v,hv⟩:∃v,xs[((c / 11+(0+(t:Int))) % (xs.length:Int)).toNat]?=some v:=⟨_,Q5 (by rw[xl];omega)⟩;have ev:Cg xs ((c / 11+(0+(t:Int))) % (xs.length:Int))=some v:=by
      unfold Cg;rw[Fy (by rwa[xl]) (by rwa[xl])];exact hv
     have hl9:=u9 _ _ hl';have hd9:=u9 _ _ hd';obtain⟨dd,hdd,dv⟩:=(DtAll.same u9 _ _ hdx).get hv;rw[Za,xl,hL]at hdd;cases hdd;obtain⟨tt,b,rfl,htt,hb⟩:=jD dv;have Lk:=lk L (Zc hL);have ff9:=ff.same u9;have od9:=od.trans (Off.of u9);generalize upd H' l9 (.lst [V.str "a",V.str "b/c",V.str "b/d",V.str "ab/a/a"])=H9 at hl9 hd9 htt hb ff9 od9 ⊢;refine⟨_,rfl,_,rfl,_,_,rfl,rfl,⟨by decide,by decide⟩,_,rfl,_,_,rfl,rfl,_,rfl,ll,_,rfl,.inl (SqL.of hl9),_,_,rfl,rfl,(show(0:Int)<(xs.length:Int) by omega),ll,_,_,_,rfl,rfl,SqL.of hl9,ev,tt,_,_,_,rfl,rfl,htt,rfl,_,rfl,_,rfl,d,_,rfl,DPut.k (k:=.inr (A4 p)) hd9 (yT (by omega)),?_⟩;have fp':=(ff9.put g1 (f:=V0 c z.Ls t) (v:=.ref b) (by rw[p1];exact pl.1.1) (by rw[p1];exact pl.2) (by rw[p2];exact⟨b,_,rfl,hb,DtAll.strs L⟩) (by rw[p2];exact Lk)).off (yA hd9) (z6 (c:=d) (o:=.dK (putK kv (.inr (A4 (V0 c z.Ls t).1)) (.ref b))));rw[p1]at fp';exact⟨_,_,_,rfl,od9.upd (QV.mpr rfl),zB,fp'⟩
    ·rintro σ H9 ⟨o9,o10,kv,rfl,od,hd9,ff9⟩;have zk':=zk.files (c:=c) i24 s500 ne;obtain⟨g1,l1,_⟩:=fg (c / 7 % 4).toNat;have g1:GoodF 4 (x4 c z.Ls):=g1;have l1:(x4 c z.Ls).length<=(c / 7 % 4).toNat:=l1;have ff9:FsAt K H9 (x4 c z.Ls) kv:=ff9;have wf:=g1.wt;have nt:∀b∈[d],∀ys,¬Rd (upd H8 d (.dK [])) b (.tup ys):=yA zB;have sh9:=(sh8.same ud).off (gp:=[d]) nt od (fun b hb q=>dfp (QV.mp q▸hb));have hn9:=od _ _ (fun q=>dn (QV.mp q).symm) (ud _ _ hn8);have hl9:=od _ _ (fun q=>dl (QV.mp q).symm) (ud _ _ hl8);have hdx:=xM nt od lk (DtAll.same ud _ _ hd8);refine⟨_,rfl,.inl ⟨rfl,_,SqL.of hn9⟩,_,rfl,_,rfl,a,d,fp,z.S,x4 c z.Ls,kv,rfl,sh9,zk.ok,hd9,dfp,ff9,g1,by omega,by omega,fun H12 D7 sh12=>?_⟩;have hn12:=D7 _ _ (xB sh9.noseq hn9) hn9;have hl12:=D7 _ _ (xB sh9.noseq hl9) hl9;have hd12:=xM (GE sh9.noseq) D7 lk hdx;refine⟨ln,_,_,rfl,rfl,hn12,yT (by rw[QU];omega),?_⟩;have ntn:∀b∈[ln],∀ys,¬Rd H12 b (.tup ys):=fun b hb ys=>by rw[QV.mp hb];exact jK hn12 ys
     rw[fz];refine⟨xs,_,_,_,_,_,_,_,_,_,_,rfl,fun b o nb eb=>?_,sh12.off (gp:=[ln]) ntn z6 (fun b hb q=>xB sh12.noseq hn12 (QV.mp q▸hb)),zk',by rw[zB,Q6];rfl,by rw[zG (ED lne)];exact hl12,xM ntn z6 lk hd12⟩;rw[zG (fun q=>by rw[q,nln]at eb;cases eb)];exact D7 b o nb (od b o (fun q=>by rw[QV.mp q,nd0]at eb;cases eb) (ud _ _ (of8 b o nb eb)))
   case' w =>
    have s1:=Same.refl H7;have nA:¬(c % 7>4/\z.Ls≠[]):=fun q=>h1 (QX q.1)
   case' y =>
    have s1:=zC (o:=.lst []) n8;have nA:¬(c % 7>4/\z.Ls≠[]):=fun q=>h2 (by
     show(!EE (.list (z.Ls.map V4)) (.list []))=true;rw[Xi,Q9 q.2];rfl)
    generalize upd H7 l8 (.lst [])=H8 at s1 ⊢
   case w|y =>
    have hn8:=s1 _ _ hn7;have h68:=s1 _ _ h67;have h78:=s1 _ _ h77;have sh8:=sh7.same s1;have of8:=of7.trans (Off.of s1);have hl8:=s1 _ _ hl7;have hd8:=DtAll.same s1 _ _ hd7;have trok:∀p∈z8 z.ns,Em p=true:=fun p hp=>by
     unfold z8 at hp;obtain⟨e,he,rfl⟩:=QZ.mp (zk.nm p (Ys.mp hp).1);exact(zk.ok.nm he).ok
    refine⟨_,rfl,rfl,_,rfl,VU (fun h3=>⟨_,rfl,VP 0,fun l9 n9=>⟨.list ((z8 z.ns).map .str),.list [],⟨l6,_,rfl,SqL.of (zC n9 _ _ h68),DtAll.strs _⟩,⟨l9,[],rfl,SqL.of zB,rfl⟩,(y9 trok).1,yQ lnil,_,rfl,VU (fun h4=>?_) (fun h4=>?_)⟩⟩) (fun h3=>VL ?_)⟩
    ·have s3:=s1.trans (zC (o:=.lst []) n9);have h4:(!EE (.list ((z8 z.ns).map .str)) (.list []))=true:=h4;have ne:z8 z.ns≠[]:=fun q=>by
      rw[q]at h4;cases h4
     have c4:c % 7=4:=V.int.inj (Zb h3);have fz:A2 z c=⟨(A0 z.S (Ud c z.ns)).1,z.ns++[(A0 z.S (Ud c z.ns)).2],z.Ls⟩:=by
      unfold A2;rw[Zh nA,Zk ⟨c4,ne⟩]
     clear hn8 h68 h78 sh8 of8 hl8 hd8;have hn9:=s3 _ _ hn7;have h69:=s3 _ _ h67;have h79:=s3 _ _ h77;have sh9:=sh7.same s3;have of9:=of7.trans (Off.of s3);have hl9:=s3 _ _ hl7;have hd9:=DtAll.same s3 _ _ hd7;generalize upd _ l9 (.lst [])=H9 at s3 hn9 h69 h79 sh9 of9 hl9 hd9 ⊢;obtain⟨gt,nok,zlt,zk'⟩:=zk.note (c:=c) i24 s500 ne;have ntok:∀p∈zL z.ns,Em p=true:=fun p hp=>by
      unfold zL at hp;obtain⟨e,he,rfl⟩:=QZ.mp (zk.nm p (Ys.mp hp).1);exact(zk.ok.nm he).ok
     have ntl:(zL z.ns).length<=24:=ZD (Yi _ _) (by omega);have trl:(z8 z.ns).length<=24:=ZD (Yi _ _) (by omega);refine⟨fun σ' H'=>∃lp,σ'=[some (.ref a),some (.ref cl),some (.ref ln),some (.ref ll),some (.int c),some (.int (c % 7)),some (.ref l6),some (.ref l7),o8,o9,o10,some (.ref lp),o12,o13]/\Same H9 H'/\H' lp=some (.lst ((VX c (zL z.ns)).map V.str)),?_,?_⟩
     ·refine⟨_,rfl,VP 0,fun l10 n10=>⟨.list ((zL z.ns).map .str),.list [],⟨l7,_,rfl,SqL.of (zC n10 _ _ h79),DtAll.strs _⟩,⟨l10,[],rfl,SqL.of zB,rfl⟩,(y9 ntok).1,yQ lnil,_,rfl,VU (fun h5=>⟨_,rfl,_,_,rfl,rfl,⟨by decide,by decide⟩,_,_,rfl,rfl,(by decide:(0:Int)<3),_,_,rfl,rfl,_,rfl,VU (fun h6=>?_) (fun h6=>?_)⟩) (fun h5=>VL ?_)⟩⟩
      ·have h5:(!EE (.list ((zL z.ns).map .str)) (.list []))=true:=h5;have nn:zL z.ns≠[]:=fun q=>by rw[q]at h5;cases h5
       have lp0:0<(zL z.ns).length:=Yg.mpr nn;have u10:=zC (o:=.lst []) n10;have b0:0<=c / 7 % ((zL z.ns).length:Int):=ZG _ (by omega);have b1:c / 7 % ((zL z.ns).length:Int)<((zL z.ns).length:Int):=Zx _ (by omega);obtain⟨y,hy,ey⟩:=XN (f:=V.str) (xs:=zL z.ns) (i:=c / 7 % (((zL z.ns).map V.str).length:Int)) (by rwa[QU]) (by rwa[QU]);rw[QU]at hy;have ep:VX c (zL z.ns)=[y]:=by
        unfold VX;rw[Zk ⟨nn,Zb h6⟩,hy];rfl
       rw[ep];exact⟨_,rfl,_,rfl,_,_,rfl,rfl,⟨by decide,by decide⟩,_,rfl,l7,_,rfl,.inl (SqL.of (u10 _ _ h79)),_,_,rfl,rfl,(show(0:Int)<(((zL z.ns).map V.str).length:Int) by rw[QU];omega),l7,_,_,_,rfl,rfl,SqL.of (u10 _ _ h79),ey,VP 1,fun l11 n11=>⟨l11,rfl,u10.trans (zC n11),zB⟩⟩
      ·have ep:VX c (zL z.ns)=[]:=by
        unfold VX;rw[Zh (fun q=>h6 (QX q.2))]
       rw[ep];exact⟨VP 0,fun l11 n11=>⟨l11,rfl,(zC n10).trans (zC n11),zB⟩⟩
      ·have ep:VX c (zL z.ns)=[]:=by
        unfold VX;rw[Zh (fun q=>h5 (by
         show(!EE (.list ((zL z.ns).map .str)) (.list []))=true;cases e:zL z.ns with
         |nil=>exact absurd e q.1
         |cons x r=>rfl))]
       rw[ep];exact⟨VP 0,fun l11 n11=>⟨l11,rfl,(zC n10).trans (zC n11),zB⟩⟩
     rintro σ' H10 ⟨lp,rfl,s10,hlp⟩;have hnt:∀x∈zL z.ns,x∈z.S.map En.nm/\V5 x=78:=fun x hx=>by
      unfold zL at hx;rw[Ys]at hx;exact⟨zk.nm x hx.1,Zb hx.2⟩
     obtain⟨pm,pn,pl⟩:=Nm z.S zk.ok hnt (c:=c);have p0m:∀p∈VX c (zL z.ns),Em p=true:=fun p hp=>ntok p (pm p (ZC _ hp));have p0l:(VX c (zL z.ns)).length<=2:=by
      unfold Uo at pl;rw[Q4]at pl;omega
     have h710:=s10 _ _ h79;refine⟨_,rfl,l7,rfl,⟨_,SqL.of h710⟩,qL (K:=K) (a:=l7) (xs:=(zL z.ns).map V.str) (fun j ys σ H2=>∃o,σ=[o,some (.ref lp),some (.int c)]/\Same H10 H2/\ys=(((zL z.ns).take j).filter fun x=>decide (VX c (zL z.ns)≠[]/\x∉VX c (zL z.ns)/\c / 42 % 2=1)).map V.str) ⟨none,rfl,Same.refl _,rfl⟩ (le_line (by rw[QU];omega)) ?_ ?_ ?_⟩
     ·rintro j ys σ H2 hj ⟨o,rfl,e2,rfl⟩;refine⟨SqL.of (e2 _ _ h710),?_⟩;rw[QU];refine ZD (Yi _ _) ?_;rw[Zm];omega
     ·rintro j y ys σ H2 hy ⟨o,rfl,e2,rfl⟩;rw[Za]at hy;obtain⟨x,hx,rfl⟩:=ZB.mp hy;have xok:=ntok x (Zc hx);have tk:∀(b:Bool),(b=true↔VX c (zL z.ns)≠[]/\x∉VX c (zL z.ns)/\c / 42 % 2=1)->(((zL z.ns).take (j+1)).filter fun x=>decide (VX c (zL z.ns)≠[]/\x∉VX c (zL z.ns)/\c / 42 % 2=1))=(((zL z.ns).take j).filter fun x=>decide (VX c (zL z.ns)≠[]/\x∉VX c (zL z.ns)/\c / 42 % 2=1))++(if b=true then[x] else[]):=fun b hb=>by
       rw[take_snoc hx,Jr,YW];cases b with
       |true=>rw[Zk (QX (hb.mp rfl)),Zk rfl];rfl
       |false=>rw[Zh (fun q=>by have:=hb.mpr (Zb q);cases this),Zh (by decide)];rfl
      refine⟨_,rfl,VP 0,fun l11 n11=>?_⟩;have u11:=zC (o:=.lst []) n11;have hp11:=u11 _ _ (e2 _ _ hlp);refine⟨.list ((VX c (zL z.ns)).map .str),.list [],⟨lp,_,rfl,SqL.of hp11,DtAll.strs _⟩,⟨l11,[],rfl,SqL.of zB,rfl⟩,(y9 p0m).1,yQ lnil,_,rfl,VU (fun q1=>?_) (fun q1=>VL ⟨_,rfl,e2.trans u11,?_⟩)⟩
      ·have q1:(!EE (.list ((VX c (zL z.ns)).map .str)) (.list []))=true:=q1;have pne:VX c (zL z.ns)≠[]:=fun e=>by rw[e]at q1;cases q1
       refine⟨_,rfl,_,rfl,.str x,(VX c (zL z.ns)).map .str,rfl,⟨lp,_,rfl,SqL.of hp11,DtAll.strs _⟩,(jN _ p0m).1,xok,Zz _,_,rfl,VU (fun q2=>?_) (fun q2=>VL ⟨_,rfl,e2.trans u11,?_⟩)⟩
       ·have xn:x∉VX c (zL z.ns):=fun e=>by
         rw[Ii,QX e]at q2;cases q2
        refine⟨_,rfl,_,_,rfl,rfl,⟨by decide,by decide⟩,_,_,rfl,rfl,(by decide:(0:Int)<2),rfl,_,rfl,VU (fun q3=>⟨_,rfl,_,rfl,e2.trans u11,?_⟩) (fun q3=>⟨_,rfl,e2.trans u11,?_⟩)⟩
        ·rw[tk true ⟨fun _=>⟨pne,xn,V.int.inj (Zb q3)⟩,fun _=>rfl⟩,Zk rfl,Q6];rfl
        ·rw[tk false ⟨fun e=>(by cases e),fun e=>absurd (QX (congrArg V.int e.2.2)) q3⟩,Zh (by decide),Zy]
       ·have xi:x∈VX c (zL z.ns):=by
         rcases Classical.em (x∈VX c (zL z.ns)) with e|e
         ·exact e
         ·exact absurd (by rw[Ii,Q9 e];rfl) q2
        rw[tk false ⟨fun e=>(by cases e),fun e=>absurd xi e.2.1⟩,Zh (by decide),Zy]
      ·have pe:VX c (zL z.ns)=[]:=by
        cases e:VX c (zL z.ns) with
        |nil=>rfl
        |cons x r=>exact absurd (by rw[e];rfl) q1
       rw[tk false ⟨fun e=>(by cases e),fun e=>absurd pe e.1⟩,Zh (by decide),Zy]
     rintro ys σ H11 ⟨o,rfl,s11,rfl⟩ l12 n12;have e12:(((zL z.ns).take ((zL z.ns).map V.str).length).filter fun x=>decide (VX c (zL z.ns)≠[]/\x∉VX c (zL z.ns)/\c / 42 % 2=1))=V8 c (zL z.ns):=by rw[QU,Zq];rfl
     rw[e12];have u12:=zC (o:=.lst ((V8 c (zL z.ns)).map V.str)) n12;have s12:=(s10.trans s11).trans u12;have hp12:=u12 _ _ (s11 _ _ hlp);refine⟨_,rfl,_,rfl,1,rfl,l12,_,rfl,SqL.of zB,fun l13 n13=>?_⟩;have e13:V9 ((V8 c (zL z.ns)).map V.str) none (some 1)=((V8 c (zL z.ns)).take 1).map V.str:=by rw[GU (by decide)];exact Jd.symm
     rw[e13];have u13:=zC (o:=.lst (((V8 c (zL z.ns)).take 1).map V.str)) n13;refine⟨lp,l13,_,_,rfl,rfl,u13 _ _ hp12,zB,le_line (by rw[QU,QU,Zm];omega),fun l14 n14=>?_⟩;have e14:(VX c (zL z.ns)).map V.str++((V8 c (zL z.ns)).take 1).map V.str=(Uo c (zL z.ns)).map V.str:=by rw[←Q6];rfl
     rw[e14];have u14:=zC (o:=.lst ((Uo c (zL z.ns)).map V.str)) n14;have s14:=(s12.trans u13).trans u14;have h14:=zB (H:=upd (upd H11 l12 (.lst ((V8 c (zL z.ns)).map V.str))) l13 (.lst (((V8 c (zL z.ns)).take 1).map V.str))) (a:=l14) (o:=.lst ((Uo c (zL z.ns)).map V.str));have hn14:=s14 _ _ hn9;have h614:=s14 _ _ h69;have sh14:=sh9.same s14;have of14:=of9.trans (Off.of s14);have hl14:=s14 _ _ hl9;have hd14:=DtAll.same s14 _ _ hd9;generalize upd (upd (upd H11 l12 (.lst ((V8 c (zL z.ns)).map V.str))) l13 (.lst (((V8 c (zL z.ns)).take 1).map V.str))) l14 (.lst ((Uo c (zL z.ns)).map V.str))=H14 at h14 hn14 h614 sh14 of14 hl14 hd14 ⊢;have tp0:0<(z8 z.ns).length:=Yg.mpr ne;have b0:0<=c / 11 % ((z8 z.ns).length:Int):=ZG _ (by omega);have b1:c / 11 % ((z8 z.ns).length:Int)<((z8 z.ns).length:Int):=Zx _ (by omega);obtain⟨y,hy,ey⟩:=XN (f:=V.str) (xs:=z8 z.ns) (i:=c / 11 % (((z8 z.ns).map V.str).length:Int)) (by rwa[QU]) (by rwa[QU]);rw[QU]at hy;have en:Ud c z.ns=.note y (Uo c (zL z.ns)) "w":=by
      unfold Ud;rw[hy];rfl
     refine yC ⟨_,rfl,_,rfl,_,_,rfl,rfl,⟨by decide,by decide⟩,_,rfl,l6,_,rfl,.inl (SqL.of h614),_,_,rfl,rfl,(show(0:Int)<(((z8 z.ns).map V.str).length:Int) by rw[QU];omega),l6,_,_,_,rfl,rfl,SqL.of h614,ey,_,rfl,l14,_,rfl,.inl ⟨SqL.of h14,fun p15 n15=>⟨VP 4,fun p16 n16=>?_⟩⟩⟩;have u15:=zC (o:=.tup ((Uo c (zL z.ns)).map V.str)) n15;have u16:=zC (o:=.tup [V.str "note",V.str y,V.ref p15,V.str "w"]) n16;have s16:=u15.trans u16;have dv:Dt K (upd (upd H14 p15 (.tup ((Uo c (zL z.ns)).map V.str))) p16 (.tup [V.str "note",V.str y,V.ref p15,V.str "w"])) (Ud c z.ns).dat (.ref p16):=by
      rw[en];exact⟨p16,_,rfl,SqT.of zB,_,_,rfl,rfl,_,_,rfl,rfl,_,_,rfl,⟨p15,_,rfl,SqT.of (u16 _ _ zB),DtAll.strs _⟩,_,_,rfl,rfl,rfl⟩
     have hn16:=s16 _ _ hn14;have sh16:=sh14.same s16;have of16:=of14.trans (Off.of s16);have hl16:=s16 _ _ hl14;have hd16:=DtAll.same s16 _ _ hd14;generalize upd (upd H14 p15 (.tup ((Uo c (zL z.ns)).map V.str))) p16 (.tup [V.str "note",V.str y,V.ref p15,V.str "w"])=H16 at dv hn16 sh16 of16 hl16 hd16 ⊢;obtain⟨ix,i1,i2,i3,hix⟩:=jZ sh16;refine yC ⟨_,rfl,.inl ⟨rfl,_,SqL.of hn16⟩,_,rfl,a,ix,_,rfl,hix,rfl,_,rfl,?_⟩;delta Bo;dsimp only;show Ub P w K aC aN aT [V.ref a,V.ref p16] H16 _ _;refine Gn sh16 zk.ok gt nok zlt dv fun H17 of17 D6=>?_;have hn17:=of17 _ _ (xB sh16.noseq hn16) hn16;have hl17:=of17 _ _ (xB sh16.noseq hl16) hl16;have hd17:=xM (GE sh16.noseq) of17 lk hd16;refine⟨ln,_,_,rfl,rfl,hn17,yT (by rw[QU];omega),?_⟩;have ntn:∀b∈[ln],∀ys,¬Rd H17 b (.tup ys):=fun b hb ys=>by rw[QV.mp hb];exact jK hn17 ys
     rw[fz];refine⟨xs,_,_,_,_,_,_,_,_,_,_,rfl,fun b o nb eb=>?_,D6.off (gp:=[ln]) ntn z6 (fun b hb q=>xB D6.noseq hn17 (QV.mp q▸hb)),zk',by rw[zB,Q6];rfl,by rw[zG (ED lne)];exact hl17,xM ntn z6 lk hd17⟩;rw[zG (fun q=>by rw[q,nln]at eb;cases eb)];exact of17 b o nb (of16 b o nb eb)
    have s2:=s1.trans (zC (o:=.lst []) n9);have nB:¬(c % 7=4/\z8 z.ns≠[]):=fun q=>h4 (by
     show(!EE (.list ((z8 z.ns).map .str)) (.list []))=true;cases e:z8 z.ns with
     |nil=>exact absurd e q.2
     |cons x r=>rfl)
    generalize upd _ l9 (.lst [])=H9 at s2 ⊢
    rotate_left
    have s2:=s1;have nB:¬(c % 7=4/\z8 z.ns≠[]):=fun q=>h3 (QX (congrArg V.int q.1))
    all_goals
     have fz:A2 z c=⟨(A0 z.S (.leaf (VZ (c / 7) z.Ls))).1,z.ns++[(A0 z.S (.leaf (VZ (c / 7) z.Ls))).2],z.Ls++[VZ (c / 7) z.Ls]⟩:=by
      unfold A2;rw[Zh nA,Zh nB]
     clear hn8 h68 h78 sh8 of8 hl8 hd8 trok h67 h77;have hn9:=s2 _ _ hn7;have sh9:=sh7.same s2;have of9:=of7.trans (Off.of s2);have hl9:=s2 _ _ hl7;have hd9:=DtAll.same s2 _ _ hd7;have zl:=zk.lz;have zlen:=zk.len;have xl:xs.length<=24:=by rw[hd9.length,QU];omega
     refine⟨_,rfl,.inl ⟨rfl,_,SqL.of hl9⟩,_,rfl,_,rfl,_,_,rfl,rfl,⟨by decide,by decide⟩,ll,c / 7,z.Ls,6+2*i,xs,rfl,hl9,hd9,zk.ln,zk.ll,by omega,by omega,fun v H10 s10 dv lb lll=>⟨ll,xs,v,rfl,rfl,s10 _ _ hl9,yT (by omega),?_⟩⟩;obtain⟨lkL,zk'⟩:=zk.leaf i24 s500 lb lll;have hl10:=s10 _ _ hl9;have ntl:∀b∈[ll],∀ys,¬Rd H10 b (.tup ys):=fun b hb ys=>by rw[QV.mp hb];exact jK hl10 ys
     have sh10:=(sh9.same s10).off (gp:=[ll]) ntl (z6 (c:=ll) (o:=.lst (xs++[v]))) (fun b hb q=>xB (sh9.same s10).noseq hl10 (QV.mp q▸hb));have hn10:upd H10 ll (.lst (xs++[v])) ln=some (.lst (z.ns.map V.str)):=by rw[zG lne];exact s10 _ _ hn9
     have hl11:=zB (H:=H10) (a:=ll) (o:=.lst (xs++[v]));have lk2:∀L∈z.Ls++[VZ (c / 7) z.Ls],Uc L:=fun L hL=>by
      rcases Zf.mp hL with q|q
      ·exact lk L q
      ·rwa[QV.mp q]
     have dv11:=Dt.off ntl (z6 (c:=ll) (o:=.lst (xs++[v]))) _ _ (uZ (qI lkL)).1 dv;have hd11:DtAll K (upd H10 ll (.lst (xs++[v]))) ((z.Ls++[VZ (c / 7) z.Ls]).map V4) (xs++[v]):=by
      rw[Q6];exact DtAll.append (xM ntl (z6 (c:=ll) (o:=.lst (xs++[v]))) lk (DtAll.same s10 _ _ hd9)) ⟨v,[],rfl,dv11,rfl⟩
     have of11:Off fp H (upd H10 ll (.lst (xs++[v]))):=fun b o nb eb=>by
      have hb:=(of9.trans (Off.of s10)) b o nb eb;rw[zG (fun q=>by rw[q]at eb;rw[(un.free nll)]at eb;cases eb)];exact hb
     generalize upd H10 ll (.lst (xs++[v]))=H11 at sh10 hn10 hl11 hd11 dv11 of11 ⊢;obtain⟨ix,i1,i2,i3,hix⟩:=jZ sh10;refine⟨_,rfl,.inl ⟨rfl,_,SqL.of hn10⟩,_,rfl,a,ix,_,rfl,hix,rfl,_,rfl,1,rfl,ll,_,_,_,rfl,rfl,SqL.of hl11,Oc (xs:=xs++[v]) (v:=v) (by simp),?_⟩;delta Bo;dsimp only;show Ub P w K aC aN aT [V.ref a,v] H11 _ _;refine Gn sh10 zk.ok (kR lkL.2 lkL.1) rfl (by omega) dv11 fun H12 D7 sh12=>?_;have hn12:=D7 _ _ (xB sh10.noseq hn10) hn10;have hl12:=D7 _ _ (xB sh10.noseq hl11) hl11;have hd12:=xM (GE sh10.noseq) D7 lk2 hd11;refine⟨ln,_,_,rfl,rfl,hn12,yT (by rw[QU];omega),?_⟩;have ntn:∀b∈[ln],∀ys,¬Rd H12 b (.tup ys):=fun b hb ys=>by rw[QV.mp hb];exact jK hn12 ys
     rw[fz];refine⟨xs++[v],_,_,_,_,_,_,_,_,_,_,rfl,fun b o nb eb=>?_,sh12.off (gp:=[ln]) ntn z6 (fun b hb q=>xB sh12.noseq hn12 (QV.mp q▸hb)),zk',by rw[zB,Q6];rfl,by rw[zG (ED lne)];exact hl12,xM ntn z6 lk2 hd12⟩;rw[zG (fun q=>by rw[q,nln]at eb;cases eb)];exact D7 b o nb (of11 b o nb eb)
  ·rintro σ H' ⟨xs,o4,o5,o6,o7,o8,o9,o10,o11,o12,o13,rfl,of1,sh1,zk,hn1,hl1,hd1⟩;rw[QU,Zq]at sh1 zk;exact⟨_,rfl,k ln H' of1 sh1 zk⟩
end AW
end
end An28
namespace L2
open PySem PySem.Spec PyProof.Rows
section
variable {X:Cx}
def O1:V->Dj->Hp->VK->Prop:=fun x vs H Q=>∃l xs k y,x=.ref l/\vs=[.int k,y]/\H l=some (.lst xs)/\0<=k/\k<=xs.length/\xs.length<sizeLine/\Q .non (upd H l (.lst (xs.take k.toNat++y::xs.drop k.toNat)))
theorem KN:RT X "list.insert" O1:=by
 intro Dp s σ H x vs v us Q I rx rv h;obtain⟨l,xs,k,y,rfl,rfl,hH,k0,k1,hz,q⟩:=h;cases rx;obtain⟨u1,u,rfl,⟨t,rfl⟩,ru⟩:=vals2 rv;obtain⟨z,its,n,r,hl,e⟩:=I.lstM hH;have fits:Builtin.List.listFitsIndex k=true:=by
  unfold Builtin.List.listFitsIndex;have:sizeLine=16777216:=rfl;simp;omega
 have rl:=r.length;refine Jo F.slot_list_insert ⟨_,e,rfl⟩ F.entry_list_insert (F.args_list_insert_3 _ _ _) (PySem.AutoSeq1.list_insert_list_int_val_1 l its.toArray n k t u (by simp[fits]) (by rw[Zg];omega)) ⟨e,?_⟩;refine⟨.non,_,I.lset (DU:=its.take k.toNat++u::its.drop k.toNat) hH e ?_ ?_ ?_,rfl,q⟩
 ·have hk:(if k<0 then(k+((its.toArray.size:Nat):Int)).toNat else min k.toNat its.toArray.size)=k.toNat:=by
   rw[Zh (by omega),Zg];omega
  show(its.toArray.extract 0 (if k<0 then(k+((its.toArray.size:Nat):Int)).toNat else min k.toNat its.toArray.size)).push u++its.toArray.extract (if k<0 then(k+((its.toArray.size:Nat):Int)).toNat else min k.toNat its.toArray.size)=_;rw[hk]
  apply Array.toList_inj.mp
  simp;exact JR (by rw[Z9];omega)
 ·exact(r.take _).append (.cons ru (r.drop _))
 ·rw[Q4,Zd,Zm,Z9];omega
end
end L2
namespace An28
open PySem L2 An
seal L2.PS L2.PSs L2.PE L2.PT L2.PW L2.PA L2.PG L2.PGs L2.PI L2.PFi L2.PC
noncomputable def NE (S:Di)(rs:Da):Da:=(S.map En.nm).filter fun x=>@decide (Rch (Cw S) rs x) (Lc _)
theorem HG {F:Da}(h:∀x,x∈F↔Rch (Cw S) rs x):((S.map En.nm).filter fun x=>decide (x∈F))=NE S rs:=List.filter_congr fun x _=>by
 by_cases q:x∈F
 ·rw[QX q];exact(@QX _ (Lc _) ((h x).mp q)).symm
 ·rw[Q9 q];exact(@Q9 _ (Lc _) (fun z=>q ((h x).mpr z))).symm
theorem Cq {p:Str->Bool}{n:Str}(hp:∀x,p x=true↔x=n):∀{N:Da},N.Nodup->n∈N->N.filter p=[n]
 |[],_,h=>(nomatch h)
 |a::r,nd,h=>by
  rw[Z1]at nd;rw[YW]
  by_cases q:a=n
  ·rw[Zk ((hp a).mpr q),JU.mpr (fun x hx z=>nd.1 (by rwa[q,←(hp x).mp z])),q]
  ·rw[Zh (fun z=>q ((hp a).mp z))]
   rcases Q7.mp h with z|z
   ·exact absurd z.symm q
   ·exact Cq hp nd.2 z
theorem NF {S:Di}(g:(S.map En.nm).Nodup){n:Str}{L:Da}(h:At S n (.leaf L)):NE S [n]=[n]:=by
 obtain⟨e,he,rfl,hd⟩:=h;have e0:Cw S e.nm=[]:=by rw[Gw g he,hd,XJ];rfl
 refine Cq (fun x=>?_) g (QZ.mpr ⟨e,he,rfl⟩);refine⟨fun z=>?_,fun z=>@QX _ (Lc _) (.root (QV.mpr z))⟩;have q:=@Zb _ (Lc _) z;clear hd he z
 induction q with
 |root z=>exact QV.mp z
 |step _ h2 ih=>rw[ih,e0]at h2;cases h2
def Iz:Df:=[.str "L1.99",.str "",.none,.int 5,.list [.str "a"],.str "T"]
theorem Rh (g:OkS S)(lc:LC S)(n:VO S<=99){d:El}(h:d∈Iz):Uf S d=false:=by
 have hs:∀x:Str,x∉S.map En.nm->Uf S (.str x)=false:=fun x hx=>Q9 hx;unfold Iz at h;simp only[Q7,Z3,Js]at h
 rcases h with rfl|rfl|rfl|rfl|rfl|rfl
 ·exact hs _ (Oy g lc n)
 ·exact hs _ (Nh (by decide +kernel))
 ·rfl
 ·rfl
 ·rfl
 ·exact hs _ (Nh (by decide +kernel))
theorem OC {K:AZ}(n:NoSeq H fp)(o:Off fp H H'){d:El}(h:d∈Iz){v:V}(dv:Dt K H d v):Dt K H' d v:=by
 unfold Iz at h;simp only[Q7,Z3,Js]at h
 rcases h with rfl|rfl|rfl|rfl|rfl|rfl
 ·exact dv
 ·exact dv
 ·exact dv
 ·exact dv
 ·obtain⟨a,xs,e,h1,h2⟩:=dv;exact⟨a,xs,e,HY n o h1,h2⟩
 ·exact dv
theorem OB:∀d∈Iz,d.canLay0=true/\d.depth<=1/\EE d d=true:=by
 intro d h;unfold Iz at h;simp only[Q7,Z3,Js]at h
 rcases h with rfl|rfl|rfl|rfl|rfl|rfl<;>decide +kernel
def RD (K:AZ)(H:Hp)(odd:Bool)(rs:Da)(ds:Df)(xs:Dj):Prop :=
 (odd=false/\ds=rs.map .str/\xs=rs.map V.str)\/(odd=true/\∃(k:Nat) (d:El) (v:V),d∈Iz/\Dt K H d v/\ds=(rs.take k).map .str++d::(rs.drop k).map .str/\xs=(rs.take k).map V.str++v::(rs.drop k).map V.str)
section
variable {K:AZ}{H H':Hp}{odd:Bool}{rs:Da}{ds:Df}{xs:Dj}
theorem RD.all (h:RD K H odd rs ds xs):DtAll K H ds xs:=by
 rcases h with⟨_,rfl,rfl⟩|⟨_,k,d,v,_,dv,rfl,rfl⟩
 ·exact DtAll.strs _
 ·exact DtAll.append (DtAll.strs _) ⟨v,_,rfl,dv,DtAll.strs _⟩
theorem RD.off (n:NoSeq H fp)(o:Off fp H H')(h:RD K H odd rs ds xs):RD K H' odd rs ds xs:=by
 rcases h with h|⟨e,k,d,v,hd,dv,h1,h2⟩
 ·exact .inl h
 ·exact .inr ⟨e,k,d,v,hd,OC n o hd dv,h1,h2⟩
theorem RD.same (s:Same H H')(h:RD K H odd rs ds xs):RD K H' odd rs ds xs:=by
 rcases h with h|⟨e,k,d,v,hd,dv,h1,h2⟩
 ·exact .inl h
 ·exact .inr ⟨e,k,d,v,hd,Dt.same s _ _ dv,h1,h2⟩
theorem RD.len (h:RD K H odd rs ds xs):ds.length<=rs.length+1:=by
 rcases h with⟨_,rfl,rfl⟩|⟨_,k,d,v,_,dv,rfl,rfl⟩
 ·rw[QU];omega
 ·rw[Q4,Zd,QU,QU,Zm,Z9];omega
theorem RD.bad (g:OkS S)(lc:LC S)(n:VO S<=99)(h:RD K H true rs ds xs):∃d∈ds,Uf S d=false:=by
 rcases h with⟨z,_⟩|⟨_,k,d,v,hd,dv,rfl,rfl⟩
 ·cases z
 ·exact⟨d,Zo _ Q1,Rh g lc n hd⟩
theorem RD.shaped (ok:∀r∈rs,Em r=true)(h:RD K H odd rs ds xs):SeqAt.shaped (.list ds)=true/\EE (.list ds) (.list ds)=true:=by
 have key:∀d∈ds,d.canLay0=true/\d.depth<=1/\EE d d=true:=by
  have hs:∀r∈rs,(EL r).canLay0=true/\(EL r).depth<=1/\EE (.str r) (.str r)=true:=fun r hr=>⟨ok r hr,Zz _,by show decide (r=r)=true;exact QX rfl⟩
  rcases h with⟨_,rfl,rfl⟩|⟨_,k,d,v,hd,dv,rfl,rfl⟩
  ·intro d hd;obtain⟨r,hr,rfl⟩:=QZ.mp hd;exact hs r hr
  ·intro d' hd'
   rcases Zf.mp hd' with z|z
   ·obtain⟨r,hr,rfl⟩:=QZ.mp z;exact hs r (ZU hr)
   ·rcases Q7.mp z with z|z
    ·rw[z];exact OB d hd
    ·obtain⟨r,hr,rfl⟩:=QZ.mp z;exact hs r (Vd hr)
 have s1:=AnJ.shaped_list (f:=fun d:El=>d) (n:=1) (by decide) (l:=ds) fun d hd=>⟨(key d hd).1,(key d hd).2.1⟩;rw[List.map_id']at s1;refine⟨s1,?_⟩;show EU ds ds=true;clear h s1
 induction ds with
 |nil=>rfl
 |cons d ds ih =>
  show(EE d d&&EU ds ds)=true;rw[(key d Q1).2.2,ih fun d hd=>key d (QY _ hd)];rfl
end
noncomputable def Cc (odd:Bool)(S:Di)(rs:Da):PyData:=if odd=true then .str "no name" else .list ((NE S rs).map .str)
theorem BQ (g:OkS S)(odd:Bool)(rs:Da):SeqAt.shaped (Cc odd S rs)=true/\EE (Cc odd S rs) (Cc odd S rs)=true:=by
 unfold Cc
 split
 ·decide +kernel
 ·refine⟨(y9 fun p hp=>?_).1,?_⟩
  ·obtain⟨e,he,rfl⟩:=QZ.mp (Ys.mp hp).1;exact(g.nm he).ok
  ·show EU _ _=true;rw[jM,QX rfl]
section
variable {P:Ei}{w:Eo}{K:AZ}{aC:Eh}{H:Hp}{odd:Bool}{rs:Da}{ds:Df}{xs:Dj}{a rl:Eh}{fp:Dd}{S:Di}
theorem GX (sh:ShAt P w K aC H a fp S)(g:OkS S)(c:Cl S)(lc:LC S)(n:VO S<=99)(rd:RD K H odd rs ds xs)(hl:H rl=some (.lst xs))(r5:rs.length<=500)(rm:∀r∈rs,r∈S.map En.nm){Q:VK} {E}(h:∀v H',Same H H'->Dt K H' (Cc odd S rs) v->(odd=false->∃l,v=.ref l/\H l=none/\H' l=some (.lst ((NE S rs).map V.str)))->Q v H'):uQ P w K aC [.ref a,.ref rl] H Q E:=by
 refine⟨a,rl,fp,S,ds,xs,rfl,sh,g,c,SqL.of hl,rd.all,by have:=rd.len;omega,fun rs' e m l H' s nl ⟨F,hF,hl'⟩=>?_,fun bad H' s=>?_⟩
 ·cases odd with
  |true =>
   obtain⟨d,hd,hb⟩:=rd.bad g lc n;rw[e]at hd;obtain⟨r,hr,rfl⟩:=QZ.mp hd;rw[show Uf S (.str r)=decide (r∈S.map En.nm) from rfl,QX (m r hr)]at hb;cases hb
  |false =>
   rcases rd with⟨_,e1,_⟩|⟨z,_⟩
   ·have er:rs'=rs:=by
     have q:rs'.map EL=rs.map PyData.str:=e.symm.trans e1;exact(List.map_inj_right (fun x y z=>by injection z)).mp q
    subst er;rw[HG hF]at hl';exact h _ _ s ⟨l,_,rfl,SqL.of hl',DtAll.strs _⟩ fun _=>⟨l,rfl,nl,hl'⟩
   ·cases z
 ·cases odd with
  |true=>exact h _ _ s rfl fun z=>(nomatch z)
  |false =>
   rcases rd with⟨_,e1,_⟩|⟨z,_⟩
   ·obtain⟨d,hd,hb⟩:=bad;rw[e1]at hd;obtain⟨r,hr,rfl⟩:=QZ.mp hd;rw[show Uf S (.str r)=decide (r∈S.map En.nm) from rfl,QX (rm r hr)]at hb;cases hb
   ·cases z
theorem XR (sh:ShAt P w K aC H a fp S)(g:OkS S)(c:Cl S)(rd:RD K H false rs ds xs)(hl:H rl=some (.lst xs))(r5:rs.length<=500)(rm:∀r∈rs,r∈S.map En.nm){Q:VK} {E}(h:∀l H',Same H H'->H l=none->H' l=some (.lst ((NE S rs).map V.str))->Dt K H' (Cc false S rs) (.ref l)->Q (.ref l) H'):jO P w K aC [.ref a,.ref rl] H Q E:=by
 rcases rd with⟨_,_,e1⟩|⟨z,_⟩
 ·subst e1;exact⟨a,rl,fp,S,rs,rfl,sh,g,c,SqL.of hl,by omega,rm,fun l H' s nl ⟨F,hF,hl'⟩=>by
   rw[HG hF]at hl';exact h l H' s nl hl' ⟨l,_,rfl,SqL.of hl',DtAll.strs _⟩⟩
 ·cases z
end
def HQ (K:AZ):Sp:=fun vs H Q _=>∃(a:Eh) (ns:List Int),vs=[.ref a]/\SqL K H a (ns.map V.int)/\ns.length<=63/\∀H',Q (.bl true) H'
theorem qY {fp:Dd}(s:Same H0 H)(fr:∀c∈fp,H0 c=none)(o:Off fp H H'):Same H0 H':=fun c x e=>o c x (fun z=>by rw[fr c z]at e;cases e) (s c x e)
theorem UA {H:Hp}{x dx:Eh}{o1 o2:HO}{fp:Dd}(nx:H x=none)(ndx:H dx=none)(ne:dx≠x)(hfp:∀c∈fp,c=x\/c=dx\/(L2.upd (L2.upd H dx o1) x o2) c=none)(o:Off [x] (L2.upd (L2.upd H dx o1) x o2) H'):Same H H'/\∀c∈fp,H c=none:=by
 have h1:Same H (L2.upd (L2.upd H dx o1) x o2):=(zC ndx).trans (zC (by rwa[zG (ED ne)]));refine⟨fun c u e=>o c u (fun z=>?_) (h1 c u e),fun c hc=>?_⟩
 ·rw[QV.mp z,nx]at e;cases e
 ·rcases hfp c hc with z|z|z
  ·rwa[z]
  ·rwa[z]
  ·exact h1.free z
theorem R0 (ns:List Int)(a b:Nat):∃ms:List Int,V9 (ns.map V.int) (some (a:Int)) (some (b:Int))=ms.map V.int/\ms.length<=b-a:=by
 have e:V9 (ns.map V.int) (some (a:Int)) (some (b:Int))=((ns.map V.int).drop (min a (ns.map V.int).length)).take (min b (ns.map V.int).length-min a (ns.map V.int).length):=by
  unfold V9;rw[HT.sIx_nat,HT.sIx_nat]
 refine⟨(ns.drop (min a (ns.map V.int).length)).take (min b (ns.map V.int).length-min a (ns.map V.int).length),?_,?_⟩
 ·rw[e,Jd,List.map_drop]
 ·rw[Zm];omega
theorem OD {K:AZ}{H:Hp}{lr:Eh}{xs:Dj}(hr:H lr=some (.lst xs)){d:El}(hd:d∈Iz){v:V}(dv:Dt K H d v)(nl:v≠.ref lr):Dt K (upd H lr o) d v:=by
 unfold Iz at hd;simp only[Q7,Z3,Js]at hd
 rcases hd with rfl|rfl|rfl|rfl|rfl|rfl
 ·exact dv
 ·exact dv
 ·exact dv
 ·exact dv
 ·obtain⟨a,ys,rfl,h1,h2⟩:=dv;have na:a≠lr:=fun q=>nl (by rw[q]);refine⟨a,ys,rfl,?_,h2⟩
  rcases h1 with(h|⟨ob,h⟩)|h
  ·exact .inl (.inl (by rwa[zG na]))
  ·exact .inl (.inr ⟨ob,by rw[zG na];exact h⟩)
  ·exact .inr h
 ·exact dv
theorem PR (xs:Da)(x:Str):(xs.map EL).any (fun y=>EE y (.str x))=decide (x∈xs):=by
 rw[List.any_map];show xs.any (fun y=>decide (y=x))=_
 by_cases h:x∈xs
 ·rw[QX h,Z2];exact⟨x,h,QX rfl⟩
 ·rw[Q9 h,JO];exact fun y hy z=>h (Zb z▸hy)
theorem jI {K:AZ}{Q:VK}(h1:Dt K H d x)(h2:Dt K H d y)(h3:SeqAt.shaped d=true)(h4:EE d d=true)(q:Q (.bl false) H):Rp K x y H Q:=⟨d,d,h1,h2,h3,h3,by rw[h4];exact q⟩
theorem BO {K:AZ}{Q:VK}(h1:Dt K H d x)(h2:Dt K H d y)(h3:SeqAt.shaped d=true)(h4:EE d d=true)(q:Q (.bl true) H):So K x y H Q:=⟨d,d,h1,h2,h3,h3,by rw[h4];exact q⟩
def moreL:Da:=["more","of","it"]
theorem more_ok:Uc moreL:=⟨by decide,by
 have:moreL.all VS=true:=by decide +kernel
 exact Zu.mp this⟩
section
variable {P:Ei}{w:Eo}{K:AZ}{mg:Str->Dc}{base:EC}{t1 t2 t3 t4 t5 t6 t7:Tok}{aL aC aN aT aA b1 b2 b3 fI:Eh}
namespace AX
abbrev st:Stmt:=top 61
theorem sc:FnScope ["_law_script","_law_shelf","_law_names","_law_roots","_law_k","_law_odd","_law_strange","_law_due","_law_handed","_law_twin","_law_later","_law_found"] ["_law_script"] (zH st):=Ca
theorem ok (F:Fun K "law" "law" st f fd)(T:Txt P w K mg t1 t2 t3 t4 t5 t6 t7 aL aC aN aT aA b1 b2 b3 fI)(Qg:Cal P w K mg base 14 "_law_filled" ["_law_shelf","_law_cells"] (CW P w K aC))(Qe:Cal P w K mg base 1 "_law_cell_at" ["_law_script","_law_k"] (HN K))(Qp:Mak P w K mg base aC 5 "Shelf" ["self","base"] (NP P w K aC))
  (Qb:Met P w K mg base aC 1 "names" ["self"] (vJ P w K aC)) (Qa:MetX P w K mg base aC 7 "put" ["self","thing"] (Ub P w K aC aN aT)) (Qq:Cal P w K mg base 5 "_law_closed" ["_law_store","_law_roots"] (jO P w K aC)) (Qf:Cal P w K mg base 7 "_law_told" ["_law_shelf","_law_roots"] (uQ P w K aC)):FnOk P w K mg base A9 15 f fd ["_law_script"] (HQ K):=by
 refine F.ok sc (fun vs H Q E h=>?_) (fun cdv A outer s H vs Q E hr h=>?_)
 ·obtain⟨sa,ns,rfl,_⟩:=h;rfl
 ·obtain⟨sa,ns0,rfl,hsa,Dq,kQ⟩:=h;refine⟨_,(zE (A8 (i:=1) sc.nd (GH Qp hr.m (zA Bq zD))) (zE (yB (zK Qg hr.m (zA (pv 1) (zA (xF (sl_list:Hc _ (Ig K)) (pv 0) (yZ zI) (yZ zI)) zD)))) (q9 (yM (zP xN (zQ yI (zK Qe hr.m (zA (pv 0) (zA zI zD))) zI) zI (zT _)) (zF (A8 (i:=1) sc.nd (GH Qp hr.m (zA (pv 1) zD)))) zU) (zE (yB (zK Qg hr.m (zA (pv 1) (zA (xF (sl_list:Hc _ (Ig K)) (pv 0) (yZ zI) (yZ zI)) zD)))) (zE (A8 (i:=2) sc.nd (zZ yP (by rfl) T.list ZT (zA (kK (pv 1) T.cls Qb hr.m) zD))) (zE (A8 (i:=3) sc.nd (yN zD)) (zE (xP EM rfl (jL rfl T.range (zA (zQ UQ (zQ yI (zK Qe hr.m (zA (pv 0) (zA zI zD))) zI) (zZ Kf (by rfl) T.int PyProof.Rows.boot_int (zA (yU HA (zJ zN (by rfl) T.len ZE (zA (pv 2) zD)) zI (zT _)) zD))) zD)) (zS (i:=4) sc.nd rfl (EJ rfl)) (zF (yB (jY ZL Ye Yf x8 (pv 3) (zA (z7 (ix_list:A7 _ (Xa K)) (pv 2) (zQ yI (zK Qe hr.m (zA (pv 0) (zA (zQ x6 zI (pv 4)) zD))) (zJ zN (by rfl) T.len ZE (zA (pv 2) zD))) (fun _ _=>rfl)) zD))))) (zE (A8 (i:=5) sc.nd (yU xN (zQ yI (zQ yD (zK Qe hr.m (zA (pv 0) (zA zI zD))) zI) zI) zI (zT _))) (q9 (yM (zV (K:=K) (pv 5) (fun _=>rfl)) (zE (A8 (i:=6) sc.nd (z7 (ix_list:A7 _ (Xa K)) (yN (zA pe_str (zA pe_str (zA Bq (zA zI (zA (yN (zA pe_str zD)) (zA pe_str zD))))))) (zQ yI (zQ yD (zK Qe hr.m (zA (pv 0) (zA zI zD))) zI) zI) (fun _ _=>rfl))) (zF (yB (jY ZL PySem.F.slot_list_insert PySem.F.type_list_insert KN (pv 3) (zA (zQ yI (zQ yD (zK Qe hr.m (zA (pv 0) (zA zI zD))) zI) (zQ x6 (zJ zN (by rfl) T.len ZE (zA (pv 3) zD)) zI)) (zA (pv 6) zD)))))) zU) (zE (A8 (i:=7) sc.nd pe_str) (q9 (yM (xS (zV (K:=K) (pv 5) (fun _=>rfl))) (zF (A8 (i:=7) sc.nd (zK Qq hr.m (zA (pv 1) (zA (pv 3) zD))))) zU) (zE (A8 (i:=8) sc.nd (zZ yP (by rfl) T.list ZT (zA (pv 3) zD))) (zE (yM (PW.pt (uH (zP (kF hr.units) (zK Qf hr.m (zA (pv 1) (zA (pv 8) zD))) (pv 7) (zT _)) (j0 (zP (kF hr.units) (pv 8) (pv 3) (zT _))))) (zF (zO uK)) zU) (zE (A8 (i:=9) sc.nd (GH Qp hr.m (zA Bq zD))) (zE (yB (zK Qg hr.m (zA (pv 9) (zA (xF (sl_list:Hc _ (Ig K)) (pv 0) (yZ zI) (yZ zI)) zD)))) (zE (yB (zK Qg hr.m (zA (pv 9) (zA (xF (sl_list:Hc _ (Ig K)) (pv 0) (yZ zI) (yZ zI)) zD)))) (zE (A8 (i:=10) sc.nd (xE (pv 9) T.cls Qa hr.m yJ (zA (jA (zA pe_str (zA (jA (zA pe_str (zA pe_str (zA pe_str zD)))) zD))) zD))) (q9 (yM (PW.pt (UP (zP (HC (K:=K) hr.units) (pv 10) (pv 2) (by with_unfolding_all rfl)) (vC (zP (kF hr.units) (zK Qf hr.m (zA (pv 1) (zA (yN (zA (pv 10) zD)) zD))) pe_str (zT _))))) (zF (zO uK)) zU) (zE (yM (PW.pt (uH (zP HB (xE (pv 1) T.cls Qa hr.m yJ (zA (jA (zA pe_str (zA (jA (zA pe_str (zA pe_str (zA pe_str zD)))) zD))) zD)) (pv 10) (zT _)) (j0 (zP (kF hr.units) (zK Qf hr.m (zA (pv 1) (zA (yN (zA (pv 10) zD)) zD))) (yN (zA (pv 10) zD)) (zT _))))) (zF (zO uK)) zU) (zE (A8 (i:=11) sc.nd (zK Qf hr.m (zA (pv 1) (zA (pv 8) zD)))) (zE (yM (zV (K:=K) (pv 5) (fun _=>rfl)) (zF (zO (yU (G4 hr.units) (pv 11) pe_str (zT _)))) zU) (zE (yM (PW.pt (uH (xS (zV (K:=K) (zJ (G0 (K:=K)) (by rfl) T.isinstance Zj (zA (pv 11) (zA (yX (v:=.ty "list") rfl T.list ZT rfl) zD))) (fun _=>rfl))) (j0 (zP (kF hr.units) (pv 11) (zK Qq hr.m (zA (pv 1) (zA (pv 3) zD))) (zT _))))) (zF (zO uK)) zU) (zE (yB (No ZL PySem.F.slot_list_clear PySem.F.type_list_clear Nc (pv 11))) (zF (zO (yU (G4 hr.units) (zK Qf hr.m (zA (pv 1) (zA (pv 8) zD))) (zK Qq hr.m (zA (pv 1) (zA (pv 3) zD))) (zT _))))))))))))))))))))))))))),?_⟩
  obtain⟨m1,em1,lm1⟩:=R0 ns0 6 12;obtain⟨m2,em2,lm2⟩:=R0 ns0 12 36;have em1:V9 (ns0.map V.int) (some 6) (some 12)=m1.map V.int:=em1;have em2:V9 (ns0.map V.int) (some 12) (some 36)=m2.map V.int:=em2;have cl0:Cl []:=fun i e h=>by cases h
  refine fun x dx nx ndx ne=>⟨x,dx,.non,[],rfl,zB,by rw[zG ne];exact zB,ne,.inl ⟨rfl,rfl⟩,fun fp H3 hfp Ee sh3=>⟨rfl,?_⟩⟩;obtain⟨s3,fr3⟩:=UA nx ndx ne hfp Ee;have ok0:OkS []:=⟨sh3.good,fun e he=>(nomatch he),fun e he=>(nomatch he)⟩;clear Ee hfp nx ndx ne;refine⟨_,rfl,_,rfl,6,rfl,12,rfl,sa,_,rfl,s3.seq hsa,fun p1 np1=>?_⟩;rw[em1];have u1:=zC (o:=.lst (m1.map V.int)) np1;refine⟨x,p1,fp,[],m1,rfl,sh3.same u1,ok0,cl0,SqL.of zB,by omega,Zz _,fun l4 H4 of4 sh4 zk1=>?_⟩;have s4:=qY (s3.trans u1) fr3 of4;have zl1:(Cd [] m1).S.length<=78:=by have:=zk1.len;rw[YN]at this;omega
  have lc1:LC (Cd [] m1).S:=zk1.lc LC.nil;have lf1:VO (Cd [] m1).S<=6:=by have:=zk1.ct;rw[show VO []=0 from rfl]at this;omega
  generalize eS1:(Cd [] m1).S=S1 at sh4 zl1 lc1 lf1;have ok1:=zk1.ok;have cl1:=zk1.cl;rw[eS1]at ok1 cl1;clear s3 u1 np1 sh3 of4 zk1;refine⟨fun σ' H'=>∃x fp,σ'=[some (.ref sa),some (.ref x),none,none,none,none,none,none,none,none,none,none]/\Same H H'/\ShAt P w K aC H' x fp S1/\∀c∈fp,H c=none,?_,?_⟩
  ·refine⟨_,rfl,sa,ns0,0,rfl,s4.seq hsa,by omega,_,_,rfl,rfl,(by decide:(0:Int)<2),rfl,_,rfl,VU (fun _=>?_) (fun _=>⟨x,fp,rfl,s4,sh4,fr3⟩)⟩;refine⟨_,rfl,fun y dy ny ndy ne=>⟨y,dy,.ref x,S1,rfl,zB,by rw[zG ne];exact zB,ne,.inr ⟨x,fp,rfl,sh4.same ((zC ndy).trans (zC (by rwa[zG (ED ne)]))),sh4.ex.not ny,sh4.ex.not ndy,by omega⟩,fun fr H5 hfr Ee sh=>⟨rfl,?_⟩⟩⟩;obtain⟨s5,fr5⟩:=UA ny ndy ne hfr Ee;exact⟨y,fr,rfl,s4.trans s5,sh,fun c hc=>s4.free (fr5 c hc)⟩
  clear s4 sh4 fr3 x fp H3 H4;rintro σ' H4 ⟨x,fp,rfl,s4,sh4,fr4⟩;refine⟨_,rfl,_,rfl,12,rfl,36,rfl,sa,_,rfl,s4.seq hsa,fun p2 np2=>?_⟩;rw[em2];have u2:=zC (o:=.lst (m2.map V.int)) np2;refine⟨x,p2,fp,S1,m2,rfl,sh4.same u2,ok1,cl1,SqL.of zB,by omega,by omega,fun l5 H5 of5 sh5 zk2=>?_⟩;have s5:=qY (s4.trans u2) fr4 of5;have zl2:(Cd S1 m2).S.length<=390:=by have:=zk2.len;omega
  have lc2:LC (Cd S1 m2).S:=zk2.lc lc1;have lf2:VO (Cd S1 m2).S<=30:=by have:=zk2.ct;omega
  generalize eS2:(Cd S1 m2).S=S2 at sh5 zl2 lc2 lf2;have ok2:=zk2.ok;have cl2:=zk2.cl;rw[eS2]at ok2 cl2;clear s4 u2 np2 sh4 of5 zk2;have enm:∀S:Di,(S.map fun e=>V.str e.nm)=(S.map En.nm).map V.str:=fun S=>by rw[Zv];rfl
  obtain⟨ix,i1,i2,i3,hix⟩:=jZ sh5;refine⟨_,rfl,x,ix,_,rfl,hix,rfl,x,fp,S2,rfl,sh5,fun l6 nl6=>?_⟩;rw[enm];have v6:=zC (o:=.lst ((S2.map En.nm).map V.str)) nl6;refine⟨l6,_,rfl,.inl (SqL.of zB),fun ln nln=>?_⟩;have v7:=zC (o:=.lst ((S2.map En.nm).map V.str)) nln;have sh6:=sh5.same (v6.trans v7);have s6:=s5.trans (v6.trans v7);have hn6:upd (upd H5 l6 (.lst ((S2.map En.nm).map V.str))) ln (.lst ((S2.map En.nm).map V.str)) ln=some (.lst ((S2.map En.nm).map V.str)):=zB;generalize upd (upd H5 l6 (.lst ((S2.map En.nm).map V.str))) ln (.lst ((S2.map En.nm).map V.str))=H6 at sh6 s6 hn6 ⊢;clear v6 v7 nl6 nln hix sh5 s5 i1 i2 i3 ix;refine yC ⟨VP 0,fun lr nlr=>?_⟩;have u7:=zC (o:=.lst []) nlr;have hr7:=zB (H:=H6) (a:=lr) (o:=.lst []);have lrn:lr≠ln:=fun q=>by rw[q,hn6]at nlr;cases nlr
  have hl0:H lr=none:=s6.free nlr;have nfp:lr∉fp:=sh6.ex.not nlr;have N2:(S2.map En.nm).length<=390:=by rwa[QU]
  have c05:0<=VY ns0 1 % 5/\VY ns0 1 % 5<5:=⟨ZG _ (by decide),Zx _ (by decide)⟩;refine yC ⟨_,rfl,sa,ns0,1,rfl,(s6.trans u7).seq hsa,by omega,_,_,rfl,rfl,(by decide:(0:Int)<5),?_⟩;refine⟨_,rfl,ln,_,rfl,.inl (SqL.of (u7 _ _ hn6)),_,_,rfl,rfl,.inr ⟨_,rfl,_,_,rfl,rfl,.inl ⟨by omega,by omega⟩,?_⟩⟩;obtain⟨n,en,n4,npos⟩:∃n:Nat,VY ns0 1 % 5*(if decide ((0:Int)<(((S2.map En.nm).map V.str).length:Int))=true then 1 else 0)=(n:Int)/\n<=4/\(0<n->0<(S2.map En.nm).length):=by
   by_cases q:(0:Int)<(((S2.map En.nm).map V.str).length:Int)
   ·rw[Zk (QX q),Int.mul_one];rw[QU]at q;exact⟨(VY ns0 1 % 5).toNat,by omega,by omega,fun _=>by omega⟩
   ·rw[Zh (fun z=>q (Zb z)),Int.mul_zero];exact⟨0,rfl,by omega,fun z=>absurd z (Yc 0)⟩
  refine⟨_,rfl,by rw[en];omega,by rw[en];omega,?_⟩;rw[en];refine UF (lo:=0) (n:=n) (fun i σ H'=>∃o4 rs,σ=[some (.ref sa),some (.ref x),some (.ref ln),some (.ref lr),o4,none,none,none,none,none,none,none]/\Same H6 H'/\H' lr=some (.lst ((rs:Da).map V.str))/\rs.length<=i/\∀r∈rs,r∈S2.map En.nm) ⟨none,[],rfl,u7,hr7,Q2 _,fun r hr=>(nomatch hr)⟩ ?_ ?_
  ·rintro i σ H' hi ⟨o4,rs,rfl,s7,hr',rl,rm⟩;have np:=npos (by omega);have nl:((S2.map En.nm).map V.str).length=(S2.map En.nm).length:=QU _;have d0:0<=VY ns0 (2+(0+(i:Int))) % (((S2.map En.nm).map V.str).length:Int):=ZG _ (by omega);have d1:VY ns0 (2+(0+(i:Int))) % (((S2.map En.nm).map V.str).length:Int)<(((S2.map En.nm).map V.str).length:Int):=Zx _ (by omega);obtain⟨r,hr9⟩:∃r,(S2.map En.nm)[(VY ns0 (2+(0+(i:Int))) % (((S2.map En.nm).map V.str).length:Int)).toNat]?=some r:=⟨_,Q5 (by omega)⟩;have ev:Cg ((S2.map En.nm).map V.str) (VY ns0 (2+(0+(i:Int))) % (((S2.map En.nm).map V.str).length:Int))=some (V.str r):=by
    unfold Cg;rw[Fy d0 d1];show((S2.map En.nm).map V.str)[_]?=_;rw[Za,hr9];rfl
   refine yC ⟨_,rfl,.inl ⟨rfl,_,SqL.of hr'⟩,_,rfl,_,rfl,_,rfl,_,_,rfl,rfl,sa,ns0,_,rfl,(s6.trans s7).seq hsa,by omega,_,rfl,ln,_,rfl,.inl (SqL.of (s7 _ _ hn6)),_,_,rfl,rfl,(show(0:Int)<(((S2.map En.nm).map V.str).length:Int) by omega),ln,_,_,_,rfl,rfl,SqL.of (s7 _ _ hn6),ev,?_⟩;refine⟨lr,_,_,rfl,rfl,hr',yT (by rw[QU];omega),_,rs++[r],rfl,?_,by rw[zB,Q6];rfl,by rw[Q4];show _+1<=_;omega,fun q hq=>?_⟩
   ·exact qY s7 (fun c hc=>by rwa[QV.mp hc]) (z6 (c:=lr))
   ·rcases Zf.mp hq with z|z
    ·exact rm q z
    ·rw[QV.mp z];exact Zc hr9
  rintro σ H7 ⟨o4,rs,rfl,s7,hr7',rl,rm⟩;clear hr7 u7;have sh7:=sh6.same s7;have hn7:=s7 _ _ hn6;have s07:=s6.trans s7;have r4:rs.length<=4:=ZD rl n4;clear rl n4 npos en;refine⟨_,rfl,sa,ns0,0,rfl,s07.seq hsa,by omega,_,_,rfl,rfl,⟨by decide,by decide⟩,_,_,rfl,rfl,(by decide:(0:Int)<4),rfl,?_⟩;generalize decide (V.int (VY ns0 0 / 2 % 4)=V.int 1)=odd;refine yC ⟨fun σ' H'=>∃o6 ds xs,σ'=[some (.ref sa),some (.ref x),some (.ref ln),some (.ref lr),o4,some (.bl odd),o6,none,none,none,none,none]/\Same H6 H'/\H' lr=some (.lst xs)/\RD K H' odd rs ds xs,?_,?_⟩
  ·refine⟨_,rfl,odd,rfl,VU (fun q=>?_) (fun q=>?_)⟩
   rotate_left
   ·have e:odd=false:=by cases odd with|true=>exact absurd rfl q|false=>rfl
    exact⟨none,_,_,rfl,s7,hr7',.inl ⟨e,rfl,rfl⟩⟩
   have e:odd=true:=q;subst e;refine⟨VP 1,fun la na=>⟨VP 6,fun lo no=>?_⟩⟩;have ua:=zC (o:=.lst [V.str "a"]) na;have uo:=zC (o:=.lst [V.str "L1.99",V.str "",V.non,V.int 5,V.ref la,V.str "T"]) no;have ha:=uo _ _ (zB (H:=H7) (a:=la) (o:=.lst [V.str "a"]));have c6:0<=VY ns0 1 / 5 % 6/\VY ns0 1 / 5 % 6<6:=⟨ZG _ (by decide),Zx _ (by decide)⟩;have od:DtAll K (upd (upd H7 la (.lst [V.str "a"])) lo (.lst [V.str "L1.99",V.str "",V.non,V.int 5,V.ref la,V.str "T"])) Iz [V.str "L1.99",V.str "",V.non,V.int 5,V.ref la,V.str "T"]:=⟨_,_,rfl,rfl,_,_,rfl,rfl,_,_,rfl,rfl,_,_,rfl,rfl,_,_,rfl,⟨la,_,rfl,SqL.of ha,_,_,rfl,rfl,rfl⟩,_,_,rfl,rfl,rfl⟩;have ho:=zB (H:=upd H7 la (.lst [V.str "a"])) (a:=lo) (o:=.lst [V.str "L1.99",V.str "",V.non,V.int 5,V.ref la,V.str "T"]);have s8:=ua.trans uo;generalize upd (upd H7 la (.lst [V.str "a"])) lo (.lst [V.str "L1.99",V.str "",V.non,V.int 5,V.ref la,V.str "T"])=H8 at od ho s8 ⊢;obtain⟨v,hv⟩:∃v,[V.str "L1.99",V.str "",V.non,V.int 5,V.ref la,V.str "T"][(VY ns0 1 / 5 % 6).toNat]?=some v:=⟨_,Q5 (show _<6 by omega)⟩;obtain⟨d,hd,dv⟩:=od.get hv;have hd:=Zc hd;refine⟨_,rfl,sa,ns0,1,rfl,(s07.trans s8).seq hsa,by omega,_,_,rfl,rfl,⟨by decide,by decide⟩,_,_,rfl,rfl,(by decide:(0:Int)<6),lo,_,_,_,rfl,rfl,SqL.of ho,An.atI_of (n:=(VY ns0 1 / 5 % 6).toNat) (by omega) hv,?_⟩;have hr8:=s8 _ _ hr7';have rlen:(rs.map V.str).length=rs.length:=QU _;have k0:0<=VY ns0 1 / 30 % (((rs.map V.str).length:Int)+1)/\VY ns0 1 / 30 % (((rs.map V.str).length:Int)+1)<((rs.map V.str).length:Int)+1:=⟨ZG _ (by omega),Zx _ (by omega)⟩;refine yC ⟨_,rfl,.inl ⟨rfl,_,SqL.of hr8⟩,_,rfl,sa,ns0,1,rfl,(s07.trans s8).seq hsa,by omega,_,_,rfl,rfl,⟨by decide,by decide⟩,_,rfl,lr,_,rfl,.inl (SqL.of hr8),_,_,rfl,rfl,_,_,rfl,rfl,(show(0:Int)<((rs.map V.str).length:Int)+1 by omega),_,rfl,lr,_,_,_,rfl,rfl,hr8,k0.1,by omega,yT (by omega),?_⟩;have s9:Same H6 (upd H8 lr (.lst ((rs.map V.str).take (VY ns0 1 / 30 % (((rs.map V.str).length:Int)+1)).toNat++v::(rs.map V.str).drop (VY ns0 1 / 30 % (((rs.map V.str).length:Int)+1)).toNat))):=qY (s7.trans s8) (fun c hc=>by rwa[QV.mp hc]) (z6 (c:=lr));refine⟨_,_,_,rfl,s9,zB,.inr ⟨rfl,(VY ns0 1 / 30 % (((rs.map V.str).length:Int)+1)).toNat,d,v,hd,?_,rfl,by rw[Jd,List.map_drop]⟩⟩;exact OD hr8 hd dv fun q=>by
    have hm:=Zc hv;rw[q]at hm;simp at hm;rw[←hm,hr7']at na;cases na
  clear hr7' s07 sh7 hn7 s7 H7;rintro σ' H7 ⟨o6,ds,xs,rfl,s7,hr7,rd⟩;have sh7:=sh6.same s7;have hn7:=s7 _ _ hn6;have s07:=s6.trans s7;have rso:∀r∈rs,Em r=true:=fun r hr=>by
   obtain⟨e,he,rfl⟩:=QZ.mp (rm r hr);exact(ok2.nm he).ok
  have rsh:=rd.shaped rso;refine yC ⟨fun σ' H'=>∃v7,σ'=[some (.ref sa),some (.ref x),some (.ref ln),some (.ref lr),o4,some (.bl odd),o6,some v7,none,none,none,none]/\Same H7 H'/\Dt K H' (Cc odd S2 rs) v7,?_,?_⟩
  ·refine⟨_,rfl,odd,rfl,?_⟩;cases odd with
   |true=>exact⟨_,rfl,fun _ _ e=>e,rfl⟩
   |false =>
    refine⟨_,rfl,_,rfl,?_⟩;delta Bo;dsimp only;show jO P w K aC [V.ref x,V.ref lr] H7 _ _;exact XR sh7 ok2 cl2 rd hr7 (by omega) rm fun l H' s8 nl hl dl=>⟨_,rfl,s8,dl⟩
  rintro σ' H8 ⟨v7,rfl,s8,d7⟩;have sh8:=sh7.same s8;have hn8:=s8 _ _ hn7;have s08:=s07.trans s8;have hr8:=s8 _ _ hr7;have rd8:=rd.same s8;clear sh7 hn7 s07 hr7 rd sh6 hn6;refine⟨_,rfl,lr,_,rfl,.inl (SqL.of hr8),fun lh nlh=>?_⟩;have u9:=zC (o:=.lst xs) nlh;have hh9:=zB (H:=H8) (a:=lh) (o:=.lst xs);have sh9:=sh8.same u9;have hn9:=u9 _ _ hn8;have s09:=s08.trans u9;have hr9:=u9 _ _ hr8;have rd9:=rd8.same u9;have d79:=Dt.same u9 _ _ d7;generalize upd H8 lh (.lst xs)=H9 at u9 hh9 sh9 hn9 s09 hr9 rd9 d79 ⊢;clear sh8 hn8 s08 hr8 rd8 d7 nlh u9;have tok2:=BQ ok2 odd rs;refine yC ⟨_,rfl,_,rfl,?_⟩;delta Bo;dsimp only;show uQ P w K aC [V.ref x,V.ref lh] H9 _ _;refine GX sh9 ok2 cl2 lc2 (by omega) rd9 hh9 (by omega) rm fun v H10 s10 dv _=>?_;refine⟨_,rfl,jI dv (Dt.same s10 _ _ d79) tok2.1 tok2.2 ⟨_,rfl,VL ⟨_,rfl,_,rfl,jI (d:=.list ds) ⟨lh,xs,rfl,SqL.of (s10 _ _ hh9),(rd9.same s10).all⟩ ⟨lr,xs,rfl,SqL.of (s10 _ _ hr9),(rd9.same s10).all⟩ rsh.1 rsh.2 ⟨_,rfl,VL ?_⟩⟩⟩⟩;have sh10:=sh9.same s10;have hn10:=s10 _ _ hn9;have s010:=s09.trans s10;have hr10:=s10 _ _ hr9;have hh10:=s10 _ _ hh9;have rd10:=rd9.same s10;clear sh9 hn9 s09 hr9 hh9 rd9 d79 dv s10 tok2;refine fun y dy ny ndy ne=>⟨y,dy,.non,[],rfl,zB,by rw[zG ne];exact zB,ne,.inl ⟨rfl,rfl⟩,fun fq H11 hfq Ee tw11=>⟨rfl,?_⟩⟩;obtain⟨s11,fr11⟩:=UA ny ndy ne hfq Ee;clear Ee hfq ny ndy ne;refine⟨_,rfl,_,rfl,6,rfl,12,rfl,sa,_,rfl,(s010.trans s11).seq hsa,fun p1 np1=>?_⟩;rw[em1];have u1:=zC (o:=.lst (m1.map V.int)) np1;refine⟨y,p1,fq,[],m1,rfl,tw11.same u1,ok0,cl0,SqL.of zB,by omega,Zz _,fun l4 H12 of4 tw12 _=>?_⟩;have s12:=qY (s11.trans u1) fr11 of4;rw[eS1]at tw12;clear s11 u1 np1 tw11 of4;refine⟨_,rfl,_,rfl,12,rfl,36,rfl,sa,_,rfl,(s010.trans s12).seq hsa,fun p2 np2=>?_⟩;rw[em2];have u2:=zC (o:=.lst (m2.map V.int)) np2;refine⟨y,p2,fq,S1,m2,rfl,tw12.same u2,ok1,cl1,SqL.of zB,by omega,by omega,fun l5 H13 of5 tw13 _=>?_⟩;have s13:=qY (s12.trans u2) fr11 of5;rw[eS2]at tw13;clear s12 u2 np2 tw12 of5;obtain⟨iy,i1,i2,i3,hiy⟩:=jZ tw13;refine⟨_,rfl,y,iy,_,rfl,hiy,rfl,VP 3,fun pi npi=>⟨VP 2,fun pt npt=>?_⟩⟩;have v1:=zC (o:=.tup [V.str "more",V.str "of",V.str "it"]) npi;have v2:=zC (o:=.tup [V.str "leaf",V.ref pi]) npt;have dl:Dt K (upd (upd H13 pi (.tup [V.str "more",V.str "of",V.str "it"])) pt (.tup [V.str "leaf",V.ref pi])) (Th.leaf moreL).dat (.ref pt):=⟨pt,_,rfl,SqT.of zB,_,_,rfl,rfl,_,_,rfl,⟨pi,_,rfl,SqT.of (v2 _ _ zB),DtAll.strs moreL⟩,rfl⟩;have tw14:=tw13.same (v1.trans v2);have s14:=s13.trans (v1.trans v2);generalize upd (upd H13 pi (.tup [V.str "more",V.str "of",V.str "it"])) pt (.tup [V.str "leaf",V.ref pi])=H14 at dl tw14 s14 ⊢;clear v1 v2 npi npt hiy tw13 s13;show Ub P w K aC aN aT [V.ref y,V.ref pt] H14 _ _;refine Gn tw14 ok2 (kR more_ok.2 more_ok.1) rfl (by omega) dl fun H15 of15 _=>?_;have s15:=qY s14 fr11 of15;clear of15 tw14 s14 dl fr11;obtain⟨ok3,at3,l3,T3,eT3,_⟩:=kA ok2 (qI more_ok) (by omega);obtain⟨cl3,m3,mo3⟩:=kZ ok2 (qI more_ok) (by omega) cl2 (fun n hn=>(nomatch hn));obtain⟨lc3,lf3⟩:=Bg lc2 (.leaf moreL);generalize eP:A0 S2 (.leaf moreL)=q3 at ok3 at3 l3 eT3 cl3 m3 mo3 lc3 lf3 ⊢;obtain⟨S3,later⟩:=q3;dsimp only at ok3 at3 l3 eT3 cl3 m3 mo3 lc3 lf3 ⊢;have sh15:=sh10.same s15;have hn15:=s15 _ _ hn10;have s015:=s010.trans s15;have hr15:=s15 _ _ hr10;have hh15:=s15 _ _ hh10;have rd15:=rd10.same s15;clear sh10 hn10 s010 hr10 hh10 rd10;have lok:Em later=true:=by
   obtain⟨e,he,rfl⟩:=QZ.mp m3;exact(ok3.nm he).ok
  have nok2:∀p∈S2.map En.nm,Em p=true:=fun p hp=>by
   obtain⟨e,he,rfl⟩:=QZ.mp hp;exact(ok2.nm he).ok
  refine yC ⟨fun σ' H'=>σ'=[some (.ref sa),some (.ref x),some (.ref ln),some (.ref lr),o4,some (.bl odd),o6,some v7,some (.ref lh),some (.ref y),some (.str later),none]/\Same H15 H',?_,?_⟩
  ·refine⟨_,rfl,_,rfl,.str later,(S2.map En.nm).map .str,rfl,⟨ln,_,rfl,SqL.of hn15,DtAll.strs _⟩,(jN _ nok2).1,lok,Zz _,_,rfl,VU (fun q=>?_) (fun _=>VL ⟨rfl,fun _ _ e=>e⟩)⟩;have nin:later∉S2.map En.nm:=fun z=>by
    rw[PR,QX z]at q;cases q
   refine⟨_,rfl,_,rfl,VP 1,fun lx nx=>?_⟩;have ux:=zC (o:=.lst [V.str later]) nx;dsimp only;show uQ P w K aC [V.ref x,V.ref lx] _ _ _;refine⟨x,lx,fp,S2,[.str later],[V.str later],rfl,sh15.same ux,ok2,cl2,SqL.of zB,⟨_,_,rfl,rfl,rfl⟩,(by decide:(1:Nat)<=1000),fun rs' e m l H' s nl _=>?_,fun bad H' s=>?_⟩
   ·exfalso;cases rs' with
    |nil=>cases e
    |cons r rs' =>
     injection e with e1 e2;injection e1 with e1;exact nin (e1▸m r Q1)
   ·delta tC;dsimp only;refine jI (d:=.str "no name") rfl rfl ?_ ?_ ?_
    ·decide +kernel
    ·decide +kernel
    ·exact⟨_,rfl,VL ⟨rfl,ux.trans s⟩⟩
  rintro σ' H16 ⟨rfl,s16⟩;have sh16:=sh15.same s16;have s016:=s015.trans s16;have hr16:=s16 _ _ hr15;have hh16:=s16 _ _ hh15;have rd16:=rd15.same s16;clear sh15 hn15 s015 hr15 hh15 rd15 s16;obtain⟨ix,i1,i2,i3,hix⟩:=jZ sh16;refine⟨_,rfl,x,ix,_,rfl,hix,rfl,VP 3,fun pi npi=>⟨VP 2,fun pt npt=>?_⟩⟩;have v1:=zC (o:=.tup [V.str "more",V.str "of",V.str "it"]) npi;have v2:=zC (o:=.tup [V.str "leaf",V.ref pi]) npt;have dl:Dt K (upd (upd H16 pi (.tup [V.str "more",V.str "of",V.str "it"])) pt (.tup [V.str "leaf",V.ref pi])) (Th.leaf moreL).dat (.ref pt):=⟨pt,_,rfl,SqT.of zB,_,_,rfl,rfl,_,_,rfl,⟨pi,_,rfl,SqT.of (v2 _ _ zB),DtAll.strs moreL⟩,rfl⟩;have D6:=sh16.same (v1.trans v2);have hr17:=(v1.trans v2) _ _ hr16;have hh17:=(v1.trans v2) _ _ hh16;have rd17:=rd16.same (v1.trans v2);generalize upd (upd H16 pi (.tup [V.str "more",V.str "of",V.str "it"])) pt (.tup [V.str "leaf",V.ref pi])=H17 at dl D6 hr17 hh17 rd17 ⊢;clear v1 v2 npi npt hix sh16 s016 hr16 hh16 rd16;show Ub P w K aC aN aT [V.ref x,V.ref pt] H17 _ _;refine Gn D6 ok2 (kR more_ok.2 more_ok.1) rfl (by omega) dl fun H18 of18 sh18=>?_;rw[eP]at sh18 ⊢;dsimp only at sh18 ⊢;have hr18:=of18 _ _ (xB D6.noseq hr17) hr17;have hh18:=of18 _ _ (xB D6.noseq hh17) hh17;have rd18:=rd17.off D6.noseq of18;clear of18 dl D6 hr17 hh17 rd17;have neS:∀{v:V},(!decide (v=v))=true->False:=fun{v} z=>by rw[QX rfl]at z;cases z
  have rm3:∀r∈rs,r∈S3.map En.nm:=fun r hr=>mo3 r (rm r hr);have tok3:=BQ ok3 odd rs;have e3:Cc false S3 [later]=.list ([later].map .str):=by
   unfold Cc;rw[Zh (by decide),NF ok3.good.nn at3]
  have l31:VO S3<=99:=by omega
  refine⟨_,rfl,rfl,_,rfl,VU (fun z=>(neS z).elim) (fun _=>⟨_,rfl,_,rfl,VP 1,fun lx nx=>?_⟩)⟩;have ux:=zC (o:=.lst [V.str later]) nx;dsimp only;show uQ P w K aC [V.ref x,V.ref lx] _ _ _;refine GX (odd:=false) (rs:=[later]) (ds:=[.str later]) (xs:=[V.str later]) (sh18.same ux) ok3 cl3 lc3 l31 (.inl ⟨rfl,rfl,rfl⟩) zB (show(1:Nat)<=500 by decide) (fun r hr=>by rwa[QV.mp hr]) fun v H19 s19 dv _=>?_;rw[e3]at dv;refine⟨_,rfl,VP 1,fun lz nz=>jI (d:=.list ([later].map .str)) (Dt.same (zC nz) _ _ dv) ⟨lz,_,rfl,SqL.of zB,DtAll.strs [later]⟩ (y9 fun p hp=>by rwa[QV.mp hp]).1 ((jM [later] [later]).trans (QX rfl)) ⟨_,rfl,VL ?_⟩⟩;have s20:=(ux.trans s19).trans (zC (o:=.lst [V.str later]) nz);have sh20:=sh18.same s20;have hr20:=s20 _ _ hr18;have hh20:=s20 _ _ hh18;have rd20:=rd18.same s20;generalize upd H19 lz (.lst [V.str later])=H20 at sh20 hr20 hh20 rd20 ⊢;clear s20 sh18 hr18 hh18 rd18 dv s19 ux nx nz;refine⟨_,rfl,_,rfl,?_⟩;dsimp only;show uQ P w K aC [V.ref x,V.ref lh] H20 _ _;refine GX sh20 ok3 cl3 lc3 l31 rd20 hh20 (by omega) rm3 fun vf H21 s21 df lf=>?_;have sh21:=sh20.same s21;have hr21:=s21 _ _ hr20;have hh21:=s21 _ _ hh20;have rd21:=rd20.same s21;refine yC ⟨_,rfl,odd,rfl,?_⟩;cases odd with
  |true=>exact VM ⟨_,rfl,BO (d:=.str "no name") df rfl (by decide +kernel) (by decide +kernel) (kQ _)⟩
  |false =>
   refine VL ?_;obtain⟨l,rfl,nl,hl⟩:=lf rfl;refine⟨_,rfl,_,_,_,_,rfl,TyOf.lst hl,MQ _ _,true,rfl,ML ⟨_,rfl,_,rfl,_,rfl,?_⟩⟩;dsimp only;show jO P w K aC [V.ref x,V.ref lr] H21 _ _;refine XR sh21 ok3 cl3 rd21 hr21 (by omega) rm3 fun lc H22 s22 nlc hlc dlc=>jI (d:=Cc false S3 rs) (Dt.same s22 _ _ df) dlc tok3.1 tok3.2 ⟨_,rfl,VL ?_⟩;have sh22:=sh21.same s22;have hl22:=s22 _ _ hl;have lr':lr≠l:=fun q=>by rw[←q,hr20]at nl;cases nl
   have lh':lh≠l:=fun q=>by rw[←q,hh20]at nl;cases nl
   have rd23:∀H',RD K H' false rs ds xs:=fun H'=>by
    rcases rd21 with h|⟨z,_⟩
    ·exact .inl h
    ·cases z
   refine⟨_,rfl,.inl ⟨rfl,_,SqL.of hl22⟩,l,_,rfl,rfl,hl22,?_⟩;have ntl:∀b∈[l],∀ys,¬Rd H22 b (.tup ys):=fun b hb ys=>by rw[QV.mp hb];exact jK hl22 ys
   have sh23:=sh22.off (gp:=[l]) ntl (z6 (c:=l) (o:=.lst [])) (fun b hb q=>xB sh22.noseq hl22 (QV.mp q▸hb));have hr23:upd H22 l (.lst []) lr=some (.lst xs):=by rw[zG lr'];exact s22 _ _ hr21
   have hh23:upd H22 l (.lst []) lh=some (.lst xs):=by rw[zG lh'];exact s22 _ _ hh21
   generalize upd H22 l (.lst [])=H23 at sh23 hr23 hh23 ⊢;refine⟨_,rfl,_,rfl,?_⟩;dsimp only;show uQ P w K aC [V.ref x,V.ref lh] H23 _ _;refine GX sh23 ok3 cl3 lc3 l31 (rd23 _) hh23 (by omega) rm3 fun vt H24 s24 dt _=>?_;refine⟨_,rfl,_,rfl,?_⟩;dsimp only;show jO P w K aC [V.ref x,V.ref lr] H24 _ _;exact XR (sh23.same s24) ok3 cl3 (rd23 _) (s24 _ _ hr23) (by omega) rm3 fun lc H25 s25 _ _ dlc=>BO (d:=Cc false S3 rs) (Dt.same s25 _ _ dt) dlc tok3.1 tok3.2 (kQ _)
end AX
end
end An28
/-! the evaluating tactics look for a twin of each of these constants under these names;names that are taken keep them from laying one,for the twins' equations make the compiled file too large -/
namespace PySem.W.Fast
theorem tw9616208429287224650:True:=trivial
theorem tw9818764358813281960:True:=trivial
theorem tw2916777799020750503:True:=trivial
theorem tw13863756376594294318:True:=trivial
theorem tw13048015576971491893:True:=trivial
theorem tw10698821224694404586:True:=trivial
theorem tw5166047894638223276:True:=trivial
theorem tw2512599654243588358:True:=trivial
theorem tw17312061777627566881:True:=trivial
theorem tw4445481028133474096:True:=trivial
theorem tw3244071268428447639:True:=trivial
theorem tw6663688799959966931:True:=trivial
theorem tw2357350208555657099:True:=trivial
theorem tw8708000770439446954:True:=trivial
theorem tw15630465335441705821:True:=trivial
theorem tw13943351979612608649:True:=trivial
theorem tw6605907163269972631:True:=trivial
theorem tw16044505897876891700:True:=trivial
theorem tw2054159682269231188:True:=trivial
theorem tw13508450894977321942:True:=trivial
theorem tw8731689550691124054:True:=trivial
theorem tw6453222455544538699:True:=trivial
theorem tw1521151711752243746:True:=trivial
theorem tw11881605343291768746:True:=trivial
theorem tw11682009245538753099:True:=trivial
theorem tw18309388282632559285:True:=trivial
theorem tw4685366405140062855:True:=trivial
theorem tw10836579537690927785:True:=trivial
theorem tw2034792201188581127:True:=trivial
theorem tw1995338121260458499:True:=trivial
theorem tw3054862609236087798:True:=trivial
theorem tw4598933956217316312:True:=trivial
theorem tw10088339797195138541:True:=trivial
theorem tw8663500871824928823:True:=trivial
theorem tw9677053061887578733:True:=trivial
theorem tw12111173147158765161:True:=trivial
theorem tw9122572186464453571:True:=trivial
theorem tw13448115672592720430:True:=trivial
theorem tw14598910593275555253:True:=trivial
theorem tw3765648793600670463:True:=trivial
theorem tw10854887169367467379:True:=trivial
theorem tw10601060717406896255:True:=trivial
theorem tw9150854554951993360:True:=trivial
theorem tw18133451392454857682:True:=trivial
theorem tw1159248371231940412:True:=trivial
theorem tw5476326001677039754:True:=trivial
theorem tw1480640743254131928:True:=trivial
theorem tw5618646777981140482:True:=trivial
theorem tw11434599742598459070:True:=trivial
theorem tw13131259121781214592:True:=trivial
theorem tw6683743285261120925:True:=trivial
theorem tw2671869079821035257:True:=trivial
theorem tw10887336509729662538:True:=trivial
theorem tw565535543110309602:True:=trivial
theorem tw6569575281466197261:True:=trivial
theorem tw11000405947355115275:True:=trivial
theorem tw3408997568527472361:True:=trivial
theorem tw16336896329338394597:True:=trivial
theorem tw14733457492756015542:True:=trivial
theorem tw6611219479557062202:True:=trivial
theorem tw10158577982159341024:True:=trivial
theorem tw13102620907275102034:True:=trivial
theorem tw10049237529518769713:True:=trivial
theorem tw5338254005943098678:True:=trivial
theorem tw4109816915634694051:True:=trivial
theorem tw13142733856694106686:True:=trivial
theorem tw17841983310579371612:True:=trivial
theorem tw10109072630127716317:True:=trivial
theorem tw7453787360837604419:True:=trivial
theorem tw12012417697134310736:True:=trivial
theorem tw1055884028159823972:True:=trivial
theorem tw7136501963696805034:True:=trivial
theorem tw6563529393236021485:True:=trivial
theorem tw11759367976417113438:True:=trivial
theorem tw13143356323118354723:True:=trivial
theorem tw16546064367776419212:True:=trivial
theorem tw12662550734330949187:True:=trivial
theorem tw10939635820345993422:True:=trivial
theorem tw14550988786356918605:True:=trivial
theorem tw5011809248701602419:True:=trivial
theorem tw10056701496417649828:True:=trivial
theorem tw12093754417598562466:True:=trivial
theorem tw2248334106332459230:True:=trivial
theorem tw13534695859498094192:True:=trivial
theorem tw12938798161492096043:True:=trivial
theorem tw12527901581566329389:True:=trivial
theorem tw15829343771720189361:True:=trivial
theorem tw14984847789040996919:True:=trivial
theorem tw11788754914908523541:True:=trivial
theorem tw14572428802606876468:True:=trivial
theorem tw146260738528351705:True:=trivial
theorem tw9830202167729263:True:=trivial
theorem tw16776748760759080380:True:=trivial
theorem tw6884079564026824758:True:=trivial
theorem tw17570671004171084102:True:=trivial
theorem tw9626914012993371840:True:=trivial
theorem tw8662222753937054892:True:=trivial
theorem tw4114096148032581652:True:=trivial
theorem tw1151339305280173233:True:=trivial
theorem tw6815491078475404895:True:=trivial
theorem tw8157463708260943978:True:=trivial
theorem tw12344569183362602130:True:=trivial
theorem tw1552828766208394391:True:=trivial
theorem tw1333222925885789466:True:=trivial
theorem tw3480275331908399087:True:=trivial
theorem tw8827158312624972123:True:=trivial
theorem tw790597162985362472:True:=trivial
theorem tw4220427988551334627:True:=trivial
theorem tw4944232405462929689:True:=trivial
theorem tw9515333077209396752:True:=trivial
theorem tw16542313071521429503:True:=trivial
theorem tw15904137462663907386:True:=trivial
theorem tw13908767432909911829:True:=trivial
theorem tw8559601350780721526:True:=trivial
theorem tw16270913975850194455:True:=trivial
theorem tw3451537091333416544:True:=trivial
theorem tw3238308833889746575:True:=trivial
theorem tw13269447352907626498:True:=trivial
theorem tw4189472716822447687:True:=trivial
theorem tw16064014627582078056:True:=trivial
theorem tw16485245811288184038:True:=trivial
theorem tw2085849667213120411:True:=trivial
theorem tw5118674238315453312:True:=trivial
theorem tw4572347475768834708:True:=trivial
theorem tw5875763546674204601:True:=trivial
theorem tw1737596353518532059:True:=trivial
theorem tw5609276825737822303:True:=trivial
theorem tw8780920105190910491:True:=trivial
theorem tw16065269708514560175:True:=trivial
theorem tw15327589482533035322:True:=trivial
theorem tw5378098561740156628:True:=trivial
theorem tw190478145738931400:True:=trivial
theorem tw18038068042076782522:True:=trivial
theorem tw8780825799740474148:True:=trivial
theorem tw9367515880547122273:True:=trivial
theorem tw3118904612810262967:True:=trivial
theorem tw18402901521718863952:True:=trivial
theorem tw5623837258000138725:True:=trivial
theorem tw15947935977712268111:True:=trivial
theorem tw5384565801815614441:True:=trivial
theorem tw15103326465218690211:True:=trivial
theorem tw2118349821319154296:True:=trivial
theorem tw8317641817597510905:True:=trivial
theorem tw4951111790702093591:True:=trivial
theorem tw8288191915259514662:True:=trivial
theorem tw985891575230047635:True:=trivial
theorem tw4567476663143479486:True:=trivial
theorem tw6029889863274348523:True:=trivial
theorem tw9442057118066074942:True:=trivial
theorem tw13607073801345200305:True:=trivial
theorem tw9205962463591588228:True:=trivial
theorem tw16596599666208718438:True:=trivial
theorem tw141065982549709476:True:=trivial
theorem tw8501348149053730323:True:=trivial
theorem tw9521171766048086647:True:=trivial
theorem tw1668281611040146319:True:=trivial
theorem tw14759661886831626919:True:=trivial
theorem tw15549691622419054525:True:=trivial
theorem tw4489899386589785010:True:=trivial
theorem tw496383481268724268:True:=trivial
theorem tw8068993382087818312:True:=trivial
theorem tw17365268607111966795:True:=trivial
theorem tw10824944230121537365:True:=trivial
theorem tw18252179681959606478:True:=trivial
theorem tw6042640263199687680:True:=trivial
theorem tw7990597586366073550:True:=trivial
theorem tw5212605238345140353:True:=trivial
theorem tw9686001870461460673:True:=trivial
theorem tw7810246959425086226:True:=trivial
theorem tw17144952939583382421:True:=trivial
theorem tw13309269060740220627:True:=trivial
theorem tw16983555037039283640:True:=trivial
theorem tw15735543781892830662:True:=trivial
theorem tw16454741676913648286:True:=trivial
theorem tw12578607263257160790:True:=trivial
theorem tw18025978232644571596:True:=trivial
theorem tw6296277508804797381:True:=trivial
theorem tw3247724037892972191:True:=trivial
theorem tw8255507761292232209:True:=trivial
theorem tw6797398673676333006:True:=trivial
theorem tw6993268711051736620:True:=trivial
theorem tw15087249077485985148:True:=trivial
theorem tw16197406199977243153:True:=trivial
theorem tw17582383272929202692:True:=trivial
theorem tw8242291347927743025:True:=trivial
theorem tw9862308908948324191:True:=trivial
theorem tw10959605759079362131:True:=trivial
theorem tw16219947544243401958:True:=trivial
theorem tw6064379021144165859:True:=trivial
theorem tw9818041154979516793:True:=trivial
theorem tw8061866781438405404:True:=trivial
theorem tw6641769603092419989:True:=trivial
theorem tw1099152595955375748:True:=trivial
theorem tw12167037010445898801:True:=trivial
theorem tw16387108243887072208:True:=trivial
theorem tw14462492112883863399:True:=trivial
theorem tw2748126827858873534:True:=trivial
theorem tw2502288915791799389:True:=trivial
theorem tw13395389562357700972:True:=trivial
theorem tw257618588290720383:True:=trivial
theorem tw6895377557459941307:True:=trivial
theorem tw5225200600557233871:True:=trivial
theorem tw2717842755843410784:True:=trivial
theorem tw3938634204378829752:True:=trivial
theorem tw4245926744257801016:True:=trivial
theorem tw11775847591283534452:True:=trivial
theorem tw11438847122374130005:True:=trivial
theorem tw11900402932907949862:True:=trivial
theorem tw3737926664563024782:True:=trivial
theorem tw2260364392295532905:True:=trivial
theorem tw10943847590534786316:True:=trivial
theorem tw1332573222560589629:True:=trivial
theorem tw17710650579138826882:True:=trivial
theorem tw8514104753184526011:True:=trivial
theorem tw2496215631956877756:True:=trivial
theorem tw5539610006533798133:True:=trivial
theorem tw3486987311515263626:True:=trivial
theorem tw7574549319217027595:True:=trivial
theorem tw2014064284309166211:True:=trivial
theorem tw6873912673852395932:True:=trivial
theorem tw12496861588803989976:True:=trivial
theorem tw6674305614752136260:True:=trivial
theorem tw9915637152781182779:True:=trivial
theorem tw15269466222835098766:True:=trivial
theorem tw17625513266748106872:True:=trivial
theorem tw7454212423836583155:True:=trivial
theorem tw2863235141452858783:True:=trivial
theorem tw4966560035412646750:True:=trivial
theorem tw13993331427356962442:True:=trivial
theorem tw18331712107438518305:True:=trivial
theorem tw964988039854371655:True:=trivial
theorem tw4181305041924424325:True:=trivial
theorem tw18317249754262499792:True:=trivial
theorem tw3070802049987307901:True:=trivial
theorem tw10716139938099761544:True:=trivial
theorem tw14694710680316347983:True:=trivial
theorem tw1661398079532313895:True:=trivial
theorem tw17199942746966420999:True:=trivial
theorem tw13942315541602877482:True:=trivial
theorem tw3732778313456290151:True:=trivial
theorem tw13218009326029364126:True:=trivial
theorem tw4940137079549484797:True:=trivial
theorem tw4090845790810092995:True:=trivial
theorem tw2980288762882664471:True:=trivial
theorem tw9019061999730223683:True:=trivial
theorem tw15031223593792903876:True:=trivial
theorem tw14636070925034623789:True:=trivial
theorem tw563575898068020944:True:=trivial
theorem tw13846879958244036862:True:=trivial
theorem tw10847222073217112498:True:=trivial
theorem tw17395937747567800778:True:=trivial
theorem tw9141303081377298320:True:=trivial
theorem tw4641797479492779329:True:=trivial
theorem tw10588057778501686835:True:=trivial
theorem tw5549437211933145603:True:=trivial
theorem tw9238248525074796598:True:=trivial
theorem tw4171926481558696309:True:=trivial
theorem tw13721673617597023860:True:=trivial
theorem tw1304218500204996032:True:=trivial
theorem tw3665045227372501245:True:=trivial
theorem tw10747864081827677175:True:=trivial
theorem tw5186704875895350195:True:=trivial
theorem tw16085614149738202803:True:=trivial
theorem tw72435643534269151:True:=trivial
theorem tw8926346680036606942:True:=trivial
theorem tw11121971744531336239:True:=trivial
theorem tw18142328186546924046:True:=trivial
theorem tw10430038363021227724:True:=trivial
end PySem.W.Fast
namespace An28
open PySem L2 An
theorem kd_of {P:Ei}{w:Eo}{K:AZ}{a:Eh}{t1 u1 t2 u2 t3 u3:Tok}{n:Nat}(h:K.lookup a=some { cls:=.type "dict",data:=.dict #[⟨LJ w.params "leaf",.str "leaf" t1,.str "L" u1⟩,⟨LJ w.params "tree",.str "tree" t2,.str "T" u2⟩,⟨LJ w.params "note",.str "note" t3,.str "N" u3⟩] n }) :
  KD P w K a xK:=by
 intro hp X;refine⟨[(Et "leaf",.str "L" u1),(Et "tree",.str "T" u2),(Et "note",.str "N" u3)],.cons ⟨rfl,u1,rfl⟩ (.cons ⟨rfl,u2,rfl⟩ (.cons ⟨rfl,u3,rfl⟩ .nil)),_,_,n,X a _ h,⟨rfl,rfl,rfl⟩,rfl,?_,?_,?_⟩
 ·intro e he;have he:e∈[(⟨LJ w.params "leaf",.str "leaf" t1,.str "L" u1⟩:LX),⟨LJ w.params "tree",.str "tree" t2,.str "T" u2⟩,⟨LJ w.params "note",.str "note" t3,.str "N" u3⟩]:=by simpa using he
  rcases Q7.mp he with z|z
  ·subst z;exact⟨Et "leaf",xY _ t1,rfl⟩
  ·rcases Q7.mp z with z|z
   ·subst z;exact⟨Et "tree",xY _ t2,rfl⟩
   ·rw[QV.mp z];exact⟨Et "note",xY _ t3,rfl⟩
 ·exact .cons (xY _ t1) rfl (.cons (xY _ t2) rfl (.cons (xY _ t3) rfl .nil))
 ·show([Et "leaf",Et "tree",Et "note"]:List Key).Nodup
  decide +kernel
def GF (K:AZ)(x:Str)(st:ER)(f:Eh):Prop:=Ey K Er x=some (some (.ref f))/\∃(oc:Eg) (od an:Option Eh) (sl:Array Dc) (kV dc pm cd ct:Eg),K.lookup f=some ⟨oc,od,.func (E1 x x (xZ st) (xL st) (zH st) .none kV dc pm an cd ct),sl⟩/\Lr K cd x=true/\ET K (.ref f)=true
def MF (K:AZ)(C:Eh)(x q:Str)(st:ER)(f:Eh):Prop:=EK K (.ref C) x=some (some (.ref f))/\Me K (.ref f)=true/\∃(oc:Eg) (od an:Option Eh) (sl:Array Dc) (kV dc pm cd ct:Eg),K.lookup f=some ⟨oc,od,.func (E1 x q (xZ st) (xL st) (zH st) .none kV dc pm an cd ct),sl⟩/\Lr K cd q=true/\ET K (.ref f)=true
section
variable {P:Ei}{w:Eo}{K:AZ}{h:EC}{mg:Str->Dc}{k:Nat}{x q:Str}{st:ER}{f C:Eh}{ps:Da}{sp:Sp}{oc:Eg}{od an:Option Eh}{sl:Array Dc}{kV dc pm cd ct:Eg}
theorem GF.mk (a:Ey K Er x=some (some (.ref f)))(l:K.lookup f=some ⟨oc,od,.func (E1 x x (xZ st) (xL st) (zH st) .none kV dc pm an cd ct),sl⟩)(c:Lr K cd x=true)(k:ET K (.ref f)=true):GF K x st f:=⟨a,_,_,_,_,_,_,_,_,_,l,c,k⟩
theorem MF.mk (a:EK K (.ref C) x=some (some (.ref f)))(i:Me K (.ref f)=true)(l:K.lookup f=some ⟨oc,od,.func (E1 x q (xZ st) (xL st) (zH st) .none kV dc pm an cd ct),sl⟩)(c:Lr K cd q=true)(k:ET K (.ref f)=true):MF K C x q st f:=⟨a,i,_,_,_,_,_,_,_,_,_,l,c,k⟩
abbrev BA (x q:Str)(st:ER)(ps:Da):Prop:=∀(kV doc pm:Eg) (an:Option Eh) (cdv ct:Eg) (us:Db),us.length=ps.length->bindArgs (E1 x q (xZ st) (xL st) (zH st) .none kV doc pm an cdv ct) ⟨us,[]⟩=Ly (ps.zip us)
abbrev BX (x q:Str)(st:ER)(ps:Da)(kV doc pm:Eg)(an:Option Eh)(cdv ct:Eg)(us:Db):Prop:=bindArgs (E1 x q (xZ st) (xL st) (zH st) .none kV doc pm an cdv ct) ⟨us,[]⟩=Ly (ps.zip us)
theorem RU (h:∀kV i j an c' ct a,BX x q st ps kV i j an c' ct [a])(l:ps.length=1):BA x q st ps:=fun kV i j an c' ct us z=>match us,(z.trans l) with|[a],_=>h kV i j an c' ct a
theorem RV (h:∀kV i j an c' ct a b,BX x q st ps kV i j an c' ct [a,b])(l:ps.length=2):BA x q st ps:=fun kV i j an c' ct us z=>match us,(z.trans l) with|[a,b],_=>h kV i j an c' ct a b
theorem RW (h:∀kV i j an c' ct a b c,BX x q st ps kV i j an c' ct [a,b,c])(l:ps.length=3):BA x q st ps:=fun kV i j an c' ct us z=>match us,(z.trans l) with|[a,b,c],_=>h kV i j an c' ct a b c
theorem RX (h:∀kV i j an c' ct a b c d,BX x q st ps kV i j an c' ct [a,b,c,d])(l:ps.length=4):BA x q st ps:=fun kV i j an c' ct us z=>match us,(z.trans l) with|[a,b,c,d],_=>h kV i j an c' ct a b c d
theorem RY (h:∀kV i j an c' ct a b c d e,BX x q st ps kV i j an c' ct [a,b,c,d,e])(l:ps.length=5):BA x q st ps:=fun kV i j an c' ct us z=>match us,(z.trans l) with|[a,b,c,d,e],_=>h kV i j an c' ct a b c d e
theorem GF.cal (X:K.In h)(G:h.Ns Er mg)(a:GF K x st f)(b:EC)(g:∀fd,Fun K x x st f fd->mg x=some (.ref f)->Binds K fd ps []->FnOk P w K mg b A9 k f fd ps sp)(e:BA x x st ps:=by first|exact RU (fun _ _ _ _ _ _ _=>rfl) rfl|exact RV (fun _ _ _ _ _ _ _ _=>rfl) rfl|exact RW (fun _ _ _ _ _ _ _ _ _=>rfl) rfl|exact RX (fun _ _ _ _ _ _ _ _ _ _=>rfl) rfl|exact RY (fun _ _ _ _ _ _ _ _ _ _ _=>rfl) rfl):Cal P w K mg b k x ps sp:=by
 obtain⟨h1,_,_,_,_,_,_,_,_,_,l,c,kp⟩:=a;have F:=Uy l c kp;exact Cal.mk' F (g _ F (ZM X G h1) (F.binds e)) (ZM X G h1) (F.binds e)
theorem GF.calX (X:K.In h)(G:h.Ns Er mg)(a:GF K x st f)(b:EC)(g:∀fd,Fun K x x st f fd->mg x=some (.ref f)->Binds K fd ps []->FnOk P w K mg b (Ci P w) k f fd ps sp)(e:BA x x st ps:=by first|exact RU (fun _ _ _ _ _ _ _=>rfl) rfl|exact RV (fun _ _ _ _ _ _ _ _=>rfl) rfl|exact RW (fun _ _ _ _ _ _ _ _ _=>rfl) rfl|exact RX (fun _ _ _ _ _ _ _ _ _ _=>rfl) rfl|exact RY (fun _ _ _ _ _ _ _ _ _ _ _=>rfl) rfl):CalX P w K mg b k x ps sp:=by
 obtain⟨h1,_,_,_,_,_,_,_,_,_,l,c,kp⟩:=a;have F:=Uy l c kp;exact CalX.mk' F (g _ F (ZM X G h1) (F.binds e)) (ZM X G h1) (F.binds e)
theorem MF.met (a:MF K C x q st f)(b:EC)(g:∀fd,Fun K x q st f fd->FnOk P w K mg b A9 k f fd ps sp)(e:BA x q st ps:=by first|exact RU (fun _ _ _ _ _ _ _=>rfl) rfl|exact RV (fun _ _ _ _ _ _ _ _=>rfl) rfl|exact RW (fun _ _ _ _ _ _ _ _ _=>rfl) rfl|exact RX (fun _ _ _ _ _ _ _ _ _ _=>rfl) rfl|exact RY (fun _ _ _ _ _ _ _ _ _ _ _=>rfl) rfl):Met P w K mg b C k x ps sp:=by
 obtain⟨h1,i,_,_,_,_,_,_,_,_,_,l,c,kp⟩:=a;have F:=Uy l c kp;exact⟨⟨_,_,g _ F,⟨h1,i,kp⟩,F.binds e⟩⟩
theorem MF.metX (a:MF K C x q st f)(b:EC)(g:∀fd,Fun K x q st f fd->FnOk P w K mg b (Ci P w) k f fd ps sp)(e:BA x q st ps:=by first|exact RU (fun _ _ _ _ _ _ _=>rfl) rfl|exact RV (fun _ _ _ _ _ _ _ _=>rfl) rfl|exact RW (fun _ _ _ _ _ _ _ _ _=>rfl) rfl|exact RX (fun _ _ _ _ _ _ _ _ _ _=>rfl) rfl|exact RY (fun _ _ _ _ _ _ _ _ _ _ _=>rfl) rfl):MetX P w K mg b C k x ps sp:=by
 obtain⟨h1,i,_,_,_,_,_,_,_,_,_,l,c,kp⟩:=a;have F:=Uy l c kp;exact⟨⟨_,_,g _ F,⟨h1,i,kp⟩,F.binds e⟩⟩
theorem MF.mak (a:MF K C "__init__" q st f)(b:EC)(m:Mb K C=true)(kc:ET K (.ref C)=true)(hx:mg x=some (.ref C))(g:∀fd,Fun K "__init__" q st f fd->FnOk P w K mg b A9 k f fd ps sp)(e:BA "__init__" q st ps:=by first|exact RU (fun _ _ _ _ _ _ _=>rfl) rfl|exact RV (fun _ _ _ _ _ _ _ _=>rfl) rfl|exact RW (fun _ _ _ _ _ _ _ _ _=>rfl) rfl|exact RX (fun _ _ _ _ _ _ _ _ _ _=>rfl) rfl|exact RY (fun _ _ _ _ _ _ _ _ _ _ _=>rfl) rfl):Mak P w K mg b C k x ps sp:=by
 obtain⟨h1,i,_,_,_,_,_,_,_,_,_,l,c,kp⟩:=a;have F:=Uy l c kp;exact⟨⟨_,_,g _ F,⟨m,h1,i,kc⟩,F.binds e,hx⟩⟩
end
set_option maxHeartbeats 0 in
theorem all_mk {l:PySem.W.OpenLaw}{w:Eo}{K:AZ}{h:EC}{mg:Str->Dc}{fa:Eh}{t1 t2 t3 t4 t5 t6 t7:Tok}{aL aC aN aT aA b1 b2 b3 fI:Eh}(X:K.In h)(G:h.Ns Er mg)(hfa:mg "law"=some (.ref fa))
  (z_len:Ey K Er "len"=some none)
  (z_all:Ey K Er "all"=some none)
  (z_ord:Ey K Er "ord"=some none)
  (DD:Ey K Er "isinstance"=some none)
  (z_str:Ey K Er "str"=some none)
  (z_set:Ey K Er "set"=some none)
  (DV:Ey K Er "sorted"=some none)
  (D2:Ey K Er "tuple"=some none)
  (Ea:Ey K Er "list"=some none)
  (z_max:Ey K Er "max"=some none)
  (z_int:Ey K Er "int"=some none)
  (Ec:Ey K Er "bool"=some none)
  (D3:Ey K Er "range"=some none)
  (Eb:Ey K Er "dict"=some none)
  (z_any:Ey K Er "any"=some none)
  (Dz:Ey K Er "LONGEST_LINE"=some (some (.int 20 t1)))
  (Dv:Ey K Er "LONGEST_LABEL"=some (some (.int 8 t2)))
  (Dy:Ey K Er "MOST_PARENTS"=some (some (.int 2 t3)))
  (DQ:Ey K Er "PERCENT"=some (some (.int 37 t4)))
  (DB:Ey K Er "MOST_LABELS"=some (some (.int 4 t7)))
  (Dx:Ey K Er "DIGEST_FACTOR"=some (some (.int 31 t5)))
  (DA:Ey K Er "DIGEST_BOUND"=some (some (.int 97 t6)))
  (DS:Ey K Er "LETTERS"=some (some (.ref aL)))
  (DW:Ey K Er "NoName"=some (some (.ref aN)))
  (DR:Ey K Er "NoThing"=some (some (.ref aT)))
  (DC:Ey K Er "AnnalsError"=some (some (.ref aA)))
  (DG:Ey K Er "NoVersion"=some (some (.ref b1)))
  (DK:Ey K Er "names_in"=some (some (.ref fI)))
  (DF:Ey K Er "ValueError"=some none)
  (DJ:Ey K Er "reversed"=some none)
  (DL:Ey K Er "BadFiles"=some (some (.ref b2)))
  (D5:Ey K Er "NoFit"=some (some (.ref b3)))
  (D4:Ey K Er "Shelf"=some (some (.ref aC)))
  (DT:E3 K aN Uu "ValueError.__new__"=true)
  (DM:E3 K aT Uu "ValueError.__new__"=true)
  (Ed:PySem.W.exmOne K (.ref aN) (.ref aA)=some true)
  (s_ekN:PySem.W.ExcKit K aN)
  (s_kN0:EB K (.ref aN) (.ref aT)=some false)
  (s_kN1:EB K (.ref aN) (.ref b1)=some false)
  (s_kN2:EB K (.ref aN) (.ref b3)=some false)
  (s_kN3:EB K (.ref aN) (.ref b2)=some false)
  (s_kN4:EB K (.ref aN) (.ref aN)=some true)
  (s_kNV:EB K (.ref aN) (.type "ValueError")=some true)
  (DH:E3 K b2 Uu "ValueError.__new__"=true)
  (DX:E3 K b3 Uu "ValueError.__new__"=true)
  (s_kd:KD l.prog w K aL xK)
  (pg_aC:LK K aC L7=true)
  (hd_aC:LZ K aC=true)
  (po_aC:PySem.W.plainOver K aC=true)
  (sa_aC:EK K (.ref aC) "__setattr__"=some (some (.builtin "object.__setattr__")))
  (mk_aC:Mb K aC=true)
  (kc_aC:ET K (.ref aC)=true)
  (s_n1:EK K (.ref aC) "thing_by_name"=some none)
  (s_n2:EK K (.ref aC) "name_by_thing"=some none)
  (s_n3:EK K (.ref aC) "next_numbers"=some none)
  (s_kit:∀a∈kinds,∀b∈kinds,EB K (.type a) (.type b)=some (a==b||(a=="bool"&&b=="int")))
  {f0 f1 f2 f3 f4 f5 f6 f7 f8 f9 f10 f11 f12 f13 f14 f15 f16 f17 f18 f19 f20 f21 f22 f23 f24 f25 f26 f27 f28 f29 f30 f31 f32 f33 f34 f35 f36 f37 f38 f39 f40 f41 f42 f43 f44 f45 f46:Eh}
  (a0:GF K "is_label" Ad.st f0)
  (a1:GF K "is_path" AE.st f1)
  (a2:GF K "is_sign" Aa.st f2)
  (a3:GF K "is_line" Ab.st f3)
  (a4:GF K "is_lines" Ac.st f4)
  (a5:GF K "is_file" AG.st f5)
  (a6:GF K "folders_of" AF.st f6)
  (a7:GF K "need_files" AJ.st f7)
  (a8:GF K "is_leaf" Ah.st f8)
  (a9:GF K "is_row" Ae.st f9)
  (a10:GF K "is_rows" Ag.st f10)
  (a11:GF K "is_tree" Ai.st f11)
  (a12:GF K "is_parents" Af.st f12)
  (a13:GF K "is_note" Aj.st f13)
  (a14:GF K "is_thing" Ak.st f14)
  (a15:GF K "need_thing" Al.st f15)
  (a16:GF K "is_key" Aw.st f16)
  (a17:MF K aC "has" "Shelf.has" Ax.st f17)
  (a18:GF K "need_name" Ay.st f18)
  (a19:MF K aC "thing" "Shelf.thing" Az.st f19)
  (a20:MF K aC "need_form" "Shelf.need_form" AA.st f20)
  (a21:MF K aC "need_names" "Shelf.need_names" AB.st f21)
  (a22:GF K "letter_of" Am.st f22)
  (a23:GF K "tree_parts" Ao.st f23)
  (a24:GF K "parts_of" Ap.st f24)
  (a25:GF K "counted" Aq.st f25)
  (a26:GF K "spelled" Ar.st f26)
  (a27:GF K "digest" As.st f27)
  (a28:MF K aC "take" "Shelf.take" Av.st f28)
  (a29:MF K aC "put" "Shelf.put" AC.st f29)
  (a30:GF K "put_rows" AH.st f30)
  (a31:GF K "put_files" AI.st f31)
  (a32:GF K "keep_files" AK.st f32)
  (a33:GF K "_law_line_by" AR.st f33)
  (a34:GF K "_law_lines_near" AS.st f34)
  (a35:GF K "_law_leaf_by" AT.st f35)
  (a36:GF K "_law_filled" AW.st f36)
  (a37:GF K "_law_cell_at" AQ.st f37)
  (a38:MF K aC "names" "Shelf.names" Au.st f38)
  (a39:MF K aC "__init__" "Shelf.__init__" AD.st f39)
  (a40:GF K "_law_closed" AU.st f40)
  (a41:GF K "names_in" AL.st f41)
  (a42:GF K "add_found" AM.st f42)
  (a43:GF K "in_order" AN.st f43)
  (a44:GF K "reached" AO.st f44)
  (a45:GF K "_law_told" AV.st f45)
  (a46:GF K "law" AX.st f46) :
  ∃fd:Eu,(∀(s:Ej) (v:Eg),BindsTo s fd ⟨[v],[]⟩ [("_law_script",v)])/\∀base:EC,K.In base->base.Ns Er mg->FnOk l.prog w K mg base A9 15 fa fd ["_law_script"] (HQ K):=by
 have T:Txt l.prog w K mg t1 t2 t3 t4 t5 t6 t7 aL aC aN aT aA b1 b2 b3 fI:=⟨ZH X G z_len,ZH X G z_all,ZH X G z_ord,ZH X G DD,ZH X G z_str,ZH X G z_set,ZH X G DV,ZH X G D2,ZH X G Ea,ZH X G z_max,ZH X G z_int,ZH X G Ec,ZH X G D3,ZH X G Eb,ZH X G z_any,ZM X G Dz,ZM X G Dv,ZM X G Dy,ZM X G DQ,ZM X G DB,ZM X G Dx,ZM X G DA,ZM X G DS,ZM X G DW,ZM X G DR,ZM X G DC,ZM X G DG,ZM X G DK,ZH X G DF,ZH X G DJ,ZM X G DL,ZM X G D5,ZM X G D4,DT,DM,Ed,s_ekN,s_kN0,s_kN1,s_kN2,s_kN3,s_kN4,s_kNV,DH,DX,s_kd,⟨pg_aC,hd_aC,po_aC,sa_aC⟩,s_n1,s_n2,s_n3,s_kit⟩;obtain⟨hL,oc,od,an,sl,kV,dc,pm,cd,ct,lL,cL,kL⟩:=a46;have e:=hfa.symm.trans (ZM X G hL);cases e;refine⟨E1 "law" "law" (xZ AX.st) (xL AX.st) (zH AX.st) .none kV dc pm an cd ct,fun s v=>.of_eq rfl,fun b _ _=>?_⟩;have C0:=a0.cal X G b fun _ F _ _=>Ad.ok F T;have C1:=a1.cal X G b fun _ F _ _=>AE.ok F T C0;have C2:=a2.cal X G b fun _ F _ _=>Aa.ok F T;have C3:=a3.cal X G b fun _ F _ _=>Ab.ok F T C2;have C4:=a4.cal X G b fun _ F _ _=>Ac.ok F T C3;have C5:=a5.cal X G b fun _ F _ _=>AG.ok F T C1 C4;have C6:=a6.cal X G b fun _ F _ _=>AF.ok F T;have C7:=a7.calX X G b fun _ F _ _=>AJ.ok F T C5 C6;have C8:=a8.cal X G b fun _ F _ _=>Ah.ok F T C4;have C9:=a9.cal X G b fun _ F _ _=>Ae.ok F T C0;have C10:=a10.cal X G b fun _ F _ _=>Ag.ok F T C9;have C11:=a11.cal X G b fun _ F _ _=>Ai.ok F T C10;have C12:=a12.cal X G b fun _ F _ _=>Af.ok F T;have C13:=a13.cal X G b fun _ F _ _=>Aj.ok F T C12 C3;have C14:=a14.cal X G b fun _ F _ _=>Ak.ok F T C8 C11 C13;have C15:=a15.calX X G b fun _ F _ _=>Al.ok F T C14;have C16:=a16.cal X G b fun _ F _ _=>Aw.ok F T;have C17:=a17.met (mg:=mg) b fun _ F=>Ax.ok F T C16;have C18:=a18.calX X G b fun _ F _ _=>Ay.ok F T C17;have C19:=a19.metX (mg:=mg) b fun _ F=>Az.ok F T C18;have C20:=a20.metX (mg:=mg) b fun _ F=>AA.ok F T C19;have C21:=a21.metX (mg:=mg) b fun _ F=>AB.ok F T C20;have C22:=a22.cal X G b fun _ F _ _=>Am.ok F T;have C23:=a23.cal X G b fun _ F _ _=>Ao.ok F T;have C24:=a24.cal X G b fun _ F _ _=>Ap.ok F T C23;have C25:=a25.cal X G b fun _ F _ _=>Aq.ok F T;have C26:=a26.cal X G b fun _ F _ _=>Ar.ok F T C22 C24 C25;have C27:=a27.cal X G b fun _ F _ _=>As.ok F T C26;have C28:=a28.met (mg:=mg) b fun _ F=>Av.ok F T;have C29:=a29.metX (mg:=mg) b fun _ F=>AC.ok F T C15 C21 C22 C27 C28;have C30:=a30.cal X G b fun _ F _ _=>AH.ok F T C29;have C31:=a31.cal X G b fun _ F m h=>AI.ok F T C29 C30 m h;have C32:=a32.calX X G b fun _ F _ _=>AK.ok F T C7 C31;have C33:=a33.cal X G b fun _ F _ _=>AR.ok F T;have C34:=a34.cal X G b fun _ F _ _=>AS.ok F T C33;have C35:=a35.cal X G b fun _ F _ _=>AT.ok F T C34;have C36:=a36.cal X G b fun _ F _ _=>AW.ok F T C32 C29 C35;have C37:=a37.cal X G b fun _ F _ _=>AQ.ok F T;have C38:=a38.met (mg:=mg) b fun _ F=>Au.ok F T;have C39:=a39.mak b mk_aC kc_aC T.Shelf fun _ F=>AD.ok F T C38 C28 C19;have C40:=a40.cal X G b fun _ F _ _=>AU.ok F T C38 C19;have C41:=a41.cal X G b fun _ F _ _=>AL.ok F T;have C42:=a42.cal X G b fun _ F _ _=>AM.ok F T C19 C41;have C43:=a43.cal X G b fun _ F _ _=>AN.ok F T C38;have C44:=a44.calX X G b fun _ F _ _=>AO.ok F T C18 C42 C43;have C45:=a45.cal X G b fun _ F _ _=>AV.ok F T C44;exact AX.ok (Uy (st:=AX.st) lL cL kL) T C36 C37 C39 C38 C29 C40 C45
theorem walk {l:PySem.W.OpenLaw}{q:Ei}{loose:Da}{XP:(Str->Dc)->EC->Prop}{YP:Eo->EC->Prop}{d:DefRec}{K:Params->AZ}(hn:l.most=some 63)(hdf:d.params.defaults=[])
  (hY:∀(w:Eo) (h:EC),YP w h->(K w.params).In h)
  (F:∀(w:Eo) (mg:Str->Dc) (fa:Eh) (h:EC),(K w.params).In h->h.Ns Er mg->mg d.name=some (.ref fa) -> ∃fd:Eu,(∀(s:Ej) (u:Eg),BindsTo s fd ⟨[u],[]⟩ [("_law_script",u)])/\∀base:EC,(K w.params).In base->base.Ns Er mg->FnOk l.prog w (K w.params) mg base A9 15 fa fd ["_law_script"] (HQ (K w.params))) :
  PySem.W.WalkO q loose XP YP l.row.toRowW d [] (fun f vs=>PySem.call f vs) :=
 L2.walk_of (n:=63) (k:=15) (x:="_law_script") (CX:=fun _=>A9) (sp:=fun w=>HQ (K w.params)) hn (by decide) hdf ⟨rfl,by decide,by decide⟩ hY F (fun _ _ a ns hl _ hS=>⟨a,ns,rfl,hS,hl,fun _=>rfl⟩) fun _ _ _ _ _ z=>z
end An28
open PySem PySem.W PyProof.Rows
set_option maxRecDepth 100000 in
set_option maxHeartbeats 0 in
theorem PySem.Challenge.cw_annals_k28_reached_holds : PySem.Challenge.rw_annals_k28_reached.Holds := by
 w_on;o_law;k_head;(case hw=>w_witness2)
 k_fill
 refine An28.walk (l:=PySem.Challenge.rw_annals_k28_reached) rfl rfl (fun w h Y=>PySem.W.kIn_of Y) ?F
 case F =>
  intro w mg fa h KX G hmg;refine' An28.all_mk KX G hmg ?z_len ?z_all ?z_ord ?DD ?z_str ?z_set ?DV ?D2 ?Ea ?z_max ?z_int ?Ec ?D3 ?Eb ?z_any ?Dz ?Dv ?Dy ?DQ ?DB ?Dx ?DA ?DS ?DW ?DR ?DC ?DG ?DK ?DF ?DJ ?DL ?D5 ?D4 ?DT ?DM ?Ed ?s_ekN ?s_kN0 ?s_kN1 ?s_kN2 ?s_kN3 ?s_kN4 ?s_kNV ?DH ?DX ?s_kd ?pg_aC ?hd_aC ?po_aC ?sa_aC ?mk_aC ?kc_aC ?s_n1 ?s_n2 ?s_n3 ?s_kit ?a0 ?a1 ?a2 ?a3 ?a4 ?a5 ?a6 ?a7 ?a8 ?a9 ?a10 ?a11 ?a12 ?a13 ?a14 ?a15 ?a16 ?a17 ?a18 ?a19 ?a20 ?a21 ?a22 ?a23 ?a24 ?a25 ?a26 ?a27 ?a28 ?a29 ?a30 ?a31 ?a32 ?a33 ?a34 ?a35 ?a36 ?a37 ?a38 ?a39 ?a40 ?a41 ?a42 ?a43 ?a44 ?a45 ?a46
  case z_len|z_all|z_ord|DD|z_str|z_set|DV|D2|Ea|z_max|z_int|Ec|D3|Eb|z_any|Dz|Dv|Dy|DQ|DB|Dx|DA|DS|DW|DR|DC|DG|DK|DF|DJ|DL|D5|D4=>k_is
  case a0|a1|a2|a3|a4|a5|a6|a7|a8|a9|a10|a11|a12|a13|a14|a15|a16=>(apply An28.GF.mk;k_is;k_is;k_is;k_is)
  case a17=>(apply An28.MF.mk;k_is;k_is;k_is;k_is;k_is)
  case a18=>(apply An28.GF.mk;k_is;k_is;k_is;k_is)
  case a19|a20|a21=>(apply An28.MF.mk;k_is;k_is;k_is;k_is;k_is)
  case a22|a23|a24|a25|a26|a27=>(apply An28.GF.mk;k_is;k_is;k_is;k_is)
  case a28|a29=>(apply An28.MF.mk;k_is;k_is;k_is;k_is;k_is)
  case a30|a31|a32|a33|a34|a35|a36|a37=>(apply An28.GF.mk;k_is;k_is;k_is;k_is)
  case a38|a39=>(apply An28.MF.mk;k_is;k_is;k_is;k_is;k_is)
  case a40|a41|a42|a43|a44|a45|a46=>(apply An28.GF.mk;k_is;k_is;k_is;k_is)
  case DT|DM|Ed=>first|k_is|kernel_rfl|rfl|(with_unfolding_all rfl)|decide +kernel +revert
  case s_ekN=>(constructor<;>first|k_is|kernel_rfl|rfl|(with_unfolding_all rfl)|decide +kernel +revert)
  case s_kN0|s_kN1|s_kN2|s_kN3|s_kN4|s_kNV|DH|DX=>first|k_is|kernel_rfl|rfl|(with_unfolding_all rfl)|decide +kernel +revert
  case s_kd=>exact An28.kd_of (by k_is)
  case pg_aC|hd_aC|po_aC|sa_aC|mk_aC|kc_aC|s_n1|s_n2|s_n3=>k_is
  case s_kit=>(intro a ha b hb;simp only[An28.kinds,Q7,Z3,Js]at ha hb;rcases ha with rfl|rfl|rfl|rfl|rfl|rfl|rfl<;>rcases hb with rfl|rfl|rfl|rfl|rfl|rfl|rfl<;>rfl)
