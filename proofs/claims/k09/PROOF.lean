import PyProof.Rows.All
import Wide.All
import OpenK.AllK
import PySem.Challenge.RW_annals_k09_whole_trees
set_option Elab.async false
set_option linter.all false
set_option compiler.extract_closed false
set_option maxRecDepth 100000
set_option maxHeartbeats 4000000
abbrev Da:=List PySem.Str
abbrev Db:=List PySem.Value
abbrev Dc:=Option PySem.Value
abbrev Dd:=List PySem.Addr
abbrev De:=List (PySem.Addr×PySem.Obj)
abbrev Df:=List PySem.PyData
abbrev Dg:=List (PySem.Str×PySem.Str)
abbrev Dh:=PySem.Shared->Prop
abbrev Cd:=PySem.W.Frag
open List renaming length_map->Q7,mem_singleton->Q8,mem_cons_of_mem->Za,mem_map->Zb,mem_cons_self->Zc,length_cons->Zh,mem_cons->Zi,length_append->Zj,map_append->Zl,mem_of_getElem?->Zm,getElem?_eq_getElem->Zn,getElem?_map->Zp,append_nil->Zs,mem_append->Zt,getElem?_eq_some_iff->Zu,size_toArray->Zw,map_map->ZB,map_cons->ZC,length_take->ZD,nodup_iff_pairwise_ne->ZF,all_eq_true->ZI,take_length->ZJ,cons_ne_nil->ZL,mem_iff_getElem->ZN,mem_append_right->ZP,getElem_map->ZQ,getElem?_append_left->ZR,map_congr_left->ZS,getElem?_append_right->ZU,take_append_drop->ZW,any_eq_true->ZY,append_assoc->Z0,mem_flatMap->Z1,nodup_cons->Z8,pairwise_map->Z9,getElem?_eq_none->Ya,not_mem_nil->Yd,nodup_append->Ye,length_nil->Yj,flatMap_cons->Ym,length_range->Yn,mem_append_left->Yo,eq_nil_of_length_eq_zero->Yq,cons_lt_cons_iff->Yw,take_add_one->Yx,nodup_nil->Yy,perm_ext_iff_of_nodup->Yz,getD_eq_getElem?_getD->YA,getElem_mem->YB,mem_iff_getElem?->YE,length_drop->YH,foldl_append->YL,filterMap_cons->YQ,find?_cons->YS,length_singleton->YV,getElem_inj->YX,mem_of_mem_take->Y1,flatMap_def->Y9,mem_range->Jb,getElem?_zip_eq_some->Jg,pairwise_iff_getElem->Jh,sum_cons->Jl,eq_of_mem_replicate->Jn,eq_nil_iff_forall_not_mem->Jw,mem_filterMap->Jx,take_of_length_le->JD,foldl_cons->JF,length_filter_le->JG,eq_replicate_iff->JJ,not_lt->JO,drop_eq_getElem_cons->JT,length_pos_iff->JV,flatMap_append->JW,map_take->J0,of_mem_zip->J3,pairwise_cons->J8,map_replicate->J9,pairwise_singleton->Vc,append_cancel_left->Vd,getElem?_set_self->Ve,map_nil->Vh,lt_irrefl->Vl,append_eq_nil_iff->Vm,getElem?_toArray->Vs,flatMap_nil->VA,map_fst_zip->VB,map_id->VE,mem_filter->VF,nil_append->VH,getElem?_range->VN,any_eq_false->VT,filter_cons->V3,flatMap_map->V4,le_antisymm->V7,length_set->Ue,take_left'->Uk,sum_append->Ul
open PySem renaming wpAny_bind->Q9,wpAny_pure->Zg,boot_len->ZO,wpAny_newObj_type->Z4,wpAny_call_entry->Yc,wpAny_holding->Yg,wpAny_mono->Yk,sizeLine_eq->Yp,wpAny_callSpecial?_slot->YI,mem_of_lookup->YR,codeAny_builtin->YT,wpAny_setField->Y0,wpAny_truthy_bool->Y2,codeAny_mono->Y8,wpAny_Call_Name_kw->Jd,wpAny_setState_of->Jj,wpAny_setEntries_of->Jp,wpAny_askSetting->Jt,isSubtype_type->Ju,tupleKind_room_in1->JA,call_meetsIn->JB,wpAny_of_eq->JM,wpAny_typeOf->JR,wpAny_isInstance->JS,plainId_quiet->JZ,wpAny_passesOwn->J2,wpAny_specialOf->J4,typeIs_str->J5,wpAny_rule->J7,wpAny_field->Vb,wpAny_pyIter_list->Vf,wpAny_Call_method->Vi,builtinLookup_eq_fast->Vr,call_meets->Vw,wpAny_execs_nil->VG,wpAny_pyIter_tuple->VO,wpAny_tupleItemsOf->VP,wpAny_fieldsOf->VS,wpAny_attempt->VZ,wpAny_newList->V0,wpAny_execs_cons->V2,wpAny_forIn_list->V5,wpAny_call->V9,codeAny_of_tree->Ug,typeLookup_type->Uh,wpAny_ite_split->Ui
open PySem.Heap renaming get?_push_of_some->Zd,get?_push_size->Zo,lt_size->Zq,get?_update_self->Z6,get?_update_other->Yr,size_push->Ys,get?_none_of_le->VC
open Nat renaming le_refl->Ze,ne_of_lt->Zz,lt_of_lt_of_le->ZG,zero_le->ZT,le_trans->Z5,lt_irrefl->Yu,le_of_lt->YF,lt_succ_of_lt->YK,eq_zero_or_pos->Je,le_succ->Ji,not_succ_le_zero->Jk,lt_succ_self->Jq,ne_of_gt->JQ,lt_of_le_of_lt->J6,le_of_eq->Vg,lt_trichotomy->Vj,not_lt_zero->VI,le_succ_of_le->VW,succ_le_succ->V8,lt_trans->Ua,lt_or_ge->Ub,succ_pos->Ud
abbrev Zf:=@decide_eq_true
abbrev Zr:=@decide_eq_false
abbrev Zv:=@decide_eq_true_iff
abbrev Zx:=@of_decide_eq_true
abbrev Zy:=@if_pos
abbrev ZA:=@if_neg
abbrev ZM:=@decide_eq_true_eq
abbrev Yv:=@beq_eq_false_iff_ne
abbrev Y4:=@decide_eq_false_iff_not
abbrev Jf:=@of_decide_eq_false
abbrev Jy:=@beq_iff_eq
abbrev JY:=@if_false
abbrev Vk:=@iff_of_false
abbrev Vy:=@decide_eq_decide
abbrev VM:=@ne_true_of_eq_false
abbrev VR:=@or_false
abbrev Uc:=@getElem?_pos
open Bool renaming and_eq_true->Zk,false_ne_true->ZK,eq_iff_iff->ZZ,eq_false_iff->YD,false_eq_true->YG,or_eq_false_iff->YJ,not_eq_true'->Y3,false_and->Jc,and_false->JN,false_or->VX,not_true->VY,true_and->V1,or_eq_true->Uf
open PyProof.Rows renaming boot_isinstance->ZE,boot_str->Z7,boot_all->Yi,boot_tuple->Yl,boot_list->YM,boot_dict->YN,slot_tuple_getitem->YU,toString_length_le->Jo,callWith_type1->JK,boot_sorted->J1,callWith_builtin1->Vu,int_text_len_1921->Vz,slice_closes_toL->VD,entry_list_sort->Uj
open Array renaming length_toList->ZH,getD_eq_getD_getElem?->ZV,getElem?_toList->Yh,getElem?_eq_getElem->YC,getElem?_eq_some_iff->Ja,getElem?_eq_none->JE,getElem_toList->JP
open PySem.W renaming mg_none_of->ZX,mg_of->Z3,kia_one->Yb,hideAll_get->Y6,callWith_K->Jz,hideAll_none->JL,methodCall_KW->Vp,plainGet_of->VL,kitx_list->VU,kitx_dict->VV,kdl_dict->V6
open Option renaming map_eq_some_iff->Z2,map_some->Yt,isSome_iff_exists->JX,getD_some->Vx
open PySem.F renaming plainAttrs_str->Yf,slot_dict_get->YW,slot_list_append->YY,type_list_append->YZ,plainAttrs_list->Y5,plainAttrs_dict->Jr,entry_dict_get->JC,slot_str_join->JH,type_str_join->JI,slot_str_split->Vn,type_str_split->Vo
open PySem.Value renaming isStrOf_shape->YO
open PyProof.Rows.F renaming plain_set_update_loop->Y7,entry_set_update_loop->JU
open List.Perm renaming eq_of_pairwise->Jm
open Int renaming eq_ofNat_of_zero_le->Js,emod_lt_of_pos->Va,emod_nonneg->VJ,natAbs_natCast->VQ
open PySem.W.KIN renaming signs_num->Vq
open Classical renaming choose_spec->Vt
open LawfulBEq renaming eq_of_beq->Vv
open PySem renaming Value->Eg,Addr->Eh,Program->Ei,Shared->Ej,wpAny->Ek,FuncData->El,World->Em,PyData->Eo,model->Es,mainGlobals->Et,starEach->Ev,Heap->Ez,Around->EC,Expr->EF,Stmt->EI,compareOp->EK,sysModules->EM,rawInt->EW,eval->E1,cLine->E5,backTo->E8,Paired->Lj,SetTable->Lr,attributeBase->Lu,keywordEach->LD,ReadsAll->LF,bootBuiltins->LL,Scope->LP,NameKind->LR,letOwnedTupleGo->LS,codeAny->LU,entryOfKey->LW,sliceBounds->LY,DictEntry->LZ,pickOrder->L0,pyNext->L1,holding->L8,valueAt->L9,backToKw->Mc,compEnvC->Md,getItem->Mi,tupleKind->Ml,swapsWith->Mm,getMethod->Mn,scanBound->Mp,assignEach->Mq,binaryOp->Mr,IsPart->Mu
open PySem.PyData renaming strOk->Ep,canLayAll0->Ew,depthAll->ED,eqv->ER,eqvAll->EU,str->Le,keyHash->LK
open Sum renaming inr->Er
open PySem.Value renaming ref->Eu,none->EE,type->EO,isStrOf->E4,bool->LV,str->LX,isInt->Mb,int->Mj
open PySem.W renaming nsIn->Ey,findIn->EH,keepIn->ES,excIn->EZ,emptyDict->E3,fnOf->E6,exmOne->Li,instObj->Lk,kitOne->Ly,codeIn->Lz,plainGet->LM,hasDictIn->L3,makesIn->Me,isFn->Mh
open Ne renaming symm->EA
open False renaming elim->EB
open List renaming range->EG,replicate->EL,toArray->La,lookup->LC
open Or renaming inl->EJ
open PySem.Builtin.Tuple renaming tupleHashOf->EN,tupleExact->Lv,tupleItemsOf->LI
open PySem.Str renaming ofString->EQ,empty->L7,join->Ms
open PySem.PassesOwn renaming never->ET,leaving->Ls
open PySem.Heap.SameBut renaming update->EV
open PySem.Builtin.Str renaming occurrences->EX,strSub->Lf,partsBetween->Lw
open PySem.Obj renaming mapSeq->EY,mapFields->LG,putSet->Mt
open PySem.Calls renaming callWith_builtin->E2,spliced_cons->Ld,evalArgs_plain->Lh,spliced_nil->Lp,call_function_entry->LO
open PySem.Around renaming under_plainId->E7
open PySem.SetTable renaming below->E9,grown->LA
open PySem.StrLaws renaming glued_eq_join->Lb,subAt_one->L4
open True renaming intro->Lc
open PyProof.Rows renaming seqObj->Lg,AllBare->Mg
open PySem.Heap renaming SameBut->Ll
open PySem.SeqAt renaming shaped->Lm,eqBoolOverData->LJ
open Prod renaming ext->Ln
open PySem.Builtin.Slice renaming slicePlaces->Lo,sliceAdjust->LN
open PySem.Txt renaming join->Lq,split->LB,slice->Mo
open Pure renaming pure->Lx
open PySem.Builtin.List renaming listExtendWith->LH
open ToString renaming toString->LQ
open PySem.F renaming slot_dict_items->L5
open Classical renaming em->L6
open PySem.Shared renaming TypeIs->Ma
open ForInStep renaming yield->Mf
namespace L2
open PySem
section
variable {M:Model}{A:EC}{E:Eg->Dh}{s:Ej}{base:Ez}{q:Array Eg->Prop}{env:Env}{outer:List Env}{L x:Eh}
def GX (q:Array Eg->Prop):Prop:=∀(vs:Array Eg) (v:Eg),q vs->q (vs.setIfInBounds 1 v)
def NG (q:Array Eg->Prop)(h base:Ez)(x:Eh)(c fl:Eg):Prop :=
 ∃ob vs T ot ts,h.get? x=some ob/\(ob.cls=c/\q vs)/\ob.data=.fields vs/\vs[1]?=some (.ref T)/\base.get? T=none/\T≠x/\h.get? T=some ot/\ot.data=.fields ts/\ts[3]?=some fl
theorem Rc {h:Ez}{y:Eh}{oy:Obj}{vs:Array Eg}(hy:h.get? y=some oy)(hd:oy.data=.fields vs):∀b o,h.get? b=some o->(∀ws,o.data≠.fields ws)->b≠y:=fun b o hb nf z=>by
 subst z;rw[hy]at hb;cases hb;exact nf vs hd
theorem IU (hq:GX q){ob:Obj}{vs:Array Eg}{head:Eg}{nx:Bool}{Q:Unit->Dh}(hA:A.frames=some (env::outer))(fr:s.heap.FunFrames base (env::outer))(hL:env.frame=some L)
  (hx:s.heap.get? x=some ob) (kb:base.StaysIn s.heap) (nx0:base.get? x=none) (hd:ob.data=.fields vs) (sz:1<vs.size) (hv:q vs)
  (k:∀h',base.StaysIn h'->h'.FunFrames base (env::outer)->NG q h' base x ob.cls (EW L)->s.heap.UpToSlots h'->Q () { s with heap:=h' }) :
  Ek M A (do let fo ←frameOf env;let pl ←entryPlaceOf L nx;let en ←EntryCells.newEntry head fo .none (EW L) .none pl;setField (.ref x) 1 en) Q E s:=by
 have nf:x∉(env::outer).filterMap (·.frame):=fun z=>by
  obtain⟨_,o,ho,hn⟩:=fr.mem z;rw[hx]at ho;cases ho;exact hn vs hd
 refine Q9 (wpAny_frameOf_fun hA fr hL fun g hg=>Q9 (wpAny_entryPlaceOf fun pl hpl=>?_));unfold EntryCells.newEntry;unfold newFields;refine Q9 (Z4 (T:="traceback") ?_ (hpl.sizeOk5 _ _ _ _ _));have gx:g.get? x=some ob:=by rw[←hx];exact hg.2.1 x nf
 have gb:base.StaysIn g:=fun b o e=>by
  rw[hg.2.1 b fun z=>by rw[(fr.mem z).1]at e;cases e];exact kb b o e
 obtain⟨row,er⟩:∃row:Obj,row={ cls:=.type "traceback",data:=.fields ([head,.ref L,.none,EW L,.none]++(if pl.isEmpty then EL 6 EE else pl)).toArray }:=⟨_,rfl⟩;have px:=Zd (h:=g) row gx;have hsz:g.objs.size≠x:=JQ (Zq gx);rw[←er];have keep:∀b o,b≠x->g.get? b=some o->((g.push row).update x (LG (·.setIfInBounds 1 (Eu g.objs.size)))).get? b=some o:=fun b o nb e=>by
  rw[Yr _ _ (EA nb)];exact Zd _ e
 refine Y0 px hd sz (k _ ?_ ?_ ?_ ?_)
 ·intro b o e;exact keep b o (fun z=>by rw[z,nx0]at e;cases e) (gb b o e)
 ·refine fr.of_keeps fun b o e hn=>?_;obtain⟨sl,e2⟩:=hg.2.2 b o e;exact⟨_,keep b _ (Rc hx hd b o e hn) e2,rfl⟩
 ·have d3:=Obj.data_mapFields hd (·.setIfInBounds 1 (Eu g.objs.size));refine⟨_,_,g.objs.size,row,_,Z6 _ px (Obj.isFreed_of_fields d3),⟨Obj.cls_mapFields _ _,hq _ _ hv⟩,d3,by simp[sz],gb.fresh,hsz,?_,by rw[er],?_⟩
  ·rw[Yr _ _ (EA hsz)];exact Zo g (by rw[er];rfl)
  ·rcases hpl with rfl|⟨_,_,_,_,_,_,_,rfl⟩<;>simp
 ·intro b o e hn;obtain⟨sl,e2⟩:=hg.2.2 b o e;exact⟨sl,keep b _ (Rc hx hd b o e hn) e2⟩
theorem HI (hq:GX q){ob:Obj}{vs:Array Eg}{Q:Unit->Dh}(hA:A.frames=some (env::outer))(fr:s.heap.FunFrames base (env::outer))(hL:env.frame=some L)
  (hx:s.heap.get? x=some ob) (kb:base.StaysIn s.heap) (nx0:base.get? x=none) (hd:ob.data=.fields vs) (h1:vs[1]?=some .none) (hv:q vs)
  (k:∀h',base.StaysIn h'->h'.FunFrames base (env::outer)->NG q h' base x ob.cls (EW L)->s.heap.UpToSlots h'->Q () { s with heap:=h' }):Ek M A (noteFrame (.ref x) env) Q E s:=by
 unfold noteFrame;simp only[hL];refine Q9 (Vb hx hd h1 ?_);rw[ZA (show¬(EE !=EE)=true by decide)];exact IU hq hA fr hL hx kb nx0 hd (Ja.mp h1).1 hv k
theorem KR (hq:GX q){c:Eg}{Q:Unit->Dh}(hA:A.frames=some (env::outer))(fr:s.heap.FunFrames base (env::outer))(hL:env.frame=some L)(t:NG q s.heap base x c .none)(kb:base.StaysIn s.heap)(nx0:base.get? x=none)
  (k:∀h',base.StaysIn h'->h'.FunFrames base (env::outer)->NG q h' base x c (EW L)->s.heap.UpToSlots h'->Q () { s with heap:=h' }):Ek M A (noteFrame (.ref x) env) Q E s:=by
 obtain⟨ob,vs,T,ot,ts,hx,⟨hc,hv⟩,hd,h1,nT,Tx,hT,dT,h3⟩:=t;subst hc;unfold noteFrame;simp only[hL];refine Q9 (Vb hx hd h1 ?_);rw[Zy (show(Eu T !=EE)=true by simp)];refine Q9 (Vb hT dT h3 ?_);rw[ZA (show¬(EE==EW L)=true by simp[EW])];have oth:∀b,b≠T->(s.heap.update T (LG (·.setIfInBounds 3 EE))).get? b=s.heap.get? b:=fun b nb=>Yr _ _ (EA nb);have nr:=Rc hT dT;refine Q9 (Y0 hT dT (Ja.mp h3).1 ?_);refine IU hq hA (fr.of_keeps fun b o e hn=>⟨o,by rw[oth b (nr b o e hn)];exact e,rfl⟩) hL (by rwa[oth x (EA Tx)]) (fun b o e=>?_) nx0 hd (Ja.mp h1).1 hv fun h' y1 y2 y3 y4=>k h' y1 y2 y3 fun b o e hn=>?_
 ·rw[oth b fun z=>by rw[z,nT]at e;cases e];exact kb b o e
 ·exact y4 b o (by rwa[oth b (nr b o e hn)]) hn
theorem x6 {l:List Env}{Q:Unit->Dh}(kb:base.StaysIn s.heap)(fr:s.heap.FunFrames base l)(t:NG q s.heap base x c fl)
  (k:∀h',base.StaysIn h'->h'.FunFrames base l->NG q h' base x c .none->s.heap.UpToSlots h'->Q () { s with heap:=h' }):Ek M A (setFlight (.ref x) none) Q E s:=by
 obtain⟨ob,vs,T,ot,ts,hx,hv,hd,h1,nT,Tx,hT,dT,h3⟩:=t;have s3:3<ts.size:=(Ja.mp h3).1;have nr:=Rc hT dT;have oth:∀b,b≠T->(s.heap.update T (LG (·.setIfInBounds 3 ((none:Option Eh).elim EE fun f=>EW f)))).get? b=s.heap.get? b:=fun b nb=>Yr _ _ (EA nb);unfold setFlight;refine Q9 (Vb hx hd h1 ?_);rw[Zy (show(Eu T !=EE)=true by simp)];refine Y0 hT dT s3 (k _ (fun b o e=>?_) (fr.of_keeps fun b o e hn=>⟨o,by rw[oth b (nr b o e hn)];exact e,rfl⟩) ?_ fun b o e hn=>⟨o.slots,by rw[oth b (nr b o e hn)];exact e⟩)
 ·rw[oth b fun z=>by rw[z,nT]at e;cases e];exact kb b o e
 ·refine⟨ob,vs,T,_,_,by rw[oth x (EA Tx)];exact hx,hv,hd,h1,nT,Tx,Z6 _ hT (Obj.isFreed_of_fields (Obj.data_mapFields dT _)),Obj.data_mapFields dT _,?_⟩;simp[s3]
theorem Fd (hq:GX q){ob:Obj}{vs:Array Eg}{Q:Unit->Dh}(hA:A.frames=some (env::outer))(fr:s.heap.FunFrames base (env::outer))(hL:env.frame=some L)
  (hx:s.heap.get? x=some ob) (kb:base.StaysIn s.heap) (nx0:base.get? x=none) (hd:ob.data=.fields vs) (h1:vs[1]?=some .none) (hv:q vs)
  (k:∀h',base.StaysIn h'->h'.FunFrames base (env::outer)->NG q h' base x ob.cls .none->s.heap.UpToSlots h'->Q () { s with heap:=h' }):Ek M A (leaving env (.ref x)) Q E s:=by
 unfold leaving;exact Q9 (HI hq hA fr hL hx kb nx0 hd h1 hv fun g y1 y2 y3 y4=>x6 (s:={ s with heap:=g }) y1 y2 y3 fun h' z1 z2 z3 z4=>k h' z1 z2 z3 (y4.trans z4))
theorem HA (hq:GX q){c:Eg}{Q:Unit->Dh}(hA:A.frames=some (env::outer))(fr:s.heap.FunFrames base (env::outer))(hL:env.frame=some L)(t:NG q s.heap base x c .none)(kb:base.StaysIn s.heap)(nx0:base.get? x=none)
  (k:∀h',base.StaysIn h'->h'.FunFrames base (env::outer)->NG q h' base x c .none->s.heap.UpToSlots h'->Q () { s with heap:=h' }):Ek M A (leaving env (.ref x)) Q E s:=by
 unfold leaving;exact Q9 (KR hq hA fr hL t kb nx0 fun g y1 y2 y3 y4=>x6 (s:={ s with heap:=g }) y1 y2 y3 fun h' z1 z2 z3 z4=>k h' z1 z2 z3 (y4.trans z4))
end
open PySem.Spec PyProof.Rows
abbrev Key:=Sum Int Str
def GU:Key->Eg->Bool
 | .inl k,v=>Mb k v
 | .inr x,v=>E4 x v
def WM (w:Em):Key->Int
 | .inl k=>hashInt k
 | .inr x=>hashStr w x
theorem yP:∀{k:Key} {v:Eg},GU k v=true->(∃i t,k=Sum.inl i/\v=Mj i t)\/(∃x t,k=Er x/\v=LX x t)
 | .inl i,v,h=>by
  obtain⟨t,e⟩:=Value.isInt_shape (k:=i) (v:=v) h;exact .inl ⟨i,t,rfl,e⟩
 | .inr x,v,h=>by
  obtain⟨t,e⟩:=YO (x:=x) (v:=v) h;exact .inr ⟨x,t,rfl,e⟩
theorem Na (i:Int)(t:Tok):GU (.inl i) (.int i t)=true:=by simp[GU,Mb]
theorem qC (x:Str)(t:Tok):GU (.inr x) (.str x t)=true:=by simp[GU,E4]
theorem Su (a b:Int):decide ((Sum.inl a:Key)=Sum.inl b)=(a==b):=by
 by_cases e:a=b
 ·subst e;simp
 ·have h:¬(Sum.inl a:Key)=Sum.inl b:=fun q=>e (Sum.inl.inj q);rw[Zr h];exact(Yv.mpr e).symm
theorem Sx (a b:Str):decide ((Er a:Key)=Er b)=decide (a=b):=by
 by_cases e:a=b
 ·subst e;simp
 ·have h:¬(Er a:Key)=Er b:=fun q=>e (Sum.inr.inj q);rw[Zr h,Zr e]
theorem Sv (a:Int)(b:Str):decide ((Sum.inl a:Key)=Er b)=false:=Zr (fun q=>nomatch q)
theorem Sw (a:Str)(b:Int):decide ((Er a:Key)=Sum.inl b)=false:=Zr (fun q=>nomatch q)
def mixKind (prog:Ei)(w:Em):PySem.KeyKind prog w Key where
 is:=GU
 hash:=WM w
 inj:=fun v a b ha hb=>by
  rcases yP ha with⟨i,t,rfl,rfl⟩|⟨x,t,rfl,rfl⟩
  ·rcases yP hb with⟨j,u,rfl,e⟩|⟨y,u,rfl,e⟩
   ·injection e with e1 _;rw[e1]
   ·exact nomatch e
  ·rcases yP hb with⟨j,u,rfl,e⟩|⟨y,u,rfl,e⟩
   ·exact nomatch e
   ·injection e with e1 _;rw[e1]
 byValue:=fun k v h=>by
  rcases yP h with⟨i,t,rfl,rfl⟩|⟨x,t,rfl,rfl⟩<;>rfl
 pyHash:=fun hv h=>by
  rcases yP hv with⟨i,t,rfl,rfl⟩|⟨x,t,rfl,rfl⟩
  ·exact wpAny_pyHash_int h
  ·exact wpAny_pyHash_str h
 eqBool:=fun hu hv h=>by
  rcases yP hu with⟨i,t,rfl,rfl⟩|⟨x,t,rfl,rfl⟩
  ·rcases yP hv with⟨j,u,rfl,rfl⟩|⟨y,u,rfl,rfl⟩
   ·rw[Su]at h;exact wpAny_eqBool_int h
   ·rw[Sv]at h;exact SeqAt.EqAt.int_str i t y u _ _ _ _ h
  ·rcases yP hv with⟨j,u,rfl,rfl⟩|⟨y,u,rfl,rfl⟩
   ·rw[Sw]at h;exact SeqAt.EqAt.str_int x t j u _ _ _ _ h
   ·rw[Sx]at h;exact wpAny_eqBool_str h
 «strs»:=fun k x t v h=>by
  rcases yP h with⟨i,u,rfl,e⟩|⟨y,u,rfl,e⟩
  ·exact nomatch e
  ·injection e with e1 _;subst e1;cases v<;>rfl
theorem Fq (prog:Ei)(w:Em)(i:Int)(t:Tok):(mixKind prog w).is (.inl i) (.int i t)=true:=Na i t
theorem Fr (prog:Ei)(w:Em)(x:Str)(t:Tok):(mixKind prog w).is (.inr x) (.str x t)=true:=qC x t
inductive V where
 |non|bl (b:Bool)|int (i:Int)|str (x:Str)|byt (b:Array UInt8)|flt (b:UInt64)|ref (a:Eh)|ty (n:String)
 deriving DecidableEq
abbrev Dl:=List (Key×V)
abbrev Dj:=List V
def RelV:V->Eg->Prop
 | .non,u=>u=EE
 | .bl b,u=>u=LV b
 | .int i,u=>∃t,u=Mj i t
 | .str x,u=>∃t,u=LX x t
 | .byt b,u=>∃t,u=Value.bytes b t
 | .flt b,u=>∃t,u=Value.float b t
 | .ref a,u=>u=Eu a
 | .ty n,u=>u=EO n
abbrev Vals:Dj->Db->Prop:=Lj RelV
theorem Vals.length (r:Vals xs us):xs.length=us.length:=Paired.length r
theorem Vals.get:∀{xs:Dj} {us:Db} {i:Nat} {x:V},Vals xs us->xs[i]?=some x->∃u,us[i]?=some u/\RelV x u
 |_,_,_,_,.nil,e=>by simp at e
 |_,_,0,_,.cons r _,e=>by simp at e;subst e;exact⟨_,rfl,r⟩
 |_,_,i+1,x,.cons _ t,e=>by
  obtain⟨u,h1,h2⟩:=Vals.get (i:=i) (x:=x) t (by simpa using e);exact⟨u,by simpa using h1,h2⟩
theorem Vals.set (r:RelV x u):∀{xs:Dj} {us:Db} (i:Nat),Vals xs us->Vals (xs.set i x) (us.set i u)
 |_,_,_,.nil=>.nil
 |_,_,0,.cons _ t=>.cons r t
 |_,_,i+1,.cons q t=>.cons q (Vals.set r i t)
theorem Vals.append:∀{xs ys:Dj} {us ws:Db},Vals xs us->Vals ys ws->Vals (xs++ys) (us++ws)
 |_,_,_,_,.nil,s=>s
 |_,_,_,_,.cons r t,s=>.cons r (Vals.append t s)
theorem Vals.take:∀{xs:Dj} {us:Db} (n:Nat),Vals xs us->Vals (xs.take n) (us.take n)
 |_,_,0,_=>.nil
 |_,_,_+1,.nil=>.nil
 |_,_,n+1,.cons r t=>.cons r (Vals.take n t)
theorem Vals.drop:∀{xs:Dj} {us:Db} (n:Nat),Vals xs us->Vals (xs.drop n) (us.drop n)
 |_,_,0,r=>r
 |_,_,_+1,.nil=>.nil
 |_,_,n+1,.cons _ t=>Vals.drop n t
def RelO:Option V->Dc->Prop
 |some v,some u=>RelV v u
 |none,none=>True
 |_,_=>False
def KV {κ:Type}:List (κ×V)->List (κ×Eg)->Prop:=Lj fun(p:κ×V) (q:κ×Eg)=>p.1=q.1/\RelV p.2 q.2
def kV:Key->V
 | .inl i=>.int i
 | .inr x=>.str x
inductive HO where
 |lst (xs:Dj)
 |tup (xs:Dj)
 |dK (Dm:Dl)|dT (Dm:List (List Key×V))
 |set (S:Int->Bool) (n:Nat)
 |ins (C dx:Eh) (fs:List (Str×V))
 |own (x:Eh)
 |xd (fs:List (Str×V))
 |met (f x:Eh)
 |rng (lo hi:Int)
 |frz (o:Obj) (u:HO)
 |tbl (ps:Array Eg)
 |ext (φ:Ez->Prop)
abbrev Hp:=Eh->Option HO
def upd (H:Hp)(a:Eh)(o:HO):Hp:=fun b=>if b=a then some o else H b
theorem zB:upd H a o a=some o:=by unfold upd;rw[Zy rfl]
theorem zH {a b:Eh}(h:b≠a):upd H a o b=H b:=by unfold upd;rw[ZA h]
theorem MI:upd (upd H a o) a u=upd H a u:=by
 funext b;unfold upd;split<;>rfl
theorem TZ {H:Hp}{a b:Eh}{o u:HO}(h:H a=some o)(h':H b=some u)(d:o≠u):a≠b:=by
 intro e;subst e;rw[h]at h';exact d (Option.some.inj h')
theorem zK {H:Hp}{a b:Eh}{o:HO}(h:H a=some o)(h':H b=none):a≠b:=by
 intro e;subst e;rw[h]at h';cases h'
def TupAt (h:Ez)(a:Eh)(Dn:Array Eg):Prop:=∃o,h.get? a=some o/\o.cls=.type "tuple"/\∃n,o.data=.seq Dn n/\o.dict=none
theorem TupAt.is (t:TupAt h a Dn):IsTup h a Dn:=let ⟨o,h1,h2,n,h3,_⟩:=t;⟨o,h1,h2,n,h3⟩
theorem TupAt.lt (t:TupAt h a Dn):a<h.objs.size:=t.is.lt
theorem TupAt.new (h:Ez)(Dn:Array Eg):TupAt (h.push { cls:=.type "tuple",data:=.seq Dn }) h.objs.size Dn:=⟨_,Zo _ rfl,rfl,_,rfl,rfl⟩
section
variable (P:Ei)(w:Em)
def ObjOk (H:Hp)(h:Ez)(a:Eh):HO->Prop
 | .lst xs=>xs.length<=sizeLine/\∃(its:Db) (n:Nat),Vals xs its/\h.get? a=some { cls:=.type "list",data:=.seq its.toArray n }
 | .tup xs=>xs.length<=sizeLine/\∃its:Db,Vals xs its/\TupAt h a its.toArray
 | .dK Dm=>Dm.length<=sizeLine/\(a==EM)=false/\∃vs,KV Dm vs/\h.DictOf (mixKind P w) a vs
 | .dT Dm=>Dm.length<=sizeLine/\(a==EM)=false/\∃xs:List (List Key×Eh×Eg),
   Lj (fun(p:List Key×V) (q:List Key×Eh×Eg)=>p.1=q.1/\H q.2.1=some (.tup (p.1.map kV))/\RelV p.2 q.2.2) Dm xs /\
   ∃o es ep,h.get? a=some o/\o.ExactDict/\o.data=.dict es ep/\es.toList=xs.map (LW (Ml (mixKind P w)))/\(xs.map (·.1)).Nodup
 | .set S n=>h.SetOf (intKind P w) a S n
 | .ins C dx fs=>H dx=some (.own a)/\fs.length<=1000/\dx≠a/\h.get? a=some (Lk C dx) /\
   ∃mA,h.Ns1 dx mA/\(∀f,RelO (fs.lookup f) (mA f))/\PySem.Within mA (fs.map (·.1))
 | .own _=>∃o,h.get? a=some o
 | .xd fs=>∃mA,h.Ns1 a mA/\∀f,RelO (fs.lookup f) (mA f)
 | .rng lo hi=>∃t u v,h.get? a=some { cls:=.type "range",data:=.fields #[.int lo t,.int hi u,.int 1 v] }
 | .frz o u=>h.get? a=some o/\ObjOk H h a u
 | .tbl ps=>h.get? a=some { cls:=.none,data:=.fields ps }
 | .met f x=>h.get? a=some (PySem.W.methodObj (.ref f) (.ref x))
 | .ext φ=>φ h/\(∃o,h.get? a=some o)/\∀h1 h2:Ez,φ h1->(∀o,h1.get? a=some o->h2.get? a=some o)->φ h2
def HOk (H:Hp)(h:Ez):Prop:=∀a o,H a=some o->ObjOk P w H h a o
end
section
variable {P:Ei}{w:Em}{H H':Hp}{h h':Ez}{a:Eh}{o:HO}
theorem ObjOk.lt (x:ObjOk P w H h a o):a<h.objs.size:=by
 cases o with
 |lst xs=>obtain⟨_,_,_,_,e⟩:=x;exact Zq e
 |tup xs=>obtain⟨_,_,_,p⟩:=x;exact p.lt
 |dK Dm=>obtain⟨_,_,_,_,o,_,_,e,_⟩:=x;exact Zq e
 |dT Dm=>obtain⟨_,_,_,_,o,_,_,e,_⟩:=x;exact Zq e
 |set S n=>obtain⟨o,_,_,_,e,_⟩:=x;exact Zq e
 |ins C dx fs=>obtain⟨_,_,_,e,_⟩:=x;exact Zq e
 |own y=>obtain⟨_,e⟩:=x;exact Zq e
 |xd fs=>obtain⟨_,⟨_,_,_,e,_⟩,_⟩:=x;exact Zq e
 |rng lo hi=>obtain⟨_,_,_,e⟩:=x;exact Zq e
 |frz ob u=>obtain⟨e,_⟩:=x;exact Zq e
 |tbl ps=>exact Zq (show h.get? a=some _ from x)
 |met f y=>exact Zq (show h.get? a=some _ from x)
 |ext φ=>obtain⟨_,⟨_,e⟩,_⟩:=x;exact Zq e
theorem Paired.mapP {α β:Type}{F G:α->β->Prop}:∀{l₁:List α} {l₂:List β},Lj F l₁ l₂->(∀a b,F a b->G a b)->Lj G l₁ l₂
 |_,_,.nil,_=>.nil
 |_,_,.cons r t,f=>.cons (f _ _ r) (Paired.mapP t f)
theorem ObjOk.stay (x:ObjOk P w H h a o)(k:∀b u,(b=a\/H b=some (.own a))->h.get? b=some u->h'.get? b=some u)
  (ho:∀b,H b=some (.own a)->H' b=some (.own a)) (ht:∀b xs,H b=some (.tup xs)->H' b=some (.tup xs)):ObjOk P w H' h' a o:=by
 induction o with
 |lst xs=>obtain⟨z,its,n,r,e⟩:=x;exact⟨z,its,n,r,k _ _ (.inl rfl) e⟩
 |tup xs=>obtain⟨z,its,r,ob,e,c⟩:=x;exact⟨z,its,r,ob,k _ _ (.inl rfl) e,c⟩
 |dK Dm=>obtain⟨z,y,vs,r,ob,es,ep,e,c⟩:=x;exact⟨z,y,vs,r,ob,es,ep,k _ _ (.inl rfl) e,c⟩
 |dT Dm =>
  obtain⟨z,y,xs,r,ob,es,ep,e,c⟩:=x;exact⟨z,y,xs,Paired.mapP r fun p q z=>⟨z.1,ht _ _ z.2.1,z.2.2⟩,ob,es,ep,k _ _ (.inl rfl) e,c⟩
 |set S n=>obtain⟨ob,es,ep,t,e,c⟩:=x;exact⟨ob,es,ep,t,k _ _ (.inl rfl) e,c⟩
 |ins C dx fs =>
  obtain⟨d,z,ne,e,mA,⟨od,es,ep,e2,c⟩,r⟩:=x;exact⟨ho _ d,z,ne,k _ _ (.inl rfl) e,mA,⟨od,es,ep,k _ _ (.inr d) e2,c⟩,r⟩
 |own y=>obtain⟨ob,e⟩:=x;exact⟨ob,k _ _ (.inl rfl) e⟩
 |xd fs=>obtain⟨mA,⟨od,es,ep,e,c⟩,r⟩:=x;exact⟨mA,⟨od,es,ep,k _ _ (.inl rfl) e,c⟩,r⟩
 |rng lo hi=>obtain⟨t,u,v,e⟩:=x;exact⟨t,u,v,k _ _ (.inl rfl) e⟩
 |frz ob u ih=>obtain⟨e,q⟩:=x;exact⟨k _ _ (.inl rfl) e,ih q⟩
 |tbl ps =>
  have e:h.get? a=some { cls:=.none,data:=.fields ps }:=x;show h'.get? a=some { cls:=.none,data:=.fields ps };exact k a _ (.inl rfl) e
 |met f y =>
  have e:h.get? a=some (PySem.W.methodObj (.ref f) (.ref y)):=x;show h'.get? a=some (PySem.W.methodObj (.ref f) (.ref y));exact k a _ (.inl rfl) e
 |ext φ=>obtain⟨p,⟨o,e⟩,st⟩:=x;exact⟨st _ _ p fun o q=>k _ _ (.inl rfl) q,⟨o,k _ _ (.inl rfl) e⟩,st⟩
theorem HOk.lt (x:HOk P w H h)(e:H a=some o):a<h.objs.size:=(x a o e).lt
theorem HOk.fresh (x:HOk P w H h)(e:h.objs.size<=a):H a=none:=by
 cases q:H a with
 |none=>rfl
 |some u=>exact absurd (ZG (x.lt q) e) (Yu _)
theorem HOk.kept (x:HOk P w H h)(k:∀b u,h.get? b=some u->h'.get? b=some u):HOk P w H h':=fun a o e =>
 (x a o e).stay (fun b u _ q=>k b u q) (fun _ q=>q) fun _ _ q=>q
theorem HOk.laid (x:HOk P w H h)(k:∀b u,h.get? b=some u->h'.get? b=some u)(hp:h.objs.size<=a)(new:ObjOk P w (upd H a o) h' a o):HOk P w (upd H a o) h':=fun b u e=>by
 have hn:=x.fresh hp
 by_cases hb:b=a
 ·subst hb;rw[zB]at e;cases e;exact new
 ·rw[zH hb]at e;exact(x b u e).stay (fun c v _ q=>k c v q) (fun c q=>by rwa[zH (zK q hn)]) fun c xs q=>by rwa[zH (zK q hn)]
end
def Rd (H:Hp)(a:Eh)(u:HO):Prop:=H a=some u\/∃o,H a=some (.frz o u)
theorem Rd.ok (r:Rd H a u)(x:HOk P w H h):ObjOk P w H h a u:=by
 rcases r with r|⟨o,r⟩
 ·exact x a u r
 ·obtain⟨_,q⟩:=x a _ r;exact q
def Sb:Option HO->Prop
 |some (.lst _)=>True
 |some (.dK _)=>True
 |some (.dT _)=>True
 |some (.set _ _)=>True
 |some (.ins _ _ _)=>True
 |some (.ext _)=>True
 |_=>False
section
variable {P:Ei}{w:Em}{H:Hp}{h h':Ez}{x e:Eh}{o':HO}
theorem HOk.write (ok:HOk P w H h)(mu:Sb (H x))(he:e=x\/H e=some (.own x))(k:∀b u,b≠e->h.get? b=some u->h'.get? b=some u)(heo:∃u,h'.get? e=some u)
  (new:ObjOk P w (upd H x o') h' x o'):HOk P w (upd H x o') h':=fun b u q=>by
 have nown:∀c y,H c=some (.own y)->c≠x:=fun c y r z=>by subst z;rw[r]at mu;exact mu
 have ntup:∀c xs,H c=some (.tup xs)->c≠x:=fun c xs r z=>by subst z;rw[r]at mu;exact mu
 by_cases hb:b=x
 ·subst hb;rw[zB]at q;cases q;exact new
 ·rw[zH hb]at q
  by_cases hbe:b=e
  ·have q':H b=some (.own x):=by
    rcases he with z|z
    ·exact absurd (hbe.trans z) hb
    ·rwa[hbe]
   rw[q]at q';cases q';obtain⟨v,hv⟩:=heo;exact⟨v,by rw[hbe];exact hv⟩
  ·refine(ok b u q).stay (fun c v hc r=>k c v ?_ r) (fun c r=>by rwa[zH (nown c b r)]) fun c xs r=>by rwa[zH (ntup c xs r)]
   rcases hc with rfl|hc
   ·exact hbe
   ·rintro rfl
    rcases he with z|z
    ·exact nown c b hc z
    ·rw[hc]at z;cases z;exact hb rfl
end
structure Un (fs ex:Dd)(H H':Hp)(h h':Ez):Prop where
 keep:∀b o,h.get? b=some o->H b=none->b∉fs->b∉ex->h'.get? b=some o
 slot:∀b o,h.get? b=some o->H b=none->b∈fs->b∉ex->∃sl,h'.get? b=some { o with slots:=sl }
 free:∀b o,h.get? b=some o->H b=none->b∉ex->H' b=none
 there:∀b o,h.get? b=some o->b∉ex->∃o',h'.get? b=some o'
 tups:∀b xs,H b=some (.tup xs)->H' b=some (.tup xs)
 frzs:∀b o u,H b=some (.frz o u)->H' b=some (.frz o u)
 tbls:∀b ps,H b=some (.tbl ps)->∃more,H' b=some (.tbl (ps++more))
section
variable {fs fs' ex ex':Dd}{H H1 H2:Hp}{h h1 h2 h':Ez}{a x e:Eh}{o:HO}
theorem Un.any (u:Un fs ex H H1 h h1){b:Eh}{ob:Obj}(q:h.get? b=some ob)(n:H b=none)(hx:b∉ex):∃sl,h1.get? b=some { ob with slots:=sl }:=by
 by_cases hb:b∈fs
 ·exact u.slot b ob q n hb hx
 ·exact⟨ob.slots,u.keep b ob q n hb hx⟩
theorem Un.kept (k:∀b u,h.get? b=some u->h'.get? b=some u):Un fs ex H H h h' :=
 ⟨fun b ob q _ _ _=>k b ob q,fun b ob q _ _ _=>⟨ob.slots,k b ob q⟩,fun _ _ _ n _=>n,fun b ob q _=>⟨ob,k b ob q⟩,fun _ _ q=>q,fun _ _ _ q=>q,fun _ ps q=>⟨#[],by rw[q];simp⟩⟩
theorem Un.refl:Un fs ex H H h h:=Un.kept fun _ _ q=>q
theorem Un.laid (k:∀b u,h.get? b=some u->h'.get? b=some u)(hp:h.objs.size<=a)(hn:H a=none):Un fs ex H (upd H a o) h h' where
 keep:=fun b u q _ _ _=>k b u q
 slot:=fun b u q _ _ _=>⟨u.slots,k b u q⟩
 free:=fun b u q n _=>by rwa[zH (Zz (ZG (Zq q) hp))]
 there:=fun b u q _=>⟨u,k b u q⟩
 tups:=fun b xs q=>by rwa[zH (zK q hn)]
 frzs:=fun b u xs q=>by rwa[zH (zK q hn)]
 tbls:=fun b ps q=>⟨#[],by rw[zH (zK q hn),q];simp⟩
theorem Un.write (mu:Sb (H x))(he:e=x\/H e=some (.own x))(k:∀b u,b≠e->h.get? b=some u->h'.get? b=some u)(heo:∃u,h'.get? e=some u):Un fs ex H (upd H x o) h h':=by
 have hx:∀b,H b=none->b≠x:=fun b n z=>by subst z;rw[n]at mu;exact mu
 have hb:∀b,H b=none->b≠e:=fun b n z=>by
  subst z
  rcases he with r|r
  ·exact hx b n r
  ·rw[n]at r;cases r
 have hm:∀b u,H b=some u->¬Sb (some u)->b≠x:=fun b u q nm z=>by subst z;rw[q]at mu;exact nm mu
 refine⟨fun b u q n _ _=>k b u (hb b n) q,fun b u q n _ _=>⟨u.slots,k b u (hb b n) q⟩,fun b u q n _=>by rw[zH (hx b n)];exact n,fun b u q _=>?_,
  fun b xs q=>by rw[zH (hm b _ q fun z=>z)];exact q,fun b u xs q=>by rw[zH (hm b _ q fun z=>z)];exact q,fun b ps q=>⟨#[],by rw[zH (hm b _ q fun z=>z),q];simp⟩⟩
 by_cases hbe:b=e
 ·subst hbe;exact heo
 ·exact⟨u,k b u hbe q⟩
end
def Wz (h:Ez)(H:Hp):Dd:=(EG h.objs.size).filter fun a=>(H a).isSome
def BD (h:Ez)(H:Hp):Heap:=PySem.W.hideAll h (Wz h H)
theorem M7 (h:Ez)(H:Hp):(BD h H).objs.size=h.objs.size:=PySem.W.hideAll_size _ _
theorem Oa {h:Ez}{H:Hp}{b:Eh}{o:Obj}(e:h.get? b=some o)(n:H b=none):(BD h H).get? b=some o :=
 Y6 _ e fun hm=>by
  have q:(H b).isSome=true:=(VF.mp hm).2;rw[n]at q;simp at q
theorem Re {b:Eh}{o:Obj}(e:(BD h H).get? b=some o):h.get? b=some o/\H b=none:=by
 have e':h.get? b=some o:=PySem.W.of_hideAll (Wz h H) e;refine⟨e',?_⟩;cases q:H b with
 |none=>rfl
 |some x =>
  have hm:b∈Wz h H:=VF.mpr ⟨Jb.mpr (Zq e'),by simp[q]⟩;have z:(BD h H).get? b=none:=JL (Wz h H) hm;rw[z]at e;cases e
structure Mod (K:Cd)(mg:Str->Dc)(base:Ez):Prop where
 kin:K.In base
 glob:base.Ns Et mg
 blt:∃mb,base.Ns builtinsNs mb/\∀x:Str,x≠"__name__"->mb x=LL x
 nolimit:base.NoLimit
structure Cx where
 prog:Ei
 w:Em
 K:Cd
 mg:Str->Dc
 base:Ez
 A:EC
 N:Da
 s₀:Ej
 H₀:Hp
 env:Env
 outer:List Env
 stack:List Env
 ex:Dd
 fn:Str->Bool
 calm:Bool
 pn:De
 xe:Eg->Dh
def frs (l:List Env):Dd:=l.filterMap (·.frame)
abbrev Cx.fs (X:Cx):Dd:=frs X.outer
def WC (sc:LP)(x:Str):Prop:=sc.names.lookup x=some .local\/sc.names.lookup x=some .cell\/sc.names.lookup x=some .free
def Loc (sc:LP)(x:Str):Prop:=sc.names.lookup x=some .local\/sc.names.lookup x=some .cell
def Look (env:Env)(h:Ez)(m:Str->Dc)(x:Str)(u:Eg):Prop :=
 (env.kindOf x=some .local/\m x=some u)\/((env.kindOf x=some .cell\/env.kindOf x=some .free)/\∃c,env.cells.lookup x=some c/\h.IsCell c (some u))
structure Cx.Ok (X:Cx):Prop where
 mod:Mod X.K X.mg X.base
 kind:X.env.scope.kind=.function
 glob:X.env.globals=Et
 blt:X.env.builtins=builtinsNs
 above:X.s₀.heap.objs.size<=X.env.locals
 inj:∀x y c,X.env.cells.lookup x=some c->X.env.cells.lookup y=some c->x=y
 has:∀x,(X.env.kindOf x=some .cell\/X.env.kindOf x=some .free)->∃c,X.env.cells.lookup x=some c
 cab:∀x c,X.fn x=true->X.env.cells.lookup x=some c->X.s₀.heap.objs.size<=c
 hd:X.calm=true->X.A.handled=none
 frames:X.A.frames=some X.stack
 stk:X.stack=X.outer\/(X.stack=X.env::X.outer/\X.env.frame=some X.env.locals)
 exf:∀b∈X.ex,b≠X.env.locals/\∀x c,X.env.cells.lookup x=some c->c≠b
 bs:∀b o,X.base.get? b=some o->X.s₀.heap.get? b=some o/\X.H₀ b=none
 bsz:X.base.objs.size<=X.s₀.heap.objs.size
 noex:∀b o,X.base.get? b=some o->b∉X.ex
 exfs:∀b∈X.ex,b∉X.fs
 funs:X.s₀.heap.FunFrames X.base X.outer
 frf:∀b∈X.fs,X.H₀ b=none
structure Inv (X:Cx)(Dp:De)(σ:List (Option V))(H:Hp)(s:Ej):Prop where
 ok:X.Ok
 os:s.os=X.s₀.os
 bare:Mg s.gens
 base:Un X.fs X.ex X.H₀ H X.s₀.heap s.heap
 loc:∃m,s.heap.Ns X.env.locals m/\∀(i:Nat) (x:Str) (v:V),X.N[i]?=some x->σ[i]?=some (some v)->WC X.env.scope x->∃u,RelV v u/\Look X.env s.heap m x u
 cell:∀x c,X.env.cells.lookup x=some c->∃v,s.heap.IsCell c v
 free:H X.env.locals=none
 freeC:∀x c,X.env.cells.lookup x=some c->H c=none
 pin:∀p∈X.pn++Dp,s.heap.get? p.1=some p.2/\H p.1=none/\p.1≠X.env.locals/\p.1∉X.fs/\∀v,p.2.data≠.cell v
 hok:HOk X.prog X.w H s.heap
 len:σ.length=X.N.length
section
variable {X:Cx}{Dp:De}{σ:List (Option V)}{H H':Hp}{s:Ej}{h':Ez}
theorem Cx.Ok.nofr (ok:X.Ok){b:Eh}{o:Obj}(e:X.base.get? b=some o):b∉X.fs:=fun hb=>by
 have:=(ok.funs.mem hb).1;rw[e]at this;cases this
theorem Inv.bs (I:Inv X Dp σ H s):∀b o,X.base.get? b=some o->s.heap.get? b=some o/\H b=none:=fun b o e =>
 ⟨I.base.keep b o (I.ok.bs b o e).1 (I.ok.bs b o e).2 (I.ok.nofr e) (I.ok.noex b o e),I.base.free b o (I.ok.bs b o e).1 (I.ok.bs b o e).2 (I.ok.noex b o e)⟩
theorem Inv.bk (I:Inv X Dp σ H s):∀b o,X.base.get? b=some o->s.heap.get? b=some o:=fun b o e=>(I.bs b o e).1
theorem Inv.mod (I:Inv X Dp σ H s):Mod X.K X.mg X.base:=I.ok.mod
theorem Inv.kIn (I:Inv X Dp σ H s):X.K.In s.heap:=I.ok.mod.kin.keeps I.bk
theorem Inv.lt (I:Inv X Dp σ H s):X.env.locals<s.heap.objs.size:=let ⟨_,hn,_⟩:=I.loc;hn.lt
theorem Inv.sz (I:Inv X Dp σ H s):X.s₀.heap.objs.size<=s.heap.objs.size:=Z5 I.ok.above (YF I.lt)
theorem Inv.nofs (I:Inv X Dp σ H s){a:Eh}(h:s.heap.objs.size<=a):a∉X.fs:=fun hb=>by
 obtain⟨_,o,ho,_⟩:=I.ok.funs.mem hb;exact absurd (ZG (Zq ho) (Z5 I.sz h)) (Yu _)
theorem Inv.cne (I:Inv X Dp σ H s):∀x c,X.env.cells.lookup x=some c->c≠X.env.locals:=fun x c e z=>by
 obtain⟨v,o,ho,hd⟩:=I.cell x c e;obtain⟨m,⟨o',es,ep,ho',hd',_⟩,_⟩:=I.loc;rw[z,ho']at ho;cases ho;rw[hd']at hd;cases hd
theorem Inv.funs (I:Inv X Dp σ H s):s.heap.FunFrames X.base X.outer:=by
 have all:∀(l:List Env),(∀b∈frs l,b∈X.fs)->X.s₀.heap.FunFrames X.base l->s.heap.FunFrames X.base l:=by
  intro l
  induction l with
  |nil=>intro _ _;trivial
  |cons env r ih =>
   intro hs hl;obtain⟨hk,⟨L,o,hf,hn,ho,hd⟩,hr⟩:=hl;have hL:L∈X.fs:=hs L (by unfold frs;rw[YQ,hf];exact Zc);obtain⟨sl,e⟩:=I.base.slot L o ho (I.ok.frf L hL) hL fun z=>I.ok.exfs L z hL;exact⟨hk,⟨L,_,hf,hn,e,hd⟩,ih (fun b hb=>hs b (by unfold frs;rw[YQ,hf];exact Za _ hb)) hr⟩
 exact all X.outer (fun _ hb=>hb) I.ok.funs
theorem Inv.stack (I:Inv X Dp σ H s):s.heap.FunFrames X.base X.stack:=by
 rcases I.ok.stk with e|⟨e,hf⟩
 ·rw[e];exact I.funs
 ·rw[e];obtain⟨m,hn,_⟩:=I.loc;refine .cons (by rw[I.ok.kind];decide) hf hn ?_ I.funs;exact VC (Z5 I.ok.bsz I.ok.above)
theorem Inv.stkSub (I:Inv X Dp σ H s):∀b∈frs X.stack,b∈X.env.locals::X.fs:=fun b hb=>by
 rcases I.ok.stk with e|⟨e,hf⟩
 ·rw[e]at hb;exact Za _ hb
 ·rw[e]at hb;unfold frs at hb;rw[YQ,hf]at hb;exact hb
theorem Inv.stkFree (I:Inv X Dp σ H s):∀b∈frs X.stack,H b=none:=fun b hb=>by
 rcases Zi.mp (I.stkSub b hb) with e|hb
 ·rw[e];exact I.free
 ·obtain⟨_,o,ho,_⟩:=I.ok.funs.mem hb;exact I.base.free b o ho (I.ok.frf b hb) fun z=>I.ok.exfs b z hb
theorem Inv.step {g':Array GenState}{t':Nat}{d':Drawn}{ch:Dd}(I:Inv X Dp σ H s)
  (hch:∀b∈ch,(b∈X.ex\/X.s₀.heap.objs.size<=b)/\b≠X.env.locals/\(∀x c,X.env.cells.lookup x=some c->c≠b)/\∀p∈X.pn++Dp,p.1≠b)
  (keep:∀b o,b≠X.env.locals->b∉X.fs->b∉ch->s.heap.get? b=some o->H b=none->h'.get? b=some o)
  (slot:∀b o,b≠X.env.locals->b∈X.fs->b∉ch->s.heap.get? b=some o->H b=none->∃sl,h'.get? b=some { o with slots:=sl }) (free:∀b o,b∉ch->s.heap.get? b=some o->H b=none->H' b=none)
  (there:∀b o,b∉ch->s.heap.get? b=some o->∃o',h'.get? b=some o')
  (tups:∀b xs,H b=some (.tup xs)->H' b=some (.tup xs)) (frzs:∀b o u,H b=some (.frz o u)->H' b=some (.frz o u)) (tbls:∀b ps,H b=some (.tbl ps)->∃more,H' b=some (.tbl (ps++more)))
  (ns:∀m,s.heap.Ns X.env.locals m->h'.Ns X.env.locals m) (hok:HOk X.prog X.w H' h') (hg:Mg g') :
  Inv X Dp σ H' { s with heap:=h',gens:=g',drawn:=d',toks:=t' }:=by
 have neL:∀b o,X.s₀.heap.get? b=some o->b≠X.env.locals:=fun b o e=>Zz (ZG (Zq e) I.ok.above);have neC:∀b o,X.s₀.heap.get? b=some o->b∉X.ex->b∉ch:=fun b o e hx hb=>by
  rcases(hch b hb).1 with z|z
  ·exact hx z
  ·exact absurd (ZG (Zq e) z) (Yu _)
 have cellK:∀x c,X.env.cells.lookup x=some c->∀v,s.heap.IsCell c v->h'.IsCell c v:=fun x c e v ⟨o,ho,hd⟩=>by
  have nch:c∉ch:=fun z=>(hch c z).2.2.1 x c e rfl
  by_cases hc:c∈X.fs
  ·obtain⟨sl,q⟩:=slot c o (I.cne x c e) hc nch ho (I.freeC x c e);exact⟨_,q,hd⟩
  ·exact⟨o,keep c o (I.cne x c e) hc nch ho (I.freeC x c e),hd⟩
 refine⟨I.ok,I.os,hg,⟨fun b o e n hb hx=>?_,fun b o e n hb hx=>?_,fun b o e n hx=>?_,fun b o e hx=>?_,fun b xs e=>tups b xs (I.base.tups b xs e),fun b o xs e=>frzs b o xs (I.base.frzs b o xs e),fun b ps e=>?_⟩,?_,fun x c e=>?_,?_,fun x c e=>?_,fun p hp=>?_,hok,I.len⟩
 ·exact keep b o (neL b o e) hb (neC b o e hx) (I.base.keep b o e n hb hx) (I.base.free b o e n hx)
 ·obtain⟨sl,e1⟩:=I.base.slot b o e n hb hx;obtain⟨sl',e2⟩:=slot b _ (neL b o e) hb (neC b o e hx) e1 (I.base.free b o e n hx);exact⟨sl',e2⟩
 ·obtain⟨o',e1⟩:=I.base.there b o e hx;exact free b o' (neC b o e hx) e1 (I.base.free b o e n hx)
 ·obtain⟨o',e1⟩:=I.base.there b o e hx;exact there b o' (neC b o e hx) e1
 ·obtain⟨m1,e1⟩:=I.base.tbls b ps e;obtain⟨m2,e2⟩:=tbls b _ e1;exact⟨m1++m2,by rw[e2,Array.append_assoc]⟩
 ·obtain⟨m,hn,hl⟩:=I.loc;refine⟨m,ns m hn,fun i x v e1 e2 e3=>?_⟩;obtain⟨u,r,l⟩:=hl i x v e1 e2 e3;refine⟨u,r,?_⟩
  rcases l with l|⟨k,c,e,z⟩
  ·exact .inl l
  ·exact .inr ⟨k,c,e,cellK x c e _ z⟩
 ·obtain⟨v,z⟩:=I.cell x c e;exact⟨v,cellK x c e v z⟩
 ·obtain⟨m,⟨o,_,_,ho,_⟩,_⟩:=I.loc;exact free _ o (fun z=>(hch _ z).2.1 rfl) ho I.free
 ·obtain⟨v,o,ho,hd⟩:=I.cell x c e;exact free c o (fun z=>(hch c z).2.2.1 x c e rfl) ho (I.freeC x c e)
 ·obtain⟨e,n,ne,nf,d⟩:=I.pin p hp;have nch:p.1∉ch:=fun z=>(hch p.1 z).2.2.2 p hp rfl;exact⟨keep p.1 p.2 ne nf nch e n,free p.1 p.2 nch e n,ne,nf,d⟩
theorem Inv.un {t':Nat}(I:Inv X Dp σ H s)(u:Un X.fs [] H H' s.heap h')(hok:HOk X.prog X.w H' h'):Inv X Dp σ H' { s with heap:=h',toks:=t' }:=by
 obtain⟨m,⟨o,es,ep,ho,r⟩,_⟩:=id I.loc;obtain⟨sl,hL⟩:=u.any ho I.free (by simp);exact I.step (g':=s.gens) (d':=s.drawn) (ch:=[]) (fun _ z=>nomatch z) (fun b o _ hb _ e n=>u.keep b o e n hb (by simp)) (fun b o _ hb _ e n=>u.slot b o e n hb (by simp)) (fun b o _ e n=>u.free b o e n (by simp)) (fun b o _ e=>u.there b o e (by simp)) u.tups u.frzs u.tbls (fun m' hm=>by
  obtain⟨o',es',ep',ho',r'⟩:=hm;rw[ho]at ho';cases ho';exact⟨_,es',ep',hL,r'⟩) hok I.bare
theorem Inv.call {g':Array GenState}{t':Nat}{d':Drawn}(I:Inv X Dp σ H s)(u:Un (frs X.stack) ch H H' s.heap h')(hok:HOk X.prog X.w H' h')(hg:Mg g')
  (hch:∀b∈ch,(b∈X.ex\/X.s₀.heap.objs.size<=b)/\b≠X.env.locals/\(∀x c,X.env.cells.lookup x=some c->c≠b)/\∀p∈X.pn++Dp,p.1≠b) :
  Inv X Dp σ H' { s with heap:=h',gens:=g',drawn:=d',toks:=t' }:=by
 obtain⟨m,⟨o,es,ep,ho,r⟩,_⟩:=id I.loc;obtain⟨sl,hL⟩:=u.any ho I.free fun z=>(hch _ z).2.1 rfl;exact I.step (ch:=ch) hch (fun b o hL hb hc e n=>u.keep b o e n (fun z=>(Zi.mp (I.stkSub b z)).elim hL hb) hc) (fun b o _ _ hc e n=>u.any e n hc) (fun b o hc e n=>u.free b o e n hc) (fun b o hc e=>u.there b o e hc) u.tups u.frzs u.tbls (fun m' hm=>by
  obtain⟨o',es',ep',ho',r'⟩:=hm;rw[ho]at ho';cases ho';exact⟨_,es',ep',hL,r'⟩) hok hg
theorem Inv.turned {t':Nat}{it:Eh}(I:Inv X Dp σ H s)(k:∀b o,b≠it->s.heap.get? b=some o->h'.get? b=some o)(hn:H it=none)(hL:it≠X.env.locals)
  (h1:it∈X.ex\/X.s₀.heap.objs.size<=it) (h2:∀x c,X.env.cells.lookup x=some c->c≠it) (h3:∀p∈X.pn++Dp,p.1≠it):Inv X Dp σ H { s with heap:=h',toks:=t' }:=by
 have nit:∀b u,H b=some u->b≠it:=fun b u e z=>by rw[z,hn]at e;cases e
 refine I.step (g':=s.gens) (d':=s.drawn) (ch:=[it]) (fun b hb=>?_) (fun b o _ _ hc e _=>k b o (fun z=>hc (by simp[z])) e) (fun b o _ _ hc e _=>⟨o.slots,k b o (fun z=>hc (by simp[z])) e⟩) (fun _ _ _ _ n=>n)
  (fun b o hc e=>⟨o,k b o (fun z=>hc (by simp[z])) e⟩) (fun _ _ e=>e) (fun _ _ _ e=>e) (fun b ps e=>⟨#[],by rw[e];simp⟩) (fun m hm=>?_) (fun b u e=>?_) I.bare
 ·have e:b=it:=by simpa using hb
  subst e;exact⟨h1,hL,h2,h3⟩
 ·obtain⟨o,es,ep,ho,r⟩:=hm;exact⟨o,es,ep,k _ o (EA hL) ho,r⟩
 ·refine(I.hok b u e).stay (fun c v hc q=>k c v ?_ q) (fun _ q=>q) fun _ _ q=>q
  rcases hc with z|z
  ·rw[z];exact nit b u e
  ·exact nit c _ z
theorem Inv.tok (I:Inv X Dp σ H s)(t:Nat):Inv X Dp σ H { s with toks:=t }:=I.un (h':=s.heap) (t':=t) Un.refl I.hok
theorem Inv.kept {t':Nat}(I:Inv X Dp σ H s)(k:∀b u,s.heap.get? b=some u->h'.get? b=some u):Inv X Dp σ H { s with heap:=h',toks:=t' }:=I.un (Un.kept k) (I.hok.kept k)
theorem Inv.laid {a:Eh}{t':Nat}(I:Inv X Dp σ H s)(k:∀b u,s.heap.get? b=some u->h'.get? b=some u)(hp:s.heap.objs.size<=a)(new:ObjOk X.prog X.w (upd H a o) h' a o) :
  Inv X Dp σ (upd H a o) { s with heap:=h',toks:=t' }:=I.un (Un.laid k hp (I.hok.fresh hp)) (I.hok.laid k hp new)
theorem Inv.write {x e:Eh}{o:HO}{t':Nat}(I:Inv X Dp σ H s)(mu:Sb (H x))(he:e=x\/H e=some (.own x))(k:∀b u,b≠e->s.heap.get? b=some u->h'.get? b=some u)(heo:∃u,h'.get? e=some u)
  (new:ObjOk X.prog X.w (upd H x o) h' x o):Inv X Dp σ (upd H x o) { s with heap:=h',toks:=t' }:=I.un (Un.write mu he k heo) (I.hok.write mu he k heo new)
theorem Inv.pins_of {D2:De}(I:Inv X Dp σ H s)(h:∀p∈D2,s.heap.get? p.1=some p.2/\H p.1=none/\p.1≠X.env.locals/\p.1∉X.fs/\∀v,p.2.data≠.cell v):Inv X D2 σ H s :=
 ⟨I.ok,I.os,I.bare,I.base,I.loc,I.cell,I.free,I.freeC,fun p hp=>(Zt.mp hp).elim (fun z=>I.pin p (Yo _ z)) (h p),I.hok,I.len⟩
theorem Fs {N:Da}(hN:N.Nodup){i j:Nat}{x:Str}(a:N[i]?=some x)(b:N[j]?=some x):i=j:=by
 obtain⟨h1,e1⟩:=Zu.mp a;obtain⟨h2,e2⟩:=Zu.mp b;exact(YX hN).mp (e1.trans e2.symm)
theorem Bc {M:Model}{A:EC}{E:Eg->Dh}{i:Nat}{x:Str}{Q:Unit->Dh}(I:Inv X Dp σ H s)(hN:X.N.Nodup)(hi:X.N[i]?=some x)(hx:Loc X.env.scope x)(r:RelV v u)
  (h:∀s',Inv X Dp (σ.set i (some v)) H s'->(∃a,Ll a s.heap s'.heap/\(a=X.env.locals\/X.env.cells.lookup x=some a))->Q () s') (hf:X.fn x=true\/X.env.scope.names.lookup x=some .local:=by first|exact .inl rfl|exact .inr rfl|assumption):Ek M A (storeName X.env x u) Q E s:=by
 obtain⟨m,hn,hl⟩:=id I.loc;have hcls:(X.env.scope.kind==.class||(X.env.scope.kind==.module&&X.env.locals !=X.env.globals))=false:=by rw[I.ok.kind];rfl
 have hiσ:i<σ.length:=by rw[I.len];exact(Zu.mp hi).1
 have cne:=I.cne;have tracked:∀{a:Eh} {h':Ez},(∃o,s.heap.get? a=some o/\H a=none)->Ll a s.heap h'->HOk X.prog X.w H h':=fun{a h'} ha hs b ob e=>by
  obtain⟨_,_,hfree⟩:=ha;refine(I.hok b ob e).stay (fun c w' hc q=>(hs.2 c ?_).trans q) (fun _ q=>q) fun _ _ q=>q;rintro rfl
  rcases hc with rfl|hc
  ·rw[hfree]at e;cases e
  ·rw[hfree]at hc;cases hc
 rcases hx with hk|hk
 ·refine wpAny_storeName_local hk hn (fun h' hn' hs=>?_) hcls;obtain⟨oL,_,_,hoL,_⟩:=id hn;refine h _ ⟨I.ok,I.os,I.bare,⟨fun b o e n hb hx=>?_,fun b o e n hb hx=>?_,I.base.free,fun b o e hx=>?_,I.base.tups,I.base.frzs,I.base.tbls⟩,⟨_,hn',fun j y v' e1 e2 e3=>?_⟩,fun y c e=>?_,I.free,I.freeC,fun p hp=>?_,tracked ⟨oL,hoL,I.free⟩ hs,by simpa using I.len⟩ ⟨_,hs,.inl rfl⟩
  ·exact(hs.2 b (Zz (ZG (Zq e) I.ok.above))).trans (I.base.keep b o e n hb hx)
  ·obtain⟨sl,e1⟩:=I.base.slot b o e n hb hx;exact⟨sl,(hs.2 b (Zz (ZG (Zq e) I.ok.above))).trans e1⟩
  ·obtain⟨o',e1⟩:=I.base.there b o e hx;exact⟨o',(hs.2 b (Zz (ZG (Zq e) I.ok.above))).trans e1⟩
  ·by_cases hj:j=i
   ·subst hj;rw[hi]at e1;cases e1;rw[Ve hiσ]at e2;cases e2;exact⟨u,r,.inl ⟨hk,by simp⟩⟩
   ·rw[List.getElem?_set_ne (EA hj)]at e2;obtain⟨u',r',q⟩:=hl j y v' e1 e2 e3;refine⟨u',r',?_⟩
    rcases q with⟨k,e⟩|⟨k,c,e,z⟩
    ·refine .inl ⟨k,?_⟩;have:y≠x:=fun e=>hj (Fs hN e1 (e▸hi));simp[this,e]
    ·exact .inr ⟨k,c,e,z.sameBut hs (cne y c e)⟩
  ·obtain⟨w',z⟩:=I.cell y c e;exact⟨w',z.sameBut hs (cne y c e)⟩
  ·obtain⟨e,n,ne,nf,d⟩:=I.pin p hp;exact⟨(hs.2 p.1 ne).trans e,n,ne,nf,d⟩
 ·have hfn:X.fn x=true:=by
   rcases hf with z|z
   ·exact z
   ·rw[z]at hk;cases hk
  obtain⟨c,hc⟩:=I.ok.has x (.inl hk);obtain⟨w',z⟩:=I.cell x c hc;refine wpAny_storeName_cell I.ok.kind hk hc z (fun h' hc' hs=>?_);obtain⟨oc,hoc,hocd⟩:=id z;refine h { s with heap:=h' } ⟨I.ok,I.os,I.bare,⟨fun b o e n hb hx=>?_,fun b o e n hb hx=>?_,I.base.free,fun b o e hx=>?_,I.base.tups,I.base.frzs,I.base.tbls⟩,⟨m,hn.sameBut hs (EA (cne x c hc)),fun j y v' e1 e2 e3=>?_⟩,fun y c' e=>?_,I.free,I.freeC,fun p hp=>?_,tracked ⟨oc,hoc,I.freeC x c hc⟩ hs,by simpa using I.len⟩ ⟨c,hs,.inr hc⟩
  ·exact(hs.2 b (Zz (ZG (Zq e) (I.ok.cab x c hfn hc)))).trans (I.base.keep b o e n hb hx)
  ·obtain⟨sl,e1⟩:=I.base.slot b o e n hb hx;exact⟨sl,(hs.2 b (Zz (ZG (Zq e) (I.ok.cab x c hfn hc)))).trans e1⟩
  ·obtain⟨o',e1⟩:=I.base.there b o e hx;exact⟨o',(hs.2 b (Zz (ZG (Zq e) (I.ok.cab x c hfn hc)))).trans e1⟩
  ·by_cases hj:j=i
   ·subst hj;rw[hi]at e1;cases e1;rw[Ve hiσ]at e2;cases e2;exact⟨u,r,.inr ⟨.inl hk,c,hc,hc'⟩⟩
   ·rw[List.getElem?_set_ne (EA hj)]at e2;obtain⟨u',r',q⟩:=hl j y v' e1 e2 e3;refine⟨u',r',?_⟩
    rcases q with q|⟨k,c',e,z'⟩
    ·exact .inl q
    ·refine .inr ⟨k,c',e,z'.sameBut hs ?_⟩;rintro rfl;exact hj (Fs hN e1 (I.ok.inj _ _ _ e hc▸hi))
  ·by_cases hcc:c'=c
   ·subst hcc;exact⟨_,hc'⟩
   ·obtain⟨w2,z2⟩:=I.cell y c' e;exact⟨w2,z2.sameBut hs hcc⟩
  ·obtain⟨e,n,ne,nf,d⟩:=I.pin p hp;refine⟨(hs.2 p.1 ?_).trans e,n,ne,nf,d⟩;intro q;rw[q,hoc]at e;have q':oc=p.2:=Option.some.inj e;exact d w' (by rwa[←q'])
theorem FU {M:Model}{A:EC}{E:Eg->Dh}{i:Nat}{x:Str}{Q:Unit->Dh}(I:Inv X Dp σ H s)(hN:X.N.Nodup)(hi:X.N[i]?=some x)(hx:Loc X.env.scope x)(r:RelV v u)
  (h:∀s',Inv X Dp (σ.set i (some v)) H s'->Q () s') (hf:X.fn x=true\/X.env.scope.names.lookup x=some .local:=by first|exact .inl rfl|exact .inr rfl|assumption):Ek M A (storeName X.env x u) Q E s :=
 Bc I hN hi hx r (fun s' I' _=>h s' I') hf
theorem Inv.call' {s':Ej}(I:Inv X Dp σ H s)(ho:s'.os=s.os)(u:Un (frs X.stack) ch H H' s.heap s'.heap)(hok:HOk X.prog X.w H' s'.heap)(hg:Mg s'.gens)
  (hch:∀b∈ch,(b∈X.ex\/X.s₀.heap.objs.size<=b)/\b≠X.env.locals/\(∀x c,X.env.cells.lookup x=some c->c≠b)/\∀p∈X.pn++Dp,p.1≠b):Inv X Dp σ H' s':=by
 obtain⟨h',g',d',t',o'⟩:=s';have e:o'=s.os:=ho;subst e;exact I.call (g':=g') (t':=t') (d':=d') u hok hg hch
end
abbrev XK:=Eg->Option Eh->Hp->Prop
abbrev St:=List (Option V)
abbrev VK:=V->Hp->Prop
abbrev TE:=St->Hp->VK->Prop
abbrev TT:=St->Hp->(Bool->Hp->Prop)->Prop
abbrev TA:=St->Hp->(Dj->Hp->Prop)->Prop
structure Ends where
 nx:St->Hp->Prop
 rt:VK
 bk:St->Hp->Prop:=fun _ _=>False
 ct:St->Hp->Prop:=fun _ _=>False
abbrev TS:=Ends->St->Hp->Prop
def EP (X:Cx)(Dp:De)(σ:St)(Q:VK)(u:Eg)(s':Ej):Prop:=∃v H',Inv X Dp σ H' s'/\RelV v u/\Q v H'
def TP (X:Cx)(Dp:De)(σ:St)(Q:Bool->Hp->Prop)(b:Bool)(s':Ej):Prop:=∃H',Inv X Dp σ H' s'/\Q b H'
def AP (X:Cx)(Dp:De)(σ:St)(Q:Dj->Hp->Prop)(us:Db)(s':Ej):Prop:=∃vs H',Inv X Dp σ H' s'/\Vals vs us/\Q vs H'
def SP (X:Cx)(Dp:De)(D:Ends)(f:Flow)(s':Ej):Prop :=
 match f with
 | .next=>∃σ' H',Inv X Dp σ' H' s'/\D.nx σ' H'
 | .brk=>∃σ' H',Inv X Dp σ' H' s'/\D.bk σ' H'
 | .cont=>∃σ' H',Inv X Dp σ' H' s'/\D.ct σ' H'
 | .ret u=>∃v σ' H',Inv X Dp σ' H' s'/\RelV v u/\D.rt v H'
def PE (X:Cx)(e:EF)(t:TE):Prop :=
 ∀(Dp:De) (s:Ej) (σ:St) (H:Hp) (Q:VK),Inv X Dp σ H s->t σ H Q->Ek (Es X.prog X.w) X.A (E1 e X.env) (EP X Dp σ Q) X.xe s
def PT (X:Cx)(e:EF)(t:TT):Prop :=
 ∀(Dp:De) (s:Ej) (σ:St) (H:Hp) (Q:Bool->Hp->Prop),Inv X Dp σ H s->t σ H Q->Ek (Es X.prog X.w) X.A (isTrue e X.env (E1 e X.env)) (TP X Dp σ Q) X.xe s
def PW (X:Cx)(e:EF)(t:TT):Prop :=
 ∀(whole:Sem Eg) (Dp:De) (s:Ej) (σ:St) (H:Hp) (Q:Bool->Hp->Prop),Inv X Dp σ H s->t σ H Q->Ek (Es X.prog X.w) X.A (isTrue e X.env whole) (TP X Dp σ Q) X.xe s
theorem PW.pt (h:PW X e t):PT X e t:=h _
def PA (X:Cx)(es:List EF)(t:TA):Prop :=
 ∀(pos:Pos) (Dp:De) (s:Ej) (σ:St) (H:Hp) (Q:Dj->Hp->Prop),Inv X Dp σ H s->t σ H Q->Ek (Es X.prog X.w) X.A (spliced (E8 pos (Ev es X.env))) (AP X Dp σ Q) X.xe s
def PS (X:Cx)(st:EI)(t:TS):Prop :=
 ∀(Dp:De) (s:Ej) (σ:St) (H:Hp) (D:Ends),Inv X Dp σ H s->t D σ H->Ek (Es X.prog X.w) X.A (exec st X.env) (SP X Dp D) X.xe s
def PSs (X:Cx)(st:List EI)(t:TS):Prop :=
 ∀(Dp:De) (s:Ej) (σ:St) (H:Hp) (D:Ends),Inv X Dp σ H s->t D σ H->Ek (Es X.prog X.w) X.A (execs st X.env) (SP X Dp D) X.xe s
theorem Ci {α:Type}{t:Sem α}{Q Q':α->Dh}{M:Model}{A:EC}{E:Eg->Dh}{s:Ej}(h:Ek M A t Q E s)(hQ:∀a s,Q a s->Q' a s):Ek M A t Q' E s:=Yk h hQ fun _ _ x=>x
section
variable {X:Cx}
def Ws (i:Nat):TE:=fun σ H Q=>∃v,σ[i]?=some (some v)/\Q v H
def tC (v:V):TE:=fun _ H Q=>Q v H
theorem SK {i:Nat}{x:Str}{pos:Pos}(hN:X.N[i]?=some x)(hv:WC X.env.scope x)(hd:(x==("__debug__":Str))=false:=by decide)(hcd:(x==("__classdict__":Str))=false:=by decide):PE X (.Name x pos) (Ws i):=by
 intro Dp s σ H Q I h;obtain⟨v,e,h⟩:=h;obtain⟨m,hn,hl⟩:=I.loc;obtain⟨u,r,l⟩:=hl i x v hN e hv;have fin:EP X Dp σ Q u s:=⟨v,H,I,r,h⟩
 rcases l with⟨hk,hm⟩|⟨hk,c,hc,hcell⟩
 ·exact wpAny_Name (wpAny_loadName_local I.ok.kind hk hn hm fin) hd
 ·rcases hk with hk|hk
  ·exact wpAny_Name (wpAny_loadName_cell I.ok.kind hk hc hcell fin) hd
  ·exact wpAny_Name (wpAny_loadName_free I.ok.kind hk hc hcell fin hcd) hd
theorem zI {i j pos}:PE X (.Constant (.int i) j pos) (tC (.int i)):=fun _ _ _ H _ I h=>wpAny_Constant_int ⟨.int i,H,I.tok _,⟨_,rfl⟩,h⟩
theorem j6 {b j pos}:PE X (.Constant (.bool b) j pos) (tC (.bl b)):=fun _ _ _ H _ I h=>Constant_bool ⟨.bl b,H,I,rfl,h⟩
theorem uQ {j pos}:PE X (.Constant .none j pos) (tC .non):=fun _ _ _ H _ I h=>Constant_none ⟨.non,H,I,rfl,h⟩
theorem pe_str {x j pos}:PE X (.Constant (.str x) j pos) (tC (.str x)):=fun _ _ _ H _ I h=>Calls.Constant_str ⟨.str x,H,I.tok _,⟨_,rfl⟩,h⟩
def Gl (X:Cx)(x:Str):Prop:=X.env.kindOf x=some .globalImplicit
theorem kC {E:Eg->Dh}{u:Eg}{pos:Pos}{Q:Eg->Dh}(I:Inv X Dp σ H s)(hg:Gl X x)(hm:X.mg x=some u)(h:Q u s)
  (hd:(x==("__debug__":Str))=false:=by decide):Ek (Es X.prog X.w) X.A (E1 (.Name x pos) X.env) Q E s :=
 Calls.Name_function_global I.ok.kind hg (Calls.loadGlobal_global (by rw[I.ok.glob];exact I.mod.glob.keeps I.bk) hm h) hd
theorem Xk {E:Eg->Dh}{u:Eg}{pos:Pos}{Q:Eg->Dh}(I:Inv X Dp σ H s)(hg:Gl X x)(hm:X.mg x=none)(hv:LL x=some u)(h:Q u s)
  (hn:x≠"__name__":=by decide) (hd:(x==("__debug__":Str))=false:=by decide):Ek (Es X.prog X.w) X.A (E1 (.Name x pos) X.env) Q E s:=by
 obtain⟨mb,h1,h2⟩:=I.mod.blt;exact Calls.Name_function_global I.ok.kind hg (Calls.loadGlobal_builtin (by rw[I.ok.glob];exact I.mod.glob.keeps I.bk) hm (by rw[I.ok.blt];exact h1.keeps I.bk) ((h2 x hn).trans hv) h) hd
theorem jL {u:Eg}{pos:Pos}(hg:Gl X x)(hm:X.mg x=some u)(r:RelV v u)(hd:(x==("__debug__":Str))=false:=by decide):PE X (.Name x pos) (tC v) :=
 fun _ _ _ H _ I h=>kC I hg hm ⟨v,H,I,r,h⟩ hd
theorem yY {u:Eg}{pos:Pos}(hg:Gl X x)(hm:X.mg x=none)(hv:LL x=some u)(r:RelV v u)(hn:x≠"__name__":=by decide)(hd:(x==("__debug__":Str))=false:=by decide):PE X (.Name x pos) (tC v) :=
 fun _ _ _ H _ I h=>Xk I hg hm hv ⟨v,H,I,r,h⟩ hn hd
variable {a b:EF}{ta tb:TE}{pos:Pos}
def PC (X:Cx)(op:CmpOp)(a b:EF)(t:TE):Prop :=
 ∀(Dp:De) (s:Ej) (σ:St) (H:Hp) (Q:VK),Inv X Dp σ H s->t σ H Q ->
  Ek (Es X.prog X.w) X.A (E1 a X.env) (fun v s₁=>Ek (Es X.prog X.w) X.A (E1 b X.env) (fun u s₂=>Ek (Es X.prog X.w) X.A (EK op v u) (EP X Dp σ Q) X.xe s₂) X.xe s₁) X.xe s
variable {tA tB':TT}{rest:List EF}
def W6 (t u:TT):TT:=fun σ H Q=>t σ H fun c H1=>if c=true then u σ H1 Q else Q false H1
def tOr (t u:TT):TT:=fun σ H Q=>t σ H fun c H1=>if c=true then Q true H1 else u σ H1 Q
def ae (t:TT):TT:=fun σ H Q=>t σ H fun c H1=>Q (!c) H1
theorem K4 (ha:PT X a tA):PW X (.BoolOp .And [a] pos) tA:=by
 intro wh Dp s σ H Q I h;refine isTrue_and (Ci (ha Dp s σ H Q I h) fun c s1 e=>?_);cases c with
 |true=>exact isTrue_and_nil e
 |false=>exact e
theorem uP (ha:PT X a tA):PW X (.BoolOp .Or [a] pos) tA:=by
 intro wh Dp s σ H Q I h;refine isTrue_or (Ci (ha Dp s σ H Q I h) fun c s1 e=>?_);cases c with
 |false=>exact isTrue_or_nil e
 |true=>exact e
theorem O3 (ha:PT X a tA)(hb:PW X (.BoolOp .And (b::rest) pos) tB'):PW X (.BoolOp .And (a::b::rest) pos) (W6 tA tB'):=by
 intro wh Dp s σ H Q I h;refine isTrue_and (Ci (ha Dp s σ H _ I h) fun c s1 ⟨H1,I1,q1⟩=>?_);cases c with
 |true=>exact hb wh Dp s1 σ H1 Q I1 q1
 |false=>exact⟨H1,I1,q1⟩
theorem vY (ha:PT X a tA)(hb:PW X (.BoolOp .Or (b::rest) pos) tB'):PW X (.BoolOp .Or (a::b::rest) pos) (tOr tA tB'):=by
 intro wh Dp s σ H Q I h;refine isTrue_or (Ci (ha Dp s σ H _ I h) fun c s1 ⟨H1,I1,q1⟩=>?_);cases c with
 |true=>exact⟨H1,I1,q1⟩
 |false=>exact hb wh Dp s1 σ H1 Q I1 q1
theorem yZ (ha:PT X a tA):PT X (.UnaryOp .Not a pos) (ae tA):=by
 intro Dp s σ H Q I h;exact isTrue_not (ha Dp s σ H (fun c H1=>Q (!c) H1) I h)
def Wh (ta tb:TE):TE:=fun σ H Q=>ta σ H fun x H1=>∃c,x=.bl c/\if c=true then tb σ H1 Q else Q (.bl false) H1
def af (ta tb:TE):TE:=fun σ H Q=>ta σ H fun x H1=>∃c,x=.bl c/\if c=true then Q (.bl true) H1 else tb σ H1 Q
theorem xF (h:PE X a t):PE X (.BoolOp op [a] pos) t:=fun Dp s σ H Q I hw=>BoolOp_one (h Dp s σ H Q I hw)
theorem yX (ha:PE X a ta)(hb:PE X (.BoolOp .And (b::rest) pos) tb):PE X (.BoolOp .And (a::b::rest) pos) (Wh ta tb):=by
 intro Dp s σ H Q I h;refine BoolOp_and (Ci (ha Dp s σ H _ I h) fun v s1 ⟨x,H1,I1,r1,q1⟩=>?_);obtain⟨c,rfl,q1⟩:=q1;cases r1;refine Y2 ?_;cases c with
 |true=>exact hb Dp s1 σ H1 Q I1 q1
 |false=>exact⟨.bl false,H1,I1,rfl,q1⟩
theorem K0 (ha:PE X a ta)(hb:PE X (.BoolOp .Or (b::rest) pos) tb):PE X (.BoolOp .Or (a::b::rest) pos) (af ta tb):=by
 intro Dp s σ H Q I h;refine BoolOp_or (Ci (ha Dp s σ H _ I h) fun v s1 ⟨x,H1,I1,r1,q1⟩=>?_);obtain⟨c,rfl,q1⟩:=q1;cases r1;refine Y2 ?_;cases c with
 |false=>exact hb Dp s1 σ H1 Q I1 q1
 |true=>exact⟨.bl true,H1,I1,rfl,q1⟩
def tIf (t:TT)(ta tb:TE):TE:=fun σ H Q=>t σ H fun c H1=>if c=true then ta σ H1 Q else tb σ H1 Q
theorem Gh (hc:PT X c tA)(ha:PE X a ta)(hb:PE X b tb):PE X (.IfExp c a b pos) (tIf tA ta tb):=by
 intro Dp s σ H Q I h;refine wpAny_IfExp (Ci (hc Dp s σ H _ I h) fun d s1 ⟨H1,I1,q1⟩=>?_);cases d with
 |true=>exact ha Dp s1 σ H1 Q I1 q1
 |false=>exact hb Dp s1 σ H1 Q I1 q1
end
def SqL (K:Cd)(H:Hp)(a:Eh)(xs:Dj):Prop :=
 Rd H a (.lst xs) \/
  ∃(o:Obj) (its:Array Eg) (n:Nat),K.lookup a=some o/\o.cls=.type "list"/\o.dict=none/\o.data=.seq its n/\its.size<=sizeLine/\Vals xs its.toList
def SqT (K:Cd)(H:Hp)(a:Eh)(xs:Dj):Prop :=
 Rd H a (.tup xs) \/
  ∃(o:Obj) (its:Array Eg) (n:Nat),K.lookup a=some o/\o.cls=.type "tuple"/\o.dict=none/\o.data=.seq its n/\its.size<=sizeLine/\Vals xs its.toList
def WD:Eg->Option V
 | .none=>some .non
 | .bool b=>some (.bl b)
 | .int i _=>some (.int i)
 | .str x _=>some (.str x)
 | .bytes b _=>some (.byt b)
 | .float b _=>some (.flt b)
 | .ref a=>some (.ref a)
 | .type n=>some (.ty n)
 |_=>none
theorem RelV.abs (r:RelV x u):WD u=some x:=by
 cases x with
 |non=>cases r;rfl
 |bl _=>cases r;rfl
 |int _=>obtain⟨t,rfl⟩:=r;rfl
 |str _=>obtain⟨t,rfl⟩:=r;rfl
 |byt _=>obtain⟨t,rfl⟩:=r;rfl
 |flt _=>obtain⟨t,rfl⟩:=r;rfl
 |ref _=>cases r;rfl
 |ty _=>cases r;rfl
theorem RelV.inj (r:RelV x u)(q:RelV y u):x=y:=Option.some.inj (r.abs.symm.trans q.abs)
theorem Vals.inj:∀{xs ys:Dj} {us:Db},Vals xs us->Vals ys us->xs=ys
 |_,_,_,.nil,.nil=>rfl
 |_,_,_,.cons r t,.cons r' t'=>by rw[r.inj r',Vals.inj t t']
section
variable {X:Cx}{Dp:De}{σ:St}{H:Hp}{s:Ej}{a:Eh}{xs ys:Dj}
theorem SqL.of {K:Cd}(h:H a=some (.lst xs)):SqL K H a xs:=.inl (.inl h)
theorem SqT.of {K:Cd}(h:H a=some (.tup xs)):SqT K H a xs:=.inl (.inl h)
theorem Inv.list (I:Inv X Dp σ H s)(h:SqL X.K H a xs):∃its:Db,Vals xs its/\PlainL s.heap a its.toArray/\xs.length<=sizeLine:=by
 rcases h with h|⟨o,its,n,hk,hc,hd,hs,hz,r⟩
 ·obtain⟨z,its,n,r,e⟩:=h.ok I.hok;exact⟨its,r,⟨_,n,e,rfl,rfl,rfl⟩,z⟩
 ·refine⟨its.toList,r,⟨o,n,I.kIn a o hk,hc,hd,by simpa using hs⟩,?_⟩;have e:=r.length;simp only[ZH]at e;omega
theorem Inv.tupleD (I:Inv X Dp σ H s)(h:SqT X.K H a xs):∃its:Db,Vals xs its/\TupAt s.heap a its.toArray/\xs.length<=sizeLine:=by
 rcases h with h|⟨o,its,n,hk,hc,hdn,hs,hz,r⟩
 ·obtain⟨z,its,r,p⟩:=h.ok I.hok;exact⟨its,r,p,z⟩
 ·refine⟨its.toList,r,⟨o,I.kIn a o hk,hc,n,by simpa using hs,hdn⟩,?_⟩;have e:=r.length;simp only[ZH]at e;omega
theorem Inv.tuple (I:Inv X Dp σ H s)(h:SqT X.K H a xs):∃its:Db,Vals xs its/\IsTup s.heap a its.toArray/\xs.length<=sizeLine:=by
 obtain⟨its,r,p,z⟩:=I.tupleD h;exact⟨its,r,p.is,z⟩
theorem Inv.list_inj (I:Inv X Dp σ H s)(h:SqL X.K H a xs)(h':SqL X.K H a ys):xs=ys:=by
 obtain⟨its,r,⟨o,n,e,_,_,d⟩,_⟩:=I.list h;obtain⟨DT,r',⟨o',n',e',_,_,d'⟩,_⟩:=I.list h';rw[e]at e';cases e';rw[d]at d';injection d' with d1 _;have:its=DT:=by simpa using congrArg Array.toList d1
 subst this;exact r.inj r'
theorem Inv.tuple_inj (I:Inv X Dp σ H s)(h:SqT X.K H a xs)(h':SqT X.K H a ys):xs=ys:=by
 obtain⟨its,r,⟨o,e,_,n,d⟩,_⟩:=I.tuple h;obtain⟨DT,r',⟨o',e',_,n',d'⟩,_⟩:=I.tuple h';rw[e]at e';cases e';rw[d]at d';injection d' with d1 _;have:its=DT:=by simpa using congrArg Array.toList d1
 subst this;exact r.inj r'
end
abbrev Cx.wish (X:Cx)(E:Eg->Dh):Cx:={ X with xe:=E }
abbrev Cx.nox (X:Cx):Cx:=X.wish fun _ _=>False
theorem Cx.Ok.wish {X:Cx}(ok:X.Ok)(E:Eg->Dh):(X.wish E).Ok :=
 ⟨ok.mod,ok.kind,ok.glob,ok.blt,ok.above,ok.inj,ok.has,ok.cab,ok.hd,ok.frames,ok.stk,ok.exf,ok.bs,ok.bsz,ok.noex,ok.exfs,ok.funs,ok.frf⟩
theorem Cx.Ok.unwish {X:Cx}{E:Eg->Dh}(ok:(X.wish E).Ok):X.Ok :=
 ⟨ok.mod,ok.kind,ok.glob,ok.blt,ok.above,ok.inj,ok.has,ok.cab,ok.hd,ok.frames,ok.stk,ok.exf,ok.bs,ok.bsz,ok.noex,ok.exfs,ok.funs,ok.frf⟩
section
variable {X:Cx}{Dp:De}{σ:St}{H:Hp}{s:Ej}{E:Eg->Dh}
theorem Inv.wish (I:Inv X Dp σ H s)(E:Eg->Dh):Inv (X.wish E) Dp σ H s:=⟨I.ok.wish E,I.os,I.bare,I.base,I.loc,I.cell,I.free,I.freeC,I.pin,I.hok,I.len⟩
theorem Inv.unwish (I:Inv (X.wish E) Dp σ H s):Inv X Dp σ H s:=⟨I.ok.unwish,I.os,I.bare,I.base,I.loc,I.cell,I.free,I.freeC,I.pin,I.hok,I.len⟩
theorem SP.unwish (h:SP (X.wish E) Dp D f s'):SP X Dp D f s':=by
 cases f with
 |next=>obtain⟨σ',H',I,q⟩:=h;exact⟨σ',H',I.unwish,q⟩
 |brk=>obtain⟨σ',H',I,q⟩:=h;exact⟨σ',H',I.unwish,q⟩
 |cont=>obtain⟨σ',H',I,q⟩:=h;exact⟨σ',H',I.unwish,q⟩
 |ret u=>obtain⟨v,σ',H',I,r,q⟩:=h;exact⟨v,σ',H',I.unwish,r,q⟩
theorem PSs.nox {st:List EI}(h:PSs X.nox st t):PSs X st t:=fun Dp s σ H D I hw =>
 Yk (h Dp s σ H D (I.wish _) hw) (fun _ _ q=>q.unwish) fun _ _ z=>EB z
end
section
variable {X:Cx}{st:EI}{rest:List EI}{t u:TS}{e:EF}{te:TE}{pos:Pos}
def R7:TS:=fun D σ H=>D.nx σ H
def RI (t u:TS):TS:=fun D σ H=>t { D with nx:=u D } σ H
theorem zQ:PSs X [] R7:=fun _ _ σ H _ I h=>VG ⟨σ,H,I,h⟩
theorem zE (h1:PS X st t)(h2:PSs X rest u):PSs X (st::rest) (RI t u):=by
 intro Dp s σ H D I h;refine V2 (Ci (h1 Dp s σ H { D with nx:=u D } I h) fun f s1 q=>?_);cases f with
 |next =>
  obtain⟨σ',H',I',q⟩:=q;exact h2 Dp s1 σ' H' D I' q
 |ret v=>exact q
 |brk=>exact q
 |cont=>exact q
theorem zD (h1:PS X st t):PSs X [st] t:=by
 intro Dp s σ H D I h;refine V2 (Ci (h1 Dp s σ H D I h) fun f s1 q=>?_);cases f with
 |next=>exact VG q
 |ret v=>exact q
 |brk=>exact q
 |cont=>exact q
theorem Inv.quiet (I:Inv X Dp σ H s):interactive X.env=false:=by simp[interactive,I.ok.kind]
def Wl (te:TE):TS:=fun D σ H=>te σ H fun _ H1=>D.nx σ H1
theorem yM (he:PE X e te)(hs:Mm e none pos.line X.env=Lx false:=by rfl):PS X (.Expr e pos) (Wl te):=by
 intro Dp s σ H D I h;exact wpAny_Expr_any (Ci (he Dp s σ H _ I h) fun v s1 ⟨x,H1,I1,r1,q1⟩=>⟨σ,H1,I1,q1⟩) I.quiet hs
def ag (te:TE):TS:=fun D σ H=>te σ H D.rt
theorem zM (he:PE X e te):PS X (.Return (some e) pos) (ag te):=by
 intro Dp s σ H D I h;exact wpAny_Return_some (Ci (he Dp s σ H _ I h) fun v s1 ⟨x,H1,I1,r1,q1⟩=>⟨x,σ,H1,I1,r1,q1⟩)
def ac (c:TT)(t u:TS):TS:=fun D σ H=>c σ H fun b H1=>if b=true then t D σ H1 else u D σ H1
theorem yI (hc:PT X c tc)(ha:PSs X a t)(hb:PSs X b u):PS X (.If c a b pos) (ac tc t u):=by
 intro Dp s σ H D I h;refine wpAny_If (Ci (hc Dp s σ H _ I h) fun d s1 ⟨H1,I1,q1⟩=>?_);cases d with
 |true=>exact ha Dp s1 σ H1 D I1 q1
 |false=>exact hb Dp s1 σ H1 D I1 q1
end
abbrev TG:=V->St->Hp->(St->Hp->Prop)->Prop
abbrev Se:=Dj->St->Hp->(St->Hp->Prop)->Prop
def PG (X:Cx)(target:EF)(t:TG):Prop :=
 ∀(Dp:De) (s:Ej) (σ:St) (H:Hp) (v:V) (u:Eg) (Q:St->Hp->Prop),Inv X Dp σ H s->RelV v u->t v σ H Q ->
  Ek (Es X.prog X.w) X.A (assign target X.env u) (fun _ s'=>∃σ' H',Inv X Dp σ' H' s'/\Q σ' H') X.xe s
def PGs (X:Cx)(ts:List EF)(t:Se):Prop :=
 ∀(Dp:De) (s:Ej) (σ:St) (H:Hp) (vs:Dj) (us:Db) (Q:St->Hp->Prop),Inv X Dp σ H s->Vals vs us->t vs σ H Q ->
  Ek (Es X.prog X.w) X.A (assignInOrder ((Mq ts X.env).map (·.2)) us) (fun _ s'=>∃σ' H',Inv X Dp σ' H' s'/\Q σ' H') X.xe s
abbrev Sf:=V->V->V->Hp->(Hp->Prop)->Prop
def Ts (X:Cx)(t:Sf):Prop :=
 ∀(Dp:De) (s:Ej) (σ:St) (H:Hp) (o i v:V) (ov iv u:Eg) (Q:Hp->Prop),Inv X Dp σ H s->RelV o ov->RelV i iv->RelV v u->t o i v H Q ->
  Ek (Es X.prog X.w) X.A (setItem ov iv u) (fun _ s'=>∃H',Inv X Dp σ H' s'/\Q H') X.xe s
section
variable {X:Cx}{pos:Pos}
def Bh (i:Nat):TG:=fun v σ H Q=>Q (σ.set i (some v)) H
theorem zU {i:Nat}{x:Str}(hN:X.N.Nodup)(hi:X.N[i]?=some x)(hx:Loc X.env.scope x)(hf:X.fn x=true\/X.env.scope.names.lookup x=some .local:=by first|exact .inl rfl|exact .inr rfl|assumption):PG X (.Name x pos) (Bh i):=by
 intro Dp s σ H v u Q I r h;exact wpAny_assign_Name (FU I hN hi hx r (fun s' I'=>⟨_,H,I',h⟩) hf)
def WG:Se:=fun vs σ H Q=>vs=[]/\Q σ H
def TK (t:TG)(u:Se):Se:=fun vs σ H Q=>∃v r,vs=v::r/\t v σ H fun σ' H'=>u r σ' H' Q
theorem uH:PGs X [] WG:=by
 intro Dp s σ H vs us Q I r h;obtain⟨e,h⟩:=h;subst e;cases r;exact assignInOrder_nil ⟨σ,H,I,h⟩
theorem y8 (h1:PG X e t)(h2:PGs X es u)
  (hs:(Mq (e::es) X.env).map (·.2)=assign e X.env::(Mq es X.env).map (·.2):=by rfl):PGs X (e::es) (TK t u):=by
 intro Dp s σ H vs us Q I r h;obtain⟨v,vr,e1,h⟩:=h;subst e1;cases r with
 |cons r rr =>
  rw[hs];refine assignInOrder_cons (Ci (h1 Dp s σ H _ _ _ I r h) fun _ s1 ⟨σ1,H1,I1,q1⟩=>?_);exact h2 Dp s1 σ1 H1 _ _ Q I1 rr q1
def WI (K:Cd)(n:Nat)(t:Se):TG:=fun v σ H Q=>∃a xs,v=.ref a/\SqT K H a xs/\xs.length=n/\t xs σ H Q
theorem Xe {k:Nat}{n:Nat}(hc:X.calm=true)(h:PGs X es t)
  (hn:(Mq es X.env).length=n:=by rfl) (hst:(Mq es X.env).findIdx? (·.1)=none:=by rfl):PG X (.Tuple es k pos) (WI X.K n t):=by
 intro Dp s σ H v u Q I r hw;obtain⟨a,xs,e1,hq,hl,hw⟩:=hw;subst e1;cases r;obtain⟨its,rv,ht,hz⟩:=I.tuple hq;refine assign_Tuple_tuple (I.ok.hd hc) ht (by simp[hn,←hl,rv.length]) hst fun h' hx=>?_;have I1:Inv X Dp σ H { s with heap:=h' }:=I.kept (t':=s.toks) fun b o e=>hx b o (Zz (Zq e)) e;exact h Dp _ σ H xs _ Q I1 (by simpa using rv) hw
def WH (to ti:TE)(t:Sf):TG:=fun v σ H Q=>to σ H fun o H1=>ti σ H1 fun i H2=>t o i v H2 fun H3=>Q σ H3
theorem OS (ho:PE X o to)(hi:PE X i ti)(hs:Ts X t)
  (ha:∀v,assign (.Subscript o i pos) X.env v=(do
   let ov ←L8 [v] (E1 o X.env)
   let iv ←L8 [v,ov] (E1 i X.env)
   standAt pos
   L8 [v,ov,iv] (setItem ov iv v)
   release [v,ov,iv] []):=by intro _;rfl):PG X (.Subscript o i pos) (WH to ti t):=by
 intro Dp s σ H v u Q I r h;rw[ha];refine Q9 (Yg (Ci (ho Dp s σ H _ I h) fun ov s1 ⟨x,H1,I1,r1,q1⟩=>?_));refine Q9 (Yg (Ci (hi Dp s1 σ H1 _ I1 q1) fun iv s2 ⟨y,H2,I2,r2,q2⟩=>?_));refine Q9 (wpAny_standAt (Q9 (Yg (Ci (hs Dp s2 σ H2 x y v ov iv u _ I2 r1 r2 r q2) fun _ s3 ⟨H3,I3,q3⟩=>?_))));exact wpAny_release ⟨σ,H3,I3,q3⟩
def RG (te:TE)(g:TG):TS:=fun D σ H=>te σ H fun x H1=>g x σ H1 D.nx
theorem OV (he:PE X e te)(hg:PG X tg g)(hs:swapsWithSole [tg] e pos.line X.env=Lx false:=by rfl)(hw:swappedStores [tg] e X.env=Lx none:=by rfl)
  (h1:(Mq [tg] X.env).map (·.2)=[assign tg X.env]:=by rfl):PS X (.Assign [tg] e pos) (RG te g):=by
 intro Dp s σ H D I h;refine wpAny_Assign_stores (Ci (he Dp s σ H _ I h) fun v s1 ⟨x,H1,I1,r1,q1⟩=>?_) hs hw;rw[h1];exact Ci (hg Dp s1 σ H1 x v _ I1 r1 q1) fun _ s2 q=>q
theorem zP {i:Nat}{x:Str}{DM:Pos}(hN:X.N.Nodup)(hi:X.N[i]?=some x)(hx:Loc X.env.scope x)(he:PE X e te)(hs:Mm e (some (.Name x DM)) pos.line X.env=Lx false:=by rfl)(hf:X.fn x=true\/X.env.scope.names.lookup x=some .local:=by first|exact .inl rfl|exact .inr rfl|assumption) :
  PS X (.Assign [.Name x DM] e pos) (RG te (Bh i)):=by
 intro Dp s σ H D I h;refine wpAny_Assign_Name (Ci (he Dp s σ H _ I h) fun v s1 ⟨y,H1,I1,r1,q1⟩=>?_) hs;exact FU I1 hN hi hx r1 (fun s2 I2=>⟨_,H1,I2,q1⟩) hf
theorem Cr {i:Nat}{x:Str}{DM:Pos}(hN:X.N.Nodup)(he:PE X e te)(hi:X.N[i]?=some x:=by rfl)(hx:Loc X.env.scope x:=by first|exact EJ rfl|exact Or.inr rfl)(hs:Mm e (some (.Name x DM)) pos.line X.env=Lx false:=by rfl)(hf:X.fn x=true\/X.env.scope.names.lookup x=some .local:=by first|exact .inl rfl|exact .inr rfl|assumption):PS X (.Assign [.Name x DM] e pos) (RG te (Bh i)):=zP hN hi hx he hs hf
end
structure It where
 go:Nat->Hp->Prop
 yld:Nat->Hp->V->Hp->Prop
 stop:Nat->Hp->Prop
def XL (X:Cx)(Dp:De)(H:Hp)(b:Eh):Prop :=
 H b=none/\b≠X.env.locals/\b∉X.fs/\(b∈X.ex\/X.s₀.heap.objs.size<=b)/\(∀x c,X.env.cells.lookup x=some c->c≠b)/\∀p∈X.pn++Dp,p.1≠b
theorem Inv.fpOk {H':Hp}{b:Eh}(I:Inv X Dp σ H s)(hb:s.heap.objs.size<=b)(hn:H' b=none):XL X Dp H' b:=by
 refine⟨hn,JQ (ZG I.lt hb),I.nofs hb,.inr (Z5 I.sz hb),fun x c e z=>?_,fun p hp z=>?_⟩
 ·obtain⟨v,q⟩:=I.cell x c e;exact absurd (ZG q.lt (by rwa[z])) (Yu _)
 ·exact absurd (ZG (Zq (I.pin p hp).1) (by rwa[z])) (Yu _)
structure Turn (P:Ei)(w:Em)(K:Cd)(tg:EF)(J:It)(fp:Dd)(it:Eh)(tn:Nat->Ez->Prop):Prop where
 mem:it∈fp
 obj:∀i h,tn i h->∀b∈fp,∃o,h.get? b=some o/\∀v,o.data≠.cell v
 keep:∀i h h',tn i h->(∀b∈fp,∀o,h.get? b=some o->h'.get? b=some o)->tn i h'
 item:∀(X:Cx),X.prog=P->X.w=w->X.K=K->X.calm=true->∀(i:Nat) (Dp:De) (s:Ej) (σ:St) (H:Hp) (E:Eg->Dh),Inv X Dp σ H s->(∀b∈fp,XL X Dp H b)->tn i s.heap->J.go i H ->
  Ek (Es P w) X.A (L1 (.ref it)) (fun r s1=>∃u,r=some u /\ Ek (Es P w) X.A (LS tg (.ref it) u) (fun _ s2=>∃x H',Inv X Dp σ H' s2/\RelV x u/\J.yld i H x H'/\tn (i+1) s2.heap/\∀b∈fp,H' b=none) E s1) E s
 done:∀(X:Cx),X.prog=P->X.w=w->X.K=K->X.calm=true->∀(i:Nat) (Dp:De) (s:Ej) (σ:St) (H:Hp) (E:Eg->Dh),Inv X Dp σ H s->(∀b∈fp,XL X Dp H b)->tn i s.heap->J.stop i H ->
  Ek (Es P w) X.A (L1 (.ref it)) (fun r s1=>r=none/\Inv X Dp σ H s1) E s
 self:∀(A:EC) (i:Nat) (s:Ej) (Q:Eg->Dh) (E:Eg->Dh),tn i s.heap->Q (.ref it) s->Ek (Es P w) A (pyIter (.ref it)) Q E s
abbrev TI:=St->Hp->(It->Hp->Prop)->Prop
def PIE (X:Cx)(Dp:De)(σ:St)(tg:EF)(R:It->Hp->Prop)(itv:Eg)(s2:Ej):Prop :=
 ∃(it:Eh) (fp:Dd) (tn:Nat->Ez->Prop) (J:It) (H':Hp),itv=.ref it/\Inv X Dp σ H' s2/\Turn X.prog X.w X.K tg J fp it tn/\tn 0 s2.heap/\(∀b∈fp,XL X Dp H' b)/\R J H'
def PI (X:Cx)(tg iter:EF)(wi:TI):Prop :=
 ∀(Dp:De) (s:Ej) (σ:St) (H:Hp) (R:It->Hp->Prop),Inv X Dp σ H s->wi σ H R ->
  Ek (Es X.prog X.w) X.A (E1 iter X.env) (fun v s1=>Ek (Es X.prog X.w) X.A (pyIter v) (PIE X Dp σ tg R) X.xe s1) X.xe s
theorem KF {M:Model}{A:EC}{E:Eg->Dh}{s:Ej}{tg:EF}{it:Eh}{u:Eg}{o:Obj}{n:String}{vs:Array Eg}{Q:Unit->Dh}(ho:s.heap.get? it=some o)(hc:o.cls=.type n)(hd:o.data=.fields vs)
  (hn:["enumerate","zip","dict_itemiterator","dict_reverseitemiterator","odict_iterator","itertools.zip_longest","itertools.pairwise"].contains n=false) (hQ:Q () s):Ek M A (LS tg (.ref it) u) Q E s:=by
 unfold LS;cases tg<;>first
  |exact Zg hQ
  | (cases u<;>first
    |exact Zg hQ
    | (refine Q9 (wpAny_load ho ?_)
       rw[hc,hd];show Ek M A (if(["enumerate","zip","dict_itemiterator","dict_reverseitemiterator","odict_iterator","itertools.zip_longest","itertools.pairwise"].contains n&&vs[0]?==some (EW _))=true then _ else _) Q E s;rw[ZA (by intro h;rw[hn,Jc]at h;cases h)];exact Zg hQ))
def R9 (K:Cd)(a:Eh):It :=
 ⟨fun i H=>∃xs x,SqL K H a xs/\xs[i]?=some x,fun i H x H'=>H'=H/\∀xs,SqL K H a xs->xs[i]?=some x,fun i H=>∃xs,SqL K H a xs/\xs.length<=i⟩
def Pz (K:Cd)(a:Eh):It :=
 ⟨fun i H=>∃xs x,SqT K H a xs/\xs[i]?=some x,fun i H x H'=>H'=H/\∀xs,SqT K H a xs->xs[i]?=some x,fun i H=>∃xs,SqT K H a xs/\xs.length<=i⟩
def NC (lo:Int)(n:Nat):It:=⟨fun i _=>i<n,fun i H x H'=>H'=H/\x=.int (lo+i),fun i _=>n<=i⟩
theorem Nw {K:Cd}(a it:Eh):Turn P w K tg (R9 K a) [it] it (fun i h=>h.IsListIter it a i) where
 mem:=by simp
 obj:=fun i h st b hb=>by
  have e:b=it:=by simpa using hb
  subst e;obtain⟨o,e,c,d⟩:=st;exact⟨o,e,fun v z=>by rw[d]at z;cases z⟩
 keep:=fun i h h' st k=>st.at fun o e=>k it (by simp) o e
 item:=by
  intro X hP hw hK hc i Dp s σ H E I hf st hg;subst hP hw hK;obtain⟨xs,x,hq,hx⟩:=hg;obtain⟨its,rv,p,hz⟩:=I.list hq;obtain⟨u,hu,ru⟩:=rv.get hx;obtain⟨f0,f1,f2,f3,f4,f5⟩:=hf it (by simp);refine wpAny_pyNext_list_item st p.isList (x:=u) (by simpa using hu) fun h' st' sb=>?_;have I1:Inv X Dp σ H { s with heap:=h' }:=I.turned (t':=s.toks) (fun b o hb e=>(sb.2 b hb).trans e) f0 f1 f3 f4 f5;obtain⟨o,e,c,d⟩:=id st';exact⟨u,rfl,KF (s:={ s with heap:=h' }) e c d (by decide) ⟨x,H,I1,ru,⟨rfl,fun ys hy=>by rw[I.list_inj hy hq];exact hx⟩,st',fun b hb=>(hf b hb).1⟩⟩
 done:=by
  intro X hP hw hK hc i Dp s σ H E I hf st hg;subst hP hw hK;obtain⟨xs,hq,hx⟩:=hg;obtain⟨its,rv,p,hz⟩:=I.list hq;obtain⟨f0,f1,f2,f3,f4,f5⟩:=hf it (by simp);have hl:=rv.length;exact wpAny_pyNext_list_end (I.ok.hd hc) st p.isList (by simp;omega) fun h' eb=>⟨rfl,I.turned (t':=s.toks) (fun b o hb e=>eb b o hb e) f0 f1 f3 f4 f5⟩
 self:=fun _ _ _ _ _ st h=>wpAny_pyIter_listiter st h
theorem Ki {K:Cd}(a it:Eh):Turn P w K tg (Pz K a) [it] it (fun i h=>h.IsTupleIter it a i) where
 mem:=by simp
 obj:=fun i h st b hb=>by
  have e:b=it:=by simpa using hb
  subst e;obtain⟨o,e,c,d⟩:=st;exact⟨o,e,fun v z=>by rw[d]at z;cases z⟩
 keep:=fun i h h' st k=>st.at fun o e=>k it (by simp) o e
 item:=by
  intro X hP hw hK hc i Dp s σ H E I hf st hg;subst hP hw hK;obtain⟨xs,x,hq,hx⟩:=hg;obtain⟨its,rv,p,hz⟩:=I.tuple hq;obtain⟨u,hu,ru⟩:=rv.get hx;obtain⟨f0,f1,f2,f3,f4,f5⟩:=hf it (by simp);refine wpAny_pyNext_tuple_item st (show s.heap.IsTuple a its.toArray from p) (x:=u) (by simpa using hu) fun h' st' sb=>?_;have I1:Inv X Dp σ H { s with heap:=h' }:=I.turned (t':=s.toks) (fun b o hb e=>(sb.2 b hb).trans e) f0 f1 f3 f4 f5;obtain⟨o,e,c,d⟩:=id st';exact⟨u,rfl,KF (s:={ s with heap:=h' }) e c d (by decide) ⟨x,H,I1,ru,⟨rfl,fun ys hy=>by rw[I.tuple_inj hy hq];exact hx⟩,st',fun b hb=>(hf b hb).1⟩⟩
 done:=by
  intro X hP hw hK hc i Dp s σ H E I hf st hg;subst hP hw hK;obtain⟨xs,hq,hx⟩:=hg;obtain⟨its,rv,p,hz⟩:=I.tuple hq;obtain⟨f0,f1,f2,f3,f4,f5⟩:=hf it (by simp);have hl:=rv.length;exact wpAny_pyNext_tuple_end (I.ok.hd hc) st (show s.heap.IsTuple a its.toArray from p) (by simp;omega) fun h' eb=>⟨rfl,I.turned (t':=s.toks) (fun b o hb e=>eb b o hb e) f0 f1 f3 f4 f5⟩
 self:=fun _ _ _ _ _ st h=>wpAny_pyIter_tupleiter st h
theorem Kh {K:Cd}(it:Eh)(lo:Int)(n:Nat):Turn P w K tg (NC lo n) [it] it (fun i h=>IsRangeIter h it (lo+(i:Nat)*1) ((n:Int)-(i:Nat)) 1) where
 mem:=by simp
 obj:=fun i h st b hb=>by
  have e:b=it:=by simpa using hb
  subst e;exact⟨_,st,fun v z=>by
   have z':Data.fields _=Data.cell v:=z;cases z'⟩
 keep:=fun i h h' st k=>k it (by simp) _ st
 item:=by
  intro X hP hw hK hc i Dp s σ H E I hf st hg;subst hP hw hK;obtain⟨f0,f1,f2,f3,f4,f5⟩:=hf it (by simp);have W:=Walks.range (prog:=X.prog) (w:=X.w) (I.ok.hd hc) it lo 1 n;refine W.item i s _ _ hg st fun v h' tk hv st' kk=>?_;obtain⟨t,rfl⟩:=hv;have I1:Inv X Dp σ H { s with heap:=h',toks:=tk }:=I.turned (fun b o hb e=>kk b o (by simpa using hb) e) f0 f1 f3 f4 f5;refine⟨_,rfl,KF (s:={ s with heap:=h',toks:=tk }) (n:="range_iterator") st' rfl rfl (by decide) ⟨.int (lo+i),H,I1,⟨t,?_⟩,⟨rfl,rfl⟩,st',fun b hb=>(hf b hb).1⟩⟩;rw[Int.mul_one]
 done:=by
  intro X hP hw hK hc i Dp s σ H E I hf st hg;subst hP hw hK;obtain⟨f0,f1,f2,f3,f4,f5⟩:=hf it (by simp);exact wpAny_pyNext_range_end (I.ok.hd hc) st (by have:n<=i:=hg;omega) fun h' eb=>⟨rfl,I.turned (t':=s.toks) (fun b o hb e=>eb b o hb e) f0 f1 f3 f4 f5⟩
 self:=fun _ _ _ _ _ st h=>wpAny_pyIter_rangeiter st h
section
variable {X:Cx}{tg:EF}
def TN (K:Cd)(tl:TE):TI:=fun σ H R=>tl σ H fun x H1=>∃a,x=.ref a/\(∃xs,SqL K H1 a xs)/\R (R9 K a) H1
def WK (K:Cd)(tl:TE):TI:=fun σ H R=>tl σ H fun x H1=>∃a,x=.ref a/\(∃xs,SqT K H1 a xs)/\R (Pz K a) H1
theorem kF (hl:PE X l tl):PI X tg l (TN X.K tl):=by
 intro Dp s σ H R I h;refine Ci (hl Dp s σ H _ I h) fun v s1 ⟨x,H1,I1,r1,q1⟩=>?_;obtain⟨a,e,⟨xs,hq⟩,q⟩:=q1;subst e;cases r1;obtain⟨its,rv,p,hz⟩:=I1.list hq;refine Vf p.isList ?_;refine⟨s1.heap.objs.size,[s1.heap.objs.size],_,_,H1,rfl,I1.kept (t':=s1.toks) fun b o e=>Zd _ e,Nw a _,⟨_,Zo _ rfl,rfl,rfl⟩,fun b hb=>?_,q⟩;have e:b=s1.heap.objs.size:=by simpa using hb
 subst e;exact I1.fpOk (Ze _) (I1.hok.fresh (Ze _))
theorem j4 (hl:PE X l tl):PI X tg l (WK X.K tl):=by
 intro Dp s σ H R I h;refine Ci (hl Dp s σ H _ I h) fun v s1 ⟨x,H1,I1,r1,q1⟩=>?_;obtain⟨a,e,⟨xs,hq⟩,q⟩:=q1;subst e;cases r1;obtain⟨its,rv,p,hz⟩:=I1.tuple hq;refine VO (show s1.heap.IsTuple a its.toArray from p) ?_;refine⟨s1.heap.objs.size,[s1.heap.objs.size],_,_,H1,rfl,I1.kept (t':=s1.toks) fun b o e=>Zd _ e,Ki a _,⟨_,Zo _ rfl,rfl,rfl⟩,fun b hb=>?_,q⟩;have e:b=s1.heap.objs.size:=by simpa using hb
 subst e;exact I1.fpOk (Ze _) (I1.hok.fresh (Ze _))
theorem FG {R:It->Hp->Prop}{E:Eg->Dh}{lo hi:Int}{t u v:Tok}{tk:Nat}(I:Inv X Dp σ H s)(h1:-(2 ^ 62)<=lo)(h2:lo<2 ^ 62)(h3:-(2 ^ 62)<=hi)(h4:hi<2 ^ 62)
  (q:R (NC lo (hi-lo).toNat) H):Ek (Es X.prog X.w) X.A (pyIter (.ref s.heap.objs.size)) (PIE X Dp σ tg R) E { s with heap:=s.heap.push { cls:=.type "range",data:=.fields #[.int lo t,.int hi u,.int 1 v] },toks:=tk }:=by
 refine wpAny_pyIter_range (IsRange.new ..) (small_one h1 h2 h3 h4) ?_;have I1:Inv X Dp σ H { s with heap:=s.heap.push { cls:=.type "range",data:=.fields #[.int lo t,.int hi u,.int 1 v] },toks:=tk }:=I.kept fun b o e=>Zd _ e;refine⟨(s.heap.push { cls:=.type "range",data:=.fields #[.int lo t,.int hi u,.int 1 v] }).objs.size,[(s.heap.push { cls:=.type "range",data:=.fields #[.int lo t,.int hi u,.int 1 v] }).objs.size],_,_,H,rfl,I1.kept (t':=tk) fun b o e=>Zd _ e,Kh _ lo (hi-lo).toNat,?_,fun b hb=>?_,q⟩
 ·have e1:lo+((0:Nat):Int)*1=lo:=by simp
  have e2:(((hi-lo).toNat:Nat):Int)-((0:Nat):Int)=Builtin.Range.rangeSize lo hi 1:=by rw[rangeSize_one];split<;>omega
  show IsRangeIter _ _ (lo+((0:Nat):Int)*1) ((((hi-lo).toNat:Nat):Int)-((0:Nat):Int)) 1;rw[e1,e2];exact Zo _ rfl
 ·have e:b=(s.heap.push { cls:=.type "range",data:=.fields #[.int lo t,.int hi u,.int 1 v] }).objs.size:=by simpa using hb
  subst e;exact I1.fpOk (Ze _) (I1.hok.fresh (Ze _))
def TQ (ta:TA):TI:=fun σ H R=>ta σ H fun vs H1=>∃j:Int,vs=[.int j]/\-(2 ^ 62)<=j/\j<2 ^ 62/\R (NC 0 j.toNat) H1
def TR (ta:TA):TI:=fun σ H R=>ta σ H fun vs H1=>∃i j:Int,vs=[.int i,.int j]/\(-(2 ^ 62)<=i/\i<2 ^ 62/\-(2 ^ 62)<=j/\j<2 ^ 62)/\R (NC i (j-i).toNat) H1
theorem Xo {a:EF}{p pos:Pos}(hg:Gl X "range")(hm:X.mg "range"=none)(ha:PA X [a] ta)(hs:Ev [a] X.env=[(false,E1 a X.env)]:=by rfl):PI X tg (.Call (.Name "range" p) [a] [] pos) (TQ ta):=by
 intro Dp s σ H R I h;refine Call_ (Xk I hg hm boot_range (JK (Ci (ha pos Dp s σ H _ I h) fun us s1 ⟨vs,H1,I1,r1,q1⟩=>?_) hs rfl));obtain⟨j,e,q1,q2,q⟩:=q1;subst e;cases r1 with
 |cons r rr =>
  cases rr;obtain⟨t,rfl⟩:=r;exact call_range_1 (FG I1 (by omega) (by omega) q1 q2 (by simpa using q))
theorem Bl {a b:EF}{p pos:Pos}(hg:Gl X "range")(hm:X.mg "range"=none)(ha:PA X [a,b] ta)(hs:Ev [a,b] X.env=[(false,E1 a X.env),(false,E1 b X.env)]:=by rfl)(hs2:Ev [b] X.env=[(false,E1 b X.env)]:=by rfl) :
  PI X tg (.Call (.Name "range" p) [a,b] [] pos) (TR ta):=by
 intro Dp s σ H R I h;refine Call_ (Xk I hg hm boot_range (JK (Ci (ha pos Dp s σ H _ I h) fun us s1 ⟨vs,H1,I1,r1,q1⟩=>?_) (by rw[hs,hs2]) (by rw[hs2];rfl)));obtain⟨i,j,e,⟨q1,q2,q3,q4⟩,q⟩:=q1;subst e;cases r1 with
 |cons r rr =>
  cases rr with
  |cons r' rr =>
   cases rr;obtain⟨t,rfl⟩:=r;obtain⟨t',rfl⟩:=r';exact call_range_2 (FG I1 q1 q2 q3 q4 q)
def W9 (wi:TI)(g:TG)(tb:TS):TS:=fun D σ H=>wi σ H fun J H1=>∃W:Nat->Nat->St->Hp->Prop,(∃m,W 0 m σ H1)/\∀i m σ H,W i m σ H ->
 (J.stop i H/\D.nx σ H)\/(J.go i H/\∃N:St->Hp->Prop,(∀σ' H',N σ' H'->∃m',m'<m/\W (i+1) m' σ' H')/\∀x H',J.yld i H x H'->g x σ H' fun σ2 H2=>tb { D with nx:=N,ct:=N,bk:=D.nx } σ2 H2)
def Xr (fp:Dd)(h:Ez):De:=fp.filterMap fun b=>(h.get? b).map fun o=>(b,o)
theorem jW {fp:Dd}{h:Ez}{b:Eh}{o:Obj}(hb:b∈fp)(e:h.get? b=some o):(b,o)∈Xr fp h:=Jx.mpr ⟨b,hb,by rw[e];rfl⟩
theorem Nl {p:Eh×Obj}(hp:p∈Xr fp h):p.1∈fp/\h.get? p.1=some p.2:=by
 obtain⟨b,hb,e⟩:=Jx.mp hp;cases q:h.get? b with
 |none=>rw[q]at e;cases e
 |some o =>
  rw[q]at e;have e':(b,o)=p:=Option.some.inj e;subst e';exact⟨hb,q⟩
theorem Inv.pinned {fp:Dd}(I:Inv X Dp σ H s)(hf:∀b∈fp,XL X Dp H b)(ho:∀b∈fp,∃o,s.heap.get? b=some o/\∀v,o.data≠.cell v):Inv X (Dp++Xr fp s.heap) σ H s :=
 I.pins_of fun p hp=>(Zt.mp hp).elim (fun z=>I.pin p (ZP _ z)) fun z=>by
  obtain⟨hb,e⟩:=Nl z;obtain⟨f0,f1,f2,_⟩:=hf p.1 hb;obtain⟨o,e',d⟩:=ho p.1 hb;rw[e]at e';cases e';exact⟨e,f0,f1,f2,d⟩
theorem Inv.unpinned {Dp pl:De}(I:Inv X (Dp++pl) σ H s):Inv X Dp σ H s:=I.pins_of fun p hp=>I.pin p (ZP _ (Yo _ hp))
theorem xN {pos:Pos}(hp:PassesOwn (Es X.prog X.w) X.A X.env X.xe)(hc:X.calm=true)(hi:PI X tg iter wi)(hg:PG X tg g)(hb:PSs X body tb)
  (hs:∀x,foldedSetIterable iter X.env x=Lx x:=by intro _;rfl):PS X (.For tg iter body [] pos) (W9 wi g tb):=by
 intro Dp s σ H D I h;refine wpAny_For (Ci (hi Dp s σ H _ I h) fun v s1 h1=>Ci h1 fun itv s2 h2=>?_) hs;obtain⟨it,fp,tn,J,H2,e,I2,T,st2,f2,W,⟨m0,w0⟩,turn⟩:=h2;subst e;have stat:∀{H':Hp},(∀b∈fp,H' b=none)->∀b∈fp,XL X Dp H' b:=fun hn b hb=>⟨hn b hb,(f2 b hb).2⟩;refine codeAny_forLoop_any (fun n s'=>∃i σ' H',Inv X Dp σ' H' s'/\tn i s'.heap/\(∀b∈fp,H' b=none)/\W i n σ' H') ?_ m0 ⟨0,σ,H2,I2,st2,fun b hb=>(f2 b hb).1,w0⟩;rintro n s3 ⟨i,σ3,H3,I3,st3,fr3,w3⟩
 rcases turn i n σ3 H3 w3 with⟨stop,qn⟩|⟨go,N,hN,step⟩
 ·refine J2 hp (Ci (T.done X rfl rfl rfl hc i Dp s3 σ3 H3 X.xe I3 (stat fr3) st3 stop) fun r s4 ⟨hr,I4⟩=>?_);subst hr;exact VG ⟨σ3,H3,I4,qn⟩
 ·refine J2 hp (Ci (T.item X rfl rfl rfl hc i Dp s3 σ3 H3 X.xe I3 (stat fr3) st3 go) fun r s4 ⟨u,hr,h4⟩=>?_);subst hr;refine J2 hp (Ci h4 fun _ s5 ⟨x,H5,I5,r5,y5,st5,fr5⟩=>?_);have I5':=I5.pinned (stat fr5) (T.obj _ _ st5);refine J2 hp (Ci (hg _ s5 σ3 H5 x u _ I5' r5 (step x H5 y5)) fun _ s6 ⟨σ6,H6,I6,q6⟩=>?_);refine J2 hp (Ci (hb _ s6 σ6 H6 _ I6 q6) fun f s7 q7=>?_);have again:∀{σ7:St} {H7:Hp},Inv X (Dp++Xr fp s5.heap) σ7 H7 s7->N σ7 H7->∃m,m<n/\∃i σ' H',Inv X Dp σ' H' s7/\tn i s7.heap/\(∀b∈fp,H' b=none)/\W i m σ' H':=fun{σ7 H7} I7 n7=>by
   obtain⟨m',hm,w7⟩:=hN σ7 H7 n7;refine⟨m',hm,i+1,σ7,H7,I7.unpinned,T.keep _ _ _ st5 fun b hb o e=>(I7.pin (b,o) (ZP _ (ZP _ (jW hb e)))).1,fun b hb=>?_,w7⟩;obtain⟨o,e,d⟩:=T.obj _ _ st5 b hb;exact(I7.pin (b,o) (ZP _ (ZP _ (jW hb e)))).2.1
  cases f with
  |next=>obtain⟨σ7,H7,I7,n7⟩:=q7;exact again I7 n7
  |cont=>obtain⟨σ7,H7,I7,n7⟩:=q7;exact again I7 n7
  |brk=>obtain⟨σ7,H7,I7,q7⟩:=q7;exact⟨σ7,H7,I7.unpinned,q7⟩
  |ret v=>obtain⟨x7,σ7,H7,I7,r7,q7⟩:=q7;exact⟨x7,σ7,H7,I7.unpinned,r7,q7⟩
end
theorem X5 {K:Cd}{xs:Dj}{g:TG}{tb:TS}{D:Ends}{σ:St}{H:Hp}(Pv:Nat->St->Hp->Prop)(h0:Pv 0 σ H)(hl:∀i σ H,i<=xs.length->Pv i σ H->SqL K H a xs)
  (hs:∀i x σ H,xs[i]?=some x->Pv i σ H->g x σ H fun σ2 H2=>tb { D with nx:=Pv (i+1),ct:=Pv (i+1),bk:=D.nx } σ2 H2) (hd:∀σ H,Pv xs.length σ H->D.nx σ H) :
  ∃W:Nat->Nat->St->Hp->Prop,(∃m,W 0 m σ H)/\∀i m σ H,W i m σ H ->
   ((R9 K a).stop i H/\D.nx σ H)\/((R9 K a).go i H/\∃N:St->Hp->Prop,(∀σ' H',N σ' H'->∃m',m'<m/\W (i+1) m' σ' H')/\∀x H',(R9 K a).yld i H x H'->g x σ H' fun σ2 H2=>tb { D with nx:=N,ct:=N,bk:=D.nx } σ2 H2):=by
 refine⟨fun i m σ H=>m=xs.length-i/\i<=xs.length/\Pv i σ H,⟨xs.length,by simp,ZT _,h0⟩,?_⟩;rintro i m σ H ⟨rfl,hi,p⟩;have q:=hl i σ H hi p
 by_cases hlt:i<xs.length
 ·refine .inr ⟨⟨xs,xs[i],q,by simp[hlt]⟩,Pv (i+1),fun σ' H' p'=>⟨xs.length-(i+1),by omega,rfl,hlt,p'⟩,fun x H' y=>?_⟩;obtain⟨e,y⟩:=y;subst e;exact hs i x σ _ (y xs q) p
 ·have e:i=xs.length:=by omega
  subst e;exact .inl ⟨⟨xs,q,Ze _⟩,hd σ H p⟩
theorem XU {K:Cd}{xs:Dj}{g:TG}{tb:TS}{D:Ends}{σ:St}{H:Hp}(Pv:Nat->St->Hp->Prop)(h0:Pv 0 σ H)(hl:∀i σ H,i<=xs.length->Pv i σ H->SqT K H a xs)
  (hs:∀i x σ H,xs[i]?=some x->Pv i σ H->g x σ H fun σ2 H2=>tb { D with nx:=Pv (i+1),ct:=Pv (i+1),bk:=D.nx } σ2 H2) (hd:∀σ H,Pv xs.length σ H->D.nx σ H) :
  ∃W:Nat->Nat->St->Hp->Prop,(∃m,W 0 m σ H)/\∀i m σ H,W i m σ H ->
   ((Pz K a).stop i H/\D.nx σ H)\/((Pz K a).go i H/\∃N:St->Hp->Prop,(∀σ' H',N σ' H'->∃m',m'<m/\W (i+1) m' σ' H')/\∀x H',(Pz K a).yld i H x H'->g x σ H' fun σ2 H2=>tb { D with nx:=N,ct:=N,bk:=D.nx } σ2 H2):=by
 refine⟨fun i m σ H=>m=xs.length-i/\i<=xs.length/\Pv i σ H,⟨xs.length,by simp,ZT _,h0⟩,?_⟩;rintro i m σ H ⟨rfl,hi,p⟩;have q:=hl i σ H hi p
 by_cases hlt:i<xs.length
 ·refine .inr ⟨⟨xs,xs[i],q,by simp[hlt]⟩,Pv (i+1),fun σ' H' p'=>⟨xs.length-(i+1),by omega,rfl,hlt,p'⟩,fun x H' y=>?_⟩;obtain⟨e,y⟩:=y;subst e;exact hs i x σ _ (y xs q) p
 ·have e:i=xs.length:=by omega
  subst e;exact .inl ⟨⟨xs,q,Ze _⟩,hd σ H p⟩
theorem G4 {lo:Int}{n:Nat}{g:TG}{tb:TS}{D:Ends}{σ:St}{H:Hp}(Pv:Nat->St->Hp->Prop)(h0:Pv 0 σ H)
  (hs:∀i σ H,i<n->Pv i σ H->g (.int (lo+i)) σ H fun σ2 H2=>tb { D with nx:=Pv (i+1),ct:=Pv (i+1),bk:=D.nx } σ2 H2) (hd:∀σ H,Pv n σ H->D.nx σ H) :
  ∃W:Nat->Nat->St->Hp->Prop,(∃m,W 0 m σ H)/\∀i m σ H,W i m σ H ->
   ((NC lo n).stop i H/\D.nx σ H)\/((NC lo n).go i H/\∃N:St->Hp->Prop,(∀σ' H',N σ' H'->∃m',m'<m/\W (i+1) m' σ' H')/\∀x H',(NC lo n).yld i H x H'->g x σ H' fun σ2 H2=>tb { D with nx:=N,ct:=N,bk:=D.nx } σ2 H2):=by
 refine⟨fun i m σ H=>m=n-i/\i<=n/\Pv i σ H,⟨n,by simp,ZT _,h0⟩,?_⟩;rintro i m σ H ⟨rfl,hi,p⟩
 by_cases hlt:i<n
 ·refine .inr ⟨hlt,Pv (i+1),fun σ' H' p'=>⟨n-(i+1),by omega,rfl,hlt,p'⟩,fun x H' y=>?_⟩;obtain⟨e,y⟩:=y;subst e y;exact hs i σ _ hlt p
 ·have e:i=n:=by omega
  subst e;exact .inl ⟨Ze _,hd σ H p⟩
abbrev R2:=V->V->Hp->VK->Prop
def Cu (X:Cx)(f:Eg->Eg->Sem Eg)(r:R2):Prop :=
 ∀(Dp:De) (s:Ej) (σ:St) (H:Hp) (x y:V) (v u:Eg) (Q:VK),Inv X Dp σ H s->RelV x v->RelV y u->r x y H Q ->
  Ek (Es X.prog X.w) X.A (f v u) (EP X Dp σ Q) X.xe s
def CallR (X:Cx)(f:Eg)(r:Dj->Hp->VK->Prop):Prop :=
 ∀(Dp:De) (s:Ej) (σ:St) (H:Hp) (xs:Dj) (us:Db) (Q:VK),Inv X Dp σ H s->Vals xs us->r xs H Q ->
  Ek (Es X.prog X.w) X.A (call f us) (EP X Dp σ Q) X.xe s
def WB (X:Cx)(r:V->Hp->(Bool->Hp->Prop)->Prop):Prop :=
 ∀(Dp:De) (s:Ej) (σ:St) (H:Hp) (x:V) (v:Eg) (Q:Bool->Hp->Prop),Inv X Dp σ H s->RelV x v->r x H Q ->
  Ek (Es X.prog X.w) X.A (truthy v) (TP X Dp σ Q) X.xe s
def Wy (r:R2)(ta tb:TE):TE:=fun σ H Q=>ta σ H fun x H1=>tb σ H1 fun y H2=>r x y H2 Q
def rI (C:Int->Int->Prop)(g:Int->Int->V):R2:=fun x y H Q=>∃i j,x=.int i/\y=.int j/\C i j/\Q (g i j) H
def To (g:Int->Int->V):R2:=fun x y H Q=>∃i j,x=.int i/\y=.int j/\Q (g i j) H
section
variable {X:Cx}{a b c:EF}{ta tb tc:TE}{pos:Pos}
theorem Sj (ha:PE X a ta)(hb:PE X b tb){Dp:De}{s:Ej}{σ:St}{H:Hp}{R:V->V->Hp->Prop}(I:Inv X Dp σ H s)
  (h:ta σ H fun x H1=>tb σ H1 fun y H2=>R x y H2) {Q:Eg->Dh} {f:Eg->Eg->Sem Eg}
  (hf:∀v u s2 x y H2,Inv X Dp σ H2 s2->RelV x v->RelV y u->R x y H2->Ek (Es X.prog X.w) X.A (f v u) Q X.xe s2) :
  Ek (Es X.prog X.w) X.A (E1 a X.env) (fun v s₁=>Ek (Es X.prog X.w) X.A (E1 b X.env) (fun u s₂=>Ek (Es X.prog X.w) X.A (f v u) Q X.xe s₂) X.xe s₁) X.xe s:=by
 refine Ci (ha Dp s σ H _ I h) fun v s1 ⟨x,H1,I1,r1,q1⟩=>?_;refine Ci (hb Dp s1 σ H1 _ I1 q1) fun u s2 ⟨y,H2,I2,r2,q2⟩=>?_;exact hf v u s2 x y H2 I2 r1 r2 q2
theorem z8 {op:Operator}(ho:Cu X (Mr op) r)(ha:PE X a ta)(hb:PE X b tb):PE X (.BinOp a op b pos) (Wy r ta tb):=by
 intro Dp s σ H Q I h;exact wpAny_BinOp (Sj ha hb I h fun v u s2 x y H2 I2 rx ry q=>ho Dp s2 σ H2 x y v u Q I2 rx ry q)
theorem WQ {f:Eg->Eg->Sem Eg}{C:Int->Int->Prop}{g:Int->Int->Int}
  (rule:∀(i j:Int) (t u:Tok) (s:Ej) (Q:Eg->Dh) (E:Eg->Dh),C i j->Q (.int (g i j) s.toks) { s with toks:=s.toks+1 }->Ek (Es X.prog X.w) X.A (f (.int i t) (.int j u)) Q E s) :
  Cu X f (rI C fun i j=>.int (g i j)):=by
 intro Dp s σ H x y v u Q I rx ry h;obtain⟨i,j,rfl,rfl,hc,q⟩:=h;obtain⟨t,rfl⟩:=rx;obtain⟨t',rfl⟩:=ry;exact rule i j t t' s _ _ hc ⟨.int (g i j),H,I.tok _,⟨_,rfl⟩,q⟩
theorem WR {f:Eg->Eg->Sem Eg}{g:Int->Int->Int}
  (rule:∀(i j:Int) (t u:Tok) (s:Ej) (Q:Eg->Dh) (E:Eg->Dh),Q (.int (g i j) s.toks) { s with toks:=s.toks+1 }->Ek (Es X.prog X.w) X.A (f (.int i t) (.int j u)) Q E s) :
  Cu X f (To fun i j=>.int (g i j)):=by
 intro Dp s σ H x y v u Q I rx ry h;obtain⟨i,j,rfl,rfl,q⟩:=h;obtain⟨t,rfl⟩:=rx;obtain⟨t',rfl⟩:=ry;exact rule i j t t' s _ _ ⟨.int (g i j),H,I.tok _,⟨_,rfl⟩,q⟩
theorem SF {f:Eg->Eg->Sem Eg}{g:Int->Int->Bool}
  (rule:∀(i j:Int) (t u:Tok) (s:Ej) (Q:Eg->Dh) (E:Eg->Dh),Q (.bool (g i j)) s->Ek (Es X.prog X.w) X.A (f (.int i t) (.int j u)) Q E s) :
  Cu X f (To fun i j=>.bl (g i j)):=by
 intro Dp s σ H x y v u Q I rx ry h;obtain⟨i,j,rfl,rfl,q⟩:=h;obtain⟨t,rfl⟩:=rx;obtain⟨t',rfl⟩:=ry;exact rule i j t t' s _ _ ⟨.bl (g i j),H,I,rfl,q⟩
def WA (i j:Int):Prop:=0<j/\j<1073741824
def CMul (i j:Int):Prop:=(-(2 ^ 64)<i/\i<2 ^ 64)\/(-(2 ^ 64)<j/\j<2 ^ 64)
theorem CMul.ok (h:CMul i j):IntMulOk i j:=by
 rcases h with⟨h1,h2⟩|⟨h1,h2⟩
 ·exact .of_left (intBits_le_64 h1 h2)
 ·exact .of_right (intBits_le_64 h1 h2)
theorem jJ:Cu X (Mr .Add) (To fun i j=>.int (i+j)):=WR fun _ _ _ _ _ _ _ q=>add_int q
theorem IW:Cu X (Mr .Mult) (rI CMul fun i j=>.int (i*j)):=WQ fun _ _ _ _ _ _ _ hc q=>mul_int q hc.ok
theorem xK:Cu X (Mr .FloorDiv) (rI WA fun i j=>.int (i / j)):=WQ fun i j _ _ _ _ _ hc q=>by
 have h1:(0:Int)<j:=hc.1;have h2:j<1073741824:=hc.2;exact floordiv_int (by omega) (by rwa[Int.fdiv_eq_ediv_of_nonneg i (by omega)]) (.inl (PyProof.noPylong_small (by omega)))
theorem x9:Cu X (Mr .Mod) (rI (fun _ j=>0<j) fun i j=>.int (i % j)):=WQ fun i j _ _ _ _ _ hc q=>by
 have h1:(0:Int)<j:=hc;exact mod_int' (by omega) (by rwa[Int.fmod_eq_emod_of_nonneg i (by omega)])
def Wf:V->V->Bool
 | .non,.non=>true|.non,.int _=>true|.int _,.non=>true|.non,.bl _=>true|.bl _,.non=>true|.non,.str _=>true|.str _,.non=>true
 | .int _,.int _=>true|.bl _,.bl _=>true|.str _,.str _=>true|.byt _,.byt _=>true
 | .int _,.str _=>true|.str _,.int _=>true|.bl _,.str _=>true|.str _,.bl _=>true
 |_,_=>false
def rEq:R2:=fun x y H Q=>Wf x y=true/\Q (.bl (decide (x=y))) H
def rNe:R2:=fun x y H Q=>Wf x y=true/\Q (.bl (!decide (x=y))) H
theorem Kt {i j:Int}:decide (V.int i=V.int j)=(i==j):=by
 rw[ZZ];simp
theorem NW {i j:Bool}:decide (V.bl i=V.bl j)=(i==j):=by
 rw[ZZ];simp
theorem Ku {i j:Str}:decide (V.str i=V.str j)=(i==j):=by
 rw[ZZ];simp
theorem Ks {i j:Array UInt8}:decide (V.byt i=V.byt j)=(i.toList==j.toList):=by
 rw[ZZ];cases i;cases j;simp
theorem yG {Q:VK}{k k':Bool}(I:Inv X Dp σ H s)(q:Q (.bl k) H)(e:k=k'):EP X Dp σ Q (.bool k') s:=by
 subst e;exact⟨.bl k,H,I,rfl,q⟩
theorem qA:Cu X (EK .Eq) rEq:=by
 intro Dp s σ H x y v u Q I rx ry h;obtain⟨hs,q⟩:=h;cases x with
 |non =>
  cases rx;cases y with
  |non=>cases ry;exact PySem.EqNone.eq_none_none (yG I q (by simp))
  |bl j=>cases ry;exact PySem.EqNone.eq_none_bool (yG I q (by simp))
  |int j=>obtain⟨t',rfl⟩:=ry;exact PySem.EqNone.eq_none_int (yG I q (by simp))
  |str j=>obtain⟨t',rfl⟩:=ry;exact PySem.EqNone.eq_none_str (yG I q (by simp))
  |_=>exact absurd (show false=true from hs) ZK
 |bl i =>
  cases rx;cases y with
  |non=>cases ry;exact PySem.EqNone.eq_bool_none (yG I q (by simp))
  |bl j=>cases ry;exact eq_bool (yG I q NW)
  |str j=>obtain⟨t',rfl⟩:=ry;exact PySem.EqMixed.eq_bool_str (yG I q (by simp))
  |_=>exact absurd (show false=true from hs) ZK
 |int i =>
  obtain⟨t,rfl⟩:=rx;cases y with
  |non=>cases ry;exact PySem.EqNone.eq_int_none (yG I q (by simp))
  |int j=>obtain⟨t',rfl⟩:=ry;exact eq_int (yG I q Kt)
  |str j=>obtain⟨t',rfl⟩:=ry;exact PySem.EqMixed.eq_int_str (yG I q (by simp))
  |_=>exact absurd (show false=true from hs) ZK
 |str i =>
  obtain⟨t,rfl⟩:=rx;cases y with
  |non=>cases ry;exact PySem.EqNone.eq_str_none (yG I q (by simp))
  |bl j=>cases ry;exact PySem.EqMixed.eq_str_bool (yG I q (by simp))
  |int j=>obtain⟨t',rfl⟩:=ry;exact PySem.EqMixed.eq_str_int (yG I q (by simp))
  |str j=>obtain⟨t',rfl⟩:=ry;exact eq_str (yG I q Ku)
  |_=>exact absurd (show false=true from hs) ZK
 |byt i =>
  obtain⟨t,rfl⟩:=rx;cases y with
  |byt j=>obtain⟨t',rfl⟩:=ry;exact PySem.W.eq_bytes (yG I q Ks)
  |_=>exact absurd (show false=true from hs) ZK
 |_=>cases y<;>exact absurd (show false=true from hs) ZK
theorem Iv:Cu X (EK .NotEq) rNe:=by
 intro Dp s σ H x y v u Q I rx ry h;obtain⟨hs,q⟩:=h;cases x with
 |non =>
  cases rx;cases y with
  |non=>cases ry;exact PySem.EqNone.ne_none_none (yG I q (by simp))
  |bl j=>cases ry;exact PySem.EqNone.ne_none_bool (yG I q (by simp))
  |int j=>obtain⟨t',rfl⟩:=ry;exact PySem.EqNone.ne_none_int (yG I q (by simp))
  |str j=>obtain⟨t',rfl⟩:=ry;exact PySem.EqNone.ne_none_str (yG I q (by simp))
  |_=>exact absurd (show false=true from hs) ZK
 |bl i =>
  cases rx;cases y with
  |non=>cases ry;exact PySem.EqNone.ne_bool_none (yG I q (by simp))
  |bl j=>cases ry;exact ne_bool (yG I q (congrArg not NW))
  |str j=>obtain⟨t',rfl⟩:=ry;exact PySem.EqMixed.ne_bool_str (yG I q (by simp))
  |_=>exact absurd (show false=true from hs) ZK
 |int i =>
  obtain⟨t,rfl⟩:=rx;cases y with
  |non=>cases ry;exact PySem.EqNone.ne_int_none (yG I q (by simp))
  |int j=>obtain⟨t',rfl⟩:=ry;exact ne_int (yG I q (congrArg not Kt))
  |str j=>obtain⟨t',rfl⟩:=ry;exact PySem.EqMixed.ne_int_str (yG I q (by simp))
  |_=>exact absurd (show false=true from hs) ZK
 |str i =>
  obtain⟨t,rfl⟩:=rx;cases y with
  |non=>cases ry;exact PySem.EqNone.ne_str_none (yG I q (by simp))
  |bl j=>cases ry;exact PySem.EqMixed.ne_str_bool (yG I q (by simp))
  |int j=>obtain⟨t',rfl⟩:=ry;exact PySem.EqMixed.ne_str_int (yG I q (by simp))
  |str j=>obtain⟨t',rfl⟩:=ry;exact ne_str (yG I q (congrArg not Ku))
  |_=>exact absurd (show false=true from hs) ZK
 |byt i =>
  obtain⟨t,rfl⟩:=rx;cases y with
  |byt j=>obtain⟨t',rfl⟩:=ry;exact PySem.W.ne_bytes (yG I q (congrArg not Ks))
  |_=>exact absurd (show false=true from hs) ZK
 |_=>cases y<;>exact absurd (show false=true from hs) ZK
theorem T5:Cu X (EK .Lt) (To fun i j=>.bl (decide (i<j))):=SF fun _ _ _ _ _ _ _ q=>lt_int q
theorem Fv:Cu X (EK .LtE) (To fun i j=>.bl (decide (i<=j))):=SF fun _ _ _ _ _ _ _ q=>le_int q
theorem Fu:Cu X (EK .Gt) (To fun i j=>.bl (decide (j<i))):=SF fun _ _ _ _ _ _ _ q=>gt_int q
theorem HK:Cu X (EK .Is) (fun x y H Q=>y=.non/\Q (.bl (decide (x=.non))) H):=by
 intro Dp s σ H x y v u Q I rx ry h;obtain⟨rfl,q⟩:=h;cases ry;refine is_none_gen (yG I q ?_);cases x<;>first
  |(cases rx;rfl)
  |(obtain⟨t,rfl⟩:=rx;rfl)
theorem KW:Cu X (EK .IsNot) (fun x y H Q=>y=.non/\Q (.bl (!decide (x=.non))) H):=by
 intro Dp s σ H x y v u Q I rx ry h;obtain⟨rfl,q⟩:=h;cases ry;refine isnot_none_gen (yG I q ?_);cases x<;>first
  |(cases rx;rfl)
  |(obtain⟨t,rfl⟩:=rx;rfl)
theorem zW (b:EF){op:CmpOp}(h:op≠.In:=by decide)(h2:op≠.NotIn:=by decide):behindInMarks op b=false:=by
 have e1:(op==CmpOp.In)=false:=by cases op<;>first|rfl|exact absurd rfl h
 have e2:(op==CmpOp.NotIn)=false:=by cases op<;>first|rfl|exact absurd rfl h2
 cases b<;>simp[behindInMarks,e1,e2]
theorem yE {op:CmpOp}(ho:Cu X (EK op) r)(ha:PE X a ta)(hb:PE X b tb)(hm:behindInMarks op b=false):PE X (.Compare a [op] [b] pos) (Wy r ta tb):=by
 intro Dp s σ H Q I h;exact wpAny_Compare1 (Sj ha hb I h fun v u s2 x y H2 I2 rx ry q=>ho Dp s2 σ H2 x y v u Q I2 rx ry q) hm
def Wp (t:TE):TT:=fun σ H Q=>t σ H fun x H'=>∃k,x=.bl k/\Q k H'
theorem z5 {op:CmpOp}(ho:Cu X (EK op) r)(ha:PE X a ta)(hb:PE X b tb)(hm:behindInMarks op b=false):PT X (.Compare a [op] [b] pos) (Wp (Wy r ta tb)):=by
 intro Dp s σ H Q I h;refine wpAny_isTrue_Compare1 (Ci (ha Dp s σ H _ I h) fun v s1 ⟨x,H1,I1,r1,q1⟩=>Ci (hb Dp s1 σ H1 _ I1 q1) fun u s2 ⟨y,H2,I2,r2,q2⟩ => Ci (ho Dp s2 σ H2 x y v u _ I2 r1 r2 q2) fun c s3 ⟨z,H3,I3,r3,k,e,q3⟩=>?_) hm
 subst e;cases r3;exact Y2 ⟨H3,I3,q3⟩
def S3 (r r':R2)(ta tb tc:TE):TE:=fun σ H Q=>ta σ H fun x H1=>tb σ H1 fun y H2=>r x y H2 fun z H3=>∃k,z=.bl k /\
 (if k=true then tc σ H3 fun w' H4=>r' y w' H4 Q else Q (.bl false) H3)
theorem IO {op op':CmpOp}(ho:Cu X (EK op) r)(ho':Cu X (EK op') r')(ha:PE X a ta)(hb:PE X b tb)(hc:PE X c tc)
  (hm:lastMarks [op,op'] [b,c]=false:=by with_unfolding_all rfl):PE X (.Compare a [op,op'] [b,c] pos) (S3 r r' ta tb tc):=by
 intro Dp s σ H Q I h;refine Compare_chain (Ci (ha Dp s σ H _ I h) fun v s1 ⟨x,H1,I1,r1,q1⟩=>chain_link (Ci (hb Dp s1 σ H1 _ I1 q1) fun u s2 ⟨y,H2,I2,r2,q2⟩ => Ci (ho Dp s2 σ H2 x y v u _ I2 r1 r2 q2) fun d s3 ⟨z,H3,I3,r3,k,e,q3⟩=>?_)) hm
 subst e;cases r3;refine Y2 ?_;cases k with
 |false=>exact ite_ff ⟨.bl false,H3,I3,rfl,q3⟩
 |true=>exact ite_tt (chain_last (Ci (hc Dp s3 σ H3 _ I3 q3) fun w' s4 ⟨z',H4,I4,r4,q4⟩=>ho' Dp s4 σ H4 y z' u w' Q I4 r2 r4 q4))
def Sg (K:Cd)(x:V)(H:Hp)(k:Bool):Prop :=
 match x with
 | .non=>k=false
 | .bl b=>k=b
 | .int i=>k=(i !=0)
 | .str y=>y.length<=sizeLine/\k=((y.length:Int) !=0)
 | .byt y=>y.size<=sizeLine/\k=((y.size:Int) !=0)
 | .ref p=>(∃xs,SqL K H p xs/\k=!xs.isEmpty)\/(∃xs,SqT K H p xs/\k=!xs.isEmpty)\/∃Dm,H p=some (.dK Dm)/\k=!Dm.isEmpty
 |_=>False
theorem Hu {κ:Type}{Dm:List (κ×V)}{vs:List (κ×Eg)}(r:KV Dm vs):(!vs.isEmpty)=!Dm.isEmpty:=by
 cases r<;>rfl
theorem Gw (r:Vals xs its):(!its.toArray.isEmpty)=!xs.isEmpty:=by
 cases r<;>simp
theorem vU:(sizeLine:Nat)<2 ^ 63:=by rw[Yp];decide
theorem Te:WB X (fun x H Q=>∃k,Sg X.K x H k/\Q k H):=by
 intro Dp s σ H x v Q I rx h;obtain⟨k,e,q⟩:=h;have hl:=vU;have hs:sizeLine=16777216:=Yp;cases x with
 |non =>
  cases rx;have e':k=false:=e;subst e';exact truthy_none ⟨H,I,q⟩
 |bl b =>
  cases rx;have e':k=b:=e;subst e';exact Y2 ⟨H,I,q⟩
 |int i =>
  obtain⟨t,rfl⟩:=rx;have e':k=(i !=0):=e;subst e';exact PySem.P.truthy_int ⟨H,I,q⟩
 |str y =>
  obtain⟨t,rfl⟩:=rx;obtain⟨hy,e'⟩:y.length<=sizeLine/\k=((y.length:Int) !=0):=e;subst e';exact PySem.P.truthy_str (by omega) ⟨H,I.tok _,q⟩
 |byt y =>
  obtain⟨t,rfl⟩:=rx;obtain⟨hy,e'⟩:y.size<=sizeLine/\k=((y.size:Int) !=0):=e;subst e';exact PySem.W.truthy_bytes (by omega) ⟨H,I.tok _,q⟩
 |ref p =>
  cases rx;have e':(∃xs,SqL X.K H p xs/\k=!xs.isEmpty)\/(∃xs,SqT X.K H p xs/\k=!xs.isEmpty)\/∃Dm,H p=some (.dK Dm)/\k=!Dm.isEmpty:=e
  rcases e' with⟨xs,hx,e'⟩|⟨xs,hx,e'⟩|⟨Dm,hx,e'⟩
  ·subst e';obtain⟨its,r,pl,hz⟩:=I.list hx;have Dq:=r.length;exact wpAny_truthy_list pl.isList (by simp only[Zw];omega) ⟨H,I.tok _,by rw[Gw r];exact q⟩
  ·subst e';obtain⟨its,r,pl,hz⟩:=I.tuple hx;have Dq:=r.length;exact truthy_tuple pl (by simp only[Zw];omega) ⟨H,I.tok _,by rw[Gw r];exact q⟩
  ·subst e';obtain⟨hz,hS,vs,r,m⟩:Dm.length<=sizeLine/\(p==EM)=false/\∃vs,KV Dm vs/\s.heap.DictOf (mixKind X.prog X.w) p vs:=I.hok p _ hx;have Dq:Dm.length=vs.length:=Paired.length r;exact wpAny_truthy_dict hS m (by omega) ⟨H,I.tok _,by rw[Hu r];exact q⟩
 |_=>exact(show False from e).elim
theorem OX (ha:PE X a ta)(he:∀whole,isTrue a X.env whole=(do let v ←whole;standAt a.pos;L8 [v] (truthy v))) :
  PT X a (fun σ H Q=>ta σ H fun x H'=>∃k,Sg X.K x H' k/\Q k H'):=by
 intro Dp s σ H Q I h;exact isTrue_plain (Ci (ha Dp s σ H _ I h) fun v s1 ⟨x,H1,I1,r1,q1⟩=>Te Dp s1 σ H1 x v Q I1 r1 q1) (he _)
theorem yJ:Cu X (Mr .Add) (fun x y H Q=>∃i j,x=.str i/\y=.str j/\i.length+j.length<=sizeLine/\Q (.str (i++j)) H):=by
 intro Dp s σ H x y v u Q I rx ry h;obtain⟨i,j,rfl,rfl,hz,q⟩:=h;obtain⟨t,rfl⟩:=rx;obtain⟨t',rfl⟩:=ry;exact add_str (fun t' tk=>⟨.str (i++j),H,I.tok _,⟨_,rfl⟩,q⟩) hz
theorem vals1 {x:V}(r:Vals [x] us):∃u,us=[u]/\RelV x u:=by
 cases r with
 |cons r1 r2=>cases r2;exact⟨_,rfl,r1⟩
theorem vals2 {x y:V}(r:Vals [x,y] us):∃u w',us=[u,w']/\RelV x u/\RelV y w':=by
 cases r with
 |cons r1 r2 =>
  cases r2 with
  |cons r3 r4=>cases r4;exact⟨_,_,rfl,r1,r3⟩
theorem MQ (hc:X.calm=true):CallR X (.builtin "max") (fun xs H Q=>∃i j,xs=[.int i,.int j]/\Q (.int (if j>i then j else i)) H):=by
 intro Dp s σ H xs us Q I r h;obtain⟨i,j,rfl,q⟩:=h;obtain⟨u,w',rfl,⟨t,rfl⟩,⟨t',rfl⟩⟩:=vals2 r;refine max_two_ints (I.ok.hd hc) fun h' tk k=>⟨_,H,I.kept k,?_,q⟩
 by_cases hj:j>i
 ·rw[Zy hj,Zy hj];exact⟨_,rfl⟩
 ·rw[ZA hj,ZA hj];exact⟨_,rfl⟩
theorem MN:CallR X (.type "int") (fun xs H Q=>(∃i,xs=[.int i]/\Q (.int i) H)\/∃k,xs=[.bl k]/\Q (.int (if k then 1 else 0)) H):=by
 intro Dp s σ H xs us Q I r h
 rcases h with⟨i,rfl,q⟩|⟨k,rfl,q⟩
 ·obtain⟨u,rfl,t,rfl⟩:=vals1 r;exact call_int_int ⟨.int i,H,I,⟨_,rfl⟩,q⟩
 ·obtain⟨u,rfl,r1⟩:=vals1 r;cases r1;exact call_int_bool ⟨.int (if k then 1 else 0),H,I.tok _,⟨_,rfl⟩,q⟩
theorem jC:CallR X (.type "str") (fun xs H Q=>∃i,xs=[.int i]/\i.natAbs.log2<1920/\Q (.str (LQ i)) H):=by
 intro Dp s σ H xs us Q I r h;obtain⟨i,rfl,hz,q⟩:=h;obtain⟨u,rfl,t,rfl⟩:=vals1 r;exact PySem.P.str_of_int hz ⟨.str _,H,I.tok _,⟨_,rfl⟩,q⟩
theorem CG:CallR X (.builtin "ord") (fun xs H Q=>∃x,xs=[.str x]/\x.length=1/\Q (.int (x.cps.getD 0 0:Nat)) H):=by
 intro Dp s σ H xs us Q I r h;obtain⟨x,rfl,hz,q⟩:=h;obtain⟨u,rfl,t,rfl⟩:=vals1 r;exact ord_of_one hz ⟨.int _,H,I.tok _,⟨_,rfl⟩,q⟩
end
structure ObjM (h:Ez)(x dx C:Eh)(mA:Str->Dc):Prop where
 obj:h.get? x=some (Lk C dx)
 ns:h.Ns1 dx mA
 ne:dx≠x
theorem Nf {h:Ez}{dx:Eh}{mA:Str->Dc}(n:h.Ns1 dx mA):∃od,h.get? dx=some od/\∀name,PySem.W.lookIn name od=some (mA name):=by
 obtain⟨o,es,ep,ho,hd,hk,_,hm⟩:=n;refine⟨o,ho,fun name=>?_⟩;have e:=hm name;unfold nsFind findBy at e;rw[←Array.find?_toList]at e;unfold PySem.W.lookIn;rw[hd];dsimp only
 split
 ·rename_i y q;rw[q]at e;exact congrArg some e
 ·rename_i q;rw[q]at e;have a:es.toList.any (·.refKey)=false:=by
   rw[VT];intro y hy;obtain⟨z,t,Eb⟩:=hk y (Array.mem_toList_iff.mp hy);simp[DictEntry.refKey,Eb]
  have a':¬es.toList.any (·.refKey)=true:=by rw[a];exact ZK
  rw[ZA a'];exact congrArg some e
theorem ObjM.look (I:ObjM h x dx C mA):∃od,PySem.W.InstAt h x (Lk C dx) C (some od)/\∀name,PySem.W.lookIn name od=some (mA name) :=
 let ⟨od,ho,hl⟩:=Nf I.ns
 ⟨od,⟨I.obj,rfl,rfl,ho⟩,hl⟩
section
variable {prog:Ei}{w:Em}{A:EC}{E:Eg->Dh}{s:Ej}{K:Cd}{x dx C f:Eh}{mA:Str->Dc}{name:Str}{v:Eg}
theorem P1 {expr:Bool}{Q:Eg->Dh}(X:K.In s.heap)(I:ObjM s.heap x dx C mA)(hg:LM K C name=true)(hh:L3 K C=true)
  (ha:EH K (.ref C) name=some none) (hv:mA name=some v) (hv':PySem.W.handedIn v=true) (h:Q v { s with toks:=s.toks+1 }) :
  Ek (Es prog w) A (getAttr (.ref x) name expr) Q E s:=by
 obtain⟨od,J,hl⟩:=I.look;exact PySem.W.get_value X J (VL hg).1 (PySem.W.findObj_own hh ha rfl (by rw[hl,hv])) hv' h
theorem N9 {pl:Sem Bool}{Q:Eg×Db->Dh}(X:K.In s.heap)(I:ObjM s.heap x dx C mA)(hg:LM K C name=true)
  (hf:EH K (.ref C) name=some (some (.ref f))) (ht:Mh K (.ref f)=true) (hv:mA name=none) (h:Q (.ref f,[.ref x]) s) :
  Ek (Es prog w) A (Mn (.ref x) name pl) Q E s:=by
 obtain⟨od,J,hl⟩:=I.look;exact PySem.W.method_fn X J (VL hg).1 (VL hg).2 hf (Jy.mp ht) (by show(PySem.W.lookIn name od).map (·.isSome)=some false;rw[hl,hv];rfl) h
theorem RD {ns:Da}{Q:Unit->Dh}(X:K.In s.heap)(I:ObjM s.heap x dx C mA)
  (hs:EH K (.ref C) "__setattr__"=some (some (.builtin "object.__setattr__"))) (hp:PySem.W.plainOver K C=true) (ht:PySem.W.takerIn K C name=some none) (hh:L3 K C=true)
  (hw:PySem.Within mA ns) (hsz:ns.length<=sizeLine)
  (h:∀h',ObjM h' x dx C (fun y=>if y=name then some v else mA y)->Ll dx s.heap h'->Q () { s with heap:=h',toks:=s.toks+2 }) :
  Ek (Es prog w) A (setAttr (.ref x) name v) Q E s:=by
 obtain⟨od,J,hl⟩:=I.look;refine PySem.W.set_plain X J hs (PySem.W.osa_open (s:={ s with toks:=s.toks+1 }) (r:=none) X J hp ht fun b=>?_);obtain⟨cd,hc,hd'⟩:=PySem.W.any_some hh;have hx:s.heap.get? x=some ⟨.ref C,some dx,.plain,#[]⟩:=I.obj;refine Q9 (Zg (Q9 (Q9 (wpAny_loadPart hx (Q9 (PySem.W.Looks.here (s:={ s with toks:=s.toks+1 }) (PySem.W.looks_clsIn X hc) ?_))))));rw[hd'];refine Zg (a:=some dx) (Q9 (Zg (Q9 ?_)));refine wpAny_nsSet1 (s:={ s with toks:=s.toks+1 }) I.ns fun h' hn2 hs2=>?_;obtain⟨oD,esD,epD,hoD,hdD,hcD⟩:=hn2.count (PySem.Within.cons name v hw);refine Q9 (wpAny_lookBehind hoD (by rw[hdD];exact pastItsLine_dict (Z5 hcD (by rw[Zh];omega))) ?_);exact Zg (h _ ⟨(hs2.2 _ (EA I.ne)).trans I.obj,hn2,I.ne⟩ hs2)
theorem Ox {R:Result->Dh}{vs:Db}{kw:List (Str×Eg)}(X:K.In s.heap)(hm:Me K C=true)
  (hi:EH K (.ref C) "__init__"=some (some (.ref f))) (hf:PySem.W.typeIn K (.ref f)=some (.type "function"))
  (h:LU (Es prog w) (A.under (.builtin "type.__call__" ⟨.ref C::vs,kw⟩)) (.call (.ref f) ⟨.ref (s.heap.objs.size+1)::vs,kw⟩) (PySem.W.InitBack (s.heap.objs.size+1) R) { s with heap:=(s.heap.push E3).push (Lk C s.heap.objs.size) }) :
  LU (Es prog w) A (.call (.ref C) ⟨vs,kw⟩) R s:=by
 obtain⟨hh,g,d,t,os⟩:=s;exact PySem.W.make_core (PySem.W.makes_of X hm) (PySem.W.looks_findIn X hi) (fun self=>PySem.W.bind_fn X self hf) (.inl rfl) h
end
def Us (f:Str)(v:V):List (Str×V)->List (Str×V)
 |[]=>[(f,v)]
 |(g,x)::r=>if g=f then(g,v)::r else(g,x)::Us f v r
theorem XF (f g:Str)(v:V):∀fs:List (Str×V),(Us f v fs).lookup g=if g=f then some v else fs.lookup g
 |[]=>by
  show LC g [(f,v)]=_
  by_cases h:g=f
  ·have hb:(g==f)=true:=Jy.mpr h;simp only[LC,hb,Zy h]
  ·have hb:(g==f)=false:=Yv.mpr h;simp only[LC,hb,ZA h]
 |(k,x)::r=>by
  have ih:=XF f g v r;rw[show Us f v ((k,x)::r)=(if k=f then(k,v)::r else(k,x)::Us f v r) from rfl]
  by_cases hk:k=f
  ·rw[Zy hk]
   by_cases h:g=k
   ·have hb:(g==k)=true:=Jy.mpr h;simp only[LC,hb,Zy (h.trans hk)]
   ·have hb:(g==k)=false:=Yv.mpr h;simp only[LC,hb,ZA (fun e:g=f=>h (e.trans hk.symm))]
  ·rw[ZA hk]
   by_cases h:g=k
   ·have hb:(g==k)=true:=Jy.mpr h;simp only[LC,hb,ZA (fun e:g=f=>hk (h.symm.trans e))]
   ·have hb:(g==k)=false:=Yv.mpr h;simp only[LC,hb];exact ih
theorem U9 (f:Str)(v:V):∀fs:List (Str×V),f∈(Us f v fs).map (·.1)/\∀g,g∈fs.map (·.1)->g∈(Us f v fs).map (·.1)
 |[]=>⟨by simp[Us],fun g h=>by simp at h⟩
 |(k,x)::r=>by
  obtain⟨i1,i2⟩:=U9 f v r;rw[show Us f v ((k,x)::r)=(if k=f then(k,v)::r else(k,x)::Us f v r) from rfl]
  by_cases hk:k=f
  ·rw[Zy hk];subst hk;exact⟨by simp,fun g h=>by simpa using h⟩
  ·rw[ZA hk];refine⟨?_,fun g h=>?_⟩
   ·rw[ZC];exact Za _ i1
   ·rw[ZC]at h ⊢
    rcases Zi.mp h with e|e
    ·exact Zi.mpr (.inl e)
    ·exact Za _ (i2 g e)
theorem Xt (f:Str)(v:V):∀fs:List (Str×V),(Us f v fs).length<=fs.length+1
 |[]=>by simp[Us]
 |(k,x)::r=>by
  have ih:=Xt f v r;rw[show Us f v ((k,x)::r)=(if k=f then(k,v)::r else(k,x)::Us f v r) from rfl]
  by_cases hk:k=f
  ·rw[Zy hk,Zh,Zh];omega
  ·rw[ZA hk,Zh,Zh];omega
theorem RelO.some_of {v:V}(r:RelO (some v) o):∃u,o=some u/\RelV v u:=by
 cases o with
 |none=>exact(show False from r).elim
 |some u=>exact⟨u,rfl,r⟩
theorem RelO.none_of (r:RelO none o):o=none:=by
 cases o with
 |none=>rfl
 |some u=>exact(show False from r).elim
theorem M6 (r:RelV v u):PySem.W.handedIn u=true:=by
 cases v with
 |non=>cases(show u=EE from r);rfl
 |bl b=>cases(show u=LV b from r);rfl
 |int i=>obtain⟨t,e⟩:=(show∃t,u=Mj i t from r);cases e;rfl
 |str x=>obtain⟨t,e⟩:=(show∃t,u=LX x t from r);cases e;rfl
 |byt b=>obtain⟨t,e⟩:=(show∃t,u=Value.bytes b t from r);cases e;rfl
 |flt b=>obtain⟨t,e⟩:=(show∃t,u=Value.float b t from r);cases e;rfl
 |ref a=>cases(show u=Eu a from r);rfl
 |ty n=>cases(show u=EO n from r);rfl
section
variable {P:Ei}{w:Em}{H H':Hp}{h h':Ez}{a C dx:Eh}{fs fs':List (Str×V)}
theorem XT (hok:HOk P w H h)(e:H a=some (.ins C dx fs)):∃mA,ObjM h a dx C mA/\(∀f,RelO (fs.lookup f) (mA f))/\PySem.Within mA (fs.map (·.1))/\fs.length<=1000/\H dx=some (.own a):=by
 obtain⟨d,z,ne,ob,mA,n,r,q⟩:=(show ObjOk P w H h a (.ins C dx fs) from hok a _ e);exact⟨mA,⟨ob,n,ne⟩,r,q,z,d⟩
end
structure Cls (K:Cd)(C:Eh):Prop where
 pg:LM K C L7=true
 hd:L3 K C=true
 po:PySem.W.plainOver K C=true
 sa:EH K (.ref C) "__setattr__"=some (some (.builtin "object.__setattr__"))
theorem Cls.get {K:Cd}(c:Cls K C)(f:Str):LM K C f=true:=c.pg
def NoAttr (K:Cd)(C:Eh)(f:Str):Prop:=EH K (.ref C) f=some none
theorem NoAttr.taker {K:Cd}(n:NoAttr K C f):PySem.W.takerIn K C f=some none:=by
 unfold PySem.W.takerIn;rw[show EH K (.ref C) f=some none from n];rfl
structure Meth (K:Cd)(C:Eh)(m:Str)(f:Eh):Prop where
 at_:EH K (.ref C) m=some (some (.ref f))
 fn:Mh K (.ref f)=true
 kp:ES K (.ref f)=true
section
variable {X:Cx}{Dp:De}{σ:St}{H:Hp}{s:Ej}{a C dx:Eh}{fs:List (Str×V)}{f:Str}{v:V}{A:EC}{E:Eg->Dh}
theorem Hq {b:Bool}{Q:Eg->Dh}(I:Inv X Dp σ H s)(e:H a=some (.ins C dx fs))(c:Cls X.K C)(n:NoAttr X.K C f)(l:fs.lookup f=some v)
  (h:∀u s',Inv X Dp σ H s'->RelV v u->Q u s'):Ek (Es X.prog X.w) A (getAttr (.ref a) f b) Q E s:=by
 obtain⟨mA,O,r,_,_,_⟩:=XT I.hok e;obtain⟨u,hu,ru⟩:=RelO.some_of (v:=v) (o:=mA f) (by rw[←l];exact r f);exact P1 I.kIn O (c.get f) c.hd n hu (M6 ru) (h u _ (I.tok _) ru)
theorem uG {pl:Sem Bool}{Q:Eg×Db->Dh}(I:Inv X Dp σ H s)(e:H a=some (.ins C dx fs))(c:Cls X.K C)(k:Meth X.K C m g)(l:fs.lookup m=none)
  (h:Q (.ref g,[.ref a]) s):Ek (Es X.prog X.w) A (Mn (.ref a) m pl) Q E s:=by
 obtain⟨mA,O,r,_,_,_⟩:=XT I.hok e;have hn:mA m=none:=RelO.none_of (by rw[←l];exact r m);exact N9 I.kIn O (c.get m) k.at_ k.fn hn h
theorem HX {Q:Unit->Dh}(I:Inv X Dp σ H s)(e:H a=some (.ins C dx fs))(c:Cls X.K C)(n:NoAttr X.K C f)(hl:fs.length<1000)(ry:RelV y u)
  (h:∀s',Inv X Dp σ (upd H a (.ins C dx (Us f y fs))) s'->Q () s'):Ek (Es X.prog X.w) A (setAttr (.ref a) f u) Q E s:=by
 obtain⟨mA,O,r,wi,_,ho⟩:=XT I.hok e;have hz:(fs.map (·.1)).length<=sizeLine:=by rw[Q7,Yp];omega
 refine RD I.kIn O c.sa c.po n.taker c.hd wi hz fun h' O' sb=>h _ ?_;have hd:∃o,h'.get? dx=some o:=let ⟨o,_,_,e',_⟩:=O'.ns;⟨o,e'⟩;refine I.write (x:=a) (e:=dx) (by rw[e];exact Lc) (.inr ho) (fun b q hb z=>(sb.2 b hb).trans z) hd ?_;refine⟨by rw[zH O.ne];exact ho,?_,O.ne,O'.obj,_,O'.ns,fun g=>?_,fun g hg=>?_⟩
 ·have:=Xt f y fs;omega
 ·show RelO ((Us f y fs).lookup g) (if g=f then some u else mA g);rw[XF]
  by_cases q:g=f
  ·rwa[Zy q,Zy q]
  ·rw[ZA q,ZA q];exact r g
 ·by_cases q:g=f
  ·rw[q];exact(U9 f y fs).1
  ·refine(U9 f y fs).2 g (wi g fun z=>hg ?_);show(if g=f then some u else mA g)=none;rwa[ZA q]
theorem Inv.made (I:Inv X Dp σ H s):Inv X Dp σ (upd (upd H s.heap.objs.size (.own (s.heap.objs.size+1))) (s.heap.objs.size+1) (.ins C s.heap.objs.size []))
  { s with heap:=(s.heap.push E3).push (Lk C s.heap.objs.size) }:=by
 have e1:(s.heap.push E3).get? s.heap.objs.size=some PySem.W.emptyDict:=Zo s.heap rfl;have e2:((s.heap.push E3).push (Lk C s.heap.objs.size)).get? (s.heap.objs.size+1)=some (Lk C s.heap.objs.size):=by
  have:=Zo (s.heap.push E3) (o:=Lk C s.heap.objs.size) rfl
  rwa[Ys]at this
 have e3:(s.heap.push E3).Ns s.heap.objs.size (fun _=>none):=⟨E3,#[],_,e1,rfl,(fun e he=>absurd he (by simp)),fun _=>rfl⟩;have I1:=I.laid (a:=s.heap.objs.size) (o:=.own (s.heap.objs.size+1)) (h':=s.heap.push E3) (t':=s.toks) (fun b u q=>Zd _ q) (Ze _) ⟨_,e1⟩;refine I1.laid (a:=s.heap.objs.size+1) (o:=.ins C s.heap.objs.size []) (t':=s.toks) (fun b u q=>Zd _ q) (Vg (Ys _ _)) ?_;have ne:s.heap.objs.size≠s.heap.objs.size+1:=Zz (Jq _);refine⟨by rw[zH ne,zB],ZT _,ne,e2,fun _=>none,(Heap.Ns1.of_empty e3).at fun o q=>Zd _ q,fun _=>Lc,fun y hy=>absurd rfl hy⟩
theorem PK {prog:Ei}{w:Em}{env:Env}{e:EF}{f:Str}{pos:Pos}{s:Ej}{Q:Eg->Dh}(hb:Lu e f env (E1 e env)=E1 e env)
  (h:Ek (Es prog w) A (E1 e env) (fun o s₁=>Ek (Es prog w) A (getAttr o f true) Q E s₁) E s):Ek (Es prog w) A (E1 (.Attribute e f pos) env) Q E s :=
 Attribute_any_ h (by rw[arm_eval_Attribute,hb])
end
def W8 (K:Cd)(ta:TE)(f:Str):TE:=fun σ H Q=>ta σ H fun x H1=>∃a C dx fs v,x=.ref a/\H1 a=some (.ins C dx fs)/\Cls K C/\NoAttr K C f/\fs.lookup f=some v/\Q v H1
def W4 (K:Cd)(ta tv:TE)(f:Str):TS:=fun D σ H=>tv σ H fun y H1=>ta σ H1 fun x H2=>∃a C dx fs,x=.ref a/\H2 a=some (.ins C dx fs)/\Cls K C/\NoAttr K C f/\fs.length<1000 /\
 D.nx σ (upd H2 a (.ins C dx (Us f y fs)))
section
variable {X:Cx}{o e value:EF}{f:Str}{pos DM tpos:Pos}{ta tv:TE}
theorem j5 (he:PE X e ta)(hb:Lu e f X.env (E1 e X.env)=E1 e X.env):PE X (.Attribute e f pos) (W8 X.K ta f):=by
 intro Dp s σ H Q I h;refine PK hb (Ci (he Dp s σ H _ I h) fun u s1 ⟨x,H1,I1,rx,a,C,dx,fs,v,ex,ea,c,n,l,q⟩=>?_);subst ex;obtain rfl:u=Eu a:=rx;exact Hq I1 ea c n l fun u' s2 I2 ru=>⟨v,H1,I2,ru,q⟩
theorem HQ (ha:PE X o ta)(hv:PE X value tv)(hs:Mm value (some (.Attribute o f DM)) pos.line X.env=Lx false):PS X (.Assign [.Attribute o f DM] value pos) (W4 X.K ta tv f):=by
 intro Dp s σ H D I h;refine plainObj_wpAny_Assign_Attribute (Ci (hv Dp s σ H _ I h) fun u s1 ⟨y,H1,I1,ry,q⟩=>Ci (ha Dp s1 σ H1 _ I1 q) fun ov s2 ⟨x,H2,I2,rx,a,C,dx,fs,ex,ea,c,n,l,q2⟩=>?_) hs;subst ex;obtain rfl:ov=Eu a:=rx;exact HX I2 ea c n l ry fun s3 I3=>⟨σ,_,I3,q2⟩
end
section
variable {X:Cx}{Dp:De}{σ:St}{H:Hp}{s:Ej}{A:EC}{E:Eg->Dh}{Q:Eg->Dh}{c:Eg}{b:Bool}
inductive TyOf (K:Cd)(H:Hp):V->Eg->Prop where
 |non:TyOf K H .non (.type "NoneType")
 |bl (x:Bool):TyOf K H (.bl x) (.type "bool")
 |int (i:Int):TyOf K H (.int i) (.type "int")
 |str (x:Str):TyOf K H (.str x) (.type "str")
 |flt (x:UInt64):TyOf K H (.flt x) (.type "float")
 |lst {a:Eh} {xs:Dj} (e:H a=some (.lst xs)):TyOf K H (.ref a) (.type "list")
 |frz {a:Eh} {o:Obj} {xs:Dj} (e:H a=some (.frz o (.lst xs))):TyOf K H (.ref a) (.type "list")
 |tup {a:Eh} {xs:Dj} (e:H a=some (.tup xs)):TyOf K H (.ref a) (.type "tuple")
 |dK {a:Eh} {Dm:Dl} (e:H a=some (.dK Dm)):TyOf K H (.ref a) (.type "dict")
 |dT {a:Eh} {Dm:List (List Key×V)} (e:H a=some (.dT Dm)):TyOf K H (.ref a) (.type "dict")
 |ins {a C dx:Eh} {fs:List (Str×V)} (e:H a=some (.ins C dx fs)) (cl:Cls K C) (ha:EH K (.ref C) "__class__"=some (some (.builtin "object.__class__")))
   (hn:PySem.W.specialIn K (.builtin "object.__class__") "__get__"=some (some (.builtin "getset_descriptor.__get__"))) (htk:PySem.W.takesIn K (.builtin "object.__class__")=some true)
   (hm:PySem.W.mroIn K C (.type "object")=some true):TyOf K H (.ref a) (.ref C)
theorem jQ (I:Inv X Dp σ H s)(rx:RelV x u)(ty:TyOf X.K H x t)(e:Ly X.K t c=some b)(h:∀tk,Q (.bool b) { s with toks:=tk }) :
  Ek (Es X.prog X.w) A (call (.builtin "isinstance") [u,c]) Q E s:=by
 cases ty with
 |non=>cases(show u=EE from rx);exact Yb PySem.W.kitx_none I.kIn Lc e (fun z=>nomatch z) h
 |bl y=>cases(show u=LV y from rx);exact Yb PySem.W.kitx_bool I.kIn Lc e (fun z=>nomatch z) h
 |int i=>obtain⟨t,q⟩:=(show∃t,u=Mj i t from rx);cases q;exact Yb PySem.W.kitx_int I.kIn Lc e (fun z=>nomatch z) h
 |str y=>obtain⟨t,q⟩:=(show∃t,u=LX y t from rx);cases q;exact Yb PySem.W.kitx_str I.kIn Lc e (fun z=>nomatch z) h
 |flt y=>obtain⟨t,q⟩:=(show∃t,u=Value.float y t from rx);cases q;exact Yb PySem.W.kitx_float I.kIn Lc e (fun z=>nomatch z) h
 | @lst a xs ea =>
  cases(show u=Eu a from rx);obtain⟨_,_,n,_,h1⟩:=(show ObjOk X.prog X.w H s.heap a (.lst xs) from I.hok a _ ea);exact Yb VU I.kIn ⟨_,h1,rfl⟩ e (fun z=>nomatch z) h
 | @frz a ob xs ea =>
  cases(show u=Eu a from rx);obtain⟨_,_,_,n,_,h1⟩:=(show ObjOk X.prog X.w H s.heap a (.frz ob (.lst xs)) from I.hok a _ ea);exact Yb VU I.kIn ⟨_,h1,rfl⟩ e (fun z=>nomatch z) h
 | @tup a xs ea =>
  cases(show u=Eu a from rx);obtain⟨_,_,_,p⟩:=(show ObjOk X.prog X.w H s.heap a (.tup xs) from I.hok a _ ea);obtain⟨o,h1,h2,_⟩:=p;exact Yb PySem.W.kitx_tuple I.kIn ⟨o,h1,h2⟩ e (fun z=>nomatch z) h
 | @dK a Dm ea =>
  cases(show u=Eu a from rx);obtain⟨_,_,vs,_,p⟩:=(show ObjOk X.prog X.w H s.heap a (.dK Dm) from I.hok a _ ea);obtain⟨o,es,ep,h1,h2,_⟩:=p;exact Yb VV I.kIn ⟨o,h1,h2.1⟩ e (fun z=>nomatch z) h
 | @dT a Dm ea =>
  cases(show u=Eu a from rx);obtain⟨_,_,xs,_,o,es,ep,h1,h2,_⟩:=(show ObjOk X.prog X.w H s.heap a (.dT Dm) from I.hok a _ ea);exact Yb VV I.kIn ⟨o,h1,h2.1⟩ e (fun z=>nomatch z) h
 | @ins a C dx fs ea cl ha hn htk hm =>
  cases(show u=Eu a from rx);obtain⟨mA,O,_⟩:=XT I.hok ea;obtain⟨od,J,_⟩:=O.look;exact Yb (PySem.W.kitx_own (cl.get _) cl.hd ha hn htk hm) I.kIn J e (fun z=>nomatch z) h
end
structure Room (k:Nat)(A:EC):Prop where
 hd:A.handled=none
 dp:A.depth+3*k+5<recursionLimit
 un:A.units+16*k+200<E5
theorem Room.mono {j:Nat}(r:Room k A)(h:j<=k):Room j A:=⟨r.hd,by have:=r.dp;omega,by have:=r.un;omega⟩
theorem Room.m {j:Nat}(r:Room k A)(h:j<=k:=by decide):Room j A:=r.mono h
theorem Room.deeper {k:Nat}(r:Room (k+1) A)(env:Env):Room k (A.deeper env) :=
 ⟨r.hd,by have:=r.dp;show A.depth+1+3*k+5<_;omega,by have:=r.un;show A.units+3+16*k+200<_;omega⟩
theorem HD {A:EC}{C:Eh}{us:Db}{kw:List (Str×Eg)}:(A.under (.builtin "type.__call__" ⟨.ref C::us,kw⟩)).depth=A.depth+1:=by
 first|rfl|simp[Around.under,Code.weight,Code.isCreation,Code.isGuard,Code.isCaller,Code.frames,Code.isFrame,guardIds]
theorem HE {A:EC}{C:Eh}{us:Db}{kw:List (Str×Eg)}:(A.under (.builtin "type.__call__" ⟨.ref C::us,kw⟩)).units=A.units+1:=by
 first|rfl|simp[Around.under,Code.cUnits,Code.frames,Code.isFrame]
theorem Room.make {k:Nat}(r:Room (k+1) A)(C:Eh)(us:Db)(kw:List (Str×Eg)):Room k (A.under (.builtin "type.__call__" ⟨.ref C::us,kw⟩)) :=
 ⟨r.hd,by have:=r.dp;rw[HD];omega,by have:=r.un;rw[HE];omega⟩
theorem Room.depth (r:Room k A):A.depth<recursionLimit:=by have:=r.dp;omega
theorem Room.units (r:Room k A):A.units+64<cLine:=by have:=r.un;omega
def Nu:TA:=fun _ H Q=>Q [] H
def Wi (ta:TE)(tr:TA):TA:=fun σ H Q=>ta σ H fun x H1=>tr σ H1 fun xs H2=>Q (x::xs) H2
section
variable {X:Cx}{e:EF}{es:List EF}{te:TE}{t:TA}{pos:Pos}
theorem zC:PA X [] Nu:=fun _ _ _ _ H Q I h=>Lp ⟨[],H,I,.nil,h⟩
theorem zA (ha:PE X e te)(hr:PA X es t)(hs:Ev (e::es) X.env=(false,E1 e X.env)::Ev es X.env:=by rfl):PA X (e::es) (Wi te t):=by
 intro pos Dp s σ H Q I h;rw[hs];show Ek _ _ (spliced ((false,E1 e X.env)::E8 pos (Ev es X.env))) _ _ s;refine Ld (Ci (ha Dp s σ H _ I h) fun u s1 ⟨x,H1,I1,r1,q1⟩=>?_);exact Ci (hr pos Dp s1 σ H1 _ I1 q1) fun us s2 ⟨xs,H2,I2,r2,q2⟩=>⟨x::xs,H2,I2,.cons r1 r2,q2⟩
def aj (t:TA):TE:=fun σ H Q=>t σ H fun xs H1=>xs.length<=sizeLine/\∀p,H1 p=none->Q (.ref p) (upd H1 p (.tup xs))
def ad (t:TA):TE:=fun σ H Q=>t σ H fun xs H1=>xs.length<=sizeLine/\∀p,H1 p=none->Q (.ref p) (upd H1 p (.lst xs))
theorem uM {x1}(h:PA X es t):PE X (.Tuple es x1 pos) (aj t):=by
 intro Dp s σ H Q I hq;refine wpAny_Tuple_spliced (Ci (h pos Dp s σ H _ I hq) fun us s1 ⟨xs,H1,I1,r,z,q⟩=>⟨by rw[←r.length];exact z,?_⟩);have hf:H1 s1.heap.objs.size=none:=I1.hok.fresh (Ze _);refine⟨.ref s1.heap.objs.size,upd H1 s1.heap.objs.size (.tup xs),I1.laid (t':=s1.toks) (fun b u e=>Zd _ e) (Ze _) ?_,rfl,q _ hf⟩;exact⟨z,us,r,TupAt.new _ _⟩
theorem q8 (h:PA X es t):PE X (.List es pos) (ad t):=by
 intro Dp s σ H Q I hq;refine wpAny_List_spliced (Ci (h pos Dp s σ H _ I hq) fun us s1 ⟨xs,H1,I1,r,z,q⟩=>⟨by rw[←r.length];exact z,?_⟩);have hf:H1 s1.heap.objs.size=none:=I1.hok.fresh (Ze _);refine⟨.ref s1.heap.objs.size,upd H1 s1.heap.objs.size (.lst xs),I1.laid (t':=s1.toks) (fun b u e=>Zd _ e) (Ze _) ?_,rfl,q _ hf⟩;exact⟨z,us,0,r,Zo _ rfl⟩
end
abbrev Sp:=Dj->Hp->VK->XK->Prop
abbrev ND:=List Env->Hp->Ej->XK->Eg->Dh
structure Env0 (P:Ei)(w:Em)(K:Cd)(mg:Str->Dc)(base:Ez)(A:EC)(outer:List Env)(s:Ej)(H:Hp):Prop where
 frames:A.frames=some outer
 mod:Mod K mg base
 bs:∀b o,base.get? b=some o->s.heap.get? b=some o/\H b=none
 bsz:base.objs.size<=s.heap.objs.size
 funs:s.heap.FunFrames base outer
 frf:∀b∈frs outer,H b=none
 hok:HOk P w H s.heap
 bare:Mg s.gens
def CE (outer:List Env)(P:Ei)(w:Em)(H:Hp)(s:Ej)(Q:VK)(u:Eg)(s':Ej):Prop :=
 ∃v H',s'.os=s.os/\Mg s'.gens/\Un (frs outer) [] H H' s.heap s'.heap/\HOk P w H' s'.heap/\RelV v u/\Q v H'
def CR (CX:ND)(outer:List Env)(P:Ei)(w:Em)(H:Hp)(s:Ej)(Q:VK)(E:XK)(r:Result)(s':Ej):Prop :=
 match r with
 | .ok (.ret u)=>CE outer P w H s Q u s'
 | .ok _=>False
 | .error e=>CX outer H s E e s'
structure FnOk (P:Ei)(w:Em)(K:Cd)(mg:Str->Dc)(base:Ez)(CX:ND)(k:Nat)(f:Eh)(fd:El)(ps:Da)(sp:Sp):Prop where
 len:∀vs H Q E,sp vs H Q E->vs.length=ps.length
 run:∀(A:EC) (outer:List Env) (s:Ej) (H:Hp) (args:Args) (us:Db) (vs:Dj) (Q:VK) (E:XK),Room k A->Env0 P w K mg base A outer s H->BindsTo s fd args (ps.zip us)->Vals vs us->sp vs H Q E ->
  LU (Es P w) A (.call (.ref f) args) (CR CX outer P w H s Q E) s
theorem Env0.make {K:Cd}(e:Env0 P w K mg base A outer s H)(C:Eh)(us:Db)(kw:List (Str×Eg)) :
  Env0 P w K mg base (A.under (.builtin "type.__call__" ⟨.ref C::us,kw⟩)) outer s H:=⟨by first|exact e.frames|(simpa[Around.under,Code.envs,Code.isFrame,pushEnvs] using e.frames),e.mod,e.bs,e.bsz,e.funs,e.frf,e.hok,e.bare⟩
section
variable {X:Cx}{Dp:De}{σ:St}{H:Hp}{s s':Ej}
theorem Inv.env0 (I:Inv X Dp σ H s):Env0 X.prog X.w X.K X.mg X.base X.A X.stack s H :=
 ⟨I.ok.frames,I.ok.mod,I.bs,Z5 I.ok.bsz I.sz,I.stack,I.stkFree,I.hok,I.bare⟩
theorem Inv.after (I:Inv X Dp σ H s)(h:CE X.stack X.prog X.w H s Q u s'):EP X Dp σ Q u s':=by
 obtain⟨v,H',os,bare,un,hok,r,q⟩:=h;obtain⟨hh,g,d,t,os'⟩:=s';obtain rfl:os'=s.os:=os;exact⟨v,H',I.call (h':=hh) (g':=g) (d':=d) (t':=t) (ch:=[]) un hok bare (fun b z=>absurd z (by simp)),r,q⟩
end
def R4 (sp:Sp)(dvs:Dj)(E:XK)(t:TA):TE:=fun σ H Q=>t σ H fun vs H1=>sp (vs++dvs) H1 Q E
def MD (C:Eh)(m:Str)(sp:Sp)(dvs:Dj)(E:XK)(ta:TE)(t:TA):TE:=fun σ H Q=>ta σ H fun x H1=>∃a dx fs,x=.ref a/\H1 a=some (.ins C dx fs)/\fs.lookup m=none /\
 t σ H1 fun vs H2=>sp (x::(vs++dvs)) H2 Q E
def R6 (C:Eh)(sp:Sp)(dvs:Dj)(E:XK)(t:TA):TE:=fun σ H Q=>t σ H fun vs H1=>∀x dx,H1 x=none->H1 dx=none->dx≠x ->
 sp (.ref x::(vs++dvs)) (upd (upd H1 dx (.own x)) x (.ins C dx [])) (fun v H2=>v=.non/\Q (.ref x) H2) E
def Binds (K:Cd)(fd:El)(ps:Da)(ds:Db):Prop :=
 ∀(s:Ej) (us:Db),K.In s.heap->(us++ds).length=ps.length->BindsTo s fd ⟨us,[]⟩ (ps.zip (us++ds))
theorem Binds.all {K:Cd}{fd:El}{ps:Da}(h:∀us:Db,us.length=ps.length->bindArgs fd ⟨us,[]⟩=Lx (ps.zip us)):Binds K fd ps []:=fun s us _ hl=>by
 rw[Zs]at hl ⊢;exact .of_eq (h us hl)
def vO (CX:ND)(X:Cx)(E:XK):Prop:=∀(Dp:De) (σ:St) (H:Hp) (s:Ej) (e:Eg) (s':Ej),Inv X Dp σ H s->CX X.stack H s E e s'->X.xe e s'
section
variable {X:Cx}{CX:ND}{k:Nat}{f C:Eh}{fd:El}{ps:Da}{sp:Sp}{dvs:Dj}{ds:Db}{E:XK}{x m:Str}{p pos Ds:Pos}{e o:EF}{es:List EF}{ta:TE}{t:TA}
theorem HW {Dp:De}{σ:St}{H:Hp}{s:Ej}{Q:VK}{us:Db}{vs:Dj}(F:FnOk X.prog X.w X.K X.mg X.base CX k f fd ps sp)(hr:Room k X.A)(hb:Binds X.K fd ps ds)(hd:Vals dvs ds)(hx:vO CX X E)
  (I:Inv X Dp σ H s) (r:Vals vs us) (h:sp (vs++dvs) H Q E):Ek (Es X.prog X.w) X.A (call (.ref f) us) (EP X Dp σ Q) X.xe s:=by
 have r2:Vals (vs++dvs) (us++ds):=r.append hd;have hl:(us++ds).length=ps.length:=by rw[←r2.length];exact F.len _ _ _ _ h
 refine V9 (Y8 (F.run X.A X.stack s H ⟨us,[]⟩ (us++ds) (vs++dvs) Q E hr I.env0 (hb s us I.kIn hl) r2 h) fun r s' hq=>?_);cases r with
 |error e=>exact hx Dp σ H s e s' I hq
 |ok fl =>
  cases fl with
  |ret u=>exact I.after hq
  |next=>exact EB hq
  |brk=>exact EB hq
  |cont=>exact EB hq
theorem Ri (F:FnOk X.prog X.w X.K X.mg X.base CX k f fd ps sp)(hr:Room k X.A)(hg:Gl X x)(hm:X.mg x=some (.ref f))(hk:ES X.K (.ref f)=true)(hb:Binds X.K fd ps ds)(hd:Vals dvs ds)(hx:vO CX X E)
  (ha:PA X (e::es) t) (hdb:(x==("__debug__":Str))=false:=by decide) (he:Ev (e::es) X.env=(false,E1 e X.env)::Ev es X.env:=by rfl) (hpl:(E8 pos (Ev es X.env)).any (·.1)=false:=by rfl) :
  PE X (.Call (.Name x p) (e::es) [] pos) (R4 sp dvs E t):=by
 intro Dp s σ H Q I h;refine Jd (kC I hg hm ?_ hdb);refine Jz (h₀:=X.base) I.ok.mod.kin hk (Ci (ha pos Dp s σ H _ I h) fun us s1 ⟨vs,H1,I1,r,q⟩=>⟨I1.kIn,?_⟩) he hpl;exact HW F hr hb hd hx I1 r q
theorem Ro {pl:Sem Bool}(he:PE X o ta)(c:Cls X.K C)(hm:Meth X.K C m f)(F:FnOk X.prog X.w X.K X.mg X.base CX k f fd ps sp)(hr:Room k X.A)(hb:Binds X.K fd ps ds)(hd:Vals dvs ds)(hx:vO CX X E)(ha:PA X (e::es) t)
  (hst:Ev (e::es) X.env=(false,E1 e X.env)::Ev es X.env:=by rfl) (hpl:(E8 pos (Ev es X.env)).any (·.1)=false:=by rfl)
  (ht:E1 (.Call (.Attribute o m Ds) (e::es) [] pos) X.env=(do
   let ov ←E1 o X.env
   standAt Ds.atName
   let (f,first) ←L8 [ov] (Mn ov m pl)
   callWith pos f first (E8 pos (Ev (e::es) X.env)) (Mc pos (LD [] X.env))):=by rfl) :
  PE X (.Call (.Attribute o m Ds) (e::es) [] pos) (MD C m sp dvs E ta t):=by
 intro Dp s σ H Q I h;refine Vp (pl:=pl) (Ci (he Dp s σ H _ I h) fun u s1 ⟨x,H1,I1,rx,a,dx,fs,ex,ea,l,q⟩=>?_) ht;subst ex;obtain rfl:u=Eu a:=rx;refine uG I1 ea c hm l ?_;refine Jz (first:=[.ref a]) (h₀:=X.base) I.ok.mod.kin hm.kp (Ci (ha pos Dp s1 σ H1 _ I1 q) fun us s2 ⟨vs,H2,I2,r,q2⟩=>⟨I2.kIn,?_⟩) hst hpl;exact HW (us:=.ref a::us) (vs:=.ref a::vs) F hr hb hd hx I2 (.cons rfl r) q2
theorem OQ {pl:Sem Bool}(he:PE X o ta)(c:Cls X.K C)(hm:Meth X.K C m f)(F:FnOk X.prog X.w X.K X.mg X.base CX k f fd ps sp)(hr:Room k X.A)(hb:Binds X.K fd ps ds)(hd:Vals dvs ds)(hx:vO CX X E)
  (ht:E1 (.Call (.Attribute o m Ds) [] [] pos) X.env=(do
   let ov ←E1 o X.env
   standAt Ds.atName
   let (f,first) ←L8 [ov] (Mn ov m pl)
   callWith pos f first (E8 pos (Ev [] X.env)) (Mc pos (LD [] X.env))):=by rfl) :
  PE X (.Call (.Attribute o m Ds) [] [] pos) (MD C m sp dvs E ta Nu):=by
 intro Dp s σ H Q I h;refine Vp (pl:=pl) (Ci (he Dp s σ H _ I h) fun u s1 ⟨x,H1,I1,rx,a,dx,fs,ex,ea,l,q⟩=>?_) ht;subst ex;obtain rfl:u=Eu a:=rx;refine uG I1 ea c hm l ?_;exact PySem.W.callWith_K0 (first:=[.ref a]) I1.kIn hm.kp (HW (us:=[.ref a]) (vs:=[.ref a]) F hr hb hd hx I1 (.cons rfl .nil) q)
structure Mk (K:Cd)(C f:Eh):Prop where
 makes:Me K C=true
 init:EH K (.ref C) "__init__"=some (some (.ref f))
 fn:Mh K (.ref f)=true
 kp:ES K (.ref C)=true
theorem O8 {Dp:De}{σ:St}{H:Hp}{s:Ej}{Q:VK}{us:Db}{vs:Dj}(M:Mk X.K C f)(F:FnOk X.prog X.w X.K X.mg X.base CX k f fd ps sp)(hr:Room (k+1) X.A)(hb:Binds X.K fd ps ds)(hd:Vals dvs ds)
  (hx:vO CX X E) (I:Inv X Dp σ H s) (r:Vals vs us)
  (h:∀x dx,H x=none->H dx=none->dx≠x->sp (.ref x::(vs++dvs)) (upd (upd H dx (.own x)) x (.ins C dx [])) (fun v H2=>v=.non/\Q (.ref x) H2) E) :
  Ek (Es X.prog X.w) X.A (call (.ref C) us) (EP X Dp σ Q) X.xe s:=by
 have hq:=h (s.heap.objs.size+1) s.heap.objs.size (I.hok.fresh (Ji _)) (I.hok.fresh (Ze _)) (Zz (Jq _));have I2:=Inv.made (C:=C) I;have r2:Vals (V.ref (s.heap.objs.size+1)::(vs++dvs)) (Eu (s.heap.objs.size+1)::(us++ds)):=.cons rfl (r.append hd);have hl:(Eu (s.heap.objs.size+1)::us++ds).length=ps.length:=by
  have e:=r2.length;rw[F.len _ _ _ _ hq]at e;exact e.symm
 refine V9 (Ox (f:=f) I.kIn M.makes M.init (Jy.mp M.fn) (Y8 (F.run _ X.stack _ _ ⟨Eu (s.heap.objs.size+1)::us,[]⟩ (Eu (s.heap.objs.size+1)::(us++ds)) _ _ E (hr.make C us []) (I2.env0.make C us []) (hb _ (Eu (s.heap.objs.size+1)::us) I2.kIn hl) r2 hq) fun r s' hq'=>?_))
 cases r with
 |error e=>exact hx Dp σ _ _ e s' I2 hq'
 |ok fl =>
  cases fl with
  |ret u =>
   obtain⟨v,H',I3,rv,ev,q3⟩:=I2.after hq';subst ev;exact⟨rv,⟨V.ref (s.heap.objs.size+1),H',I3,rfl,q3⟩⟩
  |next=>exact EB hq'
  |brk=>exact EB hq'
  |cont=>exact EB hq'
theorem Rn (M:Mk X.K C f)(F:FnOk X.prog X.w X.K X.mg X.base CX k f fd ps sp)(hr:Room (k+1) X.A)(hg:Gl X x)(hm:X.mg x=some (.ref C))(hb:Binds X.K fd ps ds)(hd:Vals dvs ds)(hx:vO CX X E)
  (ha:PA X (e::es) t) (hdb:(x==("__debug__":Str))=false:=by decide) (he:Ev (e::es) X.env=(false,E1 e X.env)::Ev es X.env:=by rfl) (hpl:(E8 pos (Ev es X.env)).any (·.1)=false:=by rfl) :
  PE X (.Call (.Name x p) (e::es) [] pos) (R6 C sp dvs E t):=by
 intro Dp s σ H Q I h;refine Jd (kC I hg hm ?_ hdb);refine Jz (h₀:=X.base) I.ok.mod.kin M.kp (Ci (ha pos Dp s σ H _ I h) fun us s1 ⟨vs,H1,I1,r,q⟩=>⟨I1.kIn,?_⟩) he hpl;exact O8 M F hr hb hd hx I1 r q
end
structure FnScope (N P:Da)(sc:LP):Prop where
 kind:sc.kind=.function
 co:sc.isCoroutine=false
 gen:sc.isGenerator=false
 nd:N.Nodup
 pre:N.take P.length=P
 par:∀x∈P,sc.names.lookup x=some .local\/sc.names.lookup x=some .cell
 nofree:∀y∈sc.names,y.2≠.free
theorem Cp {N P:Da}{sc:LP}(a:sc.kind=.function:=by rfl)(b:sc.isCoroutine=false:=by rfl)(c:sc.isGenerator=false:=by rfl)(d:N.Nodup:=by decide +kernel)(e:N.take P.length=P:=by rfl)(f:∀x∈P,sc.names.lookup x=some .local\/sc.names.lookup x=some .cell:=by decide +kernel)(g:∀y∈sc.names,y.2≠.free:=by decide +kernel):FnScope N P sc:=⟨a,b,c,d,e,f,g⟩
theorem Bj {kindOf:Str->Option LR}{x:Str}:∀{binds:List (Str×Eg)} {m:Str->Dc},(∀v,(x,v)∉binds)->bindL kindOf binds m x=m x
 |[],_,_=>rfl
 |(n,v)::r,m,h=>by
  unfold bindL;rw[Bj fun w hw=>h w (Za _ hw)]
  split
  ·have:x≠n:=by rintro rfl;exact h v Zc
   simp[this]
  ·rfl
theorem GP {kindOf:Str->Option LR}{x:Str}:∀{binds:List (Str×Eg)} {m:Str->Dc},(∀v,(x,v)∉binds)->bindC kindOf binds m x=m x
 |[],_,_=>rfl
 |(n,v)::r,m,h=>by
  unfold bindC;rw[GP fun w hw=>h w (Za _ hw)]
  split
  ·rfl
  ·have:x≠n:=by rintro rfl;exact h v Zc
   simp[this]
theorem Bf {kindOf:Str->Option LR}{x:Str}{v:Eg}:∀{P:Da} {vs:Db} {i:Nat} {m:Str->Dc},P.Nodup->P[i]?=some x->vs[i]?=some v->kindOf x=some .local ->
  bindL kindOf (P.zip vs) m x=some v
 |[],_,_,_,_,h,_,_=>by simp at h
 |_::_,[],_,_,_,_,h,_=>by simp at h
 |p::P,w::vs,0,m,nd,h1,h2,hk=>by
  simp at h1 h2;subst h1;subst h2;show bindL kindOf ((p,w)::P.zip vs) m p=_;unfold bindL;rw[Bj fun v hv=>(Z8.mp nd).1 (J3 hv).1,Zy hk];simp
 |p::P,w::vs,i+1,m,nd,h1,h2,hk=>by
  show bindL kindOf ((p,w)::P.zip vs) m x=_;unfold bindL;exact Bf (i:=i) (Z8.mp nd).2 (by simpa using h1) (by simpa using h2) hk
theorem GT {kindOf:Str->Option LR}{x:Str}{v:Eg}:∀{P:Da} {vs:Db} {i:Nat} {m:Str->Dc},P.Nodup->P[i]?=some x->vs[i]?=some v->kindOf x≠some .local ->
  bindC kindOf (P.zip vs) m x=some v
 |[],_,_,_,_,h,_,_=>by simp at h
 |_::_,[],_,_,_,_,h,_=>by simp at h
 |p::P,w::vs,0,m,nd,h1,h2,hk=>by
  simp at h1 h2;subst h1;subst h2;show bindC kindOf ((p,w)::P.zip vs) m p=_;unfold bindC;rw[GP fun v hv=>(Z8.mp nd).1 (J3 hv).1,ZA hk];simp
 |p::P,w::vs,i+1,m,nd,h1,h2,hk=>by
  show bindC kindOf ((p,w)::P.zip vs) m x=_;unfold bindC;exact GT (i:=i) (Z8.mp nd).2 (by simpa using h1) (by simpa using h2) hk
def start (N:Da)(vs:Dj):St:=vs.map some++EL (N.length-vs.length) none
def Bz (CX:ND)(P:Ei)(w:Em)(K:Cd)(mg:Str->Dc)(base:Ez)(N:Da)(qual:Str)(scope:LP)(f:Eh)(cd:Eg)(A:EC)(outer:List Env)(s:Ej)(H:Hp)(E:XK):Cx where
 prog:=P
 w:=w
 K:=K
 mg:=mg
 base:=base
 A:=A.deeper (envOfC qual scope s.heap.objs.size f cd)
 N:=N
 s₀:=s
 H₀:=H
 env:=envOfC qual scope s.heap.objs.size f cd
 outer:=outer
 stack:=envOfC qual scope s.heap.objs.size f cd::outer
 ex:=[]
 calm:=true
 fn:=fun _=>true
 pn:=[]
 xe:=fun e s'=>Ek (Es P w) (A.deeper (envOfC qual scope s.heap.objs.size f cd)) (leaving (envOfC qual scope s.heap.objs.size f cd) e) (fun _ s''=>CX outer H s E e s'') (fun e' s''=>CX outer H s E e' s'') s'
theorem CI {sc:LP}{n:Nat}{x:Str}(h:sc.names.lookup x=some .cell):∃c,(cellsFrom n sc.names []).lookup x=some c:=by
 have q:=PySem.W.cellsFrom_some sc.names n [] (.inl h);exact JX.mp q
theorem M8 {CX:ND}{P:Ei}{w:Em}{K:Cd}{mg:Str->Dc}{base:Ez}{N ps:Da}{qual:Str}{scope:LP}{f:Eh}{cd:Eg}{A:EC}{outer:List Env}{s s1:Ej}{H:Hp}{E:XK}{us:Db}{vs:Dj}
  (S:FnScope N ps scope) (hd:A.handled=none) (e0:Env0 P w K mg base A outer s H) (hl:vs.length=ps.length) (r:Vals vs us)
  (x:InCallC s s.heap.objs.size (bindL (envOfC qual scope s.heap.objs.size f cd).kindOf (ps.zip us) fun _=>none) (cellsFrom (s.heap.objs.size+1) scope.names []) (bindC (envOfC qual scope s.heap.objs.size f cd).kindOf (ps.zip us) fun _=>none) s1) :
  Inv (Bz CX P w K mg base N qual scope f cd A outer s H E) [] (start N vs) H s1:=by
 have hpl:ps.length<=N.length:=by have:=congrArg List.length S.pre;rw[ZD]at this;omega
 obtain⟨h1,tk,rfl,hk⟩:=x.done;have noA:∀b:Eh,b∉(Bz CX P w K mg base N qual scope f cd A outer s H E).ex:=fun b z=>absurd (show b∈([]:Dd) from z) (by simp);refine⟨⟨e0.mod,S.kind,rfl,rfl,Ze _,fun y z c h1 h2=>?_,fun y hy=>?_,fun y c _ h=>?_,fun _=>hd,Around.frames_deeper e0.frames,.inr ⟨rfl,rfl⟩,fun b z=>absurd z (noA b),e0.bs,e0.bsz,fun b _ _=>noA b,fun b z=>absurd z (noA b),e0.funs,e0.frf⟩,rfl,e0.bare,Un.kept hk,⟨_,x.toInCall.ns,fun i y v h1 h2 h3=>?_⟩,fun y c h=>⟨_,x.cell y c h⟩,e0.hok.fresh (Ze _),fun y c h=>?_,fun p hp=>absurd (show p∈([]:De) from hp) (by simp),e0.hok.kept hk,?_⟩
 ·exact name_of_addr x.apart (YR h1) (YR h2)
 ·have hy:scope.names.lookup y=some .cell\/scope.names.lookup y=some .free:=hy
  rcases hy with hy|hy
  ·exact CI hy
  ·exact absurd rfl (S.nofree _ (YR hy))
 ·exact YF (x.above y c (YR h))
 ·have hi:i<vs.length:=by
   unfold start at h2
   by_cases hi:i<vs.length
   ·exact hi
   ·rw[ZU (by simpa using hi)]at h2;rw[List.getElem?_replicate]at h2
    split at h2<;>cases h2
  have ha:vs[i]?=some v:=by
   unfold start at h2;rw[ZR (by simpa using hi),Zp]at h2;cases e:vs[i]? with
   |none=>rw[e]at h2;cases h2
   |some a=>rw[e]at h2;cases h2;rfl
  obtain⟨u,hu,rv⟩:=r.get ha;have hp:ps[i]?=some y:=by
   rwa[←S.pre,List.getElem?_take_of_lt (by omega)]
  have ndP:ps.Nodup:=by rw[←S.pre];exact S.nd.sublist (List.take_sublist _ _)
  refine⟨u,rv,?_⟩
  rcases S.par y (Zm hp) with k|k
  ·exact .inl ⟨k,Bf ndP hp hu k⟩
  ·obtain⟨c,e⟩:=CI (n:=s.heap.objs.size+1) k;refine .inr ⟨.inl k,c,e,?_⟩;have q:=x.cell y c e;rw[GT ndP hp hu (by show scope.names.lookup y≠_;rw[k];decide)]at q;exact q
 ·exact e0.hok.fresh (YF (x.above y c (YR h)))
 ·unfold start;show _=N.length;rw[Zj,Q7,List.length_replicate];omega
theorem RT {CX:ND}{P:Ei}{w:Em}{K:Cd}{mg:Str->Dc}{base:Ez}{k:Nat}{f:Eh}{name qual:Str}{params:Arguments}{body:List EI}{scope:LP}{dV kV doc pm cdv ct oc:Eg}{an od:Option Eh}
  {osl:Array Dc} {N ps:Da} {sp:Sp} (lk:K.lookup f=some ⟨oc,od,.func (E6 name qual params body scope dV kV doc pm an cdv ct),osl⟩) (hcd:Lz K cdv qual=true) (S:FnScope N ps scope)
  (len:∀vs H Q E,sp vs H Q E->vs.length=ps.length)
  (Ec:∀(A:EC) (outer:List Env) (s:Ej) (H:Hp) (vs:Dj) (Q:VK) (E:XK),Room k (A.deeper (envOfC qual scope s.heap.objs.size f cdv))->sp vs H Q E -> ∃t,PSs (Bz CX P w K mg base N qual scope f cdv A outer s H E) body t/\t { nx:=fun _ H'=>Q .non H',rt:=Q } (start N vs) H) :
  FnOk P w K mg base CX (k+1) f (E6 name qual params body scope dV kV doc pm an cdv ct) ps sp:=by
 refine⟨len,fun A outer s H args us vs Q E hr e0 hb r hsp=>?_⟩;have hl:=len _ _ _ _ hsp;have KX:K.In s.heap:=e0.mod.kin.keeps fun b o e=>(e0.bs b o e).1;have lim:s.heap.NoLimit:=e0.mod.nolimit.keeps fun b o e=>(e0.bs b o e).1;have hkind:∀y∈ps.zip us,scope.names.lookup y.1=some .local\/(scope.names.lookup y.1=some .cell/\((cellsFrom (s.heap.objs.size+1) scope.names []).lookup y.1).isSome=true):=fun⟨n,v⟩ hy=>by
  rcases S.par n (J3 hy).1 with q|q
  ·exact .inl q
  ·exact .inr ⟨q,PySem.W.cellsFrom_some _ _ _ (.inl q)⟩
 refine codeAny_call_function hr.depth (KX _ _ lk) rfl S.co S.gen rfl (PySem.W.codeRec_of KX hcd) (hb _ _ _ _ ?_);refine wpAny_newFunctionEnv_cells S.kind hkind fun env he s1 x=>?_;subst he;refine⟨lim.keeps x.toInCall.keep,codeAny_func ?_⟩;obtain⟨t,ht,hq⟩:=Ec A outer s H vs Q E (hr.deeper _) hsp;have I:Inv (Bz CX P w K mg base N qual scope f cdv A outer s H E) [] (start N vs) H s1:=M8 S hr.hd e0 hl r x;refine Yk (ht [] s1 (start N vs) H _ I hq) (fun fl s' hs=>?_) fun e s' hs=>hs;have fin:∀{σ':St} {H':Hp} {v:V} {u:Eg},Inv (Bz CX P w K mg base N qual scope f cdv A outer s H E) [] σ' H' s'->RelV v u->Q v H'->CE outer P w H s Q u s' :=
  fun{σ' H' v u} J rv q=>⟨v,H',J.os,J.bare,J.base,J.hok,rv,q⟩
 cases fl with
 |ret u =>
  obtain⟨v,σ',H',J,rv,q⟩:=hs;exact fin J rv q
 |next =>
  obtain⟨σ',H',J,q⟩:=hs;exact fin (v:=V.non) (u:=EE) J rfl q
 |brk =>
  obtain⟨_,_,_,q⟩:=hs;exact EB q
 |cont =>
  obtain⟨_,_,_,q⟩:=hs;exact EB q
section
variable {X:Cx}{x:Str}{p pos:Pos}{e:EF}{es:List EF}{t:TA}{id T:String}{r:Dj->Hp->VK->Prop}
def av (r:Dj->Hp->VK->Prop)(t:TA):TE:=fun σ H Q=>t σ H fun vs H1=>r vs H1 Q
theorem zL (hc:CallR X (.builtin id) r)(hg:Gl X x)(hm:X.mg x=none)(hv:LL x=some (.builtin id))(ha:PA X (e::es) t)(hn:x≠"__name__":=by decide)(hdb:(x==("__debug__":Str))=false:=by decide)
  (he:Ev (e::es) X.env=(false,E1 e X.env)::Ev es X.env:=by rfl) (hpl:(E8 pos (Ev es X.env)).any (·.1)=false:=by rfl):PE X (.Call (.Name x p) (e::es) [] pos) (av r t):=by
 intro Dp s σ H Q I h;refine Jd (Xk I hg hm hv ?_ hn hdb);exact Vu (Ci (ha pos Dp s σ H _ I h) fun us s1 ⟨vs,H1,I1,r1,q1⟩=>hc Dp s1 σ H1 vs us Q I1 r1 q1) he hpl
theorem yB (hc:CallR X (.type T) r)(hg:Gl X x)(hm:X.mg x=none)(hv:LL x=some (.type T))(ha:PA X (e::es) t)(hn:x≠"__name__":=by decide)(hdb:(x==("__debug__":Str))=false:=by decide)
  (he:Ev (e::es) X.env=(false,E1 e X.env)::Ev es X.env:=by rfl) (hpl:(E8 pos (Ev es X.env)).any (·.1)=false:=by rfl):PE X (.Call (.Name x p) (e::es) [] pos) (av r t):=by
 intro Dp s σ H Q I h;refine Jd (Xk I hg hm hv ?_ hn hdb);exact JK (Ci (ha pos Dp s σ H _ I h) fun us s1 ⟨vs,H1,I1,r1,q1⟩=>hc Dp s1 σ H1 vs us Q I1 r1 q1) he hpl
end
end L2
namespace HT
open PySem PyProof.Rows
section
variable {prog:Ei}{w:Em}{A:EC}{E:Eg->Dh}{s:Ej}
def sIx (n d:Nat):Option Int->Nat
 |none=>d
 |some v=>if v<0 then(v+(n:Int)).toNat else min v.toNat n
theorem sIx_none (n d:Nat):sIx n d none=d:=rfl
theorem sIx_nat (n d k:Nat):sIx n d (some (k:Int))=min k n:=by
 show(if(k:Int)<0 then((k:Int)+(n:Int)).toNat else min (k:Int).toNat n)=min k n;rw[ZA (by omega),Int.toNat_natCast]
theorem SY (n d:Nat)(hd:d<=n)(o:Option Int):sIx n d o<=n:=by
 cases o with
 |none=>exact hd
 |some v =>
  show(if v<0 then(v+(n:Int)).toNat else min v.toNat n)<=n
  by_cases hv:v<0
  ·rw[Zy hv];omega
  ·rw[ZA hv];exact Nat.min_le_right _ _
theorem Kq (v:Int)(n d:Nat):(if v<0 then max (v+(n:Int)) 0 else min v (n:Int))=((sIx n d (some v):Nat):Int):=by
 show(if v<0 then max (v+(n:Int)) 0 else min v (n:Int))=(((if v<0 then(v+(n:Int)).toNat else min v.toNat n):Nat):Int)
 by_cases hv:v<0
 ·simp only[Zy hv];omega
 ·simp only[ZA hv];omega
theorem F9 (lo hi:Option Int)(n:Nat):LN lo hi 1 (n:Int)=(((sIx n 0 lo:Nat):Int),((sIx n n hi:Nat):Int)):=by
 have h1:¬((1:Int)<0):=by omega
 unfold LN;simp only[h1,JY];refine Ln ?_ ?_
 ·cases lo with
  |none=>rfl
  |some v=>exact Kq v n 0
 ·cases hi with
  |none=>rfl
  |some v=>exact Kq v n n
theorem HP (i j:Nat):Lo (i:Int) (j:Int) 1=j-i:=by
 unfold Lo;have h1:(1:Int)>0:=by omega
 simp only[h1,if_true,Int.ediv_one]
 split<;>omega
theorem Gj {v:Eg}{o:Option Int}{Q:Option Int->Dh}(p:Mu v o)(h:Q o s):Ek (Es prog w) A (Builtin.Slice.slicePartIndex v) Q E s:=by
 cases p with
 |none=>exact slicePart_none h
 |int i t=>exact slicePart_int h
theorem qY {sl:Eh}{vl vu:Eg}{lo hi:Option Int}{n:Nat}{Q:Int×Int×Nat->Dh}(hs:s.heap.IsSliceOf sl vl vu .none)(pl:Mu vl lo)(pu:Mu vu hi)
  (h:Q (((sIx n 0 lo:Nat):Int),1,sIx n n hi-sIx n 0 lo) s):Ek (Es prog w) A (Builtin.Slice.sliceApplied (.ref sl) (Lx (n:Int))) Q E s:=by
 obtain⟨os,hos,hcs,hds⟩:=id hs;unfold Builtin.Slice.sliceApplied Builtin.Slice.sliceFields;refine Q9 (Q9 (Vb hos hds (x:=vl) rfl (Q9 (Vb hos hds (x:=vu) rfl (Q9 (Vb hos hds (x:=.none) rfl (Zg ?_)))))));refine Q9 (slicePart_none ?_);show Ek _ _ (if((1:Int)==0)=true then _ else _) _ _ s;rw[ZA (by decide)];refine Q9 (Gj pl (Q9 (Gj pu (Q9 (Zg ?_)))));show Ek _ _ (match LN lo hi 1 (n:Int) with|(lo,hi)=>Lx (lo,(1:Int),Lo lo hi 1)) _ _ s;rw[F9 lo hi n];show Ek _ _ (Lx (((sIx n 0 lo:Nat):Int),(1:Int),Lo ((sIx n 0 lo:Nat):Int) ((sIx n n hi:Nat):Int) 1)) _ _ s;rw[HP];exact Zg h
theorem OU (xs:Array Eg)(i k:Nat):((EG k).filterMap fun(m:Nat)=>xs[((i:Int)+(m:Int)*1).toNat]?).toArray=((xs.toList.drop i).take k).toArray:=by
 have e:(fun(m:Nat)=>xs[((i:Int)+(m:Int)*1).toNat]?)=fun m=>xs[i+m]?:=by
  funext m
  have:((i:Int)+(m:Int)*1).toNat=i+m:=by omega
  rw[this]
 rw[e];have:=pick_run xs i k;rw[List.filterMap_map]at this;have e2:((fun x=>xs[x]?)∘fun x=>i+x)=fun m=>xs[i+m]?:=rfl;rw[e2]at this;rw[this]
theorem getItem_tuple_cut {t sl:Eh}{Dn:Array Eg}{vl vu:Eg}{lo hi:Option Int}{Q:Eg->Dh}(ht:IsTup s.heap t Dn)(hs:s.heap.IsSliceOf sl vl vu .none)(pl:Mu vl lo)(pu:Mu vu hi)
  (hw:¬(sIx Dn.size 0 lo=0/\sIx Dn.size Dn.size hi=Dn.size))
  (h:Q (.ref s.heap.objs.size) { s with heap:=s.heap.push { cls:=.type "tuple",data:=.seq ((Dn.toList.drop (sIx Dn.size 0 lo)).take (sIx Dn.size Dn.size hi-sIx Dn.size 0 lo)).toArray } })
  (hsz:Dn.size<=sizeLine):Ek (Es prog w) A (Mi (.ref t) (.ref sl)) Q E s:=by
 have htake:sizeOk (.seq ((Dn.toList.drop (sIx Dn.size 0 lo)).take (sIx Dn.size Dn.size hi-sIx Dn.size 0 lo)).toArray):=by
  show((Dn.toList.drop (sIx Dn.size 0 lo)).take (sIx Dn.size Dn.size hi-sIx Dn.size 0 lo)).toArray.size<=sizeLine;rw[Zw,ZD,YH,ZH];omega
 have hj:sIx Dn.size Dn.size hi<=Dn.size:=SY _ _ (Ze _) hi;obtain⟨os,hos,hcs,hds⟩:=id hs;have hTs:s.TypeIs (.ref sl) "slice":=⟨os,hos,hcs⟩;unfold Mi
 try with_reducible refine Yg ?_
 first|refine Q9 (Zg ?_)|skip
 refine Q9 (wpAny_sequenceKey ht.typeIs (by decide) ?_);refine Q9 (YI (name:=EQ "__getitem__") ht.typeIs YU (Yc YU ht.typeIs entry_tuple_getitem ?_ (args_tuple_getitem _ _)))
 show Ek _ _ (LI (.ref t)>>=_) _ _ s;refine Q9 (tupleItemsOf_ ht ?_);refine Q9 (JR hTs ?_);rw[Zy (by decide)];refine Q9 (qY hs pl pu ?_);have hno:¬((((sIx Dn.size 0 lo:Nat):Int)==0&&(1:Int)==1&&(sIx Dn.size Dn.size hi-sIx Dn.size 0 lo)==Dn.size)=true):=by
  intro q;rw[Zk,Zk]at q;have q1:((sIx Dn.size 0 lo:Nat):Int)=0:=Vv q.1.1;have q2:sIx Dn.size Dn.size hi-sIx Dn.size 0 lo=Dn.size:=Vv q.2;exact hw ⟨by omega,by omega⟩
 show Ek _ _ (if(((sIx Dn.size 0 lo:Nat):Int)==0&&(1:Int)==1&&(sIx Dn.size Dn.size hi-sIx Dn.size 0 lo)==Dn.size)=true then _ else _) _ _ s;rw[ZA hno,OU]
 first
  |exact Q9 (m:=Lv _) (Z4 (Zg ⟨_,rfl,Zg h⟩) htake)
  |exact Q9 (m:=Lv _) (Z4 (Q9 (Zg (Zg ⟨_,rfl,Zg h⟩))) htake)
  |exact Q9 (Q9 (m:=Lv _) (Z4 (Zg (Zg ⟨_,rfl,Zg h⟩)) htake))
  |exact Q9 (Q9 (m:=Lv _) (Z4 (Zg ⟨_,rfl,Zg h⟩) htake))
end
end HT
namespace L2
open PySem PySem.Spec PyProof.Rows
abbrev TO:=St->Hp->(Option Int->Hp->Prop)->Prop
def PO (X:Cx)(e:Option EF)(t:TO):Prop :=
 ∀(Dp:De) (s:Ej) (σ:St) (H:Hp) (Q:Option Int->Hp->Prop),Inv X Dp σ H s->t σ H Q ->
  Ek (Es X.prog X.w) X.A (evalPart e X.env) (fun u s'=>∃o H',Inv X Dp σ H' s'/\Mu u o/\Q o H') X.xe s
def RH:TO:=fun _ H Q=>Q none H
def Wn (t:TE):TO:=fun σ H Q=>t σ H fun x H1=>∃i,x=.int i/\Q (some i) H1
section
variable {X:Cx}{e:EF}{te:TE}{lo hi:Option EF}{tl th:TO}{pos p2:Pos}
theorem vR:PO X none RH:=by
 intro Dp s σ H Q I h;rw[evalPart_none];exact Zg ⟨none,H,I,.none,h⟩
theorem vW (h:PE X e te):PO X (some e) (Wn te):=by
 intro Dp s σ H Q I hw;rw[evalPart_some];refine Ci (h Dp s σ H _ I hw) fun u s1 ⟨x,H1,I1,r1,q1⟩=>?_;obtain⟨i,rfl,q⟩:=q1;obtain⟨t,rfl⟩:=r1;exact⟨some i,H1,I1,.int i t,q⟩
def RQ (X:Cx)(r:V->Option Int->Option Int->Hp->VK->Prop):Prop :=
 ∀(Dp:De) (s:Ej) (σ:St) (H:Hp) (x:V) (v vl vu:Eg) (lo hi:Option Int) (sl:Eh) (Q:VK),Inv X Dp σ H s->RelV x v->s.heap.IsSliceOf sl vl vu .none->Mu vl lo->Mu vu hi->r x lo hi H Q ->
  ∃T id,typeLookup (.type T) "__getitem__"=Lx (some (.builtin id))/\s.TypeIs v T/\Ek (Es X.prog X.w) X.A (Mi v (.ref sl)) (EP X Dp σ Q) X.xe s
def tSl (r:V->Option Int->Option Int->Hp->VK->Prop)(te:TE)(tl th:TO):TE:=fun σ H Q=>te σ H fun x H1=>tl σ H1 fun l H2=>th σ H2 fun u H3=>r x l u H3 Q
theorem kY (hr:RQ X r)(he:PE X e te)(hl:PO X lo tl)(hu:PO X hi th):PE X (.Subscript e (.Slice lo hi none p2) pos) (tSl r te tl th):=by
 intro Dp s σ H Q I h;refine Subscript_ (Ci (he Dp s σ H _ I h) fun v s1 ⟨x,H1,I1,r1,q1⟩=>?_);refine wpAny_Slice (Ci (hl Dp s1 σ H1 _ I1 q1) fun vl s2 ⟨l,H2,I2,pl,q2⟩=>Ci (hu Dp s2 σ H2 _ I2 q2) fun vu s3 ⟨u,H3,I3,pu,q3⟩=>?_);rw[evalPart_none];refine Zg ?_;have I4:Inv X Dp σ H3 { s3 with heap:=s3.heap.push { cls:=.type "slice",data:=.fields #[vl,vu,.none] } }:=I3.kept (t':=s3.toks) fun b ob q=>Zd _ q;obtain⟨T,id,hT,ht,hg⟩:=hr Dp { s3 with heap:=s3.heap.push { cls:=.type "slice",data:=.fields #[vl,vu,.none] } } σ H3 x v vl vu l u s3.heap.objs.size Q I4 r1 (Heap.IsSliceOf.new ..) pl pu q3;show Ek (Es X.prog X.w) X.A (subscriptTail e (.Slice lo hi none p2) v (.ref s3.heap.objs.size)) (EP X Dp σ Q) X.xe { s3 with heap:=s3.heap.push { cls:=.type "slice",data:=.fields #[vl,vu,.none] } };exact tail_any (ops:=[.ref s3.heap.objs.size,v]) ht hT hg (by with_unfolding_all rfl)
def UI (xs:Dj)(lo hi:Option Int):Dj:=(xs.drop (HT.sIx xs.length 0 lo)).take (HT.sIx xs.length xs.length hi-HT.sIx xs.length 0 lo)
theorem Xy (xs:Dj)(lo hi:Option Int):(UI xs lo hi).length<=xs.length:=by
 unfold UI;rw[ZD,YH];omega
end
def P5 (n:Nat)(i:Int):Option Nat:=if 0<=i then(if i<n then some i.toNat else none) else if -(n:Int)<=i then some (i+n).toNat else none
def Hc {α:Type}(xs:List α)(i:Int):Option α:=(P5 xs.length i).bind fun j=>xs[j]?
theorem KJ {j:Nat}(h:P5 n i=some j):seqIndex? i n=some j/\j<n/\-(n:Int)<=i/\i<n:=by
 unfold P5 at h
 by_cases h0:0<=i
 ·rw[Zy h0]at h
  by_cases h1:i<n
  ·rw[Zy h1]at h;have e:i.toNat=j:=Option.some.inj h;exact⟨by rw[seqIndex_of h0 h1,e],by omega,by omega,h1⟩
  ·rw[ZA h1]at h;cases h
 ·rw[ZA h0]at h
  by_cases h1:-(n:Int)<=i
  ·rw[Zy h1]at h;have e:(i+n).toNat=j:=Option.some.inj h;exact⟨by rw[seqIndex_neg (by omega) h1,e],by omega,h1,by omega⟩
  ·rw[ZA h1]at h;cases h
theorem BO {α:Type}{xs:List α}{v:α}(h:Hc xs i=some v):∃j,seqIndex? i xs.length=some j/\xs[j]?=some v/\j<xs.length/\-(xs.length:Int)<=i/\i<xs.length:=by
 unfold Hc at h;cases e:P5 xs.length i with
 |none=>rw[e]at h;cases h
 |some j =>
  rw[e]at h;obtain⟨h1,h2,h3,h4⟩:=KJ e;exact⟨j,h1,h,h2,h3,h4⟩
theorem xR {α:Type}{xs:List α}{j:Nat}{v:α}(h:xs[j]?=some v):Hc xs (j:Int)=some v:=by
 have hj:j<xs.length:=(Zu.mp h).1;have e:P5 xs.length (j:Int)=some j:=by
  unfold P5;rw[Zy (by omega),Zy (by omega)];simp
 unfold Hc;rwa[e]
def PH (b:EF):Prop:=∀o i,subscripted b false o i=operate [o,i] (Mi o i)
def Cl (X:Cx)(r:R2):Prop :=
 ∀(value slice:EF) (Dp:De) (s:Ej) (σ:St) (H:Hp) (x y:V) (v u:Eg) (Q:VK),Inv X Dp σ H s->RelV x v->RelV y u->r x y H Q ->
  subscripted slice false v u=operate [v,u] (Mi v u)->Ek (Es X.prog X.w) X.A (subscriptTail value slice v u) (EP X Dp σ Q) X.xe s
def RP (X:Cx)(id:String)(r:V->Dj->Hp->VK->Prop):Prop :=
 ∀(Dp:De) (s:Ej) (σ:St) (H:Hp) (x:V) (xs:Dj) (v:Eg) (us:Db) (Q:VK),Inv X Dp σ H s->RelV x v->Vals xs us->r x xs H Q ->
  Ek (Es X.prog X.w) X.A (call (.builtin id) (v::us)) (EP X Dp σ Q) X.xe s
section
variable {X:Cx}{a b:EF}{ta tb:TE}{pos:Pos}
theorem zV (hr:Cl X r)(ha:PE X a ta)(hb:PE X b tb)(hs:PH b):PE X (.Subscript a b pos) (Wy r ta tb):=by
 intro Dp s σ H Q I h;exact Subscript_ (Sj ha hb I h fun v u s2 x y H2 I2 rx ry q=>hr a b Dp s2 σ H2 x y v u Q I2 rx ry q (hs _ _))
def Uy (K:Cd):R2:=fun x y H Q=>∃p xs i v,x=.ref p/\y=.int i/\SqL K H p xs/\Hc xs i=some v/\Q v H
def Ut (K:Cd):R2:=fun x y H Q=>∃p xs i v,x=.ref p/\y=.int i/\SqT K H p xs/\Hc xs i=some v/\Q v H
def WY:R2:=fun x y H Q=>∃z i c,x=.str z/\y=.int i/\z.length<=sizeLine/\Hc z.cps.toList i=some c/\Q (.str ⟨#[c]⟩) H
theorem ix_list:Cl X (Uy X.K):=by
 intro value slice Dp s σ H x y v u Q I rx ry h hs;obtain⟨p,xs,i,z,rfl,rfl,hq,he,q⟩:=h;cases rx;obtain⟨t,rfl⟩:=ry;obtain⟨its,r,pl,hz⟩:=I.list hq;obtain⟨j,h1,h2,h3,h4,h5⟩:=BO he;obtain⟨w,ew,rw'⟩:=r.get h2;have hl:=r.length;have hn:=vU;have fin:EP X Dp σ Q w s:=⟨z,H,I,rw',q⟩
 by_cases h0:0<=i
 ·have hj:i.toNat=j:=by
   rw[seqIndex_of h0 h5]at h1;exact Option.some.inj h1
  exact item_listR pl.isList h0 (by omega) (by rw[hj];simpa using ew) fin hs
 ·have hj:(i+(its.toArray.size:Int)).toNat=j:=by
   rw[seqIndex_neg (by omega) h4]at h1;rw[Zw,←hl];exact Option.some.inj h1
  exact subscriptTail_builtinR (x:=w) pl.isList.typeIs slot_list_getitem.lookup
   (wpAny_getItem_list_neg (Q:=fun r s'=>r=w/\EP X Dp σ Q r s') pl.isList (by omega) (by rw[Zw]<;>omega) (by omega) (by rw[hj];simpa using ew) ⟨rfl,fin⟩) hs
theorem ix_tup:Cl X (Ut X.K):=by
 intro value slice Dp s σ H x y v u Q I rx ry h hs;obtain⟨p,xs,i,z,rfl,rfl,hq,he,q⟩:=h;cases rx;obtain⟨t,rfl⟩:=ry;obtain⟨its,r,pl,hz⟩:=I.tuple hq;obtain⟨j,h1,h2,h3,h4,h5⟩:=BO he;obtain⟨w,ew,rw'⟩:=r.get h2;have hl:=r.length;have hn:=vU;have fin:EP X Dp σ Q w s:=⟨z,H,I,rw',q⟩;exact subscriptTail_builtinR (x:=w) pl.typeIs slot_tuple_getitem.lookup
  (getItem_tuple (j:=j) (Q:=fun r s'=>r=w/\EP X Dp σ Q r s') pl (by omega) (by omega) (by rwa[Zw,←hl]) (by simpa using ew) ⟨rfl,fin⟩) hs
theorem Oe:Cl X WY:=by
 intro value slice Dp s σ H x y v u Q I rx ry h hs;obtain⟨z,i,c,rfl,rfl,hz,he,q⟩:=h;obtain⟨t,rfl⟩:=rx;obtain⟨t',rfl⟩:=ry;obtain⟨j,h1,h2,h3,h4,h5⟩:=BO he;have hl:z.cps.toList.length=z.length:=by simp[Str.length]
 rw[hl]at h1 h4 h5;have hn:=vU;exact tail_any (J5 s z t) slot_str_getitem.lookup (getItem_str (c:=c) (by
  have e1:decide (i < -(2 ^ 63:Int))=false:=Zr (by omega);have e2:decide (i≥2 ^ 63)=false:=Zr (by omega);rw[e1,e2,Bool.or_false]) (by rw[h1];simpa using h2) ⟨.str ⟨#[c]⟩,H,I.tok _,⟨_,rfl⟩,q⟩) hs
theorem HF (its:Db)(n j:Nat)(u:Eg):EY (·.setIfInBounds j u) { cls:=.type "list",data:=.seq its.toArray n }={ cls:=.type "list",data:=.seq (its.set j u).toArray n }:=by
 simp[EY]
theorem Inv.lst {p:Eh}{xs:Dj}(I:Inv X Dp σ H s)(h:H p=some (.lst xs)) :
  ∃(its:Db) (n:Nat),Vals xs its/\s.heap.get? p=some { cls:=.type "list",data:=.seq its.toArray n }/\xs.length<=sizeLine:=by
 obtain⟨z,its,n,r,e⟩:=I.hok p _ h;exact⟨its,n,r,e,z⟩
theorem Inv.lstUpd {p:Eh}{xs ys:Dj}{its DT:Db}{n n':Nat}{f:Obj->Obj}(I:Inv X Dp σ H s)(h:H p=some (.lst xs))
  (ho:s.heap.get? p=some { cls:=.type "list",data:=.seq its.toArray n }) (hf:f { cls:=.type "list",data:=.seq its.toArray n }={ cls:=.type "list",data:=.seq DT.toArray n' }) (r:Vals ys DT) (hz:ys.length<=sizeLine) (t:Nat) :
  Inv X Dp σ (upd H p (.lst ys)) { s with heap:=s.heap.update p f,toks:=t }:=by
 have e:(s.heap.update p f).get? p=some { cls:=.type "list",data:=.seq DT.toArray n' }:=by
  rw[Z6 f ho (by rw[hf]<;>rfl),hf]
 refine I.write (x:=p) (e:=p) (by rw[h];trivial) (.inl rfl) (fun b u hb q=>(Yr _ _ (EA hb)).trans q) ⟨_,e⟩ ?_;exact⟨hz,DT,n',r,e⟩
def Wd:V->V->V->Hp->(Hp->Prop)->Prop:=fun o i v H Q=>∃p xs k j,o=.ref p/\i=.int k/\H p=some (.lst xs)/\P5 xs.length k=some j/\Q (upd H p (.lst (xs.set j v)))
theorem set_list:Ts X Wd:=by
 intro Dp s σ H o i v ov iv u Q I ro ri rv h;obtain⟨p,xs,k,j,rfl,rfl,hp,hj,q⟩:=h;cases ro;obtain⟨t,rfl⟩:=ri;obtain⟨its,n,r,ho,hz⟩:=I.lst hp;obtain⟨h1,h2,h3,h4⟩:=KJ hj;have hl:=r.length;have hn:=vU;have I':Inv X Dp σ (upd H p (.lst (xs.set j v))) { s with heap:=s.heap.update p (EY (·.setIfInBounds j u)) } :=
  I.lstUpd hp ho (HF its n j u) (r.set rv j) (by rwa[Ue]) s.toks
 by_cases h0:0<=k
 ·have hk:k.toNat=j:=by
   rw[seqIndex_of h0 h4]at h1;exact Option.some.inj h1
  exact PySem.W.ki_setAt ho h0 (by omega) (by rwa[Zw,←hl]) (by rw[hk];exact⟨_,I',q⟩)
 ·have hk:(k+(its.toArray.size:Int)).toNat=j:=by
   rw[seqIndex_neg (by omega) h3]at h1;rw[Zw,←hl];exact Option.some.inj h1
  exact PySem.W.ki_setBack ho (by omega) (by rwa[Zw,←hl]) (by omega) (by rw[hk];exact⟨_,I',q⟩)
theorem BN (lo hi:Option Int)(n:Nat):(LY lo hi none n).1=((HT.sIx n 0 lo:Nat):Int)/\(LY lo hi none n).2.1=((HT.sIx n n hi:Nat):Int)/\(LY lo hi none n).2.2=1:=by
 refine⟨?_,?_,rfl⟩
 ·cases lo with
  |none=>simp[LY,HT.sIx]
  |some i =>
   simp only[LY,HT.sIx,Option.getD_none,show(1:Int)>0 by decide,if_true]
   by_cases h:i<0
   ·simp only[h,if_true]<;>omega
   ·simp only[h,JY]<;>omega
 ·cases hi with
  |none=>simp[LY,HT.sIx]
  |some i =>
   simp only[LY,HT.sIx,Option.getD_none,show(1:Int)>0 by decide,if_true]
   by_cases h:i<0
   ·simp only[h,if_true]<;>omega
   ·simp only[h,JY]<;>omega
theorem GJ (its:Db)(lo hi:Option Int):slicePick its.toArray lo hi none=((its.drop (HT.sIx its.length 0 lo)).take (HT.sIx its.length its.length hi-HT.sIx its.length 0 lo)).toArray:=by
 obtain⟨h1,h2,h3⟩:=BN lo hi its.toArray.size;unfold slicePick;rw[h1,h2,h3];simp only[sliceRange_one,pick_run,Zw]<;>rfl
def Ry (K:Cd):V->Option Int->Option Int->Hp->VK->Prop:=fun x lo hi H Q=>∃a xs,x=.ref a/\SqL K H a xs/\∀p,H p=none->Q (.ref p) (upd H p (.lst (UI xs lo hi)))
theorem sl_list:RQ X (Ry X.K):=by
 intro Dp s σ H x v vl vu lo hi sl Q I rx hs pl pu h;obtain⟨a,xs,rfl,hx,q⟩:=h;cases rx;obtain⟨its,r,ht,hz⟩:=I.list hx;have Dq:=r.length;refine⟨"list",_,slot_list_getitem.lookup,ht.isList.typeIs,?_⟩;refine wpAny_getItem_list_slice ht.isList hs pl pu .none (by simp) ?_ (by rw[Zw]<;>omega);rw[GJ,←Dq];refine⟨.ref s.heap.objs.size,_,I.laid (t':=s.toks) (o:=.lst (UI xs lo hi)) (fun b ob q=>Zd _ q) (Ze _) ?_,rfl,q _ (I.hok.fresh (Ze _))⟩;exact⟨Z5 (Xy xs lo hi) hz,_,0,(r.drop (HT.sIx xs.length 0 lo)).take (HT.sIx xs.length xs.length hi-HT.sIx xs.length 0 lo),Zo _ rfl⟩
theorem zZ:CallR X (.builtin "len") (fun xs H Q=>∃p ys,xs=[.ref p]/\(SqL X.K H p ys\/SqT X.K H p ys)/\Q (.int ys.length) H):=by
 intro Dp s σ H xs us Q I r h;obtain⟨p,ys,rfl,hq,q⟩:=h;obtain⟨u,rfl,rx⟩:=vals1 r;cases rx;have hn:=vU
 rcases hq with hq|hq
 ·obtain⟨its,r',pl,hz⟩:=I.list hq;have Dq:=r'.length;exact Calls.call_len_list pl.isList (by simp only[Zw]<;>omega) ⟨.int ys.length,H,I.tok _,⟨s.toks+1,by rw[Zw,Dq]⟩,q⟩
 ·obtain⟨its,r',pl,hz⟩:=I.tuple hq;have Dq:=r'.length;exact len_tuple pl (by simp only[Zw]<;>omega) ⟨.int ys.length,H,I.tok _,⟨s.toks+1,by rw[Zw,Dq]⟩,q⟩
theorem qG:CallR X (.builtin "len") (fun xs H Q=>∃z,xs=[.str z]/\z.length<=sizeLine/\Q (.int z.length) H):=by
 intro Dp s σ H xs us Q I r h;obtain⟨z,rfl,hz,q⟩:=h;obtain⟨u,rfl,t,rfl⟩:=vals1 r;have hn:=vU;exact len_str (by omega) ⟨.int z.length,H,I.tok _,⟨_,rfl⟩,q⟩
theorem CallR.or (h:CallR X f r)(h':CallR X f r'):CallR X f (fun xs H Q=>r xs H Q\/r' xs H Q):=by
 intro Dp s σ H xs us Q I rs q
 rcases q with q|q
 ·exact h Dp s σ H xs us Q I rs q
 ·exact h' Dp s σ H xs us Q I rs q
theorem jB:CallR X (.type "list") (fun xs H Q=>∃p ys,xs=[.ref p]/\(SqL X.K H p ys\/SqT X.K H p ys)/\∀l,H l=none->Q (.ref l) (upd H l (.lst ys))):=by
 intro Dp s σ H xs us Q I r h;obtain⟨p,ys,rfl,hq,q⟩:=h;obtain⟨u,rfl,rx⟩:=vals1 r;cases rx;have fin:∀(its:Db),Vals ys its->ys.length<=sizeLine->∀(h':Ez) (c':Nat),(∀b o',s.heap.get? b=some o'->h'.get? b=some o') ->
   h'.get? s.heap.objs.size=some { cls:=.type "list",dict:=none,data:=.seq its.toArray c',slots:=#[] }->EP X Dp σ Q (.ref s.heap.objs.size) { s with heap:=h' }:=fun its r' hz h' c' kp e =>
  ⟨.ref s.heap.objs.size,_,I.laid (t':=s.toks) kp (Ze _) (show ObjOk X.prog X.w _ h' _ (.lst ys) from⟨hz,its,c',r',e⟩),rfl,q _ (I.hok.fresh (Ze _))⟩
 rcases hq with hq|hq
 ·obtain⟨its,r',pl,hz⟩:=I.list hq;have Dq:=r'.length;obtain⟨o,ho,hc,n,hd⟩:=pl.isList;exact call_list_seq p (.inl rfl) ho hc hd (fun h' c' kp e=>fin its r' hz h' c' kp e) (by simp only[Zw]<;>omega)
 ·obtain⟨its,r',pl,hz⟩:=I.tuple hq;have Dq:=r'.length;obtain⟨o,ho,hc,n,hd⟩:=pl;exact call_list_seq p (.inr rfl) ho hc hd (fun h' c' kp e=>fin its r' hz h' c' kp e) (by simp only[Zw]<;>omega)
theorem kJ:CallR X (.type "tuple") (fun xs H Q=>∃p ys,xs=[.ref p]/\((SqL X.K H p ys/\∀l,H l=none->Q (.ref l) (upd H l (.tup ys)))\/(SqT X.K H p ys/\Q (.ref p) H))):=by
 intro Dp s σ H xs us Q I r h;obtain⟨p,ys,rfl,h⟩:=h;obtain⟨u,rfl,rx⟩:=vals1 r;cases rx
 rcases h with⟨hq,q⟩|⟨hq,q⟩
 ·obtain⟨its,r',pl,hz⟩:=I.list hq;have Dq:=r'.length;refine call_tuple_list pl.isList (fun h' kp=>?_) (by simp only[Zw]<;>omega);have I1:Inv X Dp σ H { s with heap:=h' }:=I.kept (t':=s.toks) kp;have I2:Inv X Dp σ (upd H h'.objs.size (.tup ys)) { s with heap:=h'.push { cls:=.type "tuple",data:=.seq its.toArray } } :=
   I1.laid (t':=s.toks) (fun b o e=>Zd _ e) (Ze _) (show ObjOk X.prog X.w _ _ _ (.tup ys) from⟨hz,its,r',TupAt.new _ _⟩)
  exact⟨.ref h'.objs.size,_,I2,rfl,q _ (I1.hok.fresh (Ze _))⟩
 ·obtain⟨its,r',pl,hz⟩:=I.tuple hq;exact call_tuple_same pl ⟨.ref p,H,I,rfl,q⟩
def aw (K:Cd)(T:String)(x:V)(H:Hp):Prop:=match x with
 | .str _=>T="str"
 | .int _=>T="int"
 | .ref p=>(T="list"/\∃xs,SqL K H p xs)\/(T="tuple"/\∃o,K.lookup p=some o/\o.cls=.type "tuple"/\o.dict=none) \/
   (T="dict"/\((∃Dm,H p=some (.dK Dm))\/∃Dm,H p=some (.dT Dm)))\/(T="set"/\∃S n,H p=some (.set S n))
 |_=>False
theorem Tg (I:Inv X Dp σ H s)(r:RelV x v)(ty:aw X.K T x H) :
  s.TypeIs v T/\∀a,v=.ref a->∃ob,s.heap.get? a=some ob/\ob.dict=none:=by
 cases x with
 |str z =>
  obtain⟨t,rfl⟩:=r;cases(show T="str" from ty);exact⟨J5 s z t,fun _ e=>nomatch e⟩
 |int i =>
  obtain⟨t,rfl⟩:=r;cases(show T="int" from ty);exact⟨typeIs_int s i t,fun _ e=>nomatch e⟩
 |ref p =>
  cases r
  rcases ty with⟨rfl,xs,hq⟩|⟨rfl,o,hk,hc,hd⟩|⟨rfl,hk⟩|⟨rfl,S,n,hk⟩
  ·obtain⟨its,_,pl,_⟩:=I.list hq;refine⟨pl.isList.typeIs,fun a e=>?_⟩;cases e;obtain⟨o,n,e,c,hd,_⟩:=pl;exact⟨o,e,hd⟩
  ·refine⟨⟨o,I.kIn p o hk,hc⟩,fun a e=>?_⟩;cases e;exact⟨o,I.kIn _ o hk,hd⟩
  ·have z:∃o,s.heap.get? p=some o/\o.ExactDict:=by
    rcases hk with⟨Dm,hk⟩|⟨Dm,hk⟩
    ·obtain⟨_,_,_,_,o,_,_,e,ex,_⟩:=I.hok p _ hk;exact⟨o,e,ex⟩
    ·obtain⟨_,_,_,_,o,_,_,e,ex,_⟩:=I.hok p _ hk;exact⟨o,e,ex⟩
   obtain⟨o,e,ex⟩:=z;refine⟨⟨o,e,ex.1⟩,fun a e2=>?_⟩;cases e2;exact⟨o,e,ex.2.1⟩
  ·obtain⟨o,_,_,_,e,ex,_⟩:=I.hok p _ hk;refine⟨⟨o,e,ex.1⟩,fun a e2=>?_⟩;cases e2;exact⟨o,e,ex.2.1⟩
 |_=>exact EB ty
def au (K:Cd)(T:String)(r:V->Dj->Hp->VK->Prop)(to:TE)(t:TA):TE:=fun σ H Q=>to σ H fun x H1=>aw K T x H1/\t σ H1 fun xs H2=>r x xs H2 Q
variable {o e:EF}{es:List EF}{to:TE}{t:TA}{name:Str}{Ds Dr:Pos}{T id:String}{r:V->Dj->Hp->VK->Prop}
theorem kN (pa:PlainAttrs T)(slot:Slot T name id)(hty:typeOf (.builtin id)=Lx (.type "method_descriptor"))(hm:RP X id r)(ho:PE X o to)(ha:PA X (e::es) t)
  (D0:Lu o name X.env (E1 o X.env)=E1 o X.env:=by rfl)
  (hfew:((E8 Dr (Ev (e::es) X.env)).all (fun x=>!x.1)&&(Mc Dr (LD [] X.env)).all (fun x=>x.1.isSome) && decide ((e::es).length+([]:List Keyword).length+(if([]:List Keyword).isEmpty then 0 else 1)<30))=true:=by rfl)
  (DG:(Ds.endLine==Dr.line)=true:=by rfl) (hs:Ev (e::es) X.env=(false,E1 e X.env)::Ev es X.env:=by rfl) (DZ:(E8 Dr (Ev es X.env)).any (·.1)=false:=by rfl) :
  PE X (.Call (.Attribute o name Ds) (e::es) [] Dr) (au X.K T r to t):=by
 intro Dp s σ H Q I h;refine wpAny_Call_method_late D0 hfew DG rfl (Ci (ho Dp s σ H _ I h) fun v s1 ⟨x,H1,I1,r1,ty,q1⟩=>?_);obtain⟨h1,h2⟩:=Tg I1 r1 ty;refine⟨T,id,pa,slot,hty,h1,h2,?_⟩;have hA:=ha Dr Dp s1 σ H1 _ I1 q1;rw[hs]at hA ⊢;refine E2 (by show(false||(E8 Dr (Ev es X.env)).any (·.1))=false;rw[DZ]<;>rfl) (Lh ?_);exact Ci hA fun us s2 ⟨vs,H2,I2,r2,q2⟩=>hm Dp s2 σ H2 x vs v us Q I2 r1 r2 q2
end
def MtM (X:Cx)(id:String)(r:V->Dj->Hp->VK->Prop):Prop :=
 ∀(Dp:De) (s:Ej) (σ:St) (H:Hp) (x:V) (xs:Dj) (v:Eg) (us:Db) (Q:VK),Inv X Dp σ H s->RelV x v->Vals xs us->r x xs H Q ->
  Ek (Es X.prog X.w) X.A (call (.builtin id) (v::us)) (EP X Dp σ Q) X.xe s
theorem Vals.one:∀{x:V} {us:Db},Vals [x] us->∃u,us=[u]/\RelV x u
 |_,_,.cons r .nil=>⟨_,rfl,r⟩
section
variable {X:Cx}{Dp:De}{σ:St}{H:Hp}{s:Ej}{l b:Eh}{xs ys zs:Dj}
theorem Inv.lset {its DT:Db}{n:Nat}{f:Array Eg->Array Eg}{t':Nat}(I:Inv X Dp σ H s)(hH:H l=some (.lst xs))
  (e:s.heap.get? l=some { cls:=.type "list",data:=.seq its.toArray n }) (hf:f its.toArray=DT.toArray) (hv:Vals ys DT) (hz:ys.length<=sizeLine) :
  Inv X Dp σ (upd H l (.lst ys)) { s with heap:=s.heap.update l (EY f),toks:=t' }:=by
 have q:=PySem.IsL.update e f;rw[hf]at q;refine I.write (x:=l) (e:=l) (by rw[hH];exact trivial) (.inl rfl) (fun b' u hb hu=>(Yr s.heap (EY f) (EA hb)).trans hu) ⟨_,q⟩ ?_;exact⟨hz,DT,_,hv,q⟩
theorem Inv.lnew {t':Nat}(I:Inv X Dp σ H s)(hv:Vals ys its)(hz:ys.length<=sizeLine) :
  Inv X Dp σ (upd H s.heap.objs.size (.lst ys)) { s with heap:=s.heap.push { cls:=.type "list",data:=.seq its.toArray },toks:=t' } :=
 I.laid (fun _ _ q=>Zd _ q) (Ze _) ⟨hz,its,0,hv,Zo _ rfl⟩
theorem Inv.fresh (I:Inv X Dp σ H s):H s.heap.objs.size=none:=I.hok.fresh (Ze _)
theorem Inv.lstM (I:Inv X Dp σ H s)(hH:H l=some (.lst xs)):xs.length<=sizeLine/\∃(its:Db) (n:Nat),Vals xs its/\xs.length=its.length/\s.heap.get? l=some { cls:=.type "list",data:=.seq its.toArray n }:=by
 obtain⟨z,its,n,r,e⟩:=I.hok l _ hH;exact⟨z,its,n,r,r.length,e⟩
end
section
variable {X:Cx}
def Rw:V->Dj->Hp->VK->Prop:=fun x vs H Q=>∃l xs y,x=.ref l/\vs=[y]/\H l=some (.lst xs)/\xs.length<sizeLine/\Q .non (upd H l (.lst (xs++[y])))
theorem jM:MtM X "list.append" Rw:=by
 intro Dp s σ H x vs v us Q I rx rv h;obtain⟨l,xs,y,rfl,rfl,hH,hz,q⟩:=h;cases rx;obtain⟨u,rfl,ru⟩:=rv.one;obtain⟨z,its,n,r,hl,e⟩:=I.lstM hH;refine Vw F.slot_list_append ⟨_,e,rfl⟩ F.entry_list_append (F.args_list_append_2 _ _) (PySem.list_append l its.toArray n u (by rw[Zw];omega)) ⟨e,?_⟩;refine⟨.non,_,I.lset (DT:=its++[u]) hH e (by simp) (r.append (.cons ru .nil)) ?_,rfl,q⟩;rw[Zj,YV];omega
def WU:R2:=fun x y H Q=>∃l b xs zs,x=.ref l/\y=.ref b/\H l=some (.lst xs)/\H b=some (.lst zs)/\xs.length+zs.length<=sizeLine/\∀p,H p=none->Q (.ref p) (upd H p (.lst (xs++zs)))
theorem OI:Cu X (Mr .Add) WU:=by
 intro Dp s σ H x y v u Q I rx ry h;obtain⟨l,b,xs,zs,rfl,rfl,hH,hB,hz,q⟩:=h;cases rx;cases ry;obtain⟨z,its,n,r,hl,e⟩:=I.lstM hH;obtain⟨z2,its2,n2,r2,hl2,e2⟩:=I.lstM hB;refine PySem.P.add_list e e2 ?_ (by rw[Zw,Zw];omega);have ea:its.toArray++its2.toArray=(its++its2).toArray:=by simp
 rw[ea];exact⟨.ref _,_,I.lnew (t':=s.toks) (r.append r2) (by rw[Zj];omega),rfl,q _ I.fresh⟩
end
section
variable {prog:Ei}{w:Em}{A:EC}{E:Eg->Dh}{s:Ej}
set_option maxRecDepth 100000 in
end
section
variable {κ:Type} [DecidableEq κ]
def Ur (Dm:List (κ×V))(k:κ):Option V:=(Dm.find? fun kv=>decide (kv.1=k)).map (·.2)
def putK (Dm:List (κ×V))(k:κ)(v:V):List (κ×V) :=
 if(Dm.any fun kv=>decide (kv.1=k))=true then Dm.map (fun kv=>if kv.1=k then(kv.1,v) else kv) else Dm++[(k,v)]
def IZ (Dm:List (κ×V))(k:κ):List (κ×V):=Dm.filter fun kv=>decide (kv.1≠k)
theorem xE {p:κ×V}{r:List (κ×V)}{k:κ}(e:p.1=k):Ur (p::r) k=some p.2:=by simp[Ur,YS,e]
theorem xD {p:κ×V}{r:List (κ×V)}{k:κ}(e:¬p.1=k):Ur (p::r) k=Ur r k:=by simp[Ur,YS,e]
theorem qM (k:κ):∀Dm:List (κ×V),(Dm.any fun kv=>decide (kv.1=k))=(Ur Dm k).isSome
 |[]=>rfl
 |p::r=>by
  rw[List.any_cons]
  by_cases e:p.1=k
  ·simp only[xE e,Zf e,Bool.true_or,Option.isSome_some]
  ·rw[xD e,Zr e,VX];exact qM k r
theorem F6 (k j:κ)(y:V):∀Dm:List (κ×V),Ur (Dm.map fun kv=>if kv.1=k then(kv.1,y) else kv) j=(Ur Dm j).map fun x=>if j=k then y else x
 |[]=>rfl
 |p::r=>by
  have ih:=F6 k j y r;rw[ZC]
  by_cases h:p.1=k
  ·rw[Zy h]
   by_cases e:p.1=j
   ·rw[xE (p:=(p.1,y)) e,xE e,Yt,Zy (e.symm.trans h)]
   ·rw[xD (p:=(p.1,y)) e,xD e,ih]
  ·rw[ZA h]
   by_cases e:p.1=j
   ·rw[xE (p:=p) e,xE e,Yt,ZA (fun z=>h (e.trans z))]
   ·rw[xD (p:=p) e,xD e,ih]
theorem Ba (k j:κ)(y:V):∀Dm:List (κ×V),Ur Dm k=none->Ur (Dm++[(k,y)]) j=if j=k then some y else Ur Dm j
 |[],_=>by
  by_cases e:k=j
  ·rw[Zy e.symm];exact xE (p:=(k,y)) e
  ·rw[ZA (fun z=>e z.symm)];exact xD (p:=(k,y)) e
 |p::r,hn=>by
  rw[List.cons_append];have hk:¬p.1=k:=fun z=>by rw[xE z]at hn;cases hn
  rw[xD hk]at hn;have ih:=Ba k j y r hn
  by_cases e:p.1=j
  ·rw[xE e,xE e,ZA (fun z=>hk (e.trans z))]
  ·rw[xD e,xD e,ih]
theorem Pw (Dm:List (κ×V))(k j:κ)(y:V):Ur (putK Dm k y) j=if j=k then some y else Ur Dm j:=by
 unfold putK
 by_cases a:(Dm.any fun kv=>decide (kv.1=k))=true
 ·rw[Zy a,F6];rw[qM]at a
  by_cases e:j=k
  ·obtain⟨x,hx⟩:=JX.mp a;rw[Zy e,e,hx,Yt,Zy rfl]
  ·rw[ZA e];cases Ur Dm j with
   |none=>rfl
   |some x=>rw[Yt,ZA e]
 ·rw[ZA a];refine Ba k j y Dm ?_;rw[qM]at a;cases q:Ur Dm k with
  |none=>rfl
  |some x=>rw[q]at a;exact(a rfl).elim
theorem x5 (Dm:List (κ×V))(k:κ)(v:V):(putK Dm k v).length<=Dm.length+1:=by
 unfold putK
 split
 ·rw[Q7];omega
 ·rw[Zj,Zh,Yj];omega
theorem OZ {Dm:List (κ×V)}{k:κ}(v:V)(h:Ur Dm k=none):putK Dm k v=Dm++[(k,v)]:=by
 unfold putK;rw[qM,h];exact ZA (by decide)
theorem RelO.isSome_eq (r:RelO o u):o.isSome=u.isSome:=by
 cases o with
 |none=>cases u with
  |none=>rfl
  |some _=>exact(show False from r).elim
 |some _=>cases u with
  |none=>exact(show False from r).elim
  |some _=>rfl
theorem RelO.getD (r:RelO o u)(rd:RelV d d'):RelV (o.getD d) (u.getD d'):=by
 cases o with
 |none=>cases u with
  |none=>exact rd
  |some _=>exact(show False from r).elim
 |some _=>cases u with
  |none=>exact(show False from r).elim
  |some _=>exact r
theorem KV.val {Dm:List (κ×V)}{vs:List (κ×Eg)}(r:KV Dm vs)(k:κ):RelO (Ur Dm k) (L9 vs k):=by
 unfold KV at r
 induction r with
 |nil=>exact Lc
 | @cons p q ps qs h t ih =>
  obtain⟨h1,h2⟩:=h
  by_cases e:p.1=k
  ·have e':q.1=k:=h1.symm.trans e;have b:L9 (q::qs) k=some q.2:=by simp[L9,YS,e']
   rwa[xE e,b]
  ·have e':¬q.1=k:=fun z=>e (h1.trans z);have b:L9 (q::qs) k=L9 qs k:=by simp[L9,YS,e']
   rwa[xD e,b]
theorem KV.any {Dm:List (κ×V)}{vs:List (κ×Eg)}(r:KV Dm vs)(k:κ):(Dm.any fun kv=>decide (kv.1=k))=vs.any fun kv=>decide (kv.1=k):=by
 unfold KV at r
 induction r with
 |nil=>rfl
 |cons h t ih=>rw[List.any_cons,List.any_cons,ih,h.1]
theorem KV.repl {Dm:List (κ×V)}{vs:List (κ×Eg)}(r:KV Dm vs)(k:κ){y:V}{u:Eg}(ry:RelV y u) :
  KV (Dm.map fun kv=>if kv.1=k then(kv.1,y) else kv) (vs.map fun kv=>if kv.1=k then(kv.1,u) else kv):=by
 unfold KV at r ⊢
 induction r with
 |nil=>exact .nil
 | @cons p q ps qs h t ih =>
  rw[ZC,ZC];refine .cons ?_ ih;obtain⟨h1,h2⟩:=h
  by_cases e:p.1=k
  ·rw[Zy e,Zy (h1.symm.trans e)];exact⟨h1,ry⟩
  ·rw[ZA e,ZA (fun z=>e (h1.trans z))];exact⟨h1,h2⟩
theorem KV.put {Dm:List (κ×V)}{vs:List (κ×Eg)}(r:KV Dm vs)(k:κ){y:V}{u:Eg}(ry:RelV y u):KV (putK Dm k y) (stored vs k u):=by
 unfold putK stored;rw[r.any k]
 by_cases e:(vs.any fun kv=>decide (kv.1=k))=true
 ·rw[Zy e,Zy e];exact r.repl k ry
 ·rw[ZA e,ZA e];exact Paired.snoc r ⟨rfl,ry⟩
theorem KV.drop {Dm:List (κ×V)}{vs:List (κ×Eg)}(r:KV Dm vs)(k:κ):KV (IZ Dm k) (without vs k):=by
 unfold KV at r ⊢;unfold IZ without
 induction r with
 |nil=>exact .nil
 | @cons p q ps qs h t ih =>
  obtain⟨h1,h2⟩:=h;rw[V3,V3]
  by_cases e:p.1=k
  ·have a:¬decide (p.1≠k)=true:=by simp[e]
   have b:¬decide (q.1≠k)=true:=by simp[h1.symm.trans e]
   rwa[ZA a,ZA b]
  ·have e':¬q.1=k:=fun z=>e (h1.trans z);have a:decide (p.1≠k)=true:=by simp[e]
   have b:decide (q.1≠k)=true:=by simp[e']
   rw[Zy a,Zy b];exact .cons ⟨h1,h2⟩ ih
theorem KV.length {Dm:List (κ×V)}{vs:List (κ×Eg)}(r:KV Dm vs):Dm.length=vs.length:=Paired.length r
theorem N0 (Dm:List (κ×V))(k:κ):(IZ Dm k).length<=Dm.length:=JG _ _
end
theorem vZ (r:RelV (kV k) u):(mixKind P w).is k u=true:=by
 cases k with
 |inl i=>obtain⟨t,e⟩:=(show∃t,u=Mj i t from r);subst e;exact Fq P w i t
 |inr x=>obtain⟨t,e⟩:=(show∃t,u=LX x t from r);subst e;exact Fr P w x t
theorem G0:∀{ks:List Key} {us:Db},Vals (ks.map kV) us->ItemsAre (mixKind P w) ks us
 |[],_,r=>by rw[Vh]at r;cases r;exact .nil
 |k::ks,_,r=>by
  rw[ZC]at r;cases r with
  |cons h t=>exact .cons (vZ h) (G0 t)
abbrev KT (H:Hp):List (List Key×V)->List (List Key×Eh×Eg)->Prop:=Lj fun p q=>p.1=q.1/\H q.2.1=some (.tup (p.1.map kV))/\RelV p.2 q.2.2
theorem KT.val (r:KT H Dm xs)(k:List Key):RelO (Ur Dm k) ((atKey xs k).map (·.2)):=by
 induction r with
 |nil=>exact Lc
 | @cons p q ps qs h t ih =>
  obtain⟨h1,_,h2⟩:=h
  by_cases e:p.1=k
  ·have e':q.1=k:=h1.symm.trans e;have b:atKey (q::qs) k=some q.2:=by simp[atKey,YS,e']
   rwa[xE e,b]
  ·have e':¬q.1=k:=fun z=>e (h1.trans z);have b:atKey (q::qs) k=atKey qs k:=by simp[atKey,YS,e']
   rwa[xD e,b]
theorem KT.repl (r:KT H Dm xs)(k:List Key){y:V}{u:Eg}(ry:RelV y u) :
  KT H (Dm.map fun kv=>if kv.1=k then(kv.1,y) else kv) (xs.map (putAt k u)):=by
 induction r with
 |nil=>exact .nil
 | @cons p q ps qs h t ih =>
  rw[ZC,ZC];refine .cons ?_ ih;obtain⟨h1,h2,h3⟩:=h;unfold putAt
  by_cases e:p.1=k
  ·rw[Zy e,Zy (h1.symm.trans e)];exact⟨h1,h2,ry⟩
  ·rw[ZA e,ZA (fun z=>e (h1.trans z))];exact⟨h1,h2,h3⟩
theorem KT.put (r:KT H Dm xs)(k:List Key){b:Eh}{y:V}{u:Eg}(hb:H b=some (.tup (k.map kV)))(ry:RelV y u) :
  KT H (putK Dm k y) (storedH xs k b u):=by
 have e:(Dm.any fun kv=>decide (kv.1=k))=(atKey xs k).isSome:=by
  rw[qM,(r.val k).isSome_eq,Option.isSome_map]
 unfold putK storedH;rw[e]
 by_cases q:(atKey xs k).isSome=true
 ·rw[Zy q,Zy q];exact r.repl k ry
 ·rw[ZA q,ZA q];exact Paired.snoc r ⟨rfl,hb,ry⟩
theorem KT.keeps {H':Hp}(r:KT H Dm xs)(ht:∀b ys,H b=some (.tup ys)->H' b=some (.tup ys)):KT H' Dm xs :=
 Paired.mapP r fun _ _ z=>⟨z.1,ht _ _ z.2.1,z.2.2⟩
section
variable {P:Ei}{w:Em}{H:Hp}{h:Ez}{a:Eh}
theorem RY (ok:HOk P w H h)(e:Rd H a u):ObjOk P w H h a u:=e.ok ok
theorem vQ {Dm:Dl}(ok:HOk P w H h)(e:Rd H a (.dK Dm)):Dm.length<=sizeLine/\(a==EM)=false/\∃vs,KV Dm vs/\h.DictOf (mixKind P w) a vs :=
 show ObjOk P w H h a (.dK Dm) from RY ok e
theorem NY {Dm:Dl}(ok:HOk P w H h)(e:H a=some (.dK Dm)):Dm.length<=sizeLine/\(a==EM)=false/\∃vs,KV Dm vs/\h.DictOf (mixKind P w) a vs:=vQ ok (.inl e)
theorem U6 {ks:List Key}(ok:HOk P w H h)(e:H a=some (.tup (ks.map kV))):(Ml (mixKind P w)).is h ks a:=by
 obtain⟨_,its,r,o,h1,h2,n,h3,_⟩:=(show ObjOk P w H h a (.tup (ks.map kV)) from ok a _ e);exact⟨o,its.toArray,n,h1,h2,h3,by simpa using G0 r⟩
theorem Ic {Dm:List (List Key×V)}(ok:HOk P w H h)(e:Rd H a (.dT Dm)):Dm.length<=sizeLine/\(a==EM)=false /\
  ∃xs,KT H Dm xs/\h.DictOfH (Ml (mixKind P w)) a xs:=by
 obtain⟨z,y,xs,r,o,es,ep,h1,h2,h3,h4,h5⟩:=(show ObjOk P w H h a (.dT Dm) from RY ok e);refine⟨z,y,xs,r,o,es,ep,h1,h2,h3,h4,fun x hx=>?_,h5⟩;have all:∀{l:List (List Key×V)} {m:List (List Key×Eh×Eg)},KT H l m->∀x∈m,(Ml (mixKind P w)).is h x.1 x.2.1:=by
  intro l m q
  induction q with
  |nil=>intro x hx;exact nomatch hx
  | @cons p q ps qs hq t ih =>
   intro x hx
   rcases Zi.mp hx with e|hx
   ·subst e;exact U6 ok (by rw[←hq.1];exact hq.2.1)
   ·exact ih x hx
 exact all r x hx
theorem TH {Dm:List (List Key×V)}(ok:HOk P w H h)(e:H a=some (.dT Dm)):Dm.length<=sizeLine/\(a==EM)=false /\
  ∃xs,KT H Dm xs/\h.DictOfH (Ml (mixKind P w)) a xs:=Ic ok (.inl e)
end
def DGet (H:Hp)(a:Eh)(y:V)(r:Option V):Prop :=
 (∃Dm k,Rd H a (.dK Dm)/\y=kV k/\r=Ur Dm k)\/∃Dm k b,Rd H a (.dT Dm)/\y=.ref b/\H b=some (.tup (k.map kV))/\r=Ur Dm k
def DPut (H:Hp)(a:Eh)(y v:V)(H':Hp):Prop :=
 (∃Dm k,H a=some (.dK Dm)/\y=kV k/\Dm.length<sizeLine/\H'=upd H a (.dK (putK Dm k v))) \/
 ∃Dm k b,H a=some (.dT Dm)/\y=.ref b/\H b=some (.tup (k.map kV))/\Dm.length<sizeLine/\H'=upd H a (.dT (putK Dm k v))
theorem DGet.k {H:Hp}{a:Eh}{Dm:Dl}{k:Key}(e:H a=some (.dK Dm)):DGet H a (kV k) (Ur Dm k):=.inl ⟨Dm,k,.inl e,rfl,rfl⟩
theorem DPut.k {H:Hp}{a:Eh}{Dm:Dl}{k:Key}(e:H a=some (.dK Dm))(hl:Dm.length<sizeLine):DPut H a (kV k) v (upd H a (.dK (putK Dm k v))):=.inl ⟨Dm,k,e,rfl,hl,rfl⟩
section
variable {X:Cx}{Dp:De}{σ:St}{H:Hp}{s:Ej}{a:Eh}{y v:V}{u r:Eg}{o:Option V}{A:EC}{E:Eg->Dh}
theorem Inv.big (I:Inv X Dp σ H s):EM<s.heap.objs.size:=by
 have h:Et<s.heap.objs.size:=(I.mod.glob.keeps I.bk).lt;exact Ua (by decide) h
theorem MT {Q:Eg->Dh}(hu:A.units+1<E5)(I:Inv X Dp σ H s)(g:DGet H a y (some v))(ry:RelV y u)(h:∀w' s',Inv X Dp σ H s'->RelV v w'->Q w' s') :
  Ek (Es X.prog X.w) A (Mi (.ref a) u) Q E s:=by
 rcases g with⟨Dm,k,e,ey,l⟩|⟨Dm,k,b,e,ey,eb,l⟩
 ·subst ey;obtain⟨z,hd,vs,rel,dd⟩:=vQ I.hok e;obtain⟨w',hw,rw'⟩:=RelO.some_of (v:=v) (o:=L9 vs k) (by rw[l];exact rel.val k);exact wpAny_getItem_of (vZ ry) dd.mapOf hw (h w' _ (I.tok _) rw')
 ·subst ey;cases(show u=Eu b from ry);obtain⟨z,hd,xs,rel,dd⟩:=Ic I.hok e;obtain⟨w',hw,rw'⟩:=RelO.some_of (v:=v) (o:=(atKey xs k).map (·.2)) (by rw[l];exact rel.val k);obtain⟨p,hp,hp2⟩:=Z2.mp hw;refine wpAny_getItem_heap (JA hu) (U6 I.hok eb) dd hp ?_;rw[hp2];exact h w' _ (I.tok _) rw'
theorem WE {Q:Eg->Dh}(hu:A.units+1<E5)(I:Inv X Dp σ H s)(g:DGet H a y o)(ry:RelV y u)(h:∀s',Inv X Dp σ H s'->Q (.bool o.isSome) s') :
  Ek (Es X.prog X.w) A (EK .In u (.ref a)) Q E s:=by
 rcases g with⟨Dm,k,e,ey,l⟩|⟨Dm,k,b,e,ey,eb,l⟩
 ·subst ey;obtain⟨z,hd,vs,rel,dd⟩:=vQ I.hok e;refine wpAny_in_of (vZ ry) hd dd.mapOf ?_;rw[←(rel.val k).isSome_eq,←l];exact h _ (I.tok _)
 ·subst ey;cases(show u=Eu b from ry);obtain⟨z,hd,xs,rel,dd⟩:=Ic I.hok e;refine wpAny_in_heap (JA hu) (U6 I.hok eb) hd dd ?_;have q:=(rel.val k).isSome_eq;rw[Option.isSome_map]at q;rw[←q,←l];exact h _ (I.tok _)
theorem vP {h':Ez}{t':Nat}(I:Inv X Dp σ H s)(mu:Sb (H a))(hs:Ll a s.heap h')(he:∃q,h'.get? a=some q)(new:ObjOk X.prog X.w (upd H a ob) h' a ob) :
  Inv X Dp σ (upd H a ob) { s with heap:=h',toks:=t' } :=
 I.write (x:=a) (e:=a) mu (.inl rfl) (fun b q hb z=>(hs.2 b hb).trans z) he new
theorem Gr {H':Hp}{h':Ez}{Dm:Dl}(z:Dm.length<=sizeLine)(hd:(a==EM)=false)(rel:KV Dm vs)(dd:h'.DictOf (mixKind P w) a vs) :
  ObjOk P w H' h' a (.dK Dm):=⟨z,hd,vs,rel,dd⟩
theorem MU {Q:Unit->Dh}(hu:A.units+1<E5)(I:Inv X Dp σ H s)(g:DPut H a y v H')(ry:RelV y u)(rv:RelV v r)(h:∀s',Inv X Dp σ H' s'->Q () s') :
  Ek (Es X.prog X.w) A (setItem (.ref a) u r) Q E s:=by
 rcases g with⟨Dm,k,e,ey,l,eH⟩|⟨Dm,k,b,e,ey,eb,l,eH⟩
 ·subst ey eH;obtain⟨z,hd,vs,rel,dd⟩:=NY I.hok e;have hz:vs.length<=sizeLine:=by rwa[←rel.length]
  have hl:(putK Dm k v).length<=sizeLine:=by have:=x5 Dm k v;omega
  refine wpAny_setItem_pairs (hsz:=hz) (vZ ry) dd fun h' dd' hs=>h _ ?_;have he:∃q,h'.get? a=some q:=let ⟨q,_,_,hq,_⟩:=dd';⟨q,hq⟩;exact vP I (by rw[e];exact Lc) hs he (Gr hl hd (rel.put k rv) dd')
 ·subst ey eH;cases(show u=Eu b from ry);obtain⟨z,hd,xs,rel,dd⟩:=TH I.hok e;have hz:xs.length<=sizeLine:=by rwa[←Paired.length rel]
  have hl:(putK Dm k v).length<=sizeLine:=by have:=x5 Dm k v;omega
  refine wpAny_setItem_heap (hsz:=hz) (JA hu) (U6 I.hok eb) dd fun h' dd' hs=>h _ ?_;obtain⟨q,es,ep,hq,h2,h3,h4,_,h5⟩:=dd';refine vP I (by rw[e];exact Lc) hs ⟨q,hq⟩ ⟨hl,hd,_,(rel.put k eb rv).keeps fun c ys ec=>?_,q,es,ep,hq,h2,h3,h4,h5⟩;rwa[zH (TZ ec e (fun z=>nomatch z))]
end
section
variable {X:Cx}{Dp:De}{σ:St}{H:Hp}{s:Ej}{a:Eh}{Dm:Dl}{k:Key}{u:Eg}{A:EC}{E:Eg->Dh}
theorem TD {v:V}{more:Db}{Q:Eg->Dh}(I:Inv X Dp σ H s)(e:H a=some (.dK Dm))(ry:RelV (kV k) u)(l:Ur Dm k=some v)(hm:more=[]\/∃x,more=[x])
  (h:∀w' s',Inv X Dp σ (upd H a (.dK (IZ Dm k))) s'->RelV v w'->Q w' s'):Ek (Es X.prog X.w) A (call (.builtin "dict.pop") (.ref a::u::more)) Q E s:=by
 obtain⟨z,hd,vs,rel,dd⟩:=NY I.hok e;obtain⟨w',hw,rw'⟩:=RelO.some_of (v:=v) (o:=L9 vs k) (by rw[←l];exact rel.val k);have hp:(keyPart u).isSome=true:=by
  cases k with
  |inl i=>obtain⟨t,q⟩:=(show∃t,u=Mj i t from ry);subst q;rfl
  |inr x=>obtain⟨t,q⟩:=(show∃t,u=LX x t from ry);subst q;rfl
 have ha:argsOk "dict.pop" ⟨.ref a::u::more,[]⟩:=by
  rcases hm with q|⟨x,q⟩
  ·subst q;exact PySem.F.args_dict_pop_2 _ _
  ·subst q;exact PySem.F.args_dict_pop_3 _ _ _
 refine JB PySem.F.slot_dict_pop dd.typeIs PySem.F.entry_dict_pop ha (meets_dict_pop_there (mixKind X.prog X.w) a (vZ ry) more hm hp)
  ⟨vs,w',dd,by rw[←rel.length];exact z,hw,fun h' dd' hs=>h w' _ ?_ rw'⟩
 have he:∃q,h'.get? a=some q:=let ⟨q,_,_,hq,_⟩:=dd';⟨q,hq⟩;exact vP I (by rw[e];exact Lc) hs he (Gr (Z5 (N0 Dm k) z) hd (rel.drop k) dd')
theorem TC {Q:Eg->Dh}(I:Inv X Dp σ H s)(e:Rd H a (.dK Dm))(h:∀t s',Inv X Dp σ H s'->Q (.int Dm.length t) s'):Ek (Es X.prog X.w) A (call (.builtin "len") [.ref a]) Q E s:=by
 obtain⟨z,hd,vs,rel,dd⟩:=vQ I.hok e;refine call_len_dict hd dd (by rw[←rel.length];rw[Yp]at z;omega) ?_;rw[←rel.length];exact h _ _ (I.tok _)
end
def PF (i:EF):Prop:=∀ov iv,subscripted i false ov iv=operate [ov,iv] (Mi ov iv)
theorem Bs {prog:Ei}{w:Em}{A:EC}{E:Eg->Dh}{s:Ej}{env:Env}{value slice:EF}{pos:Pos}{T id:String}{Q:Eg->Dh}
  (hl:typeLookup (.type T) "__getitem__"=Lx (some (.builtin id))) (hs:PF slice)
  (h:Ek (Es prog w) A (E1 value env) (fun o s₁=>Ek (Es prog w) A (E1 slice env) (fun i s₂=>s₂.TypeIs o T/\Ek (Es prog w) A (Mi o i) Q E s₂) E s₁) E s) :
  Ek (Es prog w) A (E1 (.Subscript value slice pos) env) Q E s:=by
 refine Subscript_ (Yk h (fun o s₁ h₁=>Yk h₁ (fun i s₂ h₂=>?_) fun _ _ x=>x) fun _ _ x=>x);obtain⟨hT,h₂⟩:=h₂;unfold subscriptTail;refine Q9 ?_;rw[getitemInPython_of_ne hT.not_modules];refine Q9 (J4 hT hl ?_);have fin:Ek (Es prog w) A (subscripted slice false o i) (fun r s₃=>Ek (Es prog w) A (letTemporaryGo value o r>>=fun _=>Lx r) Q E s₃) E s₂:=by
  rw[hs o i];exact wpAny_operating (Yk h₂ (fun r s₃ h₃=>Q9 (wpAny_letTemporaryGo (Zg h₃))) fun _ _ x=>x)
 first
  |exact Zg (Q9 fin)
  |exact Q9 (Zg (Q9 fin))
  |exact Q9 fin
theorem CN (I:Inv X Dp σ H s)(g:DGet H a y o):s.TypeIs (.ref a) "dict":=by
 rcases g with⟨Dm,k,e,_,_⟩|⟨Dm,k,b,e,_,_,_⟩
 ·obtain⟨_,_,vs,_,dd⟩:=vQ I.hok e;exact dd.typeIs
 ·obtain⟨_,_,xs,_,dd⟩:=Ic I.hok e;exact dd.typeIs
def Wj (td ty:TE):TE:=fun σ H Q=>td σ H fun x H1=>ty σ H1 fun y H2=>∃a v,x=.ref a/\DGet H2 a y (some v)/\Q v H2
def RZ (td ty tv:TE):TS:=fun D σ H=>tv σ H fun v H1=>td σ H1 fun x H2=>ty σ H2 fun y H3=>∃a H4,x=.ref a/\DPut H3 a y v H4/\D.nx σ H4
section
variable {X:Cx}{o i e value:EF}{pos DM tpos:Pos}{td ty tv:TE}
theorem jA (hu:X.A.units+1<E5)(ho:PE X o td)(hi:PE X i ty)(hs:PF i):PE X (.Subscript o i pos) (Wj td ty):=by
 intro Dp s σ H Q I h;refine Bs PySem.F.slot_dict_getitem.lookup hs (Ci (ho Dp s σ H _ I h) fun u s1 ⟨x,H1,I1,rx,q1⟩=>Ci (hi Dp s1 σ H1 _ I1 q1) fun iv s2 ⟨y,H2,I2,ry,a,v,ex,g,q2⟩=>?_);subst ex;obtain rfl:u=Eu a:=rx;exact⟨CN I2 g,MT hu I2 g ry fun w' s3 I3 rw'=>⟨v,H2,I3,rw',q2⟩⟩
theorem xO (hu:X.A.units+1<E5)(ho:PE X o td)(hi:PE X i ty)(hv:PE X value tv)(hs:Mm value (some (.Subscript o i DM)) pos.line X.env=Lx false) :
  PS X (.Assign [.Subscript o i DM] value pos) (RZ td ty tv):=by
 intro Dp s σ H D I h;refine wpAny_Assign_Subscript (Ci (hv Dp s σ H _ I h) fun r s1 ⟨v,H1,I1,rv,q1⟩=>Ci (ho Dp s1 σ H1 _ I1 q1) fun u s2 ⟨x,H2,I2,rx,q2⟩=>Ci (hi Dp s2 σ H2 _ I2 q2) fun iv s3 ⟨y,H3,I3,ry,a,H4,ex,g,q3⟩=>?_) hs;subst ex;obtain rfl:u=Eu a:=rx;exact MU hu I3 g ry rv fun s4 I4=>⟨σ,H4,I4,q3⟩
end
theorem NX (h:Ez)(hb:EM<h.objs.size):ObjOk P w H (h.push { cls:=.type "dict",data:=.dict #[] }) h.objs.size (.dK []) :=
 ⟨ZT _,Yv.mpr (EA (Zz hb)),[],.nil,Heap.DictOf.new h⟩
def S6:TE:=fun _ H Q=>∀p,H p=none->Q (.ref p) (upd H p (.dK []))
section
variable {X:Cx}{pos:Pos}
theorem yO:PE X (.Dict [] [] pos) S6:=fun Dp s σ H Q I h =>
 wpAny_Dict_empty ⟨.ref s.heap.objs.size,_,I.laid (a:=s.heap.objs.size) (o:=.dK []) (t':=s.toks) (fun _ _ q=>Zd _ q) (Ze _) (NX s.heap I.big),rfl,h _ (I.hok.fresh (Ze _))⟩
end
structure M1 (X:Cx)(o:EF)(m:Str)(Ds:Pos)(e:EF)(Dr:Pos):Prop where
 base:Lu o m X.env (E1 o X.env)=E1 o X.env
 few:((E8 Dr (Ev [e] X.env)).all (fun x=>!x.1)&&(Mc Dr (LD [] X.env)).all (fun x=>x.1.isSome) && decide (([e]:List EF).length+([]:List Keyword).length+(if([]:List Keyword).isEmpty then 0 else 1)<30))=true
 line:(Ds.endLine==Dr.line)=true
 trees:E8 Dr (Ev [e] X.env)=[(false,E1 e X.env)]
structure M2 (X:Cx)(o:EF)(m:Str)(Ds:Pos)(e f:EF)(Dr:Pos):Prop where
 base:Lu o m X.env (E1 o X.env)=E1 o X.env
 few:((E8 Dr (Ev [e,f] X.env)).all (fun x=>!x.1)&&(Mc Dr (LD [] X.env)).all (fun x=>x.1.isSome) && decide (([e,f]:List EF).length+([]:List Keyword).length+(if([]:List Keyword).isEmpty then 0 else 1)<30))=true
 line:(Ds.endLine==Dr.line)=true
 trees:E8 Dr (Ev [e,f] X.env)=[(false,E1 e X.env),(false,E1 f X.env)]
def Tp (H:Hp)(a:Eh):Prop:=(∃Dm,Rd H a (.dK Dm))\/∃Dm,Rd H a (.dT Dm)
theorem Bu (I:Inv X Dp σ H s)(d:Tp H a) :
  s.TypeIs (.ref a) "dict"/\(∀b,Eu a=.ref b->∃ob,s.heap.get? b=some ob/\ob.dict=none)/\(a==EM)=false:=by
 rcases d with⟨Dm,e⟩|⟨Dm,e⟩
 ·obtain⟨_,hd,vs,_,dd⟩:=vQ I.hok e;refine⟨dd.typeIs,fun b q=>?_,hd⟩;cases q;obtain⟨ob,_,_,h1,h2,_⟩:=dd;exact⟨ob,h1,h2.2.1⟩
 ·obtain⟨_,hd,xs,_,dd⟩:=Ic I.hok e;refine⟨dd.typeIs,fun b q=>?_,hd⟩;cases q;obtain⟨ob,_,_,h1,h2,_⟩:=dd;exact⟨ob,h1,h2.2.1⟩
section
variable {X:Cx}{Dp:De}{σ:St}{H:Hp}{s:Ej}{a:Eh}{y d:V}{u r:Eg}{o:Option V}{A:EC}{E:Eg->Dh}
theorem Sm {Q:Eg->Dh}(hu:A.units+1<E5)(I:Inv X Dp σ H s)(g:DGet H a y o)(ry:RelV y u)(h:∀w' s',Inv X Dp σ H s'->RelV (o.getD .non) w'->Q w' s') :
  Ek (Es X.prog X.w) A (call (.builtin "dict.get") [.ref a,u]) Q E s:=by
 rcases g with⟨Dm,k,e,ey,l⟩|⟨Dm,k,b,e,ey,eb,l⟩
 ·subst ey;obtain⟨z,hd,vs,rel,dd⟩:=vQ I.hok e;refine JB YW dd.typeIs JC (PySem.F.args_dict_get_2 _ _) (meets_dict_get (mixKind X.prog X.w) a (vZ ry) hd) ⟨_,dd.mapOf,h _ _ (I.tok _) ?_⟩;rw[l];exact(rel.val k).getD rfl
 ·subst ey;cases(show u=Eu b from ry);obtain⟨z,hd,xs,rel,dd⟩:=Ic I.hok e;refine JB YW dd.typeIs JC (PySem.F.args_dict_get_2 _ _) (meetsH_dict_get (Ml (mixKind X.prog X.w)) a b hd) ⟨JA hu,k,xs,U6 I.hok eb,dd,h _ _ (I.tok _) ?_⟩;rw[l];exact(rel.val k).getD rfl
theorem Sn {Q:Eg->Dh}(hu:A.units+1<E5)(I:Inv X Dp σ H s)(g:DGet H a y o)(ry:RelV y u)(rd:RelV d r)(h:∀w' s',Inv X Dp σ H s'->RelV (o.getD d) w'->Q w' s') :
  Ek (Es X.prog X.w) A (call (.builtin "dict.get") [.ref a,u,r]) Q E s:=by
 rcases g with⟨Dm,k,e,ey,l⟩|⟨Dm,k,b,e,ey,eb,l⟩
 ·subst ey;obtain⟨z,hd,vs,rel,dd⟩:=vQ I.hok e;refine JB YW dd.typeIs JC (PySem.F.args_dict_get_3 _ _ _) (meets_dict_get_default (mixKind X.prog X.w) a (vZ ry) hd r) ⟨_,dd.mapOf,h _ _ (I.tok _) ?_⟩;rw[l];exact(rel.val k).getD rd
 ·subst ey;cases(show u=Eu b from ry);obtain⟨z,hd,xs,rel,dd⟩:=Ic I.hok e;refine JB YW dd.typeIs JC (PySem.F.args_dict_get_3 _ _ _) (meetsH_dict_get_default (Ml (mixKind X.prog X.w)) a b hd r) ⟨JA hu,k,xs,U6 I.hok eb,dd,h _ _ (I.tok _) ?_⟩;rw[l];exact(rel.val k).getD rd
end
def S4 (td ty:TE):TE:=fun σ H Q=>td σ H fun x H1=>∃a,x=.ref a/\Tp H1 a/\ty σ H1 fun y H2=>∃o,DGet H2 a y o/\Q (o.getD .non) H2
def S5 (td ty tx:TE):TE:=fun σ H Q=>td σ H fun x H1=>∃a,x=.ref a/\Tp H1 a/\ty σ H1 fun y H2=>tx σ H2 fun z H3=>∃o,DGet H3 a y o/\Q (o.getD z) H3
def S7 (td ty:TE):TE:=fun σ H Q=>td σ H fun x H1=>∃a,x=.ref a/\Tp H1 a/\ty σ H1 fun y H2=>∃Dm k v,H2 a=some (.dK Dm)/\y=kV k/\Ur Dm k=some v/\Q v (upd H2 a (.dK (IZ Dm k)))
section
variable {X:Cx}{o e f:EF}{Ds Dr:Pos}{td ty tx:TE}
theorem ON (hu:X.A.units+1<E5)(ho:PE X o td)(he:PE X e ty)(m:M1 X o "get" Ds e Dr):PE X (.Call (.Attribute o "get" Ds) [e] [] Dr) (S4 td ty):=by
 intro Dp s σ H Q I h;refine Vi m.base m.few m.line Jr YW PySem.F.type_dict_get (Ci (ho Dp s σ H _ I h) fun u s1 ⟨x,H1,I1,rx,a,ex,d,q1⟩=>?_);subst ex;obtain rfl:u=Eu a:=rx;obtain⟨t1,t2,_⟩:=Bu I1 d;refine⟨t1,t2,?_⟩;rw[m.trees];refine E2 rfl (Lh (Ld (Ci (he Dp s1 σ H1 _ I1 q1) fun iv s2 ⟨y,H2,I2,ry,ov,g,q2⟩=>Lp ?_)));exact Sm hu I2 g ry fun w' s3 I3 rw'=>⟨_,H2,I3,rw',q2⟩
theorem Ii (hu:X.A.units+1<E5)(ho:PE X o td)(he:PE X e ty)(hf:PE X f tx)(m:M2 X o "get" Ds e f Dr):PE X (.Call (.Attribute o "get" Ds) [e,f] [] Dr) (S5 td ty tx):=by
 intro Dp s σ H Q I h;refine Vi m.base m.few m.line Jr YW PySem.F.type_dict_get (Ci (ho Dp s σ H _ I h) fun u s1 ⟨x,H1,I1,rx,a,ex,d,q1⟩=>?_);subst ex;obtain rfl:u=Eu a:=rx;obtain⟨t1,t2,_⟩:=Bu I1 d;refine⟨t1,t2,?_⟩;rw[m.trees];refine E2 rfl (Lh (Ld (Ci (he Dp s1 σ H1 _ I1 q1) fun iv s2 ⟨y,H2,I2,ry,q2⟩ => Ld (Ci (hf Dp s2 σ H2 _ I2 q2) fun fv s3 ⟨z,H3,I3,rz,ov,g,q3⟩=>Lp ?_))))
 exact Sn hu I3 g ry rz fun w' s4 I4 rw'=>⟨_,H3,I4,rw',q3⟩
theorem OP (ho:PE X o td)(he:PE X e ty)(m:M1 X o "pop" Ds e Dr):PE X (.Call (.Attribute o "pop" Ds) [e] [] Dr) (S7 td ty):=by
 intro Dp s σ H Q I h;refine Vi m.base m.few m.line Jr PySem.F.slot_dict_pop PySem.F.type_dict_pop (Ci (ho Dp s σ H _ I h) fun u s1 ⟨x,H1,I1,rx,a,ex,d,q1⟩=>?_);subst ex;obtain rfl:u=Eu a:=rx;obtain⟨t1,t2,_⟩:=Bu I1 d;refine⟨t1,t2,?_⟩;rw[m.trees];refine E2 rfl (Lh (Ld (Ci (he Dp s1 σ H1 _ I1 q1) fun iv s2 ⟨y,H2,I2,ry,Dm,k,v,ea,ey,l,q2⟩=>Lp ?_)));subst ey;exact TD I2 ea ry l (.inl rfl) fun w' s3 I3 rw'=>⟨v,_,I3,rw',q2⟩
end
section
variable {X:Cx}{Dp:De}{σ:St}{H:Hp}{s:Ej}{a:Eh}{Dm:Dl}{A:EC}{E:Eg->Dh}
theorem NV {Q:Eg->Dh}(I:Inv X Dp σ H s)(e:Rd H a (.dK Dm))(h:∀p s',H p=none->Inv X Dp σ (upd H p (.dK Dm)) s'->Q (.ref p) s'):Ek (Es X.prog X.w) A (call (.type "dict") [.ref a]) Q E s:=by
 obtain⟨z,hd,vs,rel,dd⟩:=vQ I.hok e;refine kt_call_dict hd dd (by rwa[←rel.length]) fun h' dd' hs=>?_;refine h _ _ (I.hok.fresh (Ze _)) (I.laid (a:=s.heap.objs.size) (o:=.dK Dm) (t':=s.toks) (fun b q hq=>?_) (Ze _) (Gr z (Yv.mpr (EA (Zz I.big))) rel dd'));exact(hs.2 b (Zz (Zq hq))).trans (Zd _ hq)
end
end L2
namespace Att
open PySem PySem.W PySem.Calls PyProof.Rows
theorem XN {P:Params}{h:Ez}:∀(ns:List Int) (vs:Db),WellAll P h vs (ns.map WData.int)->IntsAre vs ns:=by
 intro ns
 induction ns with
 |nil =>
  intro vs w;rw[Vh]at w;cases w;exact .nil
 |cons n ns ih =>
  intro vs w;rw[ZC]at w;cases w with
  |cons a b =>
   cases a;exact .cons _ _ (ih _ b)
theorem Nq {l:OpenLaw}{n:Nat}(hn:l.most=some n){P:Params}{h:Ez}{args:List WData}{vals:Db}
  (hpre:l.row.toRowW.claim.pre args=true) (hwl:WellAll P h vals args) :
  ∃a vs ns,vals=[Eu a]/\args=[WData.list (ns.map WData.int)]/\h.get? a=some { cls:=.type "list",data:=.seq vs.toArray }/\IntsAre vs ns/\ns.length<=n:=by
 have hsh:WShape.hasAll [] args [.list .int]=true:=(pre_splitW hpre).1;have hc:l.pre.holds [] { args:=args }=true:=(pre_splitW hpre).2;obtain⟨d,r,rfl,h1,h2⟩:=hasAllW_cons hsh;obtain rfl:=hasAllW_nil h2;obtain⟨xs,rfl,h3⟩:=hasW_list h1;obtain⟨ns,rfl⟩:=items_int h3;have Dq:ns.length<=n:=by
  unfold OpenLaw.pre at hc;have h4:(WTm.not (.lt (.lit (.int (n:Int))) (.len (.arg 0)))).holds [] { args:=[.list (ns.map .int)] }=true:=by
   have h4:=(holds_andW hc).1;rw[hn]at h4;exact h4
  have h5:=condW_of h4 (w_not (w_lt w_lit (w_len_list (w_arg rfl))));rw[Q7]at h5;refine Nat.le_of_not_lt fun q=>?_;have q':(n:Int)<((ns.length:Nat):Int):=by omega
  first
   |(rw[Zf q']at h5;exact absurd h5 (by decide))
   |(simp at h5;omega)
 cases hwl with
 |cons w1 w2 =>
  cases w2;cases w1 with
  |list ho hall=>exact⟨_,_,ns,rfl,rfl,ho,XN ns _ hall,Dq⟩
theorem Nn (l:OpenLaw)(args:List WData):l.row.toRowW.claim.post args (.bool true) args=true :=
 postW_of (r:=l.row.toRowW) (X:=(true==true))
  (show WShape.has [] (.bool true) .bool=true by first|rfl|decide|simp[WShape.has,WShape.arms,WShape.armsAll])
  (show(WTm.eq .res (.lit (.bool true))).value [] { args:=args,res:=some (.bool true),after:=args }=some (.bool (true==true)) from w_eq_bool (w_res rfl) w_lit) rfl
theorem attach_call {l:OpenLaw}{n:Nat}{q:Ei}{loose:Da}{XP:(Str->Dc)->Ez->Prop}{YP:Em->Ez->Prop}{d:DefRec}
  (hn:l.most=some n) (hdf:d.params.defaults=[])
  (call:∀(w:Em) (s₀ s₁:Ej) (mg mb:Str->Dc) (fa:Eh) (o:Obj) (pm cd doc:Eg) (a:Eh) (vs:Db) (ns:List Int),Ground q loose [] XP w s₀ mg mb s₁.heap->YP w s₁.heap -> s₁.heap.get? fa=some o->o.data=.func (docDef d.name d.params d.body d.scope pm cd doc)->s₁.heap.CodeRec cd d.name->mg d.name=some (.ref fa) -> s₁.heap.get? a=some { cls:=.type "list",data:=.seq vs.toArray }->IntsAre vs ns->ns.length<=n->s₁.gens=#[] -> LU (Es l.prog w) callerA (.call (.ref fa) ⟨[.ref a],[]⟩) (fun r s'=>r=.ok (.ret (.bool true))/\OldK s₁.heap s'.heap/\s'.os=s₁.os/\Mg s'.gens) s₁) :
  WalkO q loose XP YP l.row.toRowW d [] (fun f vs=>PySem.call f vs):=by
 intro w s₀ s₁ mg mb G Y fa o pm cd doc dV kV ho hd hcd hD hmg hg args vals as hpre hlay hrd hwl hlo;obtain rfl:dV=.none:=Dflts.none hD hdf;obtain rfl:kV=.none:=Dflts.noKw hD;obtain⟨a,vs,ns,rfl,rfl,hobj,hints,Dq⟩:=Nq hn hpre hwl;refine enter_call (Y8 (call w s₀ s₁ mg mb fa o pm cd doc a vs ns G Y ho (fd_plain hd) hcd hmg hobj hints Dq hg) fun r s' hq=>?_);obtain⟨rfl,h2,h3,h4⟩:=hq;exact⟨.inl ⟨.bool true,.bool true,[],rfl,fun _=>rfl,.bool true,Nn l _,fun _=>⟨List.Pairwise.nil,fun _ hm=>(nomatch hm)⟩⟩,h2,h3,h4⟩
end Att
namespace L2
open PySem PySem.Spec PyProof.Rows
theorem GZ:∀{vs:Db} {ns:List Int},IntsAre vs ns->Vals (ns.map V.int) vs
 |_,_,.nil=>.nil
 |_,_,.cons n t h=>.cons ⟨t,rfl⟩ (GZ h)
def Only (H:Hp):Prop:=∀b,H b=none\/∃o xs,H b=some (.frz o (.lst xs))
theorem Ol {P:Ei}{w:Em}{K:Cd}{mg mb:Str->Dc}{CX:ND}{k:Nat}{fa a:Eh}{fd:El}{x:Str}{sp:Sp}{s₁:Ej}{vs:Db}{ns:List Int}
  (KX:K.In s₁.heap) (hns:s₁.heap.Ns Et mg) (hb:s₁.heap.Ns builtinsNs mb) (hbb:∀x:Str,x≠"__name__"->mb x=LL x) (hlim:s₁.heap.NoLimit) (hg:s₁.gens=#[])
  (ha:s₁.heap.get? a=some { cls:=.type "list",data:=.seq vs.toArray }) (hi:IntsAre vs ns) (hl:ns.length<=sizeLine) (hr:Room k callerA)
  (F:∀base:Ez,K.In base->base.Ns Et mg->FnOk P w K mg base CX k fa fd [x] sp) (hbind:∀(s:Ej) (u:Eg),BindsTo s fd ⟨[u],[]⟩ [(x,u)])
  (hsp:∀H:Hp,Only H->SqL K H a (ns.map V.int)->sp [.ref a] H (fun v _=>v=.bl true) fun _ _ _=>False)
  (hCX:∀H e s',CX [] H s₁ (fun _ _ _=>False) e s'->False) :
  LU (Es P w) callerA (.call (.ref fa) ⟨[.ref a],[]⟩) (fun r s'=>r=.ok (.ret (.bool true))/\OldK s₁.heap s'.heap/\s'.os=s₁.os/\Mg s'.gens) s₁:=by
 have rv:=GZ hi;have lenV:=hi.length;have core:∀H:Hp,Only H->SqL K H a (ns.map V.int)->HOk P w H s₁.heap->(∀b,H b≠none->b=a)->(H a≠none->K.lookup a=none) ->
   LU (Es P w) callerA (.call (.ref fa) ⟨[.ref a],[]⟩) (fun r s'=>r=.ok (.ret (.bool true))/\OldK s₁.heap s'.heap/\s'.os=s₁.os/\Mg s'.gens) s₁:=by
  intro H hO hS hok hA hK;have base_of:∀{b:Eh} {o:Obj},s₁.heap.get? b=some o->H b=none->(BD s₁.heap H).get? b=some o:=fun e n=>Oa e n;have noA:∀{b:Eh} {o:Obj} {es:Array LZ} {ep:Nat},s₁.heap.get? b=some o->o.data=.dict es ep->H b=none:=fun{b o es ep} e d=>by
   cases q:H b with
   |none=>rfl
   |some u =>
    have e':b=a:=hA b (by rw[q];simp);subst e';rw[ha]at e;cases e;have d':Data.seq vs.toArray _=Data.dict es ep:=d;cases d'
  have nsK:∀{b:Eh} {m:Str->Dc},s₁.heap.Ns b m->(BD s₁.heap H).Ns b m:=fun{b m} ⟨o,es,ep,e,d,r⟩=>⟨o,es,ep,base_of e (noA e d),d,r⟩;have hKb:K.In (BD s₁.heap H):=fun b o e=>base_of (KX b o e) (by
   cases q:H b with
   |none=>rfl
   |some u =>
    have e':b=a:=hA b (by rw[q];simp);subst e';rw[hK (by rw[q];simp)]at e;cases e)
  have hM:Mod K mg (BD s₁.heap H):=⟨hKb,nsK hns,⟨mb,nsK hb,hbb⟩,let ⟨mc,h1,h2⟩:=hlim;⟨mc,nsK h1,h2⟩⟩;have e0:Env0 P w K mg (BD s₁.heap H) callerA [] s₁ H:=⟨rfl,hM,fun b o e=>Re e,Vg (M7 _ _),trivial,fun b hb=>absurd (show b∈([]:Dd) from hb) (by simp),hok,.of_eq hg⟩;refine Y8 ((F _ hKb (nsK hns)).run callerA [] s₁ H ⟨[.ref a],[]⟩ [.ref a] [.ref a] _ _ hr e0 (hbind s₁ (.ref a)) (.cons rfl .nil) (hsp H hO hS)) fun r s' h=>?_;cases r with
  |error e=>exact(hCX H e s' h).elim
  |ok fl =>
   cases fl with
   |next=>exact EB h
   |brk=>exact EB h
   |cont=>exact EB h
   |ret u =>
    obtain⟨v,H',os,bare,un,hok',r',q⟩:=h;have q':v=.bl true:=q;subst q';obtain rfl:u=LV true:=r';refine⟨rfl,OldK.of_keep fun b o e=>?_,os,bare⟩;cases q:H b with
    |none=>exact un.keep b o e q (by intro z;exact absurd (show b∈([]:Dd) from z) (by simp)) (by simp)
    |some u =>
     rcases hO b with z|⟨ob,xs,z⟩
     ·rw[q]at z;cases z
     ·have z2:=un.frzs b ob _ z;obtain⟨e1,_⟩:=hok b _ z;obtain⟨e2,_⟩:=hok' b _ z2;rw[e]at e1;cases e1;exact e2
 cases hk:K.lookup a with
 |some o =>
  have e:=KX a o hk;rw[ha]at e;cases e;refine core (fun _=>none) (fun _=>.inl rfl) (.inr ⟨_,vs.toArray,_,hk,rfl,rfl,rfl,by rw[Zw,lenV];exact hl,by simpa using rv⟩) (fun b u z=>by have z':(none:Option HO)=some u:=z;cases z') (fun b z=>absurd rfl z) fun z=>absurd rfl z
 |none =>
  refine core (fun b=>if b=a then some (.frz { cls:=.type "list",data:=.seq vs.toArray } (.lst (ns.map V.int))) else none) (fun b=>?_) (.inl (.inr ⟨{ cls:=.type "list",data:=.seq vs.toArray },Zy rfl⟩)) (fun b u z=>?_) (fun b z=>?_) fun _=>hk
  ·by_cases hb:b=a
   ·exact .inr ⟨_,_,Zy hb⟩
   ·exact .inl (ZA hb)
  ·by_cases hb:b=a
   ·have z':=(Zy hb).symm.trans z;cases z';subst hb;exact⟨ha,by rw[Q7];exact hl,vs,_,rv,ha⟩
   ·have z':=(ZA hb).symm.trans z;cases z'
  ·by_cases hb:b=a
   ·exact hb
   ·exact absurd (ZA hb) z
theorem walk_of {l:PySem.W.OpenLaw}{n k:Nat}{q:Ei}{loose:Da}{XP:(Str->Dc)->Ez->Prop}{YP:Em->Ez->Prop}{d:DefRec}{K:Params->Cd}{CX:Em->ND}{sp:Em->Sp}{x:Str}
  (hn:l.most=some n) (hn2:n<=sizeLine) (hdf:d.params.defaults=[]) (hr:Room k callerA)
  (hY:∀(w:Em) (h:Ez),YP w h->(K w.params).In h)
  (F:∀(w:Em) (mg:Str->Dc) (fa:Eh) (h:Ez),(K w.params).In h->h.Ns Et mg->mg d.name=some (.ref fa) -> ∃fd:El,(∀(s:Ej) (u:Eg),BindsTo s fd ⟨[u],[]⟩ [(x,u)]) /\ ∀base:Ez,(K w.params).In base->base.Ns Et mg->FnOk l.prog w (K w.params) mg base (CX w) k fa fd [x] (sp w))
  (hsp:∀(w:Em) (H:Hp) (a:Eh) (ns:List Int),ns.length<=n->Only H->SqL (K w.params) H a (ns.map V.int)->sp w [.ref a] H (fun v _=>v=.bl true) fun _ _ _=>False)
  (hCX:∀(w:Em) (H:Hp) (s:Ej) (e:Eg) (s':Ej),CX w [] H s (fun _ _ _=>False) e s'->False) :
  PySem.W.WalkO q loose XP YP l.row.toRowW d [] (fun f vs=>PySem.call f vs):=by
 refine Att.attach_call hn hdf fun w s₀ s₁ mg mb fa o pm cd doc a vs ns G Y ho hd hcd hmg hobj hints Dq hg=>?_;have KX:=hY w _ Y;obtain⟨fd,hb,hF⟩:=F w mg fa _ KX G.T.g hmg;exact Ol KX G.T.g G.T.b G.T.builtins G.T.nolimit hg hobj hints (Z5 Dq hn2) hr hF hb (fun H hO hS=>hsp w H a ns Dq hO hS) fun H e s'=>hCX w H s₁ e s'
def inClass (s:EI)(j:Nat):Stmt:=match s with
 | .ClassDef _ _ _ body _ _ _ _ _ _ _=>body.getD j (.Pass ⟨0,0,0,0⟩)
 |_=>.Pass ⟨0,0,0,0⟩
def x8 (s:EI):Arguments:=match s with
 | .FunctionDef _ a _ _ _ _ _ _ _ _=>a
 |_=>{ posonlyargs:=[],args:=[],vararg:=none,kwonlyargs:=[],kw_defaults:=[],kwarg:=none,defaults:=[] }
def xS (s:EI):List Stmt:=match s with
 | .FunctionDef _ _ b _ _ _ _ _ _ _=>b
 |_=>[]
def zG (s:EI):Scope:=match s with
 | .FunctionDef _ _ _ _ _ _ sc _ _ _=>sc
 |_=>{ kind:=.function,names:=[],isGenerator:=false,isCoroutine:=false }
abbrev Cm:ND:=fun _ _ _ _ _ _=>False
abbrev E0:XK:=fun _ _ _=>False
theorem KZ:vO Cm X E0:=fun _ _ _ _ _ _ _ h=>h.elim
structure Fun (K:Cd)(x qual:Str)(st:EI)(f:Eh)(fd:El):Prop where
 ex:∃(oc:Eg) (od:Option Eh) (kV doc pm:Eg) (an:Option Eh) (cdv ct:Eg) (osl:Array Dc),
  fd=E6 x qual (x8 st) (xS st) (zG st) .none kV doc pm an cdv ct/\K.lookup f=some ⟨oc,od,.func fd,osl⟩/\Lz K cdv qual=true
 kp:ES K (.ref f)=true
section
variable {P:Ei}{w:Em}{K:Cd}{mg:Str->Dc}{base:Ez}
theorem Fun.ok {st:EI}{k:Nat}{sp:Sp}(F:Fun K x qual st f fd)(S:FnScope N ps (zG st))(len:∀vs H Q E,sp vs H Q E->vs.length=ps.length)
  (Ec:∀(cdv:Eg) (A:EC) (outer:List Env) (s:Ej) (H:Hp) (vs:Dj) (Q:VK) (E:XK),Room k (A.deeper (envOfC qual (zG st) s.heap.objs.size f cdv))->sp vs H Q E -> ∃t,PSs (Bz Cm P w K mg base N qual (zG st) f cdv A outer s H E).nox (xS st) t/\t { nx:=fun _ H'=>Q .non H',rt:=Q } (start N vs) H):FnOk P w K mg base Cm (k+1) f fd ps sp:=by
 obtain⟨oc,od,kV,doc,pm,an,cdv,ct,osl,rfl,lk,hcd⟩:=F.ex;refine RT lk hcd S len fun A outer s H vs Q E hr hsp=>?_;obtain⟨t,h,q⟩:=Ec cdv A outer s H vs Q E hr hsp;exact⟨t,h.nox,q⟩
theorem Fun.binds {st:EI}{ps:Da}(F:Fun K x qual st f fd)
  (h:∀(kV doc pm:Eg) (an:Option Eh) (cdv ct:Eg) (us:Db),us.length=ps.length->bindArgs (E6 x qual (x8 st) (xS st) (zG st) .none kV doc pm an cdv ct) ⟨us,[]⟩=Lx (ps.zip us)):Binds K fd ps []:=by
 obtain⟨oc,od,kV,doc,pm,an,cdv,ct,osl,rfl,lk,hcd⟩:=F.ex;exact .all (h kV doc pm an cdv ct)
theorem Xm {x qual:Str}{st:EI}{f:Eh}{oc:Eg}{od an:Option Eh}{osl:Array Dc}{kV doc pm cdv ct:Eg}(l:K.lookup f=some ⟨oc,od,.func (E6 x qual (x8 st) (xS st) (zG st) .none kV doc pm an cdv ct),osl⟩)
  (c:Lz K cdv qual=true) (k:ES K (.ref f)=true):Fun K x qual st f (E6 x qual (x8 st) (xS st) (zG st) .none kV doc pm an cdv ct):=⟨⟨oc,od,kV,doc,pm,an,cdv,ct,osl,rfl,l,c⟩,k⟩
end
theorem GN (hr:Room k A):A.units+1<cLine:=J6 (Nat.add_le_add_left (by decide:1<=64) _) hr.units
section
variable {X:Cx}
theorem pv (i:Nat){x:Str}{pos:Pos}(hN:X.N[i]?=some x:=by rfl)(hv:WC X.env.scope x:=by first|exact EJ rfl|exact Or.inr (EJ rfl)|exact Or.inr (Or.inr rfl))(hd:(x==("__debug__":Str))=false:=by decide)
  (hcd:(x==("__classdict__":Str))=false:=by decide):PE X (.Name x pos) (Ws i):=SK hN hv hd hcd
theorem kS:CallR X (.builtin "len") (fun xs H Q=>∃a Dm,xs=[V.ref a]/\H a=some (.dK Dm)/\Q (.int Dm.length) H):=by
 intro Dp s σ H xs us Q I r h;obtain⟨a,Dm,rfl,ha,q⟩:=h;obtain⟨u,rfl,ru⟩:=vals1 r;cases ru;exact TC I (.inl ha) fun t s' I'=>⟨.int Dm.length,H,I',⟨t,rfl⟩,q⟩
end
theorem Uo {A B:Prop}(h:B):if false=true then A else B:=by
 rwa[ZA ZK]
theorem Um {A B:Prop}(h:A):if true=true then A else B:=by
 rwa[Zy rfl]
theorem Ux {c A B:Prop} [Decidable c](h1:c->A)(h2:¬c->B):if c then A else B:=by
 by_cases h:c
 ·rw[Zy h];exact h1 h
 ·rw[ZA h];exact h2 h
theorem RU {c A B:Prop} [Decidable c](hc:c)(h:B):if(!decide c)=true then A else B:=by
 rw[Zf hc];exact Uo h
def Same (H H':Hp):Prop:=∀b o,H b=some o->H' b=some o
theorem Same.refl (H:Hp):Same H H:=fun _ _ h=>h
theorem Same.trans (a:Same H H1)(b:Same H1 H2):Same H H2:=fun c o h=>b c o (a c o h)
theorem Same.free (e:Same H H'){l:Eh}(h:H' l=Option.none):H l=Option.none:=by
 cases q:H l with
 |none=>rfl
 |some o =>
  rw[e l o q]at h;cases h
theorem Same.seq {K:Cd}(e:Same H H')(h:SqL K H a xs):SqL K H' a xs:=by
 rcases h with(h|⟨o,h⟩)|h
 ·exact .inl (.inl (e _ _ h))
 ·exact .inl (.inr ⟨o,e _ _ h⟩)
 ·exact .inr h
section
variable {κ:Type} [DecidableEq κ]
theorem X4 {Dm:List (κ×V)}{k:κ}(h:Ur Dm k=none):¬k∈Dm.map (·.1):=by
 intro m;obtain⟨p,hp,e⟩:=Zb.mp m;have q:(Dm.any fun kv=>decide (kv.1=k))=true:=ZY.mpr ⟨p,hp,Zf e⟩;rw[qM,h]at q;exact absurd q (by simp)
theorem j7 {Dm:List (κ×V)}{k:κ}{v:V}(h:Ur Dm k=some v):k∈Dm.map (·.1):=by
 have q:(Dm.any fun kv=>decide (kv.1=k))=true:=by
  rw[qM,h]
  all_goals rfl
 obtain⟨p,hp,e⟩:=ZY.mp q;exact Zb.mpr ⟨p,hp,Zx e⟩
theorem kA:∀{l:List κ} {k:κ},l.Nodup->¬k∈l->(l++[k]).Nodup
 |[],k,_,_=>by simp
 |a::r,k,h,hk=>by
  obtain⟨h1,h2⟩:=Z8.mp h;show(a::(r++[k])).Nodup;refine Z8.mpr ⟨fun m=>?_,kA h2 fun m=>hk (Zi.mpr (Or.inr m))⟩
  rcases Zt.mp m with q|q
  ·exact h1 q
  ·exact hk (Zi.mpr (EJ (Q8.mp q).symm))
end
theorem qZ {α β:Type}{f:α->β->Sem (ForInStep β)}(g:β->α->β):∀(l:List α) (c:β),(∀x∈l,∀c,f x c=Lx (.yield (g c x)))->forIn l c f=Lx (l.foldl g c)
 |[],c,_=>rfl
 |x::l,c,h=>by
  rw[List.forIn_cons,h x Zc,pure_bind];exact qZ g l (g c x) fun y hy=>h y (Za _ hy)
def U0 (cells:List (Str×Eh))(c:List (Str×Eh))(x:Str×LR):List (Str×Eh) :=
 if x.2==.free then(match cells.lookup x.1 with|some a=>(x.1,a)::c|none=>c) else c
def qH (env:Env)(sc:LP):List (Str×Eh):=sc.names.foldl (U0 env.cells) []
theorem kW {scope:LP}{env:Env}(h:∀x∈scope.names,x.2=.free->∃c,env.cells.lookup x.1=some c):closureFor scope env=Lx (qH env scope):=by
 simp only[closureFor];rw[qZ (U0 env.cells) scope.names [] (fun x hx c=>?_)]
 ·rfl
 ·obtain⟨n,k⟩:=x;unfold U0;cases hk:(k==NameKind.free) with
  |true =>
   have e:k=.free:=by simpa using hk
   obtain⟨a,ha⟩:=h (n,k) hx e;have ha':env.cells.lookup n=some a:=ha;simp only[hk,if_true,cellOf,ha',pure_bind]
  |false=>simp only[hk,YG,JY]
theorem xZ {β:Type}(x n:Str)(a:β)(l:List (Str×β)):LC x ((n,a)::l)=if x=n then some a else LC x l:=by
 by_cases h:x=n
 ·have hb:(x==n)=true:=Jy.mpr h;simp only[List.lookup_cons,hb,Zy h]
 ·have hb:(x==n)=false:=Yv.mpr h;simp only[List.lookup_cons,hb,ZA h]
theorem IF {cells:List (Str×Eh)}:∀(names:List (Str×LR)) (acc:List (Str×Eh)),(∀x c,acc.lookup x=some c->cells.lookup x=some c) ->
  ∀x c,(names.foldl (U0 cells) acc).lookup x=some c->cells.lookup x=some c
 |[],acc,h=>h
 |(n,k)::r,acc,h=>IF r _ fun x c e=>by
  unfold U0 at e
  by_cases hk:((n,k).2==NameKind.free)=true
  ·rw[Zy hk]at e;dsimp only at e;cases q:cells.lookup n with
   |none=>rw[q]at e;exact h x c e
   |some a =>
    rw[q]at e;dsimp only at e;rw[xZ]at e
    by_cases hx:x=n
    ·rw[Zy hx]at e;rwa[hx,q]
    ·rw[ZA hx]at e;exact h x c e
  ·rw[ZA hk]at e;exact h x c e
theorem GK:∀(names:List (Str×LR)) (acc:List (Str×Eh)) (x:Str),(∃c,acc.lookup x=some c)->∃c,(names.foldl (U0 cells) acc).lookup x=some c
 |[],acc,x,h=>h
 | (n,k)::r,acc,x,h=>GK r _ x (by
  obtain⟨c,h⟩:=h;unfold U0
  by_cases hk:((n,k).2==NameKind.free)=true
  ·rw[Zy hk];dsimp only;cases q:cells.lookup n with
   |none=>exact⟨c,h⟩
   |some a =>
    dsimp only;rw[xZ]
    by_cases hx:x=n
    ·exact⟨a,by rw[Zy hx]⟩
    ·exact⟨c,by rw[ZA hx];exact h⟩
  ·rw[ZA hk];exact⟨c,h⟩)
theorem CJ {cells:List (Str×Eh)}{x:Str}{c:Eh}(hc:cells.lookup x=some c):∀(names:List (Str×LR)) (acc:List (Str×Eh)),(x,NameKind.free)∈names->∃c,(names.foldl (U0 cells) acc).lookup x=some c
 |[],acc,h=>by cases h
 |(n,k)::r,acc,h=>by
  rcases Zi.mp h with e|e
  ·cases e;refine GK r _ x ⟨c,?_⟩;unfold U0;rw[Zy (by rfl)];dsimp only;rw[hc];dsimp only;rw[xZ,Zy rfl]
  ·exact CJ hc r _ e
theorem Kr {env:Env}{sc:LP}{x:Str}{c:Eh}(hc:env.cells.lookup x=some c)(hm:(x,NameKind.free)∈sc.names):(qH env sc).lookup x=some c:=by
 obtain⟨c',h⟩:=CJ hc sc.names [] hm;have e:=IF sc.names [] (fun x c e=>by cases e) x c' h;rw[hc]at e;cases e;exact h
theorem kD {x:Str}{c:Eh}(h:(qH env sc).lookup x=some c):env.cells.lookup x=some c :=
 IF sc.names [] (fun x c e=>by cases e) x c h
def FH (env:Env)(x:Str)(k:LR):NameKind:=if(k==.free&&env.scope.kind==.function&&env.kindOf x==some .cell) then .cell else k
theorem j3 {env:Env}(x:Str):∀names:List (Str×LR),
  (names.map fun(n,k)=>if(k==NameKind.free&&env.scope.kind==.function&&env.kindOf n==some .cell) then(n,NameKind.cell) else(n,k)).lookup x=(names.lookup x).map (FH env x)
 |[]=>rfl
 |(n,k)::r=>by
  have ih:=j3 (env:=env) x r;rw[ZC];have e:(if(k==NameKind.free&&env.scope.kind==.function&&env.kindOf n==some .cell)=true then(n,NameKind.cell) else(n,k))=(n,FH env n k):=by
   unfold FH
   split<;>rfl
  dsimp only;rw[e,xZ,xZ]
  by_cases hx:x=n
  ·rw[Zy hx,Zy hx,hx];rfl
  ·rwa[ZA hx,ZA hx]
theorem XD {env:Env}{scope:LP}{cl:List (Str×Eh)}{C:Eh}(x:Str):(Md scope cl C env).scope.names.lookup x=(scope.names.lookup x).map (FH env x):=j3 x scope.names
def UA (src:List (Option Nat))(σ:St):St:=src.map fun o=>o.bind fun i=>(σ[i]?).join
structure CompOk (sc:LP)(N N':Da)(src:List (Option Nat))(scope:LP):Prop where
 nd:N'.Nodup
 len:src.length=N'.length
 kind:scope.kind=.function
 nocell:∀y∈scope.names,y.2≠.cell
 names:∀y∈scope.names,y.2=.local->scope.names.lookup y.1=some .local
 free:∀y∈scope.names,y.2=.free->sc.names.lookup y.1=some .cell\/sc.names.lookup y.1=some .free
 srcs:((src.zip N').all fun(o,x)=>match o with|none=>true|some i=>N[i]?==some x&&scope.names.lookup x==some .free)=true
theorem CompOk.at (O:CompOk sc N N' src scope){j i:Nat}{x:Str}(h1:src[j]?=some (some i))(h2:N'[j]?=some x):N[i]?=some x/\scope.names.lookup x=some .free:=by
 have hz:(src.zip N')[j]?=some (some i,x):=by rw[Jg];exact⟨h1,h2⟩
 have q:=ZI.mp O.srcs _ (Zm hz);have q':(N[i]?==some x&&scope.names.lookup x==some .free)=true:=q;rw[Zk]at q';exact⟨Vv q'.1,Vv q'.2⟩
def Cx.comp (X:Cx)(N':Da)(scope:LP)(C:Eh)(s:Ej)(H:Hp)(fp:Dd):Cx :=
 { X with N:=N',s₀:=s,H₀:=H,env:=Md scope (qH X.env scope) C X.env,outer:=X.stack,ex:=fp,fn:=fun _=>false,pn:=[],xe:=fun _ _=>False }
theorem Un.adopt {D:Eh}(u:Un fs ex H H1 h h1)(hD:h.get? D=none)(hH:H D=none):Un fs ex H (upd H1 D o) h h1 where
 keep:=u.keep
 slot:=u.slot
 free:=fun b ob q n hx=>by
  have hb:b≠D:=fun z=>by rw[z,hD]at q;cases q
  rw[zH hb];exact u.free b ob q n hx
 there:=u.there
 tups:=fun b xs q=>by rw[zH (zK q hH)];exact u.tups b xs q
 frzs:=fun b ob xs q=>by rw[zH (zK q hH)];exact u.frzs b ob xs q
 tbls:=fun b ps q=>by rw[zH (zK q hH)];exact u.tbls b ps q
theorem HOk.adopt {D:Eh}(x:HOk P w H h)(n:H D=none)(new:ObjOk P w (upd H D o) h D o):HOk P w (upd H D o) h:=fun b u e=>by
 by_cases hb:b=D
 ·subst hb;rw[zB]at e;cases e;exact new
 ·rw[zH hb]at e;exact(x b u e).stay (fun c v _ q=>q) (fun c q=>by rwa[zH (zK q n)]) fun c xs q=>by rwa[zH (zK q n)]
def PFi (X:Cx)(ifs:List EF)(tf:TT):Prop :=
 ∀(Dp:De) (s:Ej) (σ:St) (H:Hp) (Q:Bool->Hp->Prop),Inv X Dp σ H s->tf σ H Q ->
  Ek (Es X.prog X.w) X.A (forIn ifs true fun c r=>if r=true then do let ok ←isTrue c X.env (E1 c X.env);Lx (Mf ok) else Lx (Mf r)) (TP X Dp σ Q) X.xe s
def ID:TT:=fun _ H Q=>Q true H
theorem qD:PFi X [] ID:=by
 intro Dp s σ H Q I h;rw[List.forIn_nil];exact Zg ⟨H,I,h⟩
def UK (src:List (Option Nat))(J:It)(g:TG)(tf:TT)(te:TE)(Q:VK)(σ:St)(H:Hp):Prop :=
 ∃W:Nat->Nat->Dj->St->Hp->Prop,(∃m,W 0 m [] (UA src σ) H)/\∀i m ys σ' H',W i m ys σ' H'->ys.length<=sizeLine /\
 ((J.stop i H'/\∀p,H' p=none->Q (.ref p) (upd H' p (.lst ys))) \/ (J.go i H'/\∃Nx:Dj->St->Hp->Prop,(∀ys2 σ2 H2,Nx ys2 σ2 H2->∃m',m'<m/\W (i+1) m' ys2 σ2 H2) /\ ∀x H2,J.yld i H' x H2->g x σ' H2 fun σ2 H3=>tf σ2 H3 fun b H4=>if b=true then te σ2 H4 fun y H5=>Nx (ys++[y]) σ2 H5 else Nx ys σ2 H4))
def R5 (src:List (Option Nat))(wi:TI)(g:TG)(tf:TT)(te:TE):TE:=fun σ H Q=>wi σ H fun J H1=>UK src J g tf te Q σ H1
section
variable {X:Cx}{tg elt iter:EF}{ifs:List EF}{scope sc:LP}{N N':Da}{src:List (Option Nat)}{g:TG}{tf:TT}{te:TE}{wi:TI}{pos:Pos}
theorem Oo {prog:Ei}{w:Em}{A:EC}{R:Result->Dh}{s:Ej}{it acc:Eg}{env:Env}(I:Nat->Dh)
  (turn:∀n s,I n s->Ek (Es prog w) A (L1 it) (fun r s₁=>match r with
   |none=>R (.ok .next) s₁
   | some v=>Ek (Es prog w) A (LS tg it v) (fun _ s₂=>Ek (Es prog w) A (assign tg env v) (fun _ s₃ =>
     Ek (Es prog w) A (forIn ifs true fun c r=>if r=true then do let ok ←isTrue c env (E1 c env);Lx (Mf ok) else Lx (Mf r)) (fun ok s₄ =>
      if ok=true then Ek (Es prog w) A (E1 elt env) (fun x s₅ =>
       Ek (Es prog w) A (call (.builtin "list.append") [acc,x]) (fun _ s₆=>∃m,m<n/\I m s₆) (fun _ _=>False) s₅) (fun _ _=>False) s₄
      else∃m,m<n/\I m s₄) (fun _ _=>False) s₃) (fun _ _=>False) s₂) (fun _ _=>False) s₁) (fun _ _=>False) s)
  (n:Nat) (h:I n s):LU (Es prog w) A (.compLoop (.ListComp elt [⟨tg,iter,ifs,0⟩] scope pos) 0 it acc env) R s:=by
 refine codeAny_loop rfl I (fun n s hI=>?_) n h;show Ek _ A ((compTurn (.ListComp elt [⟨tg,iter,ifs,0⟩] scope pos) 0 it acc env).onRaise (fun x=>do noteFrame x env;theTreesLotGoes x)) _ _ s;refine wpAny_noted ?_;rw[compTurn_list];refine Q9 (wpAny_standAt (Q9 (Yk (turn n s hI) (fun r s₁ h₁=>?_) fun _ _ h'=>h'.elim)));cases r with
 |none=>exact Zg h₁
 |some v =>
  refine Q9 (Yk h₁ (fun _ s₂ h₂=>?_) fun _ _ h'=>h'.elim);refine Q9 (Yk h₂ (fun _ s₃ h₃=>Q9 (Yk h₃ (fun ok s₄ h₄=>?_) fun _ _ h'=>h'.elim)) fun _ _ h'=>h'.elim);cases ok with
  |false=>exact Zg ⟨rfl,h₄⟩
  |true =>
   exact Q9 (Q9 (Yk h₄ (fun x s₅ h₅=>Q9 (Yk h₅ (fun _ s₆ h₆=>Zg (Zg ⟨rfl,h₆⟩)) fun _ _ h'=>h'.elim)) fun _ _ h'=>h'.elim))
theorem PN {fp:Dd}{C:Eh}(O:CompOk sc N N' src scope)(hsc:X.env.scope=sc)(I:Inv X Dp σ H s)(hf:∀b∈fp,XL X Dp H b)
  (ho:∀b∈fp,∃o,s.heap.get? b=some o) (hC:s.heap.objs.size<=C):(X.comp N' scope C s H fp).Ok:=by
 have hk:∀x,((Md scope (qH X.env scope) C X.env).kindOf x=some .cell\/(Md scope (qH X.env scope) C X.env).kindOf x=some .free)->(x,NameKind.free)∈scope.names:=fun x h=>by
  have h:(Md scope (qH X.env scope) C X.env).scope.names.lookup x=some .cell\/(Md scope (qH X.env scope) C X.env).scope.names.lookup x=some .free:=h;rw[XD]at h;cases q:scope.names.lookup x with
  |none=>rw[q]at h;rcases h with h|h<;>cases h
  |some k =>
   have hm:=YR q;rw[q]at h;cases k with
   |free=>exact hm
   |cell=>exact absurd rfl (O.nocell _ hm)
   |_ =>
    exfalso
    rcases h with h|h<;>(have h':=Option.some.inj h;unfold FH at h';simp at h')
 refine⟨I.ok.mod,O.kind,I.ok.glob,I.ok.blt,hC,fun x y c h1 h2=>I.ok.inj x y c (kD h1) (kD h2),fun x h=>?_,fun x c h=>(by cases h),I.ok.hd,I.ok.frames,.inl rfl,fun b hb=>?_,I.bs,Z5 I.ok.bsz I.sz,fun b o e hb=>?_,fun b hb z=>?_,I.stack,I.stkFree⟩
 ·have hm:=hk x h;have hx:=O.free _ hm rfl;rw[←hsc]at hx;obtain⟨c,hc⟩:=I.ok.has x hx;exact⟨c,Kr hc hm⟩
 ·refine⟨?_,fun x c h=>(hf b hb).2.2.2.2.1 x c (kD h)⟩;obtain⟨o,e⟩:=ho b hb;exact Zz (ZG (Zq e) hC)
 ·rcases(hf b hb).2.2.2.1 with z|z
  ·exact I.ok.noex b o e z
  ·exact absurd (ZG (ZG (Zq e) I.ok.bsz) z) (Yu _)
 ·rcases Zi.mp (I.stkSub b z) with e|e
  ·exact(hf b hb).2.1 e
  ·exact(hf b hb).2.2.1 e
theorem NQ {fp:Dd}{C:Eh}{h':Ez}{tk:Nat}(O:CompOk sc N N' src scope)(hsc:X.env.scope=sc)(hN:X.N=N)(I:Inv X Dp σ H s)(hf:∀b∈fp,XL X Dp H b)
  (ho:∀b∈fp,∃o,s.heap.get? b=some o) (hC:s.heap.objs.size<=C) (k:∀b o,s.heap.get? b=some o->h'.get? b=some o) {m':Str->Dc} (hn:h'.Ns C m') :
  Inv (X.comp N' scope C s H fp) [] (UA src σ) H { s with heap:=h',toks:=tk }:=by
 have cells:∀x c,X.env.cells.lookup x=some c->∀v,s.heap.IsCell c v->h'.IsCell c v:=fun x c _ v ⟨o,e,d⟩=>⟨o,k c o e,d⟩;refine⟨PN O hsc I hf ho hC,rfl,I.bare,Un.kept k,⟨_,hn,fun j x v e1 e2 e3=>?_⟩,fun x c e=>?_,I.hok.fresh hC,fun x c e=>I.freeC x c (kD e),fun p hp=>(by cases hp),I.hok.kept k,?_⟩
 ·have e2:(UA src σ)[j]?=some (some v):=e2;have e1:N'[j]?=some x:=e1;unfold UA at e2;rw[Zp]at e2;cases q:src[j]? with
  |none=>rw[q]at e2;cases e2
  |some o =>
   rw[q]at e2;have e2:(o.bind fun i=>(σ[i]?).join)=some v:=Option.some.inj e2;cases o with
   |none=>cases e2
   |some i =>
    have e2:(σ[i]?).join=some v:=e2;obtain⟨y2,hlk⟩:=O.at q e1;have y3:=YR hlk;have e4:σ[i]?=some (some v):=by
     cases r:σ[i]? with
     |none=>rw[r]at e2;cases e2
     |some w=>rw[r]at e2;cases w with
      |none=>cases e2
      |some w'=>have:w'=v:=Option.some.inj e2;rw[this]
    have hx:=O.free _ y3 rfl;rw[←hsc]at hx;obtain⟨m,hm,hl⟩:=I.loc;obtain⟨u,ru,lu⟩:=hl i x v (by rwa[hN]) e4 (.inr hx);refine⟨u,ru,.inr ?_⟩;obtain⟨c,hc,hcell⟩:∃c,X.env.cells.lookup x=some c/\s.heap.IsCell c (some u):=by
     rcases lu with⟨z,_⟩|⟨_,c,hc,hz⟩
     ·exfalso;have z:X.env.scope.names.lookup x=some .local:=z
      rcases hx with hx|hx<;>(rw[hx]at z;cases z)
     ·exact⟨c,hc,hz⟩
    refine⟨?_,c,Kr hc y3,cells x c hc _ hcell⟩;show(Md scope (qH X.env scope) C X.env).scope.names.lookup x=some .cell\/(Md scope (qH X.env scope) C X.env).scope.names.lookup x=some .free;rw[XD,hlk];show some (FH X.env x .free)=some .cell\/some (FH X.env x .free)=some .free;unfold FH
    split
    ·exact .inl rfl
    ·exact .inr rfl
 ·obtain⟨v,z⟩:=I.cell x c (kD e);exact⟨v,cells x c (kD e) v z⟩
 ·show(UA src σ).length=N'.length;unfold UA;rw[Q7];exact O.len
theorem IJ {Dp:De}{σ:St}{H:Hp}{s:Ej}{fp:Dd}{it:Eh}{tn:Nat->Ez->Prop}{J:It}{E:Eg->Dh}{RR:Eg->Eh->Result->Dh}{Fin:Dj->Hp->Prop}(O:CompOk sc N N' src scope)(hsc:X.env.scope=sc)(hN:X.N=N)(D3:X.calm=true)
  (hg:∀C s H fp,PG (X.comp N' scope C s H fp) tg g) (hft:∀C s H fp,PFi (X.comp N' scope C s H fp) ifs tf) (he:∀C s H fp,PE (X.comp N' scope C s H fp) elt te)
  (I:Inv X Dp σ H s) (T:Turn X.prog X.w X.K tg J fp it tn) (t0:tn 0 s.heap) (hf:∀b∈fp,XL X Dp H b)
  (W:Nat->Nat->Dj->St->Hp->Prop) (m0:Nat) (w0:W 0 m0 [] (UA src σ) H)
  (hW:∀i m ys σ' H',W i m ys σ' H'->ys.length<=sizeLine/\((J.stop i H'/\Fin ys H') \/ (J.go i H'/\∃Nx:Dj->St->Hp->Prop,(∀ys2 σ2 H2,Nx ys2 σ2 H2->∃m',m'<m/\W (i+1) m' ys2 σ2 H2) /\ ∀x H2,J.yld i H' x H2->g x σ' H2 fun σ2 H3=>tf σ2 H3 fun b H4=>if b=true then te σ2 H4 fun y H5=>Nx (ys++[y]) σ2 H5 else Nx ys σ2 H4)))
  (hRR:∀(D C:Eh) (s':Ej) (σ':St) (H':Hp) (ys:Dj) (its:Db) (n:Nat),s.heap.objs.size<=D->s.heap.objs.size<=C->Inv (X.comp N' scope C s H fp) [] σ' H' s'->s'.heap.get? D=some { cls:=.type "list",data:=.seq its.toArray n }->Vals ys its->ys.length<=sizeLine -> H' D=none->D≠C->Fin ys H'->RR (.ref D) C (.ok .next) s') :
  Ek (Es X.prog X.w) X.A (newList []) (fun acc s₃=>Ek (Es X.prog X.w) X.A (newFunctionEnv scope X.env.globals (qH X.env scope) [] X.env.qual none .none (some X.env)) (fun cenv s₄ => LU (Es X.prog X.w) X.A (.compStart (.ListComp elt [⟨tg,iter,ifs,0⟩] scope pos) 0 (.ref it) acc { cenv with scope:=relabel scope X.env }) (RR acc cenv.locals) s₄) E s₃) E s:=by
 refine Z4 (wpAny_newFunctionEnv O.nocell (by intro y hy;cases hy) (fun h₁ hns₁ hsb₁=>?_) O.kind);dsimp only at hns₁ hsb₁ ⊢;generalize hH2:s.heap.push { cls:=.type "list",dict:=none,data:=.seq ([]:Db).toArray }=P2 at hns₁ hsb₁ ⊢;have hCs:P2.objs.size=s.heap.objs.size+1:=by rw[←hH2,Ys]
 have hDC:s.heap.objs.size≠P2.objs.size:=by rw[hCs];exact Zz (Jq _)
 have hCle:s.heap.objs.size<=P2.objs.size:=by rw[hCs];exact Ji _
 have below:∀b,b<s.heap.objs.size->b≠P2.objs.size/\b≠s.heap.objs.size:=fun b hb=>⟨by rw[hCs];exact Zz (YK hb),Zz hb⟩;have old:∀b o,s.heap.get? b=some o->h₁.get? b=some o:=fun b o e=>hsb₁.extBut b o (below b (Zq e)).1 (Zd _ (hH2▸Zd _ e));have DU:h₁.get? s.heap.objs.size=some { cls:=.type "list",data:=.seq ([]:Db).toArray 0 }:=hsb₁.extBut _ _ hDC (Zd _ (hH2▸Zo _ rfl));have fpo:∀b∈fp,∃o,s.heap.get? b=some o:=fun b hb=>let ⟨o,e,_⟩:=T.obj 0 _ t0 b hb;⟨o,e⟩;have fplt:∀b∈fp,b<s.heap.objs.size:=fun b hb=>let ⟨o,e⟩:=fpo b hb;Zq e;generalize hD:s.heap.objs.size=D at *;generalize hC:P2.objs.size=C at *;have ok1:∀tk,Inv (X.comp N' scope C s H fp) [] (UA src σ) H { s with heap:=h₁,toks:=tk }:=fun tk=>NQ O hsc hN I hf fpo (by rwa[hD]) old hns₁;have okX:(X.comp N' scope C s H fp).Ok:=(ok1 0).ok;have stat:∀{H':Hp} {pl:De},(∀b∈fp,H' b=none)->(∀p∈pl,p.1∉fp)->∀b∈fp,XL (X.comp N' scope C s H fp) pl H' b:=fun{H' pl} hn hp b hb =>
  ⟨hn b hb,(okX.exf b hb).1,okX.exfs b hb,.inl hb,(okX.exf b hb).2,fun p hm=>by
   have hm:p∈pl:=by simpa[Cx.comp] using hm
   exact fun z=>hp p hm (z▸hb)⟩
 have Dfs:D∉(X.comp N' scope C s H fp).fs:=fun hb=>by
  obtain⟨_,o,ho,_⟩:=okX.funs.mem hb;have ho:s.heap.get? D=some o:=ho;have h1:=Zq ho;rw[hD]at h1;exact Yu _ h1
 have Dcell:∀x c,(X.comp N' scope C s H fp).env.cells.lookup x=some c->c≠D:=fun x c e z=>by
  obtain⟨v,o,ho,_⟩:=I.cell x c (kD e);have h1:=Zq ho;rw[hD,z]at h1;exact Yu _ h1
 have loop:∀tk,LU (Es X.prog X.w) X.A (.compLoop (.ListComp elt [⟨tg,iter,ifs,0⟩] scope pos) 0 (.ref it) (.ref D) (Md scope (qH X.env scope) C X.env)) (RR (.ref D) C) { s with heap:=h₁,toks:=tk }:=by
  intro tk;refine Oo (fun n s'=>∃i ys σ' H' its c,Inv (X.comp N' scope C s H fp) [] σ' H' s'/\tn i s'.heap/\(∀b∈fp,H' b=none)/\s'.heap.get? D=some { cls:=.type "list",data:=.seq (its:Db).toArray c }/\Vals ys its/\H' D=none/\W i n ys σ' H') ?_ m0
   ⟨0,[],UA src σ,H,[],0,ok1 tk,T.keep 0 _ _ t0 fun b _ o e=>old b o e,fun b hb=>(hf b hb).1,DU,.nil,I.hok.fresh (by rw[hD];exact Ze _),w0⟩
  rintro n s3 ⟨i,ys,σ3,H3,its,c3,I3,st3,fr3,d3,v3,nD3,w3⟩;obtain⟨Dq,alt⟩:=hW i n ys σ3 H3 w3
  rcases alt with⟨stop,fin⟩|⟨go,Nx,hNx,step⟩
  ·have I3':Inv (X.comp N' scope C s H fp) [(D,{ cls:=.type "list",data:=.seq its.toArray c3 })] σ3 H3 s3:=I3.pins_of fun p hp=>by
    have e:p=(D,{ cls:=.type "list",data:=.seq its.toArray c3 }):=by simpa using hp
    subst e;exact⟨d3,nD3,hDC,Dfs,fun v z=>by cases z⟩
   refine Ci (T.done (X.comp N' scope C s H fp) rfl rfl rfl D3 i _ s3 σ3 H3 _ I3' (stat fr3 fun p hp z=>by
    have e:p=(D,{ cls:=.type "list",data:=.seq its.toArray c3 }):=by simpa using hp
    rw[e]at z;exact Yu _ (fplt D z)) st3 stop) fun r s4 ⟨hr,I4⟩=>?_
   subst hr;obtain⟨d4,nD4,_⟩:=I4.pin (D,{ cls:=.type "list",data:=.seq its.toArray c3 }) (by simp[Cx.comp]);exact hRR D C s4 σ3 H3 ys its c3 (by omega) (by omega) (I4.pins_of fun p hp=>(by cases hp)) d4 v3 Dq nD4 hDC fin
  ·have I3':Inv (X.comp N' scope C s H fp) [(D,{ cls:=.type "list",data:=.seq its.toArray c3 })] σ3 H3 s3:=I3.pins_of fun p hp=>by
    have e:p=(D,{ cls:=.type "list",data:=.seq its.toArray c3 }):=by simpa using hp
    subst e;exact⟨d3,nD3,hDC,Dfs,fun v z=>by cases z⟩
   have hpD:∀p∈[((D,{ cls:=.type "list",data:=.seq its.toArray c3 }):Eh×Obj)],p.1∉fp:=fun p hp z=>by
    have e:p=(D,{ cls:=.type "list",data:=.seq its.toArray c3 }):=by simpa using hp
    rw[e]at z;exact Yu _ (fplt D z)
   refine Ci (T.item (X.comp N' scope C s H fp) rfl rfl rfl D3 i _ s3 σ3 H3 _ I3' (stat fr3 hpD) st3 go) fun r s4 ⟨u,hr,h4⟩=>?_;subst hr;refine Ci h4 fun _ s5 ⟨x,H5,I5,r5,y5,st5,fr5⟩=>?_;have I5':=I5.pinned (stat fr5 hpD) (T.obj _ _ st5);have pinD:(D,({ cls:=.type "list",data:=.seq its.toArray c3 }:Obj))∈(X.comp N' scope C s H fp).pn++([((D,{ cls:=.type "list",data:=.seq its.toArray c3 }):Eh×Obj)]++Xr fp s5.heap):=by simp[Cx.comp]
   have back:∀{σ7:St} {H7:Hp} {s7:Ej},Inv (X.comp N' scope C s H fp) ([((D,{ cls:=.type "list",data:=.seq its.toArray c3 }):Eh×Obj)]++Xr fp s5.heap) σ7 H7 s7 ->
     tn (i+1) s7.heap/\∀b∈fp,H7 b=none:=fun{σ7 H7 s7} I7=>⟨T.keep _ _ _ st5 fun b hb o e=>(I7.pin (b,o) (ZP _ (ZP _ (jW hb e)))).1,fun b hb=>by
    obtain⟨o,e,d⟩:=T.obj _ _ st5 b hb;exact(I7.pin (b,o) (ZP _ (ZP _ (jW hb e)))).2.1⟩
   refine Ci (hg C s H fp _ s5 σ3 H5 x u _ I5' r5 (step x H5 y5)) fun _ s6 ⟨σ6,H6,I6,q6⟩=>?_;refine Ci (hft C s H fp _ s6 σ6 H6 _ I6 q6) fun b s7 ⟨H7,I7,q7⟩=>?_;cases b with
   |false =>
    obtain⟨m',hm',w7⟩:=hNx ys σ6 H7 (by simpa using q7);obtain⟨b1,b2⟩:=back I7;obtain⟨d7,nD7,_⟩:=I7.pin _ pinD;exact⟨m',hm',i+1,ys,σ6,H7,its,c3,I7.pins_of fun p hp=>(by cases hp),b1,b2,d7,v3,nD7,w7⟩
   |true =>
    have q7:te σ6 H7 fun y H5=>Nx (ys++[y]) σ6 H5:=by simpa using q7
    rw[Zy rfl];refine Ci (he C s H fp _ s7 σ6 H7 _ I7 q7) fun u8 s8 ⟨y,H8,I8,r8,n8⟩=>?_;obtain⟨m',hm',w8⟩:=hNx _ _ _ n8;obtain⟨b1,b2⟩:=back I8;obtain⟨d8,nD8,_⟩:=I8.pin _ pinD;have hl:=v3.length;refine wpAny_list_append_plain (items:=its.toArray) ⟨c3,d8⟩ (fun h9 ⟨c9,d9⟩ sb9=>?_) (by rwa[Zw,←hl]);have I8':Inv (X.comp N' scope C s H fp) [] σ6 H8 s8:=I8.pins_of fun p hp=>by cases hp
    have I9:Inv (X.comp N' scope C s H fp) [] σ6 H8 { s8 with heap:=h9 }:=I8'.turned (t':=s8.toks) (it:=D) (fun b o hb e=>(sb9.2 b hb).trans e) nD8 hDC (.inr (by show s.heap.objs.size<=D;omega)) Dcell (fun p hp=>by
     have hp:p∈([]:De):=by simpa[Cx.comp] using hp
     cases hp)
    refine⟨m',hm',i+1,ys++[y],σ6,H8,its++[u8],c9,I9,T.keep _ _ _ b1 fun b hb o e=>(sb9.2 b (fun z=>Yu _ (z▸fplt b hb))).trans e,b2,?_,v3.append (.cons r8 .nil),nD8,w8⟩;show h9.get? D=_;rw[d9];simp
 exact codeAny_compStart_list (loop _) (T.self _ 0 _ _ _ (T.keep 0 _ _ t0 fun b _ o e=>old b o e) (loop _))
theorem comp_back {σ':St}{H':Hp}{s':Ej}{fp:Dd}{C D:Eh}{ys:Dj}{its:Db}{n:Nat}(I:Inv X Dp σ H s)(hf:∀b∈fp,XL X Dp H b)
  (J:Inv (X.comp N' scope C s H fp) [] σ' H' s') (hD:s.heap.objs.size<=D) (d:s'.heap.get? D=some { cls:=.type "list",data:=.seq its.toArray n }) (v:Vals ys its) (hl:ys.length<=sizeLine) (nD:H' D=none) :
  Inv X Dp σ (upd H' D (.lst ys)) s':=by
 have u:Un (frs X.stack) fp H H' s.heap s'.heap:=J.base;refine I.call' (ch:=fp) J.os (u.adopt (VC hD) (I.hok.fresh hD)) (J.hok.adopt nD ⟨hl,its,n,v,d⟩) J.bare fun b hb=>?_;obtain⟨_,f1,_,f3,f4,f5⟩:=hf b hb;exact⟨f3,f1,f4,f5⟩
theorem Bi {C:Eh}{h':Ez}(I:Inv X Dp σ H s)(I2:Inv X Dp σ2 H2 s2)(hC:s.heap.objs.size<=C)(nC:H2 C=none)(sb:Ll C s2.heap h'):Inv X Dp σ2 H2 { s2 with heap:=h' }:=by
 obtain⟨_,f1,_,f3,f4,f5⟩:=I.fpOk (H':=H2) hC nC;exact I2.turned (t':=s2.toks) (it:=C) (fun b o hb e=>(sb.2 b hb).trans e) nC f1 f3 f4 f5
theorem xC (O:CompOk sc N N' src scope)(hsc:X.env.scope=sc)(hN:X.N=N)(D3:X.calm=true)(hi:PI X tg iter wi)
  (hg:∀C s H fp,PG (X.comp N' scope C s H fp) tg g) (hft:∀C s H fp,PFi (X.comp N' scope C s H fp) ifs tf) (he:∀C s H fp,PE (X.comp N' scope C s H fp) elt te)
  (hs:∀x,foldedSetIterable iter X.env x=Lx x:=by intro _;rfl):PE X (.ListComp elt [⟨tg,iter,ifs,0⟩] scope pos) (R5 src wi g tf te):=by
 intro Dp s σ H Q I h;rw[eval_ListComp];have hclos:closureFor scope X.env=Lx (qH X.env scope):=kW fun x hx hk=>I.ok.has x.1 (by
  have:=O.free x hx hk;rw[←hsc]at this;exact this)
 refine wpAny_comprehension_free (use:=none) rfl hs hclos O.kind O.names (Ci (hi Dp s σ H _ I h) fun v s1 h1=>Ci h1 fun itv s2 h2=>?_);obtain⟨it,fp,tn,J,H2,e,I2,T,st2,f2,W,⟨m0,w0⟩,turn⟩:=h2;subst e;refine IJ (RR:=fun acc C=>compPost (Es X.prog X.w) X.A X.xe none (EP X Dp σ Q) acc C) (Fin:=fun ys H'=>∀p,H' p=none->Q (.ref p) (upd H' p (.lst ys))) O hsc hN D3 hg hft he I2 T st2 f2 W m0 w0 turn ?_;intro D C s' σ' H' ys its n hD hC Jv d vv hl nD hDC fin;have I3:=comp_back I2 f2 Jv hD d vv hl nD;obtain⟨m,hm,_⟩:=Jv.loc;have nC:H' C=none:=Jv.free;refine⟨m,hm,fun h' sb=>⟨.ref D,_,Bi I2 I3 hC (by rwa[zH (EA hDC)]) sb,rfl,fin D nD⟩⟩
theorem Rr {k:Nat}{y:Str}{py spos:Pos}(O:CompOk sc N N' src scope)(hsc:X.env.scope=sc)(hN:X.N=N)(D3:X.calm=true)(hi:PI X tg iter wi)
  (hg:∀C s H fp,PG (X.comp N' scope C s H fp) tg g) (hft:∀C s H fp,PFi (X.comp N' scope C s H fp) ifs tf) (he:∀C s H fp,PE (X.comp N' scope C s H fp) elt te)
  (nd:X.N.Nodup) (hk:X.N[k]?=some y) (hx:Loc X.env.scope y)
  (hsw:Mm (.ListComp elt [⟨tg,iter,ifs,0⟩] scope pos) (some (.Name y py)) spos.line X.env=Lx true:=by rfl)
  (hf:X.fn y=true\/X.env.scope.names.lookup y=some .local:=by first|exact .inl rfl|exact .inr rfl|assumption)
  (hs:∀x,foldedSetIterable iter X.env x=Lx x:=by intro _;rfl):PS X (.Assign [.Name y py] (.ListComp elt [⟨tg,iter,ifs,0⟩] scope pos) spos) (RG (R5 src wi g tf te) (Bh k)):=by
 intro Dp s σ H D₀ I h;rw[exec_Assign_Name_used _ _ _ _ hsw];refine Q9 (wpAny_standAt (Q9 ?_));show Ek _ X.A (do let _ ←comprehension (.ListComp elt [⟨tg,iter,ifs,0⟩] scope pos) scope X.env _ (newList []) false (E1 iter X.env) (some (assign (.Name y py) X.env))) _ _ s;have hclos:closureFor scope X.env=Lx (qH X.env scope):=kW fun x hx hk=>I.ok.has x.1 (by
  have:=O.free x hx hk;rw[←hsc]at this;exact this)
 refine Q9 (Yk (wpAny_comprehension_free (use:=some (assign (.Name y py) X.env)) (Q:=fun _ s'=>SP X Dp D₀ .next s') rfl hs hclos O.kind O.names (Ci (hi Dp s σ H _ I h) fun v s1 h1=>Ci h1 fun itv s2 h2=>?_)) (fun _ s' hq=>Zg (Zg hq)) fun _ _ e=>e)
 obtain⟨it,fp,tn,J,H2,e,I2,T,st2,f2,W,⟨m0,w0⟩,turn⟩:=h2;subst e;refine IJ (RR:=fun acc C=>compPost (Es X.prog X.w) X.A X.xe (some (assign (.Name y py) X.env)) (fun _ s'=>SP X Dp D₀ .next s') acc C) (Fin:=fun ys H'=>∀p,H' p=none->Bh k (.ref p) σ (upd H' p (.lst ys)) D₀.nx) O hsc hN D3 hg hft he I2 T st2 f2 W m0 w0 turn ?_;intro D C s' σ' H' ys its n hD hC Jv d vv hl nD hDC fin;have I3:=comp_back I2 f2 Jv hD d vv hl nD;obtain⟨m,hm,_⟩:=Jv.loc;have nC:H' C=none:=Jv.free;show Ek _ X.A (assign (.Name y py) X.env (.ref D)) _ _ s';refine wpAny_assign_Name (Bc I3 nd hk hx (v:=.ref D) rfl (fun s4 I4 ⟨a,sa,ha⟩=>?_) hf);have aC:C≠a:=by
  rcases ha with e|e
  ·rw[e];intro z;exact Yu _ (ZG I2.lt (z▸hC))
  ·intro z;obtain⟨v,o,ho,_⟩:=I2.cell y a e;exact Yu _ (ZG (Zq ho) (z▸hC))
 refine⟨m,Heap.Ns.sameBut hm sa aC,fun h' sb=>⟨_,_,Bi I2 I4 hC (by rwa[zH (EA hDC)]) sb,fin D nD⟩⟩
end
def W7 (t u:TS):TS:=fun D σ H=>∃R:St->Hp->Prop,t { D with nx:=R } σ H/\∀σ' H',R σ' H'->u D σ' H'
theorem yT {st:EI}{rest:List EI}(h1:PS X st t)(h2:PSs X rest u):PSs X (st::rest) (W7 t u):=by
 intro Dp s σ H D I ⟨R,h,hu⟩;refine V2 (Ci (h1 Dp s σ H { D with nx:=R } I h) fun f s1 q=>?_);cases f with
 |next =>
  obtain⟨σ',H',I',q⟩:=q;exact h2 Dp s1 σ' H' D I' (hu σ' H' q)
 |ret v=>exact q
 |brk=>exact q
 |cont=>exact q
section
variable {K:Cd}{src:List (Option Nat)}{g:TG}{tf:TT}{te:TE}{Q:VK}{a:Eh}{xs:Dj}{σ:St}{H:Hp}
theorem Gb {J:It}(n:Nat)(Pv:Nat->Dj->St->Hp->Prop)(h0:Pv 0 [] (UA src σ) H)(hz:n<=sizeLine)(hl:∀i ys σ H,i<=n->Pv i ys σ H->ys.length<=i)
  (hst:∀ys σ H,Pv n ys σ H->J.stop n H) (hgo:∀i ys σ H,i<n->Pv i ys σ H->J.go i H)
  (hs:∀i ys σ H,i<n->Pv i ys σ H->∀x H2,J.yld i H x H2->g x σ H2 fun σ2 H3=>tf σ2 H3 fun b H4=>if b=true then te σ2 H4 fun y H5=>Pv (i+1) (ys++[y]) σ2 H5 else Pv (i+1) ys σ2 H4)
  (hd:∀ys σ H,Pv n ys σ H->∀p,H p=none->Q (.ref p) (upd H p (.lst ys))):UK src J g tf te Q σ H:=by
 refine⟨fun i m ys σ H=>m=n-i/\i<=n/\Pv i ys σ H,⟨n,by simp,ZT _,h0⟩,?_⟩;rintro i m ys σ' H' ⟨rfl,hi,p⟩;have hy:=hl i ys σ' H' hi p;refine⟨by omega,?_⟩
 by_cases hlt:i<n
 ·exact .inr ⟨hgo i ys σ' H' hlt p,Pv (i+1),fun ys2 σ2 H2 z=>⟨n-(i+1),by omega,rfl,hlt,z⟩,fun x H2 y=>hs i ys σ' H' hlt p x H2 y⟩
 ·have e:i=n:=by omega
  subst e;exact .inl ⟨hst ys σ' H' p,hd ys σ' H' p⟩
theorem MS (Pv:Nat->Dj->St->Hp->Prop)(h0:Pv 0 [] (UA src σ) H)(hz:xs.length<=sizeLine)(hl:∀i ys σ H,i<=xs.length->Pv i ys σ H->SqL K H a xs/\ys.length<=i)
  (hs:∀i x ys σ H,xs[i]?=some x->Pv i ys σ H->g x σ H fun σ2 H3=>tf σ2 H3 fun b H4=>if b=true then te σ2 H4 fun y H5=>Pv (i+1) (ys++[y]) σ2 H5 else Pv (i+1) ys σ2 H4)
  (hd:∀ys σ H,Pv xs.length ys σ H->∀p,H p=none->Q (.ref p) (upd H p (.lst ys))):UK src (R9 K a) g tf te Q σ H :=
 Gb xs.length Pv h0 hz (fun i ys σ H hi p=>(hl i ys σ H hi p).2) (fun ys σ H p=>⟨xs,(hl _ ys σ H (Ze _) p).1,Ze _⟩) (fun i ys σ H hi p=>⟨xs,xs[i],(hl i ys σ H (YF hi) p).1,by simp[hi]⟩)
  (fun i ys σ H hi p x H2 y=>by
   obtain⟨e,y⟩:=y;subst e;exact hs i x ys σ _ (y xs (hl i ys σ _ (YF hi) p).1) p) hd
theorem NR (Pv:Nat->Dj->St->Hp->Prop)(h0:Pv 0 [] (UA src σ) H)(hz:xs.length<=sizeLine)(hl:∀i ys σ H,i<=xs.length->Pv i ys σ H->SqT K H a xs/\ys.length<=i)
  (hs:∀i x ys σ H,xs[i]?=some x->Pv i ys σ H->g x σ H fun σ2 H3=>tf σ2 H3 fun b H4=>if b=true then te σ2 H4 fun y H5=>Pv (i+1) (ys++[y]) σ2 H5 else Pv (i+1) ys σ2 H4)
  (hd:∀ys σ H,Pv xs.length ys σ H->∀p,H p=none->Q (.ref p) (upd H p (.lst ys))):UK src (Pz K a) g tf te Q σ H :=
 Gb xs.length Pv h0 hz (fun i ys σ H hi p=>(hl i ys σ H hi p).2) (fun ys σ H p=>⟨xs,(hl _ ys σ H (Ze _) p).1,Ze _⟩) (fun i ys σ H hi p=>⟨xs,xs[i],(hl i ys σ H (YF hi) p).1,by simp[hi]⟩)
  (fun i ys σ H hi p x H2 y=>by
   obtain⟨e,y⟩:=y;subst e;exact hs i x ys σ _ (y xs (hl i ys σ _ (YF hi) p).1) p) hd
theorem Hh {lo:Int}{n:Nat}(Pv:Nat->Dj->St->Hp->Prop)(h0:Pv 0 [] (UA src σ) H)(hz:n<=sizeLine)(hl:∀i ys σ H,i<=n->Pv i ys σ H->ys.length<=i)
  (hs:∀i ys σ H,i<n->Pv i ys σ H->g (.int (lo+i)) σ H fun σ2 H3=>tf σ2 H3 fun b H4=>if b=true then te σ2 H4 fun y H5=>Pv (i+1) (ys++[y]) σ2 H5 else Pv (i+1) ys σ2 H4)
  (hd:∀ys σ H,Pv n ys σ H->∀p,H p=none->Q (.ref p) (upd H p (.lst ys))):UK src (NC lo n) g tf te Q σ H :=
 Gb n Pv h0 hz hl (fun _ _ _ _=>Ze _) (fun _ _ _ _ hi _=>hi)
  (fun i ys σ H hi p x H2 y=>by
   obtain⟨e,y⟩:=y;subst e y;exact hs i ys σ _ hi p) hd
theorem Ga {te:TE}{A:V->St->Hp->Prop}{B:St->Hp->Prop}:(fun σ2 H3=>ID σ2 H3 fun b H4=>if b=true then te σ2 H4 (fun y H5=>A y σ2 H5) else B σ2 H4)=fun(σ2:St) (H3:Hp)=>te σ2 H3 fun y H5=>A y σ2 H5:=by
 funext σ2 H3
 show(if true=true then(te σ2 H3 fun y H5=>A y σ2 H5) else B σ2 H3)=_;rw[Zy rfl]
theorem jU (Pv:Nat->Dj->St->Hp->Prop)(h0:Pv 0 [] (UA src σ) H)(hz:xs.length<=sizeLine)(hl:∀i ys σ H,i<=xs.length->Pv i ys σ H->SqL K H a xs/\ys.length<=i)
  (hs:∀i x ys σ H,xs[i]?=some x->Pv i ys σ H->g x σ H fun σ2 H3=>te σ2 H3 fun y H5=>Pv (i+1) (ys++[y]) σ2 H5)
  (hd:∀ys σ H,Pv xs.length ys σ H->∀p,H p=none->Q (.ref p) (upd H p (.lst ys))):UK src (R9 K a) g ID te Q σ H :=
 MS Pv h0 hz hl (fun i x ys σ H e p=>by rw[Ga];exact hs i x ys σ H e p) hd
theorem jO (Pv:Nat->Dj->St->Hp->Prop)(h0:Pv 0 [] (UA src σ) H)(hz:xs.length<=sizeLine)(hl:∀i ys σ H,i<=xs.length->Pv i ys σ H->SqT K H a xs/\ys.length<=i)
  (hs:∀i x ys σ H,xs[i]?=some x->Pv i ys σ H->g x σ H fun σ2 H3=>te σ2 H3 fun y H5=>Pv (i+1) (ys++[y]) σ2 H5)
  (hd:∀ys σ H,Pv xs.length ys σ H->∀p,H p=none->Q (.ref p) (upd H p (.lst ys))):UK src (Pz K a) g ID te Q σ H :=
 NR Pv h0 hz hl (fun i x ys σ H e p=>by rw[Ga];exact hs i x ys σ H e p) hd
theorem j8 {lo:Int}{n:Nat}(Pv:Nat->Dj->St->Hp->Prop)(h0:Pv 0 [] (UA src σ) H)(hz:n<=sizeLine)(hl:∀i ys σ H,i<=n->Pv i ys σ H->ys.length<=i)
  (hs:∀i ys σ H,i<n->Pv i ys σ H->g (.int (lo+i)) σ H fun σ2 H3=>te σ2 H3 fun y H5=>Pv (i+1) (ys++[y]) σ2 H5)
  (hd:∀ys σ H,Pv n ys σ H->∀p,H p=none->Q (.ref p) (upd H p (.lst ys))):UK src (NC lo n) g ID te Q σ H :=
 Hh Pv h0 hz hl (fun i ys σ H e p=>by rw[Ga];exact hs i ys σ H e p) hd
end
mutual
def Dt (K:Cd)(H:Hp):Eo->V->Prop
 | .none,v=>v=.non
 | .bool b,v=>v=.bl b
 | .int i,v=>v=.int i
 | .str x,v=>v=.str x
 | .list ds,v=>∃a xs,v=.ref a/\SqL K H a xs/\DtAll K H ds xs
 | .tuple ds,v=>∃a xs,v=.ref a/\SqT K H a xs/\DtAll K H ds xs
 | .dict _,_=>False
def DtAll (K:Cd)(H:Hp):Df->Dj->Prop
 |[],xs=>xs=[]
 |d::ds,xs=>∃x r,xs=x::r/\Dt K H d x/\DtAll K H ds r
end
theorem Same.tupS {K:Cd}(e:Same H H')(h:SqT K H a xs):SqT K H' a xs:=by
 rcases h with(h|⟨o,h⟩)|h
 ·exact .inl (.inl (e _ _ h))
 ·exact .inl (.inr ⟨o,e _ _ h⟩)
 ·exact .inr h
mutual
theorem Dt.same {K:Cd}(e:Same H H'):∀(d:Eo) (v:V),Dt K H d v->Dt K H' d v
 | .none,_,h=>h
 | .bool _,_,h=>h
 | .int _,_,h=>h
 | .str _,_,h=>h
 | .list ds,_,⟨a,xs,h1,h2,h3⟩=>⟨a,xs,h1,e.seq h2,DtAll.same e ds xs h3⟩
 | .tuple ds,_,⟨a,xs,h1,h2,h3⟩=>⟨a,xs,h1,e.tupS h2,DtAll.same e ds xs h3⟩
 | .dict _,_,h=>h
theorem DtAll.same {K:Cd}(e:Same H H'):∀(ds:Df) (xs:Dj),DtAll K H ds xs->DtAll K H' ds xs
 |[],_,h=>h
 |d::ds,_,⟨x,r,h1,h2,h3⟩=>⟨x,r,h1,Dt.same e d x h2,DtAll.same e ds r h3⟩
end
theorem DtAll.length {K:Cd}:∀{ds:Df} {xs:Dj},DtAll K H ds xs->xs.length=ds.length
 |[],_,h=>by cases(show _=[] from h);rfl
 |d::ds,_,⟨x,r,h1,h2,h3⟩=>by rw[h1,Zh,Zh,DtAll.length h3]
theorem DtAll.get {K:Cd}:∀{ds:Df} {xs:Dj} {i:Nat} {x:V},DtAll K H ds xs->xs[i]?=some x->∃d,ds[i]?=some d/\Dt K H d x
 |[],_,_,_,h,e=>by cases(show _=[] from h);simp at e
 |d::ds,_,0,_,⟨x,r,h1,h2,h3⟩,e=>by rw[h1]at e;simp at e;subst e;exact⟨d,rfl,h2⟩
 |d::ds,_,i+1,_,⟨x,r,h1,h2,h3⟩,e=>by
  rw[h1]at e;obtain⟨d',e1,e2⟩:=DtAll.get (i:=i) h3 (by simpa using e);exact⟨d',by simpa using e1,e2⟩
theorem DtAll.strs {K:Cd}:∀(ls:Da),DtAll K H (ls.map Le) (ls.map V.str)
 |[]=>rfl
 |x::ls=>⟨.str x,ls.map V.str,rfl,rfl,DtAll.strs ls⟩
theorem DtAll.strs_of {K:Cd}:∀{ls:Da} {xs:Dj},DtAll K H (ls.map Le) xs->xs=ls.map V.str
 |[],_,h=>h
 |x::ls,_,⟨v,r,h1,h2,h3⟩=>by
  have h2:v=V.str x:=h2;rw[h1,h2,DtAll.strs_of h3];rfl
section
variable {X:Cx}{Dp:De}{σ:St}{H:Hp}{s:Ej}
mutual
theorem Dt.reads (I:Inv X Dp σ H s):∀(d:Eo) (v:V) (u:Eg),Dt X.K H d v->RelV v u->∃as,Reads s.heap u d as
 | .none,_,u,h,r=>by
  cases(show _=V.non from h);cases(show u=EE from r);exact⟨_,.none⟩
 | .bool b,_,u,h,r=>by
  cases(show _=V.bl b from h);cases(show u=LV b from r);exact⟨_,.bool b⟩
 | .int i,_,u,h,r=>by
  cases(show _=V.int i from h);obtain⟨t,e⟩:=(show∃t,u=Mj i t from r);cases e;exact⟨_,.int i t⟩
 | .str x,_,u,h,r=>by
  cases(show _=V.str x from h);obtain⟨t,e⟩:=(show∃t,u=LX x t from r);cases e;exact⟨_,.str x t⟩
 | .list ds,_,u,⟨a,xs,h1,h2,h3⟩,r=>by
  subst h1;cases(show u=Eu a from r);obtain⟨its,rv,⟨o,n,e,c,_,d⟩,_⟩:=I.list h2;obtain⟨as,q⟩:=DtAll.reads I ds xs its h3 rv;exact⟨_,.list e c d (by simpa using q)⟩
 | .tuple ds,_,u,⟨a,xs,h1,h2,h3⟩,r=>by
  subst h1;cases(show u=Eu a from r);obtain⟨its,rv,⟨o,e,c,n,d⟩,_⟩:=I.tuple h2;obtain⟨as,q⟩:=DtAll.reads I ds xs its h3 rv;exact⟨_,.tuple e c d (by simpa using q)⟩
 | .dict _,_,_,h,_=>EB h
theorem DtAll.reads (I:Inv X Dp σ H s):∀(ds:Df) (xs:Dj) (us:Db),DtAll X.K H ds xs->Vals xs us->∃as,LF s.heap us ds as
 |[],_,us,h,r=>by
  cases(show _=[] from h);cases r;exact⟨_,.nil⟩
 |d::ds,_,us,⟨x,rr,h1,h2,h3⟩,r=>by
  subst h1;cases r with
  |cons r1 r2 =>
   obtain⟨as,q1⟩:=Dt.reads I d x _ h2 r1;obtain⟨bs,q2⟩:=DtAll.reads I ds rr _ h3 r2;exact⟨_,.cons q1 q2⟩
end
end
section
variable {X:Cx}
def T8 (K:Cd):R2:=fun x y H Q=>∃d e,Dt K H d x/\Dt K H e y/\Lm d=true/\Lm e=true/\Q (.bl (ER d e)) H
def W0 (K:Cd):R2:=fun x y H Q=>∃d e,Dt K H d x/\Dt K H e y/\Lm d=true/\Lm e=true/\Q (.bl (!ER d e)) H
theorem OJ (hu:X.A.units+64<E5):Cu X (EK .Eq) (T8 X.K):=by
 intro Dp s σ H x y v u Q I rx ry h;obtain⟨d,e,h1,h2,h3,h4,q⟩:=h;obtain⟨as,r1⟩:=Dt.reads I d x v h1 rx;obtain⟨bs,r2⟩:=Dt.reads I e y u h2 ry;exact SeqAt.compareEq_shaped r1 r2 h3 h4 hu ⟨.bl _,H,I,rfl,q⟩
theorem SH (hu:X.A.units+64<E5):Cu X (EK .NotEq) (W0 X.K):=by
 intro Dp s σ H x y v u Q I rx ry h;obtain⟨d,e,h1,h2,h3,h4,q⟩:=h;obtain⟨as,r1⟩:=Dt.reads I d x v h1 rx;obtain⟨bs,r2⟩:=Dt.reads I e y u h2 ry;exact SeqAt.compareNe_shaped r1 r2 h3 h4 hu ⟨.bl _,H,I,rfl,q⟩
theorem uE:∀{ys:Da} {us:Db},Vals (ys.map V.str) us->StrsAre us ys
 |[],us,r=>by rw[Vh]at r;cases r;exact .nil
 |y::ys,us,r=>by
  rw[ZC]at r;cases r with
  |cons r1 r2 =>
   obtain⟨t,e⟩:=r1;subst e;exact .cons y t (uE r2)
theorem U5:∀{us:Db} {ys:Da},StrsAre us ys->Vals (ys.map V.str) us
 |_,_,.nil=>.nil
 |_,_,.cons y t r=>.cons ⟨t,rfl⟩ (U5 r)
def rJoin (K:Cd):V->Dj->Hp->VK->Prop:=fun x vs H Q=>∃sep p ys,x=.str sep/\vs=[.ref p]/\(SqL K H p (ys.map V.str)\/SqT K H p (ys.map V.str))/\(ys.map (·.length)).sum+ys.length*sep.length<=16777216/\Q (.str (Lq sep ys)) H
theorem X0:RP X "str.join" (rJoin X.K):=by
 intro Dp s σ H x xs v us Q I rx rs h;obtain⟨sep,p,ys,rfl,rfl,hq,hz,q⟩:=h;obtain⟨t,rfl⟩:=rx;obtain⟨u,rfl,ru⟩:=vals1 rs;cases ru
 rcases hq with hq|hq
 ·obtain⟨its,r,pl,_⟩:=I.list hq;exact join_list pl.isList (by simpa using uE r) hz fun t' k=>⟨.str _,H,I.tok _,⟨_,rfl⟩,q⟩
 ·obtain⟨its,r,pl,_⟩:=I.tuple hq;exact join_tuple pl (by simpa using uE r) hz fun t' k=>⟨.str _,H,I.tok _,⟨_,rfl⟩,q⟩
theorem Xw {vl:Eg}{lo:Option Int}(h:Mu vl lo):∃o:Option (Int×Tok),vl=partValue o/\lo=o.map (·.1):=by
 cases h with
 |none=>exact⟨none,rfl,rfl⟩
 |int i t=>exact⟨some (i,t),rfl,rfl⟩
def W3:V->Option Int->Option Int->Hp->VK->Prop:=fun x lo hi H Q=>∃z,x=.str z/\z.length<=sizeLine/\Q (.str (Mo z lo hi)) H
theorem SZ:RQ X W3:=by
 intro Dp s σ H x v vl vu lo hi sl Q I rx hs pl pu h;obtain⟨z,rfl,hz,q⟩:=h;obtain⟨t,rfl⟩:=rx;obtain⟨ol,rfl,rfl⟩:=Xw pl;obtain⟨ou,rfl,rfl⟩:=Xw pu;refine⟨"str",_,F.slot_str_getitem.lookup,J5 _ _ _,wpAny_getItem_str_slice (l:=ol) (u:=ou) (st:=none) ?_ rfl (post_val_or_str ⟨Z5 (Txt.slice_le z _ _) hz,fun t' k=>⟨.str _,H,I.tok _,⟨_,rfl⟩,q⟩⟩)⟩;exact hs
end
section
variable {X:Cx}{Dp:De}{σ:St}{H:Hp}{s:Ej}{h':Ez}
theorem Inv.turnedAll {t':Nat}{ch:Dd}(I:Inv X Dp σ H s)(hf:∀b∈ch,XL X Dp H b)(k:∀b o,b∉ch->s.heap.get? b=some o->h'.get? b=some o)(th:∀b∈ch,∃o,h'.get? b=some o):Inv X Dp σ H { s with heap:=h',toks:=t' }:=by
 have nch:∀b u,H b=some u->b∉ch:=fun b u e z=>by rw[(hf b z).1]at e;cases e
 refine I.step (g':=s.gens) (d':=s.drawn) (ch:=ch) (fun b hb=>?_) (fun b o _ _ hc e _=>k b o hc e) (fun b o _ _ hc e _=>⟨o.slots,k b o hc e⟩) (fun _ _ _ _ n=>n)
  (fun b o hc e=>⟨o,k b o hc e⟩) (fun _ _ e=>e) (fun _ _ _ e=>e) (fun b ps e=>⟨#[],by rw[e];simp⟩) (fun m hm=>?_) (fun b u e=>?_) I.bare
 ·obtain⟨_,f1,_,f3,f4,f5⟩:=hf b hb;exact⟨f3,f1,f4,f5⟩
 ·obtain⟨o,es,ep,ho,r⟩:=hm;exact⟨o,es,ep,k _ o (fun z=>(hf _ z).2.1 rfl) ho,r⟩
 ·refine(I.hok b u e).stay (fun c v hc q=>k c v ?_ q) (fun _ q=>q) fun _ _ q=>q
  rcases hc with z|z
  ·rw[z];exact nch b u e
  ·exact nch c _ z
theorem Un.adopt2 {D:Eh}(u:Un fs ex H H1 h h1)(hD:h.get? D=none)(hH:H1 D=none):Un fs ex H (upd H1 D o) h h1 where
 keep:=u.keep
 slot:=u.slot
 free:=fun b ob q n hx=>by
  have hb:b≠D:=fun z=>by rw[z,hD]at q;cases q
  rw[zH hb];exact u.free b ob q n hx
 there:=u.there
 tups:=fun b xs q=>by rw[zH (zK (u.tups b xs q) hH)];exact u.tups b xs q
 frzs:=fun b ob xs q=>by rw[zH (zK (u.frzs b ob xs q) hH)];exact u.frzs b ob xs q
 tbls:=fun b ps q=>by
  obtain⟨m,e⟩:=u.tbls b ps q;exact⟨m,by rw[zH (zK e hH)];exact e⟩
theorem Inv.takeUp {T:Eh}{o:HO}(I:Inv X Dp σ H s)(n:H T=none)(h0:X.s₀.heap.objs.size<=T)(hL:T≠X.env.locals)(hc:∀x c,X.env.cells.lookup x=some c->c≠T)(hp:∀p∈X.pn++Dp,p.1≠T)
  (new:ObjOk X.prog X.w (upd H T o) s.heap T o):Inv X Dp σ (upd H T o) s:=by
 refine⟨I.ok,I.os,I.bare,I.base.adopt2 (VC h0) n,I.loc,I.cell,?_,fun x c e=>?_,fun p hpp=>?_,I.hok.adopt n new,I.len⟩
 ·rw[zH (EA hL)];exact I.free
 ·rw[zH (hc x c e)];exact I.freeC x c e
 ·obtain⟨e,n',ne,nf,d⟩:=I.pin p hpp;exact⟨e,by rw[zH (hp p hpp)];exact n',ne,nf,d⟩
end
def Tr (x:Str):It:=⟨fun i _=>i<x.length,fun i H v H'=>H'=H/\∃c,x.cps[i]?=some c/\v=.str ⟨#[c]⟩,fun i _=>i=x.length⟩
theorem Ij {P:Ei}{w:Em}{K:Cd}{tg:EF}{it:Eh}{x:Str}{tn:Nat->Ez->Prop}(hW:∀A:EC,A.handled=none->Walks P w A it [it] [it] x.cps.size (SignAt x) tn)
  (ho:∀i h,tn i h->∃o,h.get? it=some o/\∀v,o.data≠.cell v) (hself:∀(A:EC) (i:Nat) (s:Ej) (Q:Eg->Dh) (E:Eg->Dh),tn i s.heap->Q (.ref it) s->Ek (Es P w) A (pyIter (.ref it)) Q E s) :
  Turn P w K tg (Tr x) [it] it tn where
 mem:=by simp
 obj:=fun i h st b hb=>by
  have e:b=it:=by simpa using hb
  subst e;exact ho i h st
 keep:=fun i h h' st k=>(hW {} rfl).frame i h h' st k
 item:=by
  intro X hP hw hK hc i Dp s σ H E I hf st hg;subst hP hw hK;obtain⟨f0,f1,f2,f3,f4,f5⟩:=hf it (by simp);refine(hW X.A (I.ok.hd hc)).item i s _ _ hg st fun v h' tk hv st' kk=>?_;obtain⟨c,u,hcx,rfl⟩:=hv;have I1:Inv X Dp σ H { s with heap:=h',toks:=tk }:=I.turned (fun b o hb e=>kk b o (by simpa using hb) e) f0 f1 f3 f4 f5;refine⟨_,rfl,?_⟩;have fin:∃x' H',Inv X Dp σ H' { s with heap:=h',toks:=tk }/\RelV x' (.str ⟨#[c]⟩ u)/\(Tr x).yld i H x' H'/\tn (i+1) h'/\∀b∈[it],H' b=none :=
   ⟨.str ⟨#[c]⟩,H,I1,⟨u,rfl⟩,⟨rfl,c,hcx,rfl⟩,st',fun b hb=>(hf b hb).1⟩
  unfold LS;cases tg<;>exact Zg fin
 done:=by
  intro X hP hw hK hc i Dp s σ H E I hf st hg;subst hP hw hK;obtain⟨f0,f1,f2,f3,f4,f5⟩:=hf it (by simp);exact(hW X.A (I.ok.hd hc)).done s _ _ (by have e:i=x.length:=hg;subst e;exact st) fun h' tk kk=>⟨rfl,I.turned (fun b o hb e=>kk b o (by simpa using hb) e) f0 f1 f3 f4 f5⟩
 self:=hself
section
variable {X:Cx}{tg:EF}
def WJ (te:TE):TI:=fun σ H R=>te σ H fun x H1=>∃z,x=.str z/\R (Tr z) H1
theorem HM (he:PE X e te):PI X tg e (WJ te):=by
 intro Dp s σ H R I h;refine Ci (he Dp s σ H _ I h) fun v s1 ⟨x,H1,I1,r1,q1⟩=>?_;obtain⟨z,e,q⟩:=q1;subst e;obtain⟨t,rfl⟩:=r1;have fr:H1 s1.heap.objs.size=none:=I1.hok.fresh (Ze _);cases ha:z.cps.all (·<128)
 ·refine wpAny_pyIter_wide ha ?_;refine⟨s1.heap.objs.size,[s1.heap.objs.size],fun i h=>h.IsStrIter s1.heap.objs.size "str_iterator" z t i,_,H1,rfl,I1.kept (t':=s1.toks) fun b o e=>Zd _ e,Ij (fun A hA=>Walks.strWide hA _ z t) (fun i h ⟨o,ho,_,hd⟩=>⟨o,ho,fun v z=>by rw[hd]at z;cases z⟩) (fun _ _ _ _ _ st hQ=>wpAny_pyIter_striter_wide st hQ),⟨_,Zo _ rfl,rfl,rfl⟩,fun b hb=>?_,q⟩
  have e:b=s1.heap.objs.size:=by simpa using hb
  subst e;exact I1.fpOk (Ze _) fr
 ·refine wpAny_pyIter_ascii ha ?_;refine⟨s1.heap.objs.size,[s1.heap.objs.size],fun i h=>h.IsStrIter s1.heap.objs.size "str_ascii_iterator" z t i,_,H1,rfl,I1.kept (t':=s1.toks) fun b o e=>Zd _ e,Ij (fun A hA=>Walks.strAscii hA _ z t) (fun i h ⟨o,ho,_,hd⟩=>⟨o,ho,fun v z=>by rw[hd]at z;cases z⟩) (fun _ _ _ _ _ st hQ=>wpAny_pyIter_striter_ascii st hQ),⟨_,Zo _ rfl,rfl,rfl⟩,fun b hb=>?_,q⟩
  have e:b=s1.heap.objs.size:=by simpa using hb
  subst e;exact I1.fpOk (Ze _) fr
end
abbrev NE (J:It)(g:TG)(tb:TS)(D:Ends)(σ:St)(H:Hp):Prop :=
 ∃W:Nat->Nat->St->Hp->Prop,(∃m,W 0 m σ H)/\∀i m σ H,W i m σ H ->
  (J.stop i H/\D.nx σ H)\/(J.go i H/\∃N:St->Hp->Prop,(∀σ' H',N σ' H'->∃m',m'<m/\W (i+1) m' σ' H')/\∀x H',J.yld i H x H'->g x σ H' fun σ2 H2=>tb { D with nx:=N,ct:=N,bk:=D.nx } σ2 H2)
theorem N6 {J:It}{g:TG}{tb:TS}{D:Ends}{σ:St}{H:Hp}(n:Nat)(Pv:Nat->St->Hp->Prop)(h0:Pv 0 σ H)(hst:∀σ H,Pv n σ H->J.stop n H)(hgo:∀i σ H,i<n->Pv i σ H->J.go i H)
  (hs:∀i σ H,i<n->Pv i σ H->∀x H',J.yld i H x H'->g x σ H' fun σ2 H2=>tb { D with nx:=Pv (i+1),ct:=Pv (i+1),bk:=D.nx } σ2 H2) (hd:∀σ H,Pv n σ H->D.nx σ H):NE J g tb D σ H:=by
 refine⟨fun i m σ H=>m=n-i/\i<=n/\Pv i σ H,⟨n,by simp,ZT _,h0⟩,?_⟩;rintro i m σ H ⟨rfl,hi,p⟩
 by_cases hlt:i<n
 ·exact .inr ⟨hgo i σ H hlt p,Pv (i+1),fun σ' H' p'=>⟨n-(i+1),by omega,rfl,hlt,p'⟩,fun x H' y=>hs i σ H hlt p x H' y⟩
 ·have e:i=n:=by omega
  subst e;exact .inl ⟨hst σ H p,hd σ H p⟩
theorem PV {x:Str}{g:TG}{tb:TS}{D:Ends}{σ:St}{H:Hp}(Pv:Nat->St->Hp->Prop)(h0:Pv 0 σ H)
  (hs:∀i c σ H,x.cps[i]?=some c->Pv i σ H->g (.str ⟨#[c]⟩) σ H fun σ2 H2=>tb { D with nx:=Pv (i+1),ct:=Pv (i+1),bk:=D.nx } σ2 H2) (hd:∀σ H,Pv x.length σ H->D.nx σ H):NE (Tr x) g tb D σ H :=
 N6 x.length Pv h0 (fun _ _ _=>rfl) (fun _ _ _ hi _=>hi) (fun i σ H hi p v H' y=>by
  obtain⟨e,c,hc,ev⟩:=y;subst e ev;exact hs i c σ _ hc p) hd
end L2
namespace L2
open PySem PySem.Spec PyProof.Rows
section
variable {X:Cx}{elts:List EF}{x1:Nat}{tpos:Pos}
def RX (K:Cd):V->Option Int->Option Int->Hp->VK->Prop:=fun x lo hi H Q=>∃a xs,x=.ref a/\SqT K H a xs/\∀v H',(v=.ref a/\H'=H/\UI xs lo hi=xs)\/(∃p,H p=none/\v=.ref p/\H'=upd H p (.tup (UI xs lo hi)))->Q v H'
end
namespace AxT
variable {prog:Ei}{w:Em}{A:EC}{E:Eg->Dh}{s:Ej}
open HT
theorem getItem_tuple_whole {t sl:Eh}{Dn:Array Eg}{vl vu:Eg}{lo hi:Option Int}{Q:Eg->Dh}(ht:IsTup s.heap t Dn)(hs:s.heap.IsSliceOf sl vl vu .none)(pl:Mu vl lo)(pu:Mu vu hi)
  (hw:sIx Dn.size 0 lo=0/\sIx Dn.size Dn.size hi=Dn.size) (h:Q (.ref t) s):Ek (Es prog w) A (Mi (.ref t) (.ref sl)) Q E s:=by
 obtain⟨os,hos,hcs,hds⟩:=id hs;have hTs:s.TypeIs (.ref sl) "slice":=⟨os,hos,hcs⟩;unfold Mi
 try with_reducible refine Yg ?_
 first|refine Q9 (Zg ?_)|skip
 refine Q9 (wpAny_sequenceKey ht.typeIs (by decide) ?_);refine Q9 (YI (name:=EQ "__getitem__") ht.typeIs YU (Yc YU ht.typeIs entry_tuple_getitem ?_ (args_tuple_getitem _ _)))
 show Ek _ _ (LI (.ref t)>>=_) _ _ s;refine Q9 (tupleItemsOf_ ht ?_);refine Q9 (JR hTs ?_);rw[Zy (by decide)];refine Q9 (qY hs pl pu ?_);have hyes:(((sIx Dn.size 0 lo:Nat):Int)==0&&(1:Int)==1&&(sIx Dn.size Dn.size hi-sIx Dn.size 0 lo)==Dn.size)=true:=by
  rw[hw.1,hw.2];simp
 show Ek _ _ (if(((sIx Dn.size 0 lo:Nat):Int)==0&&(1:Int)==1&&(sIx Dn.size Dn.size hi-sIx Dn.size 0 lo)==Dn.size)=true then _ else _) _ _ s;rw[Zy hyes];obtain⟨o,ho,hc,n,hd⟩:=id ht;refine Q9 (m:=Builtin.Tuple.tupleIsExact _) ?_;unfold Builtin.Tuple.tupleIsExact;refine Q9 (JR ht.typeIs (Zg ?_));rw[Zy (by decide)];exact Q9 (J7 (Zg ⟨_,rfl,Zg h⟩))
end AxT
section
variable {X:Cx}
theorem sl_tup2:RQ X (RX X.K):=by
 intro Dp s σ H x v vl vu lo hi sl Q I rx hs pl pu h;obtain⟨a,xs,rfl,hx,q⟩:=h;cases rx;obtain⟨its,r,ht,hz⟩:=I.tuple hx;have Dq:its.toArray.size=xs.length:=by rw[Zw];exact r.length.symm
 refine⟨"tuple",_,YU.lookup,ht.typeIs,?_⟩
 by_cases hw:HT.sIx its.toArray.size 0 lo=0/\HT.sIx its.toArray.size its.toArray.size hi=its.toArray.size
 ·refine AxT.getItem_tuple_whole ht hs pl pu hw ⟨.ref a,H,I,rfl,q _ _ (.inl ⟨rfl,rfl,?_⟩)⟩;rw[Dq]at hw;unfold UI;rw[hw.1,hw.2];simp
 ·refine HT.getItem_tuple_cut ht hs pl pu hw ?_ (by rwa[Dq]);rw[Dq];refine⟨.ref s.heap.objs.size,_,I.laid (t':=s.toks) (o:=.tup (UI xs lo hi)) (fun b ob q=>Zd _ q) (Ze _) ?_,rfl,q _ _ (.inr ⟨_,I.hok.fresh (Ze _),rfl,rfl⟩)⟩;exact⟨Z5 (Xy xs lo hi) hz,_,(r.drop (HT.sIx xs.length 0 lo)).take (HT.sIx xs.length xs.length hi-HT.sIx xs.length 0 lo),TupAt.new _ _⟩
structure Cal (P:Ei)(w:Em)(K:Cd)(mg:Str->Dc)(base:Ez)(k:Nat)(x:Str)(ps:Da)(sp:Sp):Prop where
 ex:∃(f:Eh) (fd:El),FnOk P w K mg base Cm k f fd ps sp/\mg x=some (.ref f)/\ES K (.ref f)=true/\Binds K fd ps []
theorem zJ {e:EF}{es:List EF}{p pos:Pos}(C:Cal X.prog X.w X.K X.mg X.base k x ps sp)(hr:Room k X.A)(ha:PA X (e::es) t)(hg:Gl X x:=by rfl)
  (hdb:(x==("__debug__":Str))=false:=by decide) (he:Ev (e::es) X.env=(false,E1 e X.env)::Ev es X.env:=by rfl) (hpl:(E8 pos (Ev es X.env)).any (·.1)=false:=by rfl) :
  PE X (.Call (.Name x p) (e::es) [] pos) (R4 sp [] E0 t):=by
 obtain⟨f,fd,F,hm,hk,hb⟩:=C.ex;exact Ri F hr hg hm hk hb .nil KZ ha hdb he hpl
theorem Cal.mk' {K:Cd}{st:EI}(F:Fun K x qual st f fd)(G:FnOk P w K mg base Cm k f fd ps sp)(hm:mg x=some (.ref f))
  (b:Binds K fd ps []):Cal P w K mg base k x ps sp:=⟨f,fd,G,hm,F.kp,b⟩
def KD (P:Ei)(w:Em)(K:Cd)(a:Eh)(Dm:Dl):Prop:=∀h:Ez,K.In h->∃vs,KV Dm vs/\h.DictOf (mixKind P w) a vs
def Wm (P:Ei)(w:Em)(K:Cd)(td ty:TE):TE:=fun σ H Q=>td σ H fun x H1=>ty σ H1 fun y H2=>∃a Dm k v,x=.ref a/\y=kV k/\KD P w K a Dm/\Ur Dm k=some v/\Q v H2
theorem Rk {pos:Pos}(ho:PE X o td)(hi:PE X i ty)(hs:PF i):PE X (.Subscript o i pos) (Wm X.prog X.w X.K td ty):=by
 intro Dp s σ H Q I h;refine Bs PySem.F.slot_dict_getitem.lookup hs (Ci (ho Dp s σ H _ I h) fun u s1 ⟨x,H1,I1,rx,q1⟩=>Ci (hi Dp s1 σ H1 _ I1 q1) fun iv s2 ⟨y,H2,I2,ry,a,Dm,k,v,ex,ey,kd,l,q2⟩=>?_);subst ex ey;obtain rfl:u=Eu a:=rx;obtain⟨vs,rel,dd⟩:=kd _ I2.kIn;obtain⟨w',hw,rw'⟩:=RelO.some_of (v:=v) (o:=L9 vs k) (by rw[←l];exact rel.val k);exact⟨dd.typeIs,wpAny_getItem_of (vZ ry) dd.mapOf hw ⟨v,H2,I2.tok _,rw',q2⟩⟩
end
theorem ObjOk.there (x:ObjOk P w H h a o):∃ob,h.get? a=some ob:=by
 cases o with
 |lst xs=>obtain⟨_,_,_,_,e⟩:=x;exact⟨_,e⟩
 |tup xs=>obtain⟨_,_,_,ob,e,_⟩:=x;exact⟨_,e⟩
 |dK Dm=>obtain⟨_,_,_,_,ob,_,_,e,_⟩:=x;exact⟨_,e⟩
 |dT Dm=>obtain⟨_,_,_,_,ob,_,_,e,_⟩:=x;exact⟨_,e⟩
 |set S n=>obtain⟨ob,_,_,_,e,_⟩:=x;exact⟨_,e⟩
 |ins C dx fs=>obtain⟨_,_,_,e,_⟩:=x;exact⟨_,e⟩
 |own y=>exact x
 |xd fs=>obtain⟨_,⟨_,_,_,e,_⟩,_⟩:=x;exact⟨_,e⟩
 |rng lo hi=>obtain⟨_,_,_,e⟩:=x;exact⟨_,e⟩
 |frz ob u=>obtain⟨e,_⟩:=x;exact⟨_,e⟩
 |tbl ps=>exact⟨_,(show h.get? a=some _ from x)⟩
 |met f y=>exact⟨_,(show h.get? a=some _ from x)⟩
 |ext φ=>obtain⟨_,e,_⟩:=x;exact e
def ctx0 (vs:Array Eg):Prop:=vs[2]?=some .none
theorem Xn:GX ctx0:=fun vs v h=>by
 show(vs.setIfInBounds 1 v)[2]?=some .none;rwa[Array.getElem?_setIfInBounds_ne (by decide)]
def ExcAt (h:Ez)(a T:Eh)(cls:Eg):Prop :=
 ∃oe vs oT ts,h.get? a=some oe/\(oe.cls=cls/\ctx0 vs)/\oe.data=.fields vs/\vs[1]?=some (.ref T)/\T≠a/\h.get? T=some oT/\oT.data=.fields ts/\ts[3]?=some .none
def Cz (P:Ei)(w:Em):ND:=fun outer H s E e s'=>∃a T cls H',e=.ref a/\s'.os=s.os/\Mg s'.gens/\Un (frs outer) [] H H' s.heap s'.heap/\HOk P w H' s'.heap /\
 s.heap.get? a=none/\s.heap.get? T=none/\H' a=none/\H' T=none/\ExcAt s'.heap a T cls/\E cls none H'
section
variable {X:Cx}{Dp:De}{σ:St}{H:Hp}{s:Ej}
theorem Inv.none_of (I:Inv X Dp σ H s){a:Eh}(e:s.heap.get? a=none):H a=none:=by
 cases q:H a with
 |none=>rfl
 |some u =>
  obtain⟨ob,z⟩:=(I.hok a u q).there;rw[e]at z;cases z
theorem Inv.old_none (I:Inv X Dp σ H s)(hex:X.ex=[]){a:Eh}(e:s.heap.get? a=none):X.s₀.heap.get? a=none:=by
 cases q:X.s₀.heap.get? a with
 |none=>rfl
 |some o =>
  obtain⟨ob,z⟩:=I.base.there a o q (by rw[hex];simp);rw[e]at z;cases z
abbrev UP (h:Ez)(as:Dd)(l:List Env):Heap:=PySem.W.hideAll h (as++frs l)
theorem kB {h:Ez}{base:Ez}{l:List Env}(f:h.FunFrames base l):h.FunFrames (UP h as l) l :=
 PySem.W.funFrames_hide f fun env he b hb=>ZP _ (Jx.mpr ⟨env,he,hb⟩)
theorem jX:(UP h as l).StaysIn h:=fun _ _ q=>PySem.W.of_hideAll _ q
theorem BY (hst:X.stack=X.env::X.outer)(hfr:X.env.frame=some X.env.locals)(hex:X.ex=[])(I:Inv X Dp σ H s){e:Eh}{cls:Eg}{args:Db}{h':Ez}(hx:Heap.MadeExcOf s.heap h' e cls args){E:XK}(q:E cls none H)
  {Ex:Eg->Dh}:Ek (Es X.prog X.w) X.A (leaving X.env (.ref e)) (fun _ s''=>Cz X.prog X.w X.outer X.H₀ X.s₀ E (.ref e) s'') Ex { s with heap:=h' }:=by
 have fr:=kB (as:=[]) I.stack;have hA:X.A.frames=some (X.env::X.outer):=by rw[I.ok.frames,hst]
 obtain⟨t,he,htn,ht⟩:=hx.there;have fresh:∀b,s.heap.get? b=none->(UP s.heap [] X.stack).get? b=none:=fun b hb=>by
  cases hq:(UP s.heap [] X.stack).get? b with
  |none=>rfl
  |some o'=>have:=jX b o' hq;rw[hb]at this;cases this
 rw[hst]at fr;refine Fd (base:=UP s.heap [] X.stack) (q:=ctx0) Xn hA ((by rw[hst];exact fr:s.heap.FunFrames (UP s.heap [] X.stack) (X.env::X.outer)).of_keeps fun b o hb _=>⟨o,hx.keeps b o hb,rfl⟩) hfr he (fun b o hb=>hx.keeps b o (jX b o hb)) (fresh e hx.new) rfl rfl rfl fun h2 k1 k2 L k4=>?_;obtain⟨oe,vs,T,oT,ts,t1,t2,t3,t4,t5,t6,t7,t8,t9⟩:=L;have stk:∀b∈frs X.stack,H b=none:=I.stkFree;have kp:∀b o,s.heap.get? b=some o->b∉frs X.stack->h2.get? b=some o:=fun b o e hb=>k1 b o (Y6 _ e (by simpa using hb));have sl:∀b o,s.heap.get? b=some o->b∈frs X.stack->∃sl,h2.get? b=some { o with slots:=sl }:=fun b o e hb=>by
  obtain⟨_,o',ho',hd⟩:=I.stack.mem hb;rw[e]at ho';cases ho';exact k4 b o (hx.keeps b o e) hd
 have nL:∀b o,X.s₀.heap.get? b=some o->b≠X.env.locals:=fun b o e=>Zz (ZG (Zq e) I.ok.above);have nex:∀b,b∉X.ex:=fun b=>by rw[hex];simp
 have nT:s.heap.get? T=none:=by
  cases qT:s.heap.get? T with
  |none=>rfl
  |some o =>
   exfalso
   by_cases hT:T∈frs X.stack
   ·have k2':h2.FunFrames (UP s.heap [] X.stack) X.stack:=by have z:=k2;rw[←hst]at z;exact z
    obtain⟨_,o',ho',hd⟩:=k2'.mem hT;rw[t7]at ho';cases ho';exact hd _ t8
   ·have z:(UP s.heap [] X.stack).get? T=some o:=Y6 _ qT (by simpa using hT);rw[t5]at z;cases z
 refine⟨e,T,cls,H,rfl,I.os,I.bare,⟨fun b o e1 n hb _=>?_,fun b o e1 n hb _=>?_,fun b o e1 n _=>I.base.free b o e1 n (nex b),fun b o e1 _=>?_,I.base.tups,I.base.frzs,I.base.tbls⟩,fun b u e1=>?_,I.old_none hex hx.new,I.old_none hex nT,I.none_of hx.new,I.none_of nT,⟨oe,vs,oT,ts,t1,t2,t3,t4,t6,t7,t8,t9⟩,q⟩
 ·refine kp b o (I.base.keep b o e1 n hb (nex b)) fun z=>?_
  rcases Zi.mp (I.stkSub b z) with r|r
  ·exact nL b o e1 r
  ·exact hb r
 ·obtain⟨sl1,e2⟩:=I.base.slot b o e1 n hb (nex b)
  by_cases hz:b∈frs X.stack
  ·obtain⟨sl2,e3⟩:=sl b _ e2 hz;exact⟨sl2,e3⟩
  ·exact⟨sl1,kp b _ e2 hz⟩
 ·obtain⟨o',e2⟩:=I.base.there b o e1 (nex b)
  by_cases hz:b∈frs X.stack
  ·obtain⟨sl2,e3⟩:=sl b _ e2 hz;exact⟨_,e3⟩
  ·exact⟨o',kp b _ e2 hz⟩
 ·refine(I.hok b u e1).stay (fun c v hc r=>kp c v r fun z=>?_) (fun _ r=>r) fun _ _ r=>r;have hz:=stk c z
  rcases hc with y|y
  ·rw[y,e1]at hz;cases hz
  ·rw[y]at hz;cases hz
end
theorem MV {K:Cd}{h:Ez}{C:Eh}{bmB:Db}{newId:String}(X:K.In h)(q:EZ K C bmB newId=true) :
  ∃bm N nm q bs hdct sn sub ab col dd k0 k1 k2 k3 k5 mN,h.get? C=some (excClassObj nm q C N bs bm hdct sn sub ab col dd k0 k1 k2 k3 k5 newId)/\h.Ns N mN/\mN "__init__"=none/\OwnTail h bmB bm:=by
 unfold EZ at q
 split at q
 ·rename_i dd cd sl ho
  split at q
  ·rename_i C' bm k0 k1 k2 k3 n k5 hm hs;simp only[Zk,Jy,Y3]at q;obtain⟨⟨⟨⟨⟨rfl,rfl⟩,hdel⟩,ht⟩,hok⟩,hni⟩:=q;obtain⟨nm,bs,mro,ns,qn,hd,sn,sub,ab,col,del⟩:=cd;dsimp only at hm hdel hok hni;subst hm hdel;have hsl:sl=#[k0,k1,k2,k3,some (.builtin n),k5]:=by
    obtain⟨l⟩:=sl;simp only at hs;rw[hs]
   subst hsl;exact⟨bm,ns,nm,qn,bs,hd,sn,sub,ab,col,dd,k0,k1,k2,k3,k5,_,X _ _ ho,.of_isNs (PySem.W.isNs_of_in X hok),PySem.W.nsMap_none_of_in X hok hni,PySem.W.tail_of_in X ht⟩
  ·cases q
 ·cases q
abbrev UO:Db:=[.type "ValueError",.type "Exception",.type "BaseException",.type "object"]
def Throws (X:Cx)(R:St->Hp->Eg->Prop):Prop:=∀(Dp:De) (σ:St) (H:Hp) (s:Ej) (e:Eh) (cls:Eg) (args:Db) (h':Ez),Inv X Dp σ H s->Heap.MadeExcOf s.heap h' e cls args->R σ H cls->X.xe (.ref e) { s with heap:=h' }
def S9 (C:Eh)(R:St->Hp->Eg->Prop)(t:TA):TS:=fun _ σ H=>t σ H fun vs H1=>vs.length<=sizeLine/\R σ H1 (.ref C)
section
variable {X:Cx}
theorem y7 {C:Eh}{e₀:EF}{rest:List EF}{np Dr pos:Pos}(hc:X.calm=true)(ht:Throws X R)(hg:Gl X x)(hm:X.mg x=some (.ref C))(hex:EZ X.K C UO "ValueError.__new__"=true)(ha:PA X (e₀::rest) t)
  (he:Ev (e₀::rest) X.env=(false,E1 e₀ X.env)::Ev rest X.env:=by rfl) (DZ:(E8 Dr (Ev rest X.env)).any (·.1)=false:=by rfl) (hd:(x==("__debug__":Str))=false:=by decide) :
  PS X (.Raise (some (.Call (.Name x np) (e₀::rest) [] Dr)) none pos) (S9 C R t):=by
 intro Dp s σ H D I h;obtain⟨tl,N,nm,q,bs,hdct,sn,sub,ab,col,dd,k0,k1,k2,k3,k5,mN,hC,hN,hni,T⟩:=MV I.ok.mod.kin hex;refine wpAny_Raise_call_subU (C:=C) (nm:=nm) (q:=q) (N:=N) (bs:=bs) (bm:=tl) (hdct:=hdct) (sn:=sn) (sub:=sub) (ab:=ab) (col:=col) (dd:=dd) (k0:=k0) (k1:=k1) (k2:=k2) (k3:=k3) (k5:=k5)
  F.excBase_ValueError (by decide +kernel) F.excBase_ValueError (mN:=mN) (T.hasType F.excBase_ValueError.hasBase) (I.ok.hd hc) (by rw[he];show(false||(E8 Dr (Ev rest X.env)).any (·.1))=false;rw[DZ];rfl) hni (kC I hg hm ⟨rfl,?_⟩ hd)
 have ha':=ha Dr Dp s σ H _ I h;rw[he]at ha' ⊢;exact Lh (Yk ha' (fun us s₂ ⟨vs,H2,I2,r2,z2,q2⟩=>⟨rfl,by rw[←r2.length];exact z2,I2.bk _ _ hC,hN.keeps I2.bk,T.keeps I2.bk,fun h' e hm'=>ht Dp σ H2 s₂ e _ _ h' I2 hm' q2⟩) fun _ _ y=>y)
theorem yR {P:Ei}{w:Em}{K:Cd}{mg:Str->Dc}{base:Ez}{N:Da}{qual:Str}{scope:LP}{f:Eh}{cd:Eg}{A:EC}{outer:List Env}{s:Ej}{H:Hp}{E:XK} :
  Throws (Bz (Cz P w) P w K mg base N qual scope f cd A outer s H E) (fun _ H' cls=>E cls none H') :=
 fun _ _ _ _ _ _ _ _ I hx q=>BY rfl rfl rfl I hx q
end
def Raises (X:Cx)(R:St->Hp->Eg->Prop):Prop:=∀(Dp:De) (σ:St) (H:Hp) (s:Ej) (e:Eg) (s':Ej),Inv X Dp σ H s->Cz X.prog X.w X.stack H s (fun cls _ H'=>R σ H' cls) e s'->X.xe e s'
def S2 (sp:Sp)(R:St->Hp->Eg->Prop)(t:TA):TE:=fun σ H Q=>t σ H fun vs H1=>sp vs H1 Q (fun cls _ H'=>R σ H' cls)
section
variable {X:Cx}{k:Nat}{f:Eh}{fd:El}{ps:Da}{sp:Sp}{x:Str}{p pos:Pos}{e:EF}{es:List EF}{t:TA}{R:St->Hp->Eg->Prop}
theorem K8 {Dp:De}{σ:St}{H:Hp}{s:Ej}{Q:VK}{us:Db}{vs:Dj}(F:FnOk X.prog X.w X.K X.mg X.base (Cz X.prog X.w) k f fd ps sp)(hr:Room k X.A)(hb:Binds X.K fd ps [])(hx:Raises X R)
  (I:Inv X Dp σ H s) (r:Vals vs us) (h:sp vs H Q (fun cls _ H'=>R σ H' cls)):Ek (Es X.prog X.w) X.A (call (.ref f) us) (EP X Dp σ Q) X.xe s:=by
 have hl:us.length=ps.length:=by rw[←r.length];exact F.len _ _ _ _ h
 have hb':=hb s us I.kIn (by simpa using hl);rw[Zs]at hb';refine V9 (Y8 (F.run X.A X.stack s H ⟨us,[]⟩ us vs Q _ hr I.env0 hb' r h) fun r s' hq=>?_);cases r with
 |error e=>exact hx Dp σ H s e s' I hq
 |ok fl =>
  cases fl with
  |ret u=>exact I.after hq
  |next=>exact EB hq
  |brk=>exact EB hq
  |cont=>exact EB hq
structure CalX (P:Ei)(w:Em)(K:Cd)(mg:Str->Dc)(base:Ez)(k:Nat)(x:Str)(ps:Da)(sp:Sp):Prop where
 ex:∃(f:Eh) (fd:El),FnOk P w K mg base (Cz P w) k f fd ps sp/\mg x=some (.ref f)/\ES K (.ref f)=true/\Binds K fd ps []
theorem yD (C:CalX X.prog X.w X.K X.mg X.base k x ps sp)(hr:Room k X.A)(hx:Raises X R)(ha:PA X (e::es) t)(hg:Gl X x:=by rfl)
  (hdb:(x==("__debug__":Str))=false:=by decide) (he:Ev (e::es) X.env=(false,E1 e X.env)::Ev es X.env:=by rfl) (hpl:(E8 pos (Ev es X.env)).any (·.1)=false:=by rfl) :
  PE X (.Call (.Name x p) (e::es) [] pos) (S2 sp R t):=by
 obtain⟨f,fd,F,hm,hk,hb⟩:=C.ex;intro Dp s σ H Q I h;refine Jd (kC I hg hm ?_ hdb);refine Jz (h₀:=X.base) I.ok.mod.kin hk (Ci (ha pos Dp s σ H _ I h) fun us s1 ⟨vs,H1,I1,r,q⟩=>⟨I1.kIn,?_⟩) he hpl;exact K8 F hr hb hx I1 r q
end
def Ti (X:Cx)(Dp:De)(H:Hp)(b:Eh):Prop :=
 H b=none/\X.s₀.heap.get? b=none/\b≠X.env.locals/\(∀x c,X.env.cells.lookup x=some c->c≠b)/\∀p∈X.pn++Dp,p.1≠b
section
variable {X:Cx}{Dp D2:De}{σ:St}{H:Hp}{s:Ej}{h':Ez}{R:St->Hp->Eg->Prop}
theorem Inv.fr1 (I:Inv X Dp σ H s)(hex:X.ex=[]){H':Hp}{b:Eh}(e:s.heap.get? b=none)(n:H' b=none):Ti X Dp H' b:=by
 refine⟨n,I.old_none hex e,fun z=>?_,fun x c q z=>?_,fun p hp z=>?_⟩
 ·obtain⟨m,⟨o,_,_,ho,_⟩,_⟩:=I.loc;rw[←z,e]at ho;cases ho
 ·obtain⟨v,o,ho,_⟩:=I.cell x c q;rw[z,e]at ho;cases ho
 ·have ho:=(I.pin p hp).1;rw[z,e]at ho;cases ho
theorem Inv.land {ch:Dd}(I:Inv X Dp σ H s)(hch:∀b∈ch,Ti X Dp H b)(k1:(UP s.heap ch X.stack).StaysIn h')(k2:s.heap.UpToSlots h')(tk:Nat):Inv X Dp σ H { s with heap:=h',toks:=tk }:=by
 have kp:∀b o,s.heap.get? b=some o->b∉ch->b∉frs X.stack->h'.get? b=some o:=fun b o e hc hb=>k1 b o (Y6 _ e (by
  intro z
  rcases Zt.mp z with z|z
  ·exact hc z
  ·exact hb z))
 have any:∀b o,s.heap.get? b=some o->b∉ch->∃sl,h'.get? b=some { o with slots:=sl }:=fun b o e hc=>by
  by_cases hb:b∈frs X.stack
  ·obtain⟨_,o',ho',hd⟩:=I.stack.mem hb;rw[e]at ho';cases ho';exact k2 b o e hd
  ·exact⟨o.slots,kp b o e hc hb⟩
 have nst:∀b,b≠X.env.locals->b∉X.fs->b∉frs X.stack:=fun b h1 h2 z=>(Zi.mp (I.stkSub b z)).elim h1 h2;have nL:∀b o,X.s₀.heap.get? b=some o->b≠X.env.locals:=fun b o e=>Zz (ZG (Zq e) I.ok.above);have nch:∀b o,X.s₀.heap.get? b=some o->b∉ch:=fun b o e z=>by rw[(hch b z).2.1]at e;cases e
 have cellK:∀c v,s.heap.IsCell c v->h'.IsCell c v:=fun c v ⟨o,ho,hd⟩=>by
  obtain⟨sl,e⟩:=k2 c o ho fun vs z=>by rw[hd]at z;cases z
  exact⟨_,e,hd⟩
 refine⟨I.ok,I.os,I.bare,⟨fun b o e n hb hx=>?_,fun b o e n hb hx=>?_,I.base.free,fun b o e hx=>?_,I.base.tups,I.base.frzs,I.base.tbls⟩,?_,fun x c e=>?_,I.free,I.freeC,fun p hp=>?_,fun b u e=>?_,I.len⟩
 ·exact kp b o (I.base.keep b o e n hb hx) (nch b o e) (nst b (nL b o e) hb)
 ·obtain⟨sl,e1⟩:=I.base.slot b o e n hb hx;obtain⟨sl',e2⟩:=any b _ e1 (nch b o e);exact⟨sl',e2⟩
 ·obtain⟨o',e1⟩:=I.base.there b o e hx;obtain⟨sl',e2⟩:=any b _ e1 (nch b o e);exact⟨_,e2⟩
 ·obtain⟨m,hn,hl⟩:=I.loc;refine⟨m,k2.ns hn,fun i x v e1 e2 e3=>?_⟩;obtain⟨u,r,l⟩:=hl i x v e1 e2 e3;refine⟨u,r,?_⟩
  rcases l with l|⟨k,c,e,z⟩
  ·exact .inl l
  ·exact .inr ⟨k,c,e,cellK c _ z⟩
 ·obtain⟨v,z⟩:=I.cell x c e;exact⟨v,cellK c v z⟩
 ·obtain⟨e,n,ne,nf,d⟩:=I.pin p hp;exact⟨kp _ _ e (fun z=>(hch _ z).2.2.2.2 p hp rfl) (nst _ ne nf),n,ne,nf,d⟩
 ·refine(I.hok b u e).stay (fun c v hc r=>kp c v r (fun z=>?_) fun z=>?_) (fun _ r=>r) fun _ _ r=>r
  ·have hz:=(hch c z).1
   rcases hc with y|y
   ·rw[y,e]at hz;cases hz
   ·rw[y]at hz;cases hz
  ·have hz:=I.stkFree c z
   rcases hc with y|y
   ·rw[y,e]at hz;cases hz
   ·rw[y]at hz;cases hz
theorem Inv.takeUp2 (I:Inv X Dp σ H s)(f:Ti X Dp H T)(new:ObjOk X.prog X.w (upd H T o) s.heap T o):Inv X Dp σ (upd H T o) s:=by
 obtain⟨n,h0,hL,hc,hp⟩:=f;refine⟨I.ok,I.os,I.bare,I.base.adopt2 h0 n,I.loc,I.cell,?_,fun x c e=>?_,fun p hpp=>?_,I.hok.adopt n new,I.len⟩
 ·rw[zH (EA hL)];exact I.free
 ·rw[zH (hc x c e)];exact I.freeC x c e
 ·obtain⟨e,n',ne,nf,d⟩:=I.pin p hpp;exact⟨e,by rw[zH (hp p hpp)];exact n',ne,nf,d⟩
def Cx.tryc (X:Cx)(Dp:De)(R:St->Hp->Eg->Prop):Cx :=
 { X with pn:=X.pn++Dp,xe:=fun e s'=>∃a T cls σ H,e=.ref a/\Inv X Dp σ H s'/\Ti X Dp H a/\Ti X Dp H T/\ExcAt s'.heap a T cls/\R σ H cls }
theorem Inv.into (I:Inv X Dp σ H s)(R:St->Hp->Eg->Prop):Inv (X.tryc Dp R) [] σ H s :=
 ⟨⟨I.ok.mod,I.ok.kind,I.ok.glob,I.ok.blt,I.ok.above,I.ok.inj,I.ok.has,I.ok.cab,I.ok.hd,I.ok.frames,I.ok.stk,I.ok.exf,I.ok.bs,I.ok.bsz,I.ok.noex,I.ok.exfs,I.ok.funs,I.ok.frf⟩,I.os,I.bare,I.base,I.loc,I.cell,I.free,I.freeC,fun p hp=>I.pin p (by
  have hp:p∈(X.pn++Dp)++[]:=hp;simpa using hp),I.hok,I.len⟩
theorem Inv.outof (I:Inv (X.tryc Dp R) D2 σ H s):Inv X Dp σ H s :=
 ⟨⟨I.ok.mod,I.ok.kind,I.ok.glob,I.ok.blt,I.ok.above,I.ok.inj,I.ok.has,I.ok.cab,I.ok.hd,I.ok.frames,I.ok.stk,I.ok.exf,I.ok.bs,I.ok.bsz,I.ok.noex,I.ok.exfs,I.ok.funs,I.ok.frf⟩,I.os,I.bare,I.base,I.loc,I.cell,I.free,I.freeC,fun p hp=>I.pin p (Yo _ hp),I.hok,I.len⟩
theorem SP.outof (h:SP (X.tryc Dp R) D2 D f s'):SP X Dp D f s':=by
 cases f with
 |next=>obtain⟨σ',H',I,q⟩:=h;exact⟨σ',H',I.outof,q⟩
 |brk=>obtain⟨σ',H',I,q⟩:=h;exact⟨σ',H',I.outof,q⟩
 |cont=>obtain⟨σ',H',I,q⟩:=h;exact⟨σ',H',I.outof,q⟩
 |ret u=>obtain⟨v,σ',H',I,r,q⟩:=h;exact⟨v,σ',H',I.outof,r,q⟩
theorem XC (hex:X.ex=[]):Raises (X.tryc Dp R) R:=by
 intro D2 σ H s e s' I hx;obtain⟨a,T,cls,H',rfl,os,bare,un,hok,na,nT,ha,hT,ea,q⟩:=hx;have I0:Inv X Dp σ H s:=I.outof;have I1:Inv X Dp σ H' s':=I0.call' (ch:=[]) os un hok bare fun b z=>absurd z (by simp);exact⟨a,T,cls,σ,H',rfl,I1,I0.fr1 hex na ha,I0.fr1 hex nT hT,ea,q⟩
def Cx.inexc (X:Cx)(e:Eg):Cx:={ X with A:=X.A.mark (some e),calm:=false,xe:=fun _ _=>False }
theorem Inv.mark (I:Inv X Dp σ H s)(e:Eg):Inv (X.inexc e) Dp σ H s :=
 ⟨⟨I.ok.mod,I.ok.kind,I.ok.glob,I.ok.blt,I.ok.above,I.ok.inj,I.ok.has,I.ok.cab,fun z=>(by cases z),I.ok.frames,I.ok.stk,I.ok.exf,I.ok.bs,I.ok.bsz,I.ok.noex,I.ok.exfs,I.ok.funs,I.ok.frf⟩,I.os,I.bare,I.base,I.loc,I.cell,I.free,I.freeC,I.pin,I.hok,I.len⟩
theorem Inv.unmark {e:Eg}(ok:X.Ok)(I:Inv (X.inexc e) Dp σ H s):Inv X Dp σ H s :=
 ⟨ok,I.os,I.bare,I.base,I.loc,I.cell,I.free,I.freeC,I.pin,I.hok,I.len⟩
end
def Xu (a:Eh)(cls:Eg):HO:=.ext fun h=>∃o vs,h.get? a=some o/\o.cls=cls/\o.data=.fields vs/\ctx0 vs
section
variable {P:Ei}{w:Em}{K:Cd}{mg:Str->Dc}{base:Ez}
theorem Fun.okX {st:EI}{k:Nat}{sp:Sp}(F:Fun K x qual st f fd)(S:FnScope N ps (zG st))(len:∀vs H Q E,sp vs H Q E->vs.length=ps.length)
  (Ec:∀(cdv:Eg) (A:EC) (outer:List Env) (s:Ej) (H:Hp) (vs:Dj) (Q:VK) (E:XK),Room k (A.deeper (envOfC qual (zG st) s.heap.objs.size f cdv))->sp vs H Q E -> ∃t,PSs (Bz (Cz P w) P w K mg base N qual (zG st) f cdv A outer s H E) (xS st) t/\t { nx:=fun _ H'=>Q .non H',rt:=Q } (start N vs) H):FnOk P w K mg base (Cz P w) (k+1) f fd ps sp:=by
 obtain⟨oc,od,kV,doc,pm,an,cdv,ct,osl,rfl,lk,hcd⟩:=F.ex;refine RT lk hcd S len fun A outer s H vs Q E hr hsp=>?_;obtain⟨t,h,q⟩:=Ec cdv A outer s H vs Q E hr hsp;exact⟨t,h,q⟩
end
section
variable {X:Cx}{a:EF}{ta:TE}{K:Cd}
def ai (K:Cd)(ta:TE):TT:=fun σ H Q=>ta σ H fun x H'=>∃k,Sg K x H' k/\Q k H'
theorem zS (ha:PE X a ta)(he:∀whole,isTrue a X.env whole=(do let v ←whole;standAt a.pos;L8 [v] (truthy v)))(hK:X.K=K:=by rfl):PT X a (ai K ta):=by
 subst hK;exact OX ha he
end
end L2
namespace An
open PySem L2
abbrev cs (x:Str):List Nat:=x.cps.toList
theorem cs_inj (h:cs x=cs y):x=y:=by
 obtain⟨a⟩:=x;obtain⟨b⟩:=y;have:a=b:=by simpa using h
 rw[this]
theorem cs_append (x y:Str):cs (x++y)=cs x++cs y:=by
 show(x.cps++y.cps).toList=_;simp
theorem length_cs (x:Str):x.length=(cs x).length:=by simp[Str.length]
theorem len_append (x y:Str):(x++y).length=x.length+y.length:=by rw[length_cs,length_cs,length_cs,cs_append,Zj]
theorem uJ:∀xs:Da,cs (Ms "" xs)=xs.flatMap cs
 |[]=>rfl
 |[x]=>by show cs x=_;simp
 |x::y::r=>by
  show cs (x++""++Ms "" (y::r))=_;have:cs ("":Str)=[]:=by decide +kernel
  rw[cs_append,cs_append,uJ (y::r),this,Zs];simp
theorem qJ:∀(a b:Da),EU (a.map .str) (b.map .str)=decide (a=b)
 |[],[]=>rfl
 |[],_::_=>rfl
 |_::_,[]=>rfl
 |x::a,y::b=>by
  show((x==y)&&EU (a.map .str) (b.map .str))=_;rw[qJ a b,ZZ];simp
structure Ok (n:Nat)(x:Str):Prop where
 len:x.length<=n
 ok:Ep x=true
theorem xM (x:Str):Ep x=true↔∀c∈cs x,c<1114112:=by
 unfold Ep;rw[←Array.all_toList,ZI];simp
theorem Ir:∀ls:Da,(∀p∈ls,Ep p=true)->Ew (ls.map .str)=true/\ED (ls.map .str)=0
 |[],_=>⟨rfl,rfl⟩
 |x::ls,h=>by
  obtain⟨h1,h2⟩:=Ir ls fun p hp=>h p (Za _ hp);refine⟨?_,?_⟩
  ·show(Ep x&&Ew (ls.map .str))=true;rw[h x Zc,h1];rfl
  ·show max 0 (ED (ls.map .str))=0;rw[h2];rfl
theorem yU {ls:Da}(h:∀p∈ls,Ep p=true):Lm (.list (ls.map .str))=true/\Lm (.tuple (ls.map .str))=true:=by
 obtain⟨h1,h2⟩:=Ir ls h;refine⟨?_,?_⟩
 ·show(Ew (ls.map .str)&&decide (ED (ls.map .str)+1<=64))=true;rw[h1,h2];rfl
 ·show(Ew (ls.map .str)&&decide (ED (ls.map .str)+1<=64))=true;rw[h1,h2];rfl
theorem zF {H:Hp}{l:Eh}(h:H l=none):Same H (upd H l o):=fun b u e=>by rwa[zH (zK e h)]
theorem Same.updF {l:Eh}(e:Same H H2)(n:H l=none):Same H (upd H2 l o):=fun b u q=>by rw[zH (zK q n)];exact e b u q
theorem le_line {n:Nat}(h:n<=16777216):n<=sizeLine:=by rwa[Yp]
theorem yS {n:Nat}(h:n<16777216):n<sizeLine:=by rwa[Yp]
theorem IB {α:Type}(x:α)(r:List α):Hc (x::r) 0=some x:=xR (j:=0) rfl
theorem Uv (n:Nat)(h:n<=16777216:=by decide):n<=sizeLine:=le_line h
theorem Oc {c A B:Prop} [Decidable c](hc:¬c)(h:B):if decide c=true then A else B:=by
 rw[Zr hc];exact Uo h
theorem Bx {n:Nat}:∀(ys:Da),(∀y∈ys,y.length<=n)->(ys.map (·.length)).sum<=ys.length*n
 |[],_=>by simp
 |y::ys,h=>by
  have h1:=Bx ys fun z hz=>h z (Za _ hz);have h2:=h y Zc;rw[ZC,Jl,Zh,Nat.succ_mul];omega
theorem vC {α:Type}{p:α->Prop}{l:List α}{x:α}(h:∀y∈l,p y)(hx:p x):∀y∈l++[x],p y:=fun y hy=>by
 rcases Zt.mp hy with z|z
 ·exact h y z
 ·rwa[Q8.mp z]
theorem vK {α:Type}{f:α->V}{xs:List α}{i:Int}(h0:0<=i)(h1:i<xs.length):∃x,xs[i.toNat]?=some x/\Hc (xs.map f) i=some (f x):=by
 obtain⟨j,rfl⟩:=Js h0;have hj:j<xs.length:=by omega
 refine⟨xs[j],by simp[hj],xR ?_⟩;rw[Zp,Zn hj];rfl
theorem Hv {n:Nat}{i:Int}(h0:0<=i)(h1:i<n):P5 n i=some i.toNat:=by
 unfold P5;rw[Zy h0,Zy h1]
theorem Sk {i:Int}(h0:0<=i):UI xs none (some i)=xs.take i.toNat:=by
 obtain⟨j,rfl⟩:=Js h0;unfold UI;rw[HT.sIx_none,HT.sIx_nat,List.drop_zero];show xs.take (min j xs.length-0)=xs.take j
 by_cases h:j<=xs.length
 ·rw[Nat.min_eq_left h];rfl
 ·rw[Nat.min_eq_right (by omega),Nat.sub_zero,ZJ,JD (by omega)]
theorem Ip {i:Int}(h0:0<=i):UI xs (some i) none=xs.drop i.toNat:=by
 obtain⟨j,rfl⟩:=Js h0;unfold UI;rw[HT.sIx_none,HT.sIx_nat];show(xs.drop (min j xs.length)).take (xs.length-min j xs.length)=xs.drop j
 by_cases h:j<=xs.length
 ·rw[Nat.min_eq_left h];exact JD (by rw[YH];omega)
 ·rw[Nat.min_eq_right (by omega),List.drop_eq_nil_of_le (Ze _),List.drop_eq_nil_of_le (by omega)];simp
theorem IG {A B:Prop}(h:B):if(!true)=true then A else B:=by
 show if false=true then A else B;exact Uo h
theorem KI {A B:Prop}(h:A):if(!false)=true then A else B:=by
 show if true=true then A else B;exact Um h
def one (c:Nat):Str:=⟨#[c]⟩
theorem j9:∀l:List Nat,cs (Lq "" (l.map one))=l:=by
 intro l;have e2:Lq "" (l.map one)=Ms "" (l.map one):=Lb _ _;rw[e2,uJ,V4]
 induction l with
 |nil=>rfl
 |cons c l ih =>
  rw[Ym];show[c]++_=_;rw[ih (Lb _ _)];rfl
theorem FY:∀l:List Nat,((l.map one).map (·.length)).sum=l.length
 |[]=>rfl
 |c::l=>by
  rw[ZC,ZC,Jl,FY l,Zh];show 1+l.length=_;omega
end An
namespace L2
open PySem PySem.Spec PyProof.Rows
end L2
namespace AxT
open PySem PySem.Spec PyProof.Rows PySem.SeqAt
open AutoSeq1 (wpAny_loadPart')
end AxT
namespace L2
open PySem PySem.Spec PyProof.Rows
end L2
namespace AxR
open PySem PySem.Spec PyProof.Rows
open AutoSeq1 (wpAny_loadPart')
end AxR
namespace L2
open PySem PySem.Spec PyProof.Rows
section
variable {X:Cx}{K:Cd}
def WZ:R2:=fun x y H Q=>∃i j:Str,x=.str i/\y=.str j/\Q (.bl (!decide (j.cps.toList<i.cps.toList))) H
theorem BR:Cu X (EK .LtE) WZ:=by
 intro Dp s σ H x y v u Q I rx ry h;obtain⟨i,j,rfl,rfl,q⟩:=h;obtain⟨t,rfl⟩:=rx;obtain⟨t',rfl⟩:=ry;exact P.le_str ⟨.bl _,H,I,rfl,q⟩
theorem BS:∀{bs:List Bool} {us:Db},Vals (bs.map V.bl) us->us=bs.map LV
 |[],us,h=>by cases h;rfl
 |b::bs,us,h=>by
  cases h with
  |cons r1 r2=>rw[BS r2];cases r1;rfl
def WS (K:Cd):Dj->Hp->VK->Prop:=fun xs H Q=>∃(a:Eh) (bs:List Bool),xs=[.ref a]/\SqL K H a (bs.map V.bl)/\Q (.bl (bs.all id)) H
theorem xX (hc:X.calm=true)(hK:X.K=K:=by rfl):CallR X (.builtin "all") (WS K):=by
 subst hK;intro Dp s σ H xs us Q I r h;obtain⟨a,bs,rfl,ha,q⟩:=h;obtain⟨u,rfl,ru⟩:=vals1 r;cases ru;obtain⟨its,rv,pl,hz⟩:=I.list ha;have ei:=BS rv;have hl:=pl.isList;have hlt:a<s.heap.objs.size:=by obtain⟨_,e,_⟩:=hl;exact Zq e
 refine call_all_walk (Vf hl ?_);refine⟨s.heap.objs.size,[s.heap.objs.size,a],[s.heap.objs.size],its.toArray.size,_,_,fun i=>(bs[i]?).getD true,rfl,Walks.list (A:=X.A.in1) (I.ok.hd hc) _ a (Zz hlt) its.toArray,⟨⟨_,Zo _ rfl,rfl,rfl⟩,hl.push _⟩,fun i v s' Q' E' hP hQ=>?_,fun h' tk hk=>?_⟩
 ·have hP:its[i]?=some v:=by simpa using hP
  rw[ei,Zp]at hP;cases e:bs[i]? with
  |none=>rw[e]at hP;cases hP
  |some b =>
   rw[e]at hP;have hP:LV b=v:=Option.some.inj hP;subst hP;simp only[e,Vx]at hQ;exact Y2 hQ
 ·have Dq:its.length=bs.length:=by rw[ei,Q7]
  have e:((EG its.toArray.size).all fun i=>(bs[i]?).getD true)=bs.all id:=by
   rw[Zw,Dq];exact PyProof.Rows.LSm.range_all bs
  rw[e];exact⟨.bl _,H,I.kept (PyProof.Rows.LSm.kept_iter hk),rfl,q⟩
end
mutual
def Dw (K:Cd)(H:Hp):Eo->V->Prop
 | .none,v=>v=.non
 | .bool b,v=>v=.bl b
 | .int i,v=>v=.int i
 | .str x,v=>v=.str x
 | .list ds,v=>∃a xs,v=.ref a/\SqL K H a xs/\DwAll K H ds xs
 | .tuple ds,v=>∃a xs,v=.ref a/\SqT K H a xs/\DwAll K H ds xs
 | .dict _,v=>∃a Dm,v=.ref a/\H a=some (.dK Dm)
def DwAll (K:Cd)(H:Hp):Df->Dj->Prop
 |[],xs=>xs=[]
 |d::ds,xs=>∃x r,xs=x::r/\Dw K H d x/\DwAll K H ds r
end
mutual
theorem Dw.same {K:Cd}(e:Same H H'):∀(d:Eo) (v:V),Dw K H d v->Dw K H' d v
 | .none,_,h=>h
 | .bool _,_,h=>h
 | .int _,_,h=>h
 | .str _,_,h=>h
 | .list ds,_,⟨a,xs,h1,h2,h3⟩=>⟨a,xs,h1,e.seq h2,DwAll.same e ds xs h3⟩
 | .tuple ds,_,⟨a,xs,h1,h2,h3⟩=>⟨a,xs,h1,e.tupS h2,DwAll.same e ds xs h3⟩
 | .dict _,_,⟨a,Dm,h1,h2⟩=>⟨a,Dm,h1,e _ _ h2⟩
theorem DwAll.same {K:Cd}(e:Same H H'):∀(ds:Df) (xs:Dj),DwAll K H ds xs->DwAll K H' ds xs
 |[],_,h=>h
 |d::ds,_,⟨x,r,h1,h2,h3⟩=>⟨x,r,h1,Dw.same e d x h2,DwAll.same e ds r h3⟩
end
mutual
theorem Dt.dw {K:Cd}:∀{d:Eo} {v:V},Dt K H d v->Dw K H d v
 | .none,_,h=>h
 | .bool _,_,h=>h
 | .int _,_,h=>h
 | .str _,_,h=>h
 | .list ds,_,⟨a,xs,h1,h2,h3⟩=>⟨a,xs,h1,h2,DtAll.dw h3⟩
 | .tuple ds,_,⟨a,xs,h1,h2,h3⟩=>⟨a,xs,h1,h2,DtAll.dw h3⟩
 | .dict _,_,h=>h.elim
theorem DtAll.dw {K:Cd}:∀{ds:Df} {xs:Dj},DtAll K H ds xs->DwAll K H ds xs
 |[],_,h=>h
 |d::ds,_,⟨x,r,h1,h2,h3⟩=>⟨x,r,h1,Dt.dw h2,DtAll.dw h3⟩
end
theorem DwAll.length {K:Cd}:∀{ds:Df} {xs:Dj},DwAll K H ds xs->xs.length=ds.length
 |[],_,h=>by rw[show _=[] from h];rfl
 |d::ds,_,⟨x,r,h1,h2,h3⟩=>by rw[h1,Zh,Zh,DwAll.length h3]
theorem DwAll.get {K:Cd}:∀{ds:Df} {xs:Dj} {i:Nat} {x:V},DwAll K H ds xs->xs[i]?=some x->∃d,ds[i]?=some d/\Dw K H d x
 |[],_,i,x,h,e=>by rw[show _=[] from h]at e;cases e
 |d::ds,_,0,x,⟨x',r,h1,h2,h3⟩,e=>by
  rw[h1]at e;cases e;exact⟨d,rfl,h2⟩
 |d::ds,_,i+1,x,⟨x',r,h1,h2,h3⟩,e=>by
  rw[h1]at e;obtain⟨d',e1,e2⟩:=DwAll.get (i:=i) h3 (by simpa using e);exact⟨d',by simpa using e1,e2⟩
theorem DwAll.at {K:Cd}{i:Nat}{d:Eo}(h:DwAll K H ds xs)(e:ds[i]?=some d):∃x,xs[i]?=some x/\Dw K H d x:=by
 have hi:i<xs.length:=by rw[h.length];exact(Zu.mp e).1
 obtain⟨d',e',q⟩:=h.get (Zn hi);rw[e]at e';cases e';exact⟨_,Zn hi,q⟩
def UN:Eo->String
 | .none=>"NoneType"
 | .bool _=>"bool"
 | .int _=>"int"
 | .str _=>"str"
 | .list _=>"list"
 | .tuple _=>"tuple"
 | .dict _=>"dict"
section
variable {X:Cx}{Dp:De}{σ:St}{H:Hp}{s:Ej}{A:EC}{E:Eg->Dh}{Q:Eg->Dh}{c:Eg}{b:Bool}{K:Cd}
theorem M9 (I:Inv X Dp σ H s)(rx:RelV x u)(hd:Dw X.K H d x)(e:Ly X.K (.type (UN d)) c=some b)(h:∀tk,Q (.bool b) { s with toks:=tk }) :
  Ek (Es X.prog X.w) A (call (.builtin "isinstance") [u,c]) Q E s:=by
 cases d with
 |none=>cases(show x=_ from hd);exact jQ I rx .non e h
 |bool y=>cases(show x=_ from hd);exact jQ I rx (.bl y) e h
 |int i=>cases(show x=_ from hd);exact jQ I rx (.int i) e h
 |str y=>cases(show x=_ from hd);exact jQ I rx (.str y) e h
 |dict Dm=>obtain⟨a,ks,rfl,ea⟩:=hd;exact jQ I rx (.dK ea) e h
 |list ds =>
  obtain⟨a,xs,rfl,hs,_⟩:=hd;cases(show u=Eu a from rx);obtain⟨its,_,⟨o,n,h1,h2,_⟩,_⟩:=I.list hs;exact Yb VU I.kIn ⟨o,h1,h2⟩ e (fun z=>nomatch z) h
 |tuple ds =>
  obtain⟨a,xs,rfl,hs,_⟩:=hd;cases(show u=Eu a from rx);obtain⟨its,_,p,_⟩:=I.tuple hs;obtain⟨o,h1,h2,_⟩:=p;exact Yb PySem.W.kitx_tuple I.kIn ⟨o,h1,h2⟩ e (fun z=>nomatch z) h
def Wa (K:Cd):Dj->Hp->VK->Prop:=fun xs H Q=>∃y T d b,xs=[y,.ty T]/\Dw K H d y/\Ly K (.type (UN d)) (.type T)=some b/\Q (.bl b) H
theorem zX (hK:X.K=K:=by rfl):CallR X (.builtin "isinstance") (Wa K):=by
 subst hK;intro Dp s σ H xs us Q I r h;obtain⟨y,T,d,b,rfl,hd,kt,q⟩:=h;obtain⟨u,w',rfl,ru,rw'⟩:=vals2 r;cases(show w'=EO T from rw');exact M9 I ru hd kt fun tk=>⟨.bl b,H,I.tok _,rfl,q⟩
end
section
variable {src:List (Option Nat)}{g:TG}{te:TE}{Q:VK}{σ:St}{H:Hp}
theorem G6 {x:Str}(Pv:Nat->Dj->St->Hp->Prop)(h0:Pv 0 [] (UA src σ) H)(hz:x.length<=sizeLine)(hl:∀i ys σ H,i<=x.length->Pv i ys σ H->ys.length<=i)
  (hs:∀i c ys σ H,x.cps[i]?=some c->Pv i ys σ H->g (.str ⟨#[c]⟩) σ H fun σ2 H3=>te σ2 H3 fun y H5=>Pv (i+1) (ys++[y]) σ2 H5)
  (hd:∀ys σ H,Pv x.length ys σ H->∀p,H p=none->Q (.ref p) (upd H p (.lst ys))):UK src (Tr x) g ID te Q σ H :=
 Gb x.length Pv h0 hz hl (fun _ _ _ _=>rfl) (fun _ _ _ _ hi _=>hi)
  (fun i ys σ H hi p x' H2 y=>by
   obtain⟨e,c,hc,rfl⟩:=y;subst e;rw[Ga];exact hs i c ys σ _ hc p) hd
end
end L2
namespace L2
open PySem PySem.Spec PyProof.Rows
section
variable {X:Cx}{K:Cd}{a b c d:EF}{ta tb tc td:TE}{pos:Pos}
def Wc:R2:=fun x y H Q=>∃(i:Str) (n:Int),x=.str i/\y=.int n/\MulOk i n/\Q (.str (Txt.mul i n)) H
theorem Rg:Cu X (Mr .Mult) Wc:=by
 intro Dp s σ H x y v u Q I rx ry h;obtain⟨i,n,rfl,rfl,ok,q⟩:=h;obtain⟨t,rfl⟩:=rx;obtain⟨t',rfl⟩:=ry;exact SB.mul ok fun t' k=>⟨.str _,H,I.tok _,⟨_,rfl⟩,q⟩
def WV (K:Cd)(tup neg:Bool):R2:=fun x y H Q=>∃(d:Eo) (xs:Df),Dt K H d x/\Dt K H (if tup then .tuple xs else .list xs) y/\Ew xs=true/\d.canLay0=true/\d.depth<=60/\Q (.bl (neg !=xs.any fun y=>ER y d)) H
end
section
variable {X:Cx}{Dp:De}{σ:St}{H:Hp}{s:Ej}
theorem GA (hst:X.stack=X.env::X.outer)(hfr:X.env.frame=some X.env.locals)(hex:X.ex=[])(I:Inv X Dp σ H s){a T:Eh}{cls:Eg}(na:X.s₀.heap.get? a=none)(nT:X.s₀.heap.get? T=none)(ha:H a=none)(hT:H T=none)(ea:ExcAt s.heap a T cls){E:XK}(q:E cls none H)
  {Ex:Eg->Dh}:Ek (Es X.prog X.w) X.A (leaving X.env (.ref a)) (fun _ s''=>Cz X.prog X.w X.outer X.H₀ X.s₀ E (.ref a) s'') Ex s:=by
 have fr:=kB (as:=[a,T]) I.stack;have hA:X.A.frames=some (X.env::X.outer):=by rw[I.ok.frames,hst]
 have hid:∀b,b=a\/b=T->(UP s.heap [a,T] X.stack).get? b=none:=fun b hb=>by
  cases hq:(UP s.heap [a,T] X.stack).get? b with
  |none=>rfl
  |some o =>
   exfalso;have z:=JL ([a,T]++frs X.stack) (h:=s.heap) (b:=b) (Yo _ (by simpa using hb));rw[z]at hq;cases hq
 obtain⟨oe,vs,oT,ts,t1,t2,t3,t4,t6,t7,t8,t9⟩:=ea;have tw:NG ctx0 s.heap (UP s.heap [a,T] X.stack) a cls .none:=⟨oe,vs,T,oT,ts,t1,t2,t3,t4,hid T (.inr rfl),t6,t7,t8,t9⟩;refine HA (base:=UP s.heap [a,T] X.stack) Xn hA (by rwa[←hst]) hfr tw jX (hid a (.inl rfl)) fun h2 k1 k2 L k4=>?_;obtain⟨oe',vs',T',oT',ts',u1,u2,u3,u4,u5,u6,u7,u8,u9⟩:=L;have stk:∀b∈frs X.stack,H b=none:=I.stkFree;have kp:∀b o,s.heap.get? b=some o->b≠a->b≠T->b∉frs X.stack->h2.get? b=some o:=fun b o e h3 h4 hb=>k1 b o (Y6 _ e (by
  intro z
  rcases Zt.mp z with z|z
  ·have z:b=a\/b=T:=by simpa using z
   exact z.elim h3 h4
  ·exact hb z))
 have sl:∀b o,s.heap.get? b=some o->b∈frs X.stack->∃sl,h2.get? b=some { o with slots:=sl }:=fun b o e hb=>by
  obtain⟨_,o',ho',hd⟩:=I.stack.mem hb;rw[e]at ho';cases ho';exact k4 b o e hd
 have nL:∀b o,X.s₀.heap.get? b=some o->b≠X.env.locals:=fun b o e=>Zz (ZG (Zq e) I.ok.above);have nex:∀b,b∉X.ex:=fun b=>by rw[hex];simp
 have nA:∀b o,X.s₀.heap.get? b=some o->b≠a:=fun b o e z=>by rw[z,na]at e;cases e
 have nTT:∀b o,X.s₀.heap.get? b=some o->b≠T:=fun b o e z=>by rw[z,nT]at e;cases e
 have nT':T'=T\/s.heap.get? T'=none:=by
  by_cases hq:T'=T
  ·exact .inl hq
  ·refine .inr ?_;cases qT:s.heap.get? T' with
   |none=>rfl
   |some o =>
    exfalso
    by_cases hf:T'∈frs X.stack
    ·have k2':h2.FunFrames (UP s.heap [a,T] X.stack) X.stack:=by have z:=k2;rw[←hst]at z;exact z
     obtain⟨_,o',ho',hd⟩:=k2'.mem hf;rw[u7]at ho';cases ho';exact hd _ u8
    ·have z:(UP s.heap [a,T] X.stack).get? T'=some o:=Y6 _ qT (by
      intro z
      rcases Zt.mp z with z|z
      ·have z:T'=a\/T'=T:=by simpa using z
       exact z.elim u6 hq
      ·exact hf z)
     rw[u5]at z;cases z
 have oT1:X.s₀.heap.get? T'=none:=nT'.elim (fun z=>by rwa[z]) fun z=>I.old_none hex z;have oT2:H T'=none:=nT'.elim (fun z=>by rwa[z]) fun z=>I.none_of z;refine⟨a,T',cls,H,rfl,I.os,I.bare,⟨fun b o e1 n hb _=>?_,fun b o e1 n hb _=>?_,fun b o e1 n _=>I.base.free b o e1 n (nex b),fun b o e1 _=>?_,I.base.tups,I.base.frzs,I.base.tbls⟩,fun b u e1=>?_,na,oT1,ha,oT2,⟨oe',vs',oT',ts',u1,u2,u3,u4,u6,u7,u8,u9⟩,q⟩
 ·refine kp b o (I.base.keep b o e1 n hb (nex b)) (nA b o e1) (nTT b o e1) fun z=>?_
  rcases Zi.mp (I.stkSub b z) with r|r
  ·exact nL b o e1 r
  ·exact hb r
 ·obtain⟨sl1,e2⟩:=I.base.slot b o e1 n hb (nex b)
  by_cases hz:b∈frs X.stack
  ·obtain⟨sl2,e3⟩:=sl b _ e2 hz;exact⟨sl2,e3⟩
  ·exact⟨sl1,kp b _ e2 (nA b o e1) (nTT b o e1) hz⟩
 ·obtain⟨o',e2⟩:=I.base.there b o e1 (nex b)
  by_cases hz:b∈frs X.stack
  ·obtain⟨sl2,e3⟩:=sl b _ e2 hz;exact⟨_,e3⟩
  ·exact⟨o',kp b _ e2 (nA b o e1) (nTT b o e1) hz⟩
 ·have off:∀c,(c=b\/H c=some (.own b))->H c≠none:=fun c hc z=>by
   rcases hc with y|y
   ·rw[y,e1]at z;cases z
   ·rw[y]at z;cases z
  refine(I.hok b u e1).stay (fun c v hc r=>kp c v r (fun z=>?_) (fun z=>?_) fun z=>?_) (fun _ r=>r) fun _ _ r=>r
  ·rw[z]at hc
   rcases hc with y|y
   ·rw[←y,ha]at e1;cases e1
   ·rw[ha]at y;cases y
  ·rw[z]at hc
   rcases hc with y|y
   ·rw[←y,hT]at e1;cases e1
   ·rw[hT]at y;cases y
  ·have hz:=stk c z
   rcases hc with y|y
   ·rw[y,e1]at hz;cases hz
   ·rw[y]at hz;cases hz
end
theorem yA {P:Ei}{w:Em}{K:Cd}{mg:Str->Dc}{base:Ez}{N:Da}{qual:Str}{scope:LP}{f:Eh}{cd:Eg}{A:EC}{outer:List Env}{s:Ej}{H:Hp}{E:XK} :
  Raises (Bz (Cz P w) P w K mg base N qual scope f cd A outer s H E) (fun _ H' cls=>E cls none H'):=by
 intro Dp σ H1 s1 e s' I hx;obtain⟨a,T,cls,H',rfl,os,bare,un,hok,na,nT,ha,hT,ea,q⟩:=hx;have I1:=I.call' (ch:=[]) os un hok bare fun b z=>absurd z (by simp);exact GA rfl rfl rfl I1 (I.old_none rfl na) (I.old_none rfl nT) ha hT ea q
theorem CalX.mk' {K:Cd}{st:EI}(F:Fun K x qual st f fd)(G:FnOk P w K mg base (Cz P w) k f fd ps sp)(hm:mg x=some (.ref f))
  (b:Binds K fd ps []):CalX P w K mg base k x ps sp:=⟨f,fd,G,hm,F.kp,b⟩
instance:DecidableEq PyData:=fun a b=>decidable_of_iff _ (same_iff (a:=a) (b:=b))
mutual
def UJ:Eo->Bool
 | .str x=>Ep x
 | .tuple ds=>y6 ds
 |_=>false
def y6:Df->Bool
 |[]=>true
 |d::ds=>UJ d&&y6 ds
end
mutual
def X6:Eo->Nat
 | .tuple ds=>xU ds+1
 |_=>0
def xU:Df->Nat
 |[]=>0
 |d::ds=>max (X6 d) (xU ds)
end
mutual
def RdT (h:Ez):Eo->Eg->Prop
 | .str x,v=>∃t,v=.str x t
 | .tuple ds,v=>∃a o vs n,v=.ref a/\h.get? a=some o/\o.cls=.type "tuple"/\o.data=.seq vs n/\RdAll h ds vs.toList
 |_,_=>False
def RdAll (h:Ez):Df->Db->Prop
 |[],vs=>vs=[]
 |d::ds,vs=>∃v r,vs=v::r/\RdT h d v/\RdAll h ds r
end
mutual
def UL (w:Em):Eo->Int
 | .str x=>hashStr w x
 | .tuple ds=>reduceHash (EN (vL w ds))
 |_=>0
def vL (w:Em):Df->List Int
 |[]=>[]
 |d::ds=>UL w d::vL w ds
end
mutual
def G5:Eo->Nat
 | .tuple ds=>xB ds+1
 |_=>1
def xB:Df->Nat
 |[]=>0
 |d::ds=>G5 d+xB ds
end
theorem Id (w:Em):∀ds,vL w ds=ds.map (UL w)
 |[]=>rfl
 |d::ds=>by rw[vL,Id w ds];rfl
theorem Xz:∀(a b:Df),xB (a++b)=xB a+xB b
 |[],b=>by simp[xB]
 |d::a,b=>by
  show G5 d+xB (a++b)=(G5 d+xB a)+xB b;rw[Xz a b];omega
mutual
theorem RdT.reads:∀(d:Eo) (v:Eg),RdT h d v->∃as,Reads h v d as
 | .str x,_,⟨t,e⟩=>by subst e;exact⟨_,.str x t⟩
 | .tuple ds,_,⟨a,o,vs,n,e,h1,h2,h3,h4⟩=>by
  subst e;obtain⟨as,q⟩:=RdAll.reads ds vs.toList h4;exact⟨_,.tuple h1 h2 h3 q⟩
 | .none,_,q=>q.elim
 | .bool _,_,q=>q.elim
 | .int _,_,q=>q.elim
 | .list _,_,q=>q.elim
 | .dict _,_,q=>q.elim
theorem RdAll.reads:∀(ds:Df) (vs:Db),RdAll h ds vs->∃as,LF h vs ds as
 |[],vs,e=>by cases(show vs=[] from e);exact⟨_,.nil⟩
 |d::ds,_,⟨v,r,e,h1,h2⟩=>by
  subst e;obtain⟨as,q⟩:=RdT.reads d v h1;obtain⟨bs,q2⟩:=RdAll.reads ds r h2;exact⟨_,.cons q q2⟩
end
mutual
theorem RdT.inj:∀(d e:Eo) (v:Eg),RdT h d v->RdT h e v->d=e
 | .str x,e,v,⟨t,h1⟩,h2=>by
  subst h1;cases e with
  |str y=>obtain⟨t',q⟩:=h2;cases q;rfl
  |tuple ds=>obtain⟨a,o,vs,n,q,_⟩:=h2;cases q
  |none=>exact h2.elim
  |bool _=>exact h2.elim
  |int _=>exact h2.elim
  |list _=>exact h2.elim
  |dict _=>exact h2.elim
 | .tuple ds,e,v,⟨a,o,vs,n,h1,h3,h4,h5,h6⟩,h2=>by
  subst h1;cases e with
  |str y=>obtain⟨t',q⟩:=h2;cases q
  |tuple es =>
   obtain⟨a',o',vs',n',q,q3,q4,q5,q6⟩:=h2;cases q;rw[h3]at q3;cases q3;rw[h5]at q5;cases q5;rw[RdAll.inj ds es vs.toList h6 q6]
  |none=>exact h2.elim
  |bool _=>exact h2.elim
  |int _=>exact h2.elim
  |list _=>exact h2.elim
  |dict _=>exact h2.elim
 | .none,_,_,q,_=>q.elim
 | .bool _,_,_,q,_=>q.elim
 | .int _,_,_,q,_=>q.elim
 | .list _,_,_,q,_=>q.elim
 | .dict _,_,_,q,_=>q.elim
theorem RdAll.inj:∀(ds es:Df) (vs:Db),RdAll h ds vs->RdAll h es vs->ds=es
 |[],[],_,_,_=>rfl
 |[],e::es,vs,h1,⟨v,r,q,_⟩=>by rw[show vs=[] from h1]at q;cases q
 |d::ds,[],vs,⟨v,r,q,_⟩,h2=>by rw[show vs=[] from h2]at q;cases q
 |d::ds,e::es,_,⟨v,r,h1,h3,h4⟩,⟨v',r',q1,q3,q4⟩=>by
  subst h1;injection q1 with z1 z2;subst z1 z2;rw[RdT.inj d e v h3 q3,RdAll.inj ds es r h4 q4]
end
mutual
theorem RdT.keeps {h h':Ez}{dd:Eh}{od:Obj}{es:Array LZ}{ep:Nat}(ho:h.get? dd=some od)(hd:od.data=.dict es ep)(hs:Ll dd h h'):∀(d:Eo) (v:Eg),RdT h d v->RdT h' d v
 | .str x,_,q=>q
 | .tuple ds,_,⟨a,o,vs,n,e,h1,h2,h3,h4⟩=>by
  have ne:a≠dd:=fun z=>by
   subst z;rw[h1]at ho;cases ho;rw[h3]at hd;cases hd
  exact⟨a,o,vs,n,e,(hs.2 a ne).trans h1,h2,h3,RdAll.keeps ho hd hs ds vs.toList h4⟩
 | .none,_,q=>q.elim
 | .bool _,_,q=>q.elim
 | .int _,_,q=>q.elim
 | .list _,_,q=>q.elim
 | .dict _,_,q=>q.elim
theorem RdAll.keeps {h h':Ez}{dd:Eh}{od:Obj}{es:Array LZ}{ep:Nat}(ho:h.get? dd=some od)(hd:od.data=.dict es ep)(hs:Ll dd h h'):∀(ds:Df) (vs:Db),RdAll h ds vs->RdAll h' ds vs
 |[],_,q=>q
 |d::ds,_,⟨v,r,e,h1,h2⟩=>⟨v,r,e,RdT.keeps ho hd hs d v h1,RdAll.keeps ho hd hs ds r h2⟩
end
section
variable {prog:Ei}{w:Em}
def B8 (prog:Ei)(w:Em)(d:Eo):Prop:=∀(A:EC) (E:Eg->Dh) (s:Ej) (v:Eg) (Q:Int->Dh),A.units+X6 d<E5->RdT s.heap d v->Q (UL w d) { s with toks:=s.toks+G5 d }->Ek (Es prog w) A (pyHash v) Q E s
theorem B9:∀{ds:Df} {d:Eo},d∈ds->X6 d<=xU ds
 |[],_,h=>nomatch h
 |e::ds,d,h=>by
  show X6 d<=max (X6 e) (xU ds)
  rcases Zi.mp h with rfl|h
  ·omega
  ·have:=B9 h;omega
theorem Ht {ds:Df}(ih:∀d∈ds,B8 prog w d):B8 prog w (.tuple ds):=by
 intro A E s v Q hu hr h;obtain⟨a,o,Dn,n,rfl,ho,hc,hd,hi⟩:=hr;have hu0:A.units<cLine:=by omega
 have hT:s.TypeIs (.ref a) "tuple":=⟨o,ho,hc⟩;have hu1:A.units+(xU ds+1)<cLine:=hu;unfold pyHash
 first|unfold pyHashByItsType|skip
 first|refine Q9 (wpAny_cRoomFor_or (.inr hu0) ?_)|skip
 refine Q9 (J4 hT F.slot_tuple_hash.lookup ?_);show Ek _ _ (if(some (Value.builtin "tuple.__hash__")==some EE)=true then _ else _) Q E s;rw[ZA (by rw[beq_builtin_none];exact ZK)];refine Q9 (J4 hT F.slot_tuple_hash.lookup ?_);show Ek _ _ (callSpecialIfBoundUnlessNone? (.ref a) "__hash__" _>>=_) Q E s;refine Q9 (wpAny_callSpecialIfBoundUnlessNone?_slot hT F.slot_tuple_hash (Yc F.slot_tuple_hash hT F.entry_tuple_hash ?_ (F.args_tuple_hash_1 _)));show Ek _ _ (LI (.ref a)>>=_) _ _ s;refine Q9 (VP ho hd ?_);refine Q9 ?_;rw[←Array.forIn_toList];refine V5 _
  (fun rest (b:Array Int) s'=>∃done left,ds=done++left/\RdAll s.heap left rest/\b.toList=done.map (UL w)/\s'={ s with toks:=s.toks+xB done })
  _ ?_ ?_ _ _ ⟨[],ds,rfl,hi,rfl,by simp[xB]⟩
 ·rintro x rest b s' ⟨done,left,e,hl,hb,rfl⟩;cases left with
  |nil=>cases(show x::rest=[] from hl)
  |cons d left =>
   obtain⟨v,r,ev,h1,h2⟩:=hl;injection ev with e1 e2;subst e1 e2;have hm:d∈ds:=by rw[e];simp
   have hdp:=B9 hm;have hq:∃done' left',ds=done'++left'/\RdAll s.heap left' rest/\(b.push (UL w d)).toList=done'.map (UL w)/\({ s with toks:=s.toks+xB done+G5 d }:Ej)={ s with toks:=s.toks+xB done' } :=
    ⟨done++[d],left,by simp[e],h2,by simp[hb],by rw[Xz];simp[xB,Nat.add_assoc]⟩
   refine Q9 (ih d hm A.in1 _ _ _ _ (by show A.units+1+X6 d<E5;omega) h1 ?_)
   first
    |exact Zg hq
    |exact Q9 (Zg (Zg hq))
 ·rintro b s' ⟨done,left,e,hl,hb,rfl⟩;cases left with
  |cons d left=>obtain⟨v,r,ev,_⟩:=hl;cases ev
  |nil =>
   rw[Zs]at e;subst e;show Ek _ _ (retInt (EN b.toList)) _ _ _;rw[hb];have h:Q (reduceHash (EN (vL w ds))) { s with toks:=s.toks+(xB ds+1) }:=h;rw[Id]at h;refine wpAny_ret_mkInt ?_;show Ek _ _ (if(decide (-(2:Int) ^ 63<=EN (ds.map (UL w)))&&decide (EN (ds.map (UL w))<2 ^ 63))=true then _ else _) Q E _;unfold reduceHash at h
   by_cases hr:(decide (-(2:Int) ^ 63<=EN (ds.map (UL w)))&&decide (EN (ds.map (UL w))<2 ^ 63))=true
   ·rw[Zy hr];rw[Zy hr]at h;exact Zg (by simpa[Nat.add_assoc] using h)
   ·rw[ZA hr];rw[ZA hr]at h;exact Q9 (J7 (Zg (by simpa[Nat.add_assoc] using h)))
mutual
theorem KG:∀d:Eo,B8 prog w d
 | .str x=>fun A E s v Q _ hr h=>by
  obtain⟨t,rfl⟩:=hr;exact(strKind prog w).pyHash (k:=x) (by show E4 x (.str x t)=true;simp[E4]) h
 | .tuple ds=>Ht (DE ds)
 | .none=>fun _ _ _ _ _ _ hr _=>hr.elim
 | .bool _=>fun _ _ _ _ _ _ hr _=>hr.elim
 | .int _=>fun _ _ _ _ _ _ hr _=>hr.elim
 | .list _=>fun _ _ _ _ _ _ hr _=>hr.elim
 | .dict _=>fun _ _ _ _ _ _ hr _=>hr.elim
theorem DE:∀ds:Df,∀d∈ds,B8 prog w d
 |[],_,h=>nomatch h
 |e::ds,d,h=>(Zi.mp h).elim (fun z=>z▸KG e) (DE ds d)
end
mutual
theorem Kz:∀(d e:Eo),UJ d=true->UJ e=true->ER d e=decide (d=e)
 | .str x,.str y,_,_=>by
  show(x==y)=_;rw[ZZ];simp
 | .str _,.tuple _,_,_=>by rw[Zr (by simp)];rfl
 | .tuple _,.str _,_,_=>by rw[Zr (by simp)];rfl
 | .tuple ds,.tuple es,h1,h2=>by
  show EU ds es=_;rw[CP ds es h1 h2];exact Vy.mpr (by simp)
 | .none,_,h,_=>by cases h
 | .bool _,_,h,_=>by cases h
 | .int _,_,h,_=>by cases h
 | .list _,_,h,_=>by cases h
 | .dict _,_,h,_=>by cases h
 | .str _,.none,_,h=>by cases h
 | .str _,.bool _,_,h=>by cases h
 | .str _,.int _,_,h=>by cases h
 | .str _,.list _,_,h=>by cases h
 | .str _,.dict _,_,h=>by cases h
 | .tuple _,.none,_,h=>by cases h
 | .tuple _,.bool _,_,h=>by cases h
 | .tuple _,.int _,_,h=>by cases h
 | .tuple _,.list _,_,h=>by cases h
 | .tuple _,.dict _,_,h=>by cases h
theorem CP:∀(ds es:Df),y6 ds=true->y6 es=true->EU ds es=decide (ds=es)
 |[],[],_,_=>rfl
 |[],_::_,_,_=>rfl
 |_::_,[],_,_=>rfl
 |d::ds,e::es,h1,h2=>by
  have h1:(UJ d&&y6 ds)=true:=h1;have h2:(UJ e&&y6 es)=true:=h2;rw[Zk]at h1 h2;show(ER d e&&EU ds es)=_;rw[Kz d e h1.1 h2.1,CP ds es h1.2 h2.2,←Bool.decide_and];exact Vy.mpr (by simp)
end
mutual
theorem BP:∀d:Eo,UJ d=true->d.canLay0=true/\d.depth<=X6 d
 | .str x,h=>⟨h,Ze _⟩
 | .tuple ds,h=>by
  obtain⟨h1,h2⟩:=F5 ds h;refine⟨h1,?_⟩;show ED ds+1<=xU ds+1;omega
 | .none,h=>by cases h
 | .bool _,h=>by cases h
 | .int _,h=>by cases h
 | .list _,h=>by cases h
 | .dict _,h=>by cases h
theorem F5:∀ds:Df,y6 ds=true->Ew ds=true/\ED ds<=xU ds
 |[],_=>⟨rfl,Ze _⟩
 |d::ds,h=>by
  have h:(UJ d&&y6 ds)=true:=h;rw[Zk]at h;obtain⟨h1,h2⟩:=BP d h.1;obtain⟨h3,h4⟩:=F5 ds h.2;refine⟨?_,?_⟩
  ·show(d.canLay0&&Ew ds)=true;rw[h1,h3];rfl
  ·show max d.depth (ED ds)<=max (X6 d) (xU ds);omega
end
def XY (prog:Ei)(w:Em)(d:Eo):Prop:=∀(A:EC) (E:Eg->Dh) (s:Ej) (v:Eg) (n:Nat) (Q:Bool->Dh),X6 d<=n->RdT s.heap d v->Q true s->Ek (Es prog w) A (eqIsQuiet n v) Q E s
theorem FF {ds:Df}(ih:∀d∈ds,XY prog w d):XY prog w (.tuple ds):=by
 intro A E s v n Q hn hr h;obtain⟨a,o,Dn,m,rfl,ho,hc,hd,hi⟩:=hr;have hT:s.TypeIs (.ref a) "tuple":=⟨o,ho,hc⟩;have hn:xU ds+1<=n:=hn;obtain⟨n,rfl⟩:∃k,n=k+1:=⟨n-1,by omega⟩;unfold eqIsQuiet;refine Q9 (J4 hT F.slot_tuple_eq.lookup ?_);show Ek _ _ (isInstance (.ref a) (.type "tuple")>>=_) _ _ s;refine Q9 (JS hT isSubtype_tuple_tuple ?_);simp only[VY,YG,JY];refine Q9 (wpAny_seqItems ho hd ?_);refine Q9 ?_;show Ek _ _ (forIn Dn _ _) _ _ s;rw[←Array.forIn_toList];refine V5 _ (fun rest r s'=>r.1=none/\s'=s/\∃left,(∀d∈left,d∈ds)/\RdAll s.heap left rest) _ ?_ ?_ _ _ ⟨rfl,rfl,ds,fun _ z=>z,hi⟩
 ·rintro v rest r s' ⟨hr,rfl,left,hm,hl⟩;cases left with
  |nil=>cases(show v::rest=[] from hl)
  |cons d left =>
   obtain⟨v',r',ev,h1,h2⟩:=hl;injection ev with e1 e2;subst e1 e2;have hd':=hm d Zc;have:=B9 hd';refine Q9 (ih d hd' A _ s' _ n _ (by omega) h1 ?_);simp only[VY,YG,JY];exact Zg ⟨rfl,rfl,left,fun e he=>hm e (Za _ he),h2⟩
 ·rintro⟨r1,r2⟩ s' ⟨hr,rfl,_⟩;simp only at hr;subst hr;exact Zg h
mutual
theorem FE:∀d:Eo,XY prog w d
 | .str x=>fun A E s v n Q _ hr h=>by
  obtain⟨t,rfl⟩:=hr;rw[eqIsQuiet_byValue _ (by rfl)];exact Zg h
 | .tuple ds=>FF (GL ds)
 | .none=>fun _ _ _ _ _ _ _ hr _=>hr.elim
 | .bool _=>fun _ _ _ _ _ _ _ hr _=>hr.elim
 | .int _=>fun _ _ _ _ _ _ _ hr _=>hr.elim
 | .list _=>fun _ _ _ _ _ _ _ hr _=>hr.elim
 | .dict _=>fun _ _ _ _ _ _ _ hr _=>hr.elim
theorem GL:∀ds:Df,∀d∈ds,XY prog w d
 |[],_,h=>nomatch h
 |e::ds,d,h=>(Zi.mp h).elim (fun z=>z▸FE e) (GL ds d)
end
def yQ (prog:Ei)(w:Em):HeapKind prog w Eo where
 is:=fun h d a=>RdT h d (.ref a)/\UJ d=true/\X6 d<=6
 hash:=UL w
 draws:=G5
 room:=fun A=>A.units+8<E5
 inj:=fun hx hy=>RdT.inj _ _ _ hx.1 hy.1
 keeps:=fun x ho hd hs=>⟨RdT.keeps ho hd hs _ _ x.1,x.2⟩
 pyHash:=fun hu hk h=>KG _ _ _ _ _ _ (by have:=hk.2.2;omega) hk.1 h
 eqBool:=fun{A E s x y a b Q} hu hx hy h=>by
  obtain⟨as,ra⟩:=RdT.reads _ _ hx.1;obtain⟨bs,rb⟩:=RdT.reads _ _ hy.1;obtain⟨l1,d1⟩:=BP _ hx.2.1;obtain⟨l2,d2⟩:=BP _ hy.2.1;have e:=SeqAt.eqAt_reads x y A s _ _ as bs ra rb l1 l2 (by have:=hx.2.2;omega);rw[Kz _ _ hx.2.1 hy.2.1]at e;exact e prog w E Q h
 quiet:=fun hk h=>FE _ _ _ _ _ _ _ (by have:=hk.2.2;omega) hk.1 h
end
end L2
namespace L2
open PySem PySem.Spec PyProof.Rows
def Gn (d:Eh)(es:List LZ):HO:=.ext fun h=>∃o ep,h.get? d=some o/\o.ExactDict/\o.data=.dict es.toArray ep/\(d==EM)=false
theorem K5 {h:Ez}{d:Eh}{es:List LZ}{o:Obj}{ep:Nat}(h1:h.get? d=some o)(h2:o.ExactDict)(h3:o.data=.dict es.toArray ep)(h4:(d==EM)=false):ObjOk P w H h d (Gn d es) :=
 ⟨⟨o,ep,h1,h2,h3,h4⟩,⟨o,h1⟩,fun _ _ ⟨o',ep',q1,q2⟩ k=>⟨o',ep',k o' q1,q2⟩⟩
mutual
theorem Dt.other {K:Cd}(n:∀xs,¬Rd H d (.tup xs)):∀(k:Eo) (v:V),UJ k=true->Dt K H k v->Dt K (upd H d o) k v
 | .str x,_,_,h=>h
 | .tuple ds,_,t,⟨a,xs,h1,h2,h3⟩=>by
  refine⟨a,xs,h1,?_,DtAll.other n ds xs t h3⟩
  rcases h2 with h2|h2
  ·have ne:a≠d:=fun z=>n xs (z▸h2)
   left
   unfold Rd;rwa[zH ne]
  ·exact .inr h2
 | .none,_,t,_=>by cases t
 | .bool _,_,t,_=>by cases t
 | .int _,_,t,_=>by cases t
 | .list _,_,t,_=>by cases t
 | .dict _,_,t,_=>by cases t
theorem DtAll.other {K:Cd}(n:∀xs,¬Rd H d (.tup xs)):∀(ks:Df) (vs:Dj),y6 ks=true->DtAll K H ks vs->DtAll K (upd H d o) ks vs
 |[],_,_,h=>h
 |k::ks,_,t,⟨x,r,h1,h2,h3⟩=>by
  have t:(UJ k&&y6 ks)=true:=t;rw[Zk]at t;exact⟨x,r,h1,Dt.other n k x t.1 h2,DtAll.other n ks r t.2 h3⟩
end
section
variable {X:Cx}{Dp:De}{σ:St}{H:Hp}{s:Ej}
mutual
theorem Dt.rdT (I:Inv X Dp σ H s):∀(d:Eo) (v:V) (u:Eg),UJ d=true->Dt X.K H d v->RelV v u->RdT s.heap d u
 | .str x,_,u,_,h,r=>by
  cases(show _=V.str x from h);exact r
 | .tuple ds,_,u,t,⟨a,xs,h1,h2,h3⟩,r=>by
  subst h1;cases(show u=Eu a from r);obtain⟨its,rv,⟨o,e,c,n,d⟩,_⟩:=I.tuple h2;exact⟨a,o,its.toArray,n,rfl,e,c,d,by simpa using DtAll.rdT I ds xs its t h3 rv⟩
 | .none,_,_,t,_,_=>by cases t
 | .bool _,_,_,t,_,_=>by cases t
 | .int _,_,_,t,_,_=>by cases t
 | .list _,_,_,t,_,_=>by cases t
 | .dict _,_,_,t,_,_=>by cases t
theorem DtAll.rdT (I:Inv X Dp σ H s):∀(ds:Df) (xs:Dj) (us:Db),y6 ds=true->DtAll X.K H ds xs->Vals xs us->RdAll s.heap ds us
 |[],_,us,_,h,r=>by
  cases(show _=[] from h);cases r;exact rfl
 |d::ds,_,us,t,⟨x,r,h1,h2,h3⟩,rv=>by
  have t:(UJ d&&y6 ds)=true:=t;rw[Zk]at t;subst h1;cases rv with
  |cons r1 r2=>exact⟨_,_,rfl,Dt.rdT I d x _ t.1 h2 r1,DtAll.rdT I ds r _ t.2 h3 r2⟩
end
def Xh (k:Eo):Prop:=UJ k=true/\X6 k<=6
def TRel (K:Cd)(H:Hp)(p:Eo×V)(q:Eo×Eh×Eg):Prop:=p.1=q.1/\Dt K H p.1 (.ref q.2.1)/\RelV p.2 q.2.2
def ThD (P:Ei)(w:Em)(K:Cd)(H:Hp)(d:Eh)(ps:List (Eo×V)):Prop :=
 ps.length<=10000/\(∀p∈ps,Xh p.1)/\(ps.map (·.1)).Nodup/\∃xs:List (Eo×Eh×Eg),H d=some (Gn d (xs.map (LW (yQ P w))))/\Lj (TRel K H) ps xs
theorem TRel.keys {K:Cd}:∀{ps:List (Eo×V)} {xs:List (Eo×Eh×Eg)},Lj (TRel K H) ps xs->xs.map (·.1)=ps.map (·.1)
 |_,_,.nil=>rfl
 |_,_,.cons r t=>by rw[ZC,ZC,TRel.keys t,r.1]
theorem TRel.at {K:Cd}{k:Eo}:∀{ps:List (Eo×V)} {xs:List (Eo×Eh×Eg)},Lj (TRel K H) ps xs->(atKey xs k=none/\Ur ps k=none)\/∃p v,atKey xs k=some p/\Ur ps k=some v/\RelV v p.2
 |_,_,.nil=>.inl ⟨rfl,rfl⟩
 |p::ps,q::xs,.cons r t=>by
  unfold atKey Ur;rw[YS,YS];have e:p.1=q.1:=r.1
  by_cases h:q.1=k
  ·rw[Zf h,Zf (show p.1=k by rwa[e])];exact .inr ⟨q.2,p.2,rfl,rfl,r.2.2⟩
  ·rw[Zr h,Zr (show¬p.1=k by rwa[e])];exact TRel.at t
theorem TRel.is (I:Inv X Dp σ H s):∀{ps:List (Eo×V)} {xs:List (Eo×Eh×Eg)},(∀p∈ps,Xh p.1)->Lj (TRel X.K H) ps xs->∀x∈xs,(yQ X.prog X.w).is s.heap x.1 x.2.1
 |_,_,_,.nil,x,h=>nomatch h
 |p::ps,q::xs,hk,.cons r t,x,h=>by
  rcases Zi.mp h with rfl|h
  ·obtain⟨k1,k2⟩:=hk p Zc;rw[←r.1];exact⟨Dt.rdT I _ _ _ k1 r.2.1 rfl,k1,k2⟩
  ·exact TRel.is I (fun p hp=>hk p (Za _ hp)) t x h
theorem ThD.heap (I:Inv X Dp σ H s)(T:ThD X.prog X.w X.K H d ps):∃xs,H d=some (Gn d (xs.map (LW (yQ X.prog X.w))))/\Lj (TRel X.K H) ps xs/\s.heap.DictOfH (yQ X.prog X.w) d xs/\(d==EM)=false:=by
 obtain⟨hl,hk,nd,xs,e,r⟩:=T;obtain⟨⟨o,ep,h1,h2,h3,h4⟩,_⟩:(∃o ep,s.heap.get? d=some o/\o.ExactDict/\o.data=.dict (xs.map (LW (yQ X.prog X.w))).toArray ep/\(d==EM)=false)/\_:=I.hok d _ e;exact⟨xs,e,r,⟨o,_,ep,h1,h2,h3,by simp,TRel.is I hk r,by rw[TRel.keys r];exact nd⟩,h4⟩
theorem O7 {A:EC}(hu:A.units+64<E5)(prog:Ei)(w:Em):(yQ prog w).room A.in1:=by
 show A.units+1+8<E5;omega
theorem key_is (I:Inv X Dp σ H s){k:Eo}{a:Eh}(hk:Xh k)(h:Dt X.K H k (.ref a)):(yQ X.prog X.w).is s.heap k a:=⟨Dt.rdT I _ _ _ hk.1 h rfl,hk⟩
end
section
variable {X:Cx}{K:Cd}
def WW (P:Ei)(w:Em)(K:Cd):R2:=fun y x H Q=>∃a d ps k,y=.ref a/\x=.ref d/\ThD P w K H d ps/\Xh k/\Dt K H k (.ref a)/\Q (.bl (Ur ps k).isSome) H
theorem SG (hu:X.A.units+64<E5):Cu X (EK .In) (WW X.prog X.w X.K):=by
 intro Dp s σ H y x v u Q I ry rx h;obtain⟨a,d,ps,k,rfl,rfl,T,hk,ha,q⟩:=h;cases ry;cases rx;obtain⟨xs,_,r,dd,hd⟩:=T.heap I;refine wpAny_in_heap (O7 hu _ _) (key_is I hk ha) hd dd ⟨.bl _,H,I.tok _,?_,q⟩
 rcases TRel.at (k:=k) r with⟨e1,e2⟩|⟨p,v,e1,e2,_⟩
 ·rw[e1,e2];rfl
 ·rw[e1,e2];rfl
def Wo (P:Ei)(w:Em)(K:Cd)(td ty:TE):TE:=fun σ H Q=>td σ H fun x H1=>ty σ H1 fun y H2=>∃a d ps k v,x=.ref d/\y=.ref a/\ThD P w K H2 d ps/\Xh k/\Dt K H2 k (.ref a)/\Ur ps k=some v/\Q v H2
theorem Rp {pos:Pos}(hu:X.A.units+64<E5)(ho:PE X o td)(hi:PE X i ty)(hs:PF i):PE X (.Subscript o i pos) (Wo X.prog X.w X.K td ty):=by
 intro Dp s σ H Q I h;refine Bs PySem.F.slot_dict_getitem.lookup hs (Ci (ho Dp s σ H _ I h) fun u s1 ⟨x,H1,I1,rx,q1⟩=>Ci (hi Dp s1 σ H1 _ I1 q1) fun iv s2 ⟨y,H2,I2,ry,a,d,ps,k,v,ex,ey,T,hk,ha,hv,q2⟩=>?_);subst ex ey;obtain rfl:u=Eu d:=rx;obtain rfl:iv=Eu a:=ry;obtain⟨xs,_,r,dd,hd⟩:=T.heap I2;refine⟨dd.typeIs,?_⟩
 rcases TRel.at (k:=k) r with⟨e1,e2⟩|⟨p,v',e1,e2,rv⟩
 ·rw[hv]at e2;cases e2
 ·rw[hv]at e2;cases e2;exact wpAny_getItem_heap (O7 hu _ _) (key_is I2 hk ha) dd e1 ⟨v,H2,I2.tok _,rv,q2⟩
def We (P:Ei)(w:Em)(K:Cd)(td ty tv:TE):TS:=fun D σ H=>tv σ H fun v H1=>td σ H1 fun x H2=>ty σ H2 fun y H3=>∃a d ps k,x=.ref d/\y=.ref a/\ThD P w K H3 d ps/\ps.length<10000/\Xh k/\Dt K H3 k (.ref a) /\
 ∀o,ThD P w K (upd H3 d o) d (putK ps k v)->(∃es,o=Gn d es)->D.nx σ (upd H3 d o)
theorem kH {α β:Type}{F:α->β->Prop}:∀{l l':List α} {m m':List β},Lj F l m->Lj F l' m'->Lj F (l++l') (m++m')
 |_,_,_,_,.nil,h=>h
 |_,_,_,_,.cons r t,h=>.cons r (kH t h)
theorem TRel.repl {K:Cd}{k:Eo}(rv:RelV v u):∀{ps:List (Eo×V)} {xs:List (Eo×Eh×Eg)},Lj (TRel K H) ps xs->Lj (TRel K H) (ps.map fun p=>if p.1=k then(p.1,v) else p) (xs.map (putAt k u))
 |_,_,.nil=>.nil
 |p::ps,q::xs,.cons r t=>by
  rw[ZC,ZC];refine .cons ?_ (TRel.repl rv t);have e:p.1=q.1:=r.1;unfold putAt
  by_cases h:q.1=k
  ·rw[Zy h,Zy (show p.1=k by rwa[e])];exact⟨r.1,r.2.1,rv⟩
  ·rw[ZA h,ZA (show¬p.1=k by rwa[e])];exact r
theorem TRel.put {K:Cd}{a:Eh}{ps:List (Eo×V)}{xs:List (Eo×Eh×Eg)}(r:Lj (TRel K H) ps xs)(ha:Dt K H k (.ref a))(rv:RelV v u):Lj (TRel K H) (putK ps k v) (storedH xs k a u):=by
 have e:(ps.any fun kv=>decide (kv.1=k))=(atKey xs k).isSome:=by
  rcases TRel.at (k:=k) r with⟨e1,e2⟩|⟨p,v',e1,e2,_⟩
  ·rw[e1];refine YD.mpr fun z=>?_;obtain⟨kv,hm,hk⟩:=ZY.mp z;exact X4 e2 (Zb.mpr ⟨kv,hm,Zx hk⟩)
  ·obtain⟨kv,hm,hk⟩:=Zb.mp (j7 e2);rw[e1,ZY.mpr ⟨kv,hm,Zf hk⟩];rfl
 unfold putK storedH;rw[e]
 split
 ·exact TRel.repl rv r
 ·exact kH r (.cons ⟨rfl,ha,rv⟩ .nil)
theorem O1 {ps:List (Eo×V)}(h:∀p∈ps,Xh p.1)(hk:Xh k):∀p∈putK ps k v,Xh p.1:=by
 unfold putK
 split
 ·intro p hp;obtain⟨q,hq,rfl⟩:=Zb.mp hp
  split
  ·exact h q hq
  ·exact h q hq
 ·intro p hp
  rcases Zt.mp hp with hp|hp
  ·exact h p hp
  ·rwa[Q8.mp hp]
theorem Rv {ps:List (Eo×V)}(h:(ps.map (·.1)).Nodup):((putK ps k v).map (·.1)).Nodup:=by
 unfold putK
 split
 ·have e:(ps.map fun kv=>if kv.1=k then(kv.1,v) else kv).map (·.1)=ps.map (·.1):=by
   rw[ZB];refine ZS fun p _=>?_;show(if p.1=k then(p.1,v) else p).1=p.1
   split<;>rfl
  rwa[e]
 ·rename_i hn;rw[Zl];refine kA h fun z=>hn ?_;obtain⟨p,hp,e⟩:=Zb.mp z;exact ZY.mpr ⟨p,hp,Zf e⟩
theorem Rs {pos DM:Pos}(hu:X.A.units+64<E5)(ho:PE X o td)(hi:PE X i ty)(hv:PE X value tv)(hs:Mm value (some (.Subscript o i DM)) pos.line X.env=Lx false) :
  PS X (.Assign [.Subscript o i DM] value pos) (We X.prog X.w X.K td ty tv):=by
 intro Dp s σ H D I h;refine wpAny_Assign_Subscript (Ci (hv Dp s σ H _ I h) fun r s1 ⟨v,H1,I1,rv,q1⟩=>Ci (ho Dp s1 σ H1 _ I1 q1) fun u s2 ⟨x,H2,I2,rx,q2⟩=>Ci (hi Dp s2 σ H2 _ I2 q2) fun iv s3 ⟨y,H3,I3,ry,a,d,ps,k,ex,ey,T,hl,hk,ha,q3⟩=>?_) hs;subst ex ey;obtain rfl:u=Eu d:=rx;obtain rfl:iv=Eu a:=ry;obtain⟨xs,e,rel,dd,hd⟩:=T.heap I3;have hz:xs.length<=sizeLine:=by rw[←Paired.length rel];exact An.le_line (by omega)
 refine wpAny_setItem_heap (hsz:=hz) (O7 hu _ _) (key_is I3 hk ha) dd fun h' dd' hs'=>?_;obtain⟨ob,es,ep,g1,g2,g3,g4,_,_⟩:=dd';have g3':ob.data=.dict ((storedH xs k a r).map (LW (yQ X.prog X.w))).toArray ep:=by rw[g3,←g4]
 have mu:Sb (H3 d):=by rw[e];exact Lc
 have I4:=vP (t':=s3.toks+(yQ X.prog X.w).draws k) I3 mu hs' ⟨ob,g1⟩ (K5 (H:=upd H3 d (Gn d ((storedH xs k a r).map (LW (yQ X.prog X.w))))) g1 g2 g3' hd);have nt:∀xs,¬Rd H3 d (.tup xs):=fun ys z=>by
  rcases z with z|⟨o',z⟩
  ·rw[e]at z;cases z
  ·rw[e]at z;cases z
 refine⟨σ,_,I4,q3 _ ⟨?_,O1 T.2.1 hk,Rv T.2.2.1,storedH xs k a r,zB,?_⟩ ⟨_,rfl⟩⟩
 ·have:=x5 ps k v;omega
 ·have r2:Lj (TRel X.K (upd H3 d (Gn d ((storedH xs k a r).map (LW (yQ X.prog X.w)))))) ps xs:=by
   have key:∀{ps:List (Eo×V)} {xs:List (Eo×Eh×Eg)},(∀p∈ps,Xh p.1)->Lj (TRel X.K H3) ps xs->∀o,Lj (TRel X.K (upd H3 d o)) ps xs:=by
    intro ps xs hkk r
    induction r with
    |nil=>intro _;exact .nil
    |cons r1 _ ih=>intro o;exact .cons ⟨r1.1,Dt.other nt _ _ (hkk _ Zc).1 r1.2.1,r1.2.2⟩ (ih (fun p hp=>hkk p (Za _ hp)) o)
   exact key T.2.1 rel _
  exact TRel.put r2 (Dt.other nt _ _ hk.1 ha) rv
theorem OO {pos:Pos}:PE X (.Dict [] [] pos) (fun _ H Q=>∀p o,H p=none->ThD X.prog X.w X.K (upd H p o) p []->(∃es,o=Gn p es)->Q (.ref p) (upd H p o)):=by
 intro Dp s σ H Q I h;have hn:H s.heap.objs.size=none:=I.hok.fresh (Ze _);have hS:(s.heap.objs.size==EM)=false:=Yv.mpr (EA (Zz I.big));exact wpAny_Dict_empty ⟨.ref s.heap.objs.size,_,I.laid (a:=s.heap.objs.size) (o:=Gn s.heap.objs.size []) (t':=s.toks) (fun _ _ q=>Zd _ q) (Ze _) (K5 (ep:=0) (Zo _ rfl) ⟨rfl,rfl,rfl⟩ rfl hS),rfl,h _ _ hn ⟨ZT _,fun _ z=>(nomatch z),Yy,[],zB,.nil⟩ ⟨_,rfl⟩⟩
end
end L2
namespace L2
open PySem PySem.Spec PyProof.Rows
structure Met (P:Ei)(w:Em)(K:Cd)(mg:Str->Dc)(base:Ez)(C:Eh)(k:Nat)(m:Str)(ps:Da)(sp:Sp):Prop where
 ex:∃(f:Eh) (fd:El),FnOk P w K mg base Cm k f fd ps sp/\Meth K C m f/\Binds K fd ps []
structure MetX (P:Ei)(w:Em)(K:Cd)(mg:Str->Dc)(base:Ez)(C:Eh)(k:Nat)(m:Str)(ps:Da)(sp:Sp):Prop where
 ex:∃(f:Eh) (fd:El),FnOk P w K mg base (Cz P w) k f fd ps sp/\Meth K C m f/\Binds K fd ps []
def S8 (C:Eh)(m:Str)(sp:Sp)(R:St->Hp->Eg->Prop)(ta:TE)(t:TA):TE:=fun σ H Q=>ta σ H fun x H1=>∃a dx fs,x=.ref a/\H1 a=some (.ins C dx fs)/\fs.lookup m=none /\
 t σ H1 fun vs H2=>sp (x::vs) H2 Q (fun cls _ H'=>R σ H' cls)
section
variable {X:Cx}{C:Eh}{k:Nat}{m:Str}{ps:Da}{sp:Sp}{o e:EF}{es:List EF}{ta:TE}{t:TA}{Ds pos:Pos}{R:St->Hp->Eg->Prop}
theorem X3 {pl:Sem Bool}(he:PE X o ta)(c:Cls X.K C)(M:Met X.prog X.w X.K X.mg X.base C k m ps sp)(hr:Room k X.A)(ha:PA X (e::es) t)
  (hst:Ev (e::es) X.env=(false,E1 e X.env)::Ev es X.env:=by rfl) (hpl:(E8 pos (Ev es X.env)).any (·.1)=false:=by rfl)
  (ht:E1 (.Call (.Attribute o m Ds) (e::es) [] pos) X.env=(do
   let ov ←E1 o X.env
   standAt Ds.atName
   let (f,first) ←L8 [ov] (Mn ov m pl)
   callWith pos f first (E8 pos (Ev (e::es) X.env)) (Mc pos (LD [] X.env))):=by rfl) :
  PE X (.Call (.Attribute o m Ds) (e::es) [] pos) (MD C m sp [] E0 ta t):=by
 obtain⟨f,fd,F,hm,hb⟩:=M.ex;exact Ro (pl:=pl) he c hm F hr hb .nil KZ ha hst hpl ht
theorem Fz {pl:Sem Bool}(he:PE X o ta)(c:Cls X.K C)(M:Met X.prog X.w X.K X.mg X.base C k m ps sp)(hr:Room k X.A)
  (ht:E1 (.Call (.Attribute o m Ds) [] [] pos) X.env=(do
   let ov ←E1 o X.env
   standAt Ds.atName
   let (f,first) ←L8 [ov] (Mn ov m pl)
   callWith pos f first (E8 pos (Ev [] X.env)) (Mc pos (LD [] X.env))):=by rfl) :
  PE X (.Call (.Attribute o m Ds) [] [] pos) (MD C m sp [] E0 ta Nu):=by
 obtain⟨f,fd,F,hm,hb⟩:=M.ex;exact OQ (pl:=pl) he c hm F hr hb .nil KZ ht
theorem y9 {pl:Sem Bool}(he:PE X o ta)(c:Cls X.K C)(M:MetX X.prog X.w X.K X.mg X.base C k m ps sp)(hr:Room k X.A)(hx:Raises X R)(ha:PA X (e::es) t)
  (hst:Ev (e::es) X.env=(false,E1 e X.env)::Ev es X.env:=by rfl) (hpl:(E8 pos (Ev es X.env)).any (·.1)=false:=by rfl)
  (ht:E1 (.Call (.Attribute o m Ds) (e::es) [] pos) X.env=(do
   let ov ←E1 o X.env
   standAt Ds.atName
   let (f,first) ←L8 [ov] (Mn ov m pl)
   callWith pos f first (E8 pos (Ev (e::es) X.env)) (Mc pos (LD [] X.env))):=by rfl) :
  PE X (.Call (.Attribute o m Ds) (e::es) [] pos) (S8 C m sp R ta t):=by
 obtain⟨f,fd,F,hm,hb⟩:=M.ex;intro Dp s σ H Q I h;refine Vp (pl:=pl) (Ci (he Dp s σ H _ I h) fun u s1 ⟨x,H1,I1,rx,a,dx,fs,ex,ea,l,q⟩=>?_) ht;subst ex;obtain rfl:u=Eu a:=rx;refine uG I1 ea c hm l ?_;refine Jz (first:=[.ref a]) (h₀:=X.base) I.ok.mod.kin hm.kp (Ci (ha pos Dp s1 σ H1 _ I1 q) fun us s2 ⟨vs,H2,I2,r,q2⟩=>⟨I2.kIn,?_⟩) hst hpl;exact K8 (us:=.ref a::us) (vs:=.ref a::vs) F hr hb hx I2 (.cons rfl r) q2
end
structure Mak (P:Ei)(w:Em)(K:Cd)(mg:Str->Dc)(base:Ez)(C:Eh)(k:Nat)(x:Str)(ps:Da)(sp:Sp):Prop where
 ex:∃(f:Eh) (fd:El),FnOk P w K mg base Cm k f fd ps sp/\Mk K C f/\Binds K fd ps []/\mg x=some (.ref C)
theorem Rm {X:Cx}{e:EF}{es:List EF}{p pos:Pos}(M:Mak X.prog X.w X.K X.mg X.base C k x ps sp)(hr:Room (k+1) X.A)(ha:PA X (e::es) t)(hg:Gl X x:=by rfl)
  (hdb:(x==("__debug__":Str))=false:=by decide) (he:Ev (e::es) X.env=(false,E1 e X.env)::Ev es X.env:=by rfl) (hpl:(E8 pos (Ev es X.env)).any (·.1)=false:=by rfl) :
  PE X (.Call (.Name x p) (e::es) [] pos) (R6 C sp [] E0 t):=by
 obtain⟨f,fd,F,hm,hb,hx⟩:=M.ex;exact Rn hm F hr hg hx hb .nil KZ ha hdb he hpl
theorem BM (x:Str)(i j:Nat):An.cs (Lf x i j)=((An.cs x).take j).drop i:=by
 show(x.cps.extract i j).toList=_;rw[Array.toList_extract,List.extract_eq_drop_take,List.drop_take]
theorem XI (x:Str)(c i:Nat)(t u:Tok)(r:List Nat)(ho:EX x ⟨#[c]⟩ 0 x.length 1=i::r)(hz:x.length<=100000):Meets (Builtin.«str.partition» ⟨[.str x t,.str ⟨#[c]⟩ u],[]⟩)
  (fun _ R s=>R (.ok (.ret (.ref s.heap.objs.size))) { s with heap:=s.heap.push { cls:=.type "tuple",data:=.seq #[.str (Lf x 0 i) s.toks,.str ⟨#[c]⟩ u,.str (Lf x (i+1) x.length) (s.toks+1)] },toks:=s.toks+1+1 }) :=
 .of_wp fun prog w A R s h=>by
  obtain⟨raising,e⟩:=partition_tree x ⟨#[c]⟩ t u;rw[e,ZA (show¬((⟨#[c]⟩:Str).length==0)=true from(by show¬(1==0)=true;decide)),ho];have z1:(Lf x 0 i).length<=sizeLine:=by
   rw[An.length_cs,BM,YH,ZD];refine An.le_line ?_;rw[←An.length_cs];omega
  have z2:(Lf x (i+(⟨#[c]⟩:Str).length) x.length).length<=sizeLine:=by
   rw[An.length_cs,BM,YH,ZD];refine An.le_line ?_;rw[←An.length_cs];omega
  refine Q9 (wpAny_mkStr ?_ z1);refine Q9 (wpAny_mkStr ?_ z2);refine Q9 (wpAny_newTuple ?_ (by show 3<=sizeLine;decide));exact Zg ⟨_,rfl,h⟩
section
variable {X:Cx}
def RW:V->Dj->Hp->VK->Prop:=fun x vs H Q=>∃(u v:Str) (c:Nat),x=.str (u++⟨#[c]⟩++v)/\vs=[.str ⟨#[c]⟩]/\c∉An.cs u/\(u++⟨#[c]⟩++v).length<=100000/\∀p,H p=none->Q (.ref p) (upd H p (.tup [.str u,.str ⟨#[c]⟩,.str v]))
theorem uR:RP X "str.partition" RW:=by
 intro Dp s σ H x xs v us Q I rx rs h;obtain⟨a,b,c,rfl,rfl,hc,hz,q⟩:=h;obtain⟨t,rfl⟩:=rx;obtain⟨w,rfl,t',rfl⟩:=vals1 rs;have ecs:An.cs (a++⟨#[c]⟩++b)=An.cs a++c::An.cs b:=by
  rw[An.cs_append,An.cs_append];show An.cs a++[c]++An.cs b=_;simp
 have hat:(An.cs (a++⟨#[c]⟩++b))[(An.cs a).length]?=some c:=by rw[ecs];simp
 have hi:∃r,EX (a++⟨#[c]⟩++b) ⟨#[c]⟩ 0 (a++⟨#[c]⟩++b).length 1=(An.cs a).length::r:=by
  rcases StrLaws.occ_head_from (a++⟨#[c]⟩++b) ⟨#[c]⟩ 0 1 (Ze 1) with⟨h0,hn⟩|⟨k,r,h0,hlo,hk,hn⟩
  ·exact absurd ((L4 _ c _).mpr hat) (hn _ (ZT _))
  ·have hm:=(L4 _ c k).mp hk;have hm:(An.cs (a++⟨#[c]⟩++b))[k]?=some c:=hm
   rcases Vj k (An.cs a).length with z|z|z
   ·rw[ecs,ZR z]at hm;exact absurd (Zm hm) hc
   ·exact⟨r,by rw[h0,z]⟩
   ·exact absurd ((L4 _ c _).mpr hat) (hn _ (ZT _) z)
 obtain⟨r,hi⟩:=hi;refine Vw F.slot_str_partition (J5 s _ t) F.entry_str_partition (F.args_str_partition_2 _ _) (XI _ c _ t t' r hi hz) ?_;have e1:Lf (a++⟨#[c]⟩++b) 0 (An.cs a).length=a:=An.cs_inj (by rw[BM,ecs,List.drop_zero,List.take_left]);have e2:Lf (a++⟨#[c]⟩++b) ((An.cs a).length+1) (a++⟨#[c]⟩++b).length=b:=An.cs_inj (by
  rw[BM,An.length_cs,ZJ,ecs];rw[show An.cs a++c::An.cs b=(An.cs a++[c])++An.cs b by simp];rw[show(An.cs a).length+1=(An.cs a++[c]).length by simp];exact List.drop_left)
 rw[e1,e2];have hn:H s.heap.objs.size=none:=I.hok.fresh (Ze _);refine⟨.ref s.heap.objs.size,_,I.laid (t':=s.toks+1+1) (a:=s.heap.objs.size) (o:=.tup [.str a,.str ⟨#[c]⟩,.str b]) (fun _ _ q=>Zd _ q) (Ze _) ?_,rfl,q _ hn⟩;exact⟨by show 3<=sizeLine;decide,_,.cons ⟨_,rfl⟩ (.cons ⟨_,rfl⟩ (.cons ⟨_,rfl⟩ .nil)),⟨_,Zo _ rfl,rfl,_,rfl,rfl⟩⟩
def UD (n:Nat):Str:=EQ (LQ ((n:Nat):Int))
theorem MO:CallR X (.type "int") (fun xs H Q=>∃n:Nat,xs=[.str (UD n)]/\n<10000000000/\Q (.int n) H):=by
 intro Dp s σ H xs us Q I r h;obtain⟨n,rfl,hn,q⟩:=h;obtain⟨u,rfl,t,rfl⟩:=vals1 r;exact PySem.W.KIN.call_num (by omega) (by omega) ⟨.int n,H,I.tok _,⟨_,rfl⟩,q⟩
def tF3 (t1:TE)(y:Str)(t2:TE):TE:=fun σ H Q=>t1 σ H fun v H1=>∃x:Str,v=.str x/\x.length<=100000/\y.length<=1000/\t2 σ H1 fun u H2=>∃n:Nat,u=.int n/\n<1000000/\Q (.str (x++y++UD n)) H2
theorem T6 {y:Str}{k:Nat}{p1 p2 p3 pos:Pos}(h1:PE X e1 t1)(h2:PE X e2 t2):PE X (.JoinedStr [.FormattedValue e1 (-1) none p1,.Constant (.str y) k p2,.FormattedValue e2 (-1) none p3] pos) (tF3 t1 y t2):=by
 intro Dp s σ H Q I h;refine JoinedStr_many (joinParts_cons (FormattedValue_plain (Ci (h1 Dp s σ H _ I h) fun v s1 ⟨x1,H1,I1,r1,x,ex,xl,yl,q1⟩=>?_)));subst ex;obtain⟨t,rfl⟩:=r1;refine formatField_str (fun t' tk=>⟨?_,?_⟩) (An.le_line (by omega))
 ·show(L7++x).length<=sizeLine;rw[An.len_append];exact An.le_line (by show 0+x.length<=_;omega)
 refine joinParts_cons (Ci ((pe_str:PE X (.Constant (.str y) k p2) _) Dp _ σ H1 (fun v H'=>v=.str y/\H'=H1) (I1.tok tk) ⟨rfl,rfl⟩) fun v2 s2 ⟨x2,H2,I2,r2,e2,eH⟩=>?_);subst e2 eH;obtain⟨t2',rfl⟩:=r2;refine⟨?_,?_⟩
 ·show(L7++x++y).length<=sizeLine;rw[An.len_append,An.len_append];exact An.le_line (by show 0+x.length+y.length<=_;omega)
 refine joinParts_cons (FormattedValue_plain (Ci (h2 Dp s2 σ H2 _ I2 q1) fun v3 s3 ⟨x3,H3,I3,r3,n,en,nl,q3⟩=>?_));subst en;obtain⟨t3,rfl⟩:=r3;have hlog:((n:Int)).natAbs.log2<1920:=by
  rw[VQ]
  rcases Je n with z|z
  ·subst z;decide
  ·have:n.log2<20:=(Nat.log2_lt (by omega)).mpr (by omega);omega
 have hz:(L7++x++y++UD n).length<=sizeLine:=by
  rw[An.len_append,An.len_append,An.len_append];have:=Vz hlog;exact An.le_line (by show 0+x.length+y.length+(UD n).length<=_;have e:(UD n).length<=1921:=this;omega)
 refine formatField_int_small hlog ⟨hz,joinParts_nil ⟨.str _,H3,I3.tok _,⟨_,rfl⟩,?_⟩ hz⟩;have e:L7++x++y++(EQ (LQ (n:Int)))=x++y++UD n:=An.cs_inj (by
  rw[An.cs_append,An.cs_append,An.cs_append,An.cs_append,An.cs_append];rfl)
 rwa[e]
theorem IA:∀{Dm:Dl} {vs:List (Key×Eg)} {us:Db},KV Dm vs->us.length=vs.length->(∀(j:Nat) (v:Eg),us[j]?=some v->∃k x,vs[j]?=some (k,x)/\(mixKind P w).is k v=true)->Vals (Dm.map fun kv=>kV kv.1) us
 |[],_,[],.nil,_,_=>.nil
 |[],_,_::_,.nil,hl,_=>by cases hl
 |_::_,_,[],.cons _ _,hl,_=>by cases hl
 |p::_,q::_,u::us,.cons r1 r2,hl,hm=>by
  obtain⟨k,x,e,hk⟩:=hm 0 u rfl;have e:q=(k,x):=by simpa using e
  have e1:p.1=k:=by rw[show p.1=q.1 from r1.1,e]
  refine .cons (by
   show RelV (kV p.1) u;rw[e1];cases k with
   |inl i =>
    have hk:Mb i u=true:=hk;cases u<;>simp[Mb]at hk;subst hk;exact⟨_,rfl⟩
   |inr z =>
    obtain⟨t,rfl⟩:=YO (show E4 z u=true from hk);exact⟨t,rfl⟩) (IA (P:=P) (w:=w) r2 (by simpa using hl) fun j v hj=>?_)
  obtain⟨k2,x2,q1,q2⟩:=hm (j+1) v (by simpa using hj);exact⟨k2,x2,by simpa using q1,q2⟩
theorem Hf (hc:X.calm=true):CallR X (.type "list") (fun xs H Q=>∃a Dm,xs=[.ref a]/\H a=some (.dK Dm)/\∀l,H l=none->Q (.ref l) (upd H l (.lst (Dm.map fun kv=>kV kv.1)))):=by
 intro Dp s σ H xs us Q I r h;obtain⟨a,Dm,rfl,ha,q⟩:=h;obtain⟨u,rfl,ru⟩:=vals1 r;cases ru;obtain⟨hz,hS,vs,rel,o,es,ep,ho,hx,hd,hk,hp,hnd⟩:Dm.length<=sizeLine/\(a==EM)=false/\∃vs,KV Dm vs/\s.heap.DictOf (mixKind X.prog X.w) a vs:=I.hok a _ ha;have da:s.heap.DictAt (mixKind X.prog X.w) a vs ep:=⟨o,es,ho,hx,hd,hk,hp,hnd⟩;have Dq:Dm.length=vs.length:=Paired.length rel;refine PySem.W.kdl_call (V6 (knd:=mixKind X.prog X.w) (kvs:=vs) (ep:=ep) hS) (I.ok.hd hc) da (by omega) fun h' tk acc c hkp hl DU=>?_;have rv:Vals (Dm.map fun kv=>kV kv.1) acc.toList:=IA rel (by rw[ZH];exact DU.1) fun j v e=>DU.2 j v (by rwa[←Yh]);exact⟨.ref s.heap.objs.size,_,I.laid (t':=tk) hkp (Ze _) (show ObjOk X.prog X.w _ h' _ (.lst (Dm.map fun kv=>kV kv.1)) from⟨by rw[Q7];exact hz,acc.toList,c,rv,hl⟩),rfl,q _ (I.hok.fresh (Ze _))⟩
end
end L2
namespace An
open PySem L2
def UE (c:Nat):Bool:=decide (32<=c)&&decide (c<=126)&&decide (c≠37)
def UU (x:Str):Bool:=decide (x.length<=20)&&(cs x).all UE
def UG (c:Nat):Bool:=decide (97<=c)&&decide (c<=122)
def zN (x:Str):Bool:=decide (1<=x.length)&&decide (x.length<=8)&&(cs x).all UG
def UQ:Eo->Bool
 | .str x=>UU x
 |_=>false
def vJ:Eo->Bool
 | .tuple ds=>ds.all UQ
 |_=>false
def uV:Eo->Bool
 | .str x=>zN x
 |_=>false
def UF:Eo->Bool
 | .str _=>true
 |_=>false
def UY:Eo->Bool
 | .tuple [l,n]=>uV l&&UF n
 |_=>false
mutual
def small:Eo->Bool
 | .str x=>decide (x.length<=1000)
 | .list ds=>decide (ds.length<=1000)&&yF ds
 | .tuple ds=>decide (ds.length<=1000)&&yF ds
 |_=>true
def yF:Df->Bool
 |[]=>true
 |d::ds=>small d&&yF ds
end
theorem yN:∀{ds:Df} {i:Nat} {d:Eo},yF ds=true->ds[i]?=some d->small d=true
 |[],_,_,_,h=>by cases h
 |e::ds,0,d,h,q=>by
  have h:(small e&&yF ds)=true:=h;have q:e=d:=Option.some.inj q;rw[Zk]at h;rw[←q];exact h.1
 |e::ds,i+1,d,h,q=>by
  have h:(small e&&yF ds)=true:=h;rw[Zk]at h;exact yN h.2 (by simpa using q)
theorem xY {ds:Df}(h:small (.tuple ds)=true):ds.length<=1000/\yF ds=true:=by
 have h:(decide (ds.length<=1000)&&yF ds)=true:=h;rw[Zk]at h;exact⟨Zx h.1,h.2⟩
theorem Ot (a c:Nat):[a]<[c]↔a<c:=by
 rw[Yw];constructor
 ·rintro(h|⟨_,h⟩)
  ·exact h
  ·exact absurd h (by simp)
 ·exact .inl
theorem B0 {p q:Prop} [Decidable p] [Decidable q](h:¬p↔q):(!decide p)=decide q:=by
 by_cases hp:p
 ·rw[Zf hp,Zr (fun z=>h.mpr z hp)];rfl
 ·rw[Zr hp,Zf (h.mp hp)];rfl
theorem Om (c a:Nat)(x:Str)(hx:x.cps.toList=[a]):(!decide ((⟨#[c]⟩:Str).cps.toList<x.cps.toList))=decide (a<=c):=by
 rw[hx];exact B0 (by show¬[c]<[a]↔_;rw[Ot];omega)
theorem one_le (c a:Nat)(x:Str)(hx:x.cps.toList=[a]):(!decide (x.cps.toList<(⟨#[c]⟩:Str).cps.toList))=decide (c<=a):=by
 rw[hx];exact B0 (by show¬[a]<[c]↔_;rw[Ot];omega)
def Pp:Sp:=fun vs H Q _=>∃c:Nat,vs=[.str ⟨#[c]⟩]/\Q (.bl (UE c)) H
def Kb (K:Cd):Sp:=fun vs H Q _=>∃(d:Eo) (v:V),vs=[v]/\Dw K H d v/\small d=true/\∀H',Same H H'->Q (.bl (UQ d)) H'
def XZ (K:Cd):Sp:=fun vs H Q _=>∃(d:Eo) (v:V),vs=[v]/\Dw K H d v/\small d=true/\∀H',Same H H'->Q (.bl (vJ d)) H'
def B6 (K:Cd):Sp:=fun vs H Q _=>∃(d:Eo) (v:V),vs=[v]/\Dw K H d v/\small d=true/\∀H',Same H H'->Q (.bl (uV d)) H'
def R3 (K:Cd):Sp:=fun vs H Q _=>∃(d:Eo) (v:V),vs=[v]/\Dw K H d v/\small d=true/\∀H',Same H H'->Q (.bl (UY d)) H'
theorem yW {α:Type}{l:List α}{f:α->Bool}{i:Nat}{c:α}(h:l[i]?=some c):(l.take (i+1)).map f=(l.take i).map f++[f c]:=by
 rw[Yx,h,Zl];rfl
theorem NT {x:Str}{i c:Nat}(h:x.cps[i]?=some c):(cs x)[i]?=some c:=by rw[←h];simp
theorem all_map (l:List α)(f:α->Bool):(l.map f).all id=l.all f:=by
 rw[List.all_map];rfl
end An
namespace L2
open PySem PySem.Spec PyProof.Rows
end L2
namespace An
open PySem L2
mutual
def vM:Eo->Bool
 | .list _=>false
 | .dict _=>false
 | .tuple ds=>yK ds
 |_=>true
def yK:Df->Bool
 |[]=>true
 |d::ds=>vM d&&yK ds
end
mutual
def k7:Eo->Bool
 | .dict _=>false
 | .list ds=>xA ds
 | .tuple ds=>xA ds
 |_=>true
def xA:Df->Bool
 |[]=>true
 |d::ds=>k7 d&&xA ds
end
mutual
theorem Dw.dt {K:Cd}:∀(d:Eo) (v:V),k7 d=true->Dw K H d v->Dt K H d v
 | .none,_,_,h=>h
 | .bool _,_,_,h=>h
 | .int _,_,_,h=>h
 | .str _,_,_,h=>h
 | .list ds,_,t,⟨a,xs,h1,h2,h3⟩=>⟨a,xs,h1,h2,DwAll.dt ds xs t h3⟩
 | .tuple ds,_,t,⟨a,xs,h1,h2,h3⟩=>⟨a,xs,h1,h2,DwAll.dt ds xs t h3⟩
 | .dict _,_,t,_=>by cases t
theorem DwAll.dt {K:Cd}:∀(ds:Df) (xs:Dj),xA ds=true->DwAll K H ds xs->DtAll K H ds xs
 |[],_,_,h=>h
 |d::ds,_,t,⟨x,r,h1,h2,h3⟩=>by
  have t:(k7 d&&xA ds)=true:=t;rw[Zk]at t;exact⟨x,r,h1,Dw.dt d x t.1 h2,DwAll.dt ds r t.2 h3⟩
end
theorem q9:∀ls:Da,yK (ls.map .str)=true
 |[]=>rfl
 |l::ls=>by
  show(true&&yK (ls.map .str))=true;rw[q9 ls];rfl
mutual
theorem XA:∀d:Eo,vM d=true->k7 d=true
 | .none,_=>rfl
 | .bool _,_=>rfl
 | .int _,_=>rfl
 | .str _,_=>rfl
 | .list _,t=>by cases t
 | .tuple ds,t=>uL ds t
 | .dict _,t=>by cases t
theorem uL:∀ds:Df,yK ds=true->xA ds=true
 |[],_=>rfl
 |d::ds,t=>by
  have t:(vM d&&yK ds)=true:=t;rw[Zk]at t;show(k7 d&&xA ds)=true;rw[XA d t.1,uL ds t.2];rfl
end
end An
namespace An
open PySem L2
structure En where
 h:Str
 n:Nat
 d:Eo
abbrev Di:=List En
def dot:Str:=⟨#[46]⟩
theorem NZ:(".":Str)=dot:=by decide +kernel
def En.nm (e:En):Str:=e.h++dot++UD e.n
def nextOf (S:Di)(h:Str):Option Nat:=S.foldl (fun acc e=>if e.h=h then some (max (acc.getD 0) (e.n+1)) else acc) none
theorem XG (S:Di)(e:En)(h:Str):nextOf (S++[e]) h=if e.h=h then some (max ((nextOf S h).getD 0) (e.n+1)) else nextOf S h:=by
 unfold nextOf;rw[YL];rfl
structure GoodE (e:En):Prop where
 key:Xh e.d
 free:46∉cs e.h
 num:e.n<1000000
 hl:e.h.length<=100
structure GoodS (S:Di):Prop where
 ent:∀e∈S,GoodE e
 nd:(S.map (·.d)).Nodup
 nn:(S.map En.nm).Nodup
 len:S.length<=2000
theorem GoodS.nil:GoodS []:=⟨fun _ h=>(nomatch h),Yy,Yy,ZT _⟩
theorem GoodS.snoc (g:GoodS S)(h:GoodE e)(h1:e.d∉S.map (·.d))(h2:e.nm∉S.map En.nm)(h3:S.length<2000):GoodS (S++[e]) :=
 ⟨vC g.ent h,by rw[Zl];exact kA g.nd h1,by rw[Zl];exact kA g.nn h2,by rw[Zj,YV];omega⟩
def Off (fp:Dd)(H H':Hp):Prop:=∀b o,b∉fp->H b=some o->H' b=some o
theorem Off.refl (fp:Dd)(H:Hp):Off fp H H:=fun _ _ _ h=>h
theorem Off.trans (a:Off fp H H1)(b:Off fp H1 H2):Off fp H H2:=fun c o n h=>b c o n (a c o n h)
theorem Off.of (s:Same H H'):Off fp H H':=fun b o _ h=>s b o h
theorem Off.mono {fp':Dd}(h:Off fp H H')(s:∀b∈fp,b∈fp'):Off fp' H H':=fun b o n e=>h b o (fun z=>n (s b z)) e
theorem Off.upd {a:Eh}{o:HO}(h:Off fp H H')(m:a∈fp):Off fp H (L2.upd H' a o):=fun b u n e=>by
 have ne:b≠a:=fun z=>n (by rwa[z]);rw[zH ne];exact h b u n e
def N4 (d1 d2 d3:Eh):List (Str×V):=[("thing_by_name",.ref d1),("name_by_thing",.ref d2),("next_numbers",.ref d3)]
def NoSeq (H:Hp)(fp:Dd):Prop:=∀b∈fp,∃o,H b=some o/\(∀xs,o≠.tup xs)/\(∀xs,o≠.lst xs)/\∀u v,o≠.frz u v
structure ShAt (P:Ei)(w:Em)(K:Cd)(C:Eh)(H:Hp)(a:Eh)(fp:Dd)(S:Di):Prop where
 good:GoodS S
 at_:∃(dx d1 d2 d3:Eh) (ts:Dd) (nx:Dl),fp=[a,dx,d1,d2,d3]/\(fp).Nodup/\H a=some (.ins C dx (N4 d1 d2 d3))/\H dx=some (.own a)/\ts.length=S.length /\
  H d1=some (.dK ((S.zip ts).map fun e=>((Er e.1.nm:Key),V.ref e.2)))/\ThD P w K H d2 (S.map fun e=>(e.d,V.str e.nm)) /\
  H d3=some (.dK nx)/\nx.length<=S.length/\(∀h,Ur nx (Er h:Key)=(nextOf S h).map fun n:Nat=>V.int (n:Int)) /\
  ∀(i:Nat) (e:En) (t:Eh),S[i]?=some e->ts[i]?=some t->Dt K H e.d (.ref t)
theorem IS {H:Hp}{b:Eh}{o:HO}(h:H b=some o)(h1:∀xs,o≠.tup xs)(h2:∀u v,o≠.frz u v):∀xs,¬Rd H b (.tup xs):=fun xs z=>by
 rcases z with z|⟨u,z⟩
 ·rw[h]at z;exact h1 xs (Option.some.inj z)
 ·rw[h]at z;exact h2 u _ (Option.some.inj z)
mutual
theorem Dt.off {K:Cd}{fp:Dd}(n:∀b∈fp,∀xs,¬Rd H b (.tup xs))(o:Off fp H H'):∀(k:Eo) (v:V),UJ k=true->Dt K H k v->Dt K H' k v
 | .str x,_,_,h=>h
 | .tuple ds,_,t,⟨a,xs,h1,h2,h3⟩=>by
  refine⟨a,xs,h1,?_,DtAll.off n o ds xs t h3⟩
  rcases h2 with h2|h2
  ·have ne:a∉fp:=fun z=>n a z xs h2
   rcases h2 with h2|⟨u,h2⟩
   ·exact .inl (.inl (o a _ ne h2))
   ·exact .inl (.inr ⟨u,o a _ ne h2⟩)
  ·exact .inr h2
 | .none,_,t,_=>by cases t
 | .bool _,_,t,_=>by cases t
 | .int _,_,t,_=>by cases t
 | .list _,_,t,_=>by cases t
 | .dict _,_,t,_=>by cases t
theorem DtAll.off {K:Cd}{fp:Dd}(n:∀b∈fp,∀xs,¬Rd H b (.tup xs))(o:Off fp H H'):∀(ks:Df) (vs:Dj),y6 ks=true->DtAll K H ks vs->DtAll K H' ks vs
 |[],_,_,h=>h
 |k::ks,_,t,⟨x,r,h1,h2,h3⟩=>by
  have t:(UJ k&&y6 ks)=true:=t;rw[Zk]at t;exact⟨x,r,h1,Dt.off n o k x t.1 h2,DtAll.off n o ks r t.2 h3⟩
end
theorem ThD.off {K:Cd}{fp:Dd}{d:Eh}(n:∀b∈fp,∀xs,¬Rd H b (.tup xs))(o:Off fp H H')(e:H' d=H d)(T:ThD P w K H d ps):ThD P w K H' d ps:=by
 obtain⟨hl,hk,nd,xs,e1,r⟩:=T;refine⟨hl,hk,nd,xs,by rw[e];exact e1,?_⟩;have key:∀{ps:List (Eo×V)} {xs:List (Eo×Eh×Eg)},(∀p∈ps,Xh p.1)->Lj (TRel K H) ps xs->Lj (TRel K H') ps xs:=by
  intro ps xs hkk r
  induction r with
  |nil=>exact .nil
  |cons r1 _ ih=>exact .cons ⟨r1.1,Dt.off n o _ _ (hkk _ Zc).1 r1.2.1,r1.2.2⟩ (ih fun p hp=>hkk p (Za _ hp))
 exact key hk r
theorem ShAt.off {K:Cd}{fp gp:Dd}(n:∀b∈gp,∀xs,¬Rd H b (.tup xs))(o:Off gp H H')(dj:∀b∈fp,b∉gp)(h:ShAt P w K C H a fp S):ShAt P w K C H' a fp S:=by
 obtain⟨g,dx,d1,d2,d3,ts,nx,rfl,nd,h1,h2,h3,h4,h5,h6,h7,h8,h9⟩:=h;have k:∀b u,b∈[a,dx,d1,d2,d3]->H b=some u->H' b=some u:=fun b u m e=>o b u (dj b m) e;obtain⟨xs,e5,_⟩:=h5.2.2.2;refine⟨g,dx,d1,d2,d3,ts,nx,rfl,nd,k _ _ (by simp) h1,k _ _ (by simp) h2,h3,k _ _ (by simp) h4,ThD.off n o ?_ h5,k _ _ (by simp) h6,h7,h8,fun i e t q1 q2=>Dt.off n o _ _ (g.ent e (Zm q1)).key.1 (h9 i e t q1 q2)⟩;rw[e5];exact k _ _ (by simp) e5
theorem ShAt.same {K:Cd}(s:Same H H')(h:ShAt P w K C H a fp S):ShAt P w K C H' a fp S :=
 h.off (gp:=[]) (fun b m=>(nomatch m)) (Off.of s) (fun b _=>by simp)
theorem ShAt.noseq {K:Cd}(h:ShAt P w K C H a fp S):NoSeq H fp:=by
 obtain⟨g,dx,d1,d2,d3,ts,nx,rfl,nd,h1,h2,h3,h4,h5,h6,h7,h8,h9⟩:=h;obtain⟨xs,e5,_⟩:=h5.2.2.2;intro b m;simp only[Zi,Yd,VR]at m
 rcases m with rfl|rfl|rfl|rfl|rfl
 ·exact⟨_,h1,fun _ z=>(nomatch z),fun _ z=>(nomatch z),fun _ _ z=>(nomatch z)⟩
 ·exact⟨_,h2,fun _ z=>(nomatch z),fun _ z=>(nomatch z),fun _ _ z=>(nomatch z)⟩
 ·exact⟨_,h4,fun _ z=>(nomatch z),fun _ z=>(nomatch z),fun _ _ z=>(nomatch z)⟩
 ·exact⟨_,e5,fun _ z=>(nomatch z),fun _ z=>(nomatch z),fun _ _ z=>(nomatch z)⟩
 ·exact⟨_,h6,fun _ z=>(nomatch z),fun _ z=>(nomatch z),fun _ _ z=>(nomatch z)⟩
theorem NoSeq.tup (h:NoSeq H fp):∀b∈fp,∀xs,¬Rd H b (.tup xs):=fun b m xs=>by
 obtain⟨o,e,n1,_,n2⟩:=h b m;exact IS e n1 n2 xs
theorem qQ {κ:Type} [DecidableEq κ]{Dm:List (κ×V)}{k:κ}{v:V}(h:k∉Dm.map (·.1)):putK Dm k v=Dm++[(k,v)]:=by
 unfold putK;rw[ZA];intro z;obtain⟨kv,hm,e⟩:=ZY.mp z;exact h (Zb.mpr ⟨kv,hm,Zx e⟩)
theorem jN {κ:Type} [DecidableEq κ]:∀{Dm:List (κ×V)} {k:κ} {v:V},(Dm.map (·.1)).Nodup->(k,v)∈Dm->Ur Dm k=some v
 |[],_,_,_,h=>(nomatch h)
 |p::r,k,v,nd,h=>by
  rw[ZC,Z8]at nd;unfold Ur;rw[YS]
  rcases Zi.mp h with e|h
  ·subst e;rw[Zf (show((k,v):κ×V).1=k from rfl)];rfl
  ·rw[Zr (show¬p.1=k from fun z=>nd.1 (Zb.mpr ⟨(k,v),h,z.symm⟩))];exact jN nd.2 h
theorem RV (e:En):cs e.nm=cs e.h++46::cs (UD e.n):=by
 unfold En.nm;rw[cs_append,cs_append];show cs e.h++[46]++cs (UD e.n)=_;simp
theorem OF (h:UD m=UD n):m=n:=by
 have h0:cs (UD m)=cs (UD n):=by rw[h]
 have h1:=Vq m;have h2:=Vq n;have h3:=PySem.W.KIN.val_back m;have h4:=PySem.W.KIN.val_back n;rw[←h1]at h3;rw[←h2]at h4;have h0:(EQ (LQ ((m:Nat):Int))).cps.toList=(EQ (LQ ((n:Nat):Int))).cps.toList:=h0;rw[h0]at h3;exact h3.symm.trans h4
theorem MC:∀{a b r s:List Nat},¬(46∈a)->¬(46∈b)->a++46::r=b++46::s->a=b/\r=s
 |[],[],r,s,_,_,h=>⟨rfl,by injection h⟩
 |[],y::b,r,s,_,hb,h=>by
  injection h with h1 h2;exact absurd (by rw[←h1];exact Zc) hb
 |x::a,[],r,s,ha,_,h=>by
  injection h with h1 h2;exact absurd (by rw[h1];exact Zc) ha
 |x::a,y::b,r,s,ha,hb,h=>by
  injection h with h1 h2;obtain⟨e1,e2⟩:=MC (fun z=>ha (Za _ z)) (fun z=>hb (Za _ z)) h2;exact⟨by rw[h1,e1],e2⟩
theorem SE {e f:En}(he:46∉cs e.h)(hf:46∉cs f.h)(h:e.nm=f.nm):e.h=f.h/\e.n=f.n:=by
 have:=congrArg cs h;rw[RV,RV]at this;obtain⟨h1,h2⟩:=MC he hf this;exact⟨cs_inj h1,OF (cs_inj h2)⟩
theorem Ra:∀{S:Di} {e:En},e∈S->e.n<(nextOf S e.h).getD 0:=by
 have key:∀(S:Di) (acc:Option Nat) (h:Str),acc.getD 0<=(S.foldl (fun acc e=>if e.h=h then some (max (acc.getD 0) (e.n+1)) else acc) acc).getD 0/\∀e∈S,e.h=h->e.n<(S.foldl (fun acc e=>if e.h=h then some (max (acc.getD 0) (e.n+1)) else acc) acc).getD 0:=by
  intro S
  induction S with
  |nil=>intro acc h;exact⟨Ze _,fun e he=>(nomatch he)⟩
  |cons f S ih =>
   intro acc h;rw[JF];obtain⟨i1,i2⟩:=ih (if f.h=h then some (max (acc.getD 0) (f.n+1)) else acc) h;have mono:acc.getD 0<=(if f.h=h then some (max (acc.getD 0) (f.n+1)) else acc).getD 0:=by
    split
    ·exact Nat.le_max_left _ _
    ·exact Ze _
   refine⟨Z5 mono i1,fun e he eh=>?_⟩
   rcases Zi.mp he with rfl|he
   ·rw[Zy eh]at i1 ⊢;have:e.n+1<=(some (max (acc.getD 0) (e.n+1))).getD 0:=Nat.le_max_right _ _;omega
   ·exact i2 e he eh
 intro S e he;exact(key S none e.h).2 e he rfl
theorem OC (g:GoodS S){h:Str}{d:Eo}(hf:46∉cs h):(En.mk h ((nextOf S h).getD 0) d).nm∉S.map En.nm:=fun z=>by
 obtain⟨e,he,q⟩:=Zb.mp z;obtain⟨h1,h2⟩:=SE (g.ent e he).free hf q;have:=Ra he;have h1:e.h=h:=h1;have h2:e.n=(nextOf S h).getD 0:=h2;rw[h1]at this;omega
end An
namespace An
open PySem L2
def dig (n:Nat):Str:=EQ (LQ ((n:Nat):Int))
def enc (p:Str):List Nat:=cs (dig p.length)++58::cs p
inductive Th where
 |leaf (ls:Da)
 |tree (Do:Dg)
 |note (t:Str) (ps:Da) (w:Str)
def z7:Dg->Da
 |[]=>[]
 |r::rs=>r.1::r.2::z7 rs
theorem jI:∀(a b:Dg),z7 (a++b)=z7 a++z7 b
 |[],_=>rfl
 |(x,y)::a,b=>by
  show x::y::z7 (a++b)=x::y::(z7 a++z7 b);rw[jI a b]
def Th.word:Th->Str
 | .leaf _=>"leaf"|.tree _=>"tree"|.note _ _ _=>"note"
def Th.letter:Th->Str
 | .leaf _=>"L"|.tree _=>"T"|.note _ _ _=>"N"
def Th.parts:Th->Da
 | .leaf ls=>ls
 | .tree Do=>z7 Do
 | .note t ps w=>[t,dig ps.length]++ps++[w]
def counted (p:Str):Str:=dig p.length++":"++p
def more (x p:Str):Str:=x++dig p.length++":"++p
def Th.sp (t:Th):Str:=t.parts.foldl more t.letter
theorem CK:cs (":":Str)=[58]:=by decide +kernel
theorem Hj (p:Str):cs (counted p)=enc p:=by
 unfold counted enc;rw[cs_append,cs_append,CK];simp
theorem PP (x p:Str):cs (more x p)=cs x++enc p:=by
 unfold more enc;rw[cs_append,cs_append,cs_append,CK];simp
theorem CL:∀(ps:Da) (x:Str),cs (ps.foldl more x)=cs x++ps.flatMap enc
 |[],x=>by simp
 |p::ps,x=>by
  rw[JF,CL ps,PP,Ym,Z0]
theorem Tz (t:Th):cs t.sp=cs t.letter++t.parts.flatMap enc:=CL _ _
theorem Wg (t:Th):t.letter++Lq "" (t.parts.map counted)=t.sp:=by
 apply cs_inj
 rw[cs_append,Tz];have e:cs (Lq "" (t.parts.map counted))=t.parts.flatMap enc:=by
  show cs (Builtin.Str.glued "" (t.parts.map counted))=_;rw[Lb];rw[uJ,V4]
  congr 1
  funext p
  exact Hj p
 rw[e]
theorem kM (t:Th):cs t.letter=[match t with|.leaf _=>76|.tree _=>84|.note _ _ _=>78]:=by
 cases t
 ·show cs ("L":Str)=[76]
  decide +kernel
 ·show cs ("T":Str)=[84]
  decide +kernel
 ·show cs ("N":Str)=[78]
  decide +kernel
def TF (n:Int)(c:Nat):Int:=(31*n+c) % 97
def dg (x:Str):Int:=(cs x).foldl TF 0
def rowDat (r:Str×Str):PyData:=.tuple [.str r.1,.str r.2]
def Th.dat:Th->Eo
 | .leaf ls=>.tuple [.str "leaf",.tuple (ls.map .str)]
 | .tree Do=>.tuple [.str "tree",.tuple (Do.map rowDat)]
 | .note t ps w=>.tuple [.str "note",.str t,.tuple (ps.map .str),.str w]
theorem CO:∀(a b:Dg),EU (a.map rowDat) (b.map rowDat)=decide (a=b)
 |[],[]=>rfl
 |[],_::_=>rfl
 |_::_,[]=>rfl
 |(x,y)::a,(z,w)::b=>by
  show(((x==z)&&((y==w)&&true))&&EU (a.map rowDat) (b.map rowDat))=_;rw[CO a b,ZZ];simp[and_assoc]
theorem j2 {x y:Str}{xs ys:Df}(h:(x==y)=false):ER (.tuple (.str x::xs)) (.tuple (.str y::ys))=false:=by
 show((x==y)&&EU xs ys)=false;rw[h];rfl
theorem Ky (a b:Th):ER a.dat b.dat=true↔a=b:=by
 have w1:(("leaf":Str)=="tree")=false:=by decide +kernel
 have w2:(("leaf":Str)=="note")=false:=by decide +kernel
 have w3:(("tree":Str)=="leaf")=false:=by decide +kernel
 have w4:(("tree":Str)=="note")=false:=by decide +kernel
 have w5:(("note":Str)=="leaf")=false:=by decide +kernel
 have w6:(("note":Str)=="tree")=false:=by decide +kernel
 cases a with
 |leaf ls =>
  cases b with
  |leaf ms =>
   show((("leaf":Str)=="leaf")&&(EU (ls.map .str) (ms.map .str)&&true))=true↔_;rw[qJ];simp
  |tree _ =>
   exact Vk (fun z=>absurd ((j2 w1).symm.trans z) ZK) (fun z=>by cases z)
  |note _ _ _ =>
   exact Vk (fun z=>absurd ((j2 w2).symm.trans z) ZK) (fun z=>by cases z)
 |tree rs =>
  cases b with
  |leaf ms =>
   exact Vk (fun z=>absurd ((j2 w3).symm.trans z) ZK) (fun z=>by cases z)
  |tree qs =>
   show((("tree":Str)=="tree")&&(EU (rs.map rowDat) (qs.map rowDat)&&true))=true↔_;rw[CO];simp
  |note _ _ _ =>
   exact Vk (fun z=>absurd ((j2 w4).symm.trans z) ZK) (fun z=>by cases z)
 |note t ps w =>
  cases b with
  |leaf ms =>
   exact Vk (fun z=>absurd ((j2 w5).symm.trans z) ZK) (fun z=>by cases z)
  |tree qs =>
   exact Vk (fun z=>absurd ((j2 w6).symm.trans z) ZK) (fun z=>by cases z)
  |note t' ps' w' =>
   show((("note":Str)=="note")&&((t==t')&&(EU (ps.map .str) (ps'.map .str)&&((w==w')&&true))))=true↔_;rw[qJ];simp
def Th.Good (t:Th):Prop:=t.parts.length<=1000/\∀p∈t.parts,Ok 1000 p
end An
namespace L2
open PySem PySem.Spec PyProof.Rows
section
variable {X:Cx}{Dp:De}{σ:St}{H:Hp}{s:Ej}{d:Eh}{Dm:Dl}
theorem Room.units128 (r:Room k A):A.units+128<cLine:=by have:=r.un;omega
theorem Inv.freeze (I:Inv X Dp σ H s)(e:H d=some (.dK Dm)):∃ob:Obj,Inv X Dp σ (upd H d (.frz ob (.dK Dm))) s:=by
 obtain⟨hz,hS,vs,rel,o,es,ep,ho,hx,hd,hk,hp,hnd⟩:Dm.length<=sizeLine/\(d==EM)=false/\∃vs,KV Dm vs/\s.heap.DictOf (mixKind X.prog X.w) d vs:=I.hok d _ e;refine⟨o,?_⟩;have mu:Sb (H d):=by rw[e];trivial
 exact I.write (x:=d) (e:=d) (h':=s.heap) (t':=s.toks) mu (.inl rfl) (fun b u _ q=>q) ⟨o,ho⟩ ⟨ho,hz,hS,vs,rel,o,es,ep,ho,hx,hd,hk,hp,hnd⟩
theorem HS {k:Key}{u:Eg}(h:(mixKind P w).is k u=true):RelV (kV k) u:=by
 cases k with
 |inl i =>
  have h:Mb i u=true:=h;cases u<;>simp[Mb]at h;subst h;exact⟨_,rfl⟩
 |inr x =>
  obtain⟨t,rfl⟩:=YO (show E4 x u=true from h);exact⟨t,rfl⟩
theorem jE {α β:Type}{F:α->β->Prop}:∀{l₁:List α} {l₂:List β} {i:Nat} {y:β},Lj F l₁ l₂->l₂[i]?=some y->∃x,l₁[i]?=some x/\F x y
 |_,_,_,_,.nil,h=>by cases h
 |_,_,0,_,.cons r _,h=>by cases h;exact⟨_,rfl,r⟩
 |_,_,i+1,_,.cons _ t,h=>by
  obtain⟨x,h1,h2⟩:=jE (i:=i) t (by simpa using h);exact⟨x,by simpa using h1,h2⟩
theorem Ho {ob:Obj}(z:ObjOk P w H h d (.frz ob (.dK Dm))):∃vs es ep,ob.data=.dict es ep/\KV Dm vs/\h.DictAt (mixKind P w) d vs ep/\(d==EM)=false/\Dm.length<=sizeLine:=by
 obtain⟨h0,hz,hS,vs,rel,o,es',ep',ho,hx,hd',hk,hp,hnd⟩:=z;rw[h0]at ho;cases ho;exact⟨vs,es',ep',hd',rel,⟨ob,es',h0,hx,hd',hk,hp,hnd⟩,hS,hz⟩
theorem XO {ob:Obj}{es:Array LZ}{ep:Nat}(hd:ob.data=.dict es ep)(z:ObjOk P w H h d (.frz ob (.dK Dm))):∃vs,KV Dm vs/\h.DictAt (mixKind P w) d vs ep/\(d==EM)=false:=by
 obtain⟨vs,es',ep',hd',rel,da,hS,_⟩:=Ho z;rw[hd]at hd';cases hd';exact⟨vs,rel,da,hS⟩
def Tq (d:Eh)(Dm:Dl)(ob:Obj):It where
 go:=fun i H=>H d=some (.frz ob (.dK Dm))/\i<Dm.length
 yld:=fun i H x H'=>H'=H/\∃k v,Dm[i]?=some (k,v)/\x=kV k
 stop:=fun i H=>H d=some (.frz ob (.dK Dm))/\i=Dm.length
theorem Nv {K:Cd}{ob:Obj}{es:Array LZ}{ep:Nat}(hd:ob.data=.dict es ep)(it:Eh):Turn P w K tg (Tq d Dm ob) [it] it (fun i h=>h.IsKeyIter it d i Dm.length ep) where
 mem:=by simp
 obj:=fun i h st b hb=>by
  have e:b=it:=by simpa using hb
  subst e;obtain⟨o,e,c,dd⟩:=st;exact⟨o,e,fun v z=>by rw[dd]at z;cases z⟩
 keep:=fun i h h' st k=>by
  obtain⟨o,e,c⟩:=st;exact⟨o,k it (by simp) o e,c⟩
 item:=by
  intro X hP hw hK hc i Dp s σ H E I hf st hg;subst hP hw hK;obtain⟨hfr,hi⟩:=hg;obtain⟨vs,rel,da,hS⟩:=XO hd (I.hok d _ hfr);have hl:Dm.length=vs.length:=Paired.length rel;rw[hl]at st;have hx:vs[i]?=some (vs[i]'(by omega)):=Zn (by omega);obtain⟨f0,f1,f2,f3,f4,f5⟩:=hf it (by simp);refine wpAny_pyNext_dict_item (k:=(vs[i]'(by omega)).1) (v:=(vs[i]'(by omega)).2) st da hx fun key h' Eb st' sb=>?_;have I1:Inv X Dp σ H { s with heap:=h' }:=I.turned (t':=s.toks) (fun b o hb e=>(sb.2 b hb).trans e) f0 f1 f3 f4 f5;rw[←hl]at st';obtain⟨o,e,c,dd⟩:=id st';have hk:∃v,Dm[i]?=some ((vs[i]'(by omega)).1,v):=by
   obtain⟨⟨k0,v0⟩,h0,h1,_⟩:=jE rel hx;have h1:k0=_:=h1;subst h1;exact⟨v0,h0⟩
  obtain⟨v0,hk⟩:=hk;exact⟨key,rfl,KF (s:={ s with heap:=h' }) e c dd (by decide) ⟨kV (vs[i]'(by omega)).1,H,I1,HS Eb,⟨rfl,_,v0,hk,rfl⟩,st',fun b hb=>(hf b hb).1⟩⟩
 done:=by
  intro X hP hw hK hc i Dp s σ H E I hf st hg;subst hP hw hK;obtain⟨hfr,hi⟩:=hg;subst hi;obtain⟨vs,rel,da,hS⟩:=XO hd (I.hok d _ hfr);have hl:Dm.length=vs.length:=Paired.length rel;obtain⟨f0,f1,f2,f3,f4,f5⟩:=hf it (by simp);rw[hl]at st;exact wpAny_pyNext_dict_end (I.ok.hd hc) st da (Ya (by omega)) fun h' eb=>⟨rfl,I.turned (t':=s.toks) (fun b o hb e=>eb b o hb e) f0 f1 f3 f4 f5⟩
 self:=fun _ _ _ _ _ st h=>wpAny_pyIter_keyiter st h
def Wx (d:Eh)(Dm:Dl)(ob:Obj):It where
 go:=fun i H=>H d=some (.frz ob (.dK Dm))/\i<Dm.length
 yld:=fun i H x H'=>∃T k v,Dm[i]?=some (k,v)/\H T=none/\x=.ref T/\H'=upd H T (.tup [kV k,v])
 stop:=fun i H=>H d=some (.frz ob (.dK Dm))/\i=Dm.length
theorem Kg {P:Ei}{w:Em}{K:Cd}{elts:List EF} {x1}{tpos:Pos}{ob:Obj}{es:Array LZ}{ep:Nat}(hd:ob.data=.dict es ep)(it:Eh) :
  Turn P w K (.Tuple elts x1 tpos) (Wx d Dm ob) [it] it (fun i h=>∃ok ov,IsItemIter h it d i Dm.length ep ok ov) where
 mem:=by simp
 obj:=fun i h st b hb=>by
  have e:b=it:=by simpa using hb
  subst e;obtain⟨ok,ov,e⟩:=st;exact⟨_,e,fun v z=>by cases z⟩
 keep:=fun i h h' st k=>by
  obtain⟨ok,ov,e⟩:=st;exact⟨ok,ov,k it (by simp) _ e⟩
 item:=by
  intro X hP hw hK hc i Dp s σ H E I hf st hg;subst hP hw hK;obtain⟨hfr,hi⟩:=hg;obtain⟨vs,rel,da,hS⟩:=XO hd (I.hok d _ hfr);have hl:Dm.length=vs.length:=Paired.length rel;obtain⟨ok,ov,st⟩:=st;rw[hl]at st;obtain⟨⟨kk,vv⟩,hx⟩:∃p,vs[i]?=some p:=⟨_,Zn (show i<vs.length by omega)⟩;obtain⟨⟨k0,v0⟩,h0,h1,rv⟩:=jE rel hx;have h1:k0=kk:=h1;have rv:RelV v0 vv:=rv;have fi:=hf it (by simp);have hT:H s.heap.objs.size=none:=I.hok.fresh (Ze _);have ltI:it<s.heap.objs.size:=Zq st;refine wpAny_pyNext_items_item (k:=kk) (v:=vv) st da hx fun key h' Eb out tup sz kp=>?_;refine⟨_,rfl,wpAny_letOwnedTupleGo_items out fun h2 en sb=>?_⟩;have tup2:h2.get? s.heap.objs.size=some { cls:=.type "tuple",data:=.seq #[key,vv] }:=(sb.2 _ (JQ ltI)).trans tup;have I1:Inv X Dp σ H { s with heap:=h2 }:=I.turnedAll (t':=s.toks) (ch:=[it]) hf (fun b o hb q=>by
   have b1:b≠it:=fun z=>hb (by simp[z]);exact(sb.2 b b1).trans (kp b o b1 q)) (fun b hb=>by
   have z:b=it:=by simpa using hb
   subst z;exact⟨_,en⟩)
  have fT:=I.fpOk (Ze _) hT;have new:ObjOk X.prog X.w (upd H s.heap.objs.size (.tup [kV k0,v0])) h2 s.heap.objs.size (.tup [kV k0,v0]) :=
   ⟨by show 2<=sizeLine;decide,[key,vv],.cons (by rw[h1];exact HS Eb) (.cons rv .nil),⟨_,tup2,rfl,_,rfl,rfl⟩⟩
  have I2:Inv X Dp σ (upd H s.heap.objs.size (.tup [kV k0,v0])) { s with heap:=h2 } :=
   I1.takeUp hT (Z5 I.sz (Ze _)) fT.2.1 fT.2.2.2.2.1 fT.2.2.2.2.2 new
  refine⟨.ref s.heap.objs.size,_,I2,rfl,⟨_,k0,v0,h0,hT,rfl,rfl⟩,⟨key,vv,by rw[hl];exact en⟩,fun b hb=>?_⟩;have z:b=it:=by simpa using hb
  subst z;rw[zH (Zz ltI)];exact fi.1
 done:=by
  intro X hP hw hK hc i Dp s σ H E I hf st hg;subst hP hw hK;obtain⟨hfr,hi⟩:=hg;subst hi;obtain⟨vs,rel,da,hS⟩:=XO hd (I.hok d _ hfr);have hl:Dm.length=vs.length:=Paired.length rel;obtain⟨f0,f1,f2,f3,f4,f5⟩:=hf it (by simp);obtain⟨ok,ov,st⟩:=st;rw[hl]at st;exact wpAny_pyNext_items_end (I.ok.hd hc) st da (Ya (by omega)) fun h' eb=>⟨rfl,I.turned (t':=s.toks) (fun b o hb e=>eb b o hb e) f0 f1 f3 f4 f5⟩
 self:=fun _ _ _ _ _ st h=>by
  obtain⟨ok,ov,st⟩:=st;exact PySem.W.kcp_self st h
end
section
variable {X:Cx}{tg:EF}
def aa (t:TE):TE:=fun σ H Q=>t σ H fun v H1=>∃d Dm,v=.ref d/\H1 d=some (.dK Dm)/\∀ob,Q v (upd H1 d (.frz ob (.dK Dm)))
theorem uS (h:PE X e t):PE X e (aa t):=by
 intro Dp s σ H Q I q;refine Ci (h Dp s σ H _ I q) fun v s1 ⟨x,H1,I1,r,d,Dm,ex,hd,q⟩=>?_;subst ex;obtain⟨ob,I2⟩:=I1.freeze hd;exact⟨.ref d,_,I2,r,q ob⟩
def TM (td:TE):TI:=fun σ H R=>td σ H fun v H1=>∃d ob Dm,v=.ref d/\H1 d=some (.frz ob (.dK Dm))/\R (Tq d Dm ob) H1
theorem vN (hl:PE X l tl):PI X tg l (TM tl):=by
 intro Dp s σ H R I h;refine Ci (hl Dp s σ H _ I h) fun v s1 ⟨x,H1,I1,r,d,ob,Dm,ex,hd,q⟩=>?_;subst ex;cases r;obtain⟨vs,es,ep,hdat,rel,da,hS,_⟩:=Ho (I1.hok d _ hd);have Dq:Dm.length=vs.length:=Paired.length rel;refine wpAny_pyIter_dict hS da ?_;have I3:Inv X Dp σ H1 { s1 with heap:=s1.heap.push { cls:=.type "dict_keyiterator",data:=.fields #[.ref d,.int 0 0,.int vs.length 0,.int ep 0] } }:=I1.kept (t':=s1.toks) fun b o e=>Zd _ e;refine⟨s1.heap.objs.size,[s1.heap.objs.size],_,_,_,rfl,I3,Nv hdat _,?_,fun b hb=>?_,q⟩
 ·exact⟨_,Zo _ rfl,rfl,by rw[Dq];rfl⟩
 ·have e:b=s1.heap.objs.size:=by simpa using hb
  subst e;exact I1.fpOk (Ze _) (I1.hok.fresh (Ze _))
def Ss (td:TE):TI:=fun σ H R=>td σ H fun v H1=>∃d ob Dm,v=.ref d/\H1 d=some (.frz ob (.dK Dm))/\R (Wx d Dm ob) H1
theorem Gd {elts:List EF}{tpos Ds Dr:Pos}(ho:PE X o td)(D0:Lu o "items" X.env (E1 o X.env)=E1 o X.env:=by rfl)(DG:(Ds.endLine==Dr.line)=true:=by rfl) :
  PI X (.Tuple elts x1 tpos) (.Call (.Attribute o "items" Ds) [] [] Dr) (Ss td):=by
 intro Dp s σ H R I h;refine wpAny_Call_method0_late D0 DG (Ci (ho Dp s σ H _ I h) fun v s1 ⟨x,H1,I1,r,d,ob,Dm,ex,hd,q⟩=>?_);subst ex;cases r;obtain⟨vs,es,ep,hdat,rel,da,hS,_⟩:=Ho (I1.hok d _ hd);have Dq:Dm.length=vs.length:=Paired.length rel;have dO:=da.dictOf;obtain⟨ob',es',h1,h2,h3⟩:=id da;refine⟨"dict","dict.items",F.plainAttrs_dict,L5,F.type_dict_items,dO.typeIs,fun b q=>by cases q;exact⟨ob',h1,h2.2.1⟩,E2 rfl (PySem.evalArgs_none ?_)⟩;refine JB L5 dO.typeIs F.entry_dict_items (F.args_dict_items_1 _) (meets_dict_items (mixKind X.prog X.w) d hS) ⟨⟨vs,dO⟩,?_⟩;have I2:Inv X Dp σ H1 { s1 with heap:=s1.heap.push { cls:=.type "dict_items",data:=.fields #[.ref d] } }:=I1.kept (t':=s1.toks) fun b o e=>Zd _ e;have da2:(s1.heap.push { cls:=.type "dict_items",data:=.fields #[.ref d] }).DictAt (mixKind X.prog X.w) d vs ep:=da.at' fun o e=>Zd _ e;refine wpAny_pyIter_items (v:=s1.heap.objs.size) (d:=d) ⟨_,Zo _ rfl,rfl,rfl⟩ da2 ?_;refine⟨_,[_],_,_,_,rfl,I2.kept (t':=s1.toks) fun b o e=>Zd _ e,Kg hdat _,⟨_,_,by rw[Dq];exact Zo _ rfl⟩,fun b hb=>?_,q⟩;have e:=Q8.mp hb;subst e;exact I2.fpOk (Ze _) (I2.hok.fresh (Ze _))
section
variable {d:Eh}{Dm:Dl}{ob:Obj}{g:TG}{tb:TS}{D:Ends}{σ:St}{H:Hp}
theorem vA (Pv:Nat->St->Hp->Prop)(h0:Pv 0 σ H)(hl:∀i σ H,i<=Dm.length->Pv i σ H->H d=some (.frz ob (.dK Dm)))
  (hs:∀i k v σ H,Dm[i]?=some (k,v)->Pv i σ H->g (kV k) σ H fun σ2 H2=>tb { D with nx:=Pv (i+1),ct:=Pv (i+1),bk:=D.nx } σ2 H2) (hd:∀σ H,Pv Dm.length σ H->D.nx σ H):NE (Tq d Dm ob) g tb D σ H :=
 N6 Dm.length Pv h0 (fun σ H p=>⟨hl _ σ H (Ze _) p,rfl⟩) (fun i σ H hi p=>⟨hl i σ H (YF hi) p,hi⟩) (fun i σ H hi p v H' y=>by
  obtain⟨eH,k,x,hx,ev⟩:=y;subst ev eH;exact hs i k x σ _ hx p) hd
theorem GQ (Pv:Nat->St->Hp->Prop)(h0:Pv 0 σ H)(hl:∀i σ H,i<=Dm.length->Pv i σ H->H d=some (.frz ob (.dK Dm)))
  (hs:∀i k v T σ H,Dm[i]?=some (k,v)->Pv i σ H->H T=none->g (.ref T) σ (upd H T (.tup [kV k,v])) fun σ2 H2=>tb { D with nx:=Pv (i+1),ct:=Pv (i+1),bk:=D.nx } σ2 H2) (hd:∀σ H,Pv Dm.length σ H->D.nx σ H):NE (Wx d Dm ob) g tb D σ H :=
 N6 Dm.length Pv h0 (fun σ H p=>⟨hl _ σ H (Ze _) p,rfl⟩) (fun i σ H hi p=>⟨hl i σ H (YF hi) p,hi⟩) (fun i σ H hi p v H' y=>by
  obtain⟨T,k,x,hx,hT,ev,eH⟩:=y;subst ev eH;exact hs i k x T σ H hx p hT) hd
end
def WX:R2:=fun y x H Q=>∃a o,x=.ref a/\DGet H a y o/\Q (.bl o.isSome) H
theorem IL (hu:X.A.units+64<E5):Cu X (EK .In) WX:=by
 intro Dp s σ H y x v u Q I ry rx h;obtain⟨a,o,rfl,g,q⟩:=h;cases rx;exact WE (by omega) I g ry fun s' I'=>⟨.bl _,H,I',rfl,q⟩
theorem P0 {H:Hp}{a:Eh}{ob:Obj}{Dm:Dl}(e:H a=some (.frz ob (.dK Dm))):DGet H a (kV k) (Ur Dm k):=.inl ⟨Dm,k,.inr ⟨ob,e⟩,rfl,rfl⟩
theorem GW:∀{Dm:Dl} {vs:List (Key×Eg)} {us:Db},KV Dm vs->us.length=vs.length->(∀(j:Nat) (v:Eg),us[j]?=some v->∃k x,vs[j]?=some (k,x)/\(mixKind P w).is k v=true)->Vals (Dm.map fun kv=>kV kv.1) us
 |[],_,[],.nil,_,_=>.nil
 |[],_,_::_,.nil,hl,_=>by cases hl
 |_::_,_,[],.cons _ _,hl,_=>by cases hl
 |p::_,q::_,u::us,.cons r1 r2,hl,hm=>by
  obtain⟨k,x,e,hk⟩:=hm 0 u rfl;have e:q=(k,x):=by simpa using e
  have e1:p.1=k:=by rw[show p.1=q.1 from r1.1,e]
  refine .cons (by show RelV (kV p.1) u;rw[e1];exact HS hk) (GW (P:=P) (w:=w) r2 (by simpa using hl) fun j v hj=>?_);obtain⟨k2,x2,q1,q2⟩:=hm (j+1) v (by simpa using hj);exact⟨k2,x2,by simpa using q1,q2⟩
inductive Hits (K:Cd)(H:Hp)(kb:Dl):Dl->Bool->Prop
 |nil:Hits K H kb [] true
 |miss {k:Key} {v:V} {r:Dl}:Ur kb k=none->Hits K H kb ((k,v)::r) false
 |hit {k:Key} {v y:V} {d e:Eo} {r:Dl} {b:Bool}:Ur kb k=some y->Dt K H d v->Dt K H e y->Lm d=true->Lm e=true->Hits K H kb r b->Hits K H kb ((k,v)::r) (ER d e&&b)
theorem Hits.keq (I:Inv X Dp σ H s)(hu:X.A.in1.units+64<E5)(rb:KV kb ub) :
  ∀{ka:Dl} {ua:List (Key×Eg)} {b:Bool},KV ka ua->Hits X.K H kb ka b->PySem.W.KeqHits X.A.in1 s ub ua b
 |[],_,_,.nil,.nil=>.nil
 |p::ka,q::ua,_,.cons r1 r2,h=>by
  obtain⟨k,v⟩:=p;obtain⟨k',u⟩:=q;obtain⟨e1,rv⟩:=r1;have e1:k=k':=e1;subst e1;have rel:=rb.val k;cases h with
  |miss hn =>
   rw[hn]at rel;cases e:L9 ub k with
   |none=>exact .miss e
   |some y=>rw[e]at rel;exact rel.elim
  |hit hy h1 h2 s1 s2 hr =>
   rw[hy]at rel;cases e:L9 ub k with
   |none=>rw[e]at rel;exact rel.elim
   |some y =>
    rw[e]at rel;obtain⟨as,q1⟩:=Dt.reads I _ _ _ h1 rv;obtain⟨bs,q2⟩:=Dt.reads I _ _ _ h2 rel;exact .hit e (PySem.W.keq_at q1 q2 s1 s2 hu) (Hits.keq I hu rb r2 hr)
end
section
variable {X:Cx}{K:Cd}
theorem OL (hu:X.A.units+64<E5)(hK:X.K=K:=by rfl):Cu X (EK .NotIn) (WV K true true):=by
 subst hK;intro Dp s σ H x y v u Q I rx ry h;obtain⟨d,xs,h1,h2,h3,h4,h5,q⟩:=h;obtain⟨as,r1⟩:=Dt.reads I d x v h1 rx;obtain⟨bs,r2⟩:=Dt.reads I _ y u h2 ry;have hm:min (ED xs) d.depth<=d.depth:=Nat.min_le_right _ _;exact SeqAt.notIn_tuple_reads r2 r1 h3 h4 (by omega) ⟨.bl _,H,I,rfl,by simpa using q⟩
end
end L2
namespace An
open PySem L2
theorem IM (x:Str):0<=dg x/\dg x<97:=by
 unfold dg;have:∀(l:List Nat) (n:Int),(0<=n/\n<97)->0<=l.foldl TF n/\l.foldl TF n<97:=by
  intro l
  induction l with
  |nil=>intro n h;exact h
  |cons c l ih =>
   intro n _;rw[JF];refine ih _ ?_;unfold TF;omega
 exact this _ 0 ⟨by decide,by decide⟩
theorem OG (x:Str):EQ (LQ (dg x))=UD (dg x).toNat:=by
 unfold UD;rw[Int.toNat_of_nonneg (IM x).1]
theorem Ft {n:Nat}(h:n<97):(UD n).length<=10:=Jo (by omega) (by decide) (by
 have:n<10 ^ 9:=by omega
 omega)
theorem TB (x:Str)(n:Nat):cs (Mo x none (some (n:Int)))=(cs x).take n:=by
 by_cases h:n<=x.length
 ·have e:=Vv (VD (x:=x) (j:=(n:Int)) (by omega) (by omega));rw[e];show((x.cps.toList.drop (0:Int).toNat).take ((n:Int)-0).toNat).toArray.toList=_;simp[cs]
 ·have e:=Vv (VD (x:=x) (j:=(x.length:Int)) (by omega) (by omega));rw[PyProof.Rows.slice_to_beyond (by omega),e];have hl:(cs x).length<=n:=by rw[←length_cs];omega
  rw[JD hl];show((x.cps.toList.drop (0:Int).toNat).take ((x.length:Int)-0).toNat).toArray.toList=_;have:((x.length:Int)-0).toNat=x.cps.toList.length:=by simp[Str.length]
  rw[this];show(x.cps.toList.take x.cps.toList.length)=cs x;rw[ZJ]
theorem snoc_ind {α:Type}{p:List α->Prop}(h0:p [])(h1:∀l x,p l->p (l++[x]))(l:List α):p l:=by
 have:∀l:List α,p l.reverse:=by
  intro l
  induction l with
  |nil=>exact h0
  |cons x l ih=>rw[List.reverse_cons];exact h1 _ _ ih
 have:=this l.reverse
 rwa[List.reverse_reverse]at this
theorem next_in (S:Di)(h:Str):(nextOf S h).getD 0=0\/∃e∈S,e.h=h/\e.n+1=(nextOf S h).getD 0:=by
 induction S using snoc_ind with
 |h0=>exact .inl rfl
 |h1 S e ih =>
  rw[XG]
  by_cases q:e.h=h
  ·rw[Zy q];show max ((nextOf S h).getD 0) (e.n+1)=0\/_
   rcases Nat.le_total ((nextOf S h).getD 0) (e.n+1) with z|z
   ·exact .inr ⟨e,by simp,q,(Nat.max_eq_right z).symm⟩
   ·have mz:max ((nextOf S h).getD 0) (e.n+1)=(nextOf S h).getD 0:=Nat.max_eq_left z
    rcases ih with i|⟨f,hf,h1,h2⟩
    ·exact .inl (mz.trans i)
    ·exact .inr ⟨f,by simp[hf],h1,h2.trans mz.symm⟩
  ·rw[ZA q]
   rcases ih with i|⟨f,hf,h1,h2⟩
   ·exact .inl i
   ·exact .inr ⟨f,by simp[hf],h1,h2⟩
theorem KP {S:Di}(hS:∀e∈S,e.n<S.length)(h:Str):(nextOf S h).getD 0<=S.length:=by
 rcases next_in S h with i|⟨f,hf,_,h2⟩
 ·omega
 ·have:=hS f hf;omega
theorem OH (n:Nat):Ep (UD n)=true:=by
 rw[xM];intro c hc;have hc:c∈(EQ (LQ ((n:Nat):Int))).cps.toList:=hc;rw[Vq]at hc;obtain⟨d,hd,rfl⟩:=Zb.mp hc;show d.val.toNat<1114112
 rcases d.valid with h|⟨_,h⟩
 ·exact Ua h (by decide)
 ·exact h
theorem HJ {x y:Str}(h1:Ep x=true)(h2:Ep y=true):Ep (x++y)=true:=by
 rw[xM]at *;intro c hc;rw[cs_append,Zt]at hc;exact hc.elim (h1 c) (h2 c)
theorem NJ (xs:Da)(x:Str):(xs.map Le).any (fun y=>ER y (.str x))=decide (x∈xs):=by
 induction xs with
 |nil=>rfl
 |cons y xs ih =>
  show((y==x)||(xs.map Le).any (fun y=>ER y (.str x)))=_;rw[ih,ZZ,Uf,Zv,Zv,Zi,Jy];exact⟨fun h=>h.elim (fun z=>.inl z.symm) .inr,fun h=>h.elim (fun z=>.inl z.symm) .inr⟩
theorem SD {S:Di}(nd:(S.map (·.d)).Nodup){e f:En}(he:e∈S)(hf:f∈S)(h:e.d=f.d):e=f:=by
 induction S with
 |nil=>cases he
 |cons x S ih =>
  rw[ZC,Z8]at nd
  rcases Zi.mp he with e1|he2
  ·rcases Zi.mp hf with e2|hf2
   ·rw[e1,e2]
   ·exact absurd (Zb.mpr ⟨f,hf2,by rw[←e1];exact h.symm⟩) nd.1
  ·rcases Zi.mp hf with e2|hf2
   ·exact absurd (Zb.mpr ⟨e,he2,by rw[←e2];exact h⟩) nd.1
   ·exact ih nd.2 he2 hf2
def Ex (H:Hp)(X:Dd):Prop:=∀c∈X,∃o,H c=some o
theorem Ex.not {c:Eh}(h:Ex H X)(n:H c=none):c∉X:=fun z=>by
 obtain⟨o,e⟩:=h c z;rw[n]at e;cases e
section
variable {P:Ei}{w:Em}{K:Cd}{C:Eh}{H H' H0:Hp}{S:Di}
theorem ShAt.ex (h:ShAt P w K C H a fp S):Ex H fp:=fun c hc=>by
 obtain⟨o,e,_⟩:=h.noseq c hc;exact⟨o,e⟩
end
theorem IE {α:Type}{l:List α}{i:Nat}{x:α}(nd:l.Nodup)(h:l[i]?=some x):x∉l.take i:=fun z=>by
 obtain⟨j,hj,e⟩:=ZN.mp z;rw[ZD]at hj;rw[List.getElem_take]at e;obtain⟨hi,e'⟩:=Zu.mp h;exact Jh.mp nd j i (by omega) hi (by omega) (e.trans e'.symm)
def UB (t:Th):Str:=t.letter++UD (dg t.sp).toNat
def GE (S:Di)(t:Th):En:=⟨UB t,(nextOf S (UB t)).getD 0,t.dat⟩
theorem Gm (t:Th):t.letter.length=1:=by rw[length_cs,kM];rfl
theorem Ff (t:Th):46∉cs t.letter:=by
 rw[kM];cases t
 ·show 46∉[76];decide
 ·show 46∉[84];decide
 ·show 46∉[78];decide
theorem jS (t:Th):46∉cs (UB t):=by
 unfold UB;rw[cs_append,Zt,not_or];exact⟨Ff t,fun h=>(PyProof.Rows.intText_free_46 _).mp h⟩
theorem kP (t:Th):(UB t).length<=100:=by
 unfold UB;have h1:=Ft (n:=(dg t.sp).toNat) (by have:=IM t.sp;omega);rw[len_append,Gm];omega
theorem Nd (t:Th):Ep t.letter=true:=by
 rw[xM,kM];intro c hc;rw[Q8.mp hc];cases t
 ·show 76<1114112;decide
 ·show 84<1114112;decide
 ·show 78<1114112;decide
theorem Gs:∀{ls:Da},(∀l∈ls,Ep l=true)->y6 (ls.map .str)=true/\xU (ls.map .str)=0
 |[],_=>⟨rfl,rfl⟩
 |l::ls,h=>by
  obtain⟨h1,h2⟩:=Gs fun x hx=>h x (Za _ hx);refine⟨?_,?_⟩
  ·show(Ep l&&y6 (ls.map .str))=true;rw[h l Zc,h1];rfl
  ·show max 0 (xU (ls.map .str))=0;rw[h2];rfl
theorem F4:∀{rs:Dg},(∀p∈z7 rs,Ep p=true)->y6 (rs.map rowDat)=true/\xU (rs.map rowDat)<=1
 |[],_=>⟨rfl,ZT _⟩
 |(x,y)::rs,h=>by
  obtain⟨h1,h2⟩:=F4 (rs:=rs) fun p hp=>h p (Za _ (Za _ hp));refine⟨?_,?_⟩
  ·show((Ep x&&(Ep y&&true))&&y6 (rs.map rowDat))=true;rw[h x Zc,h y (Za _ Zc),h1];rfl
  ·show max (max 0 (max 0 0)+1) (xU (rs.map rowDat))<=1;omega
theorem BC {t:Th}(g:t.Good):Xh t.dat:=by
 have hs:∀p∈t.parts,Ep p=true:=fun p hp=>(g.2 p hp).ok;cases t with
 |leaf ls =>
  obtain⟨h1,h2⟩:=Gs (ls:=ls) hs;refine⟨?_,?_⟩
  ·show(Ep "leaf"&&(y6 (ls.map .str)&&true))=true;rw[h1];decide +kernel
  ·show max 0 (max (xU (ls.map .str)+1) 0)+1<=6;rw[h2];decide
 |tree rs =>
  obtain⟨h1,h2⟩:=F4 (rs:=rs) hs;refine⟨?_,?_⟩
  ·show(Ep "tree"&&(y6 (rs.map rowDat)&&true))=true;rw[h1];decide +kernel
  ·show max 0 (max (xU (rs.map rowDat)+1) 0)+1<=6;omega
 |note x ps y =>
  have p1:∀p∈ps,Ep p=true:=fun p hp=>hs p (by show p∈[x,dig ps.length]++ps++[y];simp[hp]);have p2:Ep x=true:=hs x (by show x∈[x,dig ps.length]++ps++[y];simp);have p3:Ep y=true:=hs y (by show y∈[x,dig ps.length]++ps++[y];simp);obtain⟨h1,h2⟩:=Gs p1;refine⟨?_,?_⟩
  ·show(Ep "note"&&(Ep x&&(y6 (ps.map .str)&&(Ep y&&true))))=true;rw[h1,p2,p3];decide +kernel
  ·show max 0 (max 0 (max (xU (ps.map .str)+1) (max 0 0)))+1<=6;rw[h2];decide
theorem X1 {a b:Th}(h:a.dat=b.dat):a=b:=(Ky a b).mp (by
 rw[h];exact(Ky b b).mpr rfl)
def GV (e:En):Prop:=∃t:Th,e.d=t.dat/\t.Good/\e.h=UB t
def MK (e:En):Str:=match e.d with|.tuple (.str x::_)=>x|_=>""
theorem Py (t:Th)(h:Str)(n:Nat):MK ⟨h,n,t.dat⟩=t.word:=by cases t<;>rfl
theorem qR {e:En}{t:Th}(h:e.d=t.dat):MK e=t.word:=by
 obtain⟨a,b,c⟩:=e;have h:c=t.dat:=h;subst h;exact Py t a b
def zT (S:Di)(x:Str)(ws:Da):Bool:=S.any fun e=>decide (e.nm=x)&&decide (MK e∈ws)
def namesOk (S:Di):Th->Bool
 | .leaf _=>true
 | .tree Do=>Do.all fun r=>zT S r.2 ["leaf","tree"]
 | .note t ps _=>zT S t ["tree"]&&ps.all fun p=>zT S p ["note"]
theorem KA (g:GoodS S){e:En}(he:e∈S)(ws:Da):zT S e.nm ws=decide (MK e∈ws):=by
 unfold zT;rw[ZZ,ZY,Zv];constructor
 ·rintro⟨f,hf,h⟩;rw[Zk,Zv,Zv]at h;obtain⟨i,hi,ei⟩:=ZN.mp he;obtain⟨j,hj,ej⟩:=ZN.mp hf;have:i=j:=by
   have hp:=Jh.mp g.nn
   rcases Vj i j with z|z|z
   ·exact absurd (by rw[ZQ,ZQ,ei,ej];exact h.1.symm) (hp i j (by rwa[Q7]) (by rwa[Q7]) z)
   ·exact z
   ·exact absurd (by rw[ZQ,ZQ,ei,ej];exact h.1) (hp j i (by rwa[Q7]) (by rwa[Q7]) z)
  subst this;rw[←ei,ej];exact h.2
 ·intro h;exact⟨e,he,by rw[Zf rfl,Zf h];rfl⟩
theorem CW {S:Di}{x:Str}(h:x∉S.map En.nm)(ws:Da):zT S x ws=false:=by
 unfold zT;rw[VT];intro e he z;rw[Zk,Zv]at z;exact h (Zb.mpr ⟨e,he,z.1⟩)
end An
namespace AxS
open PySem PySem.Spec PyProof.Rows
theorem XM (t:Lr)(n:Nat):(t.orStandIn n).led=t.led/\(t.plain=false->(t.orStandIn n).plain=false):=by
 unfold SetTable.orStandIn
 split
 ·exact⟨rfl,id⟩
 ·exact⟨rfl,fun _=>rfl⟩
theorem B5 (t:Lr)(es:Array (Int×Eg))(h:Int)(x:Eg):(layNew t es h x).2.1.led=t.led/\(t.plain=false->(layNew t es h x).2.1.plain=false):=by
 unfold layNew
 split
 ·rename_i slot wd _;have m:=XM (t.put slot).1 (SetTable.insertAt es (t.put slot).2 (h,x)).size;exact⟨m.1,m.2⟩
 ·exact⟨rfl,fun _=>rfl⟩
theorem Hz {mask finger moves:Nat}{led plain:Bool}{hs:Array Int}{t:Lr}{o:Array Nat}(h:SetTable.laid mask finger moves led plain hs=some (t,o)):t.led=led/\t.plain=plain:=by
 unfold SetTable.laid at h;simp only[Option.bind_eq_bind,Option.bind_eq_some_iff,Option.pure_def,Option.some.injEq,Prod.mk.injEq]at h;obtain⟨_,_,h,_⟩:=h;rw[←h];exact⟨rfl,rfl⟩
theorem IT (t:Lr)(es:Array (Int×Eg))(n:Nat):(relayAll t es n).2.1.led=t.led/\(t.plain=false->(relayAll t es n).2.1.plain=false):=by
 unfold relayAll
 split
 ·rename_i t' order he;have m:=Hz he;dsimp only
  split
  ·exact⟨m.1,fun z=>m.2.trans z⟩
  ·exact⟨rfl,fun _=>rfl⟩
 ·exact⟨rfl,fun _=>rfl⟩
def keyOf (e:Int×Eg):Str:=match e.2 with
 | .str k _=>k
 |_=>""
def NH (prog:Ei)(w:Em)(es:Array (Int×Eg))(t:Lr)(ks:Da):Prop :=
 ElemsOf (strKind prog w) es.toList/\(es.toList.map keyOf).Perm ks/\es.size<Mp/\t.fits es.size=true/\t.led=!(w.params.followText "set-order")/\(es.size≠0->t.plain=false)
def TxSet (prog:Ei)(w:Em)(h:Ez)(a:Eh)(ks:Da):Prop:=∃o es ep t,h.get? a=some o/\o.ExactSet/\o.data=.set es ep t/\NH prog w es t ks
section
variable {prog:Ei}{w:Em}{A:EC}{E:Eg->Dh}{s:Ej}
theorem TxSet.at {h':Ez}(x:TxSet prog w h a ks)(e:∀o,h.get? a=some o->h'.get? a=some o):TxSet prog w h' a ks:=by
 obtain⟨o,es,ep,t,ho,r⟩:=x;exact⟨o,es,ep,t,e _ ho,r⟩
theorem key_is {es:Array (Int×Eg)}(h:ElemsOf (strKind prog w) es.toList){e:Int×Eg}(he:e∈es.toList)(k:Str):(strKind prog w).is k e.2=true↔keyOf e=k:=by
 obtain⟨⟨k',hk',_⟩,_⟩:=h e he;obtain⟨t,et⟩:=YO hk';have ek:keyOf e=k':=by unfold keyOf;rw[et]
 constructor
 ·intro z;rw[ek];exact(strKind prog w).inj e.2 k' k hk' z
 ·intro z;rwa[←z,ek]
theorem Fn {es:Array (Int×Eg)}{ks:Da}(h:ElemsOf (strKind prog w) es.toList)(p:(es.toList.map keyOf).Perm ks)(k:Str):k∈ks↔∃e∈es.toList,(strKind prog w).is k e.2=true:=by
 rw[←p.mem_iff,Zb];exact⟨fun⟨e,he,z⟩=>⟨e,he,(key_is h he k).mpr z⟩,fun⟨e,he,z⟩=>⟨e,he,(key_is h he k).mp z⟩⟩
theorem Kk {es:Array (Int×Eg)}{t:Lr}{ks:Da}(x:NH prog w es t ks):es.size=ks.length:=by
 rw[←x.2.1.length_eq,Q7,ZH]
theorem Tf {k:Str}{tk:Tok}{Q:Bool->Dh}(hS:TxSet prog w s.heap a ks)(hroom:ks.length+1<Mp)
  (h:∀h' r,Ll a s.heap h'->TxSet prog w h' a (if k∈ks then ks else ks++[k])->Q r { s with heap:=h' }) :
  Ek (Es prog w) A (setAddHashed a (.str k tk) (hashStr w k)) Q E s:=by
 obtain⟨o,es,ep,t,ho,hex,hd,X⟩:=hS;have Dq:=Kk X;obtain⟨hel,hp,hb,hf,hled,hpl⟩:=X;have Eb:(strKind prog w).is k (.str k tk)=true:=by show E4 k (.str k tk)=true;simp[E4]
 have hsc:(LX k tk).scannable=true:=rfl;have hh:hashStr w k=(strKind prog w).hash k:=rfl;rw[hh];unfold setAddHashed setAddHashedIn;refine Yg (Q9 (Jj ho hd hf ?_));dsimp only;rw[byScan_of (knd:=strKind prog w) hsc hb hel];simp only[↓reduceIte];unfold setAddByScan;refine Q9 (Q9 (J7 (Q9 (wpAny_setScan_of (knd:=strKind prog w) Eb ho hd hf hel ?_))));cases hr:List.findIdx? (fun e=>(strKind prog w).is k e.2) es.toList with
 |some j =>
  obtain⟨hj,hpj,_⟩:=List.findIdx?_eq_some_iff_getElem.mp hr;have hk:k∈ks:=(Fn hel hp k).mpr ⟨es.toList[j],YB hj,hpj⟩;have:=h s.heap false (Heap.SameBut.refl a s.heap) (by rw[Zy hk];exact⟨o,es,ep,t,ho,hex,hd,hel,hp,hb,hf,hled,hpl⟩);exact Zg (Zg this)
 |none =>
  have hk:k∉ks:=fun z=>by
   obtain⟨e,he,q⟩:=(Fn hel hp k).mp z;have:=List.findIdx?_eq_none_iff.mp hr e he;rw[q]at this;cases this
  rw[ZA hk]at h;have hgw:∀(b:Bool) {s₁:Ej} {Q':Unit->Dh},Q' () s₁->Ek (Es prog w) A (match b with|true=>rule "set.scan.the-table-gave-way"|false=>Lx ()) Q' E s₁:=by
   intro b s₁ Q' hq;cases b
   ·exact Zg hq
   ·exact J7 hq
  have hperm:=layNew_perm t es ((strKind prog w).hash k) (.str k tk);have hfits:=layNew_fits t es ((strKind prog w).hash k) (.str k tk);have hmk:=B5 t es ((strKind prog w).hash k) (.str k tk);dsimp only;generalize layNew t es ((strKind prog w).hash k) (.str k tk)=L at hperm hfits hmk ⊢;obtain⟨es1,t1,wd,gave⟩:=L;dsimp only at hperm hfits hmk ⊢;rw[Array.toList_push]at hperm;have hsz:es1.size=es.size+1:=by rw[←ZH,hperm.length_eq,Zj,ZH];rfl
  have hel1:ElemsOf (strKind prog w) es1.toList:=(hel.push Eb hsc).perm hperm;have hp1:(es1.toList.map keyOf).Perm (ks++[k]):=by
   refine(hperm.map keyOf).trans ?_;rw[Zl];exact hp.append (List.Perm.refl _)
  have hb1:es1.size<scanBound:=by omega
  refine Q9 (hgw _ ?_);have tail:∀(t2:Lr),t2.fits es1.size=true->t2.led=t.led->t2.plain=false->Ek (Es prog w) A (do
    storeSet a es1 t2
    if(!wd&&t2.tooFull)=true then do
      (match(relayAll t2 es1 (LA es1.size)).2.2 with|true=>rule "set.scan.the-table-gave-way"|false=>Lx ())
      storeSet a (relayAll t2 es1 (LA es1.size)).1 (relayAll t2 es1 (LA es1.size)).2.1
      Lx (some true)
     else Lx (some true)) (fun r s'=>r=some true/\Q true s') E s:=by
   intro t2 hf2 hl2 hp2;refine Q9 (wpAny_storeSet_of ho hd ?_ (fits_of_scanBound hb1));have sb1:=EV s.heap a (Mt es1 t2);have ho1:(s.heap.update a (Mt es1 t2)).get? a=some { o with data:=.set es1 (ep+1) t2 }:=by
    have:=Z6 (Mt es1 t2) ho (by rw[putSet_of es1 t2 hd];rfl);rw[putSet_of es1 t2 hd]at this;exact this
   split
   ·have hpR:=relayAll_perm t2 es1 (LA es1.size);have hfR:=relayAll_fits t2 es1 (LA es1.size);have hmR:=IT t2 es1 (LA es1.size);generalize relayAll t2 es1 (LA es1.size)=Rl at hpR hfR hmR ⊢;obtain⟨es2,t3,gv⟩:=Rl;dsimp only at hpR hfR hmR ⊢;have hsz2:es2.size=es1.size:=by rw[←ZH,hpR.length_eq,ZH]
    refine Q9 (hgw _ (Q9 (wpAny_storeSet_of ho1 rfl ?_ (fits_of_scanBound (by omega)))));have ho2:((s.heap.update a (Mt es1 t2)).update a (Mt es2 t3)).get? a=some { o with data:=.set es2 (ep+1+1) t3 }:=by
     have:=Z6 (Mt es2 t3) ho1 (by rw[putSet_of es2 t3 rfl];rfl);rw[putSet_of es2 t3 rfl]at this;exact this
    exact Zg ⟨rfl,h _ true (sb1.trans (EV _ a _)) ⟨_,es2,_,t3,ho2,hex,rfl,hel1.perm hpR,((hpR.map keyOf)).trans hp1,by omega,hfR,hmR.1.trans (hl2.trans hled),fun _=>hmR.2 hp2⟩⟩
   ·exact Zg ⟨rfl,h _ true sb1 ⟨_,es1,_,t2,ho1,hex,rfl,hel1,hp1,hb1,hf2,hl2.trans hled,fun _=>hp2⟩⟩
  split
  ·refine Q9 ?_;rw[hashByValue_scannable 8 hsc];refine Zg ?_;refine Yk (tail { t1 with plain:=false } (SetTable.fits_plain_off hfits) hmk.1 rfl) (fun r s' q=>?_) fun _ _ z=>z;obtain⟨rfl,q⟩:=q;exact Zg q
  ·rename_i hpf;refine Q9 (Zg ?_);simp only[↓reduceIte];refine Yk (tail t1 hfits hmk.1 (by simpa using hpf)) (fun r s' q=>?_) fun _ _ z=>z;obtain⟨rfl,q⟩:=q;exact Zg q
def step (ks:Da)(k:Str):Da:=if k∈ks then ks else ks++[k]
def uniq (xs:Da):Da:=xs.foldl step []
theorem Bn (xs:Da)(k:Str):uniq (xs++[k])=step (uniq xs) k:=by unfold uniq;rw[YL];rfl
theorem Pr (ks:Da)(k:Str):(step ks k).length<=ks.length+1:=by unfold step;split<;>simp
theorem uniq_len:∀(n:Nat) (xs:Da),xs.length=n->(uniq xs).length<=n
 | 0,xs,h=>by rw[Yq h];exact Ze _
 |n+1,xs,h=>by
  have hne:xs≠[]:=fun z=>by rw[z]at h;cases h
  rw[←List.dropLast_concat_getLast hne,Bn];have:=uniq_len n xs.dropLast (by rw[List.length_dropLast];omega);have:=Pr (uniq xs.dropLast) (xs.getLast hne);omega
theorem NB {xs:Da}{i:Nat}{k:Str}(h:xs[i]?=some k):uniq (xs.take (i+1))=if k∈uniq (xs.take i) then uniq (xs.take i) else uniq (xs.take i)++[k]:=by
 have e:xs.take (i+1)=xs.take i++[k]:=by rw[Yx,h];rfl
 rw[e,Bn];rfl
end
section
variable {prog:Ei}{w:Em}{A:EC}{R:Result->Dh}{I:Eh}{fp wr:Dd}{G:Array GenState->Array GenState->Prop}{n:Nat}{P:Nat->Eg->Prop}{St:Nat->Dh}
theorem MH (W:WalksS prog w A.in1 I fp wr G n P St)(S:Eh)(hSf:S∉fp)(xs:Da)(hn:xs.length=n)(hval:∀i v,P i v->∃k t,xs[i]?=some k/\v=.str k t)(hb:n+1<Mp) :
  ∀(m i:Nat) (s:Ej),n-i=m->i<=n->St i s->TxSet prog w s.heap S (uniq (xs.take i)) ->
   (∀s',Moved (S::wr) G s s'->TxSet prog w s'.heap S (uniq xs)->R (.ok (.ret .none)) s')->LU (Es prog w) A (.builtin "set.update.loop" ⟨[.ref S,.ref I],[]⟩) R s:=by
 have hSw:S∉wr:=fun h=>hSf (W.sub _ h);have hsub:∀b∈wr,b∈S::wr:=fun b hb=>Za _ hb;intro m
 induction m with
 |zero =>
  intro i s hk hi hst hS hR;have hin:i=n:=by omega
  subst hin;refine YT JU ?_;rw[E7 Y7 _];show Ek _ A.in1 (L1 (.ref I)>>=_) _ _ s;refine Q9 (W.done s _ _ hst fun s' hm=>?_);show Ek _ A.in1 (ret EE) _ _ s';rw[←hn,ZJ]at hS;exact Zg (hR s' (hm.mono hsub) (hS.at fun o e=>hm.heap S _ hSw e))
 |succ m ih =>
  intro i s hk hi hst hS hR;have hlt:i<n:=by omega
  refine YT JU ?_;rw[E7 Y7 _];show Ek _ A.in1 (L1 (.ref I)>>=_) _ _ s;refine Q9 (W.item i s _ _ hlt hst fun v s' hP hst' hm=>?_);obtain⟨k,t,hxk,rfl⟩:=hval i v hP;have hS':=hS.at (h':=s'.heap) fun o e=>hm.heap S _ hSw e;show Ek _ A.in1 (L8 [LX k t] (setAdd S (.str k t))>>=_) _ _ s';refine Q9 (Yg ?_);unfold setAdd;refine Yg ?_;refine Q9 ((strKind prog w).pyHash (k:=k) (by show E4 k (.str k t)=true;simp[E4]) ?_);have hl:=uniq_len _ (xs.take i) rfl;rw[ZD]at hl;refine Tf (s:={ s' with toks:=s'.toks+1 }) hS' (by omega) fun h' r hsb hS2=>?_;rw[←NB hxk]at hS2;refine Zg ⟨JZ Y7 _,ih (i+1) _ (by omega) hlt (W.frame _ s' _ _ hst' (Ji _) fun b hb o e=>?_) hS2 fun s'' hm'' hS''=>?_⟩
  ·rw[hsb.2 b (fun h:b=S=>hSf (by rwa[←h]))];exact e
  ·refine hR s'' (Moved.trans W.gtrans ((hm.mono hsub).then_heap (Ji _) fun b o hb e=>?_) hm'') hS'';rw[hsb.2 b (fun h:b=S=>hb (by rw[h];exact Zc))];exact e
end
section
variable {prog:Ei}{w:Em}{A:EC}{E:Eg->Dh}{s:Ej}
def z6 (w:Em):Obj:={ cls:=.type "set",dict:=none,data:=.set #[] 0 (.fresh 0 0 (!(w.params.followText "set-order"))) }
theorem F2 {h:Ez}{a:Eh}{xs:Da}(e:h.get? a=some (z6 w)):TxSet prog w h a (uniq (xs.take 0)) :=
 ⟨_,#[],0,_,e,⟨rfl,rfl,rfl⟩,rfl,fun _ z=>by simp at z,List.Perm.refl _,by decide,by rfl,rfl,fun z=>absurd rfl z⟩
theorem K9 (a:Eg){Q₁:Eg->Dh}(h:Q₁ (.ref s.heap.objs.size) { s with heap:=s.heap.push (z6 w) }) :
  LU (Es prog w) A (.call (.builtin "set.__new__") ⟨[.type "set",a],[]⟩) (wants Q₁ E) s:=by
 refine Ug ?_;show Ek _ A.in1 (do checkBuiltinCall "set.__new__" ⟨[.type "set",a],[]⟩;again (.builtin "set.__new__" ⟨[.type "set",a],[]⟩)) _ _ s;refine Q9 (JM (F.newCall_set_1 a) (Zg ⟨JZ F.plain_set_new _,YT F.entry_set_new ?_⟩));rw[E7 F.plain_set_new _];unfold Builtin.«set.__new__» Builtin.Frozenset.newClass;have hsub:=sub_set_self;obtain⟨hp,g,d,tk,os⟩:=s;dsimp only
 wp_walk
 refine Jt (Zg ?_);dsimp only;simp only[newObj];refine Q9 (wpAny_alloc (Zg ?_));exact Zg h
theorem sub_list_set:isSubtype (.type "list") (.type "set")=Lx false:=by rw[Ju];kernel_rfl
theorem sub_list_frozenset:isSubtype (.type "list") (.type "frozenset")=Lx false:=by rw[Ju];kernel_rfl
theorem sub_tuple_set:isSubtype (.type "tuple") (.type "set")=Lx false:=by rw[Ju];kernel_rfl
theorem sub_tuple_frozenset:isSubtype (.type "tuple") (.type "frozenset")=Lx false:=by rw[Ju];kernel_rfl
end
section
variable {M:Model}{A:EC}{E:Eg->Dh}{s:Ej}
theorem B7 {src:Source}{n:Nat}{Q:Nat->Dh}(hn:n≠0)(h:∀i,i<n->Q i { s with drawn:=s.drawn.bump src }):Ek M A (choose src n) Q E s :=
 fun Γ p _=>⟨hn,h _ (Nat.mod_lt _ (Nat.pos_of_ne_zero hn))⟩
theorem Iw {α:Type}{xs:List α}{i:Nat}{x:α}(h:xs[i]?=some x):(x::xs.eraseIdx i).Perm xs:=by
 induction xs generalizing i with
 |nil=>cases h
 |cons y ys ih =>
  cases i with
  |zero =>
   have h:y=x:=Option.some.inj h;subst h;exact List.Perm.refl _
  |succ i =>
   have h:ys[i]?=some x:=by simpa using h
   show(x::y::ys.eraseIdx i).Perm (y::ys);exact(List.Perm.swap y x _).trans (List.Perm.cons y (ih h))
theorem jG {α:Type}:∀(n:Nat) (xs:List α) (s:Ej) {Q:List α->Dh},xs.length<=n->(∀ys d,ys.Perm xs->Q ys { s with drawn:=d })->Ek M A (drawOrder n xs) Q E s
 | 0,xs,s,Q,hl,h=>by
  have e:xs=[]:=Yq (by omega);subst e;exact Zg (h [] s.drawn (List.Perm.refl _))
 |n+1,[],s,Q,hl,h=>Zg (h [] s.drawn (List.Perm.refl _))
 |n+1,x::xs,s,Q,hl,h=>by
  refine Q9 (B7 (by simp) fun i hi=>?_);have hx:(x::xs)[i]?=some ((x::xs)[i]):=Zn hi;have hp:=Iw hx;show Ek M A (match(x::xs)[i]? with|some x_1=>_|none=>_) Q E _;rw[hx];refine Q9 (jG n _ _ (by rw[List.length_eraseIdx_of_lt hi];simp at hl ⊢;omega) fun ys d hy=>?_);exact Zg (h _ d ((List.Perm.cons _ hy).trans hp))
theorem K1 {α:Type}(next:Nat->Nat):∀(fuel k:Nat) (left:List α) (out:Array α),left.length=fuel->(pickOrder.go next fuel k left out).toList.Perm (out.toList++left)
 | 0,k,left,out,h=>by
  rw[Yq h,Zs];exact List.Perm.refl _
 |fuel+1,k,left,out,h=>by
  unfold pickOrder.go;have hlt:next k % left.length<left.length:=Nat.mod_lt _ (by omega);have hx:left[next k % left.length]?=some (left[next k % left.length]):=Zn hlt;rw[hx];refine(K1 next fuel (k+1) _ _ (by rw[List.length_eraseIdx_of_lt hlt];omega)).trans ?_;rw[Array.toList_push,Z0];exact List.Perm.append_left _ (Iw hx)
theorem Xg {α:Type}(next:Nat->Nat)(xs:Array α):(L0 next xs).toList.Perm xs.toList:=by
 have:=K1 next xs.size 0 xs.toList #[] (by simp);simpa[L0] using this
end
section
variable {prog:Ei}{w:Em}{A:EC}{E:Eg->Dh}{s:Ej}
def byText (w:Em):Bool:=w.params.followText "set-order"
theorem Ia {a:Eh}{o:Obj}{es:Array (Int×Eg)}{ep:Nat}{t:Lr}{Q:Bool->Dh}(ho:s.heap.get? a=some o)(hd:o.data=.set es ep t)(hf:t.fits es.size=true)
  (h:Q (!byText w&&(!t.plain&&decide (es.size>1))) s):Ek (Es prog w) A (setDrawn a) Q E s:=by
 unfold setDrawn setsByText;refine Q9 (Jj ho hd hf ?_);refine Q9 (Q9 (Jt (Zg ?_)));exact Zg h
theorem Hk:entryFor table "set.__iter__"=some Builtin.«frozenset.__iter__» :=
 entryFor_alias (id':="frozenset.__iter__") (by kernel_rfl) (by first|rfl|decide +kernel|(unfold String.splitOn;simp +decide [String.splitOnAux])) (by decide +kernel) (by kernel_rfl)
theorem Fx:Manifest.owners.lookup (String.ofList ['r','o','t','a','r','e','t','i','_','t','e','s'].reverse)=some Manifest.sig_set_iterator:=by kernel_rfl
theorem slot_next:Slot "set_iterator" "__next__" "set_iterator.__next__" :=
 .of (owner:="set_iterator") (n:="__next__") (by rw[Uh,Vr];kernel_rfl) (by decide +kernel) (by decide +kernel) (by decide +kernel)
  (by first|exact .inl (by decide +kernel)|exact .inr (by decide +kernel)) (by rw[Ju];kernel_rfl)
theorem entry_next:entryFor table "set_iterator.__next__"=some Builtin.«set_iterator.__next__»:=entryFor_of_tree (by kernel_rfl)
theorem args_next (a:Eg):argsOk "set_iterator.__next__" ⟨[a],[]⟩:=by
 unfold argsOk;rw[signature?_of (id:="set_iterator.__next__") (n:=['_','_','t','x','e','n','_','_']) (o:=['r','o','t','a','r','e','t','i','_','t','e','s']) (by kernel_rfl) Fx];kernel_rfl
theorem XB:Slot "set_iterator" "__iter__" "set_iterator.__iter__" :=
 .of (owner:="set_iterator") (n:="__iter__") (by rw[Uh,Vr];kernel_rfl) (by decide +kernel) (by decide +kernel) (by decide +kernel)
  (by first|exact .inl (by decide +kernel)|exact .inr (by decide +kernel)) (by rw[Ju];kernel_rfl)
theorem CD (a:Eg):argsOk "set_iterator.__iter__" ⟨[a],[]⟩:=by
 unfold argsOk;rw[signature?_of (id:="set_iterator.__iter__") (n:=['_','_','r','e','t','i','_','_']) (o:=['r','o','t','a','r','e','t','i','_','t','e','s']) (by kernel_rfl) Fx];kernel_rfl
theorem B1:entryFor table "set_iterator.__iter__"=some Builtin.«dict_keyiterator.__iter__» :=
 entryFor_alias (id':="dict_keyiterator.__iter__") (by kernel_rfl) (by first|rfl|decide +kernel|(unfold String.splitOn;simp +decide [String.splitOnAux])) (by decide +kernel) (by kernel_rfl)
def KH (first:Eg)(i:Int)(a:Eh)(n ep:Nat):Obj:={ cls:=.type "set_iterator",data:=.fields #[first,EW i,.ref a,EW n,EW ep] }
theorem Od {a:Eh}{o:Obj}{es:Array (Int×Eg)}{ep:Nat}{t:Lr}{Q:Eg->Dh}(ho:s.heap.get? a=some o)(hx:o.ExactSet)(hd:o.data=.set es ep t)(hf:t.fits es.size=true)(hz:es.size<=1000)
  (h1:(!byText w&&(!t.plain&&decide (es.size>1)))=false->Q (.ref s.heap.objs.size) { s with heap:=s.heap.push (KH (EW 0) 0 a es.size ep) })
  (h2:(!byText w&&(!t.plain&&decide (es.size>1)))=true->∀(ps:List Nat) d tk,ps.Perm (EG es.size)->Q (.ref (s.heap.objs.size+1)) { s with heap:=(s.heap.push { cls:=.type "tuple",data:=.seq (ps.map fun i=>EW (i:Nat)).toArray }).push (KH (.ref s.heap.objs.size) 0 a es.size ep),drawn:=d,toks:=tk }) :
  Ek (Es prog w) A (pyIter (.ref a)) Q E s:=by
 have hT:s.TypeIs (.ref a) "set":=⟨o,ho,hx.1⟩;refine wpAny_pyIter_slot hT PySem.F.slot_set_iter (Yc PySem.F.slot_set_iter hT Hk ?_ (PySem.F.args_set_iter_1 _));unfold Builtin.«frozenset.__iter__»;refine Q9 (m:=Builtin.Frozenset.slot0 _ _) (JM (a:=a) rfl ?_);unfold Builtin.Frozenset.sizeOf;refine Q9 (Q9 (Jp ho hd hf (Zg ?_)));refine Q9 (Ia ho hd hf ?_);cases q:(!byText w&&(!t.plain&&decide (es.size>1))) with
 |false =>
  rw[ZA (by decide)];refine Q9 (Zg (Q9 (wpAny_setEpoch_of ho hd hf ?_)));simp only[newFields];refine Q9 (Z4 ?_);exact Zg ⟨_,rfl,"set_iterator",_,⟨_,Zo _ rfl,rfl⟩,slot_next.lookup,h1 q⟩
 |true =>
  rw[Zy rfl];refine Q9 (jG es.size (EG es.size) s (by rw[Yn];exact Ze _) fun ps d hp=>?_);have pl:ps.length=es.size:=by rw[hp.length_eq,Yn]
  simp only[newTuple];refine Q9 (Z4 ?_ ?_)
  ·have ho':(s.heap.push { cls:=.type "tuple",data:=.seq (ps.map fun i=>EW (i:Nat)).toArray }).get? a=some o:=Zd _ ho;refine Q9 (wpAny_setEpoch_of (s:={ s with heap:=s.heap.push { cls:=.type "tuple",data:=.seq (ps.map fun i=>EW (i:Nat)).toArray },drawn:=d }) ho' hd hf ?_);simp only[newFields];refine Q9 (Z4 ?_);have e:(s.heap.push { cls:=.type "tuple",data:=.seq (ps.map fun i=>EW (i:Nat)).toArray }).objs.size=s.heap.objs.size+1:=Ys _ _;refine Zg ⟨_,rfl,"set_iterator",_,⟨_,Zo _ rfl,rfl⟩,slot_next.lookup,?_⟩;have:=h2 q ps d s.toks hp;rw[←e]at this;exact this
  ·show(ps.map fun i=>EW (i:Nat)).toArray.size<=sizeLine;rw[Zw,Q7,pl,Yp];omega
theorem qB {it:Eh}(h:s.heap.get? it=some (KH f i a n ep)):s.TypeIs (.ref it) "set_iterator":=⟨_,h,rfl⟩
theorem Bg {it a:Eh}{o:Obj}{es:Array (Int×Eg)}{ep:Nat}{t:Lr}{slot i D1:Nat}{x:Eg}{Q:Dc->Dh}(hit:s.heap.get? it=some (KH (EW slot) i a es.size ep))(hne:a≠it)(ho:s.heap.get? a=some o)(hd:o.data=.set es ep t)(hf:t.fits es.size=true)
  (hn:∀(A:EC) (E:Eg->Dh) (Q:Option (Eg×Nat)->Dh),Q (some (x,D1)) s->Ek (Es prog w) A (setNext a slot i ep) Q E s)
  (h:∀h',h'.get? it=some (KH (EW D1) (i+1) a es.size ep)->Ll it s.heap h'->Q (some x) { s with heap:=h' }):Ek (Es prog w) A (L1 (.ref it)) Q E s:=by
 unfold L1;refine Q9 (VZ (YI (name:=EQ "__next__") (qB hit) slot_next (Yc slot_next (qB hit) entry_next ?_ (args_next _))))
 unfold Builtin.«set_iterator.__next__»;refine Q9 (JM (a:=(Eu it,[])) rfl ?_);refine Q9 (VS hit rfl ?_);show Ek _ _ (setEntries a>>=_) _ _ s;refine Q9 (Jp ho hd hf ?_);have e1:(((es.size:Nat):Int) !=((es.size:Nat):Int))=false:=by simp
 rw[ZA (by rw[e1];decide)];show Ek _ _ (setNext a slot i ep>>=_) _ _ s;refine Q9 (hn _ _ _ ?_);show Ek _ _ (setField (.ref it) 0 (EW D1)>>=_) _ _ s;refine Q9 (Y0 hit rfl (by simp) ?_);have h1:=Z6 (LG (·.setIfInBounds 0 (EW (D1:Nat)))) hit rfl;refine Q9 (Y0 h1 rfl (by simp) ?_);have h2:=Z6 (LG (·.setIfInBounds 1 (EW ((i:Int)+1)))) h1 rfl;exact Zg ⟨x,rfl,Zg (h _ h2 ((EV ..).trans (EV ..)))⟩
theorem kR {it a:Eh}{o:Obj}{es:Array (Int×Eg)}{ep:Nat}{t:Lr}{slot i:Nat}{Q:Dc->Dh}(hh:A.handled=none)(hit:s.heap.get? it=some (KH (EW slot) i a es.size ep))(ho:s.heap.get? a=some o)(hd:o.data=.set es ep t)(hf:t.fits es.size=true)
  (hn:∀(A:EC) (E:Eg->Dh) (Q:Option (Eg×Nat)->Dh),Q none s->Ek (Es prog w) A (setNext a slot i ep) Q E s)
  (h:∀h',Heap.ExtBut it s.heap h'->Q none { s with heap:=h' }):Ek (Es prog w) A (L1 (.ref it)) Q E s:=by
 unfold L1;refine Q9 (VZ (YI (name:=EQ "__next__") (qB hit) slot_next (Yc slot_next (qB hit) entry_next ?_ (args_next _))))
 unfold Builtin.«set_iterator.__next__»;refine Q9 (JM (a:=(Eu it,[])) rfl ?_);refine Q9 (VS hit rfl ?_);show Ek _ _ (setEntries a>>=_) _ _ s;refine Q9 (Jp ho hd hf ?_);have e1:(((es.size:Nat):Int) !=((es.size:Nat):Int))=false:=by simp
 rw[ZA (by rw[e1];decide)];show Ek _ _ (setNext a slot i ep>>=_) _ _ s;refine Q9 (hn _ _ _ ?_);show Ek _ _ (setField (.ref it) 2 .none>>=_) _ _ s;refine Q9 (Y0 hit rfl (by simp) ?_);refine Q9 ?_;simp only[newExc,newTuple];refine Q9 (Z4 ?_ (by size_fits));refine Q9 (m:=firstArgMember _ _) (JM (a:=EE) (by first|rfl|(simp only[firstArgMember];rfl)) ?_);refine Z4 ?_ (by size_fits);simp only[raiseNew];refine Q9 (wpAny_handled ?_)
 first|rw[show A.in1.handled=none from hh]|rw[hh]
 refine Q9 (Zg (wpAny_throw ?_));refine Q9 (JS (T:="StopIteration") (b:=true) ⟨_,Zo _ rfl,rfl⟩ isSubtype_stop ?_);refine Zg (h _ ?_);refine((Heap.ExtBut.push ?_ _).push _);exact(EV ..).extBut
def RJ (ps:List Nat):Obj:={ cls:=.type "tuple",data:=.seq (ps.map fun i=>EW (i:Nat)).toArray }
theorem HH {it a u:Eh}{o:Obj}{es:Array (Int×Eg)}{ep:Nat}{t:Lr}{i p:Nat}{ps:List Nat}{e:Int×Eg}{Q:Dc->Dh}(hit:s.heap.get? it=some (KH (.ref u) i a es.size ep))(hu:s.heap.get? u=some (RJ ps))(ho:s.heap.get? a=some o)(hd:o.data=.set es ep t)(hf:t.fits es.size=true)
  (hp:ps[i]?=some p) (he:es[p]?=some e) (h:∀h',h'.get? it=some (KH (.ref u) (i+1) a es.size ep)->Ll it s.heap h'->Q (some e.2) { s with heap:=h' }):Ek (Es prog w) A (L1 (.ref it)) Q E s:=by
 unfold L1;refine Q9 (VZ (YI (name:=EQ "__next__") (qB hit) slot_next (Yc slot_next (qB hit) entry_next ?_ (args_next _))))
 unfold Builtin.«set_iterator.__next__»;refine Q9 (JM (a:=(Eu it,[])) rfl ?_);refine Q9 (VS hit rfl ?_);show Ek _ _ (setEntries a>>=_) _ _ s;refine Q9 (Jp ho hd hf ?_);have e1:(((es.size:Nat):Int) !=((es.size:Nat):Int))=false:=by simp
 rw[ZA (by rw[e1];decide)];show Ek _ _ (seqItems? (.ref u)>>=_) _ _ s;refine Q9 (wpAny_seqItems hu rfl ?_);have hpi:(ps.map fun i=>EW ((i:Nat):Int)).toArray[i]?=some (EW (p:Nat)):=by
  rw[Vs,Zp,hp];rfl
 show Ek _ _ (match(ps.map fun i=>EW ((i:Nat):Int)).toArray[i]? with|some (.int place _)=>_|some _=>_|none=>_) _ _ s;rw[hpi];show Ek _ _ (setNextDrawn a p ep>>=_) _ _ s;unfold setNextDrawn;refine Q9 (Q9 (Jj ho hd hf ?_));have e2:(ep !=ep)=false:=by simp
 dsimp only;rw[ZA (by rw[e2];decide)];rw[he];refine Zg ?_;show Ek _ _ (setField (.ref it) 1 (EW ((i:Int)+1))>>=_) _ _ s;refine Q9 (Y0 hit rfl (by simp) ?_);have h2:=Z6 (LG (·.setIfInBounds 1 (EW ((i:Int)+1)))) hit rfl;exact Zg ⟨e.2,rfl,Zg (h _ h2 (EV ..))⟩
theorem Gx {it a u:Eh}{o:Obj}{es:Array (Int×Eg)}{ep:Nat}{t:Lr}{i:Nat}{ps:List Nat}{Q:Dc->Dh}(hh:A.handled=none)(hit:s.heap.get? it=some (KH (.ref u) i a es.size ep))(hu:s.heap.get? u=some (RJ ps))(ho:s.heap.get? a=some o)(hd:o.data=.set es ep t)(hf:t.fits es.size=true)
  (hp:ps[i]?=none) (h:∀h',Heap.ExtBut it s.heap h'->Q none { s with heap:=h' }):Ek (Es prog w) A (L1 (.ref it)) Q E s:=by
 unfold L1;refine Q9 (VZ (YI (name:=EQ "__next__") (qB hit) slot_next (Yc slot_next (qB hit) entry_next ?_ (args_next _))))
 unfold Builtin.«set_iterator.__next__»;refine Q9 (JM (a:=(Eu it,[])) rfl ?_);refine Q9 (VS hit rfl ?_);show Ek _ _ (setEntries a>>=_) _ _ s;refine Q9 (Jp ho hd hf ?_);have e1:(((es.size:Nat):Int) !=((es.size:Nat):Int))=false:=by simp
 rw[ZA (by rw[e1];decide)];show Ek _ _ (seqItems? (.ref u)>>=_) _ _ s;refine Q9 (wpAny_seqItems hu rfl ?_);have hpi:(ps.map fun i=>EW ((i:Nat):Int)).toArray[i]?=none:=by
  rw[Vs,Zp,hp];rfl
 show Ek _ _ (match(ps.map fun i=>EW ((i:Nat):Int)).toArray[i]? with|some (.int place _)=>_|some _=>_|none=>_) _ _ s;rw[hpi];show Ek _ _ (setField (.ref it) 0 (EW 0)>>=_) _ _ s;refine Q9 (Y0 hit rfl (by simp) ?_);have h1:=Z6 (LG (·.setIfInBounds 0 (EW 0))) hit rfl;refine Q9 (Y0 h1 rfl (by simp) ?_);refine Q9 ?_;simp only[newExc,newTuple];refine Q9 (Z4 ?_ (by size_fits));refine Q9 (m:=firstArgMember _ _) (JM (a:=EE) (by first|rfl|(simp only[firstArgMember];rfl)) ?_);refine Z4 ?_ (by size_fits);simp only[raiseNew];refine Q9 (wpAny_handled ?_)
 first|rw[show A.in1.handled=none from hh]|rw[hh]
 refine Q9 (Zg (wpAny_throw ?_));refine Q9 (JS (T:="StopIteration") (b:=true) ⟨_,Zo _ rfl,rfl⟩ isSubtype_stop ?_);refine Zg (h _ ?_);refine((Heap.ExtBut.push ?_ _).push _);exact((EV ..).trans (EV ..)).extBut
end
section
variable {prog:Ei}{w:Em}{A:EC}{E:Eg->Dh}{s:Ej}{a:Eh}{o:Obj}{es:Array (Int×Eg)}{ep:Nat}{t:Lr}
theorem uO {slot i:Nat}{Q:Option (Eg×Nat)->Dh}(hb:byText w=true)(ho:s.heap.get? a=some o)(hd:o.data=.set es ep t)(hf:t.fits es.size=true)
  (h:Q (((L0 (w.params.setOrder a ep) es)[i]?).map fun e=>(e.2,slot)) s):Ek (Es prog w) A (setNext a slot i ep) Q E s:=by
 have hb':(Setting.mk (Es prog w).prog (Es prog w).w.params).params.followText "set-order"=true:=hb;unfold setNext setsByText;refine Q9 (Jj ho hd hf ?_);refine Q9 (Q9 (Jt (Zg ?_)));dsimp only;rw[Zy hb'];have e2:(ep !=ep)=false:=by simp
 rw[ZA (by rw[e2];decide)];unfold setWalk setsByText;refine Q9 (Q9 (Jj ho hd hf ?_));refine Q9 (Q9 (Jt (Zg ?_)));dsimp only;rw[Zy hb'];refine Q9 (Jt ?_);exact Zg (Zg h)
theorem XH {slot i:Nat}{Q:Option (Eg×Nat)->Dh}(hb:byText w=false)(hl:t.led=true)(h1:es.size<=1)(ho:s.heap.get? a=some o)(hd:o.data=.set es ep t)(hf:t.fits es.size=true)
  (h:Q (match es[E9 t.place slot]?,t.place[E9 t.place slot]? with|some (_,x),some j=>some (x,j+1)|_,_=>none) s):Ek (Es prog w) A (setNext a slot i ep) Q E s:=by
 have hb':(Setting.mk (Es prog w).prog (Es prog w).w.params).params.followText "set-order"=false:=hb;have hdr:(!t.plain&&decide (es.size>1))=false:=by rw[Zr (by omega),JN]
 have hml:(!t.led&&!es.isEmpty)=false:=by rw[hl];rfl
 unfold setNext setsByText;refine Q9 (Jj ho hd hf ?_);refine Q9 (Q9 (Jt (Zg ?_)));dsimp only;rw[ZA (by rw[hb'];decide)];refine Q9 (Zg ?_);show Ek _ _ (if(!t.plain&&decide (es.size>1))=true then _ else _) _ _ _;rw[ZA (by rw[hdr];decide)];refine Q9 ?_;show Ek _ _ (if(!t.led&&!es.isEmpty)=true then _ else _) _ _ _;rw[ZA (by rw[hml];decide)];exact Zg (Zg h)
theorem Bv {it:Eh}{Q:Eg->Dh}(hit:s.heap.get? it=some (KH f i a n ep))(h:Q (.ref it) s):Ek (Es prog w) A (pyIter (.ref it)) Q E s:=by
 refine wpAny_pyIter_slot (qB hit) XB (Yc XB (qB hit) B1 ?_ (CD _));show Ek _ _ (ret (.ref it)) _ _ s;exact Zg ⟨_,rfl,"set_iterator",_,qB hit,slot_next.lookup,h⟩
theorem Wt (hh:A.handled=none)(I:Eh)(hne:a≠I)(hb:byText w=true)(hd:o.data=.set es ep t)(hf:t.fits es.size=true) :
  Walks prog w A I [I,a] [I] es.size (fun i v=>((L0 (w.params.setOrder a ep) es).toList.map (·.2))[i]?=some v) (fun i h=>h.get? I=some (KH (EW (0:Nat)) (i:Nat) a es.size ep)/\h.get? a=some o) where
 sub:=fun b hb=>by simp at hb;simp[hb]
 frame:=fun _ _ _ st hk=>⟨hk I (by simp) _ st.1,hk a (by simp) _ st.2⟩
 item:=fun i s Q E hi st hQ=>by
  have hl:(L0 (w.params.setOrder a ep) es).toList.length=es.size:=by rw[(Xg _ es).length_eq,ZH]
  have he:(L0 (w.params.setOrder a ep) es).toList[i]?=some ((L0 (w.params.setOrder a ep) es).toList[i]'(by omega)):=Zn (by omega);generalize (L0 (w.params.setOrder a ep) es).toList[i]'(by omega)=e at he;refine Bg (slot:=0) (D1:=0) (x:=e.2) st.1 hne st.2 hd hf (fun A E Q q=>uO hb st.2 hd hf ?_) fun h' h1 sb=>?_
  ·rwa[←Yh,he]
  ·exact hQ _ h' s.toks (by rw[Zp,he];rfl) ⟨h1,(sb.2 a hne).trans st.2⟩ fun b o' hb e=>(sb.2 b (by simpa using hb)).trans e
 done:=fun s Q E st hQ=>by
  have hl:(L0 (w.params.setOrder a ep) es).toList.length=es.size:=by rw[(Xg _ es).length_eq,ZH]
  refine kR (slot:=0) hh st.1 st.2 hd hf (fun A E Q q=>uO hb st.2 hd hf ?_) fun h' eb=>hQ h' s.toks fun b o' hb e=>eb b o' (by simpa using hb) e;rwa[←Yh,Ya (by omega)]
 self:=fun _ _ _ _ st h=>Bv st.1 h
theorem Wv (hh:A.handled=none)(I u:Eh)(hne:a≠I)(hnu:u≠I)(ps:List Nat)(hp:ps.Perm (EG es.size))(hd:o.data=.set es ep t)(hf:t.fits es.size=true) :
  Walks prog w A I [I,a,u] [I] es.size (fun i v=>(ps.filterMap fun p=>(es[p]?).map (·.2))[i]?=some v) (fun i h=>h.get? I=some (KH (.ref u) (i:Nat) a es.size ep)/\h.get? a=some o/\h.get? u=some (RJ ps)) where
 sub:=fun b hb=>by simp at hb;simp[hb]
 frame:=fun _ _ _ st hk=>⟨hk I (by simp) _ st.1,hk a (by simp) _ st.2.1,hk u (by simp) _ st.2.2⟩
 item:=fun i s Q E hi st hQ=>by
  have hl:ps.length=es.size:=by rw[hp.length_eq,Yn]
  have hpi:ps[i]?=some (ps[i]'(by omega)):=Zn (by omega);have hm:ps[i]'(by omega)<es.size:=Jb.mp (hp.mem_iff.mp (YB _));have he:es[ps[i]'(by omega)]?=some (es[ps[i]'(by omega)]'hm):=YC hm;have all:ps.filterMap (fun p=>(es[p]?).map (·.2))=ps.map fun p=>(((es[p]?).map (·.2)).getD .none):=by
   have:∀qs:List Nat,(∀q∈qs,q<es.size)->qs.filterMap (fun p=>(es[p]?).map (·.2))=qs.map fun p=>(((es[p]?).map (·.2)).getD .none):=fun qs=>by
    induction qs with
    |nil=>intro _;rfl
    |cons q qs ih =>
     intro hq;have hq0:es[q]?=some (es[q]'(hq q Zc)):=YC _;rw[YQ,ZC,hq0];simp only[Yt,Vx];rw[ih fun z hz=>hq z (Za _ hz)]
   exact this ps fun q hq=>Jb.mp (hp.mem_iff.mp hq)
  refine HH st.1 st.2.2 st.2.1 hd hf hpi he fun h' h1 sb=>?_;refine hQ _ h' s.toks ?_ ⟨h1,(sb.2 a hne).trans st.2.1,(sb.2 u hnu).trans st.2.2⟩ fun b o' hb e=>(sb.2 b (by simpa using hb)).trans e;rw[all,Zp,hpi];simp only[Yt,he,Vx]
 done:=fun s Q E st hQ=>by
  have hl:ps.length=es.size:=by rw[hp.length_eq,Yn]
  exact Gx hh st.1 st.2.2 st.2.1 hd hf (Ya (by omega)) fun h' eb=>hQ h' s.toks fun b o' hb e=>eb b o' (by simpa using hb) e
 self:=fun _ _ _ _ st h=>Bv st.1 h
theorem IQ (xs:Array Nat)(h:xs.size<=1):E9 xs 0=0:=by
 unfold E9;have h2:xs.size=0\/xs.size=1:=by omega
 rcases h2 with e|e
 ·rw[e];rfl
 ·rw[e];unfold SetTable.below.go;rw[Zy (by decide)];show(if xs.getD 0 0<0 then _ else _)=_;rw[ZA (by omega)];rfl
theorem MM (xs:Array Nat)(h:xs.size=1):E9 xs (xs.getD 0 0+1)=1:=by
 unfold E9;rw[h];unfold SetTable.below.go;rw[Zy (by decide)];show(if xs.getD 0 (xs.getD 0 0+1)<xs.getD 0 0+1 then _ else _)=_;have e:∀d,xs.getD 0 d=xs[0]'(by omega):=fun d=>by
  rw[ZV,YC (by omega)];rfl
 rw[e,e,Zy (by omega)];rfl
def slotB (t:Lr):Nat->Nat
 | 0=>0
 |_+1=>t.place.getD 0 0+1
theorem Wu (hh:A.handled=none)(I:Eh)(hne:a≠I)(hb:byText w=false)(hl:t.led=true)(h1:es.size<=1)(hd:o.data=.set es ep t)(hf:t.fits es.size=true) :
  Walks prog w A I [I,a] [I] es.size (fun i v=>(es.toList.map (·.2))[i]?=some v) (fun i h=>h.get? I=some (KH (EW ((slotB t i:Nat):Int)) (i:Nat) a es.size ep)/\h.get? a=some o) where
 sub:=fun b hb=>by simp at hb;simp[hb]
 frame:=fun _ _ _ st hk=>⟨hk I (by simp) _ st.1,hk a (by simp) _ st.2⟩
 item:=fun i s Q E hi st hQ=>by
  have i0:i=0:=by omega
  subst i0;have hpz:t.place.size=es.size:=by
   unfold SetTable.fits at hf;rw[Zk]at hf;exact Vv hf.1
  have he:es[0]?=some (es[0]'hi):=YC hi;have hp:t.place[0]?=some (t.place[0]'(by omega)):=YC (by omega);have hgd:t.place.getD 0 0=t.place[0]'(by omega):=by rw[ZV,hp];rfl
  refine Bg (slot:=0) (D1:=t.place.getD 0 0+1) (x:=(es[0]'hi).2) st.1 hne st.2 hd hf (fun A E Q q=>XH hb hl h1 st.2 hd hf ?_) fun h' h1 sb=>?_
  ·rwa[IQ _ (by omega),he,hp,←hgd]
  ·refine hQ _ h' s.toks ?_ ⟨h1,(sb.2 a hne).trans st.2⟩ fun b o' hb e=>(sb.2 b (by simpa using hb)).trans e;rw[Zp,Yh,he];rfl
 done:=fun s Q E st hQ=>by
  have hpz:t.place.size=es.size:=by
   unfold SetTable.fits at hf;rw[Zk]at hf;exact Vv hf.1
  refine kR (slot:=slotB t es.size) hh st.1 st.2 hd hf (fun A E Q q=>XH hb hl h1 st.2 hd hf ?_) fun h' eb=>hQ h' s.toks fun b o' hb e=>eb b o' (by simpa using hb) e;have h2:es.size=0\/es.size=1:=by omega
  rcases h2 with e|e
  ·rw[e];show Q (match es[E9 t.place 0]?,t.place[E9 t.place 0]? with|some (_,x),some j=>some (x,j+1)|_,_=>none) s;rwa[IQ _ (by omega),JE (by omega)]
  ·rw[e];show Q (match es[E9 t.place (t.place.getD 0 0+1)]?,t.place[E9 t.place (t.place.getD 0 0+1)]? with|some (_,x),some j=>some (x,j+1)|_,_=>none) s;rwa[MM _ (by omega),JE (by omega)]
 self:=fun _ _ _ _ st h=>Bv st.1 h
end
def xW (vs:Db)(zs:Da):Prop:=vs.length=zs.length/\∀(i:Nat) (v:Eg),vs[i]?=some v->∃k t,zs[i]?=some k/\v=.str k t
section
variable {prog:Ei}{w:Em}{A:EC}{E:Eg->Dh}{s:Ej}{a:Eh}{ks:Da}
theorem II {l:List (Int×Eg)}(h:ElemsOf (strKind prog w) l):xW (l.map (·.2)) (l.map keyOf):=by
 refine⟨by rw[Q7,Q7],fun i v e=>?_⟩;rw[Zp]at e;cases q:l[i]? with
 |none=>rw[q]at e;cases e
 |some x =>
  rw[q]at e;have e:x.2=v:=Option.some.inj e;obtain⟨⟨k,hk,_⟩,_⟩:=h x (Zm q);obtain⟨t,et⟩:=YO hk;exact⟨k,t,by rw[Zp,q];show some (keyOf x)=_;unfold keyOf;rw[et],by rw[←e];exact et⟩
theorem RL {Q:Eg->Dh}(hS:TxSet prog w s.heap a ks)(hk:ks.length<=1000)(hh:A.handled=none)
  (h:∀(I:Eh) (fp:Dd) (h':Ez) d tk (vs:Db) (zs:Da) (St:Nat->Ez->Prop),s.heap.objs.size<=I->(∀b∈fp,b=a\/s.heap.objs.size<=b)->(∀b o,s.heap.get? b=some o->h'.get? b=some o)->zs.Perm ks->xW vs zs -> Walks prog w A I fp [I] ks.length (fun i v=>vs[i]?=some v) St->St 0 h'->Q (.ref I) { s with heap:=h',drawn:=d,toks:=tk }):Ek (Es prog w) A (pyIter (.ref a)) Q E s:=by
 obtain⟨o,es,ep,t,ho,hx,hd,X⟩:=hS;have Dq:=Kk X;obtain⟨hel,hp,hb,hf,hled,hpl⟩:=X;have hlt:a<s.heap.objs.size:=Zq ho;have hne:a≠s.heap.objs.size:=Zz hlt;refine Od ho hx hd hf (by omega) (fun q=>?_) (fun q ps d tk hps=>?_)
 ·have kp:∀b u,s.heap.get? b=some u->(s.heap.push (KH (EW 0) 0 a es.size ep)).get? b=some u:=fun b u e=>Zd _ e;have fpo:∀b∈[s.heap.objs.size,a],b=a\/s.heap.objs.size<=b:=fun b hb=>by
   rcases Zi.mp hb with z|z
   ·exact .inr (Vg z.symm)
   ·exact .inl (Q8.mp z)
  cases hbt:byText w with
  |true =>
   have W:=Wt (prog:=prog) (A:=A) (es:=es) (ep:=ep) (t:=t) (o:=o) hh s.heap.objs.size hne hbt hd hf;have pp:=Xg (w.params.setOrder a ep) es;rw[Dq]at W;exact h _ _ _ s.drawn s.toks _ _ _ (Ze _) fpo kp ((pp.map keyOf).trans hp) (II (hel.perm pp)) W ⟨by rw[←Dq];exact Zo _ rfl,Zd _ ho⟩
  |false =>
   have h1:es.size<=1:=by
    rw[hbt]at q
    by_cases z:es.size>1
    ·rw[hpl (by omega),Zf z]at q;cases q
    ·omega
   have hl:t.led=true:=by rw[hled];show(!byText w)=true;rw[hbt];rfl
   have W:=Wu (prog:=prog) (A:=A) (es:=es) (ep:=ep) (t:=t) (o:=o) hh s.heap.objs.size hne hbt hl h1 hd hf;rw[Dq]at W;exact h _ _ _ s.drawn s.toks _ _ _ (Ze _) fpo kp hp (II hel) W ⟨by rw[←Dq];exact Zo _ rfl,Zd _ ho⟩
 ·have hnI:a≠s.heap.objs.size+1:=Zz (YK hlt);have W:=Wv (prog:=prog) (w:=w) (A:=A) (es:=es) (ep:=ep) (t:=t) (o:=o) (a:=a) hh (s.heap.objs.size+1) s.heap.objs.size hnI (Zz (Jq _)) ps hps hd hf;have hL:(ps.filterMap fun p=>es[p]?).Perm es.toList:=by
   refine(hps.filterMap _).trans ?_;have e:=List.filterMap_getElem?_range_length es.toList;rw[ZH]at e;have e2:(EG es.size).filterMap (fun p=>es[p]?)=(EG es.size).filterMap fun i=>es.toList[i]?:=by congr 1;funext p;exact(Yh ..).symm
   rw[e2,e]
  have hv:(ps.filterMap fun p=>(es[p]?).map (·.2))=(ps.filterMap fun p=>es[p]?).map (·.2):=by rw[List.map_filterMap]
  rw[Dq]at W;rw[hv]at W;have g0:(s.heap.push (RJ ps)).objs.size=s.heap.objs.size+1:=Ys _ _;refine h _ _ _ d tk _ _ _ (Ji _) (fun b hb=>?_) (fun b u e=>Zd _ (Zd _ e)) ((hL.map keyOf).trans hp) (II (hel.perm hL)) W ⟨?_,Zd _ (Zd _ ho),Zd _ (Zo _ rfl)⟩
  ·rcases Zi.mp hb with z|z
   ·exact .inr (by rw[z];exact Ji _)
   ·rcases Zi.mp z with z|z
    ·exact .inl z
    ·exact .inr (Vg (Q8.mp z).symm)
  ·rw[←g0,←Dq];exact Zo _ rfl
theorem Ob (hT:s.TypeIs (.ref a) "set"){Q:Bool->Dh}(h:Q false s):Ek (Es prog w) A (Builtin.List.listLengthHint (.ref a)) Q E s:=by
 unfold Builtin.List.listLengthHint;refine Q9 (J4 hT PySem.F.slot_set_len.lookup ?_);generalize hid:("set.__len__":String)=id0;wp_delta;rw[show splitId id0=some ("set","__len__") from by subst hid;decide +kernel];subst hid;refine Q9 (JS (T:="set") (b:=true) hT (by rw[Ju];kernel_rfl) ?_);refine Ui (fun hab=>absurd hab (by decide)) (fun _=>?_);refine Ui (fun _=>?_) (fun hab=>absurd (by decide +kernel) hab);refine Q9 (JR hT ?_);exact Zg h
open PySem.Calls PyProof.V in
theorem Ny {R:Result->Dh}(hh:A.handled=none)(hT:TxSet prog w s.heap a ks)(hk:ks.length<=1000)(S:Eh)(hSa:S≠a)(res:Eg)(c₀:Nat)(hS:s.heap.get? S=some { cls:=.type "list",data:=.seq #[] c₀ })
  (hR:∀h' d tk DN c' (zs:Da),(∀b o,b≠S->s.heap.get? b=some o->h'.get? b=some o)->h'.get? S=some { cls:=.type "list",dict:=none,data:=.seq DN c',slots:=#[] }->zs.Perm ks->xW DN.toList zs->R (.ok (.ret res)) { s with heap:=h',drawn:=d,toks:=tk }) :
  Ek (Es prog w) A.in1 (LH (.ref S) (.ref a) res)
   (fun fin s'=>match fin with|.done f=>R (.ok f) s'|.again c'=>c'.quiet=true/\LU (Es prog w) A c' R s') (fun e s'=>R (.error e) s') s:=by
 have hSlt:S<s.heap.objs.size:=Zq hS;have ty:s.TypeIs (.ref a) "set":=by obtain⟨o,es,ep,t,ho,hx,_⟩:=hT;exact⟨o,ho,hx.1⟩
 unfold LH;refine Q9 (JR (T:="set") ty ?_);have h1:Builtin.List.listSameRef (.ref S) (.ref a)=false:=by simp[Builtin.List.listSameRef,hSa]
 have nl:(EO "set"==EO "list")=false:=by decide
 have nt:(EO "set"==EO "tuple")=false:=by decide
 simp only[h1,nl,nt,Bool.or_false,YG,JY];refine Q9 (RL (A:=A.in1) hT hk hh fun I fp h' d tk vs zs St hI hfp kp hz tx W st=>?_);have ty':Ma { s with heap:=h',drawn:=d,toks:=tk } (.ref a) "set":=by obtain⟨o,es,ep,t,ho,hx,_⟩:=hT;exact⟨o,kp _ _ ho,hx.1⟩
 refine Q9 (Yg (Ob ty' ?_));have hSf:S∉fp:=fun z=>by
  rcases hfp S z with e|e
  ·exact hSa e
  ·exact Yu _ (ZG hSlt e)
 have hS₁:=kp _ _ hS;refine Ui (fun _=>?_) (fun z=>absurd (by decide) z);refine Q9 (J7 ?_);refine Q9 ?_;show Ek _ _ (updateSeq S (·.push .none)>>=fun _=>updateSeq S (·.pop)) _ _ _;refine Q9 (wpAny_updateSeq hS₁ rfl ?_);have hS₂:=Z6 (EY (·.push EE)) hS₁ rfl;refine wpAny_updateSeq (hz:=by seq_fits) hS₂ rfl ?_;have hS₃:=Z6 (EY (·.pop)) hS₂ rfl;refine Zg ⟨JZ PySem.F.plain_extend_loop _,?_⟩;have oth:∀b o,b≠S->h'.get? b=some o->((h'.update S (EY (·.push EE))).update S (EY (·.pop))).get? b=some o:=fun b o hb e =>
  (Yr _ _ (EA hb)).trans ((Yr _ _ (EA hb)).trans e)
 have st':=W.frame 0 _ _ st fun b hb o e=>oth b o (fun z=>hSf (z▸hb)) e;refine codeAny_extend_loopS W.toS (by rw[Yp];omega) S hSf res ks.length 0 _ #[] _ rfl (ZT _) st' hS₃ (ItemsOf.nil _) fun s' DN c' hm hS' DU=>?_;rw[Moved.eq_with hm];have hva:DN.toList=vs:=by
  have hl:DN.toList.length=vs.length:=by rw[ZH,DU.1,tx.1,hz.length_eq]
  refine List.ext_getElem? fun i=>?_
  by_cases hi:i<DN.size
  ·have e:=YC hi;rw[Yh,e];exact(DU.2 i _ e).symm
  ·rw[Ya (by rw[ZH];omega),Ya (by rw[←hl,ZH];omega)]
 refine hR s'.heap d s'.toks DN c' zs (fun b o hb e=>hm.heap b o (fun hmem=>?_) (oth b o hb (kp b o e))) hS' hz (by rwa[hva])
 rcases Zi.mp hmem with e'|hmem
 ·exact hb e'
 ·have hbI:b=I:=Q8.mp hmem;exact absurd (hbI▸Zq e) (Nat.not_lt.mpr hI)
open PySem.Calls PyProof.V PySem.W in
theorem Kj {R:Db->Dh}(hh:A.handled=none)(hT:TxSet prog w s.heap a ks)(hk:ks.length<=1000)
  (h:∀(h':Ez) d (tk:Nat) (vs:Db) (zs:Da),(∀b o,s.heap.get? b=some o->h'.get? b=some o)->zs.Perm ks->xW vs zs->R vs { s with heap:=h',drawn:=d,toks:=tk }):Ek (Es prog w) A (collect (.ref a)) R E s:=by
 have hlt:a<s.heap.objs.size:=by obtain⟨o,es,ep,t,ho,_⟩:=hT;exact Zq ho
 unfold collect;refine Q9 (wpAny_runValue (YT entry_proto_collect' ?_));rw[E7 PySem.F.plain_proto_collect _];show Ek _ A.in1 (newList []>>=fun l=>again (.builtin "list.__iadd__" ⟨[l,.ref a],[]⟩)) _ _ s;refine Q9 (Z4 ?_);refine Zg ⟨JZ PySem.F.plain_list_iadd _,YT entry_list_iadd' ?_⟩;rw[E7 PySem.F.plain_list_iadd _];have hS₁:(s.heap.push { cls:=.type "list",data:=.seq ([]:Db).toArray }).get? s.heap.objs.size=some { cls:=.type "list",data:=.seq #[] }:=Zo _ rfl;show Ek _ A.in1 (LH (.ref s.heap.objs.size) (.ref a) (.ref s.heap.objs.size)) _ _ _;have key:=Ny (prog:=prog) (w:=w) (A:=A) (a:=a) (ks:=ks) (s:={ s with heap:=s.heap.push { cls:=.type "list",data:=.seq ([]:Db).toArray } })
  (R:=fun(q:Result) (s':Ej)=>∃(h':Ez) (d:Drawn) (tk:Nat) (DN:Array Eg) (c':Nat) (zs:Da),q=.ok (.ret (.ref s.heap.objs.size))/\s'={ s with heap:=h',drawn:=d,toks:=tk } /\ (∀b o,s.heap.get? b=some o->h'.get? b=some o)/\h'.get? s.heap.objs.size=some { cls:=.type "list",dict:=none,data:=.seq DN c',slots:=#[] }/\zs.Perm ks/\xW DN.toList zs)
  hh (hT.at fun o e=>Zd _ e) hk s.heap.objs.size (JQ hlt) (.ref s.heap.objs.size) 0 hS₁
  (fun h' d tk DN c' zs hk hS' hz tx=>⟨h',d,tk,DN,c',zs,rfl,rfl,fun b o e=>hk b o (Zz (Zq e)) (Zd _ e),hS',hz,tx⟩)
 refine Yk key (fun fin s' x=>?_) fun e s' x=>?_
 ·cases fin with
  |done f =>
   obtain⟨h',d,tk,DN,c',zs,e,rfl,hk,hS',hz,tx⟩:=x;cases e;show Ek _ A (load s.heap.objs.size>>=_) _ _ _;refine Q9 (wpAny_load hS' ?_);exact Zg (h h' d tk _ zs hk hz tx)
  |again c₁ =>
   refine⟨x.1,Y8 x.2 fun q s₂ y=>?_⟩;obtain⟨h',d,tk,DN,c',zs,rfl,rfl,hk,hS',hz,tx⟩:=y;show Ek _ A (load s.heap.objs.size>>=_) _ _ _;refine Q9 (wpAny_load hS' ?_);exact Zg (h h' d tk _ zs hk hz tx)
 ·obtain⟨_,_,_,_,_,_,e',_⟩:=x;cases e'
end
section
variable {prog:Ei}{w:Em}{A:EC}{E:Eg->Dh}{s:Ej}
set_option maxHeartbeats 6400000 in
theorem call_set_list {l:Eh}{Dn:Array Eg}{xs:Da}{Q:Eg->Dh}(hh:A.handled=none)(hl:s.heap.IsList l Dn)(Dq:xs.length=Dn.size)(hi:∀(i:Nat) (v:Eg),Dn[i]?=some v->∃k t,xs[i]?=some k/\v=.str k t)(hb:Dn.size+1<Mp)
  (h:∀(h':Ez) (tk:Nat),TxSet prog w h' s.heap.objs.size (uniq xs)->(∀b o,s.heap.get? b=some o->h'.get? b=some o)->Q (.ref s.heap.objs.size) { s with heap:=h',toks:=tk }):Ek (Es prog w) A (call (.type "set") [.ref l]) Q E s:=by
 obtain⟨c,tl,hmro⟩:=F.called_set.mro;have hmade:=F.called_set.made;have hsub:=F.called_set.sub;have h1:=F.called_set.notType;have h2:=F.called_set.canCreate;have hct:=F.typeCall_set_1 (.ref l);refine V9 (Ug ?_);show Ek _ _ (callAny (.type "set") _) _ _ _;refine Zg ⟨Code.quiet_builtin _ (by decide +kernel),YT F.entry_type_call ?_⟩;rw[Around.under_plain (weight_type_call_type "set" [.ref l] []) rfl]
 repeat (any_goals (first|assumption|wp_step))
 refine Y8 (K9 (.ref l) (E:=E) (Q₁:=fun obj s₁=>obj=.ref s.heap.objs.size/\s₁={ s with heap:=s.heap.push (z6 w) }) ⟨rfl,rfl⟩) fun r s₁ hr=>?_;cases r with
 |error e=>exact hr
 |ok fl =>
  cases fl with
  |ret obj =>
   obtain⟨rfl,rfl⟩:=hr;have hS:(s.heap.push (z6 w)).get? s.heap.objs.size=some (z6 w):=Zo _ rfl;have hT:Ma { s with heap:=s.heap.push (z6 w) } (.ref s.heap.objs.size) "set":=⟨_,hS,rfl⟩;have hli:=F.called_set.init.lookup;have hbi:=F.called_set.init.bind (.ref s.heap.objs.size)
   repeat (any_goals (first|assumption|wp_step))
   refine Y8 (codeAny_call_builtin (R:=wants (fun r s₂=>r=.none/\∃h' tk,s₂={ s with heap:=h',toks:=tk }/\TxSet prog w h' s.heap.objs.size (uniq xs) /\ (∀b o,s.heap.get? b=some o->h'.get? b=some o)) E) F.called_set.init.plain F.entry_set_init (check_set_init_1 hT ?_)) fun r₂ s₂ hr₂=>?_
   ·have hl1:(s.heap.push (z6 w)).IsList l Dn:=hl.push _;obtain⟨ol,hol,hcl,nl,hdl⟩:=id hl1;have hlS:l<s.heap.objs.size:=by obtain⟨_,e,_⟩:=hl;exact Zq e
    obtain⟨ocls,odict,odata,oslots⟩:=ol;simp only at hcl hdl;subst hcl;subst hdl;have hsls:=sub_list_set;have hslf:=sub_list_frozenset;have hne:(EO "list"==EO "dict")=false:=by decide
    unfold z6 at hS hol;unfold Builtin.«set.__init__» noKeywords Builtin.Frozenset.updateFrom;generalize hPI:pyIter=PI;unfold z6
    wp_walk
    subst hPI;refine Vf hl1 ?_;refine Q9 (wpAny_runValue ?_);have hh3:A.in1.in1.in1.handled=none:=by simp[hh]
    have hneI:l≠(s.heap.push (z6 w)).objs.size:=by
     rw[Ys];exact Zz (YK hlS)
    have hSf:s.heap.objs.size∉[(s.heap.push (z6 w)).objs.size,l]:=by
     rw[Ys];simp only[Zi,Q8,Yd,VR,not_or];exact⟨Zz (Jq _),JQ hlS⟩
    refine MH ((Walks.list hh3 _ l hneI Dn).toS) s.heap.objs.size hSf xs Dq hi hb (Dn.size-0) 0 _ (by omega) (ZT _)
     ⟨⟨_,Zo _ rfl,rfl,rfl⟩,(hl1.push _)⟩ ?hS0 ?hR
    case hS0 =>
     have hget:((s.heap.push (z6 w)).push { cls:=.type "list_iterator",data:=.fields #[.ref l,.int 0 0] }).get? s.heap.objs.size=some (z6 w):=Zd _ hS;exact F2 hget
    case hR =>
     intro s' hm hS';obtain⟨h',g',d',tk',os'⟩:=s';have eg:g'=s.gens:=hm.gens;have ed:d'=s.drawn:=hm.drawn;have eo:os'=s.os:=hm.os;subst eg;subst ed;subst eo;show Ek _ _ _ _ _ _;refine Zg ?_;show Ek _ _ (ret EE) _ _ _;refine Zg ⟨rfl,h',tk',rfl,hS',fun b o e=>?_⟩;have hb0:=Zq e;have hb1:b≠s.heap.objs.size:=Zz hb0;have hb2:b≠(s.heap.push (z6 w)).objs.size:=by
      rw[Ys];exact Zz (YK hb0)
     exact hm.heap b o (by simp only[Zi,Q8,Yd,VR,not_or];exact⟨hb1,hb2⟩) (Zd _ (Zd _ e))
   ·cases r₂ with
    |error e=>exact hr₂
    |ok fl₂ =>
     cases fl₂ with
     |ret r =>
      obtain⟨rfl,h',tk,rfl,hS',hk'⟩:=hr₂
      repeat (any_goals (first|assumption|wp_step))
      exact h _ _ hS' hk'
     |_=>exact hr₂.elim
  |_=>exact hr.elim
set_option maxHeartbeats 6400000 in
theorem IV {l:Eh}{Dn:Array Eg}{xs:Da}{Q:Eg->Dh}(hh:A.handled=none)(hl:s.heap.IsTuple l Dn)(Dq:xs.length=Dn.size)(hi:∀(i:Nat) (v:Eg),Dn[i]?=some v->∃k t,xs[i]?=some k/\v=.str k t)(hb:Dn.size+1<Mp)
  (h:∀(h':Ez) (tk:Nat),TxSet prog w h' s.heap.objs.size (uniq xs)->(∀b o,s.heap.get? b=some o->h'.get? b=some o)->Q (.ref s.heap.objs.size) { s with heap:=h',toks:=tk }):Ek (Es prog w) A (call (.type "set") [.ref l]) Q E s:=by
 obtain⟨c,tl,hmro⟩:=F.called_set.mro;have hmade:=F.called_set.made;have hsub:=F.called_set.sub;have h1:=F.called_set.notType;have h2:=F.called_set.canCreate;have hct:=F.typeCall_set_1 (.ref l);refine V9 (Ug ?_);show Ek _ _ (callAny (.type "set") _) _ _ _;refine Zg ⟨Code.quiet_builtin _ (by decide +kernel),YT F.entry_type_call ?_⟩;rw[Around.under_plain (weight_type_call_type "set" [.ref l] []) rfl]
 repeat (any_goals (first|assumption|wp_step))
 refine Y8 (K9 (.ref l) (E:=E) (Q₁:=fun obj s₁=>obj=.ref s.heap.objs.size/\s₁={ s with heap:=s.heap.push (z6 w) }) ⟨rfl,rfl⟩) fun r s₁ hr=>?_;cases r with
 |error e=>exact hr
 |ok fl =>
  cases fl with
  |ret obj =>
   obtain⟨rfl,rfl⟩:=hr;have hS:(s.heap.push (z6 w)).get? s.heap.objs.size=some (z6 w):=Zo _ rfl;have hT:Ma { s with heap:=s.heap.push (z6 w) } (.ref s.heap.objs.size) "set":=⟨_,hS,rfl⟩;have hli:=F.called_set.init.lookup;have hbi:=F.called_set.init.bind (.ref s.heap.objs.size)
   repeat (any_goals (first|assumption|wp_step))
   refine Y8 (codeAny_call_builtin (R:=wants (fun r s₂=>r=.none/\∃h' tk,s₂={ s with heap:=h',toks:=tk }/\TxSet prog w h' s.heap.objs.size (uniq xs) /\ (∀b o,s.heap.get? b=some o->h'.get? b=some o)) E) F.called_set.init.plain F.entry_set_init (check_set_init_1 hT ?_)) fun r₂ s₂ hr₂=>?_
   ·have hl1:(s.heap.push (z6 w)).IsTuple l Dn:=hl.push _;obtain⟨ol,hol,hcl,nl,hdl⟩:=id hl1;have hlS:l<s.heap.objs.size:=by obtain⟨_,e,_⟩:=hl;exact Zq e
    obtain⟨ocls,odict,odata,oslots⟩:=ol;simp only at hcl hdl;subst hcl;subst hdl;have hsls:=sub_tuple_set;have hslf:=sub_tuple_frozenset;have hne:(EO "tuple"==EO "dict")=false:=by decide
    unfold z6 at hS hol;unfold Builtin.«set.__init__» noKeywords Builtin.Frozenset.updateFrom;generalize hPI:pyIter=PI;unfold z6
    wp_walk
    subst hPI;refine VO hl1 ?_;refine Q9 (wpAny_runValue ?_);have hh3:A.in1.in1.in1.handled=none:=by simp[hh]
    have hneI:l≠(s.heap.push (z6 w)).objs.size:=by
     rw[Ys];exact Zz (YK hlS)
    have hSf:s.heap.objs.size∉[(s.heap.push (z6 w)).objs.size,l]:=by
     rw[Ys];simp only[Zi,Q8,Yd,VR,not_or];exact⟨Zz (Jq _),JQ hlS⟩
    refine MH ((Walks.tuple hh3 _ l hneI Dn).toS) s.heap.objs.size hSf xs Dq hi hb (Dn.size-0) 0 _ (by omega) (ZT _)
     ⟨⟨_,Zo _ rfl,rfl,rfl⟩,(hl1.push _)⟩ ?hS0 ?hR
    case hS0 =>
     have hget:((s.heap.push (z6 w)).push { cls:=.type "tuple_iterator",data:=.fields #[.ref l,.int 0 0] }).get? s.heap.objs.size=some (z6 w):=Zd _ hS;exact F2 hget
    case hR =>
     intro s' hm hS';obtain⟨h',g',d',tk',os'⟩:=s';have eg:g'=s.gens:=hm.gens;have ed:d'=s.drawn:=hm.drawn;have eo:os'=s.os:=hm.os;subst eg;subst ed;subst eo;show Ek _ _ _ _ _ _;refine Zg ?_;show Ek _ _ (ret EE) _ _ _;refine Zg ⟨rfl,h',tk',rfl,hS',fun b o e=>?_⟩;have hb0:=Zq e;have hb1:b≠s.heap.objs.size:=Zz hb0;have hb2:b≠(s.heap.push (z6 w)).objs.size:=by
      rw[Ys];exact Zz (YK hb0)
     exact hm.heap b o (by simp only[Zi,Q8,Yd,VR,not_or];exact⟨hb1,hb2⟩) (Zd _ (Zd _ e))
   ·cases r₂ with
    |error e=>exact hr₂
    |ok fl₂ =>
     cases fl₂ with
     |ret r =>
      obtain⟨rfl,h',tk,rfl,hS',hk'⟩:=hr₂
      repeat (any_goals (first|assumption|wp_step))
      exact h _ _ hS' hk'
     |_=>exact hr₂.elim
  |_=>exact hr.elim
end
end AxS
namespace L2
open PySem PySem.Spec PyProof.Rows AxS
def BG (P:Ei)(w:Em)(a:Eh)(ks:Da):HO:=.ext fun h=>TxSet P w h a ks
theorem RM (x:TxSet P w h a ks):ObjOk P w H h a (BG P w a ks):=by
 obtain⟨o,es,ep,t,ho,r⟩:=id x;exact⟨x,⟨o,ho⟩,fun u1 u2 z k=>TxSet.at z fun o e=>k o e⟩
theorem F3 (x:ObjOk P w H h a (BG P w a ks)):TxSet P w h a ks:=x.1
section
variable {X:Cx}{K:Cd}
def Rx (P:Ei)(w:Em):Dj->Hp->VK->Prop:=fun xs H Q=>∃(a:Eh) (ks:Da),xs=[.ref a]/\H a=some (BG P w a ks)/\Q (.int ks.length) H
theorem MP:CallR X (.builtin "len") (Rx X.prog X.w):=by
 intro Dp s σ H xs us Q I r h;obtain⟨a,ks,rfl,ha,q⟩:=h;obtain⟨u,rfl,ru⟩:=vals1 r;cases ru;obtain⟨o,es,ep,t,ho,hex,hd,X'⟩:=F3 (I.hok a _ ha);have Dq:=Kk X';obtain⟨_,_,hb,hf,_⟩:=X';have hb:es.size<4096:=hb;refine call_len_set ho hex hd hf (by omega) ?_;rw[Dq];exact⟨.int _,H,I.tok _,⟨_,rfl⟩,q⟩
theorem Inv.drew {d:Drawn}(I:Inv X Dp σ H s):Inv X Dp σ H { s with drawn:=d } :=
 ⟨I.ok,I.os,I.bare,I.base,I.loc,I.cell,I.free,I.freeC,I.pin,I.hok,I.len⟩
theorem strs_of:∀{vs:Db} {zs:Da},xW vs zs->StrsAre vs zs
 |[],[],_=>.nil
 |[],_::_,h=>by cases h.1
 |_::_,[],h=>by cases h.1
 |v::vs,z::zs,h=>by
  obtain⟨k,t,e,rfl⟩:=h.2 0 v rfl;have e:z=k:=Option.some.inj e;subst e;exact .cons _ _ (strs_of ⟨by have:=h.1;simpa using this,fun i v e=>by
   obtain⟨k,t,e1,e2⟩:=h.2 (i+1) v (by simpa using e);exact⟨k,t,by simpa using e1,e2⟩⟩)
def O6 (P:Ei)(w:Em):Dj->Hp->VK->Prop:=fun xs H Q=>∃(a:Eh) (ks:Da),xs=[.ref a]/\H a=some (BG P w a ks)/\ks.length<64/\∀l ss,H l=none->ss.Perm ks->sortedS ss=true->Q (.ref l) (upd H l (.lst (ss.map V.str)))
theorem BL (hc:X.calm=true):CallR X (.builtin "sorted") (O6 X.prog X.w):=by
 intro Dp s σ H xs us Q I r h;obtain⟨a,ks,rfl,ha,h64,q⟩:=h;obtain⟨u,rfl,ru⟩:=vals1 r;cases ru;have hT:=F3 (I.hok a _ ha);refine LO kind_sorted plain_sorted entry_sorted (args_sorted1 _) ?_;unfold Builtin.«sorted»;refine Q9 (m:=checkCount "sorted" 1 1 _) (Zg ?_);refine Q9 (Kj (A:=X.A.in1) (I.ok.hd hc) hT (by omega) fun h' d tk acc zs hkp hz tx=>?_);have hstr:=strs_of tx;have hal:acc.length<64:=by rwa[tx.1,hz.length_eq]
 have DG:64<=sizeLine:=by rw[Yp];decide
 refine Q9 (V0 ?_ (by omega));have hoL:(h'.push (Lg "list" acc.toArray 0)).get? h'.objs.size=some (Lg "list" acc.toArray 0):=Zo _ rfl;refine Q9 (Yg (Yc slot_list_sort ⟨_,hoL,rfl⟩ Uj (list_sort_treeK strKind_oneLt hoL hstr.keysOf (fun v₁ v₂ rest e=>keyKind_strs (by rwa[←e])) (by omega) fun st' a1 a2=>⟨_,rfl,?_⟩) (args_list_sort _)));obtain⟨ss',b1,b2,b3⟩:=sorted_out_str hstr a1 a2;refine Zg ⟨_,rfl,?_⟩;obtain⟨e,he⟩:=sortedHeap_at (out:=(arrOf st').map (·.2)) hoL;have nl:=U5 b1;have I1:Inv X Dp σ H { s with heap:=h',drawn:=d,toks:=tk }:=(I.kept (t':=tk) hkp).drew (d:=d);have kp2:∀b ob,h'.get? b=some ob->(sortedHeap (h'.push (Lg "list" acc.toArray 0)) h'.objs.size acc ((arrOf st').map (·.2))).get? b=some ob:=fun b ob q1=>by
  have hb:b<h'.objs.size:=Zq q1;rw[sortedHeap_old (Zz hb) (by rw[Ys];exact YK hb)];exact Zd _ q1
 have fr:H h'.objs.size=none:=I1.hok.fresh (Ze _);have hz2:(ss'.map V.str).length<=sizeLine:=by
  have:=b2.length_eq;have:=hz.length_eq;rw[Q7];omega
 exact⟨.ref h'.objs.size,_,I1.laid (o:=.lst (ss'.map V.str)) (t':=tk) kp2 (Ze _) ⟨hz2,_,e,nl,he⟩,rfl,q _ ss' fr (b2.trans hz) b3⟩
def W2 (K:Cd)(P:Ei)(w:Em):Dj->Hp->VK->Prop:=fun xs H Q=>∃(a:Eh) (ls:Da),xs=[.ref a]/\(SqL K H a (ls.map V.str)\/SqT K H a (ls.map V.str))/\ls.length<=1000/\∀p,H p=none->Q (.ref p) (upd H p (BG P w p (uniq ls)))
theorem IY {ls:Da}(r:Vals (ls.map V.str) us):xW us ls:=by
 refine⟨by rw[←r.length,Q7],fun i v e=>?_⟩;have hi:i<ls.length:=by have:=(Zu.mp e).1;rw[←r.length,Q7]at this;exact this
 obtain⟨u,hu,ru⟩:=r.get (show(ls.map V.str)[i]?=some (V.str ls[i]) by rw[Zp,Zn hi];rfl);rw[hu]at e;cases e;obtain⟨t,rfl⟩:=ru;exact⟨_,t,Zn hi,rfl⟩
theorem CH (hc:X.calm=true)(hK:X.K=K:=by rfl):CallR X (.type "set") (W2 K X.prog X.w):=by
 subst hK;intro Dp s σ H xs us Q I r h;obtain⟨a,ls,rfl,ha,hl,q⟩:=h;obtain⟨u,rfl,ru⟩:=vals1 r;cases ru;have fin:∀(h':Ez) (tk:Nat),TxSet X.prog X.w h' s.heap.objs.size (uniq ls)->(∀b o,s.heap.get? b=some o->h'.get? b=some o)->EP X Dp σ Q (.ref s.heap.objs.size) { s with heap:=h',toks:=tk }:=fun h' tk x k =>
  ⟨.ref s.heap.objs.size,_,I.laid (o:=BG X.prog X.w s.heap.objs.size (uniq ls)) (t':=tk) k (Ze _) (RM x),rfl,q _ (I.hok.fresh (Ze _))⟩
 have sb:Mp=4096:=rfl
 rcases ha with ha|ha
 ·obtain⟨its,rv,pl,_⟩:=I.list ha;have tx:=IY rv;exact call_set_list (I.ok.hd hc) pl.isList (by rw[Zw];exact tx.1.symm) (fun i v e=>tx.2 i v (by simpa using e)) (by rw[Zw,tx.1,sb];omega) fin
 ·obtain⟨its,rv,pl,_⟩:=I.tuple ha;have tx:=IY rv;exact IV (I.ok.hd hc) pl (by rw[Zw];exact tx.1.symm) (fun i v e=>tx.2 i v (by simpa using e)) (by rw[Zw,tx.1,sb];omega) fin
end
end L2
namespace An
open PySem PySem.Spec PyProof.Rows L2
def PB (a b:Str):Prop:=¬b.cps.toList<a.cps.toList
theorem Nc (h1:PB a b)(h2:PB b c):PB a c:=by
 have h1:a.cps.toList<=b.cps.toList:=JO.mp h1;have h2:b.cps.toList<=c.cps.toList:=JO.mp h2;exact JO.mpr (List.le_trans h1 h2)
theorem Gi (h1:PB a b)(h2:PB b a):a=b:=by
 have e:a.cps.toList=b.cps.toList:=V7 (JO.mp h1) (JO.mp h2);exact cs_inj e
theorem Bk:∀(l:Da) (p:Str),risingS p l=true->(p::l).Pairwise PB
 |[],p,_=>Vc _ _
 |x::r,p,h=>by
  have h:(!ltCps x.cps.toList p.cps.toList&&risingS x r)=true:=h;rw[Zk,ltCps_eq]at h;have hx:PB p x:=fun z=>by rw[Zf z]at h;exact absurd h.1 (by decide)
  have ih:=Bk r x h.2;refine J8.mpr ⟨fun y hy=>?_,ih⟩
  rcases Zi.mp hy with rfl|hy
  ·exact hx
  ·exact Nc hx ((J8.mp ih).1 y hy)
theorem Xl:∀{l:Da},sortedS l=true->l.Pairwise PB
 |[],_=>List.Pairwise.nil
 |x::r,h=>Bk r x h
def U1:Da->Bool
 |[]=>true
 |x::r=>r.all (fun y=>decide (x.cps.toList<y.cps.toList))&&U1 r
theorem rise_iff:∀{l:Da},U1 l=true↔l.Pairwise PB/\l.Nodup
 |[]=>⟨fun _=>⟨List.Pairwise.nil,Yy⟩,fun _=>rfl⟩
 |x::r=>by
  show(r.all _&&U1 r)=true↔_;rw[Zk,rise_iff,ZI,J8,Z8];constructor
  ·rintro⟨h1,h2,h3⟩;refine⟨⟨fun y hy=>?_,h2⟩,fun z=>?_,h3⟩
   ·have:=Zx (h1 y hy);exact fun z=>Vl _ (List.lt_trans this z)
   ·exact Vl _ (Zx (h1 x z))
  ·rintro⟨⟨h1,h2⟩,h3,h4⟩;refine⟨fun y hy=>Zf ?_,h2,h4⟩
   by_cases z:x.cps.toList<y.cps.toList
   ·exact z
   ·have:=Gi (h1 y hy) z;exact absurd (this▸hy) h3
theorem Kf {ks:Da}{k:Str}(h:ks.Nodup):(AxS.step ks k).Nodup:=by
 unfold AxS.step
 split
 ·exact h
 ·rename_i z;rw[Ye];exact⟨h,by simp,fun a ha b hb=>by rw[Q8.mp hb];exact fun e=>z (e▸ha)⟩
theorem Gk:∀(xs ks:Da),ks.Nodup->(xs.foldl AxS.step ks).Nodup
 |[],ks,h=>h
 |x::xs,ks,h=>Gk xs _ (Kf h)
theorem fold_all:∀(xs ks:Da),(ks++xs).Nodup->xs.foldl AxS.step ks=ks++xs
 |[],ks,_=>by rw[Zs];rfl
 |x::xs,ks,h=>by
  have e:AxS.step ks x=ks++[x]:=by
   unfold AxS.step;rw[ZA];intro z;exact(Ye.mp h).2.2 x z x Zc rfl
  rw[JF,e,fold_all xs (ks++[x]) (by rwa[Z0]),Z0];rfl
theorem Kl (xs:Da):(AxS.uniq xs).Nodup:=Gk xs [] Yy
theorem NA {xs:Da}(h:xs.Nodup):AxS.uniq xs=xs:=fold_all xs [] h
theorem CU:∀(xs ks:Da) {x:Str},x∈xs.foldl AxS.step ks->x∈ks\/x∈xs
 |[],ks,x,h=>.inl h
 |y::xs,ks,x,h=>by
  rcases CU xs _ h with z|z
  ·unfold AxS.step at z
   split at z
   ·exact .inl z
   ·rcases Zt.mp z with z|z
    ·exact .inl z
    ·exact .inr (Zi.mpr (.inl (Q8.mp z)))
  ·exact .inr (Za _ z)
theorem Pu {xs:Da}{x:Str}(h:x∈AxS.uniq xs):x∈xs:=(CU xs [] h).elim (fun z=>nomatch z) id
theorem HZ {xs ss:Da}(hp:ss.Perm (AxS.uniq xs))(hs:sortedS ss=true):decide (xs=ss)=U1 xs:=by
 rw[ZZ,Zv,rise_iff];constructor
 ·intro e;subst e;exact⟨Xl hs,hp.nodup_iff.mpr (Kl _)⟩
 ·rintro⟨h1,h2⟩;rw[NA h2]at hp;exact(Jm (fun a b _ _=>Gi) (Xl hs) h1 hp).symm
end An
namespace PySem.SeqAt
open MeetsSeq PyProof.Rows
end PySem.SeqAt
namespace L2
open PySem PySem.Spec PyProof.Rows
end L2
namespace PySem.W
open PySem PySem.Spec PySem.Calls PyProof.Rows Builtin Builtin.ObjectAttr Builtin.Getset_descriptor
end PySem.W
namespace L2
open PySem PySem.Spec PyProof.Rows
section
variable {X:Cx}
theorem kK:∀{l:List (Str×Tok)} {ys:Da},l.map (·.1)=ys->Vals (ys.map V.str) (strValues l)
 |[],_,h=>by rw[←h];exact .nil
 |p::l,_,h=>by
  rw[←h];exact .cons ⟨p.2,rfl⟩ (kK rfl)
def SV:V->Dj->Hp->VK->Prop:=fun x vs H Q=>∃(a:Str) (c:Nat),x=.str a/\vs=[.str ⟨#[c]⟩]/\a.length<=100000/\∀l,H l=none->Q (.ref l) (upd H l (.lst ((LB a ⟨#[c]⟩).map V.str)))
theorem Gy:RP X "str.split" SV:=by
 intro Dp s σ H x xs v us Q I rx rs h;obtain⟨a,c,rfl,rfl,ha,q⟩:=h;obtain⟨t,rfl⟩:=rx;obtain⟨u,rfl,t',rfl⟩:=vals1 rs;have hz:a.length<=sizeLine:=An.le_line (by omega);have hy:((⟨#[c]⟩:Str).length==0)=false:=rfl;have hn:(Lw a (EX a ⟨#[c]⟩ 0 a.length (a.length+1)) (⟨#[c]⟩:Str).length).length<=200000:=by
  unfold Lw;have:=StrLaws.occ_length_le a ⟨#[c]⟩ 0 a.length (a.length+1);simp only[Q7,List.length_zip,Zh,Zj,Yj];omega
 cases h1:(decide (a.length<(⟨#[c]⟩:Str).length)||decide (Builtin.Str.strKind a<Builtin.Str.strKind ⟨#[c]⟩))
 ·cases hf:(EX a ⟨#[c]⟩ 0 a.length (a.length+1)).isEmpty
  ·have e:LB a ⟨#[c]⟩=Lw a (EX a ⟨#[c]⟩ 0 a.length (a.length+1)) (⟨#[c]⟩:Str).length:=(ZA (VM h1)).trans (ZA (VM hf));refine Vw F.slot_str_split (J5 s a t) F.entry_str_split (F.args_str_split_2 _ _) (meets_str_split_sep a ⟨#[c]⟩ t t' h1 hy hf hz (An.le_line (by omega))) ?_;rw[strsFrom_eq];refine⟨.ref _,_,I.lnew (kK (numbered_texts _ _)) (by rw[Q7];exact An.le_line (by omega)),rfl,?_⟩;rw[←e];exact q _ I.fresh
  ·have e:LB a ⟨#[c]⟩=[a]:=(ZA (VM h1)).trans (Zy hf);rw[e]at q;refine Vw F.slot_str_split (J5 s a t) F.entry_str_split (F.args_str_split_2 _ _) (meets_str_split_not_found a ⟨#[c]⟩ t t' h1 hy hf) ?_;exact⟨.ref _,_,I.lnew (t':=s.toks) (kK (l:=[(a,t)]) rfl) (by show 1<=sizeLine;decide),rfl,q _ I.fresh⟩
 ·have e:LB a ⟨#[c]⟩=[a]:=Zy h1;rw[e]at q;refine Vw F.slot_str_split (J5 s a t) F.entry_str_split (F.args_str_split_2 _ _) (meets_str_split_cannot_occur a ⟨#[c]⟩ t t' h1) ?_;exact⟨.ref _,_,I.lnew (t':=s.toks) (kK (l:=[(a,t)]) rfl) (by show 1<=sizeLine;decide),rfl,q _ I.fresh⟩
def WT (K:Cd):Dj->Hp->VK->Prop:=fun xs H Q=>∃(a:Eh) (bs:List Bool),xs=[.ref a]/\SqL K H a (bs.map V.bl)/\Q (.bl (bs.any id)) H
theorem NP {K:Cd}(hc:X.calm=true)(hK:X.K=K:=by rfl):CallR X (.builtin "any") (WT K):=by
 subst hK;intro Dp s σ H xs us Q I r h;obtain⟨a,bs,rfl,ha,q⟩:=h;obtain⟨u,rfl,ru⟩:=vals1 r;cases ru;obtain⟨its,rv,pl,hz⟩:=I.list ha;have ei:=BS rv;have hl:=pl.isList;have hlt:a<s.heap.objs.size:=by obtain⟨_,e,_⟩:=hl;exact Zq e
 refine call_any_walk (Vf hl ?_);refine⟨s.heap.objs.size,[s.heap.objs.size,a],[s.heap.objs.size],its.toArray.size,_,_,fun i=>(bs[i]?).getD false,rfl,Walks.list (A:=X.A.in1) (I.ok.hd hc) _ a (Zz hlt) its.toArray,⟨⟨_,Zo _ rfl,rfl,rfl⟩,hl.push _⟩,fun i v s' Q' E' hP hQ=>?_,fun h' tk hk=>?_⟩
 ·have hP:its[i]?=some v:=by simpa using hP
  rw[ei,Zp]at hP;cases e:bs[i]? with
  |none=>rw[e]at hP;cases hP
  |some b =>
   rw[e]at hP;have hP:LV b=v:=Option.some.inj hP;subst hP;simp only[e,Vx]at hQ;exact Y2 hQ
 ·have Dq:its.length=bs.length:=by rw[ei,Q7]
  have e:((EG its.toArray.size).any fun i=>(bs[i]?).getD false)=bs.any id:=by
   rw[Zw,Dq];exact PyProof.Rows.LSm.range_any bs
  rw[e];exact⟨.bl _,H,I.kept (PyProof.Rows.LSm.kept_iter hk),rfl,q⟩
theorem Oz {K:Cd}(hK:X.K=K:=by rfl):RP X "str.join" (rJoin K):=by
 subst hK;exact X0
theorem SJ {K:Cd}{e:EF}{es:List EF}{name:Str}{Ds Dr:Pos}{T id:String}(pa:PlainAttrs T)(slot:Slot T name id)(hty:typeOf (.builtin id)=Lx (.type "method_descriptor"))(hm:RP X id r)(ho:PE X o to)(ha:PA X (e::es) t)
  (D0:Lu o name X.env (E1 o X.env)=E1 o X.env:=by rfl)
  (hfew:((E8 Dr (Ev (e::es) X.env)).all (fun x=>!x.1)&&(Mc Dr (LD [] X.env)).all (fun x=>x.1.isSome) && decide ((e::es).length+([]:List Keyword).length+(if([]:List Keyword).isEmpty then 0 else 1)<30))=true:=by rfl)
  (DG:(Ds.endLine==Dr.line)=true:=by rfl) (hs:Ev (e::es) X.env=(false,E1 e X.env)::Ev es X.env:=by rfl) (DZ:(E8 Dr (Ev es X.env)).any (·.1)=false:=by rfl) (hK:X.K=K:=by rfl) :
  PE X (.Call (.Attribute o name Ds) (e::es) [] Dr) (au K T r to t):=by
 subst hK;exact kN pa slot hty hm ho ha D0 hfew DG hs DZ
end
end L2
namespace An
open PySem L2
def S1:Str:=⟨#[47]⟩
theorem Xc:("/":Str)=S1:=by decide +kernel
def jn:List (List Nat)->List Nat
 |[]=>[]
 |[x]=>x
 |x::y::r=>x++47::jn (y::r)
def Cw:List Nat->List (List Nat)
 |[]=>[[]]
 |c::r=>if c=47 then[]::Cw r else match Cw r with
  |[]=>[[c]]
  |p::ps=>(c::p)::ps
theorem Xj:∀l,Cw l≠[]
 |[]=>by simp[Cw]
 |c::r=>by
  unfold Cw
  split
  ·simp
  ·split<;>simp
theorem XV {x:List Nat}{r:List (List Nat)}(h:r≠[]):jn (x::r)=x++47::jn r:=by
 cases r with
 |nil=>exact absurd rfl h
 |cons y r=>rfl
theorem Ih:∀l,jn (Cw l)=l
 |[]=>rfl
 |c::r=>by
  have ih:=Ih r;unfold Cw
  split
  ·rename_i e;rw[XV (Xj r),ih,e];rfl
  ·cases q:Cw r with
   |nil=>exact absurd q (Xj r)
   |cons p ps =>
    rw[q]at ih;cases ps with
    |nil=>show c::p=_;rw[show p=r from ih]
    |cons y ps =>
     show(c::p)++47::jn (y::ps)=_;rw[←ih];rfl
theorem BI:∀(a b:List Nat),Cw (a++47::b)=Cw a++Cw b
 |[],b=>by
  show(if 47=47 then[]::Cw b else _)=[[]]++Cw b;rw[Zy rfl];rfl
 |c::a,b=>by
  have ih:=BI a b;show Cw (c::(a++47::b))=_;rw[Cw,Cw,ih]
  split
  ·rfl
  ·cases q:Cw a with
   |nil=>exact absurd q (Xj a)
   |cons p ps=>rfl
theorem Iz:∀{p:List Nat},47∉p->Cw p=[p]
 |[],_=>rfl
 |c::p,h=>by
  have ih:=Iz (p:=p) fun z=>h (Za _ z);unfold Cw;rw[ZA (fun z=>h (by rw[z];exact Zc)),ih]
theorem Ke:∀{ps:List (List Nat)},ps≠[]->(∀p∈ps,47∉p)->Cw (jn ps)=ps
 |[],h,_=>absurd rfl h
 |[p],_,h=>Iz (h p Zc)
 |p::q::r,_,h=>by
  rw[XV (by simp),BI,Iz (h p Zc),Ke (ps:=q::r) (by simp) fun x hx=>h x (Za _ hx)];rfl
theorem Hw:∀{a b:List (List Nat)},a≠[]->b≠[]->jn (a++b)=jn a++47::jn b
 |[],_,h,_=>absurd rfl h
 |[x],b,_,hb=>XV hb
 |x::y::r,b,_,hb=>by
  show x++47::jn ((y::r)++b)=(x++47::jn (y::r))++47::jn b;rw[Hw (a:=y::r) (by simp) hb];simp
theorem Og:∀{ps:List (List Nat)} {p:List Nat},p∈ps->p.length<=(jn ps).length
 |[],_,h=>by cases h
 |[x],p,h=>by rw[Q8.mp h];exact Ze _
 |x::y::r,p,h=>by
  show _<=(x++47::jn (y::r)).length;rw[Zj,Zh]
  rcases Zi.mp h with rfl|h
  ·omega
  ·have:=Og h;omega
theorem Of:∀{ps:List (List Nat)},ps.length<=(jn ps).length+1
 |[]=>by simp
 |[x]=>by simp
 |x::y::r=>by
  show _<=(x++47::jn (y::r)).length+1;have:=Of (ps:=y::r);have e1:(x++47::jn (y::r)).length=x.length+((jn (y::r)).length+1):=by rw[Zj,Zh]
  have e2:(x::y::r).length=(y::r).length+1:=Zh;omega
theorem OM {l p:List Nat}:(∃t,l=p++47::t)↔∃i,i+1<(Cw l).length/\p=jn ((Cw l).take (i+1)):=by
 constructor
 ·rintro⟨t,rfl⟩;rw[BI];have h1:0<(Cw p).length:=JV.mpr (Xj p);have h2:0<(Cw t).length:=JV.mpr (Xj t);refine⟨(Cw p).length-1,by rw[Zj];omega,?_⟩;rw[show(Cw p).length-1+1=(Cw p).length by omega,List.take_left,Ih]
 ·rintro⟨i,hi,rfl⟩;refine⟨jn ((Cw l).drop (i+1)),?_⟩;rw[←Hw,ZW,Ih]
  ·intro z;have:=congrArg List.length z;rw[ZD,Yj]at this;omega
  ·intro z;have:=congrArg List.length z;rw[YH,Yj]at this;omega
def Tn (l:List Nat):Str:=⟨l.toArray⟩
theorem cs_ofL (l:List Nat):cs (Tn l)=l:=by simp[Tn,cs]
theorem ofL_cs (x:Str):Tn (cs x)=x:=cs_inj (cs_ofL _)
theorem xT:∀ys:Da,cs (Lq "/" ys)=jn (ys.map cs):=by
 intro ys;have e:Lq "/" ys=Ms "/" ys:=Lb "/" ys;rw[e];clear e
 induction ys with
 |nil=>rfl
 |cons x r ih =>
  cases r with
  |nil=>rfl
  |cons y r =>
   show cs (x++"/"++Ms "/" (y::r))=cs x++47::jn ((y::r).map cs);have:cs ("/":Str)=[47]:=by decide +kernel
   rw[cs_append,cs_append,ih,this];simp
theorem Pq (x:Str):LB x "/"=(Cw (cs x)).map Tn:=by
 have h1:cs (Ms "/" (LB x "/"))=cs x:=by rw[StrLaws.join_split]
 have e:Lq "/" (LB x "/")=Ms "/" (LB x "/"):=Lb "/" _;rw[←e,xT]at h1;have hne:LB x "/"≠[]:=by
  unfold LB
  split
  ·simp
  ·split
   ·simp
   ·unfold Lw;intro z;have:=congrArg List.length z;simp at this
 have h2:=Ke (ps:=(LB x "/").map cs) (by simpa using hne) (fun p hp=>by
  obtain⟨y,hy,rfl⟩:=Zb.mp hp;rw[Xc]at hy;exact StrLaws.split_free x 47 y hy)
 rw[h1]at h2;rw[h2,ZB];have:(Tn∘cs)=(id:Str->Str):=funext ofL_cs;rw[this,VE]
def labs (x:Str):Da:=LB x "/"
theorem kG (x:Str):(labs x).map cs=Cw (cs x):=by
 unfold labs;rw[Pq,ZB];have:(cs∘Tn)=(id:List Nat->List Nat):=funext cs_ofL;rw[this,VE]
theorem Fc {y:Str}(h:y∈labs x):y.length<=x.length:=by
 rw[length_cs,length_cs,←Ih (cs x),←kG];exact Og (List.mem_map_of_mem h)
theorem vD (x:Str):(labs x).length<=x.length+1:=by
 have:=Of (ps:=Cw (cs x));rw[Ih,←kG,Q7]at this;rwa[length_cs]
theorem Oj (x:Str):0<(labs x).length:=by
 have:=JV.mpr (Xj (cs x));rw[←kG,Q7]at this;exact this
theorem jD {ys:Da}(h:ys≠[])(hf:∀y∈ys,47∉cs y):labs (Lq "/" ys)=ys:=by
 have:(labs (Lq "/" ys)).map cs=ys.map cs:=by
  rw[kG,xT,Ke (by simpa using h)];intro p hp;obtain⟨y,hy,rfl⟩:=Zb.mp hp;exact hf y hy
 have inj:∀{a b:Da},a.map cs=b.map cs->a=b:=by
  intro a
  induction a with
  |nil =>
   intro b e;cases b with
   |nil=>rfl
   |cons _ _=>cases e
  |cons x a ih =>
   intro b e;cases b with
   |nil=>cases e
   |cons y b =>
    rw[ZC,ZC]at e;injection e with e1 e2;rw[cs_inj e1,ih e2]
 exact inj this
def UX (x:Str):Bool:=decide ((labs x).length<=4)&&(labs x).all zN
def UV:Eo->Bool
 | .str x=>UX x
 |_=>false
theorem xP (h:zN y=true):47∉cs y:=by
 unfold zN at h;rw[Zk]at h;intro z;exact absurd (ZI.mp h.2 47 z) (by decide)
theorem jH {ys:Da}(h0:ys≠[])(h4:ys.length<=4)(h:∀y∈ys,zN y=true):UX (Lq "/" ys)=true:=by
 unfold UX;rw[jD h0 fun y hy=>xP (h y hy),Zf h4,ZI.mpr h];rfl
def XJ (x:Str):Da:=(EG ((labs x).length-1)).map fun i=>Lq "/" ((labs x).take (i+1))
def Uw (p q:Str):Bool:=Txt.startswith q (p++"/")
theorem B2:Uw p q=true↔∃t,cs q=cs p++47::t:=by
 unfold Uw Txt.startswith;rw[StrLaws.subAt_eq,List.drop_zero,Nat.zero_add,Zk,ZM,Jy];have e:(p++"/":Str).cps.toList=cs p++[47]:=by
  have:cs ("/":Str)=[47]:=by decide +kernel
  show cs (p++"/")=_;rw[cs_append,this]
 have el:(p++"/":Str).length=(cs p).length+1:=by
  rw[length_cs];show(cs (p++"/")).length=_;rw[show cs (p++"/")=cs p++[47] from e,Zj];rfl
 rw[e,el];constructor
 ·rintro⟨h1,h2⟩;refine⟨(cs q).drop ((cs p).length+1),?_⟩;have:=ZW ((cs p).length+1) (cs q);rw[h2,Z0]at this;exact this.symm
 ·rintro⟨t,h⟩;rw[length_cs,h];refine⟨by simp,?_⟩;show(cs q).take _=_;rw[h];rw[show cs p++47::t=(cs p++[47])++t by simp];rw[Uk (by simp)]
theorem fols_iff {p:Str}:p∈XJ q↔Uw p q=true:=by
 rw[B2,OM];unfold XJ;rw[Zb];have hl:(Cw (cs q)).length=(labs q).length:=by rw[←kG,Q7]
 constructor
 ·rintro⟨i,hi,rfl⟩;have:=Jb.mp hi;refine⟨i,by omega,?_⟩;rw[xT,J0,kG]
 ·rintro⟨i,hi,h⟩;refine⟨i,Jb.mpr (by omega),cs_inj ?_⟩;rw[xT,J0,kG,h]
theorem Fw (p t:Str):Uw p (p++"/"++t)=true:=by
 rw[B2];refine⟨cs t,?_⟩;have:cs ("/":Str)=[47]:=by decide +kernel
 rw[cs_append,cs_append,this];simp
abbrev Fi:=Da×Da
abbrev Dk:=List Fi
def Cc (ls:Da):Str:=Lq "/" ls
structure OkS (S:Di):Prop where
 good:GoodS S
 th:∀e∈S,GV e
 num:∀e∈S,e.n<S.length
def At (S:Di)(x:Str)(t:Th):Prop:=∃e∈S,e.nm=x/\e.d=t.dat
section
variable {S T:Di}{x y:Str}{t u:Th}
theorem OD (g:(S.map En.nm).Nodup){e f:En}(he:e∈S)(hf:f∈S)(h:e.nm=f.nm):e=f:=by
 obtain⟨i,hi,rfl⟩:=ZN.mp he;obtain⟨j,hj,rfl⟩:=ZN.mp hf;have:=(YX (h₀:=by simpa using hi) (h₁:=by simpa using hj) g).mp (by rwa[ZQ,ZQ]);subst this;rfl
theorem At.thing (g:OkS S)(h:At S x t)(k:At S x u):t=u:=by
 obtain⟨e,he,rfl,hd⟩:=h;obtain⟨f,hf,fn,fd⟩:=k;have:=OD g.good.nn hf he fn;subst this;exact X1 (hd.symm.trans fd)
theorem At.name (g:OkS S)(h:At S x t)(k:At S y t):x=y:=by
 obtain⟨e,he,rfl,hd⟩:=h;obtain⟨f,hf,rfl,fd⟩:=k;rw[SD g.good.nd he hf (hd.trans fd.symm)]
theorem At.more (h:At S x t):At (S++T) x t:=let ⟨e,he,a⟩:=h;⟨e,Yo _ he,a⟩
theorem At.mem (h:At S x t):x∈S.map En.nm:=let ⟨e,he,a,_⟩:=h;Zb.mpr ⟨e,he,a⟩
end
noncomputable def ME (S:Di)(x:Str):Option Th:=open Classical in if h:∃t,At S x t then some (choose h) else none
theorem Xq (g:OkS S)(h:At S x t):ME S x=some t:=by
 unfold ME;have ex:∃t,At S x t:=⟨t,h⟩;rw[dif_pos ex];exact congrArg some (At.thing g (Vt ex) h)
noncomputable def reads:Nat->Di->Str->Dk
 | 0,_,_=>[]
 |d+1,S,x=>match ME S x with
  |some (.leaf ls)=>[([],ls)]
  |some (.tree Do)=>Do.flatMap fun r=>(reads d S r.2).map fun f=>(r.1::f.1,f.2)
  |_=>[]
theorem zR {ls:Da}{d:Nat}(g:OkS S)(h:At S x (.leaf ls)):reads (d+1) S x=[([],ls)]:=by
 show(match ME S x with|some (.leaf ls)=>[([],ls)]|some (.tree Do)=>_|_=>_)=_;rw[Xq g h]
theorem yC {Do:Dg}{d:Nat}(g:OkS S)(h:At S x (.tree Do)):reads (d+1) S x=Do.flatMap fun r=>(reads d S r.2).map fun f=>(r.1::f.1,f.2):=by
 show(match ME S x with|some (.leaf ls)=>[([],ls)]|some (.tree Do)=>_|_=>_)=_;rw[Xq g h]
def Cy (a b:Str):Prop:=cs a<cs b
def Tree:Nat->Di->Str->Prop
 | 0,_,_=>False
 |d+1,S,x=>(∃ls,At S x (.leaf ls))\/∃Do,At S x (.tree Do)/\(Do.map (·.1)).Pairwise Cy/\∀r∈Do,zN r.1=true/\Tree d S r.2/\reads d S r.2≠[]
theorem Tree.more {S T:Di}(g:OkS (S++T))(g0:OkS S):∀{d:Nat} {x:Str},Tree d S x->Tree d (S++T) x/\reads d (S++T) x=reads d S x
 | 0,_,h=>absurd h (fun z=>z)
 |d+1,x,h=>by
  rcases h with⟨ls,h⟩|⟨Do,h,so,hr⟩
  ·exact⟨.inl ⟨ls,h.more⟩,by rw[zR g h.more,zR g0 h]⟩
  ·have ih:∀r∈Do,Tree d (S++T) r.2/\reads d (S++T) r.2=reads d S r.2:=fun r m=>Tree.more g g0 (hr r m).2.1;refine⟨.inr ⟨Do,h.more,so,fun r m=>⟨(hr r m).1,(ih r m).1,by rw[(ih r m).2];exact(hr r m).2.2⟩⟩,?_⟩;rw[yC g h.more,yC g0 h];rw[Y9,Y9]
   congr 1
   exact ZS fun r m=>by rw[(ih r m).2]
theorem Tree.mem (h:Tree d S x):x∈S.map En.nm:=by
 cases d with
 |zero=>exact absurd h (fun z=>z)
 |succ d =>
  rcases h with⟨ls,h⟩|⟨Do,h,_⟩
  ·exact h.mem
  ·exact h.mem
theorem Os:∀{a b:List Nat} (s t:List Nat),(∀c∈b,47<c)->(s=[]\/∃r,s=47::r)->a<b->a++s<b++t
 |[],[],_,_,_,_,h=>absurd h (Vl _)
 |[],c::b,s,t,hb,hs,_=>by
  rcases hs with rfl|⟨r,rfl⟩
  ·exact List.nil_lt_cons _ _
  ·exact Yw.mpr (.inl (hb c (Zc ..)))
 |_::_,[],_,_,_,_,h=>absurd h (List.not_lt_nil _)
 |x::a,y::b,s,t,hb,hs,h=>by
  rcases Yw.mp h with h1|⟨e1,h1⟩
  ·exact Yw.mpr (.inl h1)
  ·exact Yw.mpr (.inr ⟨e1,Os s t (fun c hc=>hb c (Za _ hc)) hs h1⟩)
theorem qN (l:Str){p:Da}(h:p≠[]):cs (Cc (l::p))=cs l++47::cs (Cc p):=by
 unfold Cc;rw[xT,xT,ZC,XV (by simpa using h)]
theorem XX (l:Str):cs (Cc [l])=cs l:=by
 unfold Cc;rw[xT];rfl
theorem Ig (l:Str)(p:Da):∃s,cs (Cc (l::p))=cs l++s/\(s=[]\/∃r,s=47::r):=by
 by_cases h:p=[]
 ·subst h;exact⟨[],by rw[XX,Zs],.inl rfl⟩
 ·exact⟨_,qN l h,.inr ⟨_,rfl⟩⟩
theorem Oi (h:zN l=true):∀c∈cs l,47<c:=fun c hc=>by
 unfold zN at h;rw[Zk]at h;have:=ZI.mp h.2 c hc;unfold UG at this;rw[Zk,ZM]at this;omega
theorem SL (p q:Da)(hm:zN m=true)(h:Cy l m):Cy (Cc (l::p)) (Cc (m::q)):=by
 obtain⟨s,e,hs⟩:=Ig l p;obtain⟨t,e2,_⟩:=Ig m q;unfold Cy;rw[e,e2];exact Os s t (Oi hm) hs h
theorem NK:∀(a:List Nat) {s t:List Nat},s<t->a++s<a++t
 |[],_,_,h=>h
 |x::a,_,_,h=>Yw.mpr (.inr ⟨rfl,NK a h⟩)
theorem SO {l:Str}{p q:Da}(hp:p≠[])(hq:q≠[])(h:Cy (Cc p) (Cc q)):Cy (Cc (l::p)) (Cc (l::q)):=by
 unfold Cy;rw[qN l hp,qN l hq];exact NK _ (Yw.mpr (.inr ⟨rfl,h⟩))
theorem Tree.rise (g:OkS S):∀{d:Nat} {x:Str},Tree d S x->(reads d S x).Pairwise (fun f h=>Cy (Cc f.1) (Cc h.1))/\((∃ls,reads d S x=[([],ls)])\/∀f∈reads d S x,f.1≠[])
 | 0,_,h=>absurd h (fun z=>z)
 |d+1,x,h=>by
  rcases h with⟨ls,h⟩|⟨Do,h,so,hr⟩
  ·rw[zR g h];exact⟨Vc _ _,.inl ⟨ls,rfl⟩⟩
  ·rw[yC g h];refine⟨?_,.inr fun f hf=>?_⟩
   ·rw[Y9,List.pairwise_flatten];refine⟨fun l hl=>?_,?_⟩
    ·obtain⟨r,hr',rfl⟩:=Zb.mp hl;obtain⟨i1,i2⟩:=Tree.rise g (hr r hr').2.1;rw[Z9]
     rcases i2 with⟨ls,i2⟩|i2
     ·rw[i2];exact Vc _ _
     ·exact i1.imp_of_mem fun{a b} ha hb z=>SO (i2 a ha) (i2 b hb) z
    ·rw[Z9];rw[Z9]at so;refine so.imp_of_mem fun{a b} ha hb z f hf k hk=>?_;obtain⟨f',_,rfl⟩:=Zb.mp hf;obtain⟨k',_,rfl⟩:=Zb.mp hk;exact SL _ _ (hr b hb).1 z
   ·obtain⟨r,_,hf⟩:=Z1.mp hf;obtain⟨f',_,rfl⟩:=Zb.mp hf;exact ZL _ _
theorem KO (h:Cy a b)(k:Cy b a):False:=List.lt_asymm h k
theorem vX (h:Cy a b):a≠b:=fun z=>by subst z;exact Vl _ h
theorem No {l m:Dk}(h1:l.Pairwise (fun f h=>Cy (Cc f.1) (Cc h.1)))(h2:m.Pairwise (fun f h=>Cy (Cc f.1) (Cc h.1)))(e:∀f,f∈l↔f∈m):l=m:=by
 have nd:∀{l:Dk},l.Pairwise (fun f h=>Cy (Cc f.1) (Cc h.1))->l.Nodup:=fun{l} h=>ZF.mpr (h.imp fun{a b} z q=>by subst q;exact Vl _ z);exact Jm (fun a b _ _ z q=>absurd q (fun q=>KO z q)) h1 h2 ((Yz (nd h1) (nd h2)).mpr e)
theorem GO (ih:∀{x y:Str},Tree d S x->Tree d S y->reads d S x=reads d S y->x=y):∀{a b:Dg},(a.map (·.1)).Pairwise Cy->(b.map (·.1)).Pairwise Cy ->
  (∀r∈a,Tree d S r.2/\reads d S r.2≠[])->(∀r∈b,Tree d S r.2/\reads d S r.2≠[]) ->
  (a.flatMap fun r=>(reads d S r.2).map fun f=>((r.1::f.1,f.2):Fi))=(b.flatMap fun r=>(reads d S r.2).map fun f=>((r.1::f.1,f.2):Fi))->a=b
 |[],[],_,_,_,_,_=>rfl
 |[],s::b,_,_,_,hb,e=>by
  rw[VA,Ym]at e;have:=(Vm.mp e.symm).1;exact absurd (List.map_eq_nil_iff.mp this) (hb s (Zc ..)).2
 |r::a,[],_,_,ha,_,e=>by
  rw[VA,Ym]at e;have:=(Vm.mp e).1;exact absurd (List.map_eq_nil_iff.mp this) (ha r (Zc ..)).2
 |r::a,s::b,oa,ob,ha,hb,e=>by
  obtain⟨hr1,hr2⟩:=ha r (Zc ..);obtain⟨hs1,hs2⟩:=hb s (Zc ..);rw[ZC,J8]at oa ob;rw[Ym,Ym]at e;have el:r.1=s.1:=by
   cases q1:reads d S r.2 with
   |nil=>exact absurd q1 hr2
   |cons f fs =>
    cases q2:reads d S s.2 with
    |nil=>exact absurd q2 hs2
    |cons k ks =>
     rw[q1,q2]at e;have:=congrArg List.head? e;have:(some ((r.1::f.1,f.2):Fi))=some (s.1::k.1,k.2):=this;have:=congrArg Prod.fst (Option.some.inj this);exact(List.cons.inj this).1
  have key:∀{c:Dg} {z:Str×Str} {l:Str},z.1=l->(∀y∈c.map (·.1),Cy l y)->(((reads d S z.2).map fun f=>((z.1::f.1,f.2):Fi))++c.flatMap fun r=>(reads d S r.2).map fun f=>((r.1::f.1,f.2):Fi)).filter (fun f=>decide (f.1.head?=some l))=(reads d S z.2).map fun f=>((z.1::f.1,f.2):Fi):=by
   intro c z l ez hc;rw[List.filter_append,List.filter_eq_self.mpr,List.filter_eq_nil_iff.mpr,Zs]
   ·intro f hf q;obtain⟨w,hw,hf⟩:=Z1.mp hf;obtain⟨f',_,rfl⟩:=Zb.mp hf;have:some w.1=some l:=Zx q;have:=Option.some.inj this;exact vX (hc w.1 (Zb.mpr ⟨w,hw,rfl⟩)) this.symm
   ·intro f hf;obtain⟨f',_,rfl⟩:=Zb.mp hf;exact Zf (congrArg some ez)
  have e1:=congrArg (List.filter (fun f:Fi=>decide (f.1.head?=some r.1))) e;rw[key rfl oa.1,key el.symm (by rw[el];exact ob.1),el]at e1;have er:reads d S r.2=reads d S s.2:=by
   refine(List.map_inj_right fun f k z=>?_).mp e1;have h1:=congrArg Prod.fst z;have h2:=congrArg Prod.snd z;exact Ln (List.cons.inj h1).2 h2
  have en:=ih hr1 hs1 er;rw[el,er]at e;have et:=Vd e;have:=GO ih oa.2 ob.2 (fun w hw=>ha w (Za _ hw)) (fun w hw=>hb w (Za _ hw)) et;have hrs:r=s:=Ln el en;rw[this,hrs]
theorem Tree.one (g:OkS S):∀{d:Nat} {x y:Str},Tree d S x->Tree d S y->reads d S x=reads d S y->x=y
 | 0,_,_,h,_,_=>absurd h (fun z=>z)
 |d+1,x,y,h,k,e=>by
  have no:∀{Do:Dg} {ls:Da},(Do.flatMap fun r=>(reads d S r.2).map fun f=>((r.1::f.1,f.2):Fi))≠[([],ls)]:=fun{Do ls} z=>by
   have:(([],ls):Fi)∈(Do.flatMap fun r=>(reads d S r.2).map fun f=>((r.1::f.1,f.2):Fi)):=by rw[z];exact Q8.mpr rfl
   obtain⟨r,_,hf⟩:=Z1.mp this;obtain⟨f',_,q⟩:=Zb.mp hf;exact absurd (congrArg Prod.fst q) (ZL _ _)
  rcases h with⟨ls,h⟩|⟨Do,h,so,hr⟩<;>rcases k with⟨ls',k⟩|⟨rows',k,so',hr'⟩
  ·rw[zR g h,zR g k]at e;have:=congrArg Prod.snd (List.cons.inj e).1;have this:ls=ls':=this;subst this;exact h.name g k
  ·rw[zR g h,yC g k]at e;exact absurd e.symm no
  ·rw[yC g h,zR g k]at e;exact absurd e no
  ·rw[yC g h,yC g k]at e;have:=GO (fun hx hy z=>Tree.one g hx hy z) so so' (fun r m=>(hr r m).2) (fun r m=>(hr' r m).2) e;subst this;exact h.name g k
noncomputable def Ch (S:Di)(t:Th):List En×Str:=open Classical in if h:∃x,At S x t then(S,choose h) else(S++[GE S t],(GE S t).nm)
section
variable {S T:Di}{x:Str}{t:Th}
theorem K3 (g:OkS S)(h:At S x t):Ch S t=(S,x):=by
 unfold Ch;have ex:∃x,At S x t:=⟨x,h⟩;rw[dif_pos ex];exact congrArg (Prod.mk S) (At.name g (Vt ex) h)
theorem FC (h:∀e∈S,e.d≠t.dat):Ch S t=(S++[GE S t],(GE S t).nm):=by
 unfold Ch;rw[dif_neg];rintro⟨x,e,he,_,hd⟩;exact h e he hd
theorem Sq {e:En}(h:e.h=UB t)(hn:e.n<1000000):Ok 1000 e.nm:=by
 refine⟨?_,?_⟩
 ·have h1:=kP t;have h2:(UD e.n).length<=10:=Jo (by omega) (by decide) (by
   have:e.n<10 ^ 9:=by omega
   omega)
  unfold En.nm;rw[len_append,len_append,h];have:dot.length=1:=rfl;omega
 ·unfold En.nm;rw[h];exact HJ (HJ (HJ (Nd t) (OH _)) (by decide +kernel)) (OH _)
theorem OkS.nm (g:OkS S){e:En}(he:e∈S):Ok 1000 e.nm:=by
 obtain⟨t,_,_,h⟩:=g.th e he;exact Sq h (g.good.ent e he).num
theorem OkS.snoc (g:OkS S)(gt:t.Good)(l:S.length<2000)(h:∀e∈S,e.d≠t.dat):OkS (S++[GE S t]):=by
 have nl:=KP g.num (UB t);refine⟨g.good.snoc ⟨BC gt,jS t,?_,kP t⟩ (fun z=>?_) (OC g.good (jS t)) l,fun e he=>?_,fun e he=>?_⟩
 ·show(nextOf S (UB t)).getD 0<1000000;omega
 ·obtain⟨e,he,hd⟩:=Zb.mp z;exact h e he hd
 ·rcases Zt.mp he with z|z
  ·exact g.th e z
  ·rw[Q8.mp z];exact⟨t,rfl,gt,rfl⟩
 ·rw[Zj,YV]
  rcases Zt.mp he with z|z
  ·have:=g.num e z;omega
  ·rw[Q8.mp z];show(nextOf S (UB t)).getD 0<_;omega
theorem vI (g:OkS S)(gt:t.Good)(l:S.length<2000):OkS (Ch S t).1/\At (Ch S t).1 (Ch S t).2 t/\(Ch S t).1.length<=S.length+1/\∃T,(Ch S t).1=S++T/\∀e∈T,e.nm=(Ch S t).2:=by
 by_cases z:∃x,At S x t
 ·obtain⟨x,h⟩:=z;rw[K3 g h];exact⟨g,h,Ji _,[],(Zs _).symm,fun e he=>(nomatch he)⟩
 ·have h:∀e∈S,e.d≠t.dat:=fun e he hd=>z ⟨e.nm,e,he,rfl,hd⟩;rw[FC h];exact⟨g.snoc gt l h,⟨_,ZP _ (Q8.mpr rfl),rfl,rfl⟩,by rw[Zj];exact Ze _,[GE S t],rfl,fun e he=>by rw[Q8.mp he]⟩
end
noncomputable def met:Nat->Di->Str->Da
 | 0,_,_=>[]
 |d+1,S,x=>x::match ME S x with
  |some (.tree Do)=>Do.flatMap fun r=>met d S r.2
  |_=>[]
theorem Gc {ls:Da}{d:Nat}(g:OkS S)(h:At S x (.leaf ls)):met (d+1) S x=[x]:=by
 show x::(match ME S x with|some (.tree Do)=>_|_=>_)=_;rw[Xq g h]
theorem jZ {Do:Dg}{d:Nat}(g:OkS S)(h:At S x (.tree Do)):met (d+1) S x=x::Do.flatMap fun r=>met d S r.2:=by
 show x::(match ME S x with|some (.tree Do)=>_|_=>_)=_;rw[Xq g h]
theorem Fp {x:Str}{d:Nat}:x∈met (d+1) S x:=Zc ..
theorem Tree.met_more {S T:Di}(g:OkS (S++T))(g0:OkS S):∀{d:Nat} {x:Str},Tree d S x->met d (S++T) x=met d S x
 | 0,_,h=>absurd h (fun z=>z)
 |d+1,x,h=>by
  rcases h with⟨ls,h⟩|⟨Do,h,so,hr⟩
  ·rw[Gc g h.more,Gc g0 h]
  ·rw[jZ g h.more,jZ g0 h,Y9,Y9]
   congr 2
   exact ZS fun r m=>Tree.met_more g g0 (hr r m).2.1
def Tk (a b:Str×Str):Bool:=!decide (cs b.1<cs a.1)
def Uq (Do:Dg):Dg:=Do.mergeSort Tk
theorem leR_iff:Tk a b=true↔cs a.1<=cs b.1:=by
 unfold Tk;rw[Y3,Y4];exact JO
theorem FO (Do:Dg):(Uq Do).Pairwise (fun a b=>Tk a b=true) :=
 List.pairwise_mergeSort (le:=Tk) (fun a b c h1 h2=>leR_iff.mpr (List.le_trans (leR_iff.mp h1) (leR_iff.mp h2))) (fun a b=>by
  rw[Uf,leR_iff (a:=a) (b:=b),leR_iff (a:=b) (b:=a)];exact List.le_total _ _) Do
theorem yH (Do:Dg):(Uq Do).Perm Do:=List.mergeSort_perm Do Tk
theorem FN {Do:Dg}(nd:(Do.map (·.1)).Nodup):((Uq Do).map (·.1)).Pairwise Cy:=by
 have nd2:((Uq Do).map (·.1)).Nodup:=((yH Do).map _).nodup_iff.mpr nd;have h1:((Uq Do).map (·.1)).Pairwise (fun a b=>cs a<=cs b):=Z9.mpr ((FO Do).imp fun{a b} h=>leR_iff.mp h);exact(h1.and (ZF.mp nd2)).imp fun{a b} h=>by
  by_cases z:cs a<cs b
  ·exact z
  ·exact absurd (cs_inj (V7 h.1 (JO.mp z))) h.2
theorem Pa {Do ss:Dg}(nd:(Do.map (·.1)).Nodup)(p:ss.Perm Do)(so:ss.Pairwise (fun a b=>cs a.1<=cs b.1)):ss=Uq Do:=by
 refine Jm (le:=fun a b=>cs a.1<=cs b.1) (fun a b ha hb h1 h2=>?_) so ((FO Do).imp fun{a b} h=>leR_iff.mp h) (p.trans (yH Do).symm);have e:=cs_inj (V7 h1 h2);have ha:=p.mem_iff.mp ha;have hb:=(yH Do).mem_iff.mp hb;obtain⟨i,hi,rfl⟩:=ZN.mp ha;obtain⟨j,hj,rfl⟩:=ZN.mp hb;have:=(YX (h₀:=by simpa using hi) (h₁:=by simpa using hj) nd).mp (by rwa[ZQ,ZQ]);subst this;rfl
theorem xG {α β:Type}{f:α->β}{l:List α}(h:(l.map f).Nodup):l.Nodup:=by
 rw[ZF]at h ⊢;rw[Z9]at h;exact h.imp fun{a b} n e=>n (by rw[e])
def Uz (ls:Da):Prop:=ls.length<=63/\∀l∈ls,UU l=true
structure GoodF (d:Nat)(fs:Dk):Prop where
 lab:∀f∈fs,f.1≠[]/\f.1.length<=d/\(∀l∈f.1,zN l=true)/\Uz f.2
 nd:(fs.map (·.1)).Nodup
 pre:∀f∈fs,∀k∈fs,∀t,k.1=f.1++t->t=[]
def Ck (fs:Dk):List (Str×Da):=fs.filterMap fun f=>match f.1 with
 |[a]=>some (a,f.2)
 |_=>none
def U2 (l:Str)(f:Fi):Option Fi:=match f.1 with
 |a::b::r=>if a=l then some (b::r,f.2) else none
 |_=>none
def sub (fs:Dk)(l:Str):Dk:=fs.filterMap (U2 l)
def qE (L:Da)(p:Str):Da:=if p∈L then L else L++[p]
def Cn (fs:Dk):Da:=fs.foldl (fun L f=>match f.1 with
 |a::_::_=>qE L a
 |_=>L) []
theorem HG {q:Str}:q∈qE L p↔q∈L\/q=p:=by
 unfold qE
 split
 ·rename_i h;exact⟨.inl,fun z=>z.elim id (fun z=>z▸h)⟩
 ·rw[Zt,Q8]
theorem ML {L:Da}(h:L.Nodup):(qE L p).Nodup:=by
 unfold qE
 split
 ·exact h
 ·rename_i z;exact kA h z
theorem jT (fs:Dk)(f:Fi):Cn (fs++[f])=match f.1 with
 |a::_::_=>qE (Cn fs) a
 |_=>Cn fs:=by
 unfold Cn;rw[YL];rfl
theorem xI (fs:Dk):(Cn fs).Nodup/\∀l,l∈Cn fs↔∃f∈fs,∃b r,f.1=l::b::r:=by
 induction fs using snoc_ind with
 |h0=>exact⟨Yy,fun l=>⟨fun h=>(nomatch h),fun⟨f,hf,_⟩=>(nomatch hf)⟩⟩
 |h1 fs f ih =>
  rw[jT];have old:∀l,(∃k∈fs++[f],∃b r,k.1=l::b::r)↔(∃k∈fs,∃b r,k.1=l::b::r)\/∃b r,f.1=l::b::r:=fun l=>by
   constructor
   ·rintro⟨k,hk,z⟩
    rcases Zt.mp hk with q|q
    ·exact .inl ⟨k,q,z⟩
    ·rw[Q8.mp q]at z;exact .inr z
   ·rintro(⟨k,hk,z⟩|z)
    ·exact⟨k,Yo _ hk,z⟩
    ·exact⟨f,ZP _ (Q8.mpr rfl),z⟩
  match e:f.1 with
  |[]=>exact⟨ih.1,fun l=>by rw[old,ih.2,e];exact⟨.inl,fun z=>z.elim id fun⟨b,r,z⟩=>(nomatch z)⟩⟩
  |[a]=>exact⟨ih.1,fun l=>by rw[old,ih.2,e];exact⟨.inl,fun z=>z.elim id fun⟨b,r,z⟩=>(nomatch z)⟩⟩
  |a::b::r =>
   refine⟨ML ih.1,fun l=>?_⟩;show l∈qE (Cn fs) a↔_;rw[HG,ih.2,old,e];exact or_congr Iff.rfl ⟨fun z=>⟨b,r,by rw[z]⟩,fun⟨_,_,z⟩=>(List.cons.inj z).1.symm⟩
theorem mem_sub {k:Fi}:k∈sub fs l↔k.1≠[]/\(l::k.1,k.2)∈fs:=by
 unfold sub;rw[Jx];constructor
 ·rintro⟨f,hf,e⟩;unfold U2 at e
  split at e
  ·rename_i a b r q
   split at e
   ·rename_i z;subst z;cases e;refine⟨ZL _ _,?_⟩;have:f=(a::b::r,f.2):=Ln q rfl;rwa[←this]
   ·cases e
  ·cases e
 ·rintro⟨h0,hf⟩;refine⟨_,hf,?_⟩;cases q:k.1 with
  |nil=>exact absurd q h0
  |cons b r =>
   unfold U2;show(if l=l then some ((b::r,k.2):Fi) else none)=some k;rw[Zy rfl]
   congr 1
   exact Ln q.symm rfl
theorem mem_lvs {a:Str}{ls:Da}:(a,ls)∈Ck fs↔([a],ls)∈fs:=by
 unfold Ck;rw[Jx];constructor
 ·rintro⟨f,hf,e⟩
  split at e
  ·rename_i b q;cases e;have:f=([a],f.2):=Ln q rfl;rwa[←this]
  ·cases e
 ·intro h;exact⟨_,h,rfl⟩
theorem GoodF.sub {d:Nat}(h:GoodF (d+1) fs)(l:Str):GoodF d (sub fs l):=by
 refine⟨fun k hk=>?_,?_,fun k hk m hm t e=>?_⟩
 ·obtain⟨h0,hf⟩:=mem_sub.mp hk;obtain⟨_,h2,h3,h4⟩:=h.lab _ hf;have h2:k.1.length+1<=d+1:=h2;exact⟨h0,by omega,fun z hz=>h3 z (Za _ hz),h4⟩
 ·have:((An.sub fs l).map fun k=>l::k.1).Sublist (fs.map (·.1)):=by
   unfold An.sub;have:∀fs:Dk,((fs.filterMap (U2 l)).map fun k=>l::k.1).Sublist (fs.map (·.1)):=by
    intro fs
    induction fs with
    |nil=>exact List.Sublist.slnil
    |cons f fs ih =>
     rw[YQ,ZC];cases q:U2 l f with
     |none=>exact ih.cons _
     |some k =>
      show((l::k.1)::_).Sublist _;have e:l::k.1=f.1:=by
       unfold U2 at q
       split at q
       ·rename_i a b r e
        split at q
        ·rename_i z;subst z;cases q;exact e.symm
        ·cases q
       ·cases q
      rw[e];exact ih.cons₂ _
   exact this fs
  have:=this.nodup h.nd;have e:((An.sub fs l).map fun k=>l::k.1)=((An.sub fs l).map (·.1)).map (List.cons l):=by rw[ZB];rfl
  rw[e]at this;exact xG this
 ·obtain⟨_,hf⟩:=mem_sub.mp hk;obtain⟨_,hg⟩:=mem_sub.mp hm;exact h.pre _ hf _ hg t (by show l::m.1=l::k.1++t;rw[e];rfl)
noncomputable def Ce (a:List En×Dg)(f:Str×Da):List En×Dg:=((Ch a.1 (.leaf f.2)).1,a.2++[(f.1,(Ch a.1 (.leaf f.2)).2)])
noncomputable def Us:Nat->Di->Dk->List En×Str
 | 0,S,_=>(S,"")
 |d+1,S,fs =>
  let b:=(Cn fs).foldl (fun a l=>((Us d a.1 (sub fs l)).1,a.2++[(l,(Us d a.1 (sub fs l)).2)])) ((Ck fs).foldl Ce (S,[]))
  Ch b.1 (.tree (Uq b.2))
structure Fo (d:Nat)(S0 S:Di)(Do:Dg)(ps:List (Str×Dk)):Prop where
 ok:OkS S
 new:∃T,S=S0++T/\∀e∈T,∃r∈Do,e.nm∈met d S r.2
 lab:Do.map (·.1)=ps.map (·.1)
 rd:∀(i:Nat) (r:Str×Str) (p:Str×Dk),Do[i]?=some r->ps[i]?=some p->Tree d S r.2/\∀f,f∈reads d S r.2↔f∈p.2
theorem Fo.nil (g:OkS S):Fo d S S [] []:=⟨g,⟨[],(Zs _).symm,fun e he=>(nomatch he)⟩,rfl,fun i r p h=>(nomatch h)⟩
theorem Fo.len (h:Fo d S0 S Do ps):Do.length=ps.length:=by
 have:=congrArg List.length h.lab;rw[Q7,Q7]at this;exact this
theorem Fo.step {T:Di}(h:Fo d S0 S Do ps){l n:Str}{g:Dk}(ok:OkS (S++T))(new:∀e∈T,e.nm∈met d (S++T) n)(tr:Tree d (S++T) n)(rd:∀f,f∈reads d (S++T) n↔f∈g):Fo d S0 (S++T) (Do++[(l,n)]) (ps++[(l,g)]):=by
 obtain⟨T0,e0,h0⟩:=h.new;refine⟨ok,⟨T0++T,by rw[←Z0,←e0],fun e he=>?_⟩,by rw[Zl,Zl,h.lab];rfl,fun i r p hi hp=>?_⟩
 ·rcases Zt.mp he with z|z
  ·obtain⟨r,hr,m⟩:=h0 e z;obtain⟨i,hi⟩:=YE.mp hr;have hl:=(Zu.mp hi).1;obtain⟨t,_⟩:=h.rd i r _ hi (Zn (by rwa[←h.len]));exact⟨r,Yo _ hr,by rw[t.met_more ok h.ok];exact m⟩
  ·exact⟨(l,n),ZP _ (Q8.mpr rfl),new e z⟩
 ·by_cases z:i<Do.length
  ·rw[ZR z]at hi;rw[ZR (by rwa[←h.len])]at hp;obtain⟨t,k⟩:=h.rd i r p hi hp;obtain⟨t2,k2⟩:=t.more ok h.ok;exact⟨t2,by rw[k2];exact k⟩
  ·rw[ZU (by omega)]at hi;rw[ZU (by rw[←h.len];omega)]at hp;have z0:i-Do.length=0:=by
    rcases Je (i-Do.length) with q|q
    ·exact q
    ·rw[List.getElem?_eq_none_iff.mpr (by show 1<=_;omega)]at hi;cases hi
   rw[z0]at hi;rw[←h.len,z0]at hp;cases hi;cases hp;exact⟨tr,rd⟩
theorem flat_len:∀rs:Dg,(z7 rs).length=2*rs.length
 |[]=>rfl
 |r::rs=>by
  show(z7 rs).length+1+1=2*(rs.length+1);rw[flat_len rs];omega
theorem Fm:∀{rs:Dg} {p:Str},p∈z7 rs->∃r∈rs,p=r.1\/p=r.2
 |r::rs,p,h=>by
  rcases Zi.mp h with q|h
  ·exact⟨r,Zc ..,.inl q⟩
  ·rcases Zi.mp h with q|h
   ·exact⟨r,Zc ..,.inr q⟩
   ·obtain⟨s,hs,q⟩:=Fm h;exact⟨s,Za _ hs,q⟩
structure PutOk (d:Nat)(S:Di)(fs:Dk)(q:List En×Str):Prop where
 ok:OkS q.1
 new:∃T,q.1=S++T/\∀e∈T,e.nm∈met d q.1 q.2
 tree:Tree d q.1 q.2
 rd:∀f,f∈reads d q.1 q.2↔f∈fs
 node:∃Do,At q.1 q.2 (.tree Do)
theorem U7 (h:zN x=true):Ok 1000 x:=by
 unfold zN at h;rw[Zk,Zk,ZM,ZM]at h;refine⟨by omega,?_⟩;rw[xM];intro c hc;have:=ZI.mp h.2 c hc;unfold UG at this;simp only[Zk,ZM]at this;omega
theorem MG (g:OkS S){Do:Dg}(hl:Do.length<=63)(h:∀r∈Do,zN r.1=true/\r.2∈S.map En.nm):(Th.tree Do).Good:=by
 refine⟨by show(z7 Do).length<=1000;rw[flat_len];omega,fun p hp=>?_⟩;obtain⟨r,hr,q⟩:=Fm hp;obtain⟨h1,h2⟩:=h r hr
 rcases q with q|q
 ·rw[q];exact U7 h1
 ·obtain⟨e,he,en⟩:=Zb.mp h2;rw[q,←en];exact g.nm he
theorem Fo.put (h:Fo d S0 S Do ps)(hl:Do.length<=63)(nd:(ps.map (·.1)).Nodup)(lb:∀p∈ps,zN p.1=true/\p.2≠[])(ls:S.length<2000):PutOk (d+1) S0 (ps.flatMap fun p=>p.2.map fun f=>(p.1::f.1,f.2)) (Ch S (.tree (Uq Do)))/\(Ch S (.tree (Uq Do))).1.length<=S.length+1:=by
 have at_:∀r∈Do,∃p∈ps,r.1=p.1/\Tree d S r.2/\∀f,f∈reads d S r.2↔f∈p.2:=fun r hr=>by
  obtain⟨i,hi⟩:=YE.mp hr;have hl:=(Zu.mp hi).1;have hp:=Zn (l:=ps) (i:=i) (by rwa[←h.len]);have e:=congrArg (fun l=>l[i]?) h.lab;simp only[Zp,hi,hp,Yt]at e;exact⟨_,YB _,Option.some.inj e,h.rd i r _ hi hp⟩
 have ta:∀p∈ps,∃r∈Do,r.1=p.1/\Tree d S r.2/\∀f,f∈reads d S r.2↔f∈p.2:=fun p hp'=>by
  obtain⟨i,hp⟩:=YE.mp hp';have hl:=(Zu.mp hp).1;have hi:=Zn (l:=Do) (i:=i) (by rwa[h.len]);have e:=congrArg (fun l=>l[i]?) h.lab;simp only[Zp,hi,hp,Yt]at e;exact⟨_,YB _,Option.some.inj e,h.rd i _ p hi hp⟩
 have ms:∀{r},r∈Uq Do↔r∈Do:=(yH Do).mem_iff;have gt:(Th.tree (Uq Do)).Good:=MG h.ok (by rwa[(yH Do).length_eq]) fun r hr=>by
  obtain⟨p,hp,e,t,_⟩:=at_ r (ms.mp hr);exact⟨by rw[e];exact(lb p hp).1,t.mem⟩
 obtain⟨ok,at1,l1,T,eT,hT⟩:=vI h.ok gt ls;refine⟨?_,l1⟩;have ne:∀r∈Do,reads d S r.2≠[]:=fun r hr=>by
  obtain⟨p,hp,e,t,k⟩:=at_ r hr;intro z;refine(lb p hp).2 (Jw.mpr fun f hf=>?_);rw[←k,z]at hf;cases hf
 rw[eT]at ok at1;have mo:∀r∈Do,Tree d (S++T) r.2/\reads d (S++T) r.2=reads d S r.2:=fun r hr=>by
  obtain⟨p,hp,e,t,k⟩:=at_ r hr;exact t.more ok h.ok
 obtain⟨T0,e0,h0⟩:=h.new;refine⟨by rw[eT];exact ok,⟨T0++T,by rw[eT,e0,Z0],fun e he=>?_⟩,?_,fun f=>?_,⟨_,by rw[eT];exact at1⟩⟩
 ·rw[eT,jZ ok at1]
  rcases Zt.mp he with z|z
  ·obtain⟨r,hr,m⟩:=h0 e z;obtain⟨p,hp,_,t,_⟩:=at_ r hr;exact Za _ (Z1.mpr ⟨r,ms.mpr hr,by rw[t.met_more ok h.ok];exact m⟩)
  ·rw[hT e z];exact Zc ..
 ·rw[eT];refine .inr ⟨_,at1,FN (by rwa[h.lab]),fun r hr=>?_⟩;have hr:=ms.mp hr;obtain⟨p,hp,e,t,_⟩:=at_ r hr;exact⟨by rw[e];exact(lb p hp).1,(mo r hr).1,by rw[(mo r hr).2];exact ne r hr⟩
 ·rw[eT,yC ok at1,Z1,Z1];constructor
  ·rintro⟨r,hr,hf⟩;have hr:=ms.mp hr;obtain⟨p,hp,e,t,k⟩:=at_ r hr;obtain⟨f',hf',rfl⟩:=Zb.mp hf;rw[(mo r hr).2,k]at hf';exact⟨p,hp,Zb.mpr ⟨f',hf',by rw[e]⟩⟩
  ·rintro⟨p,hp,hf⟩;obtain⟨r,hr,e,t,k⟩:=ta p hp;obtain⟨f',hf',rfl⟩:=Zb.mp hf;exact⟨r,ms.mpr hr,Zb.mpr ⟨f',by rw[(mo r hr).2,k];exact hf',by rw[e]⟩⟩
def wt (fs:Dk):Nat:=(fs.map fun f=>f.1.length).sum
theorem Km (a b:Dk):wt (a++b)=wt a+wt b:=by
 unfold wt;rw[Zl,Ul]
theorem IK (h:UU x=true):Ok 1000 x:=by
 unfold UU at h;rw[Zk,ZM]at h;refine⟨by omega,?_⟩;rw[xM];intro c hc;have:=ZI.mp h.2 c hc;unfold UE at this;simp only[Zk,ZM]at this;omega
theorem XQ (h:Uz ls):(Th.leaf ls).Good:=⟨by show ls.length<=1000;have:=h.1;omega,fun p hp=>IK (h.2 p hp)⟩
theorem XW {d:Nat}:∀(vs:List (Str×Da)) {S:Di} {Do:Dg} {ps:List (Str×Dk)},Fo (d+1) S0 S Do ps->(∀v∈vs,Uz v.2)->S.length+vs.length<=2000 ->
  Fo (d+1) S0 (vs.foldl Ce (S,Do)).1 (vs.foldl Ce (S,Do)).2 (ps++vs.map fun v=>(v.1,[([],v.2)]))/\(vs.foldl Ce (S,Do)).1.length<=S.length+vs.length
 |[],S,Do,ps,h,_,_=>⟨by rw[Vh,Zs];exact h,Ze _⟩
 |v::vs,S,Do,ps,h,hv,hl=>by
  have hl:S.length+(vs.length+1)<=2000:=hl;obtain⟨ok,at1,l1,T,eT,hT⟩:=vI h.ok (XQ (hv v (Zc ..))) (by omega);rw[JF];show Fo (d+1) S0 (vs.foldl Ce (Ce (S,Do) v)).1 (vs.foldl Ce (Ce (S,Do) v)).2 _/\(vs.foldl Ce (Ce (S,Do) v)).1.length<=S.length+(vs.length+1);have e:Ce (S,Do) v=((Ch S (.leaf v.2)).1,Do++[(v.1,(Ch S (.leaf v.2)).2)]):=rfl;rw[e,ZC,show ps++(v.1,[(([],v.2):Fi)])::vs.map (fun v=>(v.1,[(([],v.2):Fi)]))=(ps++[(v.1,[(([],v.2):Fi)])])++vs.map (fun v=>(v.1,[(([],v.2):Fi)])) by simp];have st:Fo (d+1) S0 (Ch S (.leaf v.2)).1 (Do++[(v.1,(Ch S (.leaf v.2)).2)]) (ps++[(v.1,[(([],v.2):Fi)])]):=by
   generalize (Ch S (.leaf v.2)).2=n at at1 hT ⊢;rw[eT]at ok at1 ⊢;exact h.step ok (fun e he=>by rw[hT e he];exact Fp) (.inl ⟨_,at1⟩) (fun f=>by rw[zR ok at1])
  obtain⟨f1,f2⟩:=XW vs st (fun w hw=>hv w (Za _ hw)) (by omega);exact⟨f1,by omega⟩
noncomputable def Cj (d:Nat)(fs:Dk)(a:List En×Dg)(l:Str):List En×Dg:=((Us d a.1 (sub fs l)).1,a.2++[(l,(Us d a.1 (sub fs l)).2)])
theorem K2 (d:Nat)(S:Di)(fs:Dk):Us (d+1) S fs=Ch ((Cn fs).foldl (Cj d fs) ((Ck fs).foldl Ce (S,[]))).1 (.tree (Uq ((Cn fs).foldl (Cj d fs) ((Ck fs).foldl Ce (S,[]))).2)):=rfl
theorem Hl {S0:Di}:∀(ls:Da) (H:∀l∈ls,∀S,OkS S->S.length+1+wt (sub fs l)<=2000->PutOk e S (sub fs l) (Us d S (sub fs l))/\(Us d S (sub fs l)).1.length<=S.length+1+wt (sub fs l)) {S:Di} {Do:Dg} {ps:List (Str×Dk)},
  Fo e S0 S Do ps->S.length+(ls.map fun l=>1+wt (sub fs l)).sum<=2000 ->
  Fo e S0 (ls.foldl (Cj d fs) (S,Do)).1 (ls.foldl (Cj d fs) (S,Do)).2 (ps++ls.map fun l=>(l,sub fs l))/\(ls.foldl (Cj d fs) (S,Do)).1.length<=S.length+(ls.map fun l=>1+wt (sub fs l)).sum
 |[],_,S,Do,ps,h,_=>⟨by rw[Vh,Zs];exact h,Ze _⟩
 |l::ls,H,S,Do,ps,h,hl=>by
  rw[ZC,Jl]at hl;obtain⟨pk,l1⟩:=H l (Zc ..) S h.ok (by omega);rw[JF,ZC,ZC,Jl];have e':Cj d fs (S,Do) l=((Us d S (sub fs l)).1,Do++[(l,(Us d S (sub fs l)).2)]):=rfl;rw[e',show ps++(l,sub fs l)::ls.map (fun l=>(l,sub fs l))=(ps++[(l,sub fs l)])++ls.map (fun l=>(l,sub fs l)) by simp];obtain⟨ok,⟨T,eT,hT⟩,tr,rd,_⟩:=pk;have st:Fo e S0 (Us d S (sub fs l)).1 (Do++[(l,(Us d S (sub fs l)).2)]) (ps++[(l,sub fs l)]):=by
   generalize (Us d S (sub fs l)).2=n at hT tr rd ⊢;rw[eT]at ok hT tr rd ⊢;exact h.step ok hT tr rd
  obtain⟨f1,f2⟩:=Hl ls (fun w hw=>H w (Za _ hw)) st (by omega);exact⟨f1,by omega⟩
theorem FX {g g':Str->Nat}{a:Str}{c:Nat}(h:∀l,l≠a->g' l=g l)(ha:g' a<=g a+c):∀{L:Da},L.Nodup->(L.map g').sum<=(L.map g).sum+c
 |[],_=>ZT _
 |l::L,nd=>by
  rw[Z8]at nd;rw[ZC,ZC,Jl,Jl]
  by_cases z:l=a
  ·subst z;have:L.map g'=L.map g:=ZS fun m hm=>h m fun q=>nd.1 (q▸hm);rw[this];omega
  ·have:=FX h ha nd.2;rw[h l z];omega
theorem sub_snoc (fs:Dk)(f:Fi)(l:Str):sub (fs++[f]) l=sub fs l++(U2 l f).toList:=by
 unfold sub;rw[List.filterMap_append]
 congr 1
theorem Ps {f:Fi}(h:f.1=[]):U2 l f=none:=by unfold U2;rw[h]
theorem FV {f:Fi}{a:Str}(h:f.1=[a]):U2 l f=none:=by unfold U2;rw[h]
theorem uZ {f:Fi}{a b:Str}{r:Da}(h:f.1=a::b::r):U2 l f=if a=l then some (b::r,f.2) else none:=by unfold U2;rw[h]
theorem uW (fs:Dk)(f:Fi):Ck (fs++[f])=Ck fs++(match f.1 with|[a]=>[(a,f.2)]|_=>[]):=by
 unfold Ck;rw[List.filterMap_append]
 congr 1
 rw[YQ]
 match f.1 with
 |[]=>rfl
 |[a]=>rfl
 |a::b::r=>rfl
theorem many (fs:Dk):(Ck fs).length+((Cn fs).map fun l=>1+wt (sub fs l)).sum<=wt fs:=by
 induction fs using snoc_ind with
 |h0=>exact Ze _
 |h1 fs f ih =>
  have same:(∀l,U2 l f=none)->∀l,sub (fs++[f]) l=sub fs l:=fun h l=>by rw[sub_snoc,h l];exact Zs _
  rw[Km,uW,jT,Zj];have w1:wt [f]=f.1.length:=by unfold wt;simp
  rw[w1]
  match e:f.1 with
  |[] =>
   have:=same fun l=>Ps e;rw[show(fun l=>1+wt (sub (fs++[f]) l))=fun l=>1+wt (sub fs l) from funext fun l=>by rw[this l]];show(Ck fs).length+0+((Cn fs).map fun l=>1+wt (sub fs l)).sum<=wt fs+0;omega
  |[a] =>
   have:=same fun l=>FV e;rw[show(fun l=>1+wt (sub (fs++[f]) l))=fun l=>1+wt (sub fs l) from funext fun l=>by rw[this l]];show(Ck fs).length+1+((Cn fs).map fun l=>1+wt (sub fs l)).sum<=wt fs+1;omega
  |a::b::r =>
   show(Ck fs).length+0+((qE (Cn fs) a).map fun l=>1+wt (sub (fs++[f]) l)).sum<=wt fs+(r.length+1+1);have hne:∀l,l≠a->1+wt (sub (fs++[f]) l)=1+wt (sub fs l):=fun l hl=>by
    rw[sub_snoc,uZ e,ZA (EA hl)];show 1+wt (sub fs l++[])=_;rw[Zs]
   have ha:1+wt (sub (fs++[f]) a)=1+wt (sub fs a)+(r.length+1):=by
    rw[sub_snoc,uZ e,Zy rfl];show 1+wt (sub fs a++[(b::r,f.2)])=_;rw[Km];show 1+(wt (sub fs a)+((b::r).length+0))=_;rw[Zh];omega
   have bump:=FX (g:=fun l=>1+wt (sub fs l)) (g':=fun l=>1+wt (sub (fs++[f]) l)) (a:=a) (c:=r.length+1) hne (Vg ha) (xI fs).1;unfold qE
   split
   ·omega
   ·rename_i z;rw[Zl,Ul];have s0:sub fs a=[]:=Jw.mpr fun k hk=>by
     obtain⟨h0,hf⟩:=mem_sub.mp hk;refine z (((xI fs).2 a).mpr ⟨_,hf,?_⟩);cases q:k.1 with
     |nil=>exact absurd q h0
     |cons b r=>exact⟨b,r,rfl⟩
    have same2:(Cn fs).map (fun l=>1+wt (sub (fs++[f]) l))=(Cn fs).map (fun l=>1+wt (sub fs l)):=ZS fun l hl=>hne l fun q=>z (q▸hl);rw[same2];show(Ck fs).length+0+(((Cn fs).map fun l=>1+wt (sub fs l)).sum+((1+wt (sub (fs++[f]) a))+0))<=_;rw[ha,s0];show _+(_+(1+0+(r.length+1)+0))<=_;omega
def pieces (fs:Dk):List (Str×Dk):=(Ck fs).map (fun v=>(v.1,[([],v.2)]))++(Cn fs).map fun l=>(l,sub fs l)
theorem HN (g:GoodF d fs)(f:Fi):f∈((pieces fs).flatMap fun p=>p.2.map fun k=>(p.1::k.1,k.2))↔f∈fs:=by
 rw[Z1];constructor
 ·rintro⟨p,hp,hf⟩;obtain⟨k,hk,rfl⟩:=Zb.mp hf
  rcases Zt.mp hp with z|z
  ·obtain⟨v,hv,rfl⟩:=Zb.mp z;rw[Q8.mp hk];exact mem_lvs.mp hv
  ·obtain⟨l,hl,rfl⟩:=Zb.mp z;exact(mem_sub.mp hk).2
 ·intro hf;obtain⟨h0,_⟩:=g.lab f hf
  match e:f.1 with
  |[]=>exact absurd e h0
  |[a] =>
   have ef:f=([a],f.2):=Ln e rfl;exact⟨(a,[([],f.2)]),Yo _ (Zb.mpr ⟨(a,f.2),mem_lvs.mpr (ef▸hf),rfl⟩),Zb.mpr ⟨([],f.2),Q8.mpr rfl,ef.symm⟩⟩
  |a::b::r =>
   have ef:f=(a::b::r,f.2):=Ln e rfl;exact⟨(a,sub fs a),ZP _ (Zb.mpr ⟨a,((xI fs).2 a).mpr ⟨f,hf,b,r,e⟩,rfl⟩),Zb.mpr ⟨(b::r,f.2),mem_sub.mpr ⟨ZL _ _,ef▸hf⟩,ef.symm⟩⟩
theorem Ov {fs:Dk}(nd:(fs.map (·.1)).Nodup):((Ck fs).map (·.1)).Nodup:=by
 have:((Ck fs).map fun v=>[v.1]).Sublist (fs.map (·.1)):=by
  unfold Ck
  induction fs with
  |nil=>exact List.Sublist.slnil
  |cons f fs ih =>
   rw[ZC,Z8]at nd;rw[YQ,ZC]
   match e:f.1 with
   |[]=>exact(ih nd.2).cons _
   |[a]=>exact(ih nd.2).cons₂ _
   |a::b::r=>exact(ih nd.2).cons _
 have:=this.nodup nd;have e:((Ck fs).map fun v=>[v.1])=((Ck fs).map (·.1)).map fun a=>[a]:=by rw[ZB];rfl
 rw[e]at this;exact xG this
theorem Xp (g:GoodF d fs):((pieces fs).map (·.1)).Nodup:=by
 unfold pieces;rw[Zl,ZB,ZB,Ye];refine⟨Ov g.nd,by rw[show((fun p:Str×Dk=>p.1)∘fun l=>(l,sub fs l))=id from rfl,VE];exact(xI fs).1,fun a ha b hb z=>?_⟩;subst z;obtain⟨v,hv,e⟩:=Zb.mp ha;obtain⟨l,hl,rfl⟩:=Zb.mp hb;have e:v.1=l:=e;obtain⟨f,hf,b,r,ef⟩:=((xI fs).2 l).mp hl;have hv:([v.1],v.2)∈fs:=mem_lvs.mp hv;have:=g.pre _ hv f hf (b::r) (by rw[ef,e];rfl);cases this
theorem G2 (g:GoodF d fs):∀p∈pieces fs,zN p.1=true/\p.2≠[]:=fun p hp=>by
 rcases Zt.mp hp with z|z
 ·obtain⟨v,hv,rfl⟩:=Zb.mp z;exact⟨(g.lab _ (mem_lvs.mp hv)).2.2.1 _ (Q8.mpr rfl),ZL _ _⟩
 ·obtain⟨l,hl,rfl⟩:=Zb.mp z;obtain⟨f,hf,b,r,ef⟩:=((xI fs).2 l).mp hl;refine⟨(g.lab f hf).2.2.1 _ (by rw[ef];exact Zc ..),List.ne_nil_of_mem (a:=(b::r,f.2)) (mem_sub.mpr ⟨ZL _ _,?_⟩)⟩;have:f=(l::b::r,f.2):=Ln ef rfl;exact this▸hf
theorem sub_len:(sub fs l).length<=fs.length:=List.length_filterMap_le _ _
theorem qO (fs:Dk):(Ck fs).length+(Cn fs).length<=fs.length:=by
 induction fs using snoc_ind with
 |h0=>exact Ze _
 |h1 fs f ih =>
  rw[uW,jT,Zj,Zj]
  match e:f.1 with
  |[]=>show(Ck fs).length+0+(Cn fs).length<=fs.length+1;omega
  |[a]=>show(Ck fs).length+1+(Cn fs).length<=fs.length+1;omega
  |a::b::r =>
   show _+0+(qE (Cn fs) a).length<=_+1;unfold qE
   split
   ·omega
   ·rw[Zj];show _+0+(_+1)<=_+1;omega
theorem FA {d e:Nat}(ok:OkS S)(g:GoodF n fs)(hl:fs.length<=63)(hs:S.length+1+wt fs<=2000)
  (H:∀l∈Cn fs,∀S,OkS S->S.length+1+wt (sub fs l)<=2000->PutOk (e+1) S (sub fs l) (Us d S (sub fs l))/\(Us d S (sub fs l)).1.length<=S.length+1+wt (sub fs l)) :
  PutOk (e+2) S fs (Us (d+1) S fs)/\(Us (d+1) S fs).1.length<=S.length+1+wt fs:=by
 have hm:=many fs;have pl:=qO fs;obtain⟨a1,a2⟩:=XW (d:=e) (Ck fs) (Fo.nil ok) (fun v hv=>(g.lab _ (mem_lvs.mp hv)).2.2.2) (by omega);have b:=Hl (Cn fs) H (S:=((Ck fs).foldl Ce (S,[])).1) (Do:=((Ck fs).foldl Ce (S,[])).2) a1 (by omega);obtain⟨b1,b2⟩:=b;rw[K2];rw[VH]at b1;have ep:pieces fs=(Ck fs).map (fun v=>(v.1,[(([],v.2):Fi)]))++(Cn fs).map fun l=>(l,sub fs l):=rfl;rw[←ep]at b1;have b1:Fo (e+1) S ((Cn fs).foldl (Cj d fs) ((Ck fs).foldl Ce (S,[]))).1 ((Cn fs).foldl (Cj d fs) ((Ck fs).foldl Ce (S,[]))).2 (pieces fs):=b1;have b2:((Cn fs).foldl (Cj d fs) ((Ck fs).foldl Ce (S,[]))).1.length<=_:=b2;generalize (Cn fs).foldl (Cj d fs) ((Ck fs).foldl Ce (S,[]))=q at b1 b2 ⊢;have rl:q.2.length<=63:=by
  rw[b1.len,ep,Zj,Q7,Q7];omega
 obtain⟨pk,pl⟩:=b1.put rl (Xp g) (G2 g) (by omega);exact⟨⟨pk.ok,pk.new,pk.tree,fun f=>by rw[pk.rd,HN g],pk.node⟩,by omega⟩
theorem vH:∀(d:Nat) {S:Di} {fs:Dk},OkS S->GoodF (d+1) fs->fs.length<=63->S.length+1+wt fs<=2000->PutOk (d+2) S fs (Us (d+1) S fs)/\(Us (d+1) S fs).1.length<=S.length+1+wt fs
 | 0,S,fs,ok,g,hl,hs=>FA ok g hl hs fun l hl=>by
  obtain⟨f,hf,b,r,ef⟩:=((xI fs).2 l).mp hl;have:=(g.lab f hf).2.1;rw[ef,Zh,Zh]at this;omega
 |d+1,S,fs,ok,g,hl,hs=>FA ok g hl hs fun l _ S' ok' hs'=>vH d ok' (g.sub l) (Z5 sub_len hl) hs'
theorem FD {T:Di}(a:PutOk d S fs q)(b:PutOk d S' gs q')(e:q'.1=q.1++T):q.2=q'.2↔∀f,f∈fs↔f∈gs:=by
 have ok:=b.ok;rw[e]at ok;obtain⟨t1,r1⟩:=a.tree.more ok a.ok;constructor
 ·intro z f;rw[←a.rd,←b.rd,←z,e,r1]
 ·intro z;have t2:=b.tree;have r2:=b.rd;rw[e]at t2 r2;refine Tree.one ok t1 t2 (No (t1.rise ok).1 (t2.rise ok).1 fun f=>?_);rw[r1,a.rd,r2,z]
end An
namespace AxK
structure TO (β:Type) where
 lt:β->β->Bool
 asy:∀a b,lt a b=true->lt b a=false
 tra:∀a b c,lt b a=false->lt c b=false->lt c a=false
 ant:∀a b,lt a b=false->lt b a=false->a=b
section
variable {β γ:Type}{O:TO β}
def TO.le (O:TO β)(a b:β):Prop:=O.lt b a=false
theorem TO.refl (O:TO β)(a:β):O.le a a:=by
 show O.lt a a=false;cases h:O.lt a a with
 |false=>rfl
 |true=>exact h.symm.trans (O.asy a a h)
theorem TO.of_lt {a b:β}(h:O.lt a b=true):O.le a b:=O.asy a b h
theorem TO.trans {a b c:β}(h1:O.le a b)(h2:O.le b c):O.le a c:=O.tra a b c h1 h2
def TO.nat:TO Nat:=⟨fun a b=>decide (a<b),fun a b h=>by have:=Zx h;exact Zr (by omega),fun a b c h1 h2=>by
 have:=Jf h1;have:=Jf h2;exact Zr (by omega),fun a b h1 h2=>by
 have:=Jf h1;have:=Jf h2;omega⟩
def yL (O:TO β):List β->List β->Bool
 |[],[]=>false
 |[],_::_=>true
 |_::_,[]=>false
 |a::as,b::bs=>O.lt a b||(!O.lt b a&&yL O as bs)
theorem Fh (O:TO β):∀a b:List β,yL O a b=true->yL O b a=false
 |[],[],h=>nomatch h
 |[],_::_,_=>rfl
 |_::_,[],h=>nomatch h
 |a::as,b::bs,h=>by
  unfold yL at h ⊢;cases h1:O.lt a b with
  |true =>
   rw[O.asy _ _ h1];simp
  |false =>
   rw[h1]at h;have h:O.lt b a=false/\yL O as bs=true:=by simpa using h
   rw[h.1,Fh O as bs h.2];rfl
theorem Fg (O:TO β):∀a b:List β,yL O a b=false->yL O b a=false->a=b
 |[],[],_,_=>rfl
 |[],_::_,h,_=>nomatch h
 |_::_,[],_,h=>nomatch h
 |a::as,b::bs,h1,h2=>by
  unfold yL at h1 h2;have h1:=YJ.mp h1;have h2:=YJ.mp h2;have e:=O.ant _ _ h1.1 h2.1;have g1:yL O as bs=false:=by have:=h1.2;rw[h2.1]at this;simpa using this
  have g2:yL O bs as=false:=by have:=h2.2;rw[h1.1]at this;simpa using this
  rw[e,Fg O as bs g1 g2]
theorem Fj (O:TO β):∀a b c:List β,yL O b a=false->yL O c b=false->yL O c a=false
 |[],[],c,_,h=>h
 |[],_::_,[],_,_=>rfl
 |[],_::_,_::_,_,_=>rfl
 |_::_,[],c,h,_=>nomatch h
 |_::_,_::_,[],_,h=>nomatch h
 |a::as,b::bs,c::cs,h1,h2=>by
  unfold yL at h1 h2 ⊢;have h1:=YJ.mp h1;have h2:=YJ.mp h2;rw[O.tra _ _ _ h1.1 h2.1,VX];cases q:O.lt a c with
  |true=>rfl
  |false =>
   have e1:a=c:=O.ant _ _ q (O.tra _ _ _ h1.1 h2.1);have e2:O.lt a b=false:=by rw[e1];exact h2.1
   have e3:O.lt b c=false:=by rw[←e1];exact h1.1
   have g1:yL O bs as=false:=by have:=h1.2;rw[e2]at this;simpa using this
   have g2:yL O cs bs=false:=by have:=h2.2;rw[e3]at this;simpa using this
   rw[Fj O as bs cs g1 g2];rfl
def TO.list (O:TO β):TO (List β):=⟨yL O,Fh O,Fj O,Fg O⟩
def TO.by_ (O:TO β)(f:γ->β)(h:∀a b,f a=f b->a=b):TO γ:=⟨fun a b=>O.lt (f a) (f b),fun a b=>O.asy _ _,fun a b c=>O.tra _ _ _,fun a b h1 h2=>h a b (O.ant _ _ h1 h2)⟩
end
open PySem PySem.W PyProof.Rows
def run {β:Type}(lt:Nat->Nat->Bool):KasT β->β
 | .ret a=>a
 | .ask i j k=>run lt (k (lt i j))
theorem run_bind {β γ:Type}{f:β->KasT γ}:∀t:KasT β,run lt (t.bind f)=run lt (f (run lt t))
 | .ret _=>rfl
 | .ask i j k=>run_bind (k (lt i j))
section
variable {β:Type}{O:TO β}{key:Nat->β}
def kn (key:Nat->β)(p:Array Nat)(i:Nat):β:=key (p.getD i 0)
def Up (O:TO β)(key:Nat->β)(p:Array Nat)(n:Nat):Prop:=∀i j,i<=j->j<n->O.le (kn key p i) (kn key p j)
def Down (O:TO β)(key:Nat->β)(p:Array Nat)(n:Nat):Prop:=∀i j,i<=j->j<n->O.le (kn key p j) (kn key p i)
theorem Fa {p q:Array Nat}{i j:Nat}(h:p[i]?=q[j]?):kn key p i=kn key q j:=by
 unfold kn;rw[ZV,ZV,h]
theorem Up.snoc {n:Nat}(h1:1<=n)(h:Up O key p n)(hl:O.le (kn key p (n-1)) (kn key p n)):Up O key p (n+1):=fun i j hij hj=>by
 by_cases z:j<n
 ·exact h i j hij z
 ·have z:j=n:=by omega
  subst z
  by_cases z:i=j
  ·subst z;exact O.refl _
  ·exact TO.trans (h i (j-1) (by omega) (by omega)) hl
theorem Down.snoc {n:Nat}(h1:1<=n)(h:Down O key p n)(hl:O.le (kn key p n) (kn key p (n-1))):Down O key p (n+1):=fun i j hij hj=>by
 by_cases z:j<n
 ·exact h i j hij z
 ·have z:j=n:=by omega
  subst z
  by_cases z:i=j
  ·subst z;exact O.refl _
  ·exact TO.trans hl (h i (j-1) (by omega) (by omega))
theorem one_up (p:Array Nat):Up O key p 1:=fun i j hij hj=>by
 have:i=j:=by omega
 subst this;exact O.refl _
theorem Ha:∀(f n:Nat),1<=n->Up O key p n->∃m,run (fun i j=>O.lt (key i) (key j)) (kas_asc p f n)=m/\n<=m/\m<=n+f/\Up O key p m/\(m=n+f\/O.lt (kn key p m) (kn key p (m-1))=true)
 | 0,n,_,h=>⟨n,rfl,Ze _,Ze _,h,.inl rfl⟩
 |f+1,n,h1,h=>by
  unfold kas_asc;show∃m,run _ (if O.lt (kn key p n) (kn key p (n-1))=true then KasT.ret n else kas_asc p f (n+1))=m/\_;cases q:O.lt (kn key p n) (kn key p (n-1)) with
  |true=>exact⟨n,by rw[Zy rfl];rfl,Ze _,by omega,h,.inr q⟩
  |false =>
   rw[ZA (by decide)];obtain⟨m,e,a,b,c,d⟩:=Ha f (n+1) (by omega) (h.snoc h1 q);exact⟨m,e,by omega,by omega,c,d.imp (fun z=>by omega) id⟩
theorem HU {p:Array Nat}{i j:Nat}(hj:j<=p.size)(k:Nat):kn key (kas_rev p i j) k=if i<=k/\k<j then kn key p (i+j-1-k) else kn key p k:=by
 have e:=getElem?_mirror_all (i:=i) hj k;unfold kas_rev
 by_cases z:i<=k/\k<j
 ·rw[Zy z]at e ⊢;exact Fa e
 ·rw[ZA z]at e ⊢;exact Fa e
theorem Ge {p:Array Nat}{i j:Nat}(hj:j<=p.size)(h:∀k,i<=k->k<j->kn key p k=kn key p (j-1))(k:Nat):kn key (kas_rev p i j) k=kn key p k:=by
 rw[HU hj]
 split
 ·rw[h _ (by omega) (by omega),h k (by omega) (by omega)]
 ·rfl
theorem xH (p:Array Nat)(i j:Nat):(kas_rev p i j).Perm p:=mirror_perm _ _ _ _
theorem Down.of_kn (h:Down O key p n)(e:∀k,kn key q k=kn key p k):Down O key q n:=fun i j h1 h2=>by
 rw[e,e];exact h i j h1 h2
def Flat (key:Nat->β)(p:Array Nat)(n q:Nat):Prop:=q+1<=n/\∀i,n-(q+1)<=i->i<n->kn key p i=kn key p (n-1)
theorem X8 {n:Nat}(h:1<=n):Flat key p n 0:=⟨h,fun i h1 h2=>by
 have:i=n-1:=by omega
 rw[this]⟩
theorem XR:∀(f:Nat) (p:Array Nat) (n q:Nat),1<=n->n+f<=p.size->Down O key p n->Flat key p n q ->
  ∃p' n' q',run (fun i j=>O.lt (key i) (key j)) (kas_desc f p n q)=(p',n',q')/\p'.Perm p/\n<=n'/\n'<=n+f/\Down O key p' n'/\Flat key p' n' q'
 | 0,p,n,q,_,_,h,hq=>⟨p,n,q,rfl,Array.Perm.refl _,Ze _,Ze _,h,hq⟩
 |f+1,p,n,q,h1,hz,h,hq=>by
  unfold kas_desc;show∃p' n' q',run (fun i j=>O.lt (key i) (key j)) (if O.lt (kn key p n) (kn key p (n-1))=true then(if q>0 then kas_desc f (kas_rev p (n-(q+1)) n) (n+1) 0 else kas_desc f p (n+1) 0)
   else .ask (p.getD (n-1) 0) (p.getD n 0) fun d=>if d=true then .ret (p,n,q) else kas_desc f p (n+1) (q+1))=(p',n',q')/\_
  cases c:O.lt (kn key p n) (kn key p (n-1)) with
  |true =>
   rw[Zy rfl];have hd:=h.snoc h1 (TO.of_lt c)
   by_cases z:q>0
   ·rw[Zy z];have fl:=Ge (key:=key) (p:=p) (i:=n-(q+1)) (j:=n) (by omega) hq.2;obtain⟨p',n',q',e,a,b,d,g,k⟩:=XR f (kas_rev p (n-(q+1)) n) (n+1) 0 (by omega) (by rw[(xH p _ _).size_eq];omega) (hd.of_kn fl) (X8 (by omega));exact⟨p',n',q',e,a.trans (xH _ _ _),by omega,by omega,g,k⟩
   ·rw[ZA z];obtain⟨p',n',q',e,a,b,d,g,k⟩:=XR f p (n+1) 0 (by omega) (by omega) hd (X8 (by omega));exact⟨p',n',q',e,a,by omega,by omega,g,k⟩
  |false =>
   rw[ZA (by decide)];show∃p' n' q',run (fun i j=>O.lt (key i) (key j)) (if O.lt (kn key p (n-1)) (kn key p n)=true then KasT.ret (p,n,q) else kas_desc f p (n+1) (q+1))=(p',n',q')/\_;cases d:O.lt (kn key p (n-1)) (kn key p n) with
   |true=>exact⟨p,n,q,by rw[Zy rfl];rfl,Array.Perm.refl _,Ze _,by omega,h,hq⟩
   |false =>
    rw[ZA (by decide)];have eq:kn key p n=kn key p (n-1):=O.ant _ _ c d;have fl:Flat key p (n+1) (q+1):=⟨by have:=hq.1;omega,fun i i1 i2=>by
     rw[show n+1-1=n by omega]
     by_cases z:i=n
     ·rw[z]
     ·rw[eq];exact hq.2 i (by omega) (by omega)⟩
    obtain⟨p',n',q',e,a,b,g,k,l⟩:=XR f p (n+1) (q+1) (by omega) (by omega) (h.snoc h1 d) fl;exact⟨p',n',q',e,a,by omega,by omega,k,l⟩
theorem FZ {p:Array Nat}{n Du:Nat}(h1:1<=n)(hn:n<=Du)(hz:Du<=p.size)(h:Down O key p n) :
  ∃m p',run (fun i j=>O.lt (key i) (key j)) (kas_tail3 n Du p)=(m,p')/\p'.Perm p/\1<=m/\m<=Du/\Up O key p' m:=by
 have up:Up O key (kas_rev p 0 n) n:=fun i j hij hj=>by
  rw[HU (by omega),HU (by omega),Zy (by omega),Zy (by omega)];exact h _ _ (by omega) (by omega)
 obtain⟨m,e,a,b,c,_⟩:=Ha (Du-n) n h1 up;refine⟨m,kas_rev p 0 n,?_,xH _ _ _,by omega,by omega,c⟩;unfold kas_tail3;rw[run_bind,e];rfl
theorem Xs {p:Array Nat}{n Du:Nat}(hn:n+1<=Du)(hz:Du<=p.size)(h:Down O key p (n+1)) :
  ∃m p',run (fun i j=>O.lt (key i) (key j)) (kas_descPart n Du p)=(m,p')/\p'.Perm p/\1<=m/\m<=Du/\Up O key p' m:=by
 obtain⟨p',n',q',e,a,b,c,d,fl⟩:=XR (Du-(n+1)) p (n+1) 0 (by omega) (by omega) h (X8 (by omega));have hz':Du<=p'.size:=by rwa[a.size_eq]
 unfold kas_descPart;rw[run_bind,e];show∃m p'',run _ (if q'>0 then kas_tail3 n' Du (kas_rev p' (n'-(q'+1)) n') else kas_tail3 n' Du p')=(m,p'')/\_
 by_cases z:q'>0
 ·rw[Zy z];have hf:=Ge (key:=key) (p:=p') (i:=n'-(q'+1)) (j:=n') (by omega) fl.2;obtain⟨m,p'',e1,a1,b1,c1,d1⟩:=FZ (Du:=Du) (by omega) (by omega) (by rwa[(xH p' _ _).size_eq]) (d.of_kn hf);exact⟨m,p'',e1,(a1.trans (xH _ _ _)).trans a,b1,c1,d1⟩
 ·rw[ZA z];obtain⟨m,p'',e1,a1,b1,c1,d1⟩:=FZ (Du:=Du) (by omega) (by omega) hz' d;exact⟨m,p'',e1,a1.trans a,b1,c1,d1⟩
theorem NS {p:Array Nat}{Du:Nat}(h1:1<=Du)(hz:Du<=p.size) :
  ∃m p',run (fun i j=>O.lt (key i) (key j)) (kas_count Du p)=(m,p')/\p'.Perm p/\1<=m/\m<=Du/\Up O key p' m:=by
 obtain⟨n,e,a,b,c,d⟩:=Ha (O:=O) (key:=key) (p:=p) (Du-1) 1 (Ze _) (one_up p);unfold kas_count;rw[run_bind,e]
 by_cases z:n=Du
 ·rw[Zy (by simpa using z)];exact⟨n,p,rfl,Array.Perm.refl _,a,by omega,c⟩
 rw[ZA (by simpa using z)];have less:O.lt (kn key p n) (kn key p (n-1))=true:=d.resolve_left (by omega)
 by_cases g:n>1
 ·rw[Zy g];show∃m p',run _ (if O.lt (kn key p 0) (kn key p (n-1))=true then KasT.ret (n,p) else kas_descPart n Du (kas_rev p 0 n))=(m,p')/\_;cases q:O.lt (kn key p 0) (kn key p (n-1)) with
  |true =>
   rw[Zy rfl];exact⟨n,p,rfl,Array.Perm.refl _,a,by omega,c⟩
  |false =>
   rw[ZA (by decide)];have flat:∀k,0<=k->k<n->kn key p k=kn key p (n-1):=fun k _ hk =>
    O.ant _ _ (TO.trans q (c 0 k (by omega) hk)) (c k (n-1) (by omega) (by omega))
   have fl:=Ge (key:=key) (p:=p) (i:=0) (j:=n) (by omega) flat;have dn:Down O key p n:=fun i j hij hj=>by
    rw[flat i (by omega) (by omega),flat j (by omega) hj];exact O.refl _
   obtain⟨m,p',e1,a1,b1,c1,d1⟩:=Xs (O:=O) (key:=key) (p:=kas_rev p 0 n) (n:=n) (Du:=Du) (by omega) (by rwa[(xH p _ _).size_eq]) ((dn.snoc a (TO.of_lt less)).of_kn fl);exact⟨m,p',e1,a1.trans (xH _ _ _),b1,c1,d1⟩
 ·rw[ZA g];have g:n=1:=by omega
  subst g;exact Xs (by omega) hz (Down.snoc (Ze _) (fun i j hij hj=>by
   have:i=j:=by omega
   subst this;exact O.refl _) (TO.of_lt less))
theorem Ix (hs:Up O key p k):∀(f l r:Nat),l<=r->r<=k->r-l<=f->(∀i,i<l->O.le (kn key p i) (kn key p k))->(∀i,r<=i->i<k->O.lt (kn key p k) (kn key p i)=true) ->
  ∃m,run (fun i j=>O.lt (key i) (key j)) (kas_place p k f l r)=m/\m<=k/\(∀i,i<m->O.le (kn key p i) (kn key p k))/\(∀i,m<=i->i<k->O.lt (kn key p k) (kn key p i)=true)
 | 0,l,r,h1,h2,h3,h4,h5=>⟨l,rfl,by omega,h4,fun i i1 i2=>h5 i (by omega) i2⟩
 |f+1,l,r,h1,h2,h3,h4,h5=>by
  unfold kas_place
  by_cases z:l≥r
  ·rw[Zy z];exact⟨l,rfl,by omega,h4,fun i i1 i2=>h5 i (by omega) i2⟩
  rw[ZA z];show∃m,run _ (if O.lt (kn key p k) (kn key p ((l+r) / 2))=true then kas_place p k f l ((l+r) / 2) else kas_place p k f ((l+r) / 2+1) r)=m/\_;cases q:O.lt (kn key p k) (kn key p ((l+r) / 2)) with
  |true =>
   rw[Zy rfl];refine Ix hs f l ((l+r) / 2) (by omega) (by omega) (by omega) h4 fun i i1 i2=>?_;cases w:O.lt (kn key p k) (kn key p i) with
   |true=>rfl
   |false =>
    have:=O.tra _ _ _ (hs _ _ i1 i2) w;rw[q]at this;exact this.symm
  |false =>
   rw[ZA (by decide)];exact Ix hs f ((l+r) / 2+1) r (by omega) (by omega) (by omega) (fun i i1=>TO.trans (hs i ((l+r) / 2) (by omega) (by omega)) q) h5
theorem G3 {p:Array Nat}{k l:Nat}(hk:k<p.size)(hl:l<=k)(i:Nat):kn key (bubble p k (k-l)) i=if i=l then kn key p k else if l<i/\i<=k then kn key p (i-1) else kn key p i:=by
 have e:=getElem?_bubble hk (k-l) (by omega) i;rw[show k-(k-l)=l by omega]at e
 by_cases z:i=l
 ·rw[Zy z]at e ⊢;exact Fa e
 ·rw[ZA z]at e ⊢
  by_cases z:l<i/\i<=k
  ·rw[Zy z]at e ⊢;exact Fa e
  ·rw[ZA z]at e ⊢;exact Fa e
theorem NN:∀(f:Nat) (p:Array Nat) (k:Nat),k+f<=p.size->Up O key p k->∃p',run (fun i j=>O.lt (key i) (key j)) (kas_bin f p k)=p'/\p'.Perm p/\Up O key p' (k+f)
 | 0,p,k,_,h=>⟨p,rfl,Array.Perm.refl _,h⟩
 |f+1,p,k,hz,h=>by
  obtain⟨m,e,a,b,c⟩:=Ix h k 0 k (by omega) (Ze _) (by omega) (fun i hi=>by omega) (fun i i1 i2=>by omega);have up:Up O key (bubble p k (k-m)) (k+1):=fun i j hij hj=>by
   rw[G3 (by omega) a,G3 (by omega) a]
   repeat' split
   all_goals first
    |(exfalso;omega)
    |exact O.refl _
    |exact b _ (by omega)
    |exact TO.of_lt (c _ (by omega) (by omega))
    |exact h _ _ (by omega) (by omega)
  obtain⟨p',e1,a1,b1⟩:=NN f (bubble p k (k-m)) (k+1) (by rw[bubble_size];omega) up;unfold kas_bin;rw[run_bind,e];exact⟨p',e1,a1.trans (bubble_perm _ _ _),by rw[show k+(f+1)=k+1+f by omega];exact b1⟩
theorem RE {n:Nat}(h1:1<=n):∃p',run (fun i j=>O.lt (key i) (key j)) (kas_sort n)=p'/\p'.Perm (La (EG n))/\Up O key p' n:=by
 have hz:(La (EG n)).size=n:=by simp
 obtain⟨m,p',e,a,b,c,d⟩:=NS (O:=O) (key:=key) (p:=La (EG n)) (Du:=n) h1 (Vg hz.symm);unfold kas_sort;rw[run_bind,e];show∃p'',run _ (if m<n then kas_bin (n-max m 1) p' (max m 1) else KasT.ret p')=p''/\_;have em:max m 1=m:=by omega
 rw[em]
 by_cases z:m<n
 ·rw[Zy z];obtain⟨p'',e1,a1,b1⟩:=NN (n-m) p' m (by rw[a.size_eq,hz];omega) d;exact⟨p'',e1,a1.trans a,by rw[show m+(n-m)=n by omega]at b1;exact b1⟩
 ·rw[ZA z];have z:m=n:=by omega
  rw[z]at d;exact⟨p',rfl,a,d⟩
end
def Asks (n:Nat){β:Type}(R:β->Prop):KasT β->Prop
 | .ret a=>R a
 | .ask i j k=>i<n/\j<n/\∀b,Asks n R (k b)
theorem Asks.bind {β γ:Type}{R:β->Prop}{R':γ->Prop}{f:β->KasT γ}(hf:∀a,R a->Asks n R' (f a)):∀{t:KasT β},Asks n R t->Asks n R' (t.bind f)
 | .ret a,h=>hf a h
 | .ask i j k,h=>⟨h.1,h.2.1,fun b=>Asks.bind hf (h.2.2 b)⟩
theorem Asks.wp {n:Nat}{β:Type}{R:β->Prop}{cmp:Nat->Nat->(Bool->Dh)->Dh}{lt:Nat->Nat->Bool}{s:Ej}(hc:∀i j,i<n->j<n->∀C:Bool->Dh,C (lt i j) s->cmp i j C s){Q:β->Dh} :
  ∀{t:KasT β},Asks n R t->Q (run lt t) s->t.kasWp cmp Q s
 | .ret _,_,q=>q
 | .ask i j k,h,q=>hc i j h.1 h.2.1 _ (Asks.wp hc (h.2.2 _) q)
def Bd (n:Nat)(p:Array Nat):Prop:=∀i:Nat,p.getD i 0<n
theorem Bd.perm {q:Array Nat}(h:Bd n p)(e:q.Perm p):Bd n q:=fun i=>by
 rw[ZV]
 rcases Ub i q.size with z|z
 ·rw[Uc q i z];have hm:q[i]∈p:=e.mem_iff.mp (Array.getElem_mem z);obtain⟨j,hj,ej⟩:=Array.getElem_of_mem hm;have:=h j;rw[ZV,Uc p j hj,ej]at this;exact this
 ·rw[JE z];have:=h p.size;rw[ZV,JE (Ze _)]at this;exact this
theorem Gu (h:Bd n p):∀f m:Nat,Asks n (fun _=>True) (kas_asc p f m)
 | 0,m=>trivial
 | f+1,m=>⟨h _,h _,fun c=>by
  show Asks n _ (if c=true then KasT.ret m else kas_asc p f (m+1))
  split
  ·trivial
  ·exact Gu h f (m+1)⟩
theorem k8:∀(f:Nat) (p:Array Nat) (m q:Nat),Bd n p->Asks n (fun r=>Bd n r.1) (kas_desc f p m q)
 | 0,p,m,q,h=>h
 | f+1,p,m,q,h=>⟨h _,h _,fun c=>by
  cases c with
  |true =>
   show Asks n _ (if q>0 then kas_desc f (kas_rev p (m-(q+1)) m) (m+1) 0 else kas_desc f p (m+1) 0)
   split
   ·exact k8 f _ _ _ (h.perm (xH _ _ _))
   ·exact k8 f _ _ _ h
  |false =>
   refine⟨h _,h _,fun d=>?_⟩;cases d with
   |true=>exact h
   |false=>exact k8 f _ _ _ h⟩
theorem Go {m r:Nat}(h:Bd n p):Asks n (fun r=>Bd n r.2) (kas_tail3 m r p):=by
 have h':Bd n (kas_rev p 0 m):=h.perm (xH _ _ _);unfold kas_tail3;refine Asks.bind (fun a _=>?_) (Gu h' _ _);exact h'
theorem kO {m r:Nat}(h:Bd n p):Asks n (fun r=>Bd n r.2) (kas_descPart m r p):=by
 refine Asks.bind (fun a ha=>?_) (k8 _ _ _ _ h);show Asks n _ (if a.2.2>0 then _ else _)
 split
 ·exact Go (Bd.perm ha (xH _ _ _))
 ·exact Go ha
theorem Hi {r:Nat}(h:Bd n p):Asks n (fun r=>Bd n r.2) (kas_count r p):=by
 refine Asks.bind (fun a _=>?_) (Gu h _ _);show Asks n _ (if(a==r)=true then _ else _)
 split
 ·exact h
 ·split
  ·refine⟨h _,h _,fun c=>?_⟩;cases c with
   |true=>exact h
   |false=>exact kO (h.perm (xH _ _ _))
  ·exact kO h
theorem uD {k:Nat}(h:Bd n p):∀f l r:Nat,Asks n (fun _=>True) (kas_place p k f l r)
 | 0,l,r=>trivial
 |f+1,l,r=>by
  unfold kas_place
  split
  ·trivial
  ·refine⟨h _,h _,fun c=>?_⟩;cases c with
   |true=>exact uD h f _ _
   |false=>exact uD h f _ _
theorem CF:∀(f:Nat) (p:Array Nat) (k:Nat),Bd n p->Asks n (fun r=>Bd n r) (kas_bin f p k)
 | 0,p,k,h=>h
 |f+1,p,k,h=>Asks.bind (fun l _=>CF f _ _ (h.perm (bubble_perm _ _ _))) (uD h _ _ _)
theorem Nt {n:Nat}(h1:1<=n):Asks n (fun r=>Bd n r) (kas_sort n):=by
 have h:Bd n (La (EG n)):=fun i=>by
  rw[ZV,Vs]
  rcases Ub i n with z|z
  ·rwa[VN z]
  ·rw[Ya (by rwa[Yn])];exact h1
 refine Asks.bind (fun a ha=>?_) (Hi h);show Asks n _ (if a.1<n then _ else _)
 split
 ·exact CF _ _ _ ha
 ·exact ha
end AxK
namespace L2
open PySem PyProof.Rows
mutual
def Tj:Eo->Eo->Bool->Prop
 | .int a,.int b,r=>r=decide (a<b)
 | .str a,.str b,r=>r=decide (a.cps.toList<b.cps.toList)
 | .tuple xs,.tuple ys,r=>RO xs ys r
 |_,_,_=>False
def RO:Df->Df->Bool->Prop
 |[],ys,r=>r=decide (0<ys.length)
 |_::_,[],r=>r=false
 |x::xs,y::ys,r=>(ER x y=true/\RO xs ys r)\/(ER x y=false/\Tj x y r)
end
section
variable {prog:Ei}{w:Em}
def Ko (prog:Ei)(w:Em)(A:EC)(r:Bool)(fin:Bool)(s:Ej):List (Eg×Eg)->Prop
 |[]=>fin=r
 |p::l=>(∀(Q:Bool->Dh) (E:Eg->Dh),Q true s->Ek (Es prog w) A (eqBool p.1 p.2) Q E s)/\Ko prog w A r fin s l \/
  (∀(Q:Bool->Dh) (E:Eg->Dh),Q false s->Ek (Es prog w) A (eqBool p.1 p.2) Q E s) /\
  (∀(Q:Eg->Dh) (E:Eg->Dh),Q (.bool r) s->Ek (Es prog w) A (richCompare .Lt p.1 p.2) Q E s)
theorem GG {A:EC}{E:Eg->Dh}{s:Ej}{a b:Eh}{oa ob:Obj}{xs ys:Array Eg}{na nb:Nat}{r:Bool}{P:Fin->Dh}
  (hoa:s.heap.get? a=some oa) (hda:oa.data=.seq xs na) (hob:s.heap.get? b=some ob) (hcb:ob.cls=.type "tuple") (hdb:ob.data=.seq ys nb)
  (hq:Ko prog w A r (decide (xs.size<ys.size)) s (xs.toList.zip ys.toList)) (h:P (.done (.ret (.bool r))) s) :
  Ek (Es prog w) A (Builtin.«tuple.__lt__» ⟨[.ref a,.ref b],[]⟩) P E s:=by
 have hTb:s.TypeIs (.ref b) "tuple":=⟨ob,hob,hcb⟩;show Ek _ _ (isInstance (.ref b) (.type "tuple")>>=_) _ _ s;refine Q9 (JS hTb isSubtype_tuple_tuple ?_);simp only[VY,YG,JY];refine Q9 (VP hoa hda (Q9 (VP hob hdb (Q9 ?_))));refine V5 _ (fun rest c s'=>c.1=none/\s'=s/\Ko prog w A r (decide (xs.size<ys.size)) s rest) _ ?_ ?_ _ _ ⟨rfl,rfl,hq⟩
 ·rintro⟨u,v⟩ rest c s' ⟨hc,rfl,ha⟩
  rcases ha with⟨h1,h2⟩|⟨h1,h2⟩
  ·refine Q9 (h1 _ _ ?_);simp only[VY,YG,JY];exact Zg ⟨rfl,rfl,h2⟩
  ·refine Q9 (h1 _ _ ?_);simp only[Bool.not_false,if_true];refine Q9 (J7 (Q9 (h2 _ _ (Q9 (Zg (Zg ?_))))));exact Zg h
 ·rintro⟨c1,c2⟩ s' ⟨hc,rfl,ha⟩;simp only at hc;subst hc;refine Zg ?_;have ha:decide (xs.size<ys.size)=r:=ha;show P (.done (.ret (.bool (decide (xs.size<ys.size))))) s';rwa[ha]
def NF (prog:Ei)(w:Em)(d:Eo):Prop:=∀(e:Eo) (r:Bool) (A:EC) (s:Ej) (a b:Eg) (as bs:Dd),Reads s.heap a d as->Reads s.heap b e bs->d.canLay0=true->e.canLay0=true->A.units+min d.depth e.depth<E5->Tj d e r ->
  ∀(Q:Eg->Dh) (E:Eg->Dh),Q (.bool r) s->Ek (Es prog w) A (richCompare .Lt a b) Q E s
def CC (prog:Ei)(w:Em)(xs:Df):Prop:=∀(ys:Df) (r:Bool) (A:EC) (s:Ej) (vs us:Db) (as bs:Dd),LF s.heap vs xs as->LF s.heap us ys bs->Ew xs=true->Ew ys=true->A.units+min (ED xs) (ED ys)<E5->RO xs ys r ->
  ∀k:Nat,Ko prog w A r (decide (k+vs.length<k+us.length)) s (vs.zip us)
theorem Ng (i:Int):NF prog w (.int i):=by
 intro e r A s a b as bs ra rb _ _ _ h Q E q;cases e with
 |int j =>
  cases ra;cases rb;cases(show r=_ from h);exact(lt_int q:Ek _ _ (EK .Lt _ _) _ _ _)
 |_=>exact EB h
theorem Nh (i:Str):NF prog w (.str i):=by
 intro e r A s a b as bs ra rb _ _ _ h Q E q;cases e with
 |str j =>
  cases ra;cases rb;cases(show r=_ from h);exact(lt_str q:Ek _ _ (EK .Lt _ _) _ _ _)
 |_=>exact EB h
theorem Ni (ih:CC prog w xs):NF prog w (.tuple xs):=by
 intro e r A s a b as bs ra rb ha hb hu h Q E q;cases e with
 |tuple ys =>
  cases ra with
  |tuple h1 h2 h3 h4 =>
   cases rb with
   |tuple k1 k2 k3 k4 =>
    have asked:=ih ys r A.in1 s _ _ _ _ h4 k4 ha hb (SeqAt.room_in hu) h 0;rw[Nat.zero_add,Nat.zero_add,ZH,ZH]at asked;exact wpAny_richCompare_same_room (op:=.Lt) ⟨_,h1,h2⟩ ⟨_,k1,k2⟩ F.slot_tuple_lt
     (Yc F.slot_tuple_lt ⟨_,h1,h2⟩ F.entry_tuple_lt (GG h1 h3 k1 k2 k3 (r:=r) asked ⟨_,rfl,(fun e=>nomatch e),q⟩) (F.args_tuple_lt_2 _ _)) (SeqAt.room_here hu)
 |_=>exact EB h
theorem P9:CC prog w []:=by
 intro ys r A s vs us as bs rx ry _ _ _ h k;cases rx;have e:us.length=ys.length:=SeqAt.ReadsAll.length _ _ _ ry;rw[List.zip_nil_left];show decide (k+0<k+us.length)=r;rw[show r=_ from h,e];exact Vy.mpr (by omega)
theorem Ou (h1:NF prog w x)(h2:CC prog w xs):CC prog w (x::xs):=by
 intro ys r A s vs us as bs rx ry hx hy hu h k;cases ys with
 |nil =>
  cases ry;cases rx;rw[List.zip_nil_right];show decide (k+_<k+0)=r;rw[show r=_ from h];exact Zr (by omega)
 |cons y ys =>
  have hx':x.canLay0=true/\Ew xs=true:=by simpa[Ew] using hx
  have hy':y.canLay0=true/\Ew ys=true:=by simpa[Ew] using hy
  have hu1:A.units+min x.depth y.depth<cLine:=SeqAt.room_head hu;have hu2:A.units+min (ED xs) (ED ys)<cLine:=SeqAt.room_tail hu;cases rx with
  | @cons v vs _ _ _ _ p1 p2 =>
   cases ry with
   | @cons u us _ _ _ _ q1 q2 =>
    rw[List.zip_cons_cons];have h:(ER x y=true/\RO xs ys r)\/(ER x y=false/\Tj x y r):=h
    rcases h with⟨e,h⟩|⟨e,h⟩
    ·refine .inl ⟨fun Q E q=>LJ prog w A E s _ _ _ _ _ _ Q p1 q1 hx'.1 hy'.1 hu1 (by rwa[e]),?_⟩;have ih:=h2 ys r A s _ _ _ _ p2 q2 hx'.2 hy'.2 hu2 h (k+1);rwa[Zh,Zh,show k+(vs.length+1)=k+1+vs.length by omega,show k+(us.length+1)=k+1+us.length by omega]
    ·exact .inr ⟨fun Q E q=>LJ prog w A E s _ _ _ _ _ _ Q p1 q1 hx'.1 hy'.1 hu1 (by rwa[e]),fun Q E q=>h1 y r A s _ _ _ _ p1 q1 hx'.1 hy'.1 hu1 h Q E q⟩
mutual
theorem Op:∀d:Eo,NF prog w d
 | .int i=>Ng i
 | .str i=>Nh i
 | .tuple xs=>Ni (Oq xs)
 | .none=>fun e r A s a b as bs ra rb _ _ _ h=>EB h
 | .bool _=>fun e r A s a b as bs ra rb _ _ _ h=>EB h
 | .list _=>fun e r A s a b as bs ra rb _ _ _ h=>EB h
 | .dict _=>fun e r A s a b as bs ra rb _ _ _ h=>EB h
theorem Oq:∀xs:Df,CC prog w xs
 |[]=>P9
 |x::xs=>Ou (Op x) (Oq xs)
end
end
end L2
namespace L2
open PySem PySem.Spec PyProof.Rows PySem.W AxK
section
variable {prog:Ei}{w:Em}{A:EC}{E:Eg->Dh}{s:Ej}
theorem HY {a:Eh}{vs:Db}{n:Nat}{κ:SortKind}{lt:Nat->Nat->Bool}{P:PySem.Fin->Dh}(ho:s.heap.get? a=some (Lg "list" vs.toArray n))(h64:vs.length<64)
  (hk:2<=vs.length->∀s1:Ej,(∀b o,b≠a->s.heap.get? b=some o->s1.heap.get? b=some o)->(∀(Q:SortKind->Dh) (E':Eg->Dh),Q κ s1->Ek (Es prog w) A (keyKind' vs.toArray) Q E' s1) /\ ∀i j,i<vs.length->j<vs.length->∀C:Bool->Dh,C (lt i j) s1->kas_ask prog w A κ vs i j C s1)
  (h:∀p:Array Nat,(vs.length<2/\p=La (EG vs.length))\/(2<=vs.length/\p=run lt (kas_sort vs.length))->P (.done (.ret .none)) { s with heap:=sortedHeap s.heap a vs (La (p.toList.map fun i=>vs.getD i EE)) }) :
  Ek (Es prog w) A (Builtin.«list.sort» ⟨[.ref a],[]⟩) P E s:=by
 have ha:a<s.heap.objs.size:=Zq ho;have e0:=EV s.heap a (EY fun _=>(#[]:Array Eg));obtain⟨n1,ho1⟩:∃e1,(s.heap.update a (EY fun _=>(#[]:Array Eg))).get? a=some (Lg "list" #[] e1):=⟨_,get?_update_seq ho fun _=>#[]⟩;have ho2:(((s.heap.update a (EY fun _=>(#[]:Array Eg))).push (Lg "tuple" vs.toArray 0)).push (Lg "list" #[] 0)).get? a=some (Lg "list" #[] n1):=Zd _ (Zd _ ho1);have keep:∀b o,b≠a->s.heap.get? b=some o->(((s.heap.update a (EY fun _=>(#[]:Array Eg))).push (Lg "tuple" vs.toArray 0)).push (Lg "list" #[] 0)).get? b=some o:=fun b o hb q =>
  Zd _ (Zd _ (by rwa[Heap.get?_update_ne _ _ _ _ hb]))
 have hsz:vs.toArray.size=vs.length:=by simp
 rw[list_sort_plain];refine Q9 (listItems_at ho rfl (Q9 (listUpdate_at ho rfl (Q9 (seqEpoch_at ho1 rfl (Q9 (wpAny_newTuple (Q9 (V0 (Yg ?_) (ZT _))) (by show vs.length<=_;rw[Yp];omega))))) (by rw[Zw,Yp];omega) (ZT _))));show Ek (Es prog w) A _ P E { s with heap:=((s.heap.update a (EY fun _=>#[])).push (Lg "tuple" vs.toArray 0)).push (Lg "list" #[] 0) };dsimp only
 by_cases h2:vs.length<2
 ·have fin:=h (La (EG vs.length)) (.inl ⟨h2,rfl⟩);have eo:(La ((La (EG vs.length)).toList.map fun i=>vs.getD i EE))=(vs.toArray.zip vs.toArray).map (·.2):=by
   have e:=kas_range (vs.toArray.zip vs.toArray);rw[show(vs.toArray.zip vs.toArray).size=vs.length by simp]at e;exact(kat_snds (ks:=vs) (vs:=vs) (st:=SortSt.mk' general' (vs.toArray.zip vs.toArray) #[] 7 none) rfl e.symm).symm
  rw[eo]at fin;rw[Zy (by rwa[hsz]),Zy (by rwa[hsz])];refine Q9 (Zg ?_);rw[StateT.run_pure];refine Q9 (Zg ?_);dsimp only;refine Q9 (seqEpoch_at ho2 rfl (Q9 (listUpdate_at ho2 rfl ?_ (ZT _) (by rw[Array.size_map,Array.size_zip,hsz,Nat.min_self,Yp];omega))));simp only[bne_self_eq_false,YG,JY];exact Zg fin
 ·have h2':2<=vs.length:=by omega
  rw[ZA (by rwa[hsz]),ZA (by rwa[hsz])];obtain⟨k1,k2⟩:=hk h2' { s with heap:=((s.heap.update a (EY fun _=>(#[]:Array Eg))).push (Lg "tuple" vs.toArray 0)).push (Lg "list" #[] 0) } keep;refine Q9 (k1 _ _ ?_);have asked:(kas_sort vs.length).kasWp (kas_ask prog w A κ vs) (fun p s'=>p=run lt (kas_sort vs.length)/\s'={ s with heap:=((s.heap.update a (EY fun _=>(#[]:Array Eg))).push (Lg "tuple" vs.toArray 0)).push (Lg "list" #[] 0) })
    { s with heap:=((s.heap.update a (EY fun _=>(#[]:Array Eg))).push (Lg "tuple" vs.toArray 0)).push (Lg "list" #[] 0) }:=(Nt (by omega)).wp k2 ⟨rfl,rfl⟩
  refine Q9 (Yk (kat_run (Q:=fun st' s'=>arrOf st'=(run lt (kas_sort vs.length)).map (kas_item (vs.toArray.zip vs.toArray))/\failedOf st'=none/\(run lt (kas_sort vs.length)).size=vs.length/\s'={ s with heap:=((s.heap.update a (EY fun _=>(#[]:Array Eg))).push (Lg "tuple" vs.toArray 0)).push (Lg "list" #[] 0) }) rfl h2' h64 (fun p' st' s' a1 a2 a3 a4=>by obtain⟨rfl,rfl⟩:=a4;exact⟨a2,a3,a1,rfl⟩) asked) ?_ fun _ _ e=>e)
  rintro⟨⟨⟩,st'⟩ s' ⟨har,hf,hp,rfl⟩;dsimp only;have hout:=kat_snds rfl har;rw[hout];refine Q9 (seqEpoch_at ho2 rfl (Q9 (listUpdate_at ho2 rfl ?_ (ZT _) (by rw[Zw,Q7,ZH,hp,Yp];omega))));rw[hf];simp only[bne_self_eq_false,YG,JY];exact Zg (h _ (.inr ⟨h2',rfl⟩))
def IP (T:String):Eo->Prop
 | .tuple (.int _::_)=>T="int"
 | .tuple (.str _::_)=>T="str"
 | .tuple (.tuple _::_)=>T="tuple"
 |_=>False
def Sa (h h':Ez)(d:Eo):Prop:=∀(v:Eg) (as:Dd),d.canLay0=true->Reads h v d as->Reads h' v d as
def PD (h h':Ez)(ds:Df):Prop:=∀(vs:Db) (as:Dd),Ew ds=true->LF h vs ds as->LF h' vs ds as
mutual
theorem HR {h h':Ez}(k:∀b o,h.get? b=some o->h'.get? b=some o):∀d:Eo,Sa h h' d
 | .none=>fun v as _ r=>by cases r;exact .none
 | .bool _=>fun v as _ r=>by cases r;exact .bool _
 | .int _=>fun v as _ r=>by cases r;exact .int _ _
 | .str _=>fun v as _ r=>by cases r;exact .str _ _
 | .list xs=>fun v as l r=>by
  have ih:=xV k xs;cases r with
  |list h1 h2 h3 h4=>exact .list (k _ _ h1) h2 h3 (ih _ _ l h4)
 | .tuple xs=>fun v as l r=>by
  have ih:=xV k xs;cases r with
  |tuple h1 h2 h3 h4=>exact .tuple (k _ _ h1) h2 h3 (ih _ _ l h4)
 | .dict Dm=>fun v as l r=>nomatch l
theorem xV {h h':Ez}(k:∀b o,h.get? b=some o->h'.get? b=some o):∀ds:Df,PD h h' ds
 |[]=>fun vs as _ r=>by cases r;exact .nil
 |d::ds=>fun vs as l r=>by
  have i1:=HR k d;have i2:=xV k ds;have l:d.canLay0=true/\Ew ds=true:=by simpa[Ew] using l
  cases r with
  |cons h1 h2=>exact .cons (i1 _ _ l.1 h1) (i2 _ _ l.2 h2)
end
theorem Bp {h:Ez}:∀{ds:Df} {us:Db} {as:Dd},LF h us ds as->(∀d∈ds,IP T d)->∃fs:Db,fs.length=ds.length/\KatTups h us fs/\∀v∈fs,(T="int"/\∃i t,v=.int i t)\/(T="str"/\∃i t,v=.str i t)\/(T="tuple"/\∃a o,v=.ref a/\h.get? a=some o/\o.cls=.type "tuple")
 |[],_,_,r,_=>by
  cases r;exact⟨[],rfl,KatTups.nil,fun v hv=>(nomatch hv)⟩
 |d::ds,_,_,r,hf=>by
  cases r with
  |cons r1 r2 =>
   obtain⟨fs,e1,e2,e3⟩:=Bp r2 fun x hx=>hf x (Za _ hx);have hd:=hf d (Zc ..);unfold IP at hd
   split at hd
   all_goals first
    |exact hd.elim
    | (cases r1 with
     |tuple h1 h2 h3 h4 =>
      rename_i vsx nx;cases q:vsx.toList with
      |nil=>rw[q]at h4;cases h4
      |cons v0 vr =>
       rw[q]at h4;have q0:vsx[0]?=some v0:=by rw[←Yh,q];rfl
       cases h4 with
       |cons g1 g2 =>
        refine⟨v0::fs,by rw[Zh,Zh,e1],KatTups.cons h1 h2 h3 q0 e2,fun v hv=>?_⟩
        rcases Zi.mp hv with rfl|hv
        ·cases g1
         first
          |exact .inl ⟨hd,_,_,rfl⟩
          |exact .inr (.inl ⟨hd,_,_,rfl⟩)
          |(rename_i k1 k2 k3 k4;exact .inr (.inr ⟨hd,_,_,rfl,k1,k2⟩))
        ·exact e3 v hv)
theorem P7 {ds:Df}{us:Db}{as:Dd}(r:LF s.heap us ds as)(hf:∀d∈ds,IP T d)(hn:0<ds.length){Q:SortKind->Dh}(q:Q (tuples' (EO T !=EO "tuple")) s) :
  Ek (Es prog w) A (keyKind' us.toArray) Q E s:=by
 obtain⟨fs,e1,e2,e3⟩:=Bp r hf;refine kat_kind e2 (by omega) (T:=.type T) (fun v hv=>?_) (by simp) q
 rcases e3 v hv with⟨rfl,i,t,rfl⟩|⟨rfl,i,t,rfl⟩|⟨rfl,a,o,rfl,ho,hc⟩
 ·exact .now
 ·exact .now
 ·rw[←hc];exact(Looks.ld ho).andThen .now
def Sc (x y:Eo):Prop:=(∃i j,x=.int i/\y=.int j)\/(∃i j,x=.str i/\y=.str j)
theorem Sz {b:Bool}{Q:Bool->Dh}{r:Bool}(q:Q r s)(xs:Df):∀(ys:Df) (vs us:Db) (as bs:Dd) (i k:Nat),LF s.heap vs xs as->LF s.heap us ys bs->Ew xs=true->Ew ys=true->A.units+min (ED xs) (ED ys)<E5 ->
  RO xs ys r->(b=true->i=0->∀x xs' y ys',xs=x::xs'->ys=y::ys'->Sc x y)->KatLex prog w A b (decide (k+vs.length<k+us.length)) Q (vs.zip us) i s:=by
 induction xs with
 |nil =>
  intro ys vs us as bs i k rx ry _ _ _ h _;cases rx;have e:us.length=ys.length:=SeqAt.ReadsAll.length _ _ _ ry;rw[List.zip_nil_left];show Q (decide (k+0<k+us.length)) s;rw[show decide (k+0<k+us.length)=r by rw[show r=_ from h,e];exact Vy.mpr (by omega)];exact q
 |cons x xs ih =>
  intro ys vs us as bs i k rx ry hx hy hu h hb;cases ys with
  |nil =>
   cases ry;cases rx with
   | @cons v vs _ _ _ _ p1 p2 =>
    rw[List.zip_nil_right];show Q (decide (k+(vs.length+1)<k+0)) s;rw[show decide (k+(vs.length+1)<k+0)=r by rw[show r=_ from h];exact Zr (by omega)];exact q
  |cons y ys =>
   have hx':x.canLay0=true/\Ew xs=true:=by simpa[Ew] using hx
   have hy':y.canLay0=true/\Ew ys=true:=by simpa[Ew] using hy
   have hu1:A.units+min x.depth y.depth<cLine:=SeqAt.room_head hu;have hu2:A.units+min (ED xs) (ED ys)<cLine:=SeqAt.room_tail hu;cases rx with
   | @cons v vs _ _ _ _ p1 p2 =>
    cases ry with
    | @cons u us _ _ _ _ q1 q2 =>
     rw[List.zip_cons_cons];refine kat_cons ?_;have h:(ER x y=true/\RO xs ys r)\/(ER x y=false/\Tj x y r):=h
     rcases h with⟨e,h⟩|⟨e,h⟩
     ·refine LJ prog w A _ s _ _ _ _ _ _ _ p1 q1 hx'.1 hy'.1 hu1 ?_;rw[e];refine kat_yes ?_;have ih:=ih ys vs us _ _ (i+1) (k+1) p2 q2 hx'.2 hy'.2 hu2 h (fun _ z=>by omega);rwa[Zh,Zh,show k+(vs.length+1)=k+1+vs.length by omega,show k+(us.length+1)=k+1+us.length by omega]
     ·refine LJ prog w A _ s _ _ _ _ _ _ _ p1 q1 hx'.1 hy'.1 hu1 ?_;rw[e];refine kat_no ?_;cases c:(b&&i==0) with
      |true =>
       have c':b=true/\i=0:=by simpa using c
       rcases hb c'.1 c'.2 x xs y ys rfl rfl with⟨i1,j1,rfl,rfl⟩|⟨i1,j1,rfl,rfl⟩
       ·cases p1;cases q1;refine kat_lt_int ?_;rwa[←(show r=_ from h)]
       ·cases p1;cases q1;refine kas_lt_str ?_;rwa[←(show r=_ from h)]
      |false=>exact kat_one _ _ (Op x y r A s _ _ _ _ p1 q1 hx'.1 hy'.1 hu1 h _ _ q)
theorem Nb {d e:Eo}{u v:Eg}{as bs:Dd}{C:Bool->Dh}(ru:Reads s.heap u d as)(rv:Reads s.heap v e bs)(fd:IP T d)(fe:IP T e)(ld:d.canLay0=true)(le:e.canLay0=true)(hu:A.units+min d.depth e.depth<E5)(h:Tj d e r)(c:C r s) :
  Ek (Es prog w) A (keyLt' (tuples' (EO T !=EO "tuple")) u v) C (fun _ _=>False) s:=by
 cases d with
 |tuple xs =>
  cases e with
  |tuple ys =>
   cases ru with
   |tuple h1 h2 h3 h4 =>
    cases rv with
    |tuple k1 k2 k3 k4 =>
     refine kat_lt h1 h3 k1 k3 ?_;have:=Sz (prog:=prog) (w:=w) (A:=A) (b:=(EO T !=EO "tuple")) c xs ys _ _ _ _ 0 0 h4 k4 ld le (by
      have e1:(PyData.tuple xs).depth=ED xs+1:=rfl;have e2:(PyData.tuple ys).depth=ED ys+1:=rfl;rw[e1,e2]at hu;omega) h (fun hb _ x xs' y ys' ex ey=>by
      subst ex ey;unfold IP at fd fe
      split at fd
      ·rename_i e;cases e
       split at fe
       ·rename_i e;cases e;exact .inl ⟨_,_,rfl,rfl⟩
       ·rw[fd]at fe;exact absurd fe (by decide)
       ·rw[fd]at fe;exact absurd fe (by decide)
       ·exact fe.elim
      ·rename_i e;cases e
       split at fe
       ·rw[fd]at fe;exact absurd fe (by decide)
       ·rename_i e;cases e;exact .inr ⟨_,_,rfl,rfl⟩
       ·rw[fd]at fe;exact absurd fe (by decide)
       ·exact fe.elim
      ·subst fd;simp at hb
      ·exact fd.elim)
     simpa using this
  |_=>exact fe.elim
 |_=>exact fd.elim
end
section
variable {X:Cx}{K:Cd}
theorem Br:∀{vs:Dj} {us:Db},Vals vs us->∀(p:List Nat),(∀i∈p,i<vs.length)->Vals (p.map fun i=>vs.getD i .non) (p.map fun i=>us.getD i EE)
 |vs,us,r,[],_=>.nil
 |vs,us,r,i::p,h=>by
  refine .cons ?_ (Br r p fun j hj=>h j (Za _ hj));have hi:=h i (Zc ..);have go:∀{vs:Dj} {us:Db} (i:Nat),Vals vs us->i<vs.length->RelV (vs.getD i .non) (us.getD i EE):=fun{vs us} i r hi=>by
   induction i generalizing vs us with
   |zero =>
    cases r with
    |nil=>exact absurd hi (VI _)
    |cons a b=>exact a
   |succ i ih =>
    cases r with
    |nil=>exact absurd hi (VI _)
    |cons a b=>exact ih b (by simpa using hi)
  exact go i r hi
theorem Kx (h:DtAll K H ds vs):∀(p:List Nat),(∀i∈p,i<vs.length)->DtAll K H (p.map fun i=>ds.getD i .none) (p.map fun i=>vs.getD i .non)
 |[],_=>rfl
 |i::p,hp=>by
  have hi:=hp i (Zc ..);obtain⟨d,e1,e2⟩:=h.get (Zn hi);refine⟨vs.getD i .non,_,rfl,?_,Kx h p fun j hj=>hp j (Za _ hj)⟩;show Dt K H (ds.getD i .none) (vs.getD i .non);rwa[YA,YA,e1,Zn hi]
theorem Xf {h:Ez}:∀{ds:Df} {us:Db} {as:Dd} (i:Nat),LF h us ds as->i<ds.length->∃bs,Reads h (us.getD i EE) (ds.getD i .none) bs
 |[],_,_,i,_,hi=>absurd hi (VI _)
 |d::ds,_,_,0,r,_=>by
  cases r with
  |cons r1 r2=>exact⟨_,r1⟩
 |d::ds,_,_,i+1,r,hi=>by
  cases r with
  |cons r1 r2=>exact Xf i r2 (by simpa using hi)
theorem OT {β:Type}{l:List β}{z:β}:(EG l.length).map (fun i=>l.getD i z)=l:=by
 apply List.ext_getElem?
 intro i;rw[Zp]
 rcases Ub i l.length with q|q
 ·rw[VN q,Zn q];simp[YA,Zn q]
 ·rw[Ya (by rwa[Yn]),Ya q];rfl
end
end L2
namespace AxS
open PySem PySem.Spec PyProof.Rows
end AxS
namespace L2
open PySem PySem.Spec PyProof.Rows AxS
section
variable {X:Cx}{Dp:De}{σ:St}{H:Hp}{s:Ej}{d:Eh}{Dm:Dl}
theorem Xx (I:Inv X Dp σ H s)(e:Rd H d (.dK Dm)):∃vs ep,KV Dm vs/\s.heap.DictAt (mixKind X.prog X.w) d vs ep/\(d==EM)=false/\Dm.length<=sizeLine:=by
 obtain⟨z,hd,vs,rel,o,es,ep,ho,hx,hdat,hk,hp,hnd⟩:=vQ I.hok e;exact⟨vs,ep,rel,⟨o,es,ho,hx,hdat,hk,hp,hnd⟩,hd,z⟩
theorem IN {α β:Type}{F G:α->β->Prop}(h:∀a b,F a b->G a b):∀{l:List α} {m:List β},Lj F l m->Lj G l m
 |_,_,.nil=>.nil
 |_,_,.cons r t=>.cons (h _ _ r) (IN h t)
theorem ObjOk.thaw {ob:Obj}{x:HO}(hd:H d=some (.frz ob x)){y:HO}(ok:ObjOk P w H h b u):ObjOk P w (upd H d y) h b u:=by
 have keep:∀{c:Eh} {z:HO},H c=some z->(∀o v,z≠.frz o v)->upd H d y c=some z:=fun{c z} e n=>by
  rw[zH fun q=>by rw[q,hd]at e;exact n _ _ (Option.some.inj e).symm];exact e
 induction u generalizing b with
 |lst xs=>exact ok
 |tup xs=>exact ok
 |dK Dm=>exact ok
 |dT Dm =>
  obtain⟨h1,h2,xs,hp,h3⟩:=ok;exact⟨h1,h2,xs,IN (fun p q r=>⟨r.1,keep r.2.1 (fun o v z=>(nomatch z)),r.2.2⟩) hp,h3⟩
 |set S n=>exact ok
 |ins C dx fs=>exact⟨keep ok.1 (fun o v z=>(nomatch z)),ok.2⟩
 |own x=>exact ok
 |xd fs=>exact ok
 |rng lo hi=>exact ok
 |frz o u ih=>exact⟨ok.1,ih ok.2⟩
 |tbl ps=>exact ok
 |met f x=>exact ok
 |ext φ=>exact ok
theorem Inv.thaw {ob:Obj}(I:Inv X Dp σ H s)(hd:H d=some (.frz ob (.dK Dm)))(n0:∀o u,X.H₀ d≠some (.frz o u)):Inv X Dp σ (upd H d (.dK Dm)) s:=by
 have ne:∀{b:Eh},H b=none->b≠d:=fun{b} e z=>by rw[z,hd]at e;cases e
 have nt:∀{b:Eh} {z:HO},H b=some z->(∀o v,z≠.frz o v)->b≠d:=fun{b z} e n q=>by rw[q,hd]at e;exact n _ _ (Option.some.inj e).symm
 refine⟨I.ok,I.os,I.bare,⟨I.base.keep,I.base.slot,fun b o h1 h2 h3=>?_,I.base.there,fun b xs h1=>?_,fun b o u h1=>?_,fun b ps h1=>?_⟩,I.loc,I.cell,?_,fun x c h1=>?_,fun p hp=>?_,fun b u h1=>?_,I.len⟩
 ·have:=I.base.free b o h1 h2 h3;rwa[zH (ne this)]
 ·have:=I.base.tups b xs h1;rwa[zH (nt this fun o v z=>(nomatch z))]
 ·have:=I.base.frzs b o u h1;rw[zH fun z=>n0 o u (by rwa[←z])];exact this
 ·obtain⟨more,this⟩:=I.base.tbls b ps h1;exact⟨more,by rw[zH (nt this fun o v z=>(nomatch z))];exact this⟩
 ·rw[zH (ne I.free)];exact I.free
 ·have:=I.freeC x c h1;rwa[zH (ne this)]
 ·obtain⟨a1,a2,a3⟩:=I.pin p hp;exact⟨a1,by rw[zH (ne a2)];exact a2,a3⟩
 ·by_cases z:b=d
  ·rw[z,zB]at h1;cases h1;rw[z];exact(I.hok d _ hd).2
  ·rw[zH z]at h1;exact(I.hok b u h1).thaw hd
end
section
variable {X:Cx}{tg:EF}
def Wq (H₀:Hp)(t:TE):TE:=fun σ H Q=>t σ H fun v H1=>∃d ob Dm,H1 d=some (.frz ob (.dK Dm))/\(∀o u,H₀ d≠some (.frz o u))/\Q v (upd H1 d (.dK Dm))
theorem Rq (h:PE X e t):PE X e (Wq X.H₀ t):=by
 intro Dp s σ H Q I q;refine Ci (h Dp s σ H _ I q) fun v s1 ⟨x,H1,I1,r,d,ob,Dm,hd,n0,q⟩=>?_;exact⟨x,_,I1.thaw hd n0,r,q⟩
def SS:Dj->Hp->VK->Prop:=fun xs H Q=>∃a Dm,xs=[.ref a]/\Rd H a (.dK Dm)/\∀l,H l=none->Q (.ref l) (upd H l (.lst (Dm.map fun kv=>kV kv.1)))
theorem X7 (hc:X.calm=true):CallR X (.type "list") SS:=by
 intro Dp s σ H xs us Q I r h;obtain⟨a,Dm,rfl,ha,q⟩:=h;obtain⟨u,rfl,ru⟩:=vals1 r;cases ru;obtain⟨vs,ep,rel,da,hS,hz⟩:=Xx I ha;have Dq:Dm.length=vs.length:=Paired.length rel;refine PySem.W.kdl_call (V6 (knd:=mixKind X.prog X.w) (kvs:=vs) (ep:=ep) hS) (I.ok.hd hc) da (by omega) fun h' tk acc c hkp hl DU=>?_;have rv:Vals (Dm.map fun kv=>kV kv.1) acc.toList:=GW rel (by rw[ZH];exact DU.1) fun j v e=>DU.2 j v (by rwa[←Yh]);exact⟨.ref s.heap.objs.size,_,I.laid (t':=tk) hkp (Ze _) (show ObjOk X.prog X.w _ h' _ (.lst (Dm.map fun kv=>kV kv.1)) from⟨by rw[Q7];exact hz,acc.toList,c,rv,hl⟩),rfl,q _ (I.hok.fresh (Ze _))⟩
def SQ:Dj->Hp->VK->Prop:=fun xs H Q=>∃a Dm,xs=[.ref a]/\Rd H a (.dK Dm)/\∀l,H l=none->Q (.ref l) (upd H l (.dK Dm))
theorem uC:CallR X (.type "dict") SQ:=by
 intro Dp s σ H xs us Q I r h;obtain⟨a,Dm,rfl,ha,q⟩:=h;obtain⟨u,rfl,ru⟩:=vals1 r;cases ru;exact NV I ha fun p s' hp I'=>⟨.ref p,_,I',rfl,q p hp⟩
def GD (kv:Key×V):Str:=match kv.1 with
 | .inr x=>x
 | .inl _=>""
def R8 (Dm:Dl):Prop:=∀kv∈Dm,kv.1=.inr (GD kv)
theorem Hx {us:Db}(al:R8 Dm)(rel:KV Dm vs)(hl:us.length=vs.length)(hm:∀(j:Nat) (v:Eg),us[j]?=some v->∃k x,vs[j]?=some (k,x)/\(mixKind P w).is k v=true):xW us (Dm.map GD):=by
 have Dq:Dm.length=vs.length:=Paired.length rel;refine⟨by rw[Q7];omega,fun i v e=>?_⟩;obtain⟨k,x,e1,hk⟩:=hm i v e;obtain⟨p,ep,ekk,_⟩:=jE rel e1;have ekk:p.1=k:=ekk;have ap:=al p (Zm ep);rw[←ekk,ap]at hk;obtain⟨t,et⟩:=YO (show E4 (GD p) v=true from hk);exact⟨GD p,t,by rw[Zp,ep];rfl,et⟩
def O5:Dj->Hp->VK->Prop:=fun xs H Q=>∃a Dm,xs=[.ref a]/\Rd H a (.dK Dm)/\R8 Dm/\Dm.length<64/\∀l ss,H l=none->ss.Perm (Dm.map GD)->sortedS ss=true->Q (.ref l) (upd H l (.lst (ss.map V.str)))
theorem B4 (hc:X.calm=true):CallR X (.builtin "sorted") O5:=by
 intro Dp s σ H xs us Q I r h;obtain⟨a,Dm,rfl,ha,al,h64,q⟩:=h;obtain⟨u,rfl,ru⟩:=vals1 r;cases ru;obtain⟨vs,ep,rel,da,hS,hz⟩:=Xx I ha;have Dq:Dm.length=vs.length:=Paired.length rel;refine LO kind_sorted plain_sorted entry_sorted (args_sorted1 _) ?_;unfold Builtin.«sorted»;refine Q9 (m:=checkCount "sorted" 1 1 _) (Zg ?_);refine Q9 (PySem.W.kdu_collect (A:=X.A.in1) (V6 (knd:=mixKind X.prog X.w) (kvs:=vs) (ep:=ep) hS) (I.ok.hd hc) da (by omega) fun h' tk acc0 hkp DU=>?_);have tx:xW acc0.toList (Dm.map GD):=Hx al rel (by rw[ZH];exact DU.1) fun j v e=>DU.2 j v (by rwa[←Yh]);generalize acc0.toList=acc at tx ⊢;have hstr:=strs_of tx;have hal:acc.length<64:=by rwa[tx.1,Q7]
 have DG:64<=sizeLine:=by rw[Yp];decide
 refine Q9 (V0 ?_ (by omega));have hoL:(h'.push (Lg "list" acc.toArray 0)).get? h'.objs.size=some (Lg "list" acc.toArray 0):=Zo _ rfl;refine Q9 (Yg (Yc slot_list_sort ⟨_,hoL,rfl⟩ Uj (list_sort_treeK strKind_oneLt hoL hstr.keysOf (fun v₁ v₂ rest e=>keyKind_strs (by rwa[←e])) (by omega) fun st' a1 a2=>⟨_,rfl,?_⟩) (args_list_sort _)));obtain⟨ss',b1,b2,b3⟩:=sorted_out_str hstr a1 a2;refine Zg ⟨_,rfl,?_⟩;obtain⟨e,he⟩:=sortedHeap_at (out:=(arrOf st').map (·.2)) hoL;have nl:=U5 b1;have I1:Inv X Dp σ H { s with heap:=h',toks:=tk }:=I.kept (t':=tk) hkp;have kp2:∀b ob,h'.get? b=some ob->(sortedHeap (h'.push (Lg "list" acc.toArray 0)) h'.objs.size acc ((arrOf st').map (·.2))).get? b=some ob:=fun b ob q1=>by
  have hb:b<h'.objs.size:=Zq q1;rw[sortedHeap_old (Zz hb) (by rw[Ys];exact YK hb)];exact Zd _ q1
 have fr:H h'.objs.size=none:=I1.hok.fresh (Ze _);have hz2:(ss'.map V.str).length<=sizeLine:=by
  have:=b2.length_eq;rw[Q7]at this ⊢;omega
 exact⟨.ref h'.objs.size,_,I1.laid (o:=.lst (ss'.map V.str)) (t':=tk) kp2 (Ze _) ⟨hz2,_,e,nl,he⟩,rfl,q _ ss' fr b2 b3⟩
def putAll (Dm more:Dl):Dl:=more.foldl (fun acc kv=>putK acc kv.1 kv.2) Dm
theorem KV.putAll:∀{more:Dl} {um:List (Key×Eg)} {Dm:Dl} {vs:List (Key×Eg)},KV Dm vs->KV more um->KV (putAll Dm more) (merged vs um)
 |[],_,_,_,r,.nil=>r
 |p::more,q::um,Dm,vs,r,.cons h t=>by
  have e:p.1=q.1:=h.1;have:=KV.putAll (Dm:=putK Dm p.1 p.2) (vs:=stored vs q.1 q.2) (by rw[←e];exact r.put p.1 h.2) t;exact this
theorem qX:∀(more Dm:Dl),(putAll Dm more).length<=Dm.length+more.length
 |[],Dm=>Ze _
 |p::more,Dm=>by
  have:=qX more (putK Dm p.1 p.2);have:=x5 Dm p.1 p.2;show(putAll (putK Dm p.1 p.2) more).length<=_;rw[Zh];omega
def Wk (td ty:TE):TE:=fun σ H Q=>td σ H fun x H1=>∃a,x=.ref a/\Tp H1 a/\ty σ H1 fun y H2=>∃b Dm more,y=.ref b/\a≠b/\H2 a=some (.dK Dm)/\Rd H2 b (.dK more)/\Dm.length+more.length<=sizeLine/\Q .non (upd H2 a (.dK (putAll Dm more)))
theorem Rj (ho:PE X o td)(he:PE X e ty)(m:M1 X o "update" Ds e Dr):PE X (.Call (.Attribute o "update" Ds) [e] [] Dr) (Wk td ty):=by
 intro Dp s σ H Q I h;refine Vi m.base m.few m.line Jr PySem.F.slot_dict_update PySem.F.type_dict_update (Ci (ho Dp s σ H _ I h) fun u s1 ⟨x,H1,I1,rx,a,ex,d,q1⟩=>?_);subst ex;obtain rfl:u=Eu a:=rx;obtain⟨t1,t2,_⟩:=Bu I1 d;refine⟨t1,t2,?_⟩;rw[m.trees];refine E2 rfl (Lh (Ld (Ci (he Dp s1 σ H1 _ I1 q1) fun iv s2 ⟨y,H2,I2,ry,b,Dm,more,ey,ne,ea,eb,hz,q2⟩=>Lp ?_)));subst ey;cases ry;obtain⟨z,hd,vs,rel,dd⟩:=NY I2.hok ea;obtain⟨z2,hd2,um,rel2,dd2⟩:=vQ I2.hok eb;refine JB PySem.F.slot_dict_update dd.typeIs PySem.F.entry_dict_update (PySem.F.args_dict_update_2 _ _) (meets_dict_update (mixKind X.prog X.w) a b ne hd2)
  ⟨vs,um,dd,dd2,by rw[←rel.length,←rel2.length];exact hz,fun h' dd' _ hs=>⟨.non,_,?_,rfl,q2⟩⟩
 have hex:∃q,h'.get? a=some q:=let ⟨q,_,_,hq,_⟩:=dd';⟨q,hq⟩;exact vP I2 (by rw[ea];exact Lc) hs hex (Gr (Z5 (qX more Dm) hz) hd (rel.putAll rel2) dd')
end
end L2
namespace An10
end An10
namespace An12
open PySem L2 An An10
end An12
namespace An10
open PySem L2 An
end An10
namespace An12
open PySem L2 An An10
end An12
namespace AnJ
section
variable {α:Type}
inductive Pt (α:Type) where
 |same (ls:List α)
 |clash (b m y:List α)
end
open An10
open AxK
open PySem L2 An An12
def tupS (ls:Da):PyData:=.tuple (ls.map .str)
theorem N1 (l m:Da):ER (tupS l) (tupS m)=decide (l=m):=by
 show EU (l.map .str) (m.map .str)=_;exact qJ l m
theorem KN:∀a b:List Nat,decide (a<b)=yL TO.nat a b
 |[],[]=>by decide
 |[],_::_=>by simp[yL]
 |_::_,[]=>by simp[yL]
 |a::as,b::bs=>by
  have ih:=KN as bs;unfold yL;rw[←ih,ZZ,Zv,Yw];show _↔(decide (a<b)||(!decide (b<a)&&decide (as<bs)))=true;rw[Uf,Zk,Zv,Zv,Y3,Y4];constructor
  ·rintro(h|⟨h,h'⟩)
   ·exact .inl h
   ·exact .inr ⟨by omega,h'⟩
  ·rintro(h|⟨h,h'⟩)
   ·exact .inl h
   ·by_cases z:a<b
    ·exact .inl z
    ·exact .inr ⟨by omega,h'⟩
def strO:TO Str:=TO.by_ (TO.list TO.nat) cs fun a b h=>cs_inj h
theorem strO_lt (a b:Str):strO.lt a b=decide (a.cps.toList<b.cps.toList):=(KN _ _).symm
theorem lt_strs:∀a b:Da,RO (a.map .str) (b.map .str) ((TO.list strO).lt a b)
 |[],[]=>by
  show false=decide (0<0);rfl
 |[],_::_=>by
  show true=decide (0<_);simp
 |_::_,[]=>rfl
 |x::a,y::b=>by
  show((x==y)=true/\RO (a.map .str) (b.map .str) (yL strO (x::a) (y::b)))\/((x==y)=false/\yL strO (x::a) (y::b)=decide (x.cps.toList<y.cps.toList))
  by_cases e:x=y
  ·subst e;refine .inl ⟨by simp,?_⟩;unfold yL;have:strO.lt x x=false:=strO.refl x;rw[this];exact lt_strs a b
  ·refine .inr ⟨by simpa using e,?_⟩;unfold yL;rw[←strO_lt];cases q:strO.lt x y with
   |true=>rfl
   |false =>
    cases q':strO.lt y x with
    |true=>rfl
    |false=>exact absurd (strO.ant _ _ q q') e
end AnJ
namespace L2
open PySem PySem.Spec PyProof.Rows PySem.W AxK An
def lays:Hp->List (Eh×Dj)->Hp
 |H,[]=>H
 |H,p::r=>lays (upd H p.1 (.tup p.2)) r
theorem k6:∀{l:List (Eh×Dj)} {H:Hp} {b:Eh},b∉l.map (·.1)->lays H l b=H b
 |[],_,_,_=>rfl
 |p::r,H,b,h=>by
  rw[ZC,Zi,not_or]at h;show lays (upd H p.1 (.tup p.2)) r b=_;rw[k6 h.2,zH h.1]
theorem BB:∀{l:List (Eh×Dj)} {H:Hp} {p:Eh×Dj},(l.map (·.1)).Nodup->p∈l->lays H l p.1=some (.tup p.2)
 |q::r,H,p,nd,h=>by
  rw[ZC,Z8]at nd;show lays (upd H q.1 (.tup q.2)) r p.1=_
  rcases Zi.mp h with rfl|h
  ·rw[k6 nd.1,zB]
  ·exact BB nd.2 h
theorem lays_some:∀{l:List (Eh×Dj)} {H:Hp} {b:Eh} {o:HO},(l.map (·.1)).Nodup->lays H l b=some o->H b=some o\/∃xs,(b,xs)∈l/\o=.tup xs:=fun{l H b o} nd h=>by
 by_cases z:b∈l.map (·.1)
 ·obtain⟨p,hp,rfl⟩:=Zb.mp z;rw[BB nd hp]at h;exact .inr ⟨p.2,hp,(Option.some.inj h).symm⟩
 ·rw[k6 z]at h;exact .inl h
theorem GR {l:List (Eh×Dj)}{H:Hp}(f:∀p∈l,H p.1=none):Same H (lays H l):=fun b o e=>by
 rw[k6]
 ·exact e
 ·intro z;obtain⟨p,hp,rfl⟩:=Zb.mp z;rw[f p hp]at e;cases e
section
variable {X:Cx}{Dp:De}{σ:St}{H:Hp}{s:Ej}{h':Ez}{K:Cd}
theorem Inv.lays {t':Nat}(I:Inv X Dp σ H s){l:List (Eh×Dj)}(nd:(l.map (·.1)).Nodup)(k:∀b u,s.heap.get? b=some u->h'.get? b=some u)(hp:∀p∈l,s.heap.objs.size<=p.1)(new:∀p∈l,ObjOk X.prog X.w (lays H l) h' p.1 (.tup p.2)) :
  Inv X Dp σ (lays H l) { s with heap:=h',toks:=t' }:=by
 have fr:∀p∈l,H p.1=none:=fun p m=>I.hok.fresh (hp p m);have sm:=GR fr;have nx:∀b u,s.heap.get? b=some u->b∉l.map (·.1):=fun b u q z=>by
  obtain⟨p,m,rfl⟩:=Zb.mp z;exact absurd (Zq q) (Nat.not_lt.mpr (hp p m))
 refine I.un ⟨fun b u q _ _ _=>k b u q,fun b u q _ _ _=>⟨u.slots,k b u q⟩,fun b u q n _=>by rw[k6 (nx b u q)];exact n,fun b u q _=>⟨u,k b u q⟩,fun b xs q=>sm _ _ q,fun b u xs q=>sm _ _ q,fun b ps q=>⟨#[],by rw[sm _ _ q];simp⟩⟩ fun b u e=>?_
 rcases lays_some nd e with z|⟨xs,m,rfl⟩
 ·exact(I.hok b u z).stay (fun c v _ q=>k c v q) (fun c q=>sm _ _ q) fun c xs q=>sm _ _ q
 ·exact new _ m
theorem IX:∀{ps:Dg},(∀p∈ps,Ep p.1=true/\Ep p.2=true)->Ew (ps.map An.rowDat)=true
 |[],_=>rfl
 |p::ps,h=>by
  obtain⟨h1,h2⟩:=h p (Zc ..);show(((Ep p.1)&&((Ep p.2)&&true))&&Ew (ps.map An.rowDat))=true;rw[h1,h2,IX fun q hq=>h q (Za _ hq)];rfl
def Gz:Eo->Da
 | .tuple xs=>xs.map fun d=>match d with
  | .str x=>x
  |_=>""
 |_=>[]
theorem IH {ps:Dg}{i:Nat}(h:i<ps.length):(ps.map An.rowDat).getD i .none=An.rowDat (ps.getD i ("","")):=by
 rw[YA,YA,Zp,Zn h];rfl
theorem SX {a b:Str×Str}(h:(TO.list AnJ.strO).le (Gz (An.rowDat a)) (Gz (An.rowDat b))):cs a.1<=cs b.1:=by
 have h:yL AnJ.strO [b.1,b.2] [a.1,a.2]=false:=h;have h:(AnJ.strO.lt b.1 a.1||(!AnJ.strO.lt a.1 b.1&&yL AnJ.strO [b.2] [a.2]))=false:=h;rw[YJ,AnJ.strO_lt,Y4]at h;exact JO.mp h.1
def Ta (K:Cd)(td:TE):TE:=fun σ H Q=>td σ H fun v H1=>∃(d:Eh) (ps:Dg),v=.ref d/\Rd H1 d (.dK (ps.map fun p=>((.inr p.1:Key),V.str p.2)))/\ps.length<64/\(∀p∈ps,Ep p.1=true/\Ep p.2=true) /\
 ∀(l:Eh) (ss:Dg) (ts:Dj) (H2:Hp),ss.Perm ps->(ss.Pairwise fun a b=>cs a.1<=cs b.1)->Same H1 H2->H1 l=none->H2 l=some (.lst ts)->DtAll K H2 (ss.map An.rowDat) ts->Q (.ref l) H2
theorem OR {p Ds Dr pos:Pos}(hc:X.calm=true)(hu:X.A.units+64<E5)(hg:Gl X x)(hm:X.mg x=none)(hv:LL x=some (.builtin "sorted"))(ho:PE X o td)
  (D0:Lu o "items" X.env (E1 o X.env)=E1 o X.env:=by rfl) (DG:(Ds.endLine==Dr.line)=true:=by rfl) (hn:x≠"__name__":=by decide) (hdb:(x==("__debug__":Str))=false:=by decide)
  (he:Ev [.Call (.Attribute o "items" Ds) [] [] Dr] X.env=(false,E1 (.Call (.Attribute o "items" Ds) [] [] Dr) X.env)::Ev [] X.env:=by rfl) (hpl:(E8 pos (Ev [] X.env)).any (·.1)=false:=by rfl) (hK:X.K=K:=by rfl) :
  PE X (.Call (.Name x p) [.Call (.Attribute o "items" Ds) [] [] Dr] [] pos) (Ta K td):=by
 subst hK;intro Dp s σ H Q I h;refine Jd (Xk I hg hm hv ?_ hn hdb);refine Vu ?_ he hpl;rw[he];show Ek _ _ (spliced ((false,E1 (.Call (.Attribute o "items" Ds) [] [] Dr) X.env)::E8 pos (Ev [] X.env))) _ _ s;refine Ld ?_;refine wpAny_Call_method0_late D0 DG (Ci (ho Dp s σ H _ I h) fun v s1 ⟨x,H1,I1,r,d,ps,ex,hd,h64,hok,q⟩=>?_);subst ex;cases r;obtain⟨vs,ep,rel,da,hS,hzz⟩:=Xx I1 hd;have dO:=da.dictOf;obtain⟨ob',es',h1,h2,h3⟩:=id da;refine⟨"dict","dict.items",F.plainAttrs_dict,L5,F.type_dict_items,dO.typeIs,fun b q=>by cases q;exact⟨ob',h1,h2.2.1⟩,E2 rfl (PySem.evalArgs_none ?_)⟩;refine JB L5 dO.typeIs F.entry_dict_items (F.args_dict_items_1 _) (meets_dict_items (mixKind X.prog X.w) d hS) ⟨⟨vs,dO⟩,?_⟩;refine Lp ?_;have I2:Inv X Dp σ H1 { s1 with heap:=s1.heap.push { cls:=.type "dict_items",data:=.fields #[.ref d] } }:=I1.kept (t':=s1.toks) fun b o e=>Zd _ e;have da2:(s1.heap.push { cls:=.type "dict_items",data:=.fields #[.ref d] }).DictAt (mixKind X.prog X.w) d vs ep:=da.at' fun o e=>Zd _ e;have hvw:(s1.heap.push { cls:=.type "dict_items",data:=.fields #[.ref d] }).IsItemsView s1.heap.objs.size d:=⟨_,Zo _ rfl,rfl,rfl⟩;have Dq:(ps.map fun p=>((.inr p.1:Key),V.str p.2)).length=vs.length:=Paired.length rel;rw[Q7]at Dq;have DG:64<=sizeLine:=by rw[Yp];decide
 refine LO kind_sorted plain_sorted entry_sorted (args_sorted1 _) ?_;unfold Builtin.«sorted»;refine Q9 (m:=checkCount "sorted" 1 1 _) (Zg ?_);refine Q9 (kdx_collect (A:=X.A.in1) (knd:=mixKind X.prog X.w) (I.ok.hd hc) hvw da2 (by omega) fun h' tk as hkp hl hG=>?_);have hkp0:∀b o,(s1.heap.push { cls:=.type "dict_items",data:=.fields #[.ref d] }).get? b=some o->h'.get? b=some o:=hkp;generalize s1.heap.push { cls:=.type "dict_items",data:=.fields #[.ref d] }=h0 at I2 hG hkp0;clear da2 hvw hkp;have ln:as.length=ps.length:=by rw[hl,←Dq]
 have nda:as.Nodup:=ZF.mpr (hG.rise.imp fun{a b} z=>Zz z);have z1:((as.zip ps).map fun(q:Eh×(Str×Str))=>(q.1,[V.str q.2.1,V.str q.2.2])).map (·.1)=as:=by
  rw[ZB];exact VB (by omega)
 have I3:Inv X Dp σ (lays H1 ((as.zip ps).map fun(q:Eh×(Str×Str))=>(q.1,[V.str q.2.1,V.str q.2.2]))) { s1 with heap:=h',toks:=tk }:=by
  refine Inv.lays (s:={ s1 with heap:=h0 }) I2 (by rwa[z1]) hkp0 (fun p hp=>?_) (fun p hp=>?_)
  ·obtain⟨c,hc',rfl⟩:=Zb.mp hp;exact YF (hG.above _ (J3 hc').1)
  ·obtain⟨c,hc',rfl⟩:=Zb.mp hp;obtain⟨j,hj⟩:=YE.mp hc';rw[Jg]at hj;obtain⟨key,k,x,e1,hk,e2⟩:=hG.pairs j _ hj.1;obtain⟨p,ep',ekk,rx⟩:=jE rel e1;rw[Zp,hj.2]at ep';have ep':=(Option.some.inj ep').symm;subst ep';have ekk:(Er c.2.1:Key)=k:=ekk;rw[←ekk]at hk;obtain⟨t,et⟩:=YO (show E4 c.2.1 key=true from hk);exact⟨by show 2<=_;omega,[key,x],.cons ⟨t,et⟩ (.cons rx .nil),_,e2,rfl,0,rfl,rfl⟩
 have sm:Same H1 (lays H1 ((as.zip ps).map fun(q:Eh×(Str×Str))=>(q.1,[V.str q.2.1,V.str q.2.2]))):=GR fun p hp=>by
  obtain⟨c,hc',rfl⟩:=Zb.mp hp;exact I2.hok.fresh (YF (hG.above _ (J3 hc').1))
 have hds:DtAll X.K (lays H1 ((as.zip ps).map fun(q:Eh×(Str×Str))=>(q.1,[V.str q.2.1,V.str q.2.2]))) (ps.map An.rowDat) (as.map V.ref):=by
  have at_:∀(j:Nat) (a:Eh) (p:Str×Str),as[j]?=some a->ps[j]?=some p->lays H1 ((as.zip ps).map fun(q:Eh×(Str×Str))=>(q.1,[V.str q.2.1,V.str q.2.2])) a=some (.tup [V.str p.1,V.str p.2]):=fun j a p ha hp =>
   BB (p:=(a,[V.str p.1,V.str p.2])) (by rwa[z1]) (Zb.mpr ⟨(a,p),Zm (i:=j) (Jg.mpr ⟨ha,hp⟩),rfl⟩)
  generalize lays H1 ((as.zip ps).map fun(q:Eh×(Str×Str))=>(q.1,[V.str q.2.1,V.str q.2.2]))=Hs at at_;clear I3 sm z1 nda hG hl hok q hd rel h64 Dq hzz
  induction as generalizing ps with
  |nil =>
   cases ps with
   |nil=>rfl
   |cons p ps=>cases ln
  |cons a as ih =>
   cases ps with
   |nil=>cases ln
   |cons p ps =>
    have h0:=at_ 0 a p rfl rfl;exact⟨.ref a,as.map V.ref,rfl,⟨a,[V.str p.1,V.str p.2],rfl,SqT.of h0,_,_,rfl,rfl,_,_,rfl,rfl,rfl⟩,ih ps (by simpa using ln) fun j b q' hb hq'=>at_ (j+1) b q' hb hq'⟩
 generalize lays H1 ((as.zip ps).map fun(q:Eh×(Str×Str))=>(q.1,[V.str q.2.1,V.str q.2.2]))=Hs at I3 sm hds;have rv:Vals (as.map V.ref) (as.map Eu):=by
  clear hG hl nda ln z1 hds I3
  induction as with
  |nil=>exact .nil
  |cons a as ih=>exact .cons rfl ih
 obtain⟨cs',rd⟩:=DtAll.reads I3 _ _ _ hds rv;have rd:LF h' (as.map Eu) (ps.map An.rowDat) cs':=rd;have lay:Ew (ps.map An.rowDat)=true:=IX hok;have l1:(as.map V.ref).length=(ps.map An.rowDat).length:=by rwa[Q7,Q7]
 have l2:(as.map Eu).length=(ps.map An.rowDat).length:=by rwa[Q7,Q7]
 have l3:(ps.map An.rowDat).length<64:=by rwa[Q7]
 have hdd:∀d∈ps.map An.rowDat,IP "str" d/\d.canLay0=true/\d.depth<=60:=fun d hd=>by
  obtain⟨p,hp,rfl⟩:=Zb.mp hd;obtain⟨h1,h2⟩:=hok p hp;refine⟨rfl,?_,by show max 0 (max 0 0)+1<=60;decide⟩;show(Ep p.1&&(Ep p.2&&true))=true;rw[h1,h2];rfl
 have hlt:∀d∈ps.map An.rowDat,∀e∈ps.map An.rowDat,Tj d e ((TO.list AnJ.strO).lt (Gz d) (Gz e)):=fun d hd e he=>by
  obtain⟨p,hp,rfl⟩:=Zb.mp hd;obtain⟨p',hp',rfl⟩:=Zb.mp he;exact AnJ.lt_strs [p.1,p.2] [p'.1,p'.2]
 generalize as.map Eu=its at rd rv l2;generalize as.map V.ref=vs' at rv hds l1;refine Q9 (V0 ?_ (by rw[l2];omega));have hoL:(h'.push (Lg "list" its.toArray 0)).get? h'.objs.size=some (Lg "list" its.toArray 0):=Zo _ rfl;have kp:∀b o,h'.get? b=some o->(h'.push (Lg "list" its.toArray 0)).get? b=some o:=fun b o z=>Zd _ z;show Ek _ _ _ _ _ { s1 with heap:=h'.push (Lg "list" its.toArray 0),toks:=tk };generalize h'.push (Lg "list" its.toArray 0)=h1' at hoL kp;refine Q9 (Yg (Yc slot_list_sort ⟨_,hoL,rfl⟩ Uj ?body (args_list_sort _)));refine HY (s:={ s1 with heap:=h1',toks:=tk }) (κ:=tuples' (EO "str" !=EO "tuple")) (lt:=fun i j=>(TO.list AnJ.strO).lt (Gz ((ps.map An.rowDat).getD i .none)) (Gz ((ps.map An.rowDat).getD j .none))) hoL (by omega) (fun h2 s2 k1=>?_) fun p hp=>⟨_,rfl,Zg ⟨_,rfl,?_⟩⟩
 ·have rd1:LF s2.heap its (ps.map An.rowDat) cs':=xV (fun b o z=>k1 b o (Zz (Zq z)) (kp b o z)) _ _ _ lay rd;refine⟨fun Q' E' z=>P7 rd1 (fun d hd'=>(hdd d hd').1) (by omega) z,fun i j hi hj C c=>?_⟩;obtain⟨b1,r1⟩:=Xf i rd1 (by omega);obtain⟨b2,r2⟩:=Xf j rd1 (by omega);have m:∀k,k<its.length->(ps.map An.rowDat).getD k .none∈ps.map An.rowDat:=fun k hk=>by
   rw[YA,Zn (by omega)];exact YB _
  have d1:=hdd _ (m i hi);have d2:=hdd _ (m j hj);exact Nb r1 r2 d1.1 d2.1 d1.2.1 d2.2.1 (by show X.A.units+1+1+_<_;omega) (hlt _ (m i hi) _ (m j hj)) c
 ·have pp:p.Perm (La (EG its.length))/\Up (TO.list AnJ.strO) (fun i=>Gz ((ps.map An.rowDat).getD i .none)) p its.length:=by
   rcases hp with⟨n2,rfl⟩|⟨n2,rfl⟩
   ·refine⟨Array.Perm.refl _,fun(i j:Nat) (hij:i<=j) (hj:j<its.length)=>?_⟩;have:i=j:=by omega
    subst this;exact(TO.list AnJ.strO).refl _
   ·obtain⟨p',e,a1,a2⟩:=RE (O:=TO.list AnJ.strO) (key:=fun i=>Gz ((ps.map An.rowDat).getD i .none)) (n:=its.length) (by omega);rw[e];exact⟨a1,a2⟩
  obtain⟨pp,up⟩:=pp;have pl':p.toList.Perm (EG its.length):=by simpa using Array.perm_iff_toList_perm.mp pp
  have pm:∀i∈p.toList,i<vs'.length:=fun i hi=>by
   have:=Jb.mp (pl'.mem_iff.mp hi);omega
  obtain⟨e,he'⟩:=sortedHeap_at (out:=La (p.toList.map fun i=>its.getD i EE)) hoL;have nl:=Br rv p.toList pm;have kp2:∀b ob,h'.get? b=some ob->(sortedHeap h1' h'.objs.size its (La (p.toList.map fun i=>its.getD i EE))).get? b=some ob:=fun b ob q1=>by
   have hb:b<h'.objs.size:=Zq q1;rw[sortedHeap_old (Zz hb) (Zq (kp b ob q1))];exact kp b ob q1
  have hl':p.toList.length=its.length:=by rw[pl'.length_eq,Yn]
  have fr3:Hs h'.objs.size=none:=I3.hok.fresh (Ze _);have fr1:H1 h'.objs.size=none:=sm.free fr3;have up2:=zF (o:=.lst (p.toList.map fun i=>vs'.getD i .non)) fr3;refine⟨.ref h'.objs.size,_,I3.laid (o:=.lst (p.toList.map fun i=>vs'.getD i .non)) (t':=tk) kp2 (Ze _) ⟨by rw[Q7,hl',Yp];omega,_,e,nl,he'⟩,rfl,q _ (p.toList.map fun i=>ps.getD i ("","")) _ _ ?_ ?_ (sm.trans up2) fr1 zB ?_⟩
  ·have:=pl'.map fun i=>ps.getD i ("","");rw[show its.length=ps.length by rw[l2,Q7],OT]at this;exact this
  ·rw[Jh];intro i j hi hj hij;rw[ZQ,ZQ];have:=up i j (YF hij) (by rw[Q7,hl']at hj;exact hj);unfold kn at this;rw[Q7,ZH]at hi hj;rw[ZV,ZV,Uc p i hi,Uc p j hj]at this;have pi:p[i]<ps.length:=by
    have:=pm p[i] (by rw[←JP hi];exact YB _);rw[l1,Q7]at this;exact this
   have pj:p[j]<ps.length:=by
    have:=pm p[j] (by rw[←JP hj];exact YB _);rw[l1,Q7]at this;exact this
   rw[JP hi,JP hj];have this:(TO.list AnJ.strO).le (Gz ((ps.map An.rowDat).getD p[i] .none)) (Gz ((ps.map An.rowDat).getD p[j] .none)):=by simpa using this
   rw[IH pi,IH pj]at this;exact SX this
  ·have:=DtAll.same up2 _ _ (Kx hds p.toList pm);rw[show(p.toList.map fun i=>(ps.map An.rowDat).getD i .none)=(p.toList.map fun i=>ps.getD i ("","")).map An.rowDat by
    rw[ZB];refine ZS fun i hi=>IH ?_;have:=pm i hi;rw[l1,Q7]at this;exact this]at this
   exact this
end
section
variable {X:Cx}
def Tc (H₀:Hp)(t:TS):TS:=fun D σ H=>t { D with nx:=fun σ' H'=>∃d ob Dm,H' d=some (.frz ob (.dK Dm))/\(∀o u,H₀ d≠some (.frz o u))/\D.nx σ' (upd H' d (.dK Dm)) } σ H
theorem uI {st:EI}(h:PS X st t):PS X st (Tc X.H₀ t):=by
 intro Dp s σ H D I q;refine Ci (h Dp s σ H _ I q) fun f s1 z=>?_;cases f with
 |next =>
  obtain⟨σ',H',I',d,ob,Dm,hd,n0,q⟩:=z;exact⟨σ',_,I'.thaw hd n0,q⟩
 |ret v=>exact z
 |brk=>exact z
 |cont=>exact z
def Wb (K:Cd):Dj->Hp->VK->Prop:=fun xs H Q=>∃a T Dm b,xs=[.ref a,.ty T]/\Rd H a (.dK Dm)/\Ly K (.type "dict") (.type T)=some b/\Q (.bl b) H
theorem jR {K:Cd}(hK:X.K=K:=by rfl):CallR X (.builtin "isinstance") (Wb K):=by
 subst hK;intro Dp s σ H xs us Q I r h;obtain⟨a,T,Dm,b,rfl,ha,kt,q⟩:=h;obtain⟨u,w',rfl,ru,rw'⟩:=vals2 r;cases(show w'=EO T from rw');cases ru;obtain⟨vs,ep,rel,da,hS,_⟩:=Xx I ha;exact Yb VV I.kIn da.dictOf.typeIs kt (fun z=>nomatch z) fun tk=>⟨.bl b,H,I.tok _,rfl,q⟩
end
end L2
namespace An09
open PySem L2 An
seal L2.PS L2.PSs L2.PE L2.PT L2.PW L2.PA L2.PG L2.PGs L2.PI L2.PFi L2.PC
def top (i:Nat):Stmt:=PySem.Challenge.pw_annals_k09_whole_trees.main.body.getD i (.Pass ⟨0,0,0,0⟩)
def kinds:List String:=["NoneType","bool","int","str","list","tuple","dict"]
def xQ:Dl:=[(Er "leaf",.str "L"),(Er "tree",.str "T"),(Er "note",.str "N")]
theorem HB (t:Th):Ur xQ (Er t.word:Key)=some (.str t.letter):=by
 cases t
 ·show Ur xQ (Er "leaf":Key)=some (.str "L")
  decide +kernel
 ·show Ur xQ (Er "tree":Key)=some (.str "T")
  decide +kernel
 ·show Ur xQ (Er "note":Key)=some (.str "N")
  decide +kernel
section
variable {K:Cd}{H:Hp}
theorem BH {ls:Da}{v:V}(h:Dt K H (Th.leaf ls).dat v):∃a b,v=.ref a/\SqT K H a [.str "leaf",.ref b]/\SqT K H b (ls.map V.str):=by
 obtain⟨a,xs,rfl,hs,x0,r0,rfl,e0,x1,r1,rfl,⟨b,ys,rfl,hb,hy⟩,e2⟩:=h;have e0:x0=.str "leaf":=e0;have e2:r1=[]:=e2;subst e0 e2;rw[DtAll.strs_of hy]at hb;exact⟨a,b,rfl,hs,hb⟩
theorem BT {rs:Dg}{v:V}(h:Dt K H (Th.tree rs).dat v):∃a b,v=.ref a/\SqT K H a [.str "tree",.ref b]/\Dt K H (.tuple (rs.map rowDat)) (.ref b):=by
 obtain⟨a,xs,rfl,hs,x0,r0,rfl,e0,x1,r1,rfl,⟨b,ys,rfl,hb,hy⟩,e2⟩:=h;have e0:x0=.str "tree":=e0;have e2:r1=[]:=e2;subst e0 e2;exact⟨a,b,rfl,hs,b,ys,rfl,hb,hy⟩
theorem BU {t:Str}{ps:Da}{w:Str}{v:V}(h:Dt K H (Th.note t ps w).dat v):∃a b,v=.ref a/\SqT K H a [.str "note",.str t,.ref b,.str w]/\SqT K H b (ps.map V.str):=by
 obtain⟨a,xs,rfl,hs,x0,r0,rfl,e0,x1,r1,rfl,e1,x2,r2,rfl,⟨b,ys,rfl,hb,hy⟩,x3,r3,rfl,e3,e4⟩:=h;have e0:x0=.str "note":=e0;have e1:x1=.str t:=e1;have e3:x3=.str w:=e3;have e4:r3=[]:=e4;subst e0 e1 e3 e4;rw[DtAll.strs_of hy]at hb;exact⟨a,b,rfl,hs,hb⟩
theorem vE {t:Th}(h:Dt K H t.dat v):∃a r,v=.ref a/\SqT K H a (.str t.word::r):=by
 cases t with
 |leaf ls=>obtain⟨a,b,e,h1,_⟩:=BH h;exact⟨a,_,e,h1⟩
 |tree rs=>obtain⟨a,b,e,h1,_⟩:=BT h;exact⟨a,_,e,h1⟩
 |note t ps w=>obtain⟨a,b,e,h1,_⟩:=BU h;exact⟨a,_,e,h1⟩
theorem SW (h:Dt K H (rowDat r) v):∃a,v=.ref a/\SqT K H a [.str r.1,.str r.2]:=by
 obtain⟨a,xs,rfl,hs,x0,r0,rfl,e0,x1,r1,rfl,e1,e2⟩:=h;have e0:x0=.str r.1:=e0;have e1:x1=.str r.2:=e1;have e2:r1=[]:=e2;subst e0 e1 e2;exact⟨a,rfl,hs⟩
theorem FK {rs:Dg}{i:Nat}{x:V}(h:DtAll K H (rs.map rowDat) xs)(e:xs[i]?=some x):∃r a,rs[i]?=some r/\x=.ref a/\SqT K H a [.str r.1,.str r.2]:=by
 obtain⟨d,e1,e2⟩:=h.get e;rw[Zp]at e1;cases q:rs[i]? with
 |none=>rw[q]at e1;cases e1
 |some r =>
  rw[q]at e1;have e1:rowDat r=d:=Option.some.inj e1;subst e1;obtain⟨a,e3,e4⟩:=SW e2;exact⟨r,a,rfl,e3,e4⟩
end
def Io (K:Cd):Sp:=fun vs H Q _=>∃v t,vs=[v]/\Dt K H (Th.dat t) v/\Q (.str t.letter) H
def Xv (K:Cd):Sp:=fun vs H Q _=>∃v rs,vs=[v]/\Dt K H (.tuple (rs.map rowDat)) v/\rs.length<=1000/\∀l,H l=none->Q (.ref l) (upd H l (.lst ((z7 rs).map V.str)))
def Mz (K:Cd):Sp:=fun vs H Q _=>∃v t,vs=[v]/\Dt K H (Th.dat t) v/\t.Good/\∀l H',Same H H'->H l=none->H' l=some (.lst (t.parts.map V.str))->Q (.ref l) H'
def G8:Sp:=fun vs H Q _=>∃x,vs=[.str x]/\x.length<=1000/\Q (.str (counted x)) H
def Bo (K:Cd):Sp:=fun vs H Q _=>∃v t,vs=[v]/\Dt K H (Th.dat t) v/\t.Good/\∀H',Same H H'->Q (.str t.sp) H'
def FP (K:Cd):Sp:=fun vs H Q _=>∃v t,vs=[v]/\Dt K H (Th.dat t) v/\t.Good/\∀H',Same H H'->Q (.int (dg t.sp)) H'
structure Txt (P:Ei)(w:Em)(K:Cd)(mg:Str->Dc)(t1 t2 t3 t4 t5 t6 t7:Tok)(aL aC aN aT aA b1 b2 b3:Eh):Prop where
 len:mg "len"=none
 all:mg "all"=none
 ord:mg "ord"=none
 isinstance:mg "isinstance"=none
 str:mg "str"=none
 set:mg "set"=none
 sorted:mg "sorted"=none
 tuple:mg "tuple"=none
 list:mg "list"=none
 max:mg "max"=none
 int:mg "int"=none
 bool:mg "bool"=none
 range:mg "range"=none
 dict:mg "dict"=none
 any:mg "any"=none
 LONGEST_LINE:mg "LONGEST_LINE"=some (.int 20 t1)
 LONGEST_LABEL:mg "LONGEST_LABEL"=some (.int 8 t2)
 MOST_PARENTS:mg "MOST_PARENTS"=some (.int 2 t3)
 PERCENT:mg "PERCENT"=some (.int 37 t4)
 MOST_LABELS:mg "MOST_LABELS"=some (.int 4 t7)
 DIGEST_FACTOR:mg "DIGEST_FACTOR"=some (.int 31 t5)
 DIGEST_BOUND:mg "DIGEST_BOUND"=some (.int 97 t6)
 LETTERS:mg "LETTERS"=some (.ref aL)
 NoName:mg "NoName"=some (.ref aN)
 NoThing:mg "NoThing"=some (.ref aT)
 AnnalsError:mg "AnnalsError"=some (.ref aA)
 BadPath:mg "BadPath"=some (.ref b1)
 BadFiles:mg "BadFiles"=some (.ref b2)
 NoFit:mg "NoFit"=some (.ref b3)
 Shelf:mg "Shelf"=some (.ref aC)
 xNoName:EZ K aN UO "ValueError.__new__"=true
 xNoThing:EZ K aT UO "ValueError.__new__"=true
 xBadPath:EZ K b1 UO "ValueError.__new__"=true
 xBadFiles:EZ K b2 UO "ValueError.__new__"=true
 exm22:Li K (.ref b2) (.ref b2)=some true
 exm32:Li K (.ref b3) (.ref b2)=some false
 exm33:Li K (.ref b3) (.ref b3)=some true
 xNoFit:EZ K b3 UO "ValueError.__new__"=true
 kd:KD P w K aL xQ
 cls:Cls K aC
 n1:NoAttr K aC "thing_by_name"
 n2:NoAttr K aC "name_by_thing"
 n3:NoAttr K aC "next_numbers"
 kit:∀a∈kinds,∀b∈kinds,Ly K (.type a) (.type b)=some (a==b||(a=="bool"&&b=="int"))
theorem OA (d:Eo):UN d∈kinds:=by cases d<;>simp[UN,kinds]
def Nz:Eo->Str
 | .str x=>x
 |_=>""
def qW:Eo->Bool
 | .tuple ds=>ds.all UF&&(decide (ds.length<=2)&&decide ((AxS.uniq (ds.map Nz)).length=ds.length))
 |_=>false
def Im (K:Cd):Sp:=fun vs H Q _=>∃(d:Eo) (v:V),vs=[v]/\Dw K H d v/\small d=true/\∀H',Same H H'->Q (.bl (qW d)) H'
theorem F0 {K:Cd}:∀{ds:Df} {xs:Dj},DwAll K H ds xs->ds.all UF=true->xs=(ds.map Nz).map V.str
 |[],_,h,_=>by rw[show _=[] from h];rfl
 | .str x::ds,_,⟨v,r,e,hv,hr⟩,h=>by
  rw[List.all_cons,Zk]at h;rw[e,F0 hr h.2,show v=V.str x from hv];rfl
 | .none::_,_,_,h=>by cases h
 | .bool _::_,_,_,h=>by cases h
 | .int _::_,_,_,h=>by cases h
 | .list _::_,_,_,h=>by cases h
 | .tuple _::_,_,_,h=>by cases h
 | .dict _::_,_,_,h=>by cases h
theorem k9 (d:Eo):(UN d=="str"||(UN d=="bool"&&"str"=="int"))=UF d:=by cases d<;>rfl
def UM:Eo->Str
 | .tuple (.str l::_)=>l
 |_=>""
def FJ:Eo->Bool
 | .tuple ds=>ds.all UY&&U1 (ds.map UM)
 |_=>false
def Pn (K:Cd):Sp:=fun vs H Q _=>∃(d:Eo) (v:V),vs=[v]/\Dw K H d v/\small d=true/\(∀ds,d=.tuple ds->ds.length<=63)/\∀H',Same H H'->Q (.bl (FJ d)) H'
theorem K7 {K:Cd}(h:Dw K H d v)(r:UY d=true):∃(t:Eh) (y:V),v=.ref t/\SqT K H t [.str (UM d),y]/\zN (UM d)=true:=by
 match d,r with
 | .tuple [l,n],r =>
  have r:(uV l&&UF n)=true:=r;rw[Zk]at r;obtain⟨t,xs,rfl,ht,x0,r0,rfl,h0,x1,r1,rfl,h1,e⟩:=h;have e:r1=[]:=e;subst e;cases l with
  |str x=>cases(show x0=_ from h0);exact⟨t,x1,rfl,ht,r.1⟩
  |none=>cases r.1
  |bool _=>cases r.1
  |int _=>cases r.1
  |list _=>cases r.1
  |tuple _=>cases r.1
  |dict _=>cases r.1
theorem G7 (h:zN x=true):Ep x=true:=by
 unfold zN at h;rw[Zk]at h;rw[xM];intro c hc;have:=ZI.mp h.2 c hc;unfold UG at this;rw[Zk]at this;have:=Zx this.2;omega
def CA (ds:Df)(i:Nat):PyData:=(ds[i]?).getD .none
def UR (word:Str)(ds:Df):Bool:=decide (word="leaf")&&(decide (ds.length=1)&&vJ (CA ds 0))
def US (word:Str)(ds:Df):Bool:=decide (word="tree")&&(decide (ds.length=1)&&FJ (CA ds 0))
def Xd (K:Cd)(b:Str->Df->Bool):Sp:=fun vs H Q _=>∃(word:Str) (a:Eh) (ds:Df) (xs:Dj),vs=[.str word,.ref a]/\SqT K H a xs/\DwAll K H ds xs/\yF ds=true/\ds.length<=63/\(∀e∈ds,∀es,e=.tuple es->es.length<=63)/\∀H',Same H H'->Q (.bl (b word ds)) H'
def UW (word:Str)(ds:Df):Bool:=decide (word="note")&&(decide (ds.length=3)&&(UF (CA ds 0)&&(qW (CA ds 1)&&UQ (CA ds 2))))
def kT:Eo->Bool
 | .tuple (.str word::ds)=>UR word ds||(US word ds||UW word ds)
 |_=>false
def narrow (d:Eo):Prop:=∀ds,d=.tuple ds->ds.length<=63/\∀e∈ds,∀es,e=.tuple es->es.length<=63
def FS (K:Cd):Sp:=fun vs H Q _=>∃(d:Eo) (v:V),vs=[v]/\Dw K H d v/\small d=true/\narrow d/\∀H',Same H H'->Q (.bl (kT d)) H'
theorem PR {K:Cd}{H':Hp}{lo:Option Int}{v:V}(hs:SqT K H a xs)(h:(v=.ref a/\H'=H/\UI xs lo hi=xs)\/(∃p,H p=none/\v=.ref p/\H'=upd H p (.tup (UI xs lo hi)))) :
  ∃p:Eh,v=.ref p/\Same H H'/\SqT K H' p (UI xs lo hi):=by
 rcases h with⟨rfl,rfl,e2⟩|⟨p,np,rfl,rfl⟩
 ·exact⟨a,rfl,Same.refl _,by rw[e2];exact hs⟩
 ·exact⟨p,rfl,zF np,SqT.of zB⟩
def Pk (K:Cd)(aT:Eh):Sp:=fun vs H Q E=>∃(d:Eo) (v:V),vs=[v]/\Dw K H d v/\small d=true/\narrow d/\(kT d=true->∀H',Same H H'->Q v H')/\(kT d=false->∀H',Same H H'->E (.ref aT) none H')
def UZ (S:Di):Eo->Bool
 | .str x=>decide (x∈S.map En.nm)
 |_=>false
def Kd (P:Ei)(w:Em)(K:Cd)(C:Eh):Sp:=fun vs H Q _=>∃(a:Eh) (fp:Dd) (S:Di) (e:En) (t:Eh),vs=[.ref a,.str e.nm,.ref t]/\ShAt P w K C H a fp S/\GoodE e/\Dt K H e.d (.ref t)/\e.d∉S.map (·.d)/\e.nm∉S.map En.nm/\S.length<2000 /\
 ∀H',Off fp H H'->ShAt P w K C H' a fp (S++[e])->Q .non H'
def BQ (P:Ei)(w:Em)(K:Cd)(C:Eh):Sp:=fun vs H Q _=>∃(a:Eh) (fp:Dd) (S:Di),vs=[.ref a]/\ShAt P w K C H a fp S/\∀l,H l=none->Q (.ref l) (upd H l (.lst (S.map fun e=>V.str e.nm)))
def TL (Dm:Dl):Eo->Bool
 | .str x=>(Ur Dm (Er x:Key)).isSome
 |_=>false
def R0 (K:Cd):Sp:=fun vs H Q _=>∃(d1:Eh) (Dm:Dl) (d:Eo) (v:V),vs=[.ref d1,v]/\H d1=some (.dK Dm)/\Dw K H d v/\Q (.bl (TL Dm d)) H
def Ib (P:Ei)(w:Em)(K:Cd)(C aN:Eh):Sp:=fun vs H Q E=>∃(a:Eh) (fp:Dd) (S:Di) (d:Eo) (v:V),vs=[.ref a,v]/\ShAt P w K C H a fp S/\Dw K H d v/\(UZ S d=true->Q .non H)/\(UZ S d=false->E (.ref aN) none H)
def Pe (P:Ei)(w:Em)(K:Cd)(C:Eh):Sp:=fun vs H Q _=>∃(a:Eh) (fp:Dd) (S:Di) (d:Eo) (v:V),vs=[.ref a,v]/\ShAt P w K C H a fp S/\Dw K H d v/\Q (.bl (UZ S d)) H
def qF (P:Ei)(w:Em)(K:Cd)(C aN:Eh):Sp:=fun vs H Q E=>∃(a:Eh) (fp:Dd) (S:Di) (d:Eo) (v:V),vs=[.ref a,v]/\ShAt P w K C H a fp S/\Dw K H d v/\(∀e∈S,d=.str e.nm->∀t,Dt K H e.d (.ref t)->Q (.ref t) H)/\(UZ S d=false->E (.ref aN) none H)
def Mv (P:Ei)(w:Em)(K:Cd)(C aN:Eh):Sp:=fun vs H Q E=>∃(a f:Eh) (fp:Dd) (S:Di) (x:Str) (ws:Da),vs=[.ref a,.str x,.ref f]/\ShAt P w K C H a fp S/\(∀e∈S,GV e)/\SqT K H f (ws.map V.str)/\(∀y∈ws,Ep y=true) /\
 (zT S x ws=true->Q .non H)/\(zT S x ws=false->E (.ref aN) none H)
def My (P:Ei)(w:Em)(K:Cd)(C aN:Eh):Sp:=fun vs H Q E=>∃(a:Eh) (fp:Dd) (S:Di) (t:Th) (v:V),vs=[.ref a,v]/\ShAt P w K C H a fp S/\(∀e∈S,GV e)/\Dt K H t.dat v /\
 (namesOk S t=true->∀H',Same H H'->Q .non H')/\(namesOk S t=false->∀H',Same H H'->E (.ref aN) none H')
def Sd (P:Ei)(w:Em)(K:Cd)(C:Eh)(H:Hp)(a:Eh)(fp:Dd)(S:Di)(t:Th)(H2:Hp)(S':Di)(e:En):Prop :=
 Off fp H H2/\ShAt P w K C H2 a fp S'/\e∈S'/\e.d=t.dat/\(S'=S\/(S'=S++[e]/\e=GE S t/\t.dat∉S.map (·.d)))
def U3 (P:Ei)(w:Em)(K:Cd)(C aN aT:Eh):Sp:=fun vs H Q E=>∃(a:Eh) (fp:Dd) (S:Di) (d:Eo) (v:V),vs=[.ref a,v]/\ShAt P w K C H a fp S/\(∀e∈S,GV e)/\Dw K H d v/\small d=true/\narrow d/\(kT d=true->∃t:Th,d=t.dat/\t.Good)/\S.length<2000/\(∀h,(nextOf S h).getD 0<1000000) /\
 (kT d=false->∀H',Same H H'->E (.ref aT) none H') /\
 (∀t,d=t.dat->kT d=true->namesOk S t=false->∀H',Same H H'->E (.ref aN) none H') /\
 (∀t,d=t.dat->kT d=true->namesOk S t=true->∀H2 S' e,Sd P w K C H a fp S t H2 S' e->Q (.str e.nm) H2)
def Pf (P:Ei)(w:Em)(K:Cd)(C:Eh):Sp:=fun vs H Q _=>∃(x dx:Eh) (b:V) (S:Di),vs=[.ref x,b]/\H x=some (.ins C dx [])/\H dx=some (.own x)/\dx≠x /\
 ((b=.non/\S=[])\/∃a fp0,b=.ref a/\ShAt P w K C H a fp0 S/\x∉fp0/\dx∉fp0/\S.length<2000)/\∀fp H',(∀c∈fp,c=x\/c=dx\/H c=none)->Off [x] H H'->ShAt P w K C H' x fp S->Q .non H'
section
variable {P:Ei}{w:Em}{K:Cd}{mg:Str->Dc}{base:Ez}{t1 t2 t3 t4 t5 t6 t7:Tok}{aL aC aN aT aA b1 b2 b3:Eh}
theorem Txt.is {T:String}(t:Txt P w K mg t1 t2 t3 t4 t5 t6 t7 aL aC aN aT aA b1 b2 b3)(hT:T∈kinds):Ly K (.type (UN d)) (.type T)=some (UN d==T||(UN d=="bool"&&T=="int")):=t.kit _ (OA d) _ hT
namespace Aa
abbrev st:Stmt:=top 15
theorem sc:FnScope ["sign"] ["sign"] (zG st):=Cp
theorem ok (F:Fun K "is_sign" "is_sign" st f fd)(T:Txt P w K mg t1 t2 t3 t4 t5 t6 t7 aL aC aN aT aA b1 b2 b3):FnOk P w K mg base Cm 1 f fd ["sign"] Pp:=by
 refine F.ok sc (fun vs H Q E h=>?_) (fun cdv A outer s H vs Q E hr h=>?_)
 ·obtain⟨c,rfl,_⟩:=h;rfl
 ·obtain⟨c,rfl,k⟩:=h;refine⟨_,(zD (zM (yX (IO BR BR pe_str (pv 0) pe_str) (xF (yE Iv (zL CG (by rfl) T.ord PyProof.Rows.boot_ord (zA (pv 0) zC)) (jL (v:=.int 37) rfl T.PERCENT ⟨_,rfl⟩) (zW _)))))),?_⟩;refine⟨_,rfl,_,_,rfl,rfl,_,rfl,?_⟩;rw[Om c 32 " " (by decide +kernel)];refine Ux (fun h1=>?_) (fun h1=>?_)
  ·refine⟨_,_,rfl,rfl,_,rfl,?_⟩;rw[one_le c 126 "~" (by decide +kernel)];refine Ux (fun h2=>?_) (fun h2=>?_)
   ·refine⟨_,rfl,_,rfl,rfl,rfl,?_⟩;have e:UE c=!decide (V.int (((⟨#[c]⟩:Str).cps.getD 0 0:Nat):Int)=V.int 37):=by
     unfold UE;rw[h1,h2];show decide (c≠37)=!decide (V.int (c:Int)=V.int 37);rw[eq_comm];exact B0 ⟨fun h z=>h (by rw[z];rfl),fun h z=>h (by injection z with z;omega)⟩
    rw[e]at k;exact k
   ·have e:UE c=false:=by
     unfold UE;rw[h1,YD.mpr h2];rfl
    rw[e]at k;exact k
  ·have e:UE c=false:=by
    unfold UE;rw[YD.mpr h1];rfl
   rw[e]at k;exact⟨_,rfl,k⟩
end Aa
namespace Ab
abbrev st:Stmt:=top 16
theorem sc:FnScope ["thing"] ["thing"] (zG st):=Cp
theorem ok (F:Fun K "is_line" "is_line" st f fd)(T:Txt P w K mg t1 t2 t3 t4 t5 t6 t7 aL aC aN aT aA b1 b2 b3)(QC:Cal P w K mg base 1 "is_sign" ["sign"] Pp):FnOk P w K mg base Cm 2 f fd ["thing"] (Kb K):=by
 refine F.ok sc (fun vs H Q E h=>?_) (fun cdv A outer s H vs Q E hr h=>?_)
 ·obtain⟨d,v,rfl,_⟩:=h;rfl
 ·obtain⟨d,v,rfl,hd,sm,k⟩:=h;refine⟨_,(zD (zM (yX (zL (zX (K:=K)) (by rfl) T.isinstance ZE (zA (pv 0) (zA (yY (v:=.ty "str") rfl T.str Z7 rfl) zC))) (yX (yE Fv (zL qG (by rfl) T.len ZO (zA (pv 0) zC)) (jL (v:=.int 20) rfl T.LONGEST_LINE ⟨_,rfl⟩) (zW _)) (xF (zL (xX rfl) (by rfl) T.all Yi (zA (xC (sc:=zG st) (N:=["thing"]) (N':=["sign"]) (src:=[none]) ⟨by decide +kernel,rfl,rfl,by decide +kernel,by decide +kernel,by decide +kernel,by decide +kernel⟩ rfl rfl rfl (HM (pv 0)) (fun _ _ _ _=>(zU (i:=0) (show(["sign"]:Da).Nodup by decide +kernel) rfl (EJ rfl))) (fun _ _ _ _=>qD) (fun _ _ _ _=>(zJ QC hr.m (zA (pv 0) zC)))) zC))))))),?_⟩;refine⟨_,rfl,_,_,d,_,rfl,hd,T.is (by simp[kinds]),_,rfl,?_⟩;cases d with
  |str x =>
   cases(show v=_ from hd);have xl:x.length<=1000:=Zx sm;refine Um ⟨_,rfl,x,rfl,le_line (by omega),_,_,rfl,rfl,_,rfl,Ux (fun h1=>?_) (fun h1=>?_)⟩
   ·have h1:x.length<=20:=by have:=Zx h1;omega
    refine⟨_,rfl,_,rfl,G6 (fun i ys σ H2=>∃o,σ=[o]/\H2=H/\ys=(((cs x).take i).map UE).map V.bl) ⟨none,rfl,rfl,rfl⟩ (le_line (by omega)) ?_ ?_ ?_⟩
    ·rintro i ys σ H2 hi ⟨o,rfl,rfl,rfl⟩;rw[Q7,Q7,ZD];omega
    ·rintro i c ys σ H2 hc ⟨o,rfl,rfl,rfl⟩;refine⟨_,rfl,c,rfl,_,rfl,rfl,?_⟩;rw[yW (NT hc),Zl];rfl
    ·rintro ys σ H2 ⟨o,rfl,rfl,rfl⟩ p np;refine⟨p,_,rfl,SqL.of zB,?_⟩;rw[length_cs,ZJ,all_map];have e:UQ (.str x)=(cs x).all UE:=by
      show(decide (x.length<=20)&&(cs x).all UE)=_;rw[Zf h1];rfl
     rw[e]at k;exact k _ (zF np)
   ·have e:UQ (.str x)=false:=by
     show(decide (x.length<=20)&&(cs x).all UE)=_;rw[Zr (fun z=>h1 (Zf (by omega)))];rfl
    rw[e]at k;exact k _ (Same.refl _)
  |none=>exact Uo (k _ (Same.refl _))
  |bool b=>exact Uo (k _ (Same.refl _))
  |int i=>exact Uo (k _ (Same.refl _))
  |list ds=>exact Uo (k _ (Same.refl _))
  |tuple ds=>exact Uo (k _ (Same.refl _))
  |dict Dm=>exact Uo (k _ (Same.refl _))
end Ab
namespace Ac
abbrev st:Stmt:=top 17
theorem sc:FnScope ["thing"] ["thing"] (zG st):=Cp
theorem ok (F:Fun K "is_lines" "is_lines" st f fd)(T:Txt P w K mg t1 t2 t3 t4 t5 t6 t7 aL aC aN aT aA b1 b2 b3)(Qj:Cal P w K mg base 2 "is_line" ["thing"] (Kb K)):FnOk P w K mg base Cm 3 f fd ["thing"] (XZ K):=by
 refine F.ok sc (fun vs H Q E h=>?_) (fun cdv A outer s H vs Q E hr h=>?_)
 ·obtain⟨d,v,rfl,_⟩:=h;rfl
 ·obtain⟨d,v,rfl,hd,sm,k⟩:=h;refine⟨_,(zD (zM (yX (zL (zX (K:=K)) (by rfl) T.isinstance ZE (zA (pv 0) (zA (yY (v:=.ty "tuple") rfl T.tuple Yl rfl) zC))) (xF (zL (xX rfl) (by rfl) T.all Yi (zA (xC (sc:=zG st) (N:=["thing"]) (N':=["line"]) (src:=[none]) ⟨by decide +kernel,rfl,rfl,by decide +kernel,by decide +kernel,by decide +kernel,by decide +kernel⟩ rfl rfl rfl (j4 (pv 0)) (fun _ _ _ _=>(zU (i:=0) (show(["line"]:Da).Nodup by decide +kernel) rfl (EJ rfl))) (fun _ _ _ _=>qD) (fun _ _ _ _=>(zJ Qj hr.m (zA (pv 0) zC)))) zC)))))),?_⟩;refine⟨_,rfl,_,_,d,_,rfl,hd,T.is (by simp[kinds]),_,rfl,?_⟩;cases d with
  |tuple ds =>
   obtain⟨a,xs,rfl,hs,ha⟩:=hd;obtain⟨sl,sa⟩:=xY sm;have Dq:=ha.length;refine Um ⟨_,rfl,a,rfl,⟨_,hs⟩,jO (K:=K) (a:=a) (xs:=xs) (fun i ys σ H2=>∃o,σ=[o]/\Same H H2/\ys=((ds.take i).map UQ).map V.bl) ⟨none,rfl,Same.refl _,rfl⟩ (le_line (by omega)) ?_ ?_ ?_⟩
   ·rintro i ys σ H2 hi ⟨o,rfl,e2,rfl⟩;refine⟨e2.tupS hs,?_⟩;rw[Q7,Q7,ZD];omega
   ·rintro i x ys σ H2 hx ⟨o,rfl,e2,rfl⟩;obtain⟨d,hd,dx⟩:=ha.get hx;refine⟨_,rfl,d,x,rfl,dx.same e2,yN sa hd,fun H3 e3=>⟨_,rfl,e2.trans e3,?_⟩⟩;rw[yW hd,Zl];rfl
   ·rintro ys σ H2 ⟨o,rfl,e2,rfl⟩ p np;refine⟨p,_,rfl,SqL.of zB,?_⟩;rw[Dq,ZJ,all_map];exact k _ (e2.trans (zF np))
  |none=>exact Uo (k _ (Same.refl _))
  |bool b=>exact Uo (k _ (Same.refl _))
  |int i=>exact Uo (k _ (Same.refl _))
  |list ds=>exact Uo (k _ (Same.refl _))
  |str x=>exact Uo (k _ (Same.refl _))
  |dict Dm=>exact Uo (k _ (Same.refl _))
end Ac
namespace Ad
abbrev st:Stmt:=top 18
theorem sc:FnScope ["thing"] ["thing"] (zG st):=Cp
theorem ok (F:Fun K "is_label" "is_label" st f fd)(T:Txt P w K mg t1 t2 t3 t4 t5 t6 t7 aL aC aN aT aA b1 b2 b3):FnOk P w K mg base Cm 1 f fd ["thing"] (B6 K):=by
 refine F.ok sc (fun vs H Q E h=>?_) (fun cdv A outer s H vs Q E hr h=>?_)
 ·obtain⟨d,v,rfl,_⟩:=h;rfl
 ·obtain⟨d,v,rfl,hd,sm,k⟩:=h;refine⟨_,(zE (yI (yZ (zS (K:=K) (zL (zX (K:=K)) (by rfl) T.isinstance ZE (zA (pv 0) (zA (yY (v:=.ty "str") rfl T.str Z7 rfl) zC))) (fun _=>rfl))) (zD (zM j6)) zQ) (zD (zM (yX (IO Fv Fv zI (zL qG (by rfl) T.len ZO (zA (pv 0) zC)) (jL (v:=.int 8) rfl T.LONGEST_LABEL ⟨_,rfl⟩)) (xF (zL (xX rfl) (by rfl) T.all Yi (zA (xC (sc:=zG st) (N:=["thing"]) (N':=["sign"]) (src:=[none]) ⟨by decide +kernel,rfl,rfl,by decide +kernel,by decide +kernel,by decide +kernel,by decide +kernel⟩ rfl rfl rfl (HM (pv 0)) (fun _ _ _ _=>(zU (i:=0) (show(["sign"]:Da).Nodup by decide +kernel) rfl (EJ rfl))) (fun _ _ _ _=>qD) (fun _ _ _ _=>(IO BR BR pe_str (pv 0) pe_str))) zC))))))),?_⟩
  refine⟨_,rfl,_,_,d,_,rfl,hd,T.is (by simp[kinds]),_,rfl,?_⟩;cases d with
  |str x =>
   cases(show v=_ from hd);have xl:x.length<=1000:=Zx sm;refine Uo ?_;refine⟨_,rfl,x,rfl,le_line (by omega),_,_,rfl,rfl,_,rfl,Ux (fun h0=>?_) (fun h0=>?_)⟩
   ·refine⟨_,_,rfl,rfl,_,rfl,Ux (fun h1=>?_) (fun h1=>?_)⟩
    ·have h0:1<=x.length:=by have:=Zx h0;omega
     have h1:x.length<=8:=by have:=Zx h1;omega
     refine⟨_,rfl,_,rfl,G6 (fun i ys σ H2=>∃o,σ=[o]/\H2=H/\ys=(((cs x).take i).map UG).map V.bl) ⟨none,rfl,rfl,rfl⟩ (le_line (by omega)) ?_ ?_ ?_⟩
     ·rintro i ys σ H2 hi ⟨o,rfl,rfl,rfl⟩;rw[Q7,Q7,ZD];omega
     ·rintro i c ys σ H2 hc ⟨o,rfl,rfl,rfl⟩;rw[yW (NT hc),Zl];refine⟨_,rfl,_,_,rfl,rfl,_,rfl,?_⟩;rw[Om c 97 "a" (by decide +kernel)];refine Ux (fun h3=>?_) (fun h3=>?_)
      ·refine⟨_,_,rfl,rfl,?_⟩;rw[one_le c 122 "z" (by decide +kernel)];have e:UG c=decide (c<=122):=by unfold UG;rw[h3];rfl
       rw[e];exact⟨_,rfl,rfl,rfl⟩
      ·have e:UG c=false:=by unfold UG;rw[YD.mpr h3];rfl
       rw[e];exact⟨_,rfl,rfl,rfl⟩
     ·rintro ys σ H2 ⟨o,rfl,rfl,rfl⟩ p np;refine⟨p,_,rfl,SqL.of zB,?_⟩;rw[length_cs,ZJ,all_map];have e:uV (.str x)=(cs x).all UG:=by
       show(decide (1<=x.length)&&decide (x.length<=8)&&(cs x).all UG)=_;rw[Zf h0,Zf h1];rfl
      rw[e]at k;exact k _ (zF np)
    ·have e:uV (.str x)=false:=by
      show(decide (1<=x.length)&&decide (x.length<=8)&&(cs x).all UG)=_;rw[Zr (p:=x.length<=8) (fun z=>h1 (Zf (by omega))),JN];rfl
     rw[e]at k;exact k _ (Same.refl _)
   ·have e:uV (.str x)=false:=by
     show(decide (1<=x.length)&&decide (x.length<=8)&&(cs x).all UG)=_;rw[Zr (p:=1<=x.length) (fun z=>h0 (Zf (by omega)))];rfl
    rw[e]at k;exact⟨_,rfl,k _ (Same.refl _)⟩
  |none=>exact Um (k _ (Same.refl _))
  |bool b=>exact Um (k _ (Same.refl _))
  |int i=>exact Um (k _ (Same.refl _))
  |list ds=>exact Um (k _ (Same.refl _))
  |tuple ds=>exact Um (k _ (Same.refl _))
  |dict Dm=>exact Um (k _ (Same.refl _))
end Ad
namespace Ae
abbrev st:Stmt:=top 19
theorem sc:FnScope ["thing"] ["thing"] (zG st):=Cp
theorem ok (F:Fun K "is_row" "is_row" st f fd)(T:Txt P w K mg t1 t2 t3 t4 t5 t6 t7 aL aC aN aT aA b1 b2 b3)(Qk:Cal P w K mg base 1 "is_label" ["thing"] (B6 K)):FnOk P w K mg base Cm 2 f fd ["thing"] (R3 K):=by
 refine F.ok sc (fun vs H Q E h=>?_) (fun cdv A outer s H vs Q E hr h=>?_)
 ·obtain⟨d,v,rfl,_⟩:=h;rfl
 ·obtain⟨d,v,rfl,hd,sm,k⟩:=h;refine⟨_,(zD (zM (yX (zL (zX (K:=K)) (by rfl) T.isinstance ZE (zA (pv 0) (zA (yY (v:=.ty "tuple") rfl T.tuple Yl rfl) zC))) (yX (yE qA (zL zZ (by rfl) T.len ZO (zA (pv 0) zC)) zI (zW _)) (yX (zJ Qk hr.m (zA (zV (ix_tup:Cl _ (Ut K)) (pv 0) zI (fun _ _=>rfl)) zC)) (xF (zL (zX (K:=K)) (by rfl) T.isinstance ZE (zA (zV (ix_tup:Cl _ (Ut K)) (pv 0) zI (fun _ _=>rfl)) (zA (yY (v:=.ty "str") rfl T.str Z7 rfl) zC))))))))),?_⟩;refine⟨_,rfl,_,_,d,_,rfl,hd,T.is (by simp[kinds]),_,rfl,?_⟩;cases d with
  |tuple ds =>
   obtain⟨a,xs,rfl,hs,ha⟩:=hd;obtain⟨sl,sa⟩:=xY sm;have Dq:=ha.length;refine Um ⟨_,rfl,a,_,rfl,.inr hs,rfl,_,rfl,Ux (fun h1=>?_) (fun h1=>?_)⟩
   ·have h1:xs.length=2:=by have:=Zx h1;injection this with z;omega
    match ds,ha,Dq,sa,k with
    |[l,n],⟨x0,r0,e0,d0,x1,r1,e1,d1,e2⟩,_,sa,k =>
     have e2:r1=[]:=e2;subst e2 e1 e0;refine⟨_,rfl,a,_,_,_,rfl,rfl,hs,rfl,l,_,rfl,d0,yN (i:=0) sa rfl,fun H2 s2=>⟨_,rfl,Ux (fun h2=>?_) (fun h2=>?_)⟩⟩
     ·refine⟨_,rfl,a,_,_,_,rfl,rfl,s2.tupS hs,rfl,_,_,n,_,rfl,d1.same s2,T.is (by simp[kinds]),?_⟩;have e:UY (.tuple [l,n])=(UN n=="str"||(UN n=="bool"&&"str"=="int")):=by
       show(uV l&&UF n)=_;rw[h2];cases n<;>rfl
      rw[e]at k;exact k _ s2
     ·have e:UY (.tuple [l,n])=false:=by
       show(uV l&&UF n)=_;rw[YD.mpr h2];rfl
      rw[e]at k;exact k _ s2
    |[],_,hl,_,_=>exact absurd (hl.symm.trans h1) (by simp)
    |[_],_,hl,_,_=>exact absurd (hl.symm.trans h1) (by simp)
    |_::_::_::_,_,hl,_,_=>exact absurd (hl.symm.trans h1) (by simp)
   ·have e:UY (.tuple ds)=false:=by
     match ds,Dq with
     |[_,_],hl=>exact absurd (Zf (by rw[hl];rfl)) h1
     |[],_=>rfl
     |[_],_=>rfl
     |_::_::_::_,_=>rfl
    rw[e]at k;exact k _ (Same.refl _)
  |none=>exact Uo (k _ (Same.refl _))
  |bool b=>exact Uo (k _ (Same.refl _))
  |int i=>exact Uo (k _ (Same.refl _))
  |list ds=>exact Uo (k _ (Same.refl _))
  |str x=>exact Uo (k _ (Same.refl _))
  |dict Dm=>exact Uo (k _ (Same.refl _))
end Ae
namespace Af
abbrev st:Stmt:=top 21
theorem sc:FnScope ["thing"] ["thing"] (zG st):=Cp
theorem ok (F:Fun K "is_parents" "is_parents" st f fd)(T:Txt P w K mg t1 t2 t3 t4 t5 t6 t7 aL aC aN aT aA b1 b2 b3):FnOk P w K mg base Cm 1 f fd ["thing"] (Im K):=by
 refine F.ok sc (fun vs H Q E h=>?_) (fun cdv A outer s H vs Q E hr h=>?_)
 ·obtain⟨d,v,rfl,_⟩:=h;rfl
 ·obtain⟨d,v,rfl,hd,sm,k⟩:=h;refine⟨_,(zE (yI (PW.pt (vY (yZ (zS (K:=K) (zL (zX (K:=K)) (by rfl) T.isinstance ZE (zA (pv 0) (zA (yY (v:=.ty "tuple") rfl T.tuple Yl rfl) zC))) (fun _=>rfl))) (uP (yZ (zS (K:=K) (zL (xX rfl) (by rfl) T.all Yi (zA (xC (sc:=zG st) (N:=["thing"]) (N':=["name"]) (src:=[none]) ⟨by decide +kernel,rfl,rfl,by decide +kernel,by decide +kernel,by decide +kernel,by decide +kernel⟩ rfl rfl rfl (j4 (pv 0)) (fun _ _ _ _=>(zU (i:=0) (show(["name"]:Da).Nodup by decide +kernel) rfl (EJ rfl))) (fun _ _ _ _=>qD) (fun _ _ _ _=>(zL (zX (K:=K)) (by rfl) T.isinstance ZE (zA (pv 0) (zA (yY (v:=.ty "str") rfl T.str Z7 rfl) zC))))) zC)) (fun _=>rfl)))))) (zD (zM j6)) zQ) (zD (zM (yX (yE Fv (zL zZ (by rfl) T.len ZO (zA (pv 0) zC)) (jL (v:=.int 2) rfl T.MOST_PARENTS ⟨_,rfl⟩) (zW _)) (xF (yE qA (zL MP (by rfl) T.len ZO (zA (yB (CH (K:=K) rfl) (by rfl) T.set PyProof.Rows.boot_set (zA (pv 0) zC)) zC)) (zL zZ (by rfl) T.len ZO (zA (pv 0) zC)) (zW _))))))),?_⟩
  refine⟨_,rfl,_,_,d,_,rfl,hd,T.is (by simp[kinds]),_,rfl,?_⟩;cases d with
  |tuple ds =>
   obtain⟨a,xs,rfl,hs,ha⟩:=hd;obtain⟨sl,sa⟩:=xY sm;have Dq:=ha.length;refine Uo ⟨_,rfl,a,rfl,⟨_,hs⟩,jO (K:=K) (a:=a) (xs:=xs) (fun i ys σ H2=>∃o,σ=[o]/\H2=H/\ys=((ds.take i).map UF).map V.bl) ⟨none,rfl,rfl,rfl⟩ (le_line (by omega)) ?_ ?_ ?_⟩
   ·rintro i ys σ H2 hi ⟨o,rfl,rfl,rfl⟩;refine⟨hs,?_⟩;rw[Q7,Q7,ZD];omega
   ·rintro i x ys σ H2 hx ⟨o,rfl,rfl,rfl⟩;obtain⟨d,hd,dx⟩:=ha.get hx;refine⟨_,rfl,_,_,d,_,rfl,dx,T.is (by simp[kinds]),_,rfl,rfl,?_⟩;rw[k9,yW hd,Zl];rfl
   ·rintro ys σ H2 ⟨o,rfl,rfl,rfl⟩ p np;refine⟨p,_,rfl,SqL.of zB,?_⟩;rw[Dq,ZJ,all_map];have u:=zF (o:=.lst ((ds.map UF).map V.bl)) np;cases q:ds.all UF with
    |false =>
     have e:qW (.tuple ds)=false:=by show(ds.all UF&&_)=false;rw[q];rfl
     rw[e]at k;exact⟨_,rfl,Um (k _ u)⟩
    |true =>
     have ex:=F0 ha q;rw[ex]at hs;refine⟨_,rfl,Uo ?_⟩;refine⟨_,rfl,a,_,rfl,.inr (u.tupS hs),_,_,rfl,rfl,_,rfl,Ux (fun h1=>?_) (fun h1=>?_)⟩
     ·refine⟨_,rfl,a,ds.map Nz,rfl,.inr (u.tupS hs),by rw[Q7];exact sl,fun p2 n2=>?_⟩;have u2:=zF (o:=BG P w p2 (AxS.uniq (ds.map Nz))) n2;refine⟨p2,_,rfl,zB,_,rfl,a,_,rfl,.inr ((u.trans u2).tupS hs),rfl,?_⟩;have l2:ds.length<=2:=by have:=Zx h1;rw[Q7,Q7]at this;omega
      have e:qW (.tuple ds)=decide (V.int (((AxS.uniq (ds.map Nz)).length:Nat):Int)=V.int (((((ds.map Nz).map V.str).length:Nat)):Int)):=by
       show(ds.all UF&&(decide (ds.length<=2)&&decide _))=_;rw[q,Zf l2,V1,V1,ZZ,Zv,Zv,Q7,Q7];constructor
       ·intro z;rw[z]
       ·intro z;injection z with z;omega
      rw[e]at k;exact k _ (u.trans u2)
     ·have e:qW (.tuple ds)=false:=by
       show(ds.all UF&&(decide (ds.length<=2)&&_))=false;rw[Zr (p:=ds.length<=2) (fun z=>h1 (Zf (by rw[Q7,Q7];omega))),Jc,JN]
      rw[e]at k;exact k _ u
  |none=>exact Um (k _ (Same.refl _))
  |bool b=>exact Um (k _ (Same.refl _))
  |int i=>exact Um (k _ (Same.refl _))
  |list ds=>exact Um (k _ (Same.refl _))
  |str x=>exact Um (k _ (Same.refl _))
  |dict Dm=>exact Um (k _ (Same.refl _))
end Af
namespace Ag
abbrev st:Stmt:=top 20
theorem sc:FnScope ["thing","labels"] ["thing"] (zG st):=Cp
theorem ok (F:Fun K "is_rows" "is_rows" st f fd)(T:Txt P w K mg t1 t2 t3 t4 t5 t6 t7 aL aC aN aT aA b1 b2 b3)(QD:Cal P w K mg base 2 "is_row" ["thing"] (R3 K)):FnOk P w K mg base Cm 3 f fd ["thing"] (Pn K):=by
 refine F.ok sc (fun vs H Q E h=>?_) (fun cdv A outer s H vs Q E hr h=>?_)
 ·obtain⟨d,v,rfl,_⟩:=h;rfl
 ·obtain⟨d,v,rfl,hd,sm,d60,k⟩:=h;refine⟨_,(zE (yI (PW.pt (vY (yZ (zS (K:=K) (zL (zX (K:=K)) (by rfl) T.isinstance ZE (zA (pv 0) (zA (yY (v:=.ty "tuple") rfl T.tuple Yl rfl) zC))) (fun _=>rfl))) (uP (yZ (zS (K:=K) (zL (xX rfl) (by rfl) T.all Yi (zA (xC (sc:=zG st) (N:=["thing","labels"]) (N':=["row"]) (src:=[none]) ⟨by decide +kernel,rfl,rfl,by decide +kernel,by decide +kernel,by decide +kernel,by decide +kernel⟩ rfl rfl rfl (j4 (pv 0)) (fun _ _ _ _=>(zU (i:=0) (show(["row"]:Da).Nodup by decide +kernel) rfl (EJ rfl))) (fun _ _ _ _=>qD) (fun _ _ _ _=>(zJ QD hr.m (zA (pv 0) zC)))) zC)) (fun _=>rfl)))))) (zD (zM j6)) zQ) (zE (Rr (sc:=zG st) (N:=["thing","labels"]) (N':=["row"]) (src:=[none]) ⟨by decide +kernel,rfl,rfl,by decide +kernel,by decide +kernel,by decide +kernel,by decide +kernel⟩ rfl rfl rfl (j4 (pv 0)) (fun _ _ _ _=>(zU (i:=0) (show(["row"]:Da).Nodup by decide +kernel) rfl (EJ rfl))) (fun _ _ _ _=>qD) (fun _ _ _ _=>(zV (ix_tup:Cl _ (Ut K)) (pv 0) zI (fun _ _=>rfl))) sc.nd rfl (EJ rfl) (k:=1)) (zD (zM (yE (OJ hr.units) (pv 1) (zL (BL rfl) (by rfl) T.sorted J1 (zA (yB (CH (K:=K) rfl) (by rfl) T.set PyProof.Rows.boot_set (zA (pv 1) zC)) zC)) (zW _)))))),?_⟩
  refine⟨_,rfl,_,_,d,_,rfl,hd,T.is (by simp[kinds]),_,rfl,?_⟩;cases d with
  |tuple ds =>
   have d60:=d60 ds rfl;obtain⟨a,xs,rfl,hs,ha⟩:=hd;obtain⟨sl,sa⟩:=xY sm;have Dq:=ha.length;refine Uo ⟨_,rfl,a,rfl,⟨_,hs⟩,jO (K:=K) (a:=a) (xs:=xs) (fun i ys σ H2=>∃o,σ=[o]/\Same H H2/\ys=((ds.take i).map UY).map V.bl) ⟨none,rfl,Same.refl _,rfl⟩ (le_line (by omega)) ?_ ?_ ?_⟩
   ·rintro i ys σ H2 hi ⟨o,rfl,e2,rfl⟩;refine⟨e2.tupS hs,?_⟩;rw[Q7,Q7,ZD];omega
   ·rintro i x ys σ H2 hx ⟨o,rfl,e2,rfl⟩;obtain⟨d,hd,dx⟩:=ha.get hx;refine⟨_,rfl,d,x,rfl,dx.same e2,yN sa hd,fun H3 e3=>⟨_,rfl,e2.trans e3,?_⟩⟩;rw[yW hd,Zl];rfl
   ·rintro ys σ H2 ⟨o,rfl,e2,rfl⟩ p np;refine⟨p,_,rfl,SqL.of zB,?_⟩;rw[Dq,ZJ,all_map];have u:=e2.trans (zF (o:=.lst ((ds.map UY).map V.bl)) np);cases q:ds.all UY with
    |false =>
     have e:FJ (.tuple ds)=false:=by show(ds.all UY&&_)=false;rw[q];rfl
     rw[e]at k;exact⟨_,rfl,Um (k _ u)⟩
    |true =>
     refine⟨_,rfl,Uo ?_⟩;show RI _ _ _ _ (upd H2 p (.lst ((ds.map UY).map V.bl)));generalize upd H2 p (.lst ((ds.map UY).map V.bl))=G at u;have haG:=DwAll.same u _ _ ha;refine⟨_,rfl,a,rfl,⟨_,u.tupS hs⟩,jO (K:=K) (a:=a) (xs:=xs) (fun i ys σ H2=>∃o,σ=[o]/\H2=G/\ys=((ds.take i).map UM).map V.str) ⟨none,rfl,rfl,rfl⟩ (le_line (by omega)) ?_ ?_ ?_⟩
     ·rintro i ys σ H2 hi ⟨o,rfl,rfl,rfl⟩;refine⟨u.tupS hs,?_⟩;rw[Q7,Q7,ZD];omega
     ·rintro i x ys σ H2 hx ⟨o,rfl,rfl,rfl⟩;obtain⟨d,hd,dx⟩:=haG.get hx;obtain⟨t,y,rfl,ht,_⟩:=K7 dx (ZI.mp q d (Zm hd));refine⟨_,rfl,t,_,_,_,rfl,rfl,ht,rfl,_,rfl,rfl,?_⟩;have e1:ds.take (i+1)=ds.take i++[d]:=by rw[Yx,hd];rfl
      rw[e1,Zl,Zl];rfl
     ·rintro ys σ H2 ⟨o,rfl,rfl,rfl⟩ l nl;rw[Dq,ZJ];have v1:=zF (o:=.lst ((ds.map UM).map V.str)) nl;have ul:=AxS.uniq_len _ (ds.map UM) rfl;rw[Q7]at ul;refine⟨_,rfl,_,rfl,l,ds.map UM,rfl,.inl (SqL.of zB),by rw[Q7];omega,fun p2 n2=>?_⟩;have v2:=v1.trans (zF (o:=BG P w p2 (AxS.uniq (ds.map UM))) n2);refine⟨p2,_,rfl,zB,by omega,fun l3 ss n3 hp hso=>?_⟩;have v3:=v2.trans (zF (o:=.lst (ss.map V.str)) n3);have okL:∀x∈ds.map UM,Ep x=true:=fun x hx=>by
       obtain⟨d,hd,rfl⟩:=Zb.mp hx;obtain⟨j,hj⟩:=List.getElem?_of_mem hd;obtain⟨z,hz,dz⟩:=haG.at hj;obtain⟨_,_,_,_,hl⟩:=K7 dz (ZI.mp q d hd);exact G7 hl
      have okS:∀x∈ss,Ep x=true:=fun x hx=>okL x (Pu (hp.mem_iff.mp hx));have hlb:=(v2.trans (zF (o:=.lst (ss.map V.str)) n3));have hl3:=(((zF (o:=BG P w p2 (AxS.uniq (ds.map UM))) n2).trans (zF (o:=.lst (ss.map V.str)) n3))) _ _ (zB (H:=H2) (a:=l) (o:=.lst ((ds.map UM).map V.str)));refine⟨.list ((ds.map UM).map .str),.list (ss.map .str),⟨l,_,rfl,SqL.of hl3,DtAll.strs _⟩,⟨l3,_,rfl,SqL.of zB,DtAll.strs _⟩,(yU okL).1,(yU okS).1,?_⟩;have ev:ER (.list ((ds.map UM).map .str)) (.list (ss.map .str))=decide (ds.map UM=ss):=qJ _ _;rw[ev,HZ hp hso];have e:FJ (.tuple ds)=U1 (ds.map UM):=by show(ds.all UY&&_)=_;rw[q];rfl
      rw[e]at k;exact k _ (u.trans v3)
  |none=>exact Um (k _ (Same.refl _))
  |bool b=>exact Um (k _ (Same.refl _))
  |int i=>exact Um (k _ (Same.refl _))
  |list ds=>exact Um (k _ (Same.refl _))
  |str x=>exact Um (k _ (Same.refl _))
  |dict Dm=>exact Um (k _ (Same.refl _))
end Ag
namespace Ah
abbrev st:Stmt:=top 22
theorem sc:FnScope ["word","parts"] ["word","parts"] (zG st):=Cp
theorem ok (F:Fun K "is_leaf" "is_leaf" st f fd)(T:Txt P w K mg t1 t2 t3 t4 t5 t6 t7 aL aC aN aT aA b1 b2 b3)(Qf:Cal P w K mg base 3 "is_lines" ["thing"] (XZ K)):FnOk P w K mg base Cm 4 f fd ["word","parts"] (Xd K UR):=by
 refine F.ok sc (fun vs H Q E h=>?_) (fun cdv A outer s H vs Q E hr h=>?_)
 ·obtain⟨word,a,ds,xs,rfl,_⟩:=h;rfl
 ·obtain⟨word,a,ds,xs,rfl,hs,ha,sa,d60,e60,k⟩:=h;refine⟨_,(zD (zM (yX (yE qA (pv 0) pe_str (zW _)) (yX (yE qA (zL zZ (by rfl) T.len ZO (zA (pv 1) zC)) zI (zW _)) (xF (zJ Qf hr.m (zA (zV (ix_tup:Cl _ (Ut K)) (pv 1) zI (fun _ _=>rfl)) zC))))))),?_⟩;have Dq:=ha.length;refine⟨_,rfl,rfl,_,rfl,Ux (fun h1=>?_) (fun h1=>?_)⟩
  ·have h1:V.str word=V.str "leaf":=Zx h1;have h1:word="leaf":=by injection h1
   refine⟨_,rfl,a,_,rfl,.inr hs,rfl,_,rfl,Ux (fun h2=>?_) (fun h2=>?_)⟩
   ·have h2:xs.length=1:=by have:=Zx h2;injection this with z;omega
    have hd0:ds[0]?=some (CA ds 0):=by
     have:ds[0]?=some (ds[0]'(by omega)):=Zn _;unfold CA;rw[this];rfl
    obtain⟨x,hx,dx⟩:=ha.at hd0;refine⟨_,rfl,a,_,_,_,rfl,rfl,hs,xR (j:=0) hx,CA ds 0,_,rfl,dx,yN sa hd0,fun H2 s2=>?_⟩;have e:UR word ds=vJ (CA ds 0):=by
     unfold UR;rw[Zf h1,Zf (show ds.length=1 by omega)];rfl
    rw[e]at k;exact k _ s2
   ·have e:UR word ds=false:=by
     unfold UR;rw[Zr (p:=ds.length=1) (fun z=>h2 (Zf (by rw[Dq,z];rfl))),Jc,JN]
    rw[e]at k;exact k _ (Same.refl _)
  ·have e:UR word ds=false:=by
    unfold UR;rw[Zr (p:=word="leaf") (fun z=>h1 (Zf (by rw[z]))),Jc]
   rw[e]at k;exact k _ (Same.refl _)
end Ah
namespace Ai
abbrev st:Stmt:=top 23
theorem sc:FnScope ["word","parts"] ["word","parts"] (zG st):=Cp
theorem ok (F:Fun K "is_tree" "is_tree" st f fd)(T:Txt P w K mg t1 t2 t3 t4 t5 t6 t7 aL aC aN aT aA b1 b2 b3)(QE:Cal P w K mg base 3 "is_rows" ["thing"] (Pn K)):FnOk P w K mg base Cm 4 f fd ["word","parts"] (Xd K US):=by
 refine F.ok sc (fun vs H Q E h=>?_) (fun cdv A outer s H vs Q E hr h=>?_)
 ·obtain⟨word,a,ds,xs,rfl,_⟩:=h;rfl
 ·obtain⟨word,a,ds,xs,rfl,hs,ha,sa,d60,e60,k⟩:=h;refine⟨_,(zD (zM (yX (yE qA (pv 0) pe_str (zW _)) (yX (yE qA (zL zZ (by rfl) T.len ZO (zA (pv 1) zC)) zI (zW _)) (xF (zJ QE hr.m (zA (zV (ix_tup:Cl _ (Ut K)) (pv 1) zI (fun _ _=>rfl)) zC))))))),?_⟩;have Dq:=ha.length;refine⟨_,rfl,rfl,_,rfl,Ux (fun h1=>?_) (fun h1=>?_)⟩
  ·have h1:V.str word=V.str "tree":=Zx h1;have h1:word="tree":=by injection h1
   refine⟨_,rfl,a,_,rfl,.inr hs,rfl,_,rfl,Ux (fun h2=>?_) (fun h2=>?_)⟩
   ·have h2:xs.length=1:=by have:=Zx h2;injection this with z;omega
    have hd0:ds[0]?=some (CA ds 0):=by
     have:ds[0]?=some (ds[0]'(by omega)):=Zn _;unfold CA;rw[this];rfl
    obtain⟨x,hx,dx⟩:=ha.at hd0;refine⟨_,rfl,a,_,_,_,rfl,rfl,hs,xR (j:=0) hx,CA ds 0,_,rfl,dx,yN sa hd0,fun es he=>e60 _ (Zm hd0) es he,fun H2 s2=>?_⟩;have e:US word ds=FJ (CA ds 0):=by
     unfold US;rw[Zf h1,Zf (show ds.length=1 by omega)];rfl
    rw[e]at k;exact k _ s2
   ·have e:US word ds=false:=by
     unfold US;rw[Zr (p:=ds.length=1) (fun z=>h2 (Zf (by rw[Dq,z];rfl))),Jc,JN]
    rw[e]at k;exact k _ (Same.refl _)
  ·have e:US word ds=false:=by
    unfold US;rw[Zr (p:=word="tree") (fun z=>h1 (Zf (by rw[z]))),Jc]
   rw[e]at k;exact k _ (Same.refl _)
end Ai
namespace Aj
abbrev st:Stmt:=top 24
theorem sc:FnScope ["word","parts"] ["word","parts"] (zG st):=Cp
theorem ok (F:Fun K "is_note" "is_note" st f fd)(T:Txt P w K mg t1 t2 t3 t4 t5 t6 t7 aL aC aN aT aA b1 b2 b3)(QF:Cal P w K mg base 1 "is_parents" ["thing"] (Im K))(Qj:Cal P w K mg base 2 "is_line" ["thing"] (Kb K)):FnOk P w K mg base Cm 3 f fd ["word","parts"] (Xd K UW):=by
 refine F.ok sc (fun vs H Q E h=>?_) (fun cdv A outer s H vs Q E hr h=>?_)
 ·obtain⟨word,a,ds,xs,rfl,_⟩:=h;rfl
 ·obtain⟨word,a,ds,xs,rfl,hs,ha,sa,d60,e60,k⟩:=h;refine⟨_,(zE (yI (PW.pt (vY (z5 Iv (pv 0) pe_str (zW _)) (uP (z5 Iv (zL zZ (by rfl) T.len ZO (zA (pv 1) zC)) zI (zW _))))) (zD (zM j6)) zQ) (zD (zM (yX (zL (zX (K:=K)) (by rfl) T.isinstance ZE (zA (zV (ix_tup:Cl _ (Ut K)) (pv 1) zI (fun _ _=>rfl)) (zA (yY (v:=.ty "str") rfl T.str Z7 rfl) zC))) (yX (zJ QF hr.m (zA (zV (ix_tup:Cl _ (Ut K)) (pv 1) zI (fun _ _=>rfl)) zC)) (xF (zJ Qj hr.m (zA (zV (ix_tup:Cl _ (Ut K)) (pv 1) zI (fun _ _=>rfl)) zC)))))))),?_⟩
  have Dq:=ha.length
  by_cases h1:word="note"
  ·refine⟨_,rfl,rfl,_,rfl,RU (by rw[h1]) ?_⟩
   by_cases h2:ds.length=3
   ·refine⟨_,rfl,a,_,rfl,.inr hs,rfl,_,rfl,RU (by rw[Dq,h2];rfl) ?_⟩;have get:∀i,i<3->ds[i]?=some (CA ds i):=fun i hi=>by
     have:ds[i]?=some (ds[i]'(by omega)):=Zn _;unfold CA;rw[this];rfl
    obtain⟨x0,hx0,dx0⟩:=ha.at (get 0 (by decide));obtain⟨x1,hx1,dx1⟩:=ha.at (get 1 (by decide));obtain⟨x2,hx2,dx2⟩:=ha.at (get 2 (by decide));have e:UW word ds=(UF (CA ds 0)&&(qW (CA ds 1)&&UQ (CA ds 2))):=by
     unfold UW;rw[Zf h1,Zf h2];rfl
    rw[e]at k;refine⟨_,rfl,a,_,_,_,rfl,rfl,hs,xR (j:=0) hx0,_,_,CA ds 0,_,rfl,dx0,T.is (by simp[kinds]),_,rfl,?_⟩;rw[k9];cases q0:UF (CA ds 0) with
    |false =>
     rw[q0]at k;exact Uo (k _ (Same.refl _))
    |true =>
     rw[q0]at k;refine Um ⟨_,rfl,a,_,_,_,rfl,rfl,hs,xR (j:=1) hx1,CA ds 1,_,rfl,dx1,yN sa (get 1 (by decide)),fun H2 s2=>⟨_,rfl,?_⟩⟩;cases q1:qW (CA ds 1) with
     |false =>
      rw[q1]at k;exact Uo (k _ s2)
     |true =>
      rw[q1]at k;exact Um ⟨_,rfl,a,_,_,_,rfl,rfl,s2.tupS hs,xR (j:=2) hx2,CA ds 2,_,rfl,dx2.same s2,yN sa (get 2 (by decide)),fun H3 s3=>k _ (s2.trans s3)⟩
   ·have e:UW word ds=false:=by
     unfold UW;rw[Zr h2,Jc,JN]
    rw[e]at k;refine⟨_,rfl,a,_,rfl,.inr hs,rfl,_,rfl,?_⟩;rw[Zr (p:=V.int ((xs.length:Nat):Int)=V.int 3) (fun z=>h2 (by injection z with z;omega))];exact Um (k _ (Same.refl _))
  ·have e:UW word ds=false:=by
    unfold UW;rw[Zr h1,Jc]
   rw[e]at k;refine⟨_,rfl,rfl,_,rfl,?_⟩;rw[Zr (p:=V.str word=V.str "note") (fun z=>h1 (by injection z))];exact Um (Um (k _ (Same.refl _)))
end Aj
namespace Ak
abbrev st:Stmt:=top 25
theorem sc:FnScope ["thing","word","parts"] ["thing"] (zG st):=Cp
theorem ok (F:Fun K "is_thing" "is_thing" st f fd)(T:Txt P w K mg t1 t2 t3 t4 t5 t6 t7 aL aC aN aT aA b1 b2 b3)(QG:Cal P w K mg base 4 "is_leaf" ["word","parts"] (Xd K UR))(QH:Cal P w K mg base 4 "is_tree" ["word","parts"] (Xd K US))(QI:Cal P w K mg base 3 "is_note" ["word","parts"] (Xd K UW)) :
  FnOk P w K mg base Cm 5 f fd ["thing"] (FS K):=by
 refine F.ok sc (fun vs H Q E h=>?_) (fun cdv A outer s H vs Q E hr h=>?_)
 ·obtain⟨d,v,rfl,_⟩:=h;rfl
 ·obtain⟨d,v,rfl,hd,sm,nar,k⟩:=h;refine⟨_,(zE (yI (PW.pt (vY (yZ (zS (K:=K) (zL (zX (K:=K)) (by rfl) T.isinstance ZE (zA (pv 0) (zA (yY (v:=.ty "tuple") rfl T.tuple Yl rfl) zC))) (fun _=>rfl))) (vY (z5 qA (zL zZ (by rfl) T.len ZO (zA (pv 0) zC)) zI (zW _)) (uP (yZ (zS (K:=K) (zL (zX (K:=K)) (by rfl) T.isinstance ZE (zA (zV (ix_tup:Cl _ (Ut K)) (pv 0) zI (fun _ _=>rfl)) (zA (yY (v:=.ty "str") rfl T.str Z7 rfl) zC))) (fun _=>rfl))))))) (zD (zM j6)) zQ) (zE (Cr (i:=1) sc.nd (zV (ix_tup:Cl _ (Ut K)) (pv 0) zI (fun _ _=>rfl))) (zE (Cr (i:=2) sc.nd (kY (sl_tup2:RQ _ (RX K)) (pv 0) (vW zI) vR)) (zD (zM (K0 (zJ QG hr.m (zA (pv 1) (zA (pv 2) zC))) (K0 (zJ QH hr.m (zA (pv 1) (zA (pv 2) zC))) (xF (zJ QI hr.m (zA (pv 1) (zA (pv 2) zC))))))))))),?_⟩
  refine⟨_,rfl,_,_,d,_,rfl,hd,T.is (by simp[kinds]),_,rfl,?_⟩;cases d with
  |tuple ds =>
   obtain⟨n1,n2⟩:=nar ds rfl;obtain⟨a,xs,rfl,hs,ha⟩:=hd;obtain⟨sl,sa⟩:=xY sm;have Dq:=ha.length;refine Uo ?_
   match ds,ha,Dq,sa,n1,n2,k with
   |[],ha,Dq,sa,n1,n2,k =>
    refine⟨_,rfl,a,_,rfl,.inr hs,rfl,_,rfl,?_⟩;rw[Zf (show V.int ((xs.length:Nat):Int)=V.int 0 by rw[Dq];rfl)];exact Um (Um (k _ (Same.refl _)))
   |d0::ds,⟨x0,r,ex,hd0,hr'⟩,Dq,sa,n1,n2,k =>
    subst ex;refine⟨_,rfl,a,_,rfl,.inr hs,rfl,_,rfl,Oc (fun z=>by injection z with z;simp at z;omega) ?_⟩;refine⟨_,rfl,a,_,_,_,rfl,rfl,hs,xR (j:=0) rfl,_,_,d0,_,rfl,hd0,T.is (by simp[kinds]),_,rfl,?_⟩;rw[k9];cases d0 with
    |str word =>
     cases(show x0=_ from hd0);refine Uo ?_;refine⟨_,rfl,a,_,_,_,rfl,rfl,hs,xR (j:=0) rfl,?_⟩;refine⟨_,rfl,_,rfl,a,_,rfl,hs,fun v H1 hv=>?_⟩;obtain⟨q,rfl,s1,hq⟩:=PR hs hv;rw[Ip (by decide)]at hq;have hq:SqT K H1 q r:=hq;have sa':yF ds=true:=by
      have sa:(small (.str word)&&yF ds)=true:=sa;rw[Zk]at sa;exact sa.2
     have n1':ds.length<=63:=by have:=n1;simp at this;omega
     have n2':∀e∈ds,∀es,e=.tuple es->es.length<=63:=fun e he=>n2 e (Za _ he);refine⟨_,rfl,_,rfl,word,q,ds,r,rfl,hq,DwAll.same s1 _ _ hr',sa',n1',n2',fun H2 s2=>⟨_,rfl,?_⟩⟩;have k:∀H',Same H H'->Q (.bl (UR word ds||(US word ds||UW word ds))) H':=k;cases q0:UR word ds with
     |true =>
      rw[q0]at k;exact Um (k _ (s1.trans s2))
     |false =>
      rw[q0,VX]at k;have s12:=s1.trans s2;refine Uo ⟨_,rfl,_,rfl,word,q,ds,r,rfl,s2.tupS hq,DwAll.same s12 _ _ hr',sa',n1',n2',fun H3 s3=>⟨_,rfl,?_⟩⟩;cases q1:US word ds with
      |true =>
       rw[q1]at k;exact Um (k _ (s12.trans s3))
      |false =>
       rw[q1,VX]at k;exact Uo ⟨_,rfl,_,rfl,word,q,ds,r,rfl,(s2.trans s3).tupS hq,DwAll.same (s12.trans s3) _ _ hr',sa',n1',n2',fun H4 s4=>k _ ((s12.trans s3).trans s4)⟩
    |none=>exact Um (k _ (Same.refl _))
    |bool _=>exact Um (k _ (Same.refl _))
    |int _=>exact Um (k _ (Same.refl _))
    |list _=>exact Um (k _ (Same.refl _))
    |tuple _=>exact Um (k _ (Same.refl _))
    |dict _=>exact Um (k _ (Same.refl _))
  |none=>exact Um (Um (k _ (Same.refl _)))
  |bool b=>exact Um (Um (k _ (Same.refl _)))
  |int i=>exact Um (Um (k _ (Same.refl _)))
  |list ds=>exact Um (Um (k _ (Same.refl _)))
  |str x=>exact Um (Um (k _ (Same.refl _)))
  |dict Dm=>exact Um (Um (k _ (Same.refl _)))
end Ak
namespace Al
abbrev st:Stmt:=top 26
theorem sc:FnScope ["thing"] ["thing"] (zG st):=Cp
theorem ok (F:Fun K "need_thing" "need_thing" st f fd)(T:Txt P w K mg t1 t2 t3 t4 t5 t6 t7 aL aC aN aT aA b1 b2 b3)(QJ:Cal P w K mg base 5 "is_thing" ["thing"] (FS K)):FnOk P w K mg base (Cz P w) 6 f fd ["thing"] (Pk K aT):=by
 refine F.okX sc (fun vs H Q E h=>?_) (fun cdv A outer s H vs Q E hr h=>?_)
 ·obtain⟨d,v,rfl,_⟩:=h;rfl
 ·obtain⟨d,v,rfl,hd,sm,nar,k1,k2⟩:=h;refine⟨_,(zE (yI (yZ (zS (K:=K) (zJ QJ hr.m (zA (pv 0) zC)) (fun _=>rfl))) (zD (y7 rfl yR rfl T.NoThing T.xNoThing (zA pe_str zC))) zQ) (zD (zM (pv 0)))),?_⟩
  refine⟨_,rfl,d,v,rfl,hd,sm,nar,fun H2 s2=>⟨_,rfl,?_⟩⟩;cases q:kT d with
  |true=>exact Uo ⟨_,rfl,k1 q _ s2⟩
  |false=>exact Um ⟨Uv 1,k2 q _ s2⟩
end Al
namespace Am
abbrev st:Stmt:=top 27
theorem sc:FnScope ["thing"] ["thing"] (zG st):=Cp
theorem ok (F:Fun K "letter_of" "letter_of" st f fd)(T:Txt P w K mg t1 t2 t3 t4 t5 t6 t7 aL aC aN aT aA b1 b2 b3):FnOk P w K mg base Cm 1 f fd ["thing"] (Io K):=by
 refine F.ok sc (fun vs H Q E h=>?_) (fun cdv A outer s H vs Q E hr h=>?_)
 ·obtain⟨v,t,rfl,_⟩:=h;rfl
 ·obtain⟨v,t,rfl,hd,k⟩:=h;refine⟨_,(zD (zM (Rk (jL (v:=.ref aL) rfl T.LETTERS rfl) (zV (ix_tup:Cl _ (Ut K)) (pv 0) zI (fun _ _=>rfl)) (fun _ _=>rfl)))),?_⟩;obtain⟨a,r,rfl,hs⟩:=vE hd;exact⟨_,rfl,a,_,_,_,rfl,rfl,hs,IB _ _,_,_,Er t.word,_,rfl,rfl,T.kd,HB t,k⟩
end Am
namespace Ao
abbrev st:Stmt:=top 28
theorem sc:FnScope ["rows","parts","label","name"] ["rows"] (zG st):=Cp
theorem flat_len:∀rs:Dg,(z7 rs).length=2*rs.length
 |[]=>rfl
 |r::rs=>by
  show(z7 rs).length+2=2*(rs.length+1);rw[flat_len rs];omega
theorem ok (F:Fun K "tree_parts" "tree_parts" st f fd)(T:Txt P w K mg t1 t2 t3 t4 t5 t6 t7 aL aC aN aT aA b1 b2 b3):FnOk P w K mg base Cm 1 f fd ["rows"] (Xv K):=by
 refine F.ok sc (fun vs H Q E h=>?_) (fun cdv A outer s H vs Q E hr h=>?_)
 ·obtain⟨v,t,rfl,_⟩:=h;rfl
 ·obtain⟨v,rs,rfl,hd,hl,k⟩:=h;obtain⟨a,xs,rfl,hs,hx⟩:=hd;have hxl:xs.length=rs.length:=by rw[hx.length,Q7]
  refine⟨_,(zE (Cr (i:=1) sc.nd (q8 zC)) (zE (xN ET rfl (j4 (pv 0)) (Xe rfl (y8 (zU (i:=2) sc.nd rfl (EJ rfl)) (y8 (zU (i:=3) sc.nd rfl (EJ rfl)) uH))) (zE (yM (kN Y5 YY YZ jM (pv 1) (zA (pv 2) zC))) (zD (yM (kN Y5 YY YZ jM (pv 1) (zA (pv 3) zC)))))) (zD (zM (pv 1))))),?_⟩
  refine⟨ZT _,fun l nl=>?_⟩;refine⟨_,rfl,a,rfl,⟨_,(zF nl).tupS hs⟩,XU (K:=K) (a:=a) (xs:=xs) (fun i σ H2=>∃(x y:Option V),σ=[some (.ref a),some (.ref l),x,y]/\H2=upd H l (.lst ((z7 (rs.take i)).map V.str))) ⟨none,none,rfl,rfl⟩ (fun i σ H2 _ ⟨_,_,_,e⟩=>by rw[e];exact(zF nl).tupS hs) ?_ ?_⟩
  ·rintro i x σ H2 hi ⟨x0,y0,rfl,rfl⟩;obtain⟨r,b,er,rfl,hb⟩:=FK hx hi;have hil:i<rs.length:=(Zu.mp er).1;have hll:((z7 (rs.take i)).map V.str).length<=2000:=by
    rw[Q7,flat_len,ZD];omega
   refine⟨b,_,rfl,(zF nl).tupS hb,rfl,_,_,rfl,_,_,rfl,rfl,?_⟩;refine⟨_,rfl,.inl ⟨rfl,_,SqL.of zB⟩,_,rfl,l,_,_,rfl,rfl,zB,J6 hll (by rw[Yp];decide),?_⟩;refine⟨_,rfl,.inl ⟨rfl,_,SqL.of zB⟩,_,rfl,l,_,_,rfl,rfl,zB,?_,?_⟩
   ·rw[Zj,YV];exact J6 (V8 hll) (by rw[Yp];decide)
   ·refine⟨_,_,rfl,?_⟩;rw[MI,MI]
    congr 2
    rw[Yx,er];show _=(z7 (rs.take i++[r])).map V.str;rw[jI,Zl];show _=(z7 (rs.take i)).map V.str++[V.str r.1,V.str r.2];rw[Z0];rfl
  ·rintro σ H2 ⟨x0,y0,rfl,rfl⟩;refine⟨_,rfl,?_⟩;rw[hxl,ZJ];exact k l nl
end Ao
theorem TU {c A B:Prop} [Decidable c](hc:c)(h:A):if decide c=true then A else B:=by
 rw[Zf hc];exact Um h
theorem Oc {c A B:Prop} [Decidable c](hc:¬c)(h:B):if decide c=true then A else B:=by
 rw[Zr hc];exact Uo h
theorem Kw {n:Nat}(h:n<=100000):(dig n).length<=10:=Jo (by omega) (by decide) (by
 have:(10:Int) ^ 10=10000000000:=by decide
 rw[this];omega)
theorem Bq {n:Nat}(h:n<=1900):((n:Int)).natAbs.log2<1920:=by
 rw[VQ];exact J6 (Nat.log2_le_self n) (by omega)
theorem M4 {rs:Dg}(g:(Th.tree rs).Good):rs.length<=1000:=by
 have h:=g.1;have e:(z7 rs).length<=1000:=h;rw[Ao.flat_len]at e;omega
theorem M0 {x:Str}{ps:Da}{w:Str}(g:(Th.note x ps w).Good):ps.length<=1000:=by
 have h:=g.1;have e:([x,dig ps.length]++ps++[w]).length<=1000:=h;simp at e;omega
namespace Ap
abbrev st:Stmt:=top 29
theorem sc:FnScope ["thing","parents"] ["thing"] (zG st):=Cp
theorem ok (F:Fun K "parts_of" "parts_of" st f fd)(T:Txt P w K mg t1 t2 t3 t4 t5 t6 t7 aL aC aN aT aA b1 b2 b3)(QK:Cal P w K mg base 1 "tree_parts" ["rows"] (Xv K)):FnOk P w K mg base Cm 2 f fd ["thing"] (Mz K):=by
 refine F.ok sc (fun vs H Q E h=>?_) (fun cdv A outer s H vs Q E hr h=>?_)
 ·obtain⟨v,t,rfl,_⟩:=h;rfl
 ·obtain⟨v,t,rfl,hd,g,k⟩:=h;refine⟨_,(zE (yI (z5 qA (zV (ix_tup:Cl _ (Ut K)) (pv 0) zI (fun _ _=>rfl)) pe_str (zW _)) (zD (zM (yB jB (by rfl) T.list YM (zA (zV (ix_tup:Cl _ (Ut K)) (pv 0) zI (fun _ _=>rfl)) zC)))) zQ) (zE (yI (z5 qA (zV (ix_tup:Cl _ (Ut K)) (pv 0) zI (fun _ _=>rfl)) pe_str (zW _)) (zD (zM (zJ QK hr.m (zA (zV (ix_tup:Cl _ (Ut K)) (pv 0) zI (fun _ _=>rfl)) zC)))) zQ) (zE (Cr (i:=1) sc.nd (zV (ix_tup:Cl _ (Ut K)) (pv 0) zI (fun _ _=>rfl))) (zD (zM (z8 OI (z8 OI (q8 (zA (zV (ix_tup:Cl _ (Ut K)) (pv 0) zI (fun _ _=>rfl)) (zA (yB jC (by rfl) T.str Z7 (zA (zL zZ (by rfl) T.len ZO (zA (pv 1) zC)) zC)) zC))) (yB jB (by rfl) T.list YM (zA (pv 1) zC))) (q8 (zA (zV (ix_tup:Cl _ (Ut K)) (pv 0) zI (fun _ _=>rfl)) zC)))))))),?_⟩
  cases t with
  |leaf ls =>
   obtain⟨a,b,rfl,hs,hb⟩:=BH hd;refine⟨_,rfl,a,_,_,_,rfl,rfl,hs,rfl,rfl,_,rfl,TU rfl ?_⟩;exact⟨_,rfl,a,_,_,_,rfl,rfl,hs,rfl,b,_,rfl,.inr hb,fun l nl=>k l _ (zF nl) nl zB⟩
  |tree rs =>
   obtain⟨a,b,rfl,hs,hb⟩:=BT hd;refine⟨_,rfl,a,_,_,_,rfl,rfl,hs,rfl,rfl,_,rfl,Oc (by decide +kernel) ?_⟩;refine⟨_,rfl,a,_,_,_,rfl,rfl,hs,rfl,rfl,_,rfl,TU rfl ?_⟩;exact⟨_,rfl,a,_,_,_,rfl,rfl,hs,rfl,_,rs,rfl,hb,M4 g,fun l nl=>k l _ (zF nl) nl zB⟩
  |note x ps y =>
   obtain⟨a,b,rfl,hs,hb⟩:=BU hd;have hp:=M0 g;refine⟨_,rfl,a,_,_,_,rfl,rfl,hs,rfl,rfl,_,rfl,Oc (by decide +kernel) ?_⟩;refine⟨_,rfl,a,_,_,_,rfl,rfl,hs,rfl,rfl,_,rfl,Oc (by decide +kernel) ?_⟩;refine⟨_,rfl,a,_,_,_,rfl,rfl,hs,rfl,?_⟩;refine⟨_,rfl,a,_,_,_,rfl,rfl,hs,rfl,_,rfl,b,_,rfl,.inr hb,_,rfl,?_,Uv 2,fun l1 n1=>?_⟩
   ·rw[Q7];exact Bq (by omega)
   have s1:=zF (o:=.lst [V.str x,V.str (EQ (LQ (((ps.map V.str).length:Nat):Int)))]) n1;refine⟨_,rfl,b,_,rfl,.inr (s1.tupS hb),fun l2 n2=>?_⟩;have s2:=s1.trans (zF (o:=.lst (ps.map V.str)) n2);have d12:l1≠l2:=zK zB n2;refine⟨l1,l2,_,_,rfl,rfl,(by rw[zH d12];exact zB),zB,(by rw[Q7];exact le_line (by simp only[Zh,Yj];omega)),fun l3 n3=>?_⟩;have s3:=s2.trans (zF (o:=.lst ([V.str x,V.str (EQ (LQ (((ps.map V.str).length:Nat):Int)))]++ps.map V.str)) n3);refine⟨_,rfl,a,_,_,_,rfl,rfl,s3.tupS hs,rfl,Uv 1,fun l4 n4=>?_⟩;have s4:=s3.trans (zF (o:=.lst [V.str y]) n4);have d34:l3≠l4:=zK zB n4;refine⟨l3,l4,_,_,rfl,rfl,(by rw[zH d34];exact zB),zB,?_,fun l5 n5=>?_⟩
   ·rw[Zj,Q7];exact le_line (by simp only[Zh,Yj];omega)
   ·refine k l5 _ (s4.trans (zF n5)) (s4.free n5) ?_;rw[zB]
    congr 2
    show _=([x,dig ps.length]++ps++[y]).map V.str;rw[Zl,Zl];show([V.str x,V.str (EQ (LQ (((ps.map V.str).length:Nat):Int)))]++ps.map V.str)++[V.str y]=_;rw[Q7];rfl
end Ap
namespace Aq
abbrev st:Stmt:=top 30
theorem sc:FnScope ["part"] ["part"] (zG st):=Cp
theorem ok (F:Fun K "counted" "counted" st f fd)(T:Txt P w K mg t1 t2 t3 t4 t5 t6 t7 aL aC aN aT aA b1 b2 b3):FnOk P w K mg base Cm 1 f fd ["part"] G8:=by
 refine F.ok sc (fun vs H Q E h=>?_) (fun cdv A outer s H vs Q E hr h=>?_)
 ·obtain⟨x,rfl,_⟩:=h;rfl
 ·obtain⟨x,rfl,hl,k⟩:=h;refine⟨_,(zD (zM (z8 yJ (z8 yJ (yB jC (by rfl) T.str Z7 (zA (zL qG (by rfl) T.len ZO (zA (pv 0) zC)) zC)) pe_str) (pv 0)))),?_⟩;have d:=Kw (n:=x.length) (by omega);have c1:(""++":":String).length=1:=by decide
  have c2:(":":Str).length=1:=by decide +kernel
  refine⟨_,rfl,x,rfl,le_line (by omega),_,rfl,Bq (by omega),_,_,rfl,rfl,le_line (by rw[c2];exact Z5 (Nat.add_le_add_right d 1) (by decide)),_,rfl,_,_,rfl,rfl,le_line ?_,k⟩;show(dig x.length++":").length+x.length<=_;rw[len_append,c2];omega
end Aq
namespace Ar
abbrev st:Stmt:=top 31
theorem sc:FnScope ["thing"] ["thing"] (zG st):=Cp
theorem Fe {x:Str}(h:x.length<=1000):(counted x).length<=1011:=by
 have d:=Kw (n:=x.length) (by omega);have c2:(":":Str).length=1:=by decide +kernel
 show(dig x.length++":"++x).length<=_;rw[len_append,len_append,c2];omega
theorem ok (F:Fun K "spelled" "spelled" st f fd)(T:Txt P w K mg t1 t2 t3 t4 t5 t6 t7 aL aC aN aT aA b1 b2 b3)(Ql:Cal P w K mg base 1 "letter_of" ["thing"] (Io K))(QL:Cal P w K mg base 2 "parts_of" ["thing"] (Mz K))
  (QM:Cal P w K mg base 1 "counted" ["part"] G8):FnOk P w K mg base Cm 3 f fd ["thing"] (Bo K):=by
 refine F.ok sc (fun vs H Q E h=>?_) (fun cdv A outer s H vs Q E hr h=>?_)
 ·obtain⟨v,t,rfl,_⟩:=h;rfl
 ·obtain⟨v,t,rfl,hd,g,k⟩:=h;refine⟨_,(zD (zM (z8 yJ (zJ Ql hr.m (zA (pv 0) zC)) (kN Yf JH JI X0 pe_str (zA (xC (sc:=zG st) (N:=["thing"]) (N':=["part"]) (src:=[none]) ⟨by decide +kernel,rfl,rfl,by decide +kernel,by decide +kernel,by decide +kernel,by decide +kernel⟩ rfl rfl rfl (kF (zJ QL hr.m (zA (pv 0) zC))) (fun _ _ _ _=>(zU (i:=0) (show(["part"]:Da).Nodup by decide +kernel) rfl (EJ rfl))) (fun _ _ _ _=>qD) (fun _ _ _ _=>(zJ QM hr.m (zA (pv 0) zC)))) zC))))),?_⟩;refine⟨_,rfl,v,t,rfl,hd,rfl,_,rfl,v,t,rfl,hd,g,fun l H1 s1 nl hl=>?_⟩;have Dq:(t.parts.map V.str).length<=1000:=by rw[Q7];exact g.1
  refine⟨l,rfl,⟨_,SqL.of hl⟩,jU (K:=K) (a:=l) (xs:=t.parts.map V.str) (fun i ys σ H2=>∃x,σ=[x]/\H2=H1/\ys=((t.parts.take i).map counted).map V.str) ⟨none,rfl,rfl,rfl⟩ (le_line (by omega)) (fun i ys σ H2 hi ⟨x,_,e,ey⟩=>⟨by rw[e];exact SqL.of hl,?_⟩) ?_ ?_⟩
  ·rw[ey,Q7,Q7,ZD];exact Nat.min_le_left _ _
  ·rintro i x ys σ H2 hi ⟨x0,rfl,rfl,rfl⟩;rw[Zp]at hi;cases q:t.parts[i]? with
   |none=>rw[q]at hi;cases hi
   |some p =>
    rw[q]at hi;have hi:V.str p=x:=Option.some.inj hi;subst hi;have hp:=g.2 p (Zm q);refine⟨_,rfl,p,rfl,hp.len,_,rfl,rfl,?_⟩;rw[Yx,q,Zl,Zl];rfl
  ·rintro ys σ H2 ⟨x0,rfl,rfl,rfl⟩ p np;have e:(t.parts.take (t.parts.map V.str).length)=t.parts:=by rw[Q7,ZJ]
   rw[e];have b1:∀y∈t.parts.map counted,y.length<=1011:=fun y hy=>by
    obtain⟨z,hz,rfl⟩:=Zb.mp hy;exact Fe (g.2 z hz).len
   have b2:=Bx _ b1;have b3:(t.parts.map counted).length<=1000:=by rw[Q7];exact g.1
   have b4:(t.parts.map counted).length*1011<=1011000:=Nat.mul_le_mul_right 1011 b3;have c0:("":Str).length=0:=by decide +kernel
   have c1:t.letter.length=1:=by rw[length_cs,kM];rfl
   refine⟨_,p,t.parts.map counted,rfl,rfl,.inl (SqL.of zB),by rw[c0];omega,_,_,rfl,rfl,?_,?_⟩
   ·have:=StrLaws.join_length_le "" (t.parts.map counted);have e2:Lq "" (t.parts.map counted)=Ms "" (t.parts.map counted):=Lb _ _;rw[e2];rw[c0]at this;exact le_line (by omega)
   ·rw[Wg];exact k _ (s1.trans (zF np))
end Ar
namespace As
abbrev st:Stmt:=top 32
theorem sc:FnScope ["thing","number","sign"] ["thing"] (zG st):=Cp
theorem ok (F:Fun K "digest" "digest" st f fd)(T:Txt P w K mg t1 t2 t3 t4 t5 t6 t7 aL aC aN aT aA b1 b2 b3)(QN:Cal P w K mg base 3 "spelled" ["thing"] (Bo K)):FnOk P w K mg base Cm 4 f fd ["thing"] (FP K):=by
 refine F.ok sc (fun vs H Q E h=>?_) (fun cdv A outer s H vs Q E hr h=>?_)
 ·obtain⟨v,t,rfl,_⟩:=h;rfl
 ·obtain⟨v,t,rfl,hd,g,k⟩:=h;refine⟨_,(zE (Cr (i:=1) sc.nd zI) (zE (xN ET rfl (HM (zJ QN hr.m (zA (pv 0) zC))) (zU (i:=2) sc.nd rfl (EJ rfl)) (zD (Cr (i:=1) sc.nd (z8 x9 (z8 jJ (z8 IW (jL (v:=.int 31) rfl T.DIGEST_FACTOR ⟨_,rfl⟩) (pv 1)) (zL CG (by rfl) T.ord PyProof.Rows.boot_ord (zA (pv 2) zC))) (jL (v:=.int 97) rfl T.DIGEST_BOUND ⟨_,rfl⟩))))) (zD (zM (pv 1))))),?_⟩
  refine⟨_,rfl,v,t,rfl,hd,g,fun H1 s1=>⟨_,rfl,PV (fun i σ H2=>∃x,σ=[some v,some (.int (((cs t.sp).take i).foldl TF 0)),x]/\H2=H1) ⟨none,rfl,rfl⟩ ?_ ?_⟩⟩
  ·rintro i c σ H2 hc ⟨x,rfl,rfl⟩;refine⟨_,rfl,_,_,rfl,rfl,.inl ⟨by decide,by decide⟩,_,rfl,_,rfl,rfl,_,_,rfl,rfl,_,_,rfl,rfl,(by show(0:Int)<97;decide),some (.str ⟨#[c]⟩),?_,rfl⟩;have hc':(cs t.sp)[i]?=some c:=by rw[←hc];simp
   rw[Yx,hc',YL];rfl
  ·rintro σ H2 ⟨x,rfl,rfl⟩;refine⟨_,rfl,?_⟩;rw[length_cs,ZJ];exact k _ s1
end As
namespace Au
abbrev st:Stmt:=inClass (top 59) 7
theorem sc:FnScope ["self"] ["self"] (zG st):=Cp
theorem ok (F:Fun K "names" "Shelf.names" st f fd)(T:Txt P w K mg t1 t2 t3 t4 t5 t6 t7 aL aC aN aT aA b1 b2 b3):FnOk P w K mg base Cm 1 f fd ["self"] (BQ P w K aC):=by
 refine F.ok sc (fun vs H Q E h=>?_) (fun cdv A outer s H vs Q E hr h=>?_)
 ·obtain⟨a,fp,S,rfl,_⟩:=h;rfl
 ·obtain⟨a,fp,S,rfl,sh,k⟩:=h;refine⟨_,(zD (zM (yB (Hf rfl) (by rfl) T.list YM (zA (j5 (pv 0) rfl) zC)))),?_⟩;obtain⟨g,dx,d1,d2,d3,ts,nx,rfl,nd,h1,h2,h3,h4,h5,h6,h7,h8,h9⟩:=sh;refine⟨_,rfl,a,aC,dx,_,_,rfl,h1,T.cls,T.n1,rfl,d1,_,rfl,h4,fun l nl=>?_⟩;have e:(((S.zip ts).map fun e=>((Er e.1.nm:Key),V.ref e.2)).map fun kv=>kV kv.1)=S.map fun e=>V.str e.nm:=by
   rw[ZB];have:(S.zip ts).map (·.1)=S:=VB (by omega)
   conv=>rhs;rw[←this]
   rw[ZB];rfl
  rw[e];exact k l nl
end Au
namespace Av
abbrev st:Stmt:=inClass (top 59) 1
theorem sc:FnScope ["self","name","thing","halves","head"] ["self","name","thing"] (zG st):=Cp
theorem ok (F:Fun K "take" "Shelf.take" st f fd)(T:Txt P w K mg t1 t2 t3 t4 t5 t6 t7 aL aC aN aT aA b1 b2 b3):FnOk P w K mg base Cm 1 f fd ["self","name","thing"] (Kd P w K aC):=by
 refine F.ok sc (fun vs H Q E h=>?_) (fun cdv A outer s H vs Q E hr h=>?_)
 ·obtain⟨a,fp,S,e,t,rfl,_⟩:=h;rfl
 ·obtain⟨a,fp,S,e,t,rfl,sh,ge,ht,hd,hn,hl,k⟩:=h;have hu:=GN hr;refine⟨_,(zE (Cr (i:=3) sc.nd (kN Yf PySem.F.slot_str_partition PySem.F.type_str_partition uR (pv 1) (zA pe_str zC))) (zE (Cr (i:=4) sc.nd (zV (ix_tup:Cl _ (Ut K)) (pv 3) zI (fun _ _=>rfl))) (zE (xO hu (j5 (pv 0) rfl) (pv 4) (zL (MQ rfl) (by rfl) T.max PyProof.Rows.boot_max (zA (Ii hu (j5 (pv 0) rfl) (pv 4) zI ⟨rfl,rfl,rfl,rfl⟩) (zA (z8 jJ (yB MO (by rfl) T.int PyProof.Rows.boot_int (zA (zV (ix_tup:Cl _ (Ut K)) (pv 3) zI (fun _ _=>rfl)) zC)) zI) zC))) rfl) (zE (xO hu (j5 (pv 0) rfl) (pv 1) (pv 2) rfl) (zD (Rs hr.units (j5 (pv 0) rfl) (pv 2) (pv 1) rfl)))))),?_⟩
  obtain⟨g,dx,d1,d2,d3,ts,nx,rfl,nd,h1,h2,h3,h4,h5,h6,h7,h8,h9⟩:=id sh;have noseq:=sh.noseq.tup;have nl:(UD e.n).length<=2000:=by
   have hlog:((e.n:Int)).natAbs.log2<1920:=by
    have:=ge.num;rw[VQ]
    rcases Je e.n with z|z
    ·rw[z];decide
    ·have:e.n.log2<20:=(Nat.log2_lt (by omega)).mpr (by omega);omega
   have:=Vz hlog;have e':(UD e.n).length<=1921:=this;omega
  have nml:e.nm.length<=100000:=by
   have:=ge.hl;have e1:dot.length=1:=rfl;unfold En.nm;rw[len_append,len_append,e1];omega
  simp only[Z8,Zi,Yd,VR,not_or,Yy,and_true,not_false_eq_true]at nd;obtain⟨⟨n01,n02,n03,n04⟩,⟨n12,n13,n14⟩,⟨n23,n24⟩,n34⟩:=nd;refine⟨_,rfl,rfl,e.h,UD e.n,46,rfl,by rw[NZ];rfl,ge.free,nml,fun p np=>?_⟩;have u1:=zF (o:=.tup [V.str e.h,V.str ⟨#[46]⟩,V.str (UD e.n)]) np;have hp:SqT K (upd H p (.tup [V.str e.h,V.str ⟨#[46]⟩,V.str (UD e.n)])) p [V.str e.h,V.str ⟨#[46]⟩,V.str (UD e.n)]:=SqT.of zB;show RI _ _ _ _ (upd H p (.tup [V.str e.h,V.str ⟨#[46]⟩,V.str (UD e.n)]));generalize upd H p (.tup [V.str e.h,V.str ⟨#[46]⟩,V.str (UD e.n)])=H1 at u1 hp;have g1:=u1 _ _ h1;have g4:=u1 _ _ h4;have g6:=u1 _ _ h6;refine⟨_,rfl,p,_,_,_,rfl,rfl,hp,rfl,?_⟩;refine⟨_,rfl,a,aC,dx,_,_,rfl,g1,T.cls,T.n3,rfl,d3,rfl,.inl ⟨_,.inl g6⟩,_,rfl,_,DGet.k (k:=(Er e.h:Key)) g6,?_⟩;obtain⟨m,em,en⟩:∃m:Nat,(Ur nx (Er e.h:Key)).getD (V.int 0)=V.int (m:Int)/\m=(nextOf S e.h).getD 0:=by
   rw[h8];cases nextOf S e.h with
   |none=>exact⟨0,rfl,rfl⟩
   |some m=>exact⟨m,rfl,rfl⟩
  rw[em];refine⟨_,rfl,p,_,_,_,rfl,rfl,hp,rfl,e.n,rfl,by have:=ge.num;omega,_,_,rfl,rfl,_,_,rfl,?_⟩;have emax:(if(e.n:Int)+1>(m:Int) then(e.n:Int)+1 else(m:Int))=((max m (e.n+1):Nat):Int):=by
   split<;>omega
  rw[emax];have nxl:nx.length<2000:=by omega
  refine⟨_,rfl,a,aC,dx,_,_,rfl,g1,T.cls,T.n3,rfl,_,rfl,d3,_,rfl,DPut.k (k:=(Er e.h:Key)) g6 (yS (by omega)),?_⟩;have o1:Off [a,dx,d1,d2,d3] H (upd H1 d3 (.dK (putK nx (Er e.h:Key) (V.int ((max m (e.n+1):Nat):Int))))):=(Off.of u1).upd (by simp);have g1b:upd H1 d3 (.dK (putK nx (Er e.h:Key) (V.int ((max m (e.n+1):Nat):Int)))) a=some (.ins aC dx (N4 d1 d2 d3)):=by rwa[zH n04]
  have g4b:upd H1 d3 (.dK (putK nx (Er e.h:Key) (V.int ((max m (e.n+1):Nat):Int)))) d1=some (.dK ((S.zip ts).map fun e=>((Er e.1.nm:Key),V.ref e.2))):=by rwa[zH n24]
  have g6b:upd H1 d3 (.dK (putK nx (Er e.h:Key) (V.int ((max m (e.n+1):Nat):Int)))) d3=some (.dK (putK nx (Er e.h:Key) (V.int ((max m (e.n+1):Nat):Int)))):=zB;have g2b:upd H1 d3 (.dK (putK nx (Er e.h:Key) (V.int ((max m (e.n+1):Nat):Int)))) dx=some (.own a):=by rw[zH n14];exact u1 _ _ h2
  obtain⟨xs5,e5,_⟩:=h5.2.2.2;have g5b:upd H1 d3 (.dK (putK nx (Er e.h:Key) (V.int ((max m (e.n+1):Nat):Int)))) d2=H d2:=by rw[zH n34,e5];exact u1 _ _ e5
  show RI _ _ _ _ (upd H1 d3 (.dK (putK nx (Er e.h:Key) (V.int ((max m (e.n+1):Nat):Int)))));generalize upd H1 d3 (.dK (putK nx (Er e.h:Key) (V.int ((max m (e.n+1):Nat):Int))))=H2 at o1 g1b g4b g6b g2b g5b;have zl:((S.zip ts).map fun e=>((Er e.1.nm:Key),V.ref e.2)).length<=2000:=by rw[Q7,List.length_zip];omega
  refine⟨_,rfl,_,rfl,a,aC,dx,_,_,rfl,g1b,T.cls,T.n1,rfl,_,rfl,d1,_,rfl,DPut.k (k:=(Er e.nm:Key)) g4b (yS (by omega)),?_⟩;have ek:((S.zip ts).map fun e=>((Er e.1.nm:Key),V.ref e.2)).map (·.1)=S.map fun e=>(Er e.nm:Key):=by
   rw[ZB];have:(S.zip ts).map (·.1)=S:=VB (by omega)
   conv=>rhs;rw[←this]
   rw[ZB];rfl
  have hk:(Er e.nm:Key)∉((S.zip ts).map fun e=>((Er e.1.nm:Key),V.ref e.2)).map (·.1):=fun z=>by
   rw[ek]at z;obtain⟨e',he',q⟩:=Zb.mp z;exact hn (Zb.mpr ⟨e',he',Sum.inr.inj q⟩)
  rw[qQ hk];have o2:Off [a,dx,d1,d2,d3] H (upd H2 d1 (.dK ((S.zip ts).map (fun e=>((Er e.1.nm:Key),V.ref e.2))++[(Er e.nm,V.ref t)]))):=o1.upd (by simp);have g1c:upd H2 d1 (.dK ((S.zip ts).map (fun e=>((Er e.1.nm:Key),V.ref e.2))++[(Er e.nm,V.ref t)])) a=some (.ins aC dx (N4 d1 d2 d3)):=by rwa[zH n02]
  have g2c:upd H2 d1 (.dK ((S.zip ts).map (fun e=>((Er e.1.nm:Key),V.ref e.2))++[(Er e.nm,V.ref t)])) dx=some (.own a):=by rwa[zH n12]
  have g4c:upd H2 d1 (.dK ((S.zip ts).map (fun e=>((Er e.1.nm:Key),V.ref e.2))++[(Er e.nm,V.ref t)])) d1=some (.dK ((S.zip ts).map (fun e=>((Er e.1.nm:Key),V.ref e.2))++[(Er e.nm,V.ref t)])):=zB;have g5c:upd H2 d1 (.dK ((S.zip ts).map (fun e=>((Er e.1.nm:Key),V.ref e.2))++[(Er e.nm,V.ref t)])) d2=H d2:=by rwa[zH (EA n23)]
  have g6c:upd H2 d1 (.dK ((S.zip ts).map (fun e=>((Er e.1.nm:Key),V.ref e.2))++[(Er e.nm,V.ref t)])) d3=some (.dK (putK nx (Er e.h:Key) (V.int ((max m (e.n+1):Nat):Int)))):=by rwa[zH (EA n24)]
  generalize upd H2 d1 (.dK ((S.zip ts).map (fun e=>((Er e.1.nm:Key),V.ref e.2))++[(Er e.nm,V.ref t)]))=H3 at o2 g1c g2c g4c g5c g6c;have T3:ThD P w K H3 d2 (S.map fun e=>(e.d,V.str e.nm)):=ThD.off noseq o2 g5c h5;have ht3:Dt K H3 e.d (.ref t):=Dt.off noseq o2 _ _ ge.key.1 ht;refine⟨_,rfl,_,rfl,a,aC,dx,_,_,rfl,g1c,T.cls,T.n2,rfl,_,rfl,t,d2,_,e.d,rfl,rfl,T3,by rw[Q7];omega,ge.key,ht3,fun o T4 ⟨es,eo⟩=>?_⟩;have hk2:e.d∉(S.map fun e=>(e.d,V.str e.nm)).map (·.1):=by rwa[ZB]
  rw[qQ hk2]at T4;have o3:Off [a,dx,d1,d2,d3] H (upd H3 d2 o):=o2.upd (by simp);refine k _ o3 ⟨g.snoc ge hd hn (by omega),dx,d1,d2,d3,ts++[t],_,rfl,by simp[n01,n02,n03,n04,n12,n13,n14,n23,n24,n34],by rw[zH n03];exact g1c,by rw[zH n13];exact g2c,by rw[Zj,Zj,h3];rfl,?_,?_,by rw[zH (EA n34)];exact g6c,?_,?_,?_⟩
  ·rw[zH n23,g4c,List.zip_append h3.symm,Zl];rfl
  ·rw[Zl];exact T4
  ·have:=x5 nx (Er e.h:Key) (V.int ((max m (e.n+1):Nat):Int));rw[Zj,YV];omega
  ·intro h;rw[Pw,XG]
   by_cases q:e.h=h
   ·rw[Zy (by rw[q]),Zy q,←q,←en];rfl
   ·rw[ZA (fun z=>q (Sum.inr.inj z).symm),ZA q];exact h8 h
  ·intro i e' t' q1 q2
   rcases Vj i S.length with z|z|z
   ·rw[ZR z]at q1;rw[ZR (by omega)]at q2;exact Dt.off noseq o3 _ _ (g.ent e' (Zm q1)).key.1 (h9 i e' t' q1 q2)
   ·subst z;rw[ZU (Ze _),Nat.sub_self]at q1;rw[ZU (by omega),h3,Nat.sub_self]at q2;cases q1;cases q2;exact Dt.off noseq o3 _ _ ge.key.1 ht
   ·rw[Ya (by rw[Zj,YV];omega)]at q1;cases q1
end Av
theorem KK {S:Di}{ts:Dd}(h:ts.length=S.length):((S.zip ts).map fun e=>((Er e.1.nm:Key),V.ref e.2)).map (·.1)=S.map fun e=>(Er e.nm:Key):=by
 rw[ZB];have:(S.zip ts).map (·.1)=S:=VB (by omega)
 conv=>rhs;rw[←this]
 rw[ZB];rfl
theorem P4 {S:Di}{ts:Dd}(h:ts.length=S.length)(x:Str):(Ur ((S.zip ts).map fun e=>((Er e.1.nm:Key),V.ref e.2)) (Er x:Key)).isSome=decide (x∈S.map En.nm):=by
 have ek:=KK h;rw[ZZ,Zv];constructor
 ·intro z;obtain⟨v,hv⟩:=JX.mp z;have:=j7 hv;rw[ek]at this;obtain⟨e,he,q⟩:=Zb.mp this;exact Zb.mpr ⟨e,he,Sum.inr.inj q⟩
 ·intro z;obtain⟨e,he,q⟩:=Zb.mp z;cases hv:Ur ((S.zip ts).map fun e=>((Er e.1.nm:Key),V.ref e.2)) (Er x:Key) with
  |some v=>rfl
  |none =>
   refine absurd ?_ (X4 hv);rw[ek];exact Zb.mpr ⟨e,he,by rw[q]⟩
theorem Sh {ts:Dd}(g:GoodS S)(h:ts.length=S.length){i:Nat}{e:En}{t:Eh}(q1:S[i]?=some e)(q2:ts[i]?=some t):Ur ((S.zip ts).map fun e=>((Er e.1.nm:Key),V.ref e.2)) (Er e.nm:Key)=some (V.ref t):=by
 have nd':(((S.zip ts).map fun e=>((Er e.1.nm:Key),V.ref e.2)).map (·.1)).Nodup:=by
  rw[KK h];have:=List.Pairwise.map (S:=fun a b:Key=>a≠b) (fun x=>(Er x:Key)) (fun a b h z=>h (Sum.inr.inj z)) g.nn;rw[ZB]at this;exact this
 have hm:((Er e.nm:Key),V.ref t)∈(S.zip ts).map fun e=>((Er e.1.nm:Key),V.ref e.2) :=
  Zb.mpr ⟨(e,t),Zm (i:=i) (by rw[Jg];exact⟨q1,q2⟩),rfl⟩
 exact jN nd' hm
namespace Aw
abbrev st:Stmt:=top 56
theorem sc:FnScope ["table","thing"] ["table","thing"] (zG st):=Cp
theorem ok (F:Fun K "is_key" "is_key" st f fd)(T:Txt P w K mg t1 t2 t3 t4 t5 t6 t7 aL aC aN aT aA b1 b2 b3):FnOk P w K mg base Cm 1 f fd ["table","thing"] (R0 K):=by
 refine F.ok sc (fun vs H Q E h=>?_) (fun cdv A outer s H vs Q E hr h=>?_)
 ·obtain⟨d1,Dm,d,v,rfl,_⟩:=h;rfl
 ·obtain⟨d1,Dm,d,v,rfl,h4,hd,k⟩:=h;refine⟨_,(zD (zM (yX (zL (zX (K:=K)) (by rfl) T.isinstance ZE (zA (pv 1) (zA (yY (v:=.ty "str") rfl T.str Z7 rfl) zC))) (xF (yE (IL hr.units) (pv 1) (pv 0) (by with_unfolding_all rfl)))))),?_⟩;refine⟨_,rfl,_,_,d,_,rfl,hd,T.is (by simp[kinds]),_,rfl,?_⟩;cases d with
  |str x =>
   cases(show v=_ from hd);exact Um ⟨_,rfl,_,rfl,d1,_,rfl,DGet.k (k:=(Er x:Key)) h4,k⟩
  |none=>exact Uo k
  |bool b=>exact Uo k
  |int i=>exact Uo k
  |list ds=>exact Uo k
  |tuple ds=>exact Uo k
  |dict Dm=>exact Uo k
end Aw
theorem P3 {S:Di}{ts:Dd}(h:ts.length=S.length)(d:Eo):TL ((S.zip ts).map fun e=>((Er e.1.nm:Key),V.ref e.2)) d=UZ S d:=by
 cases d with
 |str x=>exact P4 h x
 |none=>rfl
 |bool b=>rfl
 |int i=>rfl
 |list ds=>rfl
 |tuple ds=>rfl
 |dict Dm=>rfl
namespace Ax
abbrev st:Stmt:=inClass (top 59) 5
theorem sc:FnScope ["self","name"] ["self","name"] (zG st):=Cp
theorem ok (F:Fun K "has" "Shelf.has" st f fd)(T:Txt P w K mg t1 t2 t3 t4 t5 t6 t7 aL aC aN aT aA b1 b2 b3)(QO:Cal P w K mg base 1 "is_key" ["table","thing"] (R0 K)):FnOk P w K mg base Cm 2 f fd ["self","name"] (Pe P w K aC):=by
 refine F.ok sc (fun vs H Q E h=>?_) (fun cdv A outer s H vs Q E hr h=>?_)
 ·obtain⟨a,fp,S,d,v,rfl,_⟩:=h;rfl
 ·obtain⟨a,fp,S,d,v,rfl,sh,hd,k⟩:=h;refine⟨_,(zD (zM (zJ QO hr.m (zA (j5 (pv 0) rfl) (zA (pv 1) zC))))),?_⟩;obtain⟨g,dx,d1,d2,d3,ts,nx,rfl,nd,h1,h2,h3,h4,h5,h6,h7,h8,h9⟩:=sh;refine⟨_,rfl,a,aC,dx,_,_,rfl,h1,T.cls,T.n1,rfl,_,rfl,d1,_,d,v,rfl,h4,hd,?_⟩;rwa[P3 h3 d]
end Ax
namespace Ay
abbrev st:Stmt:=top 57
theorem sc:FnScope ["store","name"] ["store","name"] (zG st):=Cp
theorem ok (F:Fun K "need_name" "need_name" st f fd)(T:Txt P w K mg t1 t2 t3 t4 t5 t6 t7 aL aC aN aT aA b1 b2 b3)(Qm:Met P w K mg base aC 2 "has" ["self","name"] (Pe P w K aC)):FnOk P w K mg base (Cz P w) 3 f fd ["store","name"] (Ib P w K aC aN):=by
 refine F.okX sc (fun vs H Q E h=>?_) (fun cdv A outer s H vs Q E hr h=>?_)
 ·obtain⟨a,fp,S,d,v,rfl,_⟩:=h;rfl
 ·obtain⟨a,fp,S,d,v,rfl,sh,hd,k1,k2⟩:=h;refine⟨_,(zD (yI (yZ (zS (K:=K) (X3 (pv 0) T.cls Qm hr.m (zA (pv 1) zC)) (fun _=>rfl))) (zD (y7 rfl yR rfl T.NoName T.xNoName (zA pe_str zC))) zQ)),?_⟩
  obtain⟨g,dx,d1,d2,d3,ts,nx,efp,nd,h1,h2,h3,h4,h5,h6,h7,h8,h9⟩:=id sh;refine⟨_,rfl,a,dx,_,rfl,h1,rfl,_,rfl,a,_,S,d,v,rfl,sh,hd,_,rfl,?_⟩;cases q:UZ S d with
  |false=>exact Um ⟨Uv 1,k2 q⟩
  |true=>exact Uo (k1 q)
end Ay
namespace Az
abbrev st:Stmt:=inClass (top 59) 6
theorem sc:FnScope ["self","name"] ["self","name"] (zG st):=Cp
theorem ok (F:Fun K "thing" "Shelf.thing" st f fd)(T:Txt P w K mg t1 t2 t3 t4 t5 t6 t7 aL aC aN aT aA b1 b2 b3)(QP:CalX P w K mg base 3 "need_name" ["store","name"] (Ib P w K aC aN)):FnOk P w K mg base (Cz P w) 4 f fd ["self","name"] (qF P w K aC aN):=by
 refine F.okX sc (fun vs H Q E h=>?_) (fun cdv A outer s H vs Q E hr h=>?_)
 ·obtain⟨a,fp,S,d,v,rfl,_⟩:=h;rfl
 ·obtain⟨a,fp,S,d,v,rfl,sh,hd,k1,k2⟩:=h;have hu:=GN hr;refine⟨_,(zE (yM (yD QP hr.m yA (zA (pv 0) (zA (pv 1) zC)))) (zD (zM (jA hu (j5 (pv 0) rfl) (pv 1) (fun _ _=>rfl))))),?_⟩
  obtain⟨g,dx,d1,d2,d3,ts,nx,efp,nd,h1,h2,h3,h4,h5,h6,h7,h8,h9⟩:=id sh;refine⟨_,rfl,_,rfl,a,_,S,d,v,rfl,sh,hd,fun q=>?_,k2⟩;cases d with
  |str x =>
   cases(show v=_ from hd);have q:x∈S.map En.nm:=Zx q;obtain⟨e,he,rfl⟩:=Zb.mp q;obtain⟨i,hi,ei⟩:=ZN.mp he;have hi':i<ts.length:=by omega
   have q1:S[i]?=some e:=by rw[Zn hi,ei]
   have q2:ts[i]?=some ts[i]:=Zn hi';have hv:=Sh g h3 q1 q2;exact⟨_,rfl,a,aC,dx,_,_,rfl,h1,T.cls,T.n1,rfl,_,rfl,d1,_,rfl,by rw[←hv];exact DGet.k (k:=(Er e.nm:Key)) h4,k1 e he rfl _ (h9 i e _ q1 q2)⟩
  |none=>cases q
  |bool b=>cases q
  |int i=>cases q
  |list ds=>cases q
  |tuple ds=>cases q
  |dict Dm=>cases q
end Az
namespace AA
abbrev st:Stmt:=inClass (top 59) 4
theorem sc:FnScope ["self","name","forms"] ["self","name","forms"] (zG st):=Cp
theorem ok (F:Fun K "need_form" "Shelf.need_form" st f fd)(T:Txt P w K mg t1 t2 t3 t4 t5 t6 t7 aL aC aN aT aA b1 b2 b3)(Qa:MetX P w K mg base aC 4 "thing" ["self","name"] (qF P w K aC aN)):FnOk P w K mg base (Cz P w) 5 f fd ["self","name","forms"] (Mv P w K aC aN):=by
 refine F.okX sc (fun vs H Q E h=>?_) (fun cdv A outer s H vs Q E hr h=>?_)
 ·obtain⟨a,f,fp,S,x,ws,rfl,_⟩:=h;rfl
 ·obtain⟨a,fo,fp,S,x,ws,rfl,sh,th,hf,okw,k1,k2⟩:=h;refine⟨_,(zD (yI (z5 (OL (K:=K) hr.units) (zV (ix_tup:Cl _ (Ut K)) (y9 (pv 0) T.cls Qa hr.m yA (zA (pv 1) zC)) zI (fun _ _=>rfl)) (pv 2) (by with_unfolding_all rfl)) (zD (y7 rfl yR rfl T.NoName T.xNoName (zA pe_str zC))) zQ)),?_⟩
  obtain⟨g,dx,d1,d2,d3,ts,nx,efp,nd,h1,_⟩:=id sh;refine⟨_,rfl,a,dx,_,rfl,h1,rfl,_,rfl,a,_,S,.str x,.str x,rfl,sh,rfl,fun e he ex t ht=>?_,fun no=>?_⟩
  ·have ex:x=e.nm:=by injection ex
   obtain⟨t',ed,gt,_⟩:=th e he;rw[ed]at ht;obtain⟨c,r,ec,hc⟩:=vE ht;cases ec;have wd:=qR ed;have fe:=KA g he ws;rw[←ex,wd]at fe;refine⟨t,_,_,_,rfl,rfl,hc,IB _ _,_,rfl,.str t'.word,ws.map .str,rfl,⟨fo,_,rfl,hf,DtAll.strs ws⟩,(Ir ws okw).1,?_,(show 0<=60 by decide),!decide (t'.word∈ws),?_,?_⟩
   ·cases t'
    ·show Ep "leaf"=true;decide +kernel
    ·show Ep "tree"=true;decide +kernel
    ·show Ep "note"=true;decide +kernel
   ·rw[NJ];cases decide (t'.word∈ws)<;>rfl
   ·cases q:decide (t'.word∈ws) with
    |true=>rw[q]at fe;exact Uo (k1 fe)
    |false=>rw[q]at fe;exact Um ⟨Uv 1,k2 fe⟩
  ·have no:x∉S.map En.nm:=Jf no;exact k2 (CW no ws)
end AA
theorem TW:∀y∈(["leaf","tree"]:Da),Ep y=true:=fun y hy=>by
 rcases Zi.mp hy with rfl|hy
 ·decide +kernel
 ·rw[Q8.mp hy];decide +kernel
theorem ak:∀y∈(["tree"]:Da),Ep y=true:=fun y hy=>by
 rw[Q8.mp hy];decide +kernel
theorem WO:∀y∈(["note"]:Da),Ep y=true:=fun y hy=>by
 rw[Q8.mp hy];decide +kernel
namespace AB
abbrev st:Stmt:=inClass (top 59) 3
theorem sc:FnScope ["self","thing","row","parent"] ["self","thing"] (zG st):=Cp
theorem ok (F:Fun K "need_names" "Shelf.need_names" st f fd)(T:Txt P w K mg t1 t2 t3 t4 t5 t6 t7 aL aC aN aT aA b1 b2 b3)(Qn:MetX P w K mg base aC 5 "need_form" ["self","name","forms"] (Mv P w K aC aN)):FnOk P w K mg base (Cz P w) 6 f fd ["self","thing"] (My P w K aC aN):=by
 refine F.okX sc (fun vs H Q E h=>?_) (fun cdv A outer s H vs Q E hr h=>?_)
 ·obtain⟨a,fp,S,t,v,rfl,_⟩:=h;rfl
 ·obtain⟨a,fp,S,t,v,rfl,sh,th,hd,k1,k2⟩:=h;refine⟨_,(yT (yI (z5 qA (zV (ix_tup:Cl _ (Ut K)) (pv 1) zI (fun _ _=>rfl)) pe_str (zW _)) (zD (xN Ls rfl (j4 (zV (ix_tup:Cl _ (Ut K)) (pv 1) zI (fun _ _=>rfl))) (zU (i:=2) sc.nd rfl (EJ rfl)) (zD (yM (y9 (pv 0) T.cls Qn hr.m yA (zA (zV (ix_tup:Cl _ (Ut K)) (pv 2) zI (fun _ _=>rfl)) (zA (uM (zA pe_str (zA pe_str zC))) zC))))))) zQ) (zD (yI (z5 qA (zV (ix_tup:Cl _ (Ut K)) (pv 1) zI (fun _ _=>rfl)) pe_str (zW _)) (zE (yM (y9 (pv 0) T.cls Qn hr.m yA (zA (zV (ix_tup:Cl _ (Ut K)) (pv 1) zI (fun _ _=>rfl)) (zA (uM (zA pe_str zC)) zC)))) (zD (xN Ls rfl (j4 (zV (ix_tup:Cl _ (Ut K)) (pv 1) zI (fun _ _=>rfl))) (zU (i:=3) sc.nd rfl (EJ rfl)) (zD (yM (y9 (pv 0) T.cls Qn hr.m yA (zA (pv 3) (zA (uM (zA pe_str zC)) zC)))))))) zQ))),?_⟩
  obtain⟨g,dx,d1,d2,d3,ts,nx,efp,nd,h1,_⟩:=id sh;cases t with
  |leaf ls =>
   obtain⟨p,b,rfl,hs,hb⟩:=BH hd;refine⟨fun σ' H'=>σ'=[some (.ref a),some (.ref p),none,none]/\H'=H,⟨_,rfl,p,_,_,_,rfl,rfl,hs,rfl,rfl,false,congrArg V.bl (by decide +kernel),Uo (A:=False) ⟨rfl,rfl⟩⟩,?_⟩;rintro σ' H' ⟨rfl,rfl⟩;exact⟨_,rfl,p,_,_,_,rfl,rfl,hs,rfl,rfl,false,congrArg V.bl (by decide +kernel),Uo (A:=False) (k1 rfl _ (Same.refl _))⟩
  |tree rs =>
   obtain⟨p,b,rfl,hs,hb⟩:=BT hd;obtain⟨b',xs,e,hb1,hx⟩:=hb;cases e;have hxl:xs.length=rs.length:=by rw[hx.length,Q7]
   refine⟨fun σ' H'=>∃o,σ'=[some (.ref a),some (.ref p),o,none]/\Same H H'/\(rs.all fun r=>zT S r.2 ["leaf","tree"])=true,?_,?_⟩
   ·refine⟨_,rfl,p,_,_,_,rfl,rfl,hs,rfl,rfl,true,congrArg V.bl (Zf rfl),Um (B:=False) ?_⟩;refine⟨_,rfl,p,_,_,_,rfl,rfl,hs,rfl,b,rfl,⟨_,hb1⟩,XU (K:=K) (a:=b) (xs:=xs) (fun i σ H2=>∃o,σ=[some (.ref a),some (.ref p),o,none]/\Same H H2/\((rs.take i).all fun r=>zT S r.2 ["leaf","tree"])=true) ⟨none,rfl,Same.refl _,rfl⟩ (fun i σ H2 _ ⟨_,_,e,_⟩=>e.tupS hb1) ?_ ?_⟩
    ·rintro i x σ H2 hi ⟨o,rfl,s2,al⟩;obtain⟨r,c,er,rfl,hc⟩:=FK hx hi;refine⟨_,rfl,a,dx,_,rfl,s2 _ _ h1,rfl,_,rfl,c,_,_,_,rfl,rfl,s2.tupS hc,rfl,Uv 2,fun q nq=>?_⟩;have s3:=s2.trans (zF (o:=.tup [V.str "leaf",V.str "tree"]) nq);refine⟨a,q,fp,S,r.2,["leaf","tree"],rfl,sh.same s3,th,SqT.of zB,TW,fun ok=>⟨_,rfl,s3,?_⟩,fun no=>?_⟩
     ·rw[Yx,er,List.all_append,al];show(zT S r.2 ["leaf","tree"]&&true)=true;rw[ok];rfl
     ·refine k2 ?_ _ s3;show(rs.all fun r=>zT S r.2 ["leaf","tree"])=false;rw[List.all_eq_false];exact⟨r,Zm er,by rw[no];decide⟩
    ·rintro σ H2 ⟨o,rfl,s2,al⟩;rw[hxl,ZJ]at al;exact⟨o,rfl,s2,al⟩
   ·rintro σ' H' ⟨o,rfl,s2,al⟩;exact⟨_,rfl,p,_,_,_,rfl,rfl,s2.tupS hs,rfl,rfl,false,congrArg V.bl (by decide +kernel),Uo (A:=False) (k1 al _ s2)⟩
  |note x ps y =>
   obtain⟨p,b,rfl,hs,hb⟩:=BU hd;refine⟨fun σ' H'=>σ'=[some (.ref a),some (.ref p),none,none]/\H'=H,⟨_,rfl,p,_,_,_,rfl,rfl,hs,rfl,rfl,false,congrArg V.bl (by decide +kernel),Uo (A:=False) ⟨rfl,rfl⟩⟩,?_⟩;rintro σ' H' ⟨rfl,rfl⟩;refine⟨_,rfl,p,_,_,_,rfl,rfl,hs,rfl,rfl,true,congrArg V.bl (Zf rfl),Um (B:=False) ?_⟩;refine⟨_,rfl,a,dx,_,rfl,h1,rfl,_,rfl,p,_,_,_,rfl,rfl,hs,rfl,Uv 1,fun q nq=>?_⟩;have s3:=zF (o:=.tup [V.str "tree"]) nq;refine⟨a,q,fp,S,x,["tree"],rfl,sh.same s3,th,SqT.of zB,ak,fun ok=>?_,fun no=>k2 ?_ _ s3⟩
   ·show R7 _ _ (upd H' q (.tup [V.str "tree"]));generalize upd H' q (.tup [V.str "tree"])=G at s3;refine⟨_,rfl,p,_,_,_,rfl,rfl,s3.tupS hs,rfl,b,rfl,⟨_,s3.tupS hb⟩,XU (K:=K) (a:=b) (xs:=ps.map V.str) (fun i σ H2=>∃o,σ=[some (.ref a),some (.ref p),none,o]/\Same H' H2/\((ps.take i).all fun r=>zT S r ["note"])=true) ⟨none,rfl,s3,rfl⟩ (fun i σ H2 _ ⟨_,_,e,_⟩=>e.tupS hb) ?_ ?_⟩
    ·rintro i z σ H2 hi ⟨o,rfl,s2,al⟩;rw[Zp]at hi;cases er:ps[i]? with
     |none=>rw[er]at hi;cases hi
     |some r =>
      rw[er]at hi;have hi:V.str r=z:=Option.some.inj hi;subst hi;refine⟨_,rfl,a,dx,_,rfl,s2 _ _ h1,rfl,_,rfl,Uv 1,fun q2 nq2=>?_⟩;have s4:=s2.trans (zF (o:=.tup [V.str "note"]) nq2);refine⟨a,q2,fp,S,r,["note"],rfl,sh.same s4,th,SqT.of zB,WO,fun ok2=>⟨_,rfl,s4,?_⟩,fun no=>k2 ?_ _ s4⟩
      ·rw[Yx,er,List.all_append,al];show(zT S r ["note"]&&true)=true;rw[ok2];rfl
      ·show(zT S x ["tree"]&&ps.all fun p=>zT S p ["note"])=false;rw[ok,V1,List.all_eq_false];exact⟨r,Zm er,by rw[no];decide⟩
    ·rintro σ H2 ⟨o,rfl,s2,al⟩;rw[Q7,ZJ]at al;refine k1 ?_ _ s2;show(zT S x ["tree"]&&ps.all fun p=>zT S p ["note"])=true;rw[ok,al];rfl
   ·show(zT S x ["tree"]&&ps.all fun p=>zT S p ["note"])=false;rw[no];rfl
end AB
theorem z9:Raises X (fun _ _ _=>False):=by
 intro Dp σ H s e s' I hx;obtain⟨_,_,_,_,_,_,_,_,_,_,_,_,_,_,q⟩:=hx;exact q.elim
theorem Rb (g:GoodS S){e f:En}(he:e∈S)(hf:f∈S)(h:e.nm=f.nm):e=f:=by
 obtain⟨i,hi,ei⟩:=ZN.mp he;obtain⟨j,hj,ej⟩:=ZN.mp hf;have hp:=Jh.mp g.nn;have:i=j:=by
  rcases Vj i j with z|z|z
  ·exact absurd (by rwa[ZQ,ZQ,ei,ej]) (hp i j (by rwa[Q7]) (by rwa[Q7]) z)
  ·exact z
  ·exact absurd (by rw[ZQ,ZQ,ei,ej];exact h.symm) (hp j i (by rwa[Q7]) (by rwa[Q7]) z)
 subst this;rw[←ei,ej]
theorem F1:∀rs:Dg,yK (rs.map rowDat)=true
 |[]=>rfl
 |r::rs=>by
  show(vM (rowDat r)&&yK (rs.map rowDat))=true;rw[F1 rs];rfl
theorem RK (t:Th):vM t.dat=true:=by
 cases t with
 |leaf ls=>show(true&&(yK (ls.map .str)&&true))=true;rw[q9];rfl
 |tree rs=>show(true&&(yK (rs.map rowDat)&&true))=true;rw[F1];rfl
 |note x ps y=>show(true&&(true&&(yK (ps.map .str)&&(true&&true))))=true;rw[q9];rfl
theorem So {K:Cd}{t:Th}(h:Dw K H t.dat v):Dt K H t.dat v:=Dw.dt _ _ (XA _ (RK t)) h
namespace AC
abbrev st:Stmt:=inClass (top 59) 2
theorem sc:FnScope ["self","thing","head","number","name"] ["self","thing"] (zG st):=Cp
theorem ok (F:Fun K "put" "Shelf.put" st f fd)(T:Txt P w K mg t1 t2 t3 t4 t5 t6 t7 aL aC aN aT aA b1 b2 b3)(QQ:CalX P w K mg base 6 "need_thing" ["thing"] (Pk K aT))(QR:MetX P w K mg base aC 6 "need_names" ["self","thing"] (My P w K aC aN))
  (Ql:Cal P w K mg base 1 "letter_of" ["thing"] (Io K)) (QS:Cal P w K mg base 4 "digest" ["thing"] (FP K)) (Qo:Met P w K mg base aC 1 "take" ["self","name","thing"] (Kd P w K aC)):FnOk P w K mg base (Cz P w) 7 f fd ["self","thing"] (U3 P w K aC aN aT):=by
 refine F.okX sc (fun vs H Q E h=>?_) (fun cdv A outer s H vs Q E hr h=>?_)
 ·obtain⟨a,fp,S,d,v,rfl,_⟩:=h;rfl
 ·obtain⟨a,fp,S,d,v,rfl,sh,th,hd,sm,nar,tg,hl,hn,k1,k2,k3⟩:=h;have hu:=GN hr;refine⟨_,(zE (yM (yD QQ hr.m yA (zA (pv 1) zC))) (zE (yM (y9 (pv 0) T.cls QR hr.m yA (zA (pv 1) zC))) (zE (yI (z5 (SG hr.units) (pv 1) (j5 (pv 0) rfl) (by with_unfolding_all rfl)) (zD (zM (Rp hr.units (j5 (pv 0) rfl) (pv 1) (fun _ _=>rfl)))) zQ) (zE (Cr (i:=2) sc.nd (z8 yJ (zJ Ql hr.m (zA (pv 1) zC)) (yB jC (by rfl) T.str Z7 (zA (zJ QS hr.m (zA (pv 1) zC)) zC)))) (zE (Cr (i:=3) sc.nd (Ii hu (j5 (pv 0) rfl) (pv 2) zI ⟨rfl,rfl,rfl,rfl⟩)) (zE (Cr (i:=4) sc.nd (T6 (pv 2) (pv 3))) (zE (yM (X3 (pv 0) T.cls Qo hr.m (zA (pv 4) (zA (pv 1) zC)))) (zD (zM (pv 4)))))))))),?_⟩
  refine⟨_,rfl,d,v,rfl,hd,sm,nar,fun tb H1 s1=>?_,fun tb H1 s1=>k1 tb _ s1⟩;obtain⟨t,rfl,gt⟩:=tg tb;have hd:=So hd;obtain⟨tv,ev⟩:∃t,v=.ref t:=by
   obtain⟨c,r,e,_⟩:=vE hd;exact⟨c,e⟩
  subst ev;have sh1:=sh.same s1;have hd1:=Dt.same s1 _ _ hd;obtain⟨gS,dx,d1,d2,d3,ts,nx,efp,nd,h1,h2,h3,h4,h5,h6,h7,h8,h9⟩:=id sh1;refine⟨_,rfl,a,dx,_,rfl,h1,rfl,_,rfl,a,fp,S,t,.ref tv,rfl,sh1,th,hd1,fun nok H2 s2=>?_,fun no H2 s2=>k2 t rfl tb no _ (s1.trans s2)⟩;have k3:=k3 t rfl tb nok;have s12:=s1.trans s2;have sh2:=sh1.same s2;have hd2:=Dt.same s2 _ _ hd1;clear sh1 h2 h3 h4 h5 h6 h7 h8 h9 h1 hd1 efp nd;obtain⟨gS,dx,d1,d2,d3,ts,nx,efp,nd,h1,h2,h3,h4,h5,h6,h7,h8,h9⟩:=id sh2;have kt:=BC gt;refine⟨_,rfl,_,rfl,a,aC,dx,_,_,rfl,h1,T.cls,T.n2,rfl,tv,d2,_,t.dat,rfl,rfl,h5,kt,hd2,_,rfl,?_⟩;cases hv:Ur (S.map fun e=>(e.d,V.str e.nm)) t.dat with
  |some u =>
   obtain⟨p,hp,e⟩:=Zb.mp (j7 hv);obtain⟨en,hen,rfl⟩:=Zb.mp hp;have e:en.d=t.dat:=e;have hu':Ur (S.map fun e=>(e.d,V.str e.nm)) t.dat=some (V.str en.nm):=jN (by rw[ZB];exact gS.nd) (Zb.mpr ⟨en,hen,by rw[e]⟩);exact Um ⟨_,rfl,a,aC,dx,_,_,rfl,h1,T.cls,T.n2,rfl,_,rfl,tv,d2,_,t.dat,_,rfl,rfl,h5,kt,hd2,hu',k3 _ S en ⟨Off.of s12,sh2,hen,e,.inl rfl⟩⟩
  |none =>
   have hnd:t.dat∉S.map (·.d):=fun z=>by
    have:=X4 hv;rw[ZB]at this;exact this z
   refine Uo (A:=False) ?_;have db:=IM t.sp;have hnt:=hn (UB t);refine⟨_,rfl,.ref tv,t,rfl,hd2,_,rfl,.ref tv,t,rfl,hd2,gt,fun H3 s3=>⟨_,rfl,?_,_,_,rfl,rfl,?_,?_⟩⟩
   ·have hz:(dg t.sp).natAbs<97:=by omega
    rcases Je (dg t.sp).natAbs with z|z
    ·rw[z];decide
    ·have:(dg t.sp).natAbs.log2<7:=(Nat.log2_lt (by omega)).mpr (by omega);omega
   ·rw[OG];have h1:=Ft (n:=(dg t.sp).toNat) (by omega);have h2:=Gm t;exact le_line (by omega)
   rw[OG];show Bh 2 (V.str (UB t)) _ H3 _;have sh3:=sh2.same s3;have g1:=s3 _ _ h1;have g6:=s3 _ _ h6;refine⟨_,rfl,a,aC,dx,_,_,rfl,g1,T.cls,T.n3,rfl,d3,rfl,.inl ⟨_,.inl g6⟩,_,rfl,_,DGet.k (k:=(Er (UB t):Key)) g6,?_⟩;have em:(Ur nx (Er (UB t):Key)).getD (V.int 0)=V.int (((nextOf S (UB t)).getD 0:Nat):Int):=by
    rw[h8];cases nextOf S (UB t) with
    |none=>rfl
    |some m=>rfl
   rw[em];have dl:(".":Str).length=1:=by decide +kernel
   refine⟨_,rfl,_,rfl,by have:=kP t;omega,by rw[dl];decide,_,rfl,_,rfl,hnt,?_⟩;have enm:UB t++"."++UD ((nextOf S (UB t)).getD 0)=(GE S t).nm:=by unfold En.nm GE;rw[NZ]
   rw[enm];refine⟨_,rfl,a,dx,_,rfl,g1,rfl,_,rfl,_,rfl,a,fp,S,GE S t,tv,rfl,sh3,⟨kt,jS t,hnt,kP t⟩,Dt.same s3 _ _ hd2,hnd,OC gS (jS t),hl,fun H4 o4 sh4=>?_⟩;exact⟨_,rfl,k3 _ _ _ ⟨(Off.of (s12.trans s3)).trans o4,sh4,by simp,rfl,.inr ⟨rfl,rfl,hnd⟩⟩⟩
end AC
namespace AD
abbrev st:Stmt:=inClass (top 59) 0
theorem sc:FnScope ["self","base","name"] ["self","base"] (zG st):=Cp
theorem ok (F:Fun K "__init__" "Shelf.__init__" st f fd)(T:Txt P w K mg t1 t2 t3 t4 t5 t6 t7 aL aC aN aT aA b1 b2 b3)(Qp:Met P w K mg base aC 1 "names" ["self"] (BQ P w K aC))(Qo:Met P w K mg base aC 1 "take" ["self","name","thing"] (Kd P w K aC))
  (Qa:MetX P w K mg base aC 4 "thing" ["self","name"] (qF P w K aC aN)):FnOk P w K mg base Cm 5 f fd ["self","base"] (Pf P w K aC):=by
 refine F.ok sc (fun vs H Q E h=>?_) (fun cdv A outer s H vs Q E hr h=>?_)
 ·obtain⟨x,dx,b,S,rfl,_⟩:=h;rfl
 ·obtain⟨x,dx,b,S,rfl,hx,hdx,ne,hb,k⟩:=h;refine⟨_,(zE (HQ (pv 0) yO rfl) (zE (HQ (pv 0) OO rfl) (zE (HQ (pv 0) yO rfl) (zD (yI (z5 KW (pv 1) uQ (zW _)) (zD (xN ET rfl (kF (Fz (pv 1) T.cls Qp hr.m)) (zU (i:=2) sc.nd rfl (EJ rfl)) (zD (yM (X3 (pv 0) T.cls Qo hr.m (zA (pv 2) (zA (y9 (pv 1) T.cls Qa hr.m z9 (zA (pv 2) zC)) zC))))))) zQ))))),?_⟩
  refine fun d1 n1=>⟨_,rfl,x,aC,dx,_,rfl,(zF n1) _ _ hx,T.cls,T.n1,by decide,?_⟩;have x1:x≠d1:=zK hx n1;have dx1:dx≠d1:=zK hdx n1;refine fun d2 o2 n2 T2 e2=>?_;obtain⟨es,rfl⟩:=e2;have n2':d2≠x/\d2≠d1/\H d2=none:=by
   refine⟨fun z=>?_,fun z=>?_,?_⟩
   ·rw[z,zB]at n2;cases n2
   ·rw[z,zH (EA x1),zB]at n2;cases n2
   ·have a1:d2≠x:=fun z=>by rw[z,zB]at n2;cases n2
    have a2:d2≠d1:=fun z=>by rw[z,zH (EA x1),zB]at n2;cases n2
    rw[zH a1,zH a2]at n2;exact n2
  obtain⟨c2x,c21,c2n⟩:=n2';have dx2:dx≠d2:=zK hdx c2n;refine⟨_,rfl,x,aC,dx,[("thing_by_name",V.ref d1)],rfl,by rw[zH (EA c2x),zB];rfl,T.cls,T.n2,(show 1<1000 by decide),?_⟩;refine fun d3 n3=>?_;have n3':d3≠x/\d3≠d2/\d3≠d1/\H d3=none:=by
   have a1:d3≠x:=fun z=>by rw[z,zB]at n3;cases n3
   have a2:d3≠d2:=fun z=>by rw[z,zH c2x,zB]at n3;cases n3
   have a3:d3≠d1:=fun z=>by rw[z,zH (EA x1),zH (EA c21),zH (EA x1),zB]at n3;cases n3
   refine⟨a1,a2,a3,?_⟩;rw[zH a1,zH a2,zH a1,zH a3]at n3;exact n3
  obtain⟨c3x,c32,c31,c3n⟩:=n3';have dx3:dx≠d3:=zK hdx c3n;refine⟨_,rfl,x,aC,dx,[("thing_by_name",V.ref d1),("name_by_thing",V.ref d2)],rfl,by rw[zH (EA c3x),zB];rfl,T.cls,T.n3,(show 2<1000 by decide),?_⟩;obtain⟨H4,e4⟩:∃H4,H4=upd (upd (upd (upd (upd (upd H d1 (.dK [])) x (.ins aC dx (Us "thing_by_name" (V.ref d1) []))) d2 (Gn d2 es)) x (.ins aC dx (Us "name_by_thing" (V.ref d2) [("thing_by_name",V.ref d1)]))) d3 (.dK [])) x (.ins aC dx (Us "next_numbers" (V.ref d3) [("thing_by_name",V.ref d1),("name_by_thing",V.ref d2)])):=⟨_,rfl⟩;have q0:H4 x=some (.ins aC dx (N4 d1 d2 d3)):=by rw[e4,zB];rfl
  have q1:H4 d1=some (.dK []):=by rw[e4,zH (EA x1),zH (EA c31),zH (EA x1),zH (EA c21),zH (EA x1),zB]
  have q2:H4 d2=some (Gn d2 es):=by rw[e4,zH c2x,zH (EA c32),zH c2x,zB]
  have q3:H4 d3=some (.dK []):=by rw[e4,zH c3x,zB]
  have qx:H4 dx=some (.own x):=by rwa[e4,zH ne,zH dx3,zH ne,zH dx2,zH ne,zH dx1]
  have of4:Off [x] H H4:=fun c o hc e=>by
   have cx:c≠x:=fun z=>hc (by rw[z];exact Zc);rwa[e4,zH cx,zH (zK e c3n),zH cx,zH (zK e c2n),zH cx,zH (zK e n1)]
  have fpn:∀c∈[x,dx,d1,d2,d3],c=x\/c=dx\/H c=none:=fun c hc=>by
   simp only[Zi,Yd,VR]at hc
   rcases hc with rfl|rfl|rfl|rfl|rfl
   ·exact .inl rfl
   ·exact .inr (.inl rfl)
   ·exact .inr (.inr n1)
   ·exact .inr (.inr c2n)
   ·exact .inr (.inr c3n)
  have sh4:ShAt P w K aC H4 x [x,dx,d1,d2,d3] []:=by
   obtain⟨_,_,_,xs,exs,r⟩:=T2;cases r;rw[zB]at exs;have q2':H4 d2=some (Gn d2 (List.map (LW (yQ P w)) [])):=q2.trans exs;exact⟨GoodS.nil,dx,d1,d2,d3,[],[],rfl,by simp[EA ne,x1,EA c2x,EA c3x,dx1,dx2,dx3,EA c21,EA c31,EA c32],q0,qx,rfl,q1,⟨ZT _,fun _ z=>(nomatch z),Yy,[],q2',.nil⟩,q3,ZT _,fun h=>rfl,fun i e t z=>by cases z⟩
  rw[←e4];clear e4
  rcases hb with⟨rfl,rfl⟩|⟨a,fp0,rfl,sh0,x0,dx0,Sl⟩
  ·exact⟨_,rfl,rfl,false,congrArg V.bl (by rw[Zf rfl];rfl),Uo (A:=False) (k _ _ fpn of4 sh4)⟩
  ·refine⟨_,rfl,rfl,true,congrArg V.bl (by rw[Zr (fun z=>by cases z)];rfl),Um (B:=False) ?_⟩;have dj:∀c∈fp0,c∉[x,dx,d1,d2,d3]:=fun c hc z=>by
    obtain⟨o,eo,_⟩:=sh0.noseq c hc
    rcases fpn c z with rfl|rfl|q
    ·exact x0 hc
    ·exact dx0 hc
    ·rw[eo]at q;cases q
   have sh04:ShAt P w K aC H4 a fp0 S:=sh0.off (gp:=[x]) (fun b hb xs z=>by
    rw[Q8.mp hb]at z
    rcases z with z|⟨u,z⟩
    ·rw[hx]at z;cases z
    ·rw[hx]at z;cases z) of4 (fun c hc z=>x0 (by rwa[←Q8.mp z]))
   obtain⟨gS,dy,e1,e2,e3,ts,nx,efp,nd,h1,h2,h3,h4,h5,h6,h7,h8,h9⟩:=id sh04;refine⟨_,rfl,a,dy,_,rfl,h1,rfl,a,fp0,S,rfl,sh04,fun l nl=>?_⟩;have ul:=zF (o:=.lst (S.map fun e=>V.str e.nm)) nl;have hl5:upd H4 l (.lst (S.map fun e=>V.str e.nm)) l=some (.lst (S.map fun e=>V.str e.nm)):=zB;have sh5:=sh4.same ul;have sh05:=sh04.same ul;have lfp:l∉[x,dx,d1,d2,d3]:=fun z=>by
    obtain⟨o,eo,_⟩:=sh4.noseq l z;rw[eo]at nl;cases nl
   have of5:Off [x] H (upd H4 l (.lst (S.map fun e=>V.str e.nm))):=of4.trans (Off.of ul);refine⟨l,rfl,⟨_,SqL.of hl5⟩,?_⟩;generalize upd H4 l (.lst (S.map fun e=>V.str e.nm))=H5 at ul hl5 sh5 sh05 of5;have ns5:=sh5.noseq.tup;refine X5 (K:=K) (a:=l) (xs:=S.map fun e=>V.str e.nm) (fun i σ H6=>∃o,σ=[some (.ref x),some (.ref a),o]/\Off [x,dx,d1,d2,d3] H5 H6/\ShAt P w K aC H6 x [x,dx,d1,d2,d3] (S.take i)) ⟨none,rfl,Off.refl _ _,sh5⟩ (fun i σ H6 hi ⟨_,_,o6,_⟩=>SqL.of (o6 _ _ lfp hl5)) ?_ ?_
   ·rintro i v σ H6 hv ⟨o,rfl,o6,sh6⟩;rw[Zp]at hv;cases q:S[i]? with
    |none=>rw[q]at hv;cases hv
    |some e =>
     rw[q]at hv;have hv:V.str e.nm=v:=Option.some.inj hv;subst hv;have he:=Zm q;have sh06:=sh05.off ns5 o6 dj;obtain⟨_,dy',_,_,_,_,_,_,_,k1,_⟩:=id sh06;obtain⟨_,dz',_,_,_,_,_,_,_,z1,_⟩:=id sh6;refine⟨_,rfl,x,dz',_,rfl,z1,rfl,_,rfl,_,rfl,a,dy',_,rfl,k1,rfl,_,rfl,a,fp0,S,.str e.nm,.str e.nm,rfl,sh06,rfl,fun e2 he2 ex t ht=>?_,fun no=>(Jf no (Zb.mpr ⟨e,he,rfl⟩))⟩;cases Rb gS he he2 (by injection ex);refine⟨x,_,S.take i,e,t,rfl,sh6,gS.ent e he,ht,?_,?_,by rw[ZD];omega,fun H7 o7 sh7=>?_⟩
     ·rw[J0];exact IE gS.nd (by rw[Zp,q];rfl)
     ·rw[J0];exact IE gS.nn (by rw[Zp,q];rfl)
     ·refine⟨_,rfl,o6.trans o7,?_⟩;rwa[Yx,q]
   ·rintro σ H6 ⟨o,rfl,o6,sh6⟩;rw[Q7,ZJ]at sh6;refine k _ _ fpn (fun c u hc e=>?_) sh6;have e5:=of5 c u hc e
    by_cases z:c∈[x,dx,d1,d2,d3]
    ·rcases fpn c z with q|q|q
     ·exact absurd (by rw[q];exact Zc) hc
     ·subst q;obtain⟨_,dz',y1,y2,y3,_,_,efp',_,_,z2,_⟩:=id sh6;injection efp' with w1 w2;injection w2 with w2 w3;subst w2;rw[hdx]at e;cases e;exact z2
     ·rw[e]at q;cases q
    ·exact o6 c u z e5
end AD
end
end An09
namespace An
open PySem L2 AnJ
theorem qK (h:Uz ls):UJ (tupS ls)=true:=(BC (XQ h)).1 |> fun z=>by
 have z:(UJ (.str "leaf")&&(UJ (tupS ls)&&true))=true:=z;rw[Zk,Zk]at z;exact z.2.1
structure FsAt (K:Cd)(H:Hp)(fs:Dk)(Dm:Dl):Prop where
 keys:Dm.map (·.1)=fs.map fun f=>(.inr (Cc f.1):Key)
 val:∀(i:Nat) (f:Fi) (kv:Key×V),fs[i]?=some f->Dm[i]?=some kv->Dt K H (tupS f.2) kv.2/\Uz f.2
section
variable {K:Cd}{H H':Hp}{fs:Dk}{Dm:Dl}
theorem FsAt.nil:FsAt K H [] []:=⟨rfl,fun i f kv h=>(nomatch h)⟩
theorem FsAt.len (h:FsAt K H fs Dm):Dm.length=fs.length:=by
 have:=congrArg List.length h.keys;rw[Q7,Q7]at this;exact this
theorem FsAt.same (h:FsAt K H fs Dm)(e:Same H H'):FsAt K H' fs Dm:=⟨h.keys,fun i f kv a b=>⟨Dt.same e _ _ (h.val i f kv a b).1,(h.val i f kv a b).2⟩⟩
theorem FsAt.off {X:Dd}(h:FsAt K H fs Dm)(n:∀b∈X,∀xs,¬Rd H b (.tup xs))(o:Off X H H'):FsAt K H' fs Dm:=⟨h.keys,fun i f kv a b=>⟨Dt.off n o _ _ (qK (h.val i f kv a b).2) (h.val i f kv a b).1,(h.val i f kv a b).2⟩⟩
theorem FsAt.get (h:FsAt K H fs Dm){i:Nat}{k:Key}{v:V}(e:Dm[i]?=some (k,v)):∃f,fs[i]?=some f/\k=.inr (Cc f.1)/\Dt K H (tupS f.2) v/\Uz f.2:=by
 have hl:=(Zu.mp e).1;have hf:=Zn (l:=fs) (i:=i) (by rwa[←h.len]);have ek:=congrArg (fun l=>l[i]?) h.keys;simp only[Zp,e,hf,Yt]at ek;obtain⟨a,b⟩:=h.val i _ _ hf e;exact⟨_,hf,Option.some.inj ek,a,b⟩
theorem FsAt.snoc (h:FsAt K H fs Dm){f:Fi}{v:V}(hv:Dt K H (tupS f.2) v)(hl:Uz f.2):FsAt K H (fs++[f]) (Dm++[(.inr (Cc f.1),v)]):=by
 refine⟨by rw[Zl,Zl,h.keys];rfl,fun i g kv a b=>?_⟩
 by_cases z:i<fs.length
 ·rw[ZR z]at a;rw[ZR (by rwa[h.len])]at b;exact h.val i g kv a b
 ·rw[ZU (by omega)]at a;rw[ZU (by rw[h.len];omega)]at b;have z0:i-fs.length=0:=by
   rcases Je (i-fs.length) with q|q
   ·exact q
   ·rw[List.getElem?_eq_none_iff.mpr (by show 1<=_;omega)]at a;cases a
  rw[z0]at a;rw[h.len,z0]at b;cases a;cases b;exact⟨hv,hl⟩
end
theorem x4 {d:Nat}{a b:Da}(ha:a≠[])(hb:b≠[])(la:∀l∈a,zN l=true)(lb:∀l∈b,zN l=true)(e:Cc a=Cc b):a=b:=by
 have h1:=jD ha fun y hy=>xP (la y hy);have h2:=jD hb fun y hy=>xP (lb y hy);unfold Cc at e;rw[←h1,←h2,e]
def Cq (Do:Dg):Dl:=Do.map fun p=>((.inr p.1:Key),V.str p.2)
theorem FI (Do:Dg):(Cq Do).map (·.1)=Do.map fun p=>(.inr p.1:Key):=by unfold Cq;rw[ZB];rfl
theorem BK {Do:Dg}{l n:Str}(h:l∉Do.map (·.1)):putK (Cq Do) (.inr l) (.str n)=Cq (Do++[(l,n)]):=by
 rw[qQ]
 ·unfold Cq;rw[Zl];rfl
 ·rw[FI];intro z;obtain⟨p,hp,e⟩:=Zb.mp z;cases e;exact h (Zb.mpr ⟨p,hp,rfl⟩)
def Cs (fa:List (Str×Eh)):Dl:=fa.map fun p=>((.inr p.1:Key),V.ref p.2)
theorem CQ (fa:List (Str×Eh)):(Cs fa).map (·.1)=fa.map fun p=>(.inr p.1:Key):=by unfold Cs;rw[ZB];rfl
theorem Sr {fa:List (Str×Eh)}(nd:(fa.map (·.1)).Nodup):((Cs fa).map (·.1)).Nodup:=by
 rw[CQ];have:(fa.map fun p=>(.inr p.1:Key))=(fa.map (·.1)).map Sum.inr:=by rw[ZB];rfl
 rw[this];exact List.Pairwise.map _ (fun a b n e=>by cases e;exact n rfl) nd
theorem uA {fa:List (Str×Eh)}(nd:(fa.map (·.1)).Nodup){p:Str×Eh}(h:p∈fa):Ur (Cs fa) (.inr p.1)=some (.ref p.2):=jN (Sr nd) (Zb.mpr ⟨p,h,rfl⟩)
theorem N3 {fa:List (Str×Eh)}{l:Str}(h:l∉fa.map (·.1)):Ur (Cs fa) (.inr l)=none:=by
 cases e:Ur (Cs fa) (.inr l) with
 |none=>rfl
 |some v =>
  have:=j7 e;rw[CQ]at this;obtain⟨p,hp,z⟩:=Zb.mp this;cases z;exact absurd (Zb.mpr ⟨p,hp,rfl⟩) h
theorem CS {fa:List (Str×Eh)}{l:Str}{b:Eh}(h:l∉fa.map (·.1)):putK (Cs fa) (.inr l) (.ref b)=Cs (fa++[(l,b)]):=by
 rw[OZ _ (N3 h)];unfold Cs;rw[Zl];rfl
theorem CT {fa:List (Str×Eh)}(nd:(fa.map (·.1)).Nodup){p:Str×Eh}(h:p∈fa):putK (Cs fa) (.inr p.1) (.ref p.2)=Cs fa:=by
 unfold putK;rw[Zy (by rw[qM,uA nd h];rfl)];unfold Cs;rw[ZB];refine ZS fun q hq=>?_;show(if(.inr q.1:Key)=.inr p.1 then((.inr q.1:Key),V.ref p.2) else(.inr q.1,V.ref q.2))=(.inr q.1,V.ref q.2)
 split
 ·rename_i e;have e:q.1=p.1:=Sum.inr.inj e;have:V.ref q.2=V.ref p.2:=by
   have h1:=uA nd hq;rw[e,uA nd h]at h1;exact(Option.some.inj h1).symm
  rw[this]
 ·rfl
structure Fols (K:Cd)(H1 H:Hp)(fs:Dk)(fa:List (Str×Eh)):Prop where
 lab:fa.map (·.1)=Cn fs
 nd:(fa.map (·.2)).Nodup
 new:∀p∈fa,H1 p.2=none
 at_:∀p∈fa,∃Dm,H p.2=some (.dK Dm)/\FsAt K H (sub fs p.1) Dm
section
variable {K:Cd}{H1 H H':Hp}{fs:Dk}{fa:List (Str×Eh)}
theorem Fols.nil:Fols K H1 H [] []:=⟨rfl,Yy,fun p h=>(nomatch h),fun p h=>(nomatch h)⟩
theorem Fols.off {X:Dd}(h:Fols K H1 H fs fa)(ex:∀c∈X,∃o,H1 c=some o)(n:∀b∈X,∀xs,¬Rd H b (.tup xs))(o:Off X H H'):Fols K H1 H' fs fa:=⟨h.lab,h.nd,h.new,fun p hp=>by
 obtain⟨Dm,a,b⟩:=h.at_ p hp;refine⟨Dm,o _ _ (fun z=>?_) a,b.off n o⟩;obtain⟨q,e⟩:=ex _ z;rw[h.new p hp]at e;cases e⟩
theorem Fols.same (h:Fols K H1 H fs fa)(e:Same H H'):Fols K H1 H' fs fa:=⟨h.lab,h.nd,h.new,fun p hp=>by
 obtain⟨Dm,a,b⟩:=h.at_ p hp;exact⟨Dm,e _ _ a,b.same e⟩⟩
theorem Fols.one (h:Fols K H1 H fs fa){f:Fi}{a:Str}(e:f.1=[a]):Fols K H1 H (fs++[f]) fa:=⟨by rw[jT,e];exact h.lab,h.nd,h.new,fun p hp=>by
 rw[sub_snoc,FV e];show∃Dm,_/\FsAt K H (sub fs p.1++[]) Dm;rw[Zs];exact h.at_ p hp⟩
theorem Fols.labs_nd (h:Fols K H1 H fs fa):(fa.map (·.1)).Nodup:=by rw[h.lab];exact(xI fs).1
theorem zY {c:Eh}:Off [c] H (upd H c o):=(Off.refl _ _).upd (Q8.mpr rfl)
theorem zO {c:Eh}{Dm:Dl}(h:H c=some (.dK Dm)):∀b∈[c],∀xs,¬Rd H b (.tup xs):=fun b hb xs=>by
 rw[Q8.mp hb];exact IS h (fun _ z=>(nomatch z)) (fun _ _ z=>(nomatch z)) xs
theorem Fols.old (h:Fols K H1 H fs fa){p:Str×Eh}(hp:p∈fa){Dm:Dl}(hk:H p.2=some (.dK Dm))(hf:FsAt K H (sub fs p.1) Dm){f:Fi}{b:Str}{r:Da}(e:f.1=p.1::b::r){v:V}(hv:Dt K H (tupS f.2) v)(hl:Uz f.2) :
  Fols K H1 (upd H p.2 (.dK (Dm++[(.inr (Cc (b::r)),v)]))) (fs++[f]) fa:=by
 have nt:=zO hk;have o:Off [p.2] H (upd H p.2 (.dK (Dm++[((.inr (Cc (b::r)):Key),v)]))):=zY;have inl:p.1∈Cn fs:=by rw[←h.lab];exact Zb.mpr ⟨p,hp,rfl⟩
 refine⟨?_,h.nd,h.new,fun q hq=>?_⟩
 ·rw[jT,e];show _=qE (Cn fs) p.1;unfold qE;rw[Zy inl];exact h.lab
 ·rw[sub_snoc,uZ e]
  by_cases z:p.1=q.1
  ·rw[Zy z];have eq:p.2=q.2:=by
    have h1:=uA h.labs_nd hq;rw[←z,uA h.labs_nd hp]at h1;injection (Option.some.inj h1)
   refine⟨_,by rw[←eq];exact zB,?_⟩;rw[←z];exact(hf.off nt o).snoc (f:=(b::r,f.2)) (Dt.off nt o _ _ (qK hl) hv) hl
  ·rw[ZA z];obtain⟨kq,a1,a2⟩:=h.at_ q hq;have ne:q.2≠p.2:=fun y=>by
    obtain⟨i,hi,ei⟩:=ZN.mp hp;obtain⟨j,hj,ej⟩:=ZN.mp hq;have:=(YX (h₀:=by simpa using hi) (h₁:=by simpa using hj) h.nd).mp (by rw[ZQ,ZQ,ei,ej];exact y.symm);subst this;rw[ei]at ej;exact z (by rw[ej])
   refine⟨kq,by rw[zH ne];exact a1,?_⟩;show FsAt K _ (sub fs q.1++[]) kq;rw[Zs];exact a2.off nt o
theorem Fols.fresh' (h:Fols K H1 H fs fa){l b:Str}{r:Da}(nl:l∉Cn fs){c:Eh}(hc:H c=some (.dK []))(n1:H1 c=none)(nf:∀p∈fa,p.2≠c){f:Fi}(e:f.1=l::b::r){v:V}(hv:Dt K H (tupS f.2) v)(hl:Uz f.2) :
  Fols K H1 (upd H c (.dK [(.inr (Cc (b::r)),v)])) (fs++[f]) (fa++[(l,c)]):=by
 have nt:=zO hc;have o:Off [c] H (upd H c (.dK [((.inr (Cc (b::r)):Key),v)])):=zY;have s0:sub fs l=[]:=Jw.mpr fun k hk=>by
  obtain⟨h0,hf⟩:=mem_sub.mp hk;refine nl (((xI fs).2 l).mpr ⟨_,hf,?_⟩);cases q:k.1 with
  |nil=>exact absurd q h0
  |cons b r=>exact⟨b,r,rfl⟩
 refine⟨?_,?_,fun p hp=>?_,fun p hp=>?_⟩
 ·rw[jT,e,Zl,h.lab];show _=qE (Cn fs) l;unfold qE;rw[ZA nl];rfl
 ·rw[Zl];refine kA h.nd fun z=>?_;obtain⟨p,hp,ep⟩:=Zb.mp z;exact nf p hp ep
 ·rcases Zt.mp hp with z|z
  ·exact h.new p z
  ·rwa[Q8.mp z]
 ·rw[sub_snoc,uZ e]
  rcases Zt.mp hp with z|z
  ·have ne:l≠p.1:=fun y=>nl (by rw[y,←h.lab];exact Zb.mpr ⟨p,z,rfl⟩);rw[ZA ne];obtain⟨Dm,a,b⟩:=h.at_ p z;refine⟨Dm,by rw[zH (nf p z)];exact a,?_⟩;show FsAt K _ (sub fs p.1++[]) Dm;rw[Zs];exact b.off nt o
  ·rw[Q8.mp z,Zy rfl,s0];exact⟨_,zB,FsAt.snoc (fs:=[]) FsAt.nil (f:=(b::r,f.2)) (Dt.off nt o _ _ (qK hl) hv) hl⟩
end
end An
namespace An09
open PySem L2 An
seal L2.PS L2.PSs L2.PE L2.PT L2.PW L2.PA L2.PG L2.PGs L2.PI L2.PFi L2.PC
def Kc (K:Cd):Sp:=fun vs H Q _=>∃(d:Eo) (v:V),vs=[v]/\Dw K H d v/\small d=true/\∀H',Same H H'->Q (.bl (UV d)) H'
def vB (K:Cd)(aP:Eh):Sp:=fun vs H Q E=>∃(d:Eo) (v:V),vs=[v]/\Dw K H d v/\small d=true/\(∀x,d=.str x->UX x=true->∀p H',Same H H'->SqL K H' p ((labs x).map V.str)->Q (.ref p) H')/\(UV d=false->∀H',Same H H'->E (.ref aP) none H')
def Ka (K:Cd):Sp:=fun vs H Q _=>∃x:Str,vs=[.str x]/\x.length<=1000/\∀p H',Same H H'->SqL K H' p ((XJ x).map V.str)->Q (.ref p) H'
def Pc (K:Cd):Sp:=fun vs H Q _=>∃(d e:Eo) (v u:V),vs=[v,u]/\Dw K H d v/\Dw K H e u/\small d=true/\small e=true/\∀H',Same H H'->Q (.bl (UV d&&vJ e)) H'
theorem O9:[V.str "/"]=[V.str ⟨#[47]⟩]:=by rw[Xc];rfl
theorem Hy (x:Str):PySem.Txt.split x ⟨#[47]⟩=labs x:=by unfold labs;rw[Xc];rfl
theorem line_parts:UU x=true↔x.length<=20/\(cs x).all UE=true:=by
 unfold UU;rw[Zk,ZM]
theorem label_parts:zN x=true↔1<=x.length/\x.length<=8/\(cs x).all UG=true:=by
 unfold zN;rw[Zk,Zk,ZM,ZM,and_assoc]
def B3 (t:Th):Prop:=t.Good/\kT t.dat=true/\small t.dat=true/\narrow t.dat
theorem XS (h:UU x=true):Ok 1000 x:=by
 obtain⟨h1,h2⟩:=line_parts.mp h;refine⟨by omega,?_⟩;rw[xM];intro c hc;have:=ZI.mp h2 c hc;unfold UE at this;simp only[Zk,ZM]at this;omega
theorem Fb (h:zN x=true):Ok 1000 x:=⟨by have:=(label_parts.mp h).2.1;omega,G7 h⟩
theorem jY:∀{ls:Da},(∀l∈ls,l.length<=1000)->yF (ls.map .str)=true
 |[],_=>rfl
 |l::ls,h=>by
  show(decide (l.length<=1000)&&yF (ls.map .str))=true;rw[Zf (h l Zc),jY fun x hx=>h x (Za _ hx)];rfl
theorem Gq:∀{rs:Dg},(∀r∈rs,r.1.length<=1000/\r.2.length<=1000)->yF (rs.map rowDat)=true
 |[],_=>rfl
 |r::rs,h=>by
  obtain⟨h1,h2⟩:=h r Zc;show((decide (2<=1000)&&(decide (r.1.length<=1000)&&(decide (r.2.length<=1000)&&true)))&&yF (rs.map rowDat))=true;rw[Zf h1,Zf h2,Gq fun x hx=>h x (Za _ hx)];rfl
theorem Be {ls:Da}(h:∀l∈ls,UU l=true)(hl:ls.length<=63):B3 (.leaf ls):=by
 have h1:∀l∈ls,l.length<=1000:=fun l hl=>(XS (h l hl)).len;refine⟨⟨by show ls.length<=1000;omega,fun p hp=>XS (h p hp)⟩,?_,?_,fun ds e=>?_⟩
 ·show((decide (("leaf":Str)="leaf")&&(decide (1=1)&&((ls.map Le).all UQ)))||_)=true;have:(ls.map Le).all UQ=true:=by rwa[List.all_map,ZI]
  rw[this,Zf rfl];rfl
 ·show(decide (2<=1000)&&(decide (("leaf":Str).length<=1000)&&((decide ((ls.map Le).length<=1000)&&yF (ls.map .str))&&true)))=true;rw[jY h1,Q7,Zf (show ls.length<=1000 by omega),Zf (show("leaf":Str).length<=1000 by decide +kernel)];rfl
 ·have e:[Le "leaf",.tuple (ls.map .str)]=ds:=by injection e
  subst e;refine⟨by show 2<=63;decide,fun e he es ee=>?_⟩
  rcases Zi.mp he with q|q
  ·rw[q]at ee;cases ee
  ·rw[Q8.mp q]at ee;cases ee;rwa[Q7]
theorem M5 {rs:Dg}(h:∀r∈rs,zN r.1=true/\Ok 1000 r.2)(hr:U1 (rs.map (·.1))=true)(hl:rs.length<=63):B3 (.tree rs):=by
 have fl:∀rs:Dg,(∀r∈rs,zN r.1=true/\Ok 1000 r.2)->∀p∈z7 rs,Ok 1000 p:=by
  intro rs
  induction rs with
  |nil=>intro _ p hp;cases hp
  |cons r rs ih =>
   intro h p hp
   rcases Zi.mp hp with q|hp
   ·rw[q];exact Fb (h r Zc).1
   ·rcases Zi.mp hp with q|hp
    ·rw[q];exact(h r Zc).2
    ·exact ih (fun x hx=>h x (Za _ hx)) p hp
 refine⟨⟨?_,fl rs h⟩,?_,?_,fun ds e=>?_⟩
 ·show(z7 rs).length<=1000;rw[Ao.flat_len];omega
 ·show((decide (("tree":Str)="leaf")&&(decide (1=1)&&vJ (.tuple (rs.map rowDat))))||((decide (("tree":Str)="tree")&&(decide (1=1)&&((rs.map rowDat).all UY&&U1 ((rs.map rowDat).map UM))))||_))=true;have e1:(rs.map rowDat).all UY=true:=by
   rw[List.all_map,ZI];intro r hr;show(zN r.1&&true)=true;rw[(h r hr).1];rfl
  have e2:(rs.map rowDat).map UM=rs.map (·.1):=by rw[ZB];rfl
  rw[e1,e2,hr,Zr (show¬("tree":Str)="leaf" by decide +kernel),Zf (show("tree":Str)="tree" from rfl)];rfl
 ·show(decide (2<=1000)&&(decide (("tree":Str).length<=1000)&&((decide ((rs.map rowDat).length<=1000)&&yF (rs.map rowDat))&&true)))=true;rw[Gq fun r hr=>⟨(Fb (h r hr).1).len,(h r hr).2.len⟩,Q7,Zf (show rs.length<=1000 by omega),Zf (show("tree":Str).length<=1000 by decide +kernel)];rfl
 ·have e:[Le "tree",.tuple (rs.map rowDat)]=ds:=by injection e
  subst e;refine⟨by show 2<=63;decide,fun e he es ee=>?_⟩
  rcases Zi.mp he with q|q
  ·rw[q]at ee;cases ee
  ·rw[Q8.mp q]at ee;cases ee;rwa[Q7]
theorem Rz {l:Da}(h:l.Pairwise Cy):U1 l=true:=rise_iff.mpr ⟨h.imp fun{a b} z q=>List.lt_asymm z q,ZF.mpr (h.imp fun{a b} z=>vX z)⟩
theorem PX (h:zT S x ws=true):x∈S.map En.nm:=by
 unfold zT at h;obtain⟨e,he,q⟩:=ZY.mp h;rw[Zk,ZM]at q;exact Zb.mpr ⟨e,he,q.1⟩
theorem MW {ls:Da}(h:At S x (.leaf ls)):zT S x ["leaf","tree"]=true:=by
 obtain⟨e,he,rfl,hd⟩:=h;refine ZY.mpr ⟨e,he,?_⟩;rw[Zk,Zv,Zv,qR hd];exact⟨rfl,Zc ..⟩
theorem MX {Do:Dg}(h:At S x (.tree Do)):zT S x ["leaf","tree"]=true:=by
 obtain⟨e,he,rfl,hd⟩:=h;refine ZY.mpr ⟨e,he,?_⟩;rw[Zk,Zv,Zv,qR hd];exact⟨rfl,Za _ (Zc ..)⟩
theorem KB (h:Tree d S x):zT S x ["leaf","tree"]=true:=by
 cases d with
 |zero=>exact absurd h (fun z=>z)
 |succ d =>
  rcases h with⟨ls,h⟩|⟨Do,h,_⟩
  ·exact MW h
  ·exact MX h
theorem O0 {K:Cd}{aN aT:Eh}{Q:VK}{E:XK}(sh:ShAt P w K C H a fp S)(ok:OkS S)(g:B3 t)(nok:namesOk S t=true)(l:S.length<2000)(hv:Dt K H t.dat v)
  (k:∀H2,Off fp H H2->ShAt P w K C H2 a fp (Ch S t).1->Q (.str (Ch S t).2) H2):U3 P w K C aN aT [.ref a,v] H Q E:=by
 refine⟨a,fp,S,t.dat,v,rfl,sh,ok.th,Dt.dw hv,g.2.2.1,g.2.2.2,fun _=>⟨t,rfl,g.1⟩,l,fun h=>by have:=KP ok.num h;omega,fun z=>?_,fun t' e _ no=>?_,fun t' e _ _ H2 S' e2 pr=>?_⟩
 ·rw[g.2.1]at z;cases z
 ·have:=X1 e;subst this;rw[nok]at no;cases no
 ·have:=X1 e;subst this;obtain⟨of,sh2,he2,ed,q⟩:=pr
  rcases q with q|⟨q,q2,q3⟩
  ·rw[q]at he2 sh2;have pe:=K3 ok (x:=e2.nm) ⟨e2,he2,rfl,ed⟩;rw[pe]at k;exact k H2 of sh2
  ·have pe:=FC (S:=S) (t:=t) fun e he hd=>q3 (Zb.mpr ⟨e,he,hd⟩);rw[pe]at k;rw[q2]at q;rw[q]at sh2;rw[q2];exact k H2 of sh2
def xJ (P:Ei)(w:Em)(K:Cd)(C:Eh):Sp:=fun vs H Q _=>∃(a d:Eh) (fp:Dd) (S:Di) (Do:Dg),vs=[.ref a,.ref d]/\ShAt P w K C H a fp S/\OkS S/\Rd H d (.dK (Cq Do))/\(Do.map (·.1)).Nodup/\(∀r∈Do,zN r.1=true/\zT S r.2 ["leaf","tree"]=true)/\Do.length<=63/\S.length<2000 /\
 ∀H',Off fp H H'->ShAt P w K C H' a fp (Ch S (.tree (Uq Do))).1->Q (.str (Ch S (.tree (Uq Do))).2) H'
section
variable {P:Ei}{w:Em}{K:Cd}{mg:Str->Dc}{base:Ez}{t1 t2 t3 t4 t5 t6 t7:Tok}{aL aC aN aT aA b1 b2 b3:Eh}
theorem uN (h:ShAt P w K C H a fp S):∃dx d1 d2 d3,H a=some (.ins C dx (N4 d1 d2 d3)):=by
 obtain⟨_,dx,d1,d2,d3,_,_,_,_,h1,_⟩:=h;exact⟨dx,d1,d2,d3,h1⟩
namespace AE
abbrev st:Stmt:=top 35
theorem sc:FnScope ["thing","labels"] ["thing"] (zG st):=Cp
theorem ok (F:Fun K "is_path" "is_path" st f fd)(T:Txt P w K mg t1 t2 t3 t4 t5 t6 t7 aL aC aN aT aA b1 b2 b3)(Qk:Cal P w K mg base 1 "is_label" ["thing"] (B6 K)):FnOk P w K mg base Cm 2 f fd ["thing"] (Kc K):=by
 refine F.ok sc (fun vs H Q E h=>?_) (fun cdv A outer s H vs Q E hr h=>?_)
 ·obtain⟨d,v,rfl,_⟩:=h;rfl
 ·obtain⟨d,v,rfl,hd,sm,k⟩:=h;refine⟨_,(zE (yI (yZ (zS (K:=K) (zL (zX (K:=K)) (by rfl) T.isinstance ZE (zA (pv 0) (zA (yY (v:=.ty "str") rfl T.str Z7 rfl) zC))) (fun _=>rfl))) (zD (zM j6)) zQ) (zE (Cr (i:=1) sc.nd (kN Yf Vn Vo Gy (pv 0) (zA pe_str zC))) (zD (zM (yX (yE Fv (zL zZ (by rfl) T.len ZO (zA (pv 1) zC)) (jL (v:=.int 4) rfl T.MOST_LABELS ⟨_,rfl⟩) (zW _)) (xF (zL (xX rfl) (by rfl) T.all Yi (zA (xC (sc:=zG st) (N:=["thing","labels"]) (N':=["label"]) (src:=[none]) ⟨by decide +kernel,rfl,rfl,by decide +kernel,by decide +kernel,by decide +kernel,by decide +kernel⟩ rfl rfl rfl (kF (pv 1)) (fun _ _ _ _=>(zU (i:=0) (show(["label"]:Da).Nodup by decide +kernel) rfl (EJ rfl))) (fun _ _ _ _=>qD) (fun _ _ _ _=>(zJ Qk hr.m (zA (pv 0) zC)))) zC)))))))),?_⟩
  refine⟨_,rfl,_,_,d,_,rfl,hd,T.is (by simp[kinds]),_,rfl,?_⟩;cases d with
  |str x =>
   cases(show v=_ from hd);have xl:x.length<=1000:=Zx sm;have cl:=vD x;refine Uo ⟨_,rfl,rfl,x,47,rfl,O9,by omega,fun l nl=>?_⟩;rw[Hy];have u:=zF (o:=.lst ((labs x).map V.str)) nl;refine⟨_,rfl,l,_,rfl,.inl (SqL.of zB),_,_,rfl,rfl,_,rfl,Ux (fun h1=>?_) (fun h1=>?_)⟩
   ·have h1:(labs x).length<=4:=by have:=Zx h1;rw[Q7]at this;omega
    refine⟨_,rfl,l,rfl,⟨_,SqL.of zB⟩,jU (K:=K) (a:=l) (xs:=(labs x).map V.str) (fun i ys σ H2=>∃o,σ=[o]/\Same (upd H l (.lst ((labs x).map V.str))) H2/\ys=(((labs x).take i).map zN).map V.bl) ⟨none,rfl,Same.refl _,rfl⟩ (le_line (by rw[Q7];omega)) ?_ ?_ ?_⟩
    ·rintro i ys σ H2 hi ⟨o,rfl,e2,rfl⟩;refine⟨SqL.of (e2 _ _ zB),?_⟩;rw[Q7,Q7,ZD];omega
    ·rintro i y ys σ H2 hy ⟨o,rfl,e2,rfl⟩;rw[Zp]at hy;cases q:(labs x)[i]? with
     |none=>rw[q]at hy;cases hy
     |some z =>
      rw[q]at hy;have hy:V.str z=y:=Option.some.inj hy;subst hy;have zl:=Fc (Zm q);refine⟨_,rfl,.str z,_,rfl,rfl,Zf (by omega),fun H3 s3=>⟨_,rfl,e2.trans s3,?_⟩⟩;rw[yW q,Zl];rfl
    ·rintro ys σ H2 ⟨o,rfl,e2,rfl⟩ p np;refine⟨p,_,rfl,SqL.of zB,?_⟩;rw[Q7,ZJ,all_map];have e:UV (.str x)=(labs x).all zN:=by
      show(decide ((labs x).length<=4)&&(labs x).all zN)=_;rw[Zf h1];rfl
     rw[e]at k;exact k _ ((u.trans e2).trans (zF np))
   ·have e:UV (.str x)=false:=by
     show(decide ((labs x).length<=4)&&(labs x).all zN)=_;rw[Zr (p:=(labs x).length<=4) (fun z=>h1 (Zf (by rw[Q7];omega)))];rfl
    rw[e]at k;exact k _ u
  |none=>exact Um (k _ (Same.refl _))
  |bool b=>exact Um (k _ (Same.refl _))
  |int i=>exact Um (k _ (Same.refl _))
  |list ds=>exact Um (k _ (Same.refl _))
  |tuple ds=>exact Um (k _ (Same.refl _))
  |dict Dm=>exact Um (k _ (Same.refl _))
end AE
namespace AF
abbrev st:Stmt:=top 36
theorem sc:FnScope ["path"] ["path"] (zG st):=Cp
theorem ok (F:Fun K "labels_of" "labels_of" st f fd)(T:Txt P w K mg t1 t2 t3 t4 t5 t6 t7 aL aC aN aT aA b1 b2 b3)(Qq:Cal P w K mg base 2 "is_path" ["thing"] (Kc K)):FnOk P w K mg base (Cz P w) 3 f fd ["path"] (vB K b1):=by
 refine F.okX sc (fun vs H Q E h=>?_) (fun cdv A outer s H vs Q E hr h=>?_)
 ·obtain⟨d,v,rfl,_⟩:=h;rfl
 ·obtain⟨d,v,rfl,hd,sm,k1,k2⟩:=h;refine⟨_,(zE (yI (yZ (zS (K:=K) (zJ Qq hr.m (zA (pv 0) zC)) (fun _=>rfl))) (zD (y7 rfl yR rfl T.BadPath T.xBadPath (zA pe_str zC))) zQ) (zD (zM (kN Yf Vn Vo Gy (pv 0) (zA pe_str zC))))),?_⟩
  refine⟨_,rfl,d,v,rfl,hd,sm,fun H2 s2=>⟨_,rfl,?_⟩⟩;cases q:UV d with
  |true =>
   cases d with
   |str x =>
    cases(show v=_ from hd);have xl:x.length<=1000:=Zx sm;refine Uo ⟨_,rfl,rfl,x,47,rfl,O9,by omega,fun l nl=>?_⟩;rw[Hy];exact k1 x rfl q l _ (s2.trans (zF nl)) (SqL.of zB)
   |none=>cases q
   |bool b=>cases q
   |int i=>cases q
   |list ds=>cases q
   |tuple ds=>cases q
   |dict Dm=>cases q
  |false=>exact Um ⟨Uv 1,k2 q _ s2⟩
end AF
namespace AG
abbrev st:Stmt:=top 37
theorem sc:FnScope ["path","labels"] ["path"] (zG st):=Cp
theorem ok (F:Fun K "folders_of" "folders_of" st f fd)(T:Txt P w K mg t1 t2 t3 t4 t5 t6 t7 aL aC aN aT aA b1 b2 b3):FnOk P w K mg base Cm 1 f fd ["path"] (Ka K):=by
 refine F.ok sc (fun vs H Q E h=>?_) (fun cdv A outer s H vs Q E hr h=>?_)
 ·obtain⟨x,rfl,_⟩:=h;rfl
 ·obtain⟨x,rfl,xl,k⟩:=h;refine⟨_,(zE (Cr (i:=1) sc.nd (kN Yf Vn Vo Gy (pv 0) (zA pe_str zC))) (zD (zM (xC (sc:=zG st) (N:=["path","labels"]) (N':=["count","labels"]) (src:=[none,some 1]) ⟨by decide +kernel,rfl,rfl,by decide +kernel,by decide +kernel,by decide +kernel,by decide +kernel⟩ rfl rfl rfl (Bl rfl T.range (zA zI (zA (zL zZ (by rfl) T.len ZO (zA (pv 1) zC)) zC))) (fun _ _ _ _=>(zU (i:=0) (show(["count","labels"]:Da).Nodup by decide +kernel) rfl (EJ rfl))) (fun _ _ _ _=>qD) (fun _ _ _ _=>(SJ (K:=K) Yf JH JI (Oz (K:=K)) pe_str (zA (kY (sl_list:RQ _ (Ry K)) (pv 1) vR (vW (pv 0))) zC))))))),?_⟩
  have cl:=vD x;have cp:=Oj x;have e1:("/":Str).length=1:=by decide +kernel
  refine⟨_,rfl,rfl,x,47,rfl,O9,by omega,fun l nl=>?_⟩;rw[Hy];have u:=zF (o:=.lst ((labs x).map V.str)) nl;refine⟨_,rfl,l,_,rfl,.inl (SqL.of zB),1,(((labs x).map V.str).length:Int),rfl,⟨by decide,by decide,by omega,by rw[Q7];omega⟩,?_⟩;have en:((((labs x).map V.str).length:Int)-1).toNat=(labs x).length-1:=by rw[Q7];omega
  rw[en];refine j8 (fun i ys σ H2=>∃o,σ=[o,some (.ref l)]/\Same (upd H l (.lst ((labs x).map V.str))) H2/\ys=((EG i).map fun i=>PySem.Txt.join "/" ((labs x).take (i+1))).map V.str) ⟨none,rfl,Same.refl _,rfl⟩ (le_line (by omega)) ?_ ?_ ?_
  ·rintro i ys σ H2 hi ⟨o,rfl,e2,rfl⟩;rw[Q7,Q7,Yn];exact Ze _
  ·rintro i ys σ H2 hi ⟨o,rfl,e2,rfl⟩;refine⟨rfl,_,rfl,_,rfl,_,rfl,l,_,rfl,SqL.of (e2 _ _ zB),fun p np=>?_⟩;have et:UI ((labs x).map V.str) none (some (1+(i:Int)))=((labs x).take (i+1)).map V.str:=by
    rw[Sk (by omega),J0]
    congr 1
    omega
   rw[et];refine⟨"/",p,(labs x).take (i+1),rfl,rfl,.inl (SqL.of zB),?_,_,rfl,e2.trans (zF np),?_⟩
   ·have h1:=Bx (n:=1000) ((labs x).take (i+1)) (fun y hy=>by have:=Fc (Y1 hy);omega);have h2:((labs x).take (i+1)).length<=1001:=by rw[ZD];omega
    have h3:((labs x).take (i+1)).length*1000<=1001*1000:=Nat.mul_le_mul_right _ h2;refine le_line ?_;rw[e1];omega
   ·rw[List.range_succ,Zl,Zl];rfl
  ·rintro ys σ H2 ⟨o,rfl,e2,rfl⟩ p np;exact k p _ ((u.trans e2).trans (zF np)) (SqL.of zB)
end AG
namespace AH
abbrev st:Stmt:=top 38
theorem sc:FnScope ["path","lines"] ["path","lines"] (zG st):=Cp
theorem ok (F:Fun K "is_file" "is_file" st f fd)(T:Txt P w K mg t1 t2 t3 t4 t5 t6 t7 aL aC aN aT aA b1 b2 b3)(Qq:Cal P w K mg base 2 "is_path" ["thing"] (Kc K))(Qf:Cal P w K mg base 3 "is_lines" ["thing"] (XZ K)):FnOk P w K mg base Cm 4 f fd ["path","lines"] (Pc K):=by
 refine F.ok sc (fun vs H Q E h=>?_) (fun cdv A outer s H vs Q E hr h=>?_)
 ·obtain⟨d,e,v,u,rfl,_⟩:=h;rfl
 ·obtain⟨d,e,v,u,rfl,hd,he,sd,se,k⟩:=h;refine⟨_,(zD (zM (yX (zJ Qq hr.m (zA (pv 0) zC)) (xF (zJ Qf hr.m (zA (pv 1) zC)))))),?_⟩;refine⟨_,rfl,d,v,rfl,hd,sd,fun H2 s2=>⟨_,rfl,Ux (fun h1=>?_) (fun h1=>?_)⟩⟩
  ·rw[h1,V1]at k;exact⟨_,rfl,e,u,rfl,Dw.same s2 _ _ he,se,fun H3 s3=>k _ (s2.trans s3)⟩
  ·have h1:=YD.mpr h1;rw[h1]at k;exact k _ s2
end AH
namespace AI
abbrev st:Stmt:=top 44
theorem sc:FnScope ["shelf","rows"] ["shelf","rows"] (zG st):=Cp
theorem ok (F:Fun K "put_rows" "put_rows" st f fd)(T:Txt P w K mg t1 t2 t3 t4 t5 t6 t7 aL aC aN aT aA b1 b2 b3)(Qd:MetX P w K mg base aC 7 "put" ["self","thing"] (U3 P w K aC aN aT)):FnOk P w K mg base Cm 8 f fd ["shelf","rows"] (xJ P w K aC):=by
 refine F.ok sc (fun vs H Q E h=>?_) (fun cdv A outer s H vs Q E hr h=>?_)
 ·obtain⟨a,d,fp,S,Do,rfl,_⟩:=h;rfl
 ·obtain⟨a,d,fp,S,Do,rfl,sh,ok,hd,nd,hr',rl,sl,k⟩:=h;refine⟨_,(zD (zM (y9 (pv 0) T.cls Qd hr.m z9 (zA (uM (zA pe_str (zA (yB kJ (by rfl) T.tuple Yl (zA (OR (K:=K) rfl hr.units (by rfl) T.sorted J1 (pv 1)) zC)) zC))) zC)))),?_⟩;obtain⟨ix,i1,i2,i3,hix⟩:=uN sh;have oks:∀r∈Do,zN r.1=true/\Ok 1000 r.2:=fun r m=>by
   obtain⟨e,he,en⟩:=Zb.mp (PX (hr' r m).2);exact⟨(hr' r m).1,by rw[←en];exact ok.nm he⟩
  refine⟨_,rfl,a,ix,_,rfl,hix,rfl,_,rfl,d,Do,rfl,hd,by omega,fun p hp=>⟨(U7 (oks p hp).1).ok,(oks p hp).2.ok⟩,fun l ss ts H2 pm so sm nl hl dt=>?_⟩;have es:=Pa nd pm so;subst es;refine⟨l,_,rfl,.inl ⟨SqL.of hl,fun p2 n2=>?_⟩⟩;have v2:=zF (o:=.tup ts) n2;refine⟨Uv 2,fun p4 n4=>?_⟩;have v4:=zF (o:=.tup [V.str "tree",V.ref p2]) n4;have sall:=(sm.trans v2).trans v4;have d0:Dt K (upd (upd H2 p2 (.tup ts)) p4 (.tup [V.str "tree",V.ref p2])) (Th.tree (Uq Do)).dat (.ref p4):=⟨p4,_,rfl,SqT.of zB,_,_,rfl,rfl,_,_,rfl,⟨p2,ts,rfl,SqT.of (v4 _ _ zB),DtAll.same (v2.trans v4) _ _ dt⟩,rfl⟩;have ms:∀{r},r∈Uq Do↔r∈Do:=(yH Do).mem_iff;have g:B3 (.tree (Uq Do)):=M5 (fun r m=>oks r (ms.mp m)) (Rz (FN nd)) (by rwa[(yH Do).length_eq]);have nok:namesOk S (.tree (Uq Do))=true:=ZI.mpr fun r m=>(hr' r (ms.mp m)).2;delta Nu;dsimp only;show U3 P w K aC aN aT [V.ref a,V.ref p4] (upd (upd H2 p2 (.tup ts)) p4 (.tup [V.str "tree",V.ref p2])) _ _;exact O0 (sh.same sall) ok g nok sl d0 fun H5 of5 sh5=>k H5 (fun b o nb e=>of5 b o nb (sall _ _ e)) sh5
end AI
end
end An09
namespace An
open PySem L2
theorem RN (fs:Dk)(i:Nat):wt (fs.take i)<=wt fs:=by
 have:=Km (fs.take i) (fs.drop i);rw[ZW]at this;omega
theorem Ow {fs:Dk}{i:Nat}{v:Str×Da}(h:v∈Ck (fs.take i)):v∈Ck fs:=by
 obtain⟨a,ls⟩:=v;exact mem_lvs.mpr (Y1 (mem_lvs.mp h))
theorem TX (ok:OkS S)(g:GoodF n fs)(hs:S.length+1+wt fs<=2000)(i:Nat) :
  OkS ((Ck (fs.take i)).foldl Ce (S,[])).1/\((Ck (fs.take i)).foldl Ce (S,[])).1.length<2000/\((Ck (fs.take i)).foldl Ce (S,[])).2.map (·.1)=(Ck (fs.take i)).map (·.1):=by
 have hm:=many (fs.take i);have hw:=RN fs i;obtain⟨a1,a2⟩:=XW (d:=0) (Ck (fs.take i)) (Fo.nil ok) (fun v hv=>(g.lab _ (mem_lvs.mp (Ow hv))).2.2.2) (by omega);refine⟨a1.ok,by omega,?_⟩;rw[a1.lab,VH,ZB];rfl
theorem RS {d:Nat}(ok:OkS S)(g:GoodF (d+1) fs)(hl:fs.length<=63)(hs:S.length+1+wt fs<=2000)(ls rest:Da)(e:ls++rest=Cn fs) :
  Fo (d+1) S (ls.foldl (Cj d fs) ((Ck fs).foldl Ce (S,[]))).1 (ls.foldl (Cj d fs) ((Ck fs).foldl Ce (S,[]))).2 ((Ck fs).map (fun v=>(v.1,[(([],v.2):Fi)]))++ls.map fun l=>(l,sub fs l)) /\
  (ls.foldl (Cj d fs) ((Ck fs).foldl Ce (S,[]))).1.length+(rest.map fun l=>1+wt (sub fs l)).sum<=S.length+wt fs:=by
 have hm:=many fs;rw[←e,Zl,Ul]at hm;obtain⟨a1,a2⟩:=XW (d:=d) (Ck fs) (Fo.nil ok) (fun v hv=>(g.lab _ (mem_lvs.mp hv)).2.2.2) (by omega);rw[VH]at a1;have H:∀l∈ls,∀S,OkS S->S.length+1+wt (sub fs l)<=2000->PutOk (d+1) S (sub fs l) (Us d S (sub fs l))/\(Us d S (sub fs l)).1.length<=S.length+1+wt (sub fs l):=fun l hl' S' ok' hs'=>by
  cases d with
  |zero =>
   obtain⟨f,hf,b,r,ef⟩:=((xI fs).2 l).mp (by rw[←e];exact Yo _ hl');have:=(g.lab f hf).2.1;rw[ef,Zh,Zh]at this;omega
  |succ d=>exact vH d ok' (g.sub l) (Z5 sub_len hl) hs'
 obtain⟨b1,b2⟩:=Hl ls H (S:=((Ck fs).foldl Ce (S,[])).1) (Do:=((Ck fs).foldl Ce (S,[])).2) a1 (by omega);refine⟨b1,?_⟩;have b2:(ls.foldl (Cj d fs) ((Ck fs).foldl Ce (S,[]))).1.length<=_:=b2;omega
theorem WF {d:Nat}(ok:OkS S)(g:GoodF (d+1) fs)(hl:fs.length<=63)(hs:S.length+1+wt fs<=2000){j:Nat}{l:Str}(hj:(Cn fs)[j]?=some l) :
  OkS (((Cn fs).take j).foldl (Cj d fs) ((Ck fs).foldl Ce (S,[]))).1/\(((Cn fs).take j).foldl (Cj d fs) ((Ck fs).foldl Ce (S,[]))).1.length+1+wt (sub fs l)<=2000 /\
  (((Cn fs).take j).foldl (Cj d fs) ((Ck fs).foldl Ce (S,[]))).2.map (·.1)=(Ck fs).map (·.1)++(Cn fs).take j:=by
 obtain⟨h1,h2⟩:=RS ok g hl hs ((Cn fs).take j) ((Cn fs).drop j) (ZW _ _);have hd:(Cn fs).drop j=l::(Cn fs).drop (j+1):=by
  have:=(Zu.mp hj);rw[←this.2];exact JT this.1
 rw[hd,ZC,Jl]at h2;refine⟨h1.ok,by omega,?_⟩;rw[h1.lab,Zl,ZB,ZB]
 congr 1
 exact VE _
theorem TJ {d:Nat}(ok:OkS S)(g:GoodF (d+1) fs)(hl:fs.length<=63)(hs:S.length+1+wt fs<=2000){q:List En×Dg}(e:q=(Cn fs).foldl (Cj d fs) ((Ck fs).foldl Ce (S,[]))) :
  OkS q.1/\q.1.length<2000/\(q.2.map (·.1)).Nodup/\(∀r∈q.2,zN r.1=true/\∃e,Tree e q.1 r.2)/\q.2.length<=63:=by
 subst e;obtain⟨h1,h2⟩:=RS ok g hl hs (Cn fs) [] (Zs _);have h1:Fo (d+1) S _ _ (pieces fs):=h1;have h2:_+0<=S.length+wt fs:=h2;have pl:=qO fs;refine⟨h1.ok,by omega,by rw[h1.lab];exact Xp g,fun r hr=>?_,?_⟩
 ·obtain⟨i,hi⟩:=YE.mp hr;have il:=(Zu.mp hi).1;have hp:=Zn (l:=pieces fs) (i:=i) (by rwa[←h1.len]);have e:=congrArg (fun l=>l[i]?) h1.lab;simp only[Zp,hi,hp,Yt]at e;exact⟨by rw[Option.some.inj e];exact(G2 g _ (YB _)).1,d+1,(h1.rd i r _ hi hp).1⟩
 ·rw[h1.len];unfold pieces;rw[Zj,Q7,Q7];omega
theorem uY (l:Str):Cc [l]=l:=cs_inj (XX l)
theorem Ru (l b:Str)(r:Da):Cc (l::b::r)=l++⟨#[47]⟩++Cc (b::r):=cs_inj (by
 rw[qN l (ZL _ _),cs_append,cs_append];show _=cs l++[47]++_;simp)
theorem SM (l b:Str)(r:Da):l≠Cc (l::b::r):=fun z=>by
 have:=congrArg (fun x=>(cs x).length) z;simp only[qN l (ZL b r),Zj,Zh]at this;omega
theorem vS:∀{p:Da},(∀l∈p,zN l=true)->(cs (Cc p)).length<=9*p.length
 |[],_=>by
  show(cs (Lq "/" [])).length<=0;rw[xT];exact Ze _
 |[l],h=>by
  have:=h l (Q8.mpr rfl);rw[XX];unfold zN at this;rw[Zk,Zk,ZM,ZM,length_cs]at this;show _<=9;omega
 |l::b::r,h=>by
  have h1:=h l (Zc ..);have ih:=vS (p:=b::r) fun x hx=>h x (Za _ hx);rw[qN l (ZL _ _),Zj,Zh];unfold zN at h1;rw[Zk,Zk,ZM,ZM,length_cs]at h1;rw[Zh]at ih ⊢;rw[Zh];omega
theorem RF (g:GoodF n fs){i:Nat}{f:Fi}{l b:Str}{r:Da}(hf:fs[i]?=some f)(e:f.1=l::b::r):(.inr (Cc (b::r)):Key)∉(sub (fs.take i) l).map fun k=>(.inr (Cc k.1):Key):=fun z=>by
 obtain⟨k,hk,q⟩:=Zb.mp z;have q:Cc k.1=Cc (b::r):=Sum.inr.inj q;obtain⟨k0,hk⟩:=mem_sub.mp hk;have lk:=(g.lab _ (Y1 hk)).2.2.1;have lf:=(g.lab _ (Zm hf)).2.2.1;have q:=x4 (d:=0) k0 (ZL _ _) (fun x hx=>lk x (Za _ hx)) (fun x hx=>lf x (by rw[e];exact Za _ hx)) q;obtain⟨j,hj⟩:=YE.mp hk;rw[List.getElem?_take]at hj
 split at hj
 ·rename_i ji;have h1:(fs.map (·.1))[j]?=some f.1:=by rw[Zp,hj];show some (l::k.1)=_;rw[q,e]
  have h2:(fs.map (·.1))[i]?=some f.1:=by rw[Zp,hf];rfl
  obtain⟨a1,a2⟩:=Zu.mp h1;obtain⟨c1,c2⟩:=Zu.mp h2;have:=(YX g.nd).mp (a2.trans c2.symm);omega
 ·cases hj
end An
namespace L2
open PySem PySem.Spec PyProof.Rows
theorem Fk (x:Str)(c:Nat)(t u:Tok)(ho:EX x ⟨#[c]⟩ 0 x.length 1=[]):Meets (Builtin.«str.partition» ⟨[.str x t,.str ⟨#[c]⟩ u],[]⟩)
  (fun _ R s=>R (.ok (.ret (.ref s.heap.objs.size))) { s with heap:=s.heap.push { cls:=.type "tuple",data:=.seq #[.str x t,.str L7 s.toks,.str L7 s.toks] },toks:=s.toks+1 }) :=
 .of_wp fun prog w A R s h=>by
  obtain⟨raising,e⟩:=partition_tree x ⟨#[c]⟩ t u;rw[e,ZA (show¬((⟨#[c]⟩:Str).length==0)=true from(by show¬(1==0)=true;decide)),ho];refine Q9 (J7 ?_);refine Q9 (wpAny_mkStr ?_ (ZT _));refine Q9 (wpAny_newTuple ?_ (by show 3<=sizeLine;decide));exact Zg ⟨_,rfl,h⟩
section
variable {X:Cx}
def O4:V->Dj->Hp->VK->Prop:=fun x vs H Q=>∃(u:Str) (c:Nat),x=.str u/\vs=[.str ⟨#[c]⟩]/\c∉An.cs u/\∀p,H p=none->Q (.ref p) (upd H p (.tup [.str u,.str "",.str ""]))
def SU:V->Dj->Hp->VK->Prop:=fun x vs H Q=>RW x vs H Q\/O4 x vs H Q
theorem GI:RP X "str.partition" O4:=by
 intro Dp s σ H x xs v us Q I rx rs h;obtain⟨a,c,rfl,rfl,hc,q⟩:=h;obtain⟨t,rfl⟩:=rx;obtain⟨w,rfl,t',rfl⟩:=vals1 rs;have hi:EX a ⟨#[c]⟩ 0 a.length 1=[]:=by
  rcases StrLaws.occ_head_from a ⟨#[c]⟩ 0 1 (Ze 1) with⟨h0,hn⟩|⟨k,r,h0,hlo,hk,hn⟩
  ·exact h0
  ·have hm:=(L4 _ c k).mp hk;have hm:(An.cs a)[k]?=some c:=hm;exact absurd (Zm hm) hc
 refine Vw F.slot_str_partition (J5 s _ t) F.entry_str_partition (F.args_str_partition_2 _ _) (Fk _ c t t' hi) ?_;have hn:H s.heap.objs.size=none:=I.hok.fresh (Ze _);refine⟨.ref s.heap.objs.size,_,I.laid (t':=s.toks+1) (a:=s.heap.objs.size) (o:=.tup [.str a,.str "",.str ""]) (fun _ _ q=>Zd _ q) (Ze _) ?_,rfl,q _ hn⟩;exact⟨by show 3<=sizeLine;decide,_,.cons ⟨_,rfl⟩ (.cons ⟨_,rfl⟩ (.cons ⟨_,rfl⟩ .nil)),⟨_,Zo _ rfl,rfl,_,rfl,rfl⟩⟩
theorem GH:RP X "str.partition" SU:=by
 intro Dp s σ H x xs v us Q I rx rs h
 rcases h with h|h
 ·exact uR Dp s σ H x xs v us Q I rx rs h
 ·exact GI Dp s σ H x xs v us Q I rx rs h
end
end L2
namespace An09
open PySem L2 An
seal L2.PS L2.PSs L2.PE L2.PT L2.PW L2.PA L2.PG L2.PGs L2.PI L2.PFi L2.PC
def Gf (P:Ei)(w:Em)(K:Cd)(C:Eh):Nat->Sp
 | 0=>fun _ _ _ _=>False
 |d+1=>fun vs H Q _=>∃(a c:Eh) (fp:Dd) (S:Di) (fs:Dk) (Dm:Dl),vs=[.ref a,.ref c]/\ShAt P w K C H a fp S/\OkS S/\H c=some (.dK Dm)/\c∉fp/\FsAt K H fs Dm/\GoodF (d+1) fs/\fs.length<=63/\S.length+1+wt fs<=2000 /\
  ∀H',Off fp H H'->ShAt P w K C H' a fp (Us (d+1) S fs).1->Q (.str (Us (d+1) S fs).2) H'
theorem take_snoc {α:Type}{l:List α}{i:Nat}{x:α}(h:l[i]?=some x):l.take (i+1)=l.take i++[x]:=by rw[Yx,h];rfl
theorem Iu {g:TG}{tb:TS}{D:Ends}{σ:St}{H:Hp}{d:Eh}{ob:Obj}{Dm:Dl}(Pv:Nat->St->Hp->Prop)(h0:Pv 0 σ H)(hl:∀i σ H,i<=Dm.length->Pv i σ H->H d=some (.frz ob (.dK Dm)))
  (hs:∀i k v T σ H,Dm[i]?=some (k,v)->Pv i σ H->H T=none->∀D':Ends,(∀σ H,Pv (i+1) σ H->D'.nx σ H)->g (.ref T) σ (upd H T (.tup [kV k,v])) fun σ2 H2=>tb D' σ2 H2) (hd:∀σ H,Pv Dm.length σ H->D.nx σ H):NE (Wx d Dm ob) g tb D σ H :=
 GQ Pv h0 hl (fun i k v T σ H h p n=>hs i k v T σ H h p n _ fun _ _ h=>h) hd
section
variable {P:Ei}{w:Em}{K:Cd}{mg:Str->Dc}{base:Ez}{t1 t2 t3 t4 t5 t6 t7:Tok}{aL aC aN aT aA b1 b2 b3:Eh}
namespace AJ
abbrev st:Stmt:=top 46
theorem sc:FnScope ["shelf","files","rows","folders","path","lines","parts","label","beneath"] ["shelf","files"] (zG st):=Cp
theorem step {L d:Nat}(F:Fun K "put_files" "put_files" st f fd)(T:Txt P w K mg t1 t2 t3 t4 t5 t6 t7 aL aC aN aT aA b1 b2 b3)(Qd:MetX P w K mg base aC 7 "put" ["self","thing"] (U3 P w K aC aN aT))(Qb:Cal P w K mg base 8 "put_rows" ["shelf","rows"] (xJ P w K aC))(hL:8<=L)(hd:d<=100)(Qr:Cal P w K mg base L "put_files" ["shelf","files"] (Gf P w K aC d)):FnOk P w K mg base Cm (L+1) f fd ["shelf","files"] (Gf P w K aC (d+1)):=by
 refine F.ok sc (fun vs H Q E h=>?_) (fun cdv A outer s H vs Q E hr h=>?_)
 ·obtain⟨a,c,fp,S,fs,Dm,rfl,_⟩:=h;rfl
 ·obtain⟨a,c,fp,S,fs,Dm,rfl,sh,ok,hc,ncf,ff,gf,fl,sl,k⟩:=h;have hu:=GN hr;refine⟨_,(zE (Cr (i:=2) sc.nd yO) (zE (Cr (i:=3) sc.nd yO) (zE (uI (xN ET rfl (Gd (uS (pv 1))) (Xe rfl (y8 (zU (i:=4) sc.nd rfl (EJ rfl)) (y8 (zU (i:=5) sc.nd rfl (EJ rfl)) uH))) (zE (Cr (i:=6) sc.nd (kN Yf PySem.F.slot_str_partition PySem.F.type_str_partition GH (pv 4) (zA pe_str zC))) (zE (Cr (i:=7) sc.nd (zV (ix_tup:Cl _ (Ut K)) (pv 6) zI (fun _ _=>rfl))) (zD (yI (z5 qA (pv 7) (pv 4) (zW _)) (zD (xO hu (pv 2) (pv 7) (y9 (pv 0) T.cls Qd (hr.mono (by omega)) z9 (zA (uM (zA pe_str (zA (pv 5) zC))) zC)) rfl)) (zE (Cr (i:=8) sc.nd (Ii hu (pv 3) (pv 7) yO ⟨rfl,rfl,rfl,rfl⟩)) (zE (xO hu (pv 8) (zV (ix_tup:Cl _ (Ut K)) (pv 6) zI (fun _ _=>rfl)) (pv 5) rfl) (zD (xO hu (pv 3) (pv 7) (pv 8) rfl)))))))))) (zE (uI (xN ET rfl (Gd (uS (pv 3))) (Xe rfl (y8 (zU (i:=7) sc.nd rfl (EJ rfl)) (y8 (zU (i:=8) sc.nd rfl (EJ rfl)) uH))) (zD (xO hu (pv 2) (pv 7) (zJ Qr (hr.mono (by omega)) (zA (pv 0) (zA (pv 8) zC))) rfl)))) (zD (zM (zJ Qb (hr.mono (by omega)) (zA (pv 0) (zA (pv 2) zC))))))))),?_⟩
  refine fun rw' nrw=>?_;have u1:=zF (o:=.dK []) nrw;refine fun fo nfo=>?_;have u2:=zF (o:=.dK []) nfo;have sb:=u1.trans u2;have hrw:upd (upd H rw' (.dK [])) fo (.dK []) rw'=some (.dK (Cq [])):=u2 _ _ zB;have hfo:upd (upd H rw' (.dK [])) fo (.dK []) fo=some (.dK (Cs [])):=zB;have shb:=sh.same sb;have hcb:=sb _ _ hc;have ffb:=ff.same sb;have nrw0:H rw'=none:=nrw;have nfo0:H fo=none:=u1.free nfo;have rf:rw'≠fo:=zK (zB (H:=H) (a:=rw') (o:=.dK [])) nfo;generalize upd (upd H rw' (.dK [])) fo (.dK [])=Hb at sb hrw hfo shb hcb ffb ⊢;have cr:c≠rw':=zK hc nrw0;have cf:c≠fo:=zK hc nfo0;refine⟨_,rfl,c,Dm,rfl,hcb,fun ob=>?_⟩;have hcz:upd Hb c (.frz ob (.dK Dm)) c=some (.frz ob (.dK Dm)):=zB;have nz:∀{b:Eh},b≠c->upd Hb c (.frz ob (.dK Dm)) b=Hb b:=fun{b} z=>zH z;have oz:Off [c] Hb (upd Hb c (.frz ob (.dK Dm))):=zY;have shz:ShAt P w K aC (upd Hb c (.frz ob (.dK Dm))) a fp S:=shb.off (zO hcb) oz fun b hb z=>ncf (Q8.mp z▸hb);have ffz:=ffb.off (zO hcb) oz;have hrz:upd Hb c (.frz ob (.dK Dm)) rw'=some (.dK (Cq [])):=by rwa[nz (EA cr)]
  have hfz:upd Hb c (.frz ob (.dK Dm)) fo=some (.dK (Cs [])):=by rwa[nz (EA cf)]
  have frz0:∀{b:Eh},upd Hb c (.frz ob (.dK Dm)) b=none->Hb b=none/\b≠c:=fun{b} z=>by
   have ne:b≠c:=fun q=>by rw[q,zB]at z;cases z
   rw[nz ne]at z;exact⟨z,ne⟩
  generalize upd Hb c (.frz ob (.dK Dm))=H1 at hcz nz oz shz ffz hrz hfz frz0 ⊢;have ex1:∀b∈rw'::fo::fp,∃o,H1 b=some o:=fun b hb=>by
   rcases Zi.mp hb with z|hb
   ·rw[z];exact⟨_,hrz⟩
   ·rcases Zi.mp hb with z|hb
    ·rw[z];exact⟨_,hfz⟩
    ·exact shz.ex b hb
  have rnp:rw'∉fp:=fun z=>by
   obtain⟨o,e⟩:=sh.ex _ z;rw[nrw0]at e;cases e
  have fnp:fo∉fp:=fun z=>by
   obtain⟨o,e⟩:=sh.ex _ z;rw[nfo0]at e;cases e
  have cX:c∉rw'::fo::fp:=fun z=>by
   rcases Zi.mp z with z|z
   ·exact cr z
   ·rcases Zi.mp z with z|z
    ·exact cf z
    ·exact ncf z
  have kl:Dm.length=fs.length:=ff.len;have nt1:∀b∈rw'::fo::fp,∀xs,¬Rd H1 b (.tup xs):=fun b hb=>by
   rcases Zi.mp hb with z|hb
   ·exact zO hrz b (Q8.mpr z)
   ·rcases Zi.mp hb with z|hb
    ·exact zO hfz b (Q8.mpr z)
    ·exact shz.noseq.tup b hb
  refine⟨c,ob,Dm,rfl,hcz,Iu (fun i σ H'=>∃o4 o5 o6 o7 o8 fa,σ=[some (.ref a),some (.ref c),some (.ref rw'),some (.ref fo),o4,o5,o6,o7,o8]/\ShAt P w K aC H' a fp ((Ck (fs.take i)).foldl Ce (S,[])).1/\H' rw'=some (.dK (Cq ((Ck (fs.take i)).foldl Ce (S,[])).2))/\H' fo=some (.dK (Cs fa))/\Fols K H1 H' (fs.take i) fa/\Off (rw'::fo::fp) H1 H') ⟨none,none,none,none,none,[],rfl,shz,hrz,hfz,Fols.nil,Off.refl _ _⟩ (fun i σ H' hi h=>?_) ?_ ?_⟩
  ·obtain⟨_,_,_,_,_,_,_,_,_,_,_,o⟩:=h;exact o _ _ cX hcz
  ·rintro i kk v T0 σ H' hi ⟨o4,o5,o6,o7,o8,fa,rfl,sh',hr',hf',Fl,of'⟩ nT D' hD;obtain⟨f,hfi,rfl,dv,lnok⟩:=ffz.get hi;obtain⟨ok',ll',lb'⟩:=TX ok gf sl i;have etk:=take_snoc hfi;have glab:=gf.lab f (Zm hfi);have dv':Dt K H' (AnJ.tupS f.2) v:=Dt.off nt1 of' _ _ (qK lnok) dv;have uT:=zF (o:=.tup [kV (.inr (Cc f.1)),v]) nT;refine⟨T0,_,rfl,SqT.of zB,rfl,_,_,rfl,_,_,rfl,rfl,?_⟩;have sh2:=sh'.same uT;have hr2:=uT _ _ hr';have hf2:=uT _ _ hf';have Fl2:=Fl.same uT;have of2:=of'.trans (Off.of uT);have dv2:=Dt.same uT _ _ dv';generalize upd H' T0 (.tup [kV (.inr (Cc f.1)),v])=H2 at sh2 hr2 hf2 Fl2 of2 dv2 ⊢;clear sh' hr' hf' Fl of' dv' nT uT;have go:∀{H3:Hp},Same H2 H3->ShAt P w K aC H3 a fp ((Ck (fs.take i)).foldl Ce (S,[])).1/\H3 rw'=some (.dK (Cq ((Ck (fs.take i)).foldl Ce (S,[])).2))/\H3 fo=some (.dK (Cs fa))/\Fols K H1 H3 (fs.take i) fa/\Off (rw'::fo::fp) H1 H3/\Dt K H3 (AnJ.tupS f.2) v:=fun{H3} e=>⟨sh2.same e,e _ _ hr2,e _ _ hf2,Fl2.same e,of2.trans (Off.of e),Dt.same e _ _ dv2⟩;have free1:∀{H3:Hp} {b:Eh},ShAt P w K aC H3 a fp ((Ck (fs.take i)).foldl Ce (S,[])).1->H3 rw'=some (.dK (Cq ((Ck (fs.take i)).foldl Ce (S,[])).2))->H3 fo=some (.dK (Cs fa))->Off (rw'::fo::fp) H1 H3->H3 b=none->H1 b=none:=fun{H3 b} h1 h2 h3 o z=>by
    cases q:H1 b with
    |none=>rfl
    |some x =>
     by_cases m:b∈rw'::fo::fp
     ·rcases Zi.mp m with y|m
      ·rw[y,h2]at z;cases z
      ·rcases Zi.mp m with y|m
       ·rw[y,h3]at z;cases z
       ·obtain⟨o',e'⟩:=h1.ex b m;rw[e']at z;cases z
     ·rw[o b x m q]at z;cases z
   have ql:((Ck (fs.take i)).foldl Ce (S,[])).2.length<=63:=by
    have:=congrArg List.length lb';rw[Q7,Q7]at this;have h2:=qO (fs.take i);rw[ZD]at h2;omega
   match e1:f.1,glab with
   |[],gl=>exact absurd rfl gl.1
   |[l],gl =>
    have ep:Cc [l]=l:=uY l;rw[ep];have lbl:zN l=true:=gl.2.2.1 l (Q8.mpr rfl);refine⟨_,rfl,rfl,.inr ⟨l,47,rfl,O9,xP lbl,fun p np=>?_⟩⟩;have up:=zF (o:=.tup [V.str l,V.str "",V.str ""]) np;obtain⟨sh3,hr3,hf3,Fl3,of3,dv3⟩:=go up;refine⟨_,rfl,p,_,_,_,rfl,rfl,SqT.of zB,rfl,?_⟩;refine⟨_,rfl,_,rfl,rfl,true,?_,Um ?_⟩
    ·show V.bl (decide (V.str l=V.str l))=V.bl true;rw[Zf rfl]
    generalize upd H2 p (.tup [V.str l,V.str "",V.str ""])=H3 at sh3 hr3 hf3 Fl3 of3 dv3 ⊢;obtain⟨ix,i1,i2,i3,hix⟩:=uN sh3;refine⟨_,rfl,a,ix,_,rfl,hix,rfl,_,rfl,Uv 2,fun p4 n4=>?_⟩;have v4:=zF (o:=.tup [V.str "leaf",v]) n4;obtain⟨vp,vxs,rfl,vt,vd⟩:=id dv3;have d0:Dt K (upd H3 p4 (.tup [V.str "leaf",V.ref vp])) (Th.leaf f.2).dat (.ref p4):=⟨p4,_,rfl,SqT.of zB,_,_,rfl,rfl,_,_,rfl,Dt.same v4 _ _ dv3,rfl⟩;have sh4:=sh3.same v4;have hr4:=v4 _ _ hr3;have hf4:=v4 _ _ hf3;have Fl4:=Fl3.same v4;have of4:=of3.trans (Off.of v4);delta Nu;dsimp only;show U3 P w K aC aN aT [V.ref a,V.ref p4] (upd H3 p4 (.tup [V.str "leaf",V.ref vp])) _ _;generalize upd H3 p4 (.tup [V.str "leaf",V.ref vp])=H4 at d0 sh4 hr4 hf4 Fl4 of4 ⊢;have el:Ck (fs.take (i+1))=Ck (fs.take i)++[(l,f.2)]:=by rw[etk,uW,e1]
    have ef:(Ck (fs.take (i+1))).foldl Ce (S,[])=Ce ((Ck (fs.take i)).foldl Ce (S,[])) (l,f.2):=by rw[el,YL];rfl
    have nl:l∉((Ck (fs.take i)).foldl Ce (S,[])).2.map (·.1):=fun z=>by
     rw[lb']at z;have nd:=Ov (fs:=fs.take (i+1)) (by rw[J0];exact gf.nd.sublist (List.take_sublist _ _));rw[el,Zl,Ye]at nd;exact nd.2.2 l z l (Q8.mpr rfl) rfl
    have Fl':=Fl4.one (f:=f) e1;rw[←etk]at Fl';clear free1 go lb';generalize (Ck (fs.take i)).foldl Ce (S,[])=q at sh4 hr4 ok' ll' ef nl ql;refine O0 sh4 ok' (Be lnok.2 lnok.1) rfl ll' d0 fun H5 of5 sh5=>?_;have hr5:H5 rw'=_:=of5 _ _ rnp hr4;have hf5:H5 fo=_:=of5 _ _ fnp hf4;have Fl5:=Fl'.off (X:=fp) (fun c hc=>ex1 c (Za _ (Za _ hc))) sh4.noseq.tup of5;have of6:Off (rw'::fo::fp) H1 H5:=fun b o nb e=>of5 b o (fun z=>nb (Za _ (Za _ z))) (of4 b o nb e);refine⟨_,rfl,_,rfl,rw',_,rfl,DPut.k (k:=.inr l) hr5 (yS (by unfold Cq;rw[Q7];omega)),hD _ _ ⟨_,_,_,_,_,fa,rfl,?_,?_,?_,?_,?_⟩⟩
    ·rw[ef];exact sh5.off (zO hr5) zY fun b hb z=>rnp (Q8.mp z▸hb)
    ·rw[ef,zB,BK nl];rfl
    ·rwa[zH (EA rf)]
    ·exact Fl5.off (X:=[rw']) (fun c hc=>by rw[Q8.mp hc];exact⟨_,hrz⟩) (zO hr5) zY
    ·exact of6.upd (Zc ..)
   |l::b::r,gl =>
    have ep:Cc (l::b::r)=l++⟨#[47]⟩++Cc (b::r):=Ru l b r;have lbl:zN l=true:=gl.2.2.1 l (Zc ..);have pl:(Cc (l::b::r)).length<=100000:=by
     have:=vS gl.2.2.1;have h4:=gl.2.1;rw[length_cs];omega
    have el:Ck (fs.take (i+1))=Ck (fs.take i):=by rw[etk,uW,e1];exact Zs _
    have nin:=RF gf hfi e1;refine⟨_,rfl,rfl,.inl ⟨l,Cc (b::r),47,by rw[ep];rfl,O9,xP lbl,by rw[←ep];exact pl,fun p np=>?_⟩⟩;have up:=zF (o:=.tup [V.str l,V.str ⟨#[47]⟩,V.str (Cc (b::r))]) np;obtain⟨sh3,hr3,hf3,Fl3,of3,dv3⟩:=go up;have hp3:upd H2 p (.tup [V.str l,V.str ⟨#[47]⟩,V.str (Cc (b::r))]) p=some (.tup [V.str l,V.str ⟨#[47]⟩,V.str (Cc (b::r))]):=zB;refine⟨_,rfl,p,_,_,_,rfl,rfl,SqT.of zB,rfl,?_⟩;refine⟨_,rfl,_,rfl,rfl,false,?_,Uo ?_⟩
    ·show V.bl (decide (V.str l=V.str (Cc (l::b::r))))=V.bl false;rw[Zr fun z=>SM l b r (by injection z)]
    generalize upd H2 p (.tup [V.str l,V.str ⟨#[47]⟩,V.str (Cc (b::r))])=H3 at sh3 hr3 hf3 Fl3 of3 dv3 hp3 ⊢;refine⟨_,rfl,fo,rfl,.inl ⟨_,.inl hf3⟩,_,rfl,fun e ne=>?_⟩;have ue:=zF (o:=.dK []) ne;have e10:H1 e=none:=free1 sh3 hr3 hf3 of3 ne;have sh4:=sh3.same ue;have hr4:=ue _ _ hr3;have hf4:=ue _ _ hf3;have Fl4:=Fl3.same ue;have of4:=of3.trans (Off.of ue);have dv4:=Dt.same ue _ _ dv3;have hp4:=ue _ _ hp3;have he4:upd H3 e (.dK []) e=some (.dK []):=zB;have nfe:∀q∈fa,q.2≠e:=fun q hq z=>by
     obtain⟨kq,hq1,_⟩:=Fl3.at_ q hq;rw[z,ne]at hq1;cases hq1
    generalize upd H3 e (.dK [])=H4 at sh4 hr4 hf4 Fl4 of4 dv4 hp4 he4 ⊢;clear sh2 hr2 hf2 Fl2 of2 dv2 go free1 sh3 hr3 hf3 Fl3 of3 dv3 hp3 up np;have lfa:fa.map (·.1)=Cn (fs.take i):=Fl4.lab;have fal:fa.length<=63:=by
     have:=congrArg List.length lfa;rw[Q7]at this;have h2:=qO (fs.take i);rw[ZD]at h2;omega
    have neX:∀{x:Eh},H1 x=none->x∉rw'::fo::fp:=fun{x} hx z=>by
     obtain⟨o',e'⟩:=ex1 x z;rw[hx]at e';cases e'
    by_cases inl:l∈Cn (fs.take i)
    ·have inf:l∈fa.map (·.1):=by rwa[lfa]
     obtain⟨pr,hpr,el2⟩:=Zb.mp inf;obtain⟨pl1,pb⟩:=pr;have el2:pl1=l:=el2;subst el2;have vv:=uA Fl4.labs_nd hpr;refine⟨_,DGet.k (k:=.inr pl1) hf4,?_⟩;rw[vv];obtain⟨kb,hb,fb⟩:=Fl4.at_ _ hpr;have hb:H4 pb=some (.dK kb):=hb;have fb:FsAt K H4 (sub (fs.take i) pl1) kb:=fb;have nb:H1 pb=none:=Fl4.new _ hpr;have kbl:kb.length<=63:=by
      have:=fb.len;have h2:=sub_len (fs:=fs.take i) (l:=pl1);rw[ZD]at h2;omega
     refine⟨_,rfl,_,rfl,_,rfl,p,_,_,_,rfl,rfl,SqT.of hp4,rfl,pb,_,rfl,DPut.k (k:=.inr (Cc (b::r))) hb (yS (by omega)),?_⟩;have pn:putK kb (.inr (Cc (b::r))) v=kb++[(.inr (Cc (b::r)),v)]:=qQ (by rwa[fb.keys]);rw[pn];have Fl5:=Fl4.old hpr hb fb e1 dv4 lnok;rw[←etk]at Fl5;have bX:=neX nb;have b_rw:rw'≠pb:=fun z=>bX (by rw[←z];exact Zc ..);have b_fo:fo≠pb:=fun z=>bX (by rw[←z];exact Za _ (Zc ..));have b_fp:pb∉fp:=fun z=>bX (Za _ (Za _ z));have of5:Off (rw'::fo::fp) H1 (upd H4 pb (.dK (kb++[((.inr (Cc (b::r)):Key),v)]))):=fun x o nx ex=>by
      rw[zH (fun z=>by rw[z,nb]at ex;cases ex)];exact of4 x o nx ex
     have sh5:=sh4.off (zO hb) (zY (o:=.dK (kb++[((.inr (Cc (b::r)):Key),v)]))) fun x hx z=>b_fp (by rwa[←Q8.mp z]);have hr5:=(zH (o:=.dK (kb++[((.inr (Cc (b::r)):Key),v)])) b_rw).trans hr4;have hf5:=(zH (o:=.dK (kb++[((.inr (Cc (b::r)):Key),v)])) b_fo).trans hf4;generalize upd H4 pb (.dK (kb++[((.inr (Cc (b::r)):Key),v)]))=H5 at Fl5 of5 sh5 hr5 hf5 ⊢;refine⟨_,rfl,_,rfl,_,rfl,fo,_,rfl,DPut.k (k:=.inr pl1) hf5 (yS (by unfold Cs;rw[Q7];omega)),hD _ _ ⟨_,_,_,_,_,fa,rfl,?_,?_,?_,?_,?_⟩⟩
     ·rw[el];exact sh5.off (zO hf5) zY fun x hx z=>fnp (Q8.mp z▸hx)
     ·rwa[el,zH rf]
     ·rw[zB];exact congrArg (fun z=>some (HO.dK z)) (CT Fl4.labs_nd hpr)
     ·exact Fl5.off (X:=[fo]) (fun c hc=>by rw[Q8.mp hc];exact⟨_,hfz⟩) (zO hf5) zY
     ·exact of5.upd (Za _ (Zc ..))
    ·have inf:l∉fa.map (·.1):=by rwa[lfa]
     have vv:=N3 inf;refine⟨_,DGet.k (k:=.inr l) hf4,?_⟩;rw[vv];refine⟨_,rfl,_,rfl,_,rfl,p,_,_,_,rfl,rfl,SqT.of hp4,rfl,e,_,rfl,DPut.k (k:=.inr (Cc (b::r))) he4 (yS (by show 0<16777216;decide)),?_⟩;have bX:=neX e10;have b_rw:rw'≠e:=fun z=>bX (by rw[←z];exact Zc ..);have b_fo:fo≠e:=fun z=>bX (by rw[←z];exact Za _ (Zc ..));have b_fp:e∉fp:=fun z=>bX (Za _ (Za _ z));have pn:putK ([]:Dl) (.inr (Cc (b::r))) v=[(.inr (Cc (b::r)),v)]:=rfl;rw[pn];have Fl5:=Fl4.fresh' inl he4 e10 nfe e1 dv4 lnok;rw[←etk]at Fl5;have of5:Off (rw'::fo::fp) H1 (upd H4 e (.dK [((.inr (Cc (b::r)):Key),v)])):=fun x o nx ex=>by
      rw[zH (fun z=>by rw[z,e10]at ex;cases ex)];exact of4 x o nx ex
     have sh5:=sh4.off (zO he4) (zY (o:=.dK [((.inr (Cc (b::r)):Key),v)])) fun x hx z=>b_fp (by rwa[←Q8.mp z]);have hr5:=(zH (o:=.dK [((.inr (Cc (b::r)):Key),v)]) b_rw).trans hr4;have hf5:=(zH (o:=.dK [((.inr (Cc (b::r)):Key),v)]) b_fo).trans hf4;generalize upd H4 e (.dK [((.inr (Cc (b::r)):Key),v)])=H5 at Fl5 of5 sh5 hr5 hf5 ⊢;refine⟨_,rfl,_,rfl,_,rfl,fo,_,rfl,DPut.k (k:=.inr l) hf5 (yS (by unfold Cs;rw[Q7];omega)),hD _ _ ⟨_,_,_,_,_,fa++[(l,e)],rfl,?_,?_,?_,?_,?_⟩⟩
     ·rw[el];exact sh5.off (zO hf5) zY fun x hx z=>fnp (Q8.mp z▸hx)
     ·rwa[el,zH rf]
     ·rw[zB];exact congrArg (fun z=>some (HO.dK z)) (CS inf)
     ·exact Fl5.off (X:=[fo]) (fun c hc=>by rw[Q8.mp hc];exact⟨_,hfz⟩) (zO hf5) zY
     ·exact of5.upd (Za _ (Zc ..))
  ·rintro σ H' ⟨o4,o5,o6,o7,o8,fa,rfl,sh',hr',hf',Fl,of'⟩;rw[kl,ZJ]at sh' hr' Fl;refine⟨c,ob,Dm,of' _ _ cX hcz,fun o u z=>?_,?_⟩
   ·have z:H c=some (.frz o u):=z;rw[hc]at z;cases z
   have hc2:=of' _ _ cX hcz;have frn:∀x∈[c],∀xs,¬Rd H' x (.tup xs):=fun x hx xs z=>by
    rw[Q8.mp hx]at z
    rcases z with z|⟨o,z⟩<;>rw[hc2]at z<;>cases z
   have oc:Off [c] H' (upd H' c (.dK Dm)):=zY;have sh2:ShAt P w K aC (upd H' c (.dK Dm)) a fp ((Ck fs).foldl Ce (S,[])).1:=sh'.off frn oc fun x hx z=>ncf (Q8.mp z▸hx);have hr2:upd H' c (.dK Dm) rw'=some (.dK (Cq ((Ck fs).foldl Ce (S,[])).2)):=by rwa[zH (EA cr)]
   have hf2:upd H' c (.dK Dm) fo=some (.dK (Cs fa)):=by rwa[zH (EA cf)]
   have Fl2:Fols K H1 (upd H' c (.dK Dm)) fs fa:=Fl.off (X:=[c]) (fun x hx=>by rw[Q8.mp hx];exact⟨_,hcz⟩) frn oc;have of2:Off fp H (upd H' c (.dK Dm)):=fun x o nx ex=>by
    by_cases z:x=c
    ·rw[z,zB];rw[z,hc]at ex;exact ex
    ·rw[zH z];refine of' x o (fun q=>?_) (by rw[nz z];exact sb _ _ ex)
     rcases Zi.mp q with q|q
     ·rw[q,nrw0]at ex;cases ex
     ·rcases Zi.mp q with q|q
      ·rw[q,nfo0]at ex;cases ex
      ·exact nx q
   generalize upd H' c (.dK Dm)=H2 at sh2 hr2 hf2 Fl2 of2 ⊢;clear sh' hr' hf' Fl of' hc2 frn oc;refine⟨_,rfl,fo,Cs fa,rfl,hf2,fun ob2=>?_⟩;have of3:Off [fo] H2 (upd H2 fo (.frz ob2 (.dK (Cs fa)))):=zY;have hf3:upd H2 fo (.frz ob2 (.dK (Cs fa))) fo=some (.frz ob2 (.dK (Cs fa))):=zB;have sh3:ShAt P w K aC (upd H2 fo (.frz ob2 (.dK (Cs fa)))) a fp ((Ck fs).foldl Ce (S,[])).1:=sh2.off (zO hf2) of3 fun x hx z=>fnp (Q8.mp z▸hx);have hr3:upd H2 fo (.frz ob2 (.dK (Cs fa))) rw'=some (.dK (Cq ((Ck fs).foldl Ce (S,[])).2)):=by rwa[zH rf]
   have Fl3:Fols K H1 (upd H2 fo (.frz ob2 (.dK (Cs fa)))) fs fa:=Fl2.off (X:=[fo]) (fun x hx=>by rw[Q8.mp hx];exact⟨_,hfz⟩) (zO hf2) of3;have of4:Off fp H (upd H2 fo (.frz ob2 (.dK (Cs fa)))):=fun x o nx ex=>by
    rw[zH (fun z=>by rw[z,nfo0]at ex;cases ex)];exact of2 x o nx ex
   generalize upd H2 fo (.frz ob2 (.dK (Cs fa)))=H3 at of3 hf3 sh3 hr3 Fl3 of4 ⊢;have fal:fa.map (·.1)=Cn fs:=Fl3.lab;have falen:(Cs fa).length=(Cn fs).length:=by rw[←fal,Q7];unfold Cs;rw[Q7]
   have f60:(Ck fs).length+(Cn fs).length<=63:=by have:=qO fs;omega
   refine⟨fo,ob2,Cs fa,rfl,hf3,Iu (fun j σ H'=>∃o4 o5 o6 o7 o8,σ=[some (.ref a),some (.ref c),some (.ref rw'),some (.ref fo),o4,o5,o6,o7,o8]/\ShAt P w K aC H' a fp (((Cn fs).take j).foldl (Cj d fs) ((Ck fs).foldl Ce (S,[]))).1/\H' rw'=some (.dK (Cq (((Cn fs).take j).foldl (Cj d fs) ((Ck fs).foldl Ce (S,[]))).2))/\H' fo=some (.frz ob2 (.dK (Cs fa)))/\Fols K H1 H' fs fa/\Off fp H H') ⟨o4,o5,o6,o7,o8,rfl,sh3,hr3,hf3,Fl3,of4⟩ (fun j σ H' hj h=>?_) ?_ ?_⟩
   ·obtain⟨_,_,_,_,_,_,_,_,hf,_⟩:=h;exact hf
   ·clear sh3 hr3 hf3 Fl3 of4 sh2 hr2 hf2 Fl2 of2;rintro j kk v T0 σ H' hj ⟨o4,o5,o6,o7,o8,rfl,sh',hr',hf',Fl,of'⟩ nT D' hD;unfold Cs at hj;rw[Zp]at hj;obtain⟨pr,hj2,hj⟩:=Z2.mp hj;obtain⟨l,b⟩:=pr;have hj:((.inr l:Key),V.ref b)=(kk,v):=hj;cases hj;have hpr:=Zm hj2;have hjl:(Cn fs)[j]?=some l:=by rw[←fal,Zp,hj2];rfl
    obtain⟨ok',ll',lb'⟩:=WF ok gf fl sl hjl;have uT:=zF (o:=.tup [V.str l,V.ref b]) nT;refine⟨T0,_,rfl,SqT.of zB,rfl,_,_,rfl,_,_,rfl,rfl,?_⟩;have sh5:=sh'.same uT;have hr5:=uT _ _ hr';have hf5:=uT _ _ hf';have Fl5:=Fl.same uT;have of5:=of'.trans (Off.of uT);show RZ _ _ _ _ _ (upd H' T0 (.tup [V.str l,V.ref b]));generalize upd H' T0 (.tup [V.str l,V.ref b])=H5 at sh5 hr5 hf5 Fl5 of5 ⊢;clear sh' hr' hf' Fl of' uT nT;obtain⟨kb,hb,fb⟩:=Fl5.at_ _ hpr;have hb:H5 b=some (.dK kb):=hb;have fb:FsAt K H5 (sub fs l) kb:=fb;have nb:H1 b=none:=Fl5.new _ hpr;have bfp:b∉fp:=fun z=>by
     obtain⟨o',e'⟩:=shz.ex b z;rw[nb]at e';cases e'
    cases d with
    |zero =>
     obtain⟨f,hf,b,r,ef⟩:=((xI fs).2 l).mp (Zm hjl);have:=(gf.lab f hf).2.1;rw[ef,Zh,Zh]at this;omega
    |succ d =>
     have el:(Cn fs).take (j+1)=(Cn fs).take j++[l]:=take_snoc hjl;have ef:((Cn fs).take (j+1)).foldl (Cj (d+1) fs) ((Ck fs).foldl Ce (S,[]))=Cj (d+1) fs (((Cn fs).take j).foldl (Cj (d+1) fs) ((Ck fs).foldl Ce (S,[]))) l:=by rw[el,YL];rfl
     have nl:l∉(((Cn fs).take j).foldl (Cj (d+1) fs) ((Ck fs).foldl Ce (S,[]))).2.map (·.1):=fun z=>by
      rw[lb']at z;have nd:=Xp gf;have e0:(pieces fs).map (·.1)=(Ck fs).map (·.1)++Cn fs:=by
       unfold pieces;rw[Zl,ZB,ZB]
       congr 1
       exact VE _
      rw[e0,←ZW j (Cn fs),←Z0,Ye]at nd;have hd:(Cn fs).drop j=l::(Cn fs).drop (j+1):=by
       have:=(Zu.mp hjl);rw[←this.2];exact JT this.1
      exact nd.2.2 l z l (by rw[hd];exact Zc ..) rfl
     have ql:(((Cn fs).take j).foldl (Cj (d+1) fs) ((Ck fs).foldl Ce (S,[]))).2.length<=63:=by
      have:=congrArg List.length lb';rw[Q7,Zj,Q7,ZD]at this;omega
     generalize ((Cn fs).take j).foldl (Cj (d+1) fs) ((Ck fs).foldl Ce (S,[]))=q at sh5 hr5 ok' ll' ef nl ql;refine⟨_,rfl,_,rfl,a,b,fp,q.1,sub fs l,kb,rfl,sh5,ok',hb,bfp,fb,gf.sub l,Z5 sub_len fl,ll',fun H6 of6 sh6=>?_⟩;have hr6:H6 rw'=_:=of6 _ _ rnp hr5;have hf6:H6 fo=_:=of6 _ _ fnp hf5;have Fl6:=Fl5.off (X:=fp) (fun c hc=>shz.ex c hc) sh5.noseq.tup of6;refine⟨_,rfl,_,rfl,rw',_,rfl,DPut.k (k:=.inr l) hr6 (yS (by unfold Cq;rw[Q7];omega)),hD _ _ ⟨_,_,_,_,_,rfl,?_,?_,?_,?_,?_⟩⟩
     ·rw[ef];exact sh6.off (zO hr6) zY fun x hx z=>rnp (Q8.mp z▸hx)
     ·rw[ef,zB,BK nl];rfl
     ·rwa[zH (EA rf)]
     ·exact Fl6.off (X:=[rw']) (fun c hc=>by rw[Q8.mp hc];exact⟨_,hrz⟩) (zO hr6) zY
     ·intro x o nx ex;rw[zH (fun z=>by rw[z,nrw0]at ex;cases ex)];exact of6 x o nx (of5 x o nx ex)
   ·rintro σ H' ⟨o4,o5,o6,o7,o8,rfl,sh',hr',hf',Fl,of'⟩;rw[falen,ZJ]at sh' hr';refine⟨fo,ob2,Cs fa,hf',fun o u z=>?_,?_⟩
    ·have z:H fo=some (.frz o u):=z;rw[nfo0]at z;cases z
    have frn:∀x∈[fo],∀xs,¬Rd H' x (.tup xs):=fun x hx xs z=>by
     rw[Q8.mp hx]at z
     rcases z with z|⟨o,z⟩<;>rw[hf']at z<;>cases z
    have sh6:=sh'.off frn (zY (o:=.dK (Cs fa))) fun x hx z=>fnp (Q8.mp z▸hx);have hr6:=(zH (o:=.dK (Cs fa)) rf).trans hr';have of6:Off fp H (upd H' fo (.dK (Cs fa))):=fun x o nx ex=>by
     rw[zH (fun z=>by rw[z,nfo0]at ex;cases ex)];exact of' x o nx ex
    have fe:=TJ ok gf fl sl (q:=(Cn fs).foldl (Cj d fs) ((Ck fs).foldl Ce (S,[]))) rfl;have pf:=K2 d S fs;rw[pf]at k;generalize (Cn fs).foldl (Cj d fs) ((Ck fs).foldl Ce (S,[]))=q at sh6 hr6 fe k;obtain⟨g1,g2,g3,g4,g5⟩:=fe;exact⟨_,rfl,_,rfl,a,rw',fp,q.1,q.2,rfl,sh6,g1,.inl hr6,g3,fun r hr=>⟨(g4 r hr).1,let ⟨e,te⟩:=(g4 r hr).2;KB te⟩,g5,g2,fun H7 of7 sh7=>k H7 (of6.trans of7) sh7⟩
end AJ
theorem N5 (g:GoodF n fs){f:Fi}(hf:f∈fs){z:Str}(hz:z∈XJ (Cc f.1)):∀k∈fs,z≠Cc k.1:=fun k hk e=>by
 obtain⟨f0,_,fl,_⟩:=g.lab f hf;obtain⟨k0,_,kl,_⟩:=g.lab k hk;have lf:labs (Cc f.1)=f.1:=jD f0 fun y hy=>xP (fl y hy);unfold XJ at hz;obtain⟨i,hi,ez⟩:=Zb.mp hz;rw[lf]at hi ez;have hi:=Jb.mp hi;have ez:Cc (f.1.take (i+1))=z:=ez;have t0:f.1.take (i+1)≠[]:=by
  intro q;have:=congrArg List.length q;rw[ZD,Yj]at this;omega
 have:=x4 (d:=0) t0 k0 (fun y hy=>fl y (Y1 hy)) kl (ez.trans e);have e2:f.1=k.1++f.1.drop (i+1):=by rw[←this,ZW]
 have:=congrArg List.length (g.pre k hk f hf _ e2);rw[YH,Yj]at this;omega
theorem Bm {f:Fi}{n:Nat}(n4:n<=4){fs:Dk}(g:GoodF n fs)(hf:f∈fs):UV (.str (Cc f.1))=true/\vJ (AnJ.tupS f.2)=true/\small (.str (Cc f.1))=true/\small (AnJ.tupS f.2)=true:=by
 obtain⟨f0,f1,fl,fn⟩:=g.lab f hf;refine⟨jH f0 (by omega) fl,?_,?_,?_⟩
 ·show(f.2.map Le).all UQ=true;rw[List.all_map,ZI];exact fn.2
 ·refine Zf ?_;have:=vS fl;rw[length_cs];omega
 ·show(decide ((f.2.map Le).length<=1000)&&yF (f.2.map .str))=true;rw[jY fun l hl=>(XS (fn.2 l hl)).len,Q7,Zf (show f.2.length<=1000 by have:=fn.1;omega)];rfl
def Mx (K:Cd):Sp:=fun vs H Q _=>∃(c:Eh) (Dm:Dl) (fs:Dk),vs=[.ref c]/\H c=some (.dK Dm)/\FsAt K H fs Dm/\GoodF 4 fs/\fs.length<=63/\∀H',Same H H'->Q .non H'
def Pg (P:Ei)(w:Em)(K:Cd)(C:Eh):Sp:=fun vs H Q _=>∃(a c:Eh) (fp:Dd) (S:Di) (fs:Dk) (Dm:Dl),vs=[.ref a,.ref c]/\ShAt P w K C H a fp S/\OkS S/\H c=some (.dK Dm)/\c∉fp/\FsAt K H fs Dm/\GoodF 4 fs/\fs.length<=63/\S.length+1+wt fs<=2000 /\
 ∀H',Off fp H H'->ShAt P w K C H' a fp (Us 4 S fs).1->Q (.str (Us 4 S fs).2) H'
theorem kU {H:Hp}{c:Eh}{ob:Obj}{Dm:Dl}(hc:H c=some (.dK Dm))(e:Same (upd H c (.frz ob (.dK Dm))) H2):Same H (upd H2 c (.dK Dm)):=fun b o h=>by
 by_cases z:b=c
 ·rw[z,zB];rw[z,hc]at h;exact h
 ·rw[zH z];exact e _ _ (by rwa[zH z])
namespace AJ
theorem ok0 (F:Fun K "put_files" "put_files" st f fd):FnOk P w K mg base Cm 8 f fd ["shelf","files"] (Gf P w K aC 0) :=
 F.ok sc (fun vs H Q E h=>EB h) (fun cdv A outer s H vs Q E hr h=>EB h)
theorem ok (F:Fun K "put_files" "put_files" st f fd)(T:Txt P w K mg t1 t2 t3 t4 t5 t6 t7 aL aC aN aT aA b1 b2 b3)(Qd:MetX P w K mg base aC 7 "put" ["self","thing"] (U3 P w K aC aN aT))(Qb:Cal P w K mg base 8 "put_rows" ["shelf","rows"] (xJ P w K aC))(Hm:mg "put_files"=some (.ref f))(Hb:Binds K fd ["shelf","files"] []):FnOk P w K mg base Cm 12 f fd ["shelf","files"] (Gf P w K aC 4):=by
 have c0:=Cal.mk' F (ok0 (P:=P) (w:=w) (mg:=mg) (base:=base) (aC:=aC) F) Hm Hb;have c1:=Cal.mk' F (step F T Qd Qb (by decide) (by decide) c0) Hm Hb;have c2:=Cal.mk' F (step F T Qd Qb (by decide) (by decide) c1) Hm Hb;have c3:=Cal.mk' F (step F T Qd Qb (by decide) (by decide) c2) Hm Hb;exact step F T Qd Qb (by decide) (by decide) c3
end AJ
namespace AK
abbrev st:Stmt:=top 39
theorem sc:FnScope ["files","path","lines"] ["files"] (zG st):=Cp
theorem ok (F:Fun K "need_files" "need_files" st f fd)(T:Txt P w K mg t1 t2 t3 t4 t5 t6 t7 aL aC aN aT aA b1 b2 b3)(QT:Cal P w K mg base 4 "is_file" ["path","lines"] (Pc K))(Qs:Cal P w K mg base 1 "folders_of" ["path"] (Ka K)):FnOk P w K mg base (Cz P w) 5 f fd ["files"] (Mx K):=by
 refine F.okX sc (fun vs H Q E h=>?_) (fun cdv A outer s H vs Q E hr h=>?_)
 ·obtain⟨c,Dm,fs,rfl,_⟩:=h;rfl
 ·obtain⟨c,Dm,fs,rfl,hc,ff,gf,fl,k⟩:=h;refine⟨_,(zE (yI (yZ (zS (K:=K) (zL (CallR.or (zX (K:=K)) (jR (K:=K))) (by rfl) T.isinstance ZE (zA (pv 0) (zA (yY (v:=.ty "dict") rfl T.dict YN rfl) zC))) (fun _=>rfl))) (zD (y7 rfl yR rfl T.BadFiles T.xBadFiles (zA pe_str zC))) zQ) (zE (uI (xN Ls rfl (Gd (uS (pv 0))) (Xe rfl (y8 (zU (i:=1) sc.nd rfl (EJ rfl)) (y8 (zU (i:=2) sc.nd rfl (EJ rfl)) uH))) (zD (yI (yZ (zS (K:=K) (zJ QT hr.m (zA (pv 1) (zA (pv 2) zC))) (fun _=>rfl))) (zD (y7 rfl yR rfl T.BadFiles T.xBadFiles (zA pe_str zC))) zQ)))) (zD (uI (xN Ls rfl (vN (uS (pv 0))) (zU (i:=1) sc.nd rfl (EJ rfl)) (zD (yI (zS (K:=K) (zL (NP rfl) (by rfl) T.any PyProof.Rows.boot_any (zA (xC (sc:=zG st) (N:=["files","path","lines"]) (N':=["folder","files"]) (src:=[none,some 0]) ⟨by decide +kernel,rfl,rfl,by decide +kernel,by decide +kernel,by decide +kernel,by decide +kernel⟩ rfl rfl rfl (kF (zJ Qs hr.m (zA (pv 1) zC))) (fun _ _ _ _=>(zU (i:=0) (show(["folder","files"]:Da).Nodup by decide +kernel) rfl (EJ rfl))) (fun _ _ _ _=>qD) (fun _ _ _ _=>(yE (IL hr.units) (pv 0) (pv 1) (by with_unfolding_all rfl)))) zC)) (fun _=>rfl)) (zD (y7 rfl yR rfl T.BadFiles T.xBadFiles (zA pe_str zC))) zQ))))))),?_⟩
  refine⟨_,rfl,.inr ⟨c,"dict",Dm,_,rfl,.inl hc,T.kit _ (by simp[kinds]) _ (by simp[kinds]),_,rfl,Uo ?_⟩⟩;refine⟨_,rfl,c,Dm,rfl,hc,fun ob=>?_⟩;have kl:Dm.length=fs.length:=ff.len;have hc1:upd H c (.frz ob (.dK Dm)) c=some (.frz ob (.dK Dm)):=zB;have ff1:=ff.off (zO hc) (zY (o:=.frz ob (.dK Dm)));refine⟨c,ob,Dm,rfl,hc1,GQ (fun i σ H2=>∃o1 o2,σ=[some (.ref c),o1,o2]/\Same (upd H c (.frz ob (.dK Dm))) H2) ⟨none,none,rfl,Same.refl _⟩ (fun i σ H2 hi ⟨_,_,_,e2⟩=>e2 _ _ hc1) ?_ ?_⟩
  ·rintro i kk v T0 σ H2 hi ⟨o1,o2,rfl,e2⟩ nT;obtain⟨f,hfi,rfl,dv,ln⟩:=(ff1.same e2).get hi;obtain⟨g1,g2,g3,g4⟩:=Bm (Ze 4) gf (Zm hfi);have uT:=zF (o:=.tup [kV (.inr (Cc f.1)),v]) nT;refine⟨T0,_,rfl,SqT.of zB,rfl,_,_,rfl,_,_,rfl,rfl,?_⟩;refine⟨_,rfl,_,rfl,.str (Cc f.1),AnJ.tupS f.2,_,_,rfl,rfl,Dt.dw (Dt.same uT _ _ dv),g3,g4,fun H3 s3=>⟨_,rfl,?_⟩⟩;rw[g1,g2];exact Uo ⟨_,_,rfl,(e2.trans uT).trans s3⟩
  ·rintro σ H2 ⟨o1,o2,rfl,e2⟩;refine⟨c,ob,Dm,e2 _ _ hc1,fun o u z=>?_,?_⟩
   ·have z:H c=some (.frz o u):=z;rw[hc]at z;cases z
   have e3:=kU hc e2;have hc3:upd H2 c (.dK Dm) c=some (.dK Dm):=zB;generalize upd H2 c (.dK Dm)=H3 at e3 hc3 ⊢;clear e2 ff1 hc1;refine⟨_,rfl,c,Dm,rfl,hc3,fun ob=>?_⟩;have hc1:upd H3 c (.frz ob (.dK Dm)) c=some (.frz ob (.dK Dm)):=zB;refine⟨c,ob,Dm,rfl,hc1,vA (fun i σ H2=>∃o1 o2,σ=[some (.ref c),o1,o2]/\Same (upd H3 c (.frz ob (.dK Dm))) H2) ⟨o1,o2,rfl,Same.refl _⟩ (fun i σ H2 hi ⟨_,_,_,e2⟩=>e2 _ _ hc1) ?_ ?_⟩
   ·rintro i kk v σ H4 hi ⟨o1,o2,rfl,e4⟩;obtain⟨f,hfi,rfl,_,_⟩:=ff.get hi;have hfm:=Zm hfi;obtain⟨_,_,g3,_⟩:=Bm (Ze 4) gf hfm;have xl:(Cc f.1).length<=1000:=Zx g3;refine⟨_,rfl,Cc f.1,rfl,xl,fun lp H5 s5 hlp=>?_⟩;have fll:(XJ (Cc f.1)).length<=1001:=by
     unfold XJ;rw[Q7,Yn];have:=vD (Cc f.1);omega
    refine⟨lp,rfl,⟨_,hlp⟩,jU (K:=K) (a:=lp) (xs:=(XJ (Cc f.1)).map V.str) (fun i ys σ' H6=>∃o,σ'=[o,some (.ref c)]/\Same H5 H6/\ys.length=i/\∀y∈ys,y=V.bl false) ⟨none,rfl,Same.refl _,rfl,fun y hy=>(nomatch hy)⟩ (le_line (by rw[Q7];omega)) ?_ ?_ ?_⟩
    ·rintro i ys σ' H6 hi' ⟨o,rfl,e6,yl,_⟩;exact⟨e6.seq hlp,by omega⟩
    ·rintro i y ys σ' H6 hy ⟨o,rfl,e6,yl,yf⟩;rw[Zp]at hy;obtain⟨z,hz,rfl⟩:=Z2.mp hy;refine⟨_,rfl,_,rfl,c,_,rfl,P0 (k:=.inr z) (((e4.trans s5).trans e6) _ _ hc1),_,rfl,e6,by rw[Zj,yl];rfl,fun y hy=>?_⟩
     rcases Zt.mp hy with q|q
     ·exact yf y q
     ·rw[Q8.mp q]
      congr 1
      cases q:Ur Dm (.inr z) with
      |none=>rfl
      |some v =>
       have:=j7 q;rw[ff.keys]at this;obtain⟨g,hg,e⟩:=Zb.mp this;exact absurd (Sum.inr.inj e).symm (N5 gf hfm (Zm hz) g hg)
    ·rintro ys σ' H6 ⟨o,rfl,e6,yl,yf⟩ p np;have ey:ys=(EL ys.length false).map V.bl:=by
      rw[J9];exact JJ.mpr ⟨rfl,yf⟩
     refine⟨p,EL ys.length false,rfl,SqL.of (by rw[zB];exact congrArg (fun z=>some (HO.lst z)) ey),_,rfl,?_⟩;have ea:(EL ys.length false).any id=false:=by
      rw[VT];intro x hx;rw[Jn hx]
      decide
     rw[ea];exact Uo ⟨_,_,rfl,((e4.trans s5).trans e6).trans (zF np)⟩
   ·rintro σ H4 ⟨o1,o2,rfl,e4⟩;refine⟨c,ob,Dm,e4 _ _ hc1,fun o u z=>?_,?_⟩
    ·have z:H c=some (.frz o u):=z;rw[hc]at z;cases z
    exact k _ (e3.trans (kU hc3 e4))
end AK
namespace AL
abbrev st:Stmt:=top 45
theorem sc:FnScope ["shelf","files"] ["shelf","files"] (zG st):=Cp
theorem ok (F:Fun K "keep_files" "keep_files" st f fd)(T:Txt P w K mg t1 t2 t3 t4 t5 t6 t7 aL aC aN aT aA b1 b2 b3)(QU:CalX P w K mg base 5 "need_files" ["files"] (Mx K))(Qr:Cal P w K mg base 12 "put_files" ["shelf","files"] (Gf P w K aC 4)):FnOk P w K mg base (Cz P w) 13 f fd ["shelf","files"] (Pg P w K aC):=by
 refine F.okX sc (fun vs H Q E h=>?_) (fun cdv A outer s H vs Q E hr h=>?_)
 ·obtain⟨a,c,fp,S,fs,Dm,rfl,_⟩:=h;rfl
 ·obtain⟨a,c,fp,S,fs,Dm,rfl,sh,ok,hc,nc,ff,gf,fl,sl,k⟩:=h;refine⟨_,(zE (yM (yD QU hr.m yA (zA (pv 1) zC))) (zD (zM (zJ Qr hr.m (zA (pv 0) (zA (pv 1) zC)))))),?_⟩
  refine⟨_,rfl,c,Dm,fs,rfl,hc,ff,gf,fl,fun H1 e1=>?_⟩;exact⟨_,rfl,_,rfl,a,c,fp,S,fs,Dm,rfl,sh.same e1,ok,e1 _ _ hc,nc,ff.same e1,gf,fl,sl,fun H2 of2 sh2=>k H2 (fun b o nb e=>of2 b o nb (e1 _ _ e)) sh2⟩
end AL
end
end An09
namespace An
open PySem L2 AnJ
structure FsP (K:Cd)(H:Hp)(ah:Str)(fs:Dk)(Dm:Dl):Prop where
 keys:Dm.map (·.1)=fs.map fun f=>(.inr (ah++Cc f.1):Key)
 val:∀(i:Nat) (f:Fi) (kv:Key×V),fs[i]?=some f->Dm[i]?=some kv->Dt K H (tupS f.2) kv.2/\Uz f.2
section
variable {K:Cd}{H H':Hp}{ah l:Str}{fs gs:Dk}{Dm more:Dl}
theorem FsP.nil:FsP K H ah [] []:=⟨rfl,fun i f kv h=>(nomatch h)⟩
theorem FsP.len (h:FsP K H ah fs Dm):Dm.length=fs.length:=by
 have:=congrArg List.length h.keys;rw[Q7,Q7]at this;exact this
theorem FsP.same (h:FsP K H ah fs Dm)(e:Same H H'):FsP K H' ah fs Dm:=⟨h.keys,fun i f kv a b=>⟨Dt.same e _ _ (h.val i f kv a b).1,(h.val i f kv a b).2⟩⟩
theorem FsP.off {X:Dd}(h:FsP K H ah fs Dm)(n:∀b∈X,∀xs,¬Rd H b (.tup xs))(o:Off X H H'):FsP K H' ah fs Dm:=⟨h.keys,fun i f kv a b=>⟨Dt.off n o _ _ (qK (h.val i f kv a b).2) (h.val i f kv a b).1,(h.val i f kv a b).2⟩⟩
theorem FsP.app (h:FsP K H ah fs Dm)(k:FsP K H ah gs more):FsP K H ah (fs++gs) (Dm++more):=by
 refine⟨by rw[Zl,Zl,h.keys,k.keys],fun i g kv a b=>?_⟩
 by_cases z:i<fs.length
 ·rw[ZR z]at a;rw[ZR (by rwa[h.len])]at b;exact h.val i g kv a b
 ·rw[ZU (by omega)]at a;rw[ZU (by rw[h.len];omega),h.len]at b;exact k.val _ g kv a b
theorem PJ (ah l:Str){p:Da}(h:p≠[]):ah++l++"/"++Cc p=ah++Cc (l::p):=cs_inj (by
 have:cs ("/":Str)=[47]:=by decide +kernel
 rw[cs_append,cs_append,cs_append,cs_append,qN l h,this];simp)
theorem NI (ah l:Str):ah++l=ah++Cc [l]:=by rw[uY]
theorem FsP.deep (h:FsP K H (ah++l++"/") fs Dm)(ne:∀f∈fs,f.1≠[]):FsP K H ah (fs.map fun f=>(l::f.1,f.2)) Dm:=by
 refine⟨?_,fun i f kv a b=>?_⟩
 ·rw[h.keys,ZB];exact ZS fun f hf=>by
   show(Er (ah++l++"/"++Cc f.1):Key)=.inr (ah++Cc (l::f.1));rw[PJ ah l (ne f hf)]
 ·rw[Zp]at a;obtain⟨g,hg,rfl⟩:=Z2.mp a;exact h.val i g kv hg b
theorem FsP.one (hv:Dt K H (tupS ls) v)(hl:Uz ls):FsP K H ah [([l],ls)] [(.inr (ah++l),v)]:=by
 refine⟨by rw[NI];rfl,fun i f kv a b=>?_⟩;cases i with
 |zero=>cases a;cases b;exact⟨hv,hl⟩
 |succ i=>cases a
theorem FsP.at (h:FsP K H "" fs Dm):FsAt K H fs Dm:=⟨by
 rw[h.keys];exact ZS fun f _=>by
  congr 1
  exact cs_inj (by rw[cs_append];rfl),h.val⟩
end
theorem uB:∀{more Dm:Dl},(∀k∈more.map (·.1),k∉Dm.map (·.1))->(more.map (·.1)).Nodup->putAll Dm more=Dm++more
 |[],Dm,_,_=>(Zs _).symm
 |p::more,Dm,h,nd=>by
  rw[ZC,Z8]at nd;show putAll (putK Dm p.1 p.2) more=_;rw[qQ (h p.1 (Zc ..)),uB (fun k hk z=>?_) nd.2,Z0]
  ·rfl
  ·rw[Zl]at z
   rcases Zt.mp z with z|z
   ·exact h k (Za _ hk) z
   ·have z:k=p.1:=Q8.mp z;exact nd.1 (z▸hk)
theorem P6 {ah:Str}{fs:Dk}(h:fs.Pairwise (fun f g=>Cy (Cc f.1) (Cc g.1))):(fs.map fun f=>(.inr (ah++Cc f.1):Key)).Nodup:=by
 rw[ZF,Z9];refine h.imp fun{a b} z e=>?_;have e:ah++Cc a.1=ah++Cc b.1:=Sum.inr.inj e;have:=congrArg cs e;rw[cs_append,cs_append]at this;exact vX z (cs_inj (Vd this))
noncomputable def Co (d:Nat)(S:Di)(r:Str×Str):Dk:=(reads d S r.2).map fun f=>(r.1::f.1,f.2)
end An
namespace AnJ
open AxK
open PySem L2 An An10 An12
end AnJ
namespace L2
open PySem PySem.Spec PyProof.Rows
end L2
namespace AxS
open PySem PySem.Spec PyProof.Rows
section
variable {prog:Ei}{w:Em}{A:EC}{E:Eg->Dh}{s:Ej}
set_option maxHeartbeats 6400000 in
end
end AxS
namespace L2
open PySem PySem.Spec PyProof.Rows AxS
end L2
namespace AxS
open PySem PySem.Spec PyProof.Rows
section
variable {prog:Ei}{w:Em}{A:EC}{E:Eg->Dh}{s:Ej}
theorem qP:plainId "dict.update.loop"=true:=by decide +kernel
theorem XE:entryFor table "dict.update.loop"=some Builtin.«dict.update.loop»:=entryFor_of_fast (by kernel_rfl)
def PairsAt (prog:Ei)(w:Em)(h:Ez)(Dn:Array Eg)(Dm:List (L2.Key×Eg)):Prop:=Dm.length=Dn.size/\∀(i:Nat) (v:Eg),Dn[i]?=some v->∃(T:Eh) (k:L2.Key) (key x:Eg),v=.ref T/\h.IsTuple T #[key,x]/\(L2.mixKind prog w).is k key=true/\Dm[i]?=some (k,x)
theorem PairsAt.at {h':Ez}(p:PairsAt prog w h Dn Dm)(e:∀T o,(∃xs,h.IsTuple T xs)->h.get? T=some o->h'.get? T=some o):PairsAt prog w h' Dn Dm:=by
 refine⟨p.1,fun i v hv=>?_⟩;obtain⟨T,k,key,x,e0,hT,hk,hx⟩:=p.2 i v hv;obtain⟨o,ho,r⟩:=id hT;exact⟨T,k,key,x,e0,⟨o,e T o ⟨_,hT⟩ ho,r⟩,hk,hx⟩
end
end AxS
namespace L2
open PySem PySem.Spec PyProof.Rows AxS
section
variable {X:Cx}{K:Cd}
def F8 (K:Cd)(H:Hp)(xs:Dj)(Dm:Dl):Prop:=xs.length=Dm.length/\∀(i:Nat) (x:V),xs[i]?=some x->∃(T:Eh) (k:Key) (v:V),x=.ref T/\SqT K H T [kV k,v]/\Dm[i]?=some (k,v)
theorem Gp (I:Inv X Dp σ H s):∀{vs:Dj} {its:Db} {Dm:Dl},Vals vs its->F8 X.K H vs Dm->∃um:List (Key×Eg),KV Dm um/\um.length=its.length/\∀(i:Nat) (v:Eg),its[i]?=some v->∃(T:Eh) (k:Key) (key x:Eg),v=.ref T/\s.heap.IsTuple T #[key,x]/\(mixKind X.prog X.w).is k key=true/\um[i]?=some (k,x)
 |[],_,Dm,.nil,p=>by
  have:Dm=[]:=Yq p.1.symm;subst this;exact⟨[],.nil,rfl,fun i v z=>(nomatch z)⟩
 |x::vs,u::its,Dm,.cons r1 r2,p=>by
  obtain⟨T,k,y,rfl,hT,hk⟩:=p.2 0 x rfl;cases Dm with
  |nil=>cases hk
  |cons kv Dm =>
   have ek:kv=(k,y):=Option.some.inj hk;subst ek;obtain⟨um,rel,len,all⟩:=Gp I (Dm:=Dm) r2 ⟨by have:=p.1;simpa using this,fun i z hz=>by
    obtain⟨T',k',y',e1,e2,e3⟩:=p.2 (i+1) z (by simpa using hz);exact⟨T',k',y',e1,e2,by simpa using e3⟩⟩
   cases r1;obtain⟨us,rv,ht,_⟩:=I.tuple hT;cases rv with
   |cons q1 rv =>
    cases rv with
    |cons q2 rv =>
     cases rv;rename_i key val;refine⟨(k,val)::um,.cons ⟨rfl,q2⟩ rel,by rw[Zh,Zh,len],fun i v hv=>?_⟩;cases i with
     |zero =>
      cases hv;exact⟨T,k,key,val,rfl,ht,vZ q1,rfl⟩
     |succ i=>exact all i v (by simpa using hv)
end
theorem Room.units1 (r:Room k A):A.units+1<cLine:=by have:=r.un;omega
section
variable {d:Eh}{Dm:Dl}{ob:Obj}{src:List (Option Nat)}{g:TG}{tf:St->Hp->(Bool->Hp->Prop)->Prop}{te:TE}{Q:VK}{σ:St}{H:Hp}
theorem MR (Pv:Nat->Dj->St->Hp->Prop)(h0:Pv 0 [] (UA src σ) H)(hz:Dm.length<=sizeLine)(hl:∀i ys σ H,i<=Dm.length->Pv i ys σ H->H d=some (.frz ob (.dK Dm))/\ys.length<=i)
  (hs:∀i k v ys σ H,Dm[i]?=some (k,v)->Pv i ys σ H->g (kV k) σ H fun σ2 H3=>tf σ2 H3 fun b H4=>if b=true then te σ2 H4 fun y H5=>Pv (i+1) (ys++[y]) σ2 H5 else Pv (i+1) ys σ2 H4)
  (hd:∀ys σ H,Pv Dm.length ys σ H->∀p,H p=none->Q (.ref p) (upd H p (.lst ys))):UK src (Tq d Dm ob) g tf te Q σ H :=
 Gb Dm.length Pv h0 hz (fun i ys σ H hi p=>(hl i ys σ H hi p).2) (fun ys σ H p=>⟨(hl _ ys σ H (Ze _) p).1,rfl⟩) (fun i ys σ H hi p=>⟨(hl i ys σ H (YF hi) p).1,hi⟩)
  (fun i ys σ H hi p x H2 y=>by
   obtain⟨eH,k,v,hx,ev⟩:=y;subst ev eH;exact hs i k v ys σ _ hx p) hd
end
end L2
namespace AnS
open PySem L2 An AnJ
end AnS
namespace An
open PySem L2
inductive Rch (par:Str->Da)(rs:Da):Str->Prop
 |root {x:Str}:x∈rs->Rch par rs x
 |step {x y:Str}:Rch par rs x->y∈par x->Rch par rs y
def Uu (S:Di):Eo->Str->Bool
 | .str x,f=>zT S x [f]
 |_,_=>false
end An
namespace An09
open PySem L2 An
seal L2.PS L2.PSs L2.PE L2.PT L2.PW L2.PA L2.PG L2.PGs L2.PI L2.PFi L2.PC
def Pj (P:Ei)(w:Em)(K:Cd)(C:Eh):Sp:=fun vs H Q _=>∃(a:Eh) (fp:Dd) (S:Di) (d:Eo) (v:V) (f:Str),vs=[.ref a,v,.str f]/\ShAt P w K C H a fp S/\(∀e∈S,GV e)/\Dw K H d v/\Q (.bl (Uu S d f)) H
def jV (P:Ei)(w:Em)(K:Cd)(C aN:Eh):Sp:=fun vs H Q E=>∃(a:Eh) (fp:Dd) (S:Di) (d:Eo) (v:V),vs=[.ref a,v]/\ShAt P w K C H a fp S/\(∀e∈S,GV e)/\Dw K H d v/\(Uu S d "tree"=true->Q .non H)/\(Uu S d "tree"=false->E (.ref aN) none H)
def jP (P:Ei)(w:Em)(K:Cd)(C:Eh):Nat->Sp
 | 0=>fun _ _ _ _=>False
 |d+1=>fun vs H Q _=>∃(a:Eh) (fp:Dd) (S:Di) (x ah:Str) (Do:Dg),vs=[.ref a,.str x,.str ah]/\ShAt P w K C H a fp S/\OkS S/\Tree (d+1) S x/\At S x (.tree Do)/\(reads (d+1) S x).length<=63/\(∀f∈reads (d+1) S x,Uz f.2)/\ah.length+10*(d+1)<=1000 /\
  ∀e Dm H',Same H H'->H e=none->H' e=some (.dK Dm)->FsP K H' ah (reads (d+1) S x) Dm->Q (.ref e) H'
def U8 (P:Ei)(w:Em)(K:Cd)(C aN:Eh):Sp:=fun vs H Q E=>∃(a:Eh) (fp:Dd) (S:Di) (x:Str),vs=[.ref a,.str x]/\ShAt P w K C H a fp S/\OkS S /\
 ((∃Do,At S x (.tree Do)/\Tree 5 S x/\(reads 5 S x).length<=63/\(∀f∈reads 5 S x,Uz f.2)/\∀e Dm H',Same H H'->H e=none->H' e=some (.dK Dm)->FsAt K H' (reads 5 S x) Dm->Q (.ref e) H') \/ (Uu S (.str x) "tree"=false/\E (.ref aN) none H))
theorem WL {Do:Dg}(h:At S x (.tree Do)):Uu S (.str x) "tree"=true:=by
 obtain⟨e,he,rfl,hd⟩:=h;refine ZY.mpr ⟨e,he,?_⟩;rw[Zk,Zv,Zv,qR hd];exact⟨rfl,Q8.mpr rfl⟩
theorem CV {K:Cd}{xs:Dj}{g:TG}{tb:TS}{D:Ends}{σ:St}{H:Hp}(Pv:Nat->St->Hp->Prop)(h0:Pv 0 σ H)(hl:∀i σ H,i<=xs.length->Pv i σ H->SqT K H a xs)
  (hs:∀i x σ H,xs[i]?=some x->Pv i σ H->∀D':Ends,(∀σ H,Pv (i+1) σ H->D'.nx σ H)->g x σ H fun σ2 H2=>tb D' σ2 H2) (hd:∀σ H,Pv xs.length σ H->D.nx σ H) :
  ∃W:Nat->Nat->St->Hp->Prop,(∃m,W 0 m σ H)/\∀i m σ H,W i m σ H ->
   ((Pz K a).stop i H/\D.nx σ H)\/((Pz K a).go i H/\∃N:St->Hp->Prop,(∀σ' H',N σ' H'->∃m',m'<m/\W (i+1) m' σ' H')/\∀x H',(Pz K a).yld i H x H'->g x σ H' fun σ2 H2=>tb { D with nx:=N,ct:=N,bk:=D.nx } σ2 H2) :=
 XU Pv h0 hl (fun i x σ H h p=>hs i x σ H h p _ fun _ _ h=>h) hd
section
variable {P:Ei}{w:Em}{K:Cd}{mg:Str->Dc}{base:Ez}{t1 t2 t3 t4 t5 t6 t7:Tok}{aL aC aN aT aA b1 b2 b3:Eh}
theorem vV {X:Dd}{xs:Dj}(n:∀b∈X,∀xs,¬Rd H b (.tup xs))(o:Off X H H')(h:SqT K H c xs):SqT K H' c xs:=by
 rcases h with h|h
 ·have ne:c∉X:=fun z=>n c z xs h
  rcases h with h|⟨u,h⟩
  ·exact .inl (.inl (o _ _ ne h))
  ·exact .inl (.inr ⟨u,o _ _ ne h⟩)
 ·exact .inr h
theorem qL (g:OkS S){x:Str}{t:Th}(h:At S x t){e:En}(he:e∈S)(ed:(Le x)=.str e.nm):e.d=t.dat:=by
 obtain⟨f,hf,fn,fd⟩:=h;have:f.nm=e.nm:=by rw[fn];injection ed
 rwa[←OD g.good.nn hf he this]
theorem vT {Do:Dg}{t:Eh}(h:Dt K H (Th.tree Do).dat (.ref t)):∃c rs,SqT K H t [V.str "tree",V.ref c]/\SqT K H c rs/\DtAll K H (Do.map rowDat) rs:=by
 obtain⟨t',xs,e1,h1,x,r,e2,h2,y,r2,e3,h3,h4⟩:=h;cases e1;obtain⟨c,rs,rfl,h5,h6⟩:=h3;have h2:x=V.str "tree":=h2;have h4:r2=[]:=h4;subst e2 e3 h2 h4;exact⟨c,rs,h1,h5,h6⟩
theorem By {ls:Da}{t:Eh}(h:Dt K H (Th.leaf ls).dat (.ref t)):∃v,SqT K H t [V.str "leaf",v]/\Dt K H (AnJ.tupS ls) v:=by
 obtain⟨t',xs,e1,h1,x,r,e2,h2,y,r2,e3,h3,h4⟩:=h;cases e1;have h2:x=V.str "leaf":=h2;have h4:r2=[]:=h4;subst e2 e3 h2 h4;exact⟨y,h1,h3⟩
theorem BW {Do:Dg}(h:DtAll K H (Do.map rowDat) rs){i:Nat}{v:V}(e:rs[i]?=some v):∃r c,Do[i]?=some r/\v=.ref c/\SqT K H c [V.str r.1,V.str r.2]:=by
 obtain⟨d,hd,hv⟩:=h.get e;rw[Zp]at hd;obtain⟨r,hr,rfl⟩:=Z2.mp hd;obtain⟨c,xs,rfl,h1,x,r2,e2,h2,y,r3,e3,h3,h4⟩:=hv;have h2:x=V.str r.1:=h2;have h3:y=V.str r.2:=h3;have h4:r3=[]:=h4;subst e2 e3 h2 h3 h4;exact⟨r,c,hr,rfl,h1⟩
theorem N7 (h:Uu S d f=true):∃x,d=.str x/\zT S x [f]=true/\x∈S.map En.nm:=by
 cases d with
 |str x =>
  have h:zT S x [f]=true:=h;refine⟨x,rfl,h,?_⟩
  rcases L6 (x∈S.map En.nm) with z|z
  ·exact z
  ·rw[CW z]at h;cases h
 |none=>cases h
 |bool b=>cases h
 |int i=>cases h
 |list ds=>cases h
 |tuple ds=>cases h
 |dict Dm=>cases h
namespace AM
abbrev st:Stmt:=top 41
theorem sc:FnScope ["store","name","form"] ["store","name","form"] (zG st):=Cp
theorem ok (F:Fun K "names_form" "names_form" st f fd)(T:Txt P w K mg t1 t2 t3 t4 t5 t6 t7 aL aC aN aT aA b1 b2 b3)(Qm:Met P w K mg base aC 2 "has" ["self","name"] (Pe P w K aC))(Qa:MetX P w K mg base aC 4 "thing" ["self","name"] (qF P w K aC aN)):FnOk P w K mg base Cm 5 f fd ["store","name","form"] (Pj P w K aC):=by
 refine F.ok sc (fun vs H Q E h=>?_) (fun cdv A outer s H vs Q E hr h=>?_)
 ·obtain⟨a,fp,S,d,v,g,rfl,_⟩:=h;rfl
 ·obtain⟨a,fp,S,d,v,g,rfl,sh,th,hd,k⟩:=h;refine⟨_,(zD (zM (yX (X3 (pv 0) T.cls Qm hr.m (zA (pv 1) zC)) (xF (yE qA (zV (ix_tup:Cl _ (Ut K)) (y9 (pv 0) T.cls Qa hr.m z9 (zA (pv 1) zC)) zI (fun _ _=>rfl)) (pv 2) (zW _)))))),?_⟩;obtain⟨gS,dx,d1,d2,d3,ts,nx,efp,nd,h1,h2,h3,h4,h5,h6,h7,h8,h9⟩:=id sh;refine⟨_,rfl,a,dx,_,rfl,h1,rfl,_,rfl,a,fp,S,d,v,rfl,sh,hd,UZ S d,rfl,?_⟩;cases q:UZ S d with
  |false =>
   refine Uo ?_;have:Uu S d g=false:=by
    cases e:Uu S d g with
    |false=>rfl
    |true =>
     obtain⟨x,rfl,_,hx⟩:=N7 e;rw[show UZ S (.str x)=decide (x∈S.map En.nm) from rfl,Zf hx]at q;cases q
   rw[this]at k;exact k
  |true =>
   refine Um ⟨_,rfl,a,dx,_,rfl,h1,rfl,_,rfl,a,fp,S,d,v,rfl,sh,hd,fun e he ed t ht=>?_,fun z=>by rw[q]at z;cases z⟩;obtain⟨tt,et,_⟩:=th e he;rw[et]at ht;obtain⟨c,r,ec,hc⟩:=vE ht;cases ec;refine⟨t,_,_,_,rfl,rfl,hc,xR (j:=0) rfl,_,rfl,rfl,?_⟩;subst ed;have:Uu S (.str e.nm) g=decide (V.str tt.word=V.str g):=by
    show zT S e.nm [g]=_;rw[KA gS he,qR et,ZZ,Zv,Zv,Q8,V.str.injEq]
   rw[this]at k;exact k
end AM
namespace AN
abbrev st:Stmt:=top 42
theorem sc:FnScope ["store","root"] ["store","root"] (zG st):=Cp
theorem ok (F:Fun K "need_root" "need_root" st f fd)(T:Txt P w K mg t1 t2 t3 t4 t5 t6 t7 aL aC aN aT aA b1 b2 b3)(Qe:Cal P w K mg base 5 "names_form" ["store","name","form"] (Pj P w K aC)):FnOk P w K mg base (Cz P w) 6 f fd ["store","root"] (jV P w K aC aN):=by
 refine F.okX sc (fun vs H Q E h=>?_) (fun cdv A outer s H vs Q E hr h=>?_)
 ·obtain⟨a,fp,S,d,v,rfl,_⟩:=h;rfl
 ·obtain⟨a,fp,S,d,v,rfl,sh,th,hd,k1,k2⟩:=h;refine⟨_,(zD (yI (yZ (zS (K:=K) (zJ Qe hr.m (zA (pv 0) (zA (pv 1) (zA pe_str zC)))) (fun _=>rfl))) (zD (y7 rfl yR rfl T.NoName T.xNoName (zA pe_str zC))) zQ)),?_⟩
  refine⟨_,rfl,_,rfl,a,fp,S,d,v,"tree",rfl,sh,th,hd,_,rfl,?_⟩;cases q:Uu S d "tree" with
  |false=>exact KI ⟨Uv 1,k2 q⟩
  |true=>exact IG (k1 q)
end AN
namespace AO
abbrev st:Stmt:=top 48
theorem sc:FnScope ["store","tree","ahead","files","label","name","thing"] ["store","tree","ahead"] (zG st):=Cp
theorem step {L:Nat}(F:Fun K "files_beneath" "files_beneath" st f fd)(T:Txt P w K mg t1 t2 t3 t4 t5 t6 t7 aL aC aN aT aA b1 b2 b3)(Qa:MetX P w K mg base aC 4 "thing" ["self","name"] (qF P w K aC aN))(hL:8<=L)(Qt:Cal P w K mg base L "files_beneath" ["store","tree","ahead"] (jP P w K aC d)):FnOk P w K mg base Cm (L+1) f fd ["store","tree","ahead"] (jP P w K aC (d+1)):=by
 refine F.ok sc (fun vs H Q E h=>?_) (fun cdv A outer s H vs Q E hr h=>?_)
 ·obtain⟨a,fp,S,x,ah,Do,rfl,_⟩:=h;rfl
 ·obtain⟨a,fp,S,x,ah,Do,rfl,sh,ok,tr,at_,rl,rn,al,k⟩:=h;have hu:=GN hr;refine⟨_,(zE (Cr (i:=3) sc.nd yO) (zE (xN ET rfl (j4 (zV (ix_tup:Cl _ (Ut K)) (y9 (pv 0) T.cls Qa (hr.mono (by omega)) z9 (zA (pv 1) zC)) zI (fun _ _=>rfl))) (Xe rfl (y8 (zU (i:=4) sc.nd rfl (EJ rfl)) (y8 (zU (i:=5) sc.nd rfl (EJ rfl)) uH))) (zE (Cr (i:=6) sc.nd (y9 (pv 0) T.cls Qa (hr.mono (by omega)) z9 (zA (pv 5) zC))) (zD (yI (z5 qA (zV (ix_tup:Cl _ (Ut K)) (pv 6) zI (fun _ _=>rfl)) pe_str (zW _)) (zD (xO hu (pv 3) (z8 yJ (pv 2) (pv 4)) (zV (ix_tup:Cl _ (Ut K)) (pv 6) zI (fun _ _=>rfl)) rfl)) (zD (yM (Rj (pv 3) (zJ Qt (hr.mono (by omega)) (zA (pv 0) (zA (pv 5) (zA (z8 yJ (z8 yJ (pv 2) (pv 4)) pe_str) zC)))) ⟨rfl,rfl,rfl,rfl⟩))))))) (zD (zM (pv 3))))),?_⟩
  refine fun e0 ne0=>?_;have u0:=zF (o:=.dK []) ne0;have he0:upd H e0 (.dK []) e0=some (.dK []):=zB;generalize upd H e0 (.dK [])=H1 at u0 he0 ⊢;obtain⟨ix,i1,i2,i3,hix⟩:=uN sh;have hx:UZ S (.str x)=true:=Zf at_.mem;refine⟨_,rfl,a,ix,_,rfl,u0 _ _ hix,rfl,_,rfl,a,fp,S,.str x,_,rfl,sh.same u0,rfl,fun e he ed t ht=>?_,fun z=>by rw[hx]at z;cases z⟩;rw[qL ok at_ he ed]at ht;obtain⟨c,rs,ht1,hc,hrs⟩:=vT ht;have tr':(Do.map (·.1)).Pairwise Cy/\∀r∈Do,zN r.1=true/\Tree d S r.2/\reads d S r.2≠[]:=by
   rcases tr with⟨ls,z⟩|⟨rows',z,h1,h2⟩
   ·cases z.thing ok at_
   ·cases z.thing ok at_;exact⟨h1,h2⟩
  have rd:reads (d+1) S x=Do.flatMap (Co d S):=yC ok at_;have rise:=(tr.rise ok).1;rw[rd]at rl rn rise k;have rsl:rs.length=Do.length:=by rw[DtAll.length hrs,Q7]
  have nt:=zO he0;refine⟨t,_,_,_,rfl,rfl,ht1,rfl,c,rfl,⟨_,hc⟩,CV (K:=K) (a:=c) (xs:=rs) (fun i σ H'=>∃o4 o5 o6 Dm,σ=[some (.ref a),some (.str x),some (.str ah),some (.ref e0),o4,o5,o6]/\Off [e0] H1 H'/\H' e0=some (.dK Dm)/\FsP K H' ah ((Do.take i).flatMap (Co d S)) Dm) ⟨none,none,none,[],rfl,Off.refl _ _,he0,FsP.nil⟩ (fun i σ H' _ h=>?_) ?_ ?_⟩
  ·obtain⟨_,_,_,_,_,of',_⟩:=h;exact vV nt of' hc
  ·rintro i v σ H' hv ⟨o4,o5,o6,Dm,rfl,of',he',fs'⟩ D' hD;obtain⟨r,c',hr',rfl,hc'⟩:=BW hrs hv;have sm:Same H H':=fun b o e=>of' b o (fun z=>by rw[Q8.mp z,ne0]at e;cases e) (u0 _ _ e);have sh':=sh.same sm;have hrm:=Zm hr';obtain⟨lb,trr,nen⟩:=tr'.2 r hrm;have etk:(Do.take (i+1)).flatMap (Co d S)=(Do.take i).flatMap (Co d S)++Co d S r:=by rw[take_snoc hr',JW,Ym,VA,Zs]
   have eall:Do.flatMap (Co d S)=((Do.take i).flatMap (Co d S)++Co d S r)++(Do.drop (i+1)).flatMap (Co d S):=by rw[←etk,←JW,ZW]
   have nd:=P6 (ah:=ah) rise;rw[eall,Zl,Zl,Ye,Ye]at nd;have ndn:∀k∈(Co d S r).map (fun f=>(.inr (ah++Cc f.1):Key)),k∉Dm.map (·.1):=fun k hk z=>nd.1.2.2 k (by rwa[←fs'.keys]) k hk rfl;have kl:Dm.length+(Co d S r).length<=63:=by
    have:=congrArg List.length eall;rw[Zj,Zj]at this;have:=fs'.len;omega
   have inr:∀f∈Co d S r,Uz f.2:=fun f hf=>rn f (Z1.mpr ⟨r,hrm,hf⟩);refine⟨c',_,rfl,vV nt of' hc',rfl,_,_,rfl,_,_,rfl,rfl,?_⟩;have hx':UZ S (.str r.2)=true:=Zf trr.mem;refine⟨_,rfl,a,ix,_,rfl,sm _ _ hix,rfl,_,rfl,a,fp,S,.str r.2,_,rfl,sh',rfl,fun e2 he2 ed2 t2 ht2=>?_,fun z=>by rw[hx']at z;cases z⟩;have ll:("/":Str).length=1:=by decide +kernel
   have lbl:=(label_parts.mp lb).2.1;have adl:(ah++r.1).length=ah.length+r.1.length:=len_append _ _;cases d with
   |zero=>exact absurd trr (fun z=>z)
   |succ d =>
    rcases id trr with⟨ls,atl⟩|⟨rows2,att,so2,hr2⟩
    ·rw[qL ok atl he2 ed2]at ht2;obtain⟨vv,ht3,hvv⟩:=By ht2;have er:Co (d+1) S r=[([r.1],ls)]:=by
      unfold Co;rw[zR ok atl];rfl
     have lnk:Uz ls:=inr ([r.1],ls) (by rw[er];exact Q8.mpr rfl);refine⟨_,rfl,t2,_,_,_,rfl,rfl,ht3,rfl,rfl,true,?_,Um ?_⟩
     ·show V.bl (decide (V.str "leaf"=V.str "leaf"))=V.bl true;rw[Zf rfl]
     refine⟨_,rfl,t2,_,_,_,rfl,rfl,ht3,rfl,_,rfl,_,rfl,_,rfl,_,_,rfl,rfl,le_line (by omega),e0,_,rfl,DPut.k (k:=.inr (ah++r.1)) he' (yS (by omega)),hD _ _ ⟨_,_,_,Dm++[(.inr (ah++r.1),vv)],rfl,?_,?_,?_⟩⟩
     ·exact of'.trans zY
     ·rw[zB]
      congr 2
      refine qQ (ndn _ ?_);rw[er,NI];exact Q8.mpr rfl
     ·rw[etk,er];exact(fs'.off (zO he') zY).app (FsP.one (Dt.off (zO he') zY _ _ (qK lnk) hvv) lnk)
    ·rw[qL ok att he2 ed2]at ht2;obtain⟨c2,rs2,ht3,_,_⟩:=vT ht2;refine⟨_,rfl,t2,_,_,_,rfl,rfl,ht3,rfl,rfl,false,?_,Uo ?_⟩
     ·show V.bl (decide (V.str "tree"=V.str "leaf"))=V.bl false;rw[Zr (by intro z;injection z with z;exact absurd z (by decide +kernel))]
     have nep:∀f∈reads (d+1) S r.2,f.1≠[]:=by
      rcases(trr.rise ok).2 with⟨ls,z⟩|z
      ·rw[yC ok att]at z;have:(([],ls):Fi)∈rows2.flatMap (fun r=>(reads d S r.2).map fun f=>((r.1::f.1,f.2):Fi)):=by rw[z];exact Q8.mpr rfl
       obtain⟨r',_,hf⟩:=Z1.mp this;obtain⟨f',_,q⟩:=Zb.mp hf;exact absurd (congrArg Prod.fst q) (ZL _ _)
      ·exact z
     have rlen:(reads (d+1) S r.2).length<=63:=by
      have:(Co (d+1) S r).length=(reads (d+1) S r.2).length:=Q7 ..;omega
     refine⟨_,rfl,e0,rfl,.inl ⟨_,.inl he'⟩,_,rfl,_,rfl,_,rfl,_,rfl,_,_,rfl,rfl,le_line (by omega),_,_,rfl,rfl,le_line (by omega),a,fp,S,r.2,ah++r.1++"/",rows2,rfl,sh',ok,trr,att,rlen,fun f hf=>inr (r.1::f.1,f.2) (Zb.mpr ⟨f,hf,rfl⟩),by
      rw[len_append,len_append,ll];omega,fun e3 kv3 H3 s3 ne3 he3 fp3=>?_⟩
     have h30:=s3 _ _ he';have fp4:FsP K H3 ah (Co (d+1) S r) kv3:=fp3.deep nep;have pa:putAll Dm kv3=Dm++kv3:=uB (fun k hk=>ndn k (by rwa[←fp4.keys])) (by rw[fp4.keys];exact nd.1.2.1);have l3:kv3.length=(Co (d+1) S r).length:=fp4.len;refine⟨e3,Dm,kv3,rfl,(fun z=>by rw[←z,he']at ne3;cases ne3),h30,.inl he3,le_line (by omega),hD _ _ ⟨_,_,_,Dm++kv3,rfl,?_,by rw[zB,pa],?_⟩⟩
     ·exact(of'.trans (Off.of s3)).trans zY
     ·rw[etk];exact((fs'.same s3).off (zO h30) zY).app (fp4.off (zO h30) zY)
  ·rintro σ H' ⟨o4,o5,o6,Dm,rfl,of',he',fs'⟩;rw[rsl,ZJ]at fs';exact⟨_,rfl,k e0 Dm H' (fun b o e=>of' b o (fun z=>by rw[Q8.mp z,ne0]at e;cases e) (u0 _ _ e)) ne0 he' fs'⟩
theorem ok0 (F:Fun K "files_beneath" "files_beneath" st f fd):FnOk P w K mg base Cm 8 f fd ["store","tree","ahead"] (jP P w K aC 0) :=
 F.ok sc (fun vs H Q E h=>EB h) (fun cdv A outer s H vs Q E hr h=>EB h)
theorem ok (F:Fun K "files_beneath" "files_beneath" st f fd)(T:Txt P w K mg t1 t2 t3 t4 t5 t6 t7 aL aC aN aT aA b1 b2 b3)(Qa:MetX P w K mg base aC 4 "thing" ["self","name"] (qF P w K aC aN))(Hm:mg "files_beneath"=some (.ref f))(Hb:Binds K fd ["store","tree","ahead"] []):FnOk P w K mg base Cm 13 f fd ["store","tree","ahead"] (jP P w K aC 5):=by
 have c0:=Cal.mk' F (ok0 (P:=P) (w:=w) (mg:=mg) (base:=base) (aC:=aC) F) Hm Hb;have c1:=Cal.mk' F (step F T Qa (by decide) c0) Hm Hb;have c2:=Cal.mk' F (step F T Qa (by decide) c1) Hm Hb;have c3:=Cal.mk' F (step F T Qa (by decide) c2) Hm Hb;have c4:=Cal.mk' F (step F T Qa (by decide) c3) Hm Hb;exact step F T Qa (by decide) c4
end AO
namespace AQ
abbrev st:Stmt:=top 47
theorem sc:FnScope ["store","root"] ["store","root"] (zG st):=Cp
theorem ok (F:Fun K "files_of" "files_of" st f fd)(T:Txt P w K mg t1 t2 t3 t4 t5 t6 t7 aL aC aN aT aA b1 b2 b3)(Qg:CalX P w K mg base 6 "need_root" ["store","root"] (jV P w K aC aN))(Qt:Cal P w K mg base 13 "files_beneath" ["store","tree","ahead"] (jP P w K aC 5)):FnOk P w K mg base (Cz P w) 14 f fd ["store","root"] (U8 P w K aC aN):=by
 refine F.okX sc (fun vs H Q E h=>?_) (fun cdv A outer s H vs Q E hr h=>?_)
 ·obtain⟨a,fp,S,x,rfl,_⟩:=h;rfl
 ·obtain⟨a,fp,S,x,rfl,sh,ok,h⟩:=h;refine⟨_,(zE (yM (yD Qg hr.m yA (zA (pv 0) (zA (pv 1) zC)))) (zD (zM (zJ Qt hr.m (zA (pv 0) (zA (pv 1) (zA pe_str zC))))))),?_⟩
  refine⟨_,rfl,_,rfl,a,fp,S,.str x,_,rfl,sh,ok.th,rfl,fun q=>?_,fun q=>?_⟩
  ·rcases h with⟨Do,at_,tr,rl,rn,k⟩|⟨z,_⟩
   ·have e0:("":Str).length=0:=by decide +kernel
    exact⟨_,rfl,_,rfl,a,fp,S,x,"",Do,rfl,sh,ok,tr,at_,rl,rn,by rw[e0];decide,fun e Dm H' s' ne he fs'=>k e Dm H' s' ne he fs'.at⟩
   ·rw[z]at q;cases q
  ·rcases h with⟨Do,at_,_⟩|⟨_,kE⟩
   ·rw[WL at_]at q;cases q
   ·exact kE
end AQ
end
end An09
namespace An
open PySem L2
def rowAt (Do:Dg)(l:Str):Option Str:=(Do.find? fun r=>decide (r.1=l)).map (·.2)
theorem vF (Do:Dg)(l:Str):Ur (Cq Do) (.inr l)=(rowAt Do l).map V.str:=by
 unfold Ur Cq rowAt;rw[List.find?_map,Option.map_map,Option.map_map]
 congr 1
 congr 1
 funext r
 show decide ((.inr r.1:Key)=.inr l)=decide (r.1=l)
 by_cases z:r.1=l
 ·rw[Zf z,Zf (by rw[z])]
 ·rw[Zr z,Zr (fun q=>z (Sum.inr.inj q))]
theorem jK {n:Str}(h:rowAt Do l=some n):(l,n)∈Do:=by
 unfold rowAt at h;obtain⟨r,hr,rfl⟩:=Z2.mp h;have h1:=List.mem_of_find?_eq_some hr;have h2:=List.find?_some hr;have h2:=Zx h2;obtain⟨a,b⟩:=r;have h2:a=l:=h2;subst h2;exact h1
noncomputable def stepT (S:Di)(x:Option Str)(l:Str):Option Str:=match x with
 |none=>none
 |some n=>match ME S n with
  |some (.tree Do)=>rowAt Do l
  |_=>none
noncomputable def atT (S:Di)(root:Str)(ls:Da):Option Str:=ls.foldl (stepT S) (some root)
theorem Xi (S:Di):∀ls:Da,ls.foldl (stepT S) none=none
 |[]=>rfl
 |_::ls=>Xi S ls
theorem kI (g:OkS S){n:Str}{Do:Dg}(h:At S n (.tree Do))(l:Str):stepT S (some n) l=rowAt Do l:=by
 show(match ME S n with|some (.tree Do)=>rowAt Do l|_=>none)=_;rw[Xq g h]
theorem form_dec (g:OkS S)(n:Str):(Uu S (.str n) "tree"=true/\∃Do,At S n (.tree Do))\/(Uu S (.str n) "tree"=false/\∀Do,¬At S n (.tree Do)):=by
 cases q:Uu S (.str n) "tree" with
 |true =>
  have q:zT S n ["tree"]=true:=q;unfold zT at q;obtain⟨e,he,q⟩:=ZY.mp q;rw[Zk,ZM,ZM]at q;obtain⟨t,ht,_,_⟩:=g.th e he;have w:=Q8.mp q.2;rw[qR ht]at w;refine .inl ⟨rfl,?_⟩;cases t with
  |leaf ls=>exact absurd (show("leaf":Str)="tree" from w) (by decide +kernel)
  |tree Do=>exact⟨Do,e,he,q.1,ht⟩
  |note a b c=>exact absurd (show("note":Str)="tree" from w) (by decide +kernel)
 |false =>
  refine .inr ⟨rfl,fun Do h=>?_⟩;obtain⟨e,he,rfl,hd⟩:=h;have:zT S e.nm ["tree"]=true:=ZY.mpr ⟨e,he,by
   rw[Zk,Zv,Zv,qR hd];exact⟨rfl,Q8.mpr rfl⟩⟩
  rw[show Uu S (.str e.nm) "tree"=zT S e.nm ["tree"] from rfl,this]at q;cases q
theorem FT (h:∀Do,¬At S n (.tree Do))(l:Str):stepT S (some n) l=none:=by
 show(match ME S n with|some (.tree Do)=>rowAt Do l|_=>none)=_;cases q:ME S n with
 |none=>rfl
 |some t =>
  unfold ME at q
  split at q
  ·rename_i ex;have q:=Option.some.inj q;have h2:=Vt ex;rw[q]at h2;cases t with
   |leaf ls=>rfl
   |tree Do=>exact absurd h2 (h Do)
   |note a b c=>rfl
  ·cases q
def oV:Option Str->V
 |none=>.non
 |some n=>.str n
def Nk:Option Str->Eo
 |none=>.none
 |some n=>.str n
end An
namespace AxS
open PySem PySem.Spec PyProof.Rows
section
variable {prog:Ei}{w:Em}{A:EC}{E:Eg->Dh}{s:Ej}
theorem GB:typeLookup (.type "tuple") "keys"=Lx none:=by rw[Uh,Vr];kernel_rfl
theorem OE {a:Eh}{xs:Array Eg}{n:Nat}{sl:Array Dc}{Q:Dc->Dh}(hx:s.heap.get? a=some { cls:=.type "tuple",dict:=none,data:=.seq xs n,slots:=sl })(hA:A.handled=none)
  (h:∀h' tk,(∀b o,s.heap.get? b=some o->h'.get? b=some o)->Q none { s with heap:=h',toks:=tk }):Ek (Es prog w) A (getAttr? (.ref a) "keys") Q E s:=by
 obtain⟨hp,g,d,tk,os⟩:=s;have hT:∀tk',(⟨hp,g,d,tk',os⟩:Ej).TypeIs (.ref a) "tuple":=fun _=>⟨_,hx,rfl⟩;have f1:=sub_AttributeError;have f3:=F.slot_tuple_getattribute.lookup;have f4:=F.slot_tuple_getattribute.bind (.ref a);have f5:=am_tuple_getattr_none;unfold getAttr? getAttrBy? getAttrBy
 repeat (any_goals (first|assumption|exact hT _|((with_reducible show Ek _ _ (call (Value.builtin "tuple.__getattribute__") _ _) _ _ _);refine Vw F.slot_tuple_getattribute (hT _) am_entry_tuple_getattribute (F.args_tuple_getattribute_2 _ _) (meets_getattribute_miss_tuple a xs n sl "keys" _ GB (by decide +kernel)) ⟨hx,hA,fun h' tk' e hx'=>?_⟩)|wp_step))
 obtain⟨t',u',he⟩:=hx'.there;show Ek _ _ (getattributeRaised _ _ _ _ _ _ _) _ _ _;unfold getattributeRaised
 repeat (any_goals (first|assumption|wp_step))
 exact h h' tk' hx'.of.keeps
theorem Fy {d I l:Eh}{Dn:Array Eg}{Dm:List (L2.Key×Eg)}{R:Result->Dh}{res:Eg}(hh:A.in1.handled=none)(hne:l≠I)(dI:d≠I)(dl:d≠l)(hz:Dm.length<=sizeLine) :
  ∀(m i:Nat) (s:Ej),Dn.size-i=m->i<=Dn.size->(s.heap.IsTupleIter I l i/\s.heap.IsTuple l Dn)->s.heap.DictOf (L2.mixKind prog w) d (merged [] (Dm.take i))->PairsAt prog w s.heap Dn Dm ->
   (∀h' tk,h'.DictOf (L2.mixKind prog w) d (merged [] Dm)->(∀b o,b≠d->b≠I->s.heap.get? b=some o->h'.get? b=some o)->R (.ok (.ret res)) { s with heap:=h',toks:=tk }) ->
   LU (Es prog w) A (.builtin "dict.update.loop" ⟨[.ref d,.ref I,EW i,res],[]⟩) R s:=by
 have W:=Walks.tuple (prog:=prog) (w:=w) hh I l hne Dn;intro m
 induction m with
 |zero =>
  intro i s hm hi st hD hP k;have ei:i=Dn.size:=by omega
  subst ei;refine YT XE ?_;rw[E7 qP _];show Ek _ A.in1 (L1 (.ref I)>>=_) _ _ s;refine Q9 (W.done s _ _ st fun h' tk kp=>?_);rw[JD (by rw[hP.1];exact Ze _)]at hD;refine Q9 (Zg (Zg (k h' tk (hD.at fun o e=>kp d o (by simp[dI]) e) fun b o b1 b2 e=>kp b o (by simp[b2]) e)))
 |succ m ih =>
  intro i s hm hi st hD hP k;have hlt:i<Dn.size:=by omega
  refine YT XE ?_;rw[E7 qP _];show Ek _ A.in1 (L1 (.ref I)>>=_) _ _ s;refine Q9 (W.item i s _ _ hlt st fun v h' tk hv st' kp=>?_);obtain⟨T,k1,key,x,rfl,hT,hk,hx⟩:=hP.2 i v hv;have TI:T≠I:=fun z=>by
   obtain⟨o,ho,hc,_⟩:=hT;obtain⟨o2,ho2,hc2,_⟩:=st.1;rw[z,ho2]at ho;cases ho;rw[hc2]at hc;exact absurd hc (by decide)
  have Td:T≠d:=fun z=>by
   obtain⟨o,ho,hc,_⟩:=hT;obtain⟨o2,_,_,ho2,hc2,_⟩:=hD;rw[z,ho2]at ho;cases ho;rw[hc2.1]at hc;exact absurd hc (by decide)
  have hD1:h'.DictOf (L2.mixKind prog w) d (merged [] (Dm.take i)):=hD.at fun o e=>kp d o (by simp[dI]) e;obtain⟨⟨oc,od,oda,osl⟩,ho,hc,n1,hdt⟩:=id hT;have ho1:h'.get? T=some ⟨oc,od,oda,osl⟩:=kp T _ (by simp[TI]) ho;simp only at hc hdt;subst hc hdt;dsimp only;refine Q9 (Yg (Q9 (wpAny_tryCatch ?_)));have ty:Ma { s with heap:=h',toks:=tk } (.ref T) "tuple":=⟨_,ho1,rfl⟩;unfold Builtin.Dict.pairItems;refine Q9 (JR ty ?_);rw[Zy (by decide)];refine Q9 ?_;unfold seqItems?;dsimp only;refine Q9 (wpAny_load (s:={ s with heap:=h',toks:=tk }) ho1 (Zg (Zg ?_)));dsimp only[Option.getD];refine Yg ?_;unfold dictSet;refine Yg (Q9 ((L2.mixKind prog w).pyHash hk ?_));have ml:(merged ([]:List (L2.Key×Eg)) (Dm.take i)).length<=sizeLine:=by
   have:=merged_length_le ([]:List (L2.Key×Eg)) (Dm.take i);rw[ZD]at this;simp at this;omega
  refine wpAny_dictSetHashed_pairs (hsz:=ml) hk hD1 fun h2 hD2 sb2=>?_;rw[←merged_take_succ [] Dm i (k1,x) hx]at hD2;refine Zg ⟨JZ qP _,?_⟩;rw[show((i:Nat):Int)+1=((i+1:Nat):Int) by push_cast;rfl];have kp2:∀b o,b≠d->b≠I->s.heap.get? b=some o->h2.get? b=some o:=fun b o b1 b2 e=>(sb2.2 b b1).trans (kp b o (by simp[b2]) e);refine ih (i+1) _ (by omega) hlt ⟨?_,?_⟩ hD2 (hP.at fun T' o ⟨xs,hT'⟩ e=>kp2 T' o (fun z=>?_) (fun z=>?_) e) fun h3 tk3 hD3 kp3=>k h3 tk3 hD3 fun b o b1 b2 e=>kp3 b o b1 b2 (kp2 b o b1 b2 e)
  ·exact st'.1.at fun o e=>(sb2.2 I dI.symm).trans e
  ·exact st'.2.at fun o e=>(sb2.2 l dl.symm).trans e
  ·obtain⟨o1,ho1,hc1,_⟩:=hT';obtain⟨o2,_,_,ho2,hc2,_⟩:=hD;rw[z,ho2]at ho1;cases ho1;rw[hc2.1]at hc1;exact absurd hc1 (by decide)
  ·obtain⟨o1,ho1,hc1,_⟩:=hT';obtain⟨o2,ho2,hc2,_⟩:=st.1;rw[z,ho2]at ho1;cases ho1;rw[hc2]at hc1;exact absurd hc1 (by decide)
theorem GC {l:Eh}{Dn:Array Eg}{n:Nat}{Dm:List (L2.Key×Eg)}{Q:Eg->Dh}(hh:A.handled=none){sl:Array Dc}(hl:s.heap.get? l=some { cls:=.type "tuple",dict:=none,data:=.seq Dn n,slots:=sl })(hP:PairsAt prog w s.heap Dn Dm)(hz:Dm.length<=sizeLine)
  (h:∀h' tk,h'.DictOf (L2.mixKind prog w) s.heap.objs.size (merged [] Dm)->(∀b o,s.heap.get? b=some o->h'.get? b=some o)->Q (.ref s.heap.objs.size) { s with heap:=h',toks:=tk }):Ek (Es prog w) A (call (.type "dict") [.ref l]) Q E s:=by
 refine callType_codes (Q₁:=fun obj s₁=>obj=.ref s.heap.objs.size/\s₁={ s with heap:=s.heap.push { cls:=.type "dict",data:=.dict #[] } }) F.kt_called_dict (F.kt_typeCall_dict_1 _) F.entry_dict_init (kt_code_dict_new _ ⟨rfl,rfl⟩) ?_;rintro obj s₁ ⟨rfl,rfl⟩;have hnew:(s.heap.push { cls:=.type "dict",data:=.dict #[] }).DictOf (L2.mixKind prog w) s.heap.objs.size []:=Heap.DictOf.new s.heap;have llt:l<s.heap.objs.size:=Zq hl;have hl1:(s.heap.push { cls:=.type "dict",data:=.dict #[] }).get? l=some { cls:=.type "tuple",dict:=none,data:=.seq Dn n,slots:=sl }:=Zd _ hl;refine⟨hnew.typeIs,F.args_dict_init_2 _ _,?_⟩;unfold Builtin.«dict.__init__»;refine Q9 ?_;unfold Builtin.Dict.selfAndRest;refine Q9 (wpAny_notOrdered_dict hnew.typeIs ?_);show Ek _ _ (Lx (s.heap.objs.size,[Eu l])) _ _ _;refine Zg ?_;show Ek _ _ (Builtin.Dict.updateFrom "dict.__init__" s.heap.objs.size (.ref l) [] .none) _ _ _;unfold Builtin.Dict.updateFrom;have tyl:Ma { s with heap:=s.heap.push { cls:=.type "dict",data:=.dict #[] } } (.ref l) "tuple":=⟨_,hl1,rfl⟩;refine Q9 (JR tyl ?_);rw[Zy (by decide)];refine Q9 (OE (s:={ s with heap:=s.heap.push { cls:=.type "dict",data:=.dict #[] } }) hl1 (by simp[hh]) fun h2 tk2 kp2=>?_);simp only[Option.isNone_none,↓reduceIte];refine Q9 (J7 ?_);have hl2:h2.IsTuple l Dn:=⟨_,kp2 l _ hl1,rfl,n,rfl⟩;have nlt:s.heap.objs.size<h2.objs.size:=by
  obtain⟨o,_,_,e,_⟩:=hnew;exact Zq (kp2 _ _ e)
 refine Q9 (VO (s:={ s with heap:=h2,toks:=tk2 }) hl2 ?_);refine Zg ⟨JZ qP _,?_⟩;have kp3:∀b o,s.heap.get? b=some o->(h2.push { cls:=.type "tuple_iterator",data:=.fields #[.ref l,.int 0 0] }).get? b=some o:=fun b o e=>Zd _ (kp2 b o (Zd _ e));refine Fy (A:=A.in1) (d:=s.heap.objs.size) (I:=h2.objs.size) (l:=l) (Dn:=Dn) (Dm:=Dm) (by simp[hh]) (Zz (Ua llt nlt)) (Zz nlt) (JQ llt) hz (Dn.size-0) 0 _ (by omega) (ZT _) ⟨⟨_,Zo _ rfl,rfl,rfl⟩,hl2.push _⟩ ?_ (hP.at fun T o _ e=>kp3 T o e) fun h3 tk3 hD3 kp4=>?_
 ·rw[List.take_zero];exact(hnew.at fun o e=>kp2 _ o e).push _
 ·refine⟨rfl,h h3 tk3 hD3 fun b o e=>kp4 b o (Zz (Zq e)) (Zz (Ua (Zq e) nlt)) (kp3 b o e)⟩
end
end AxS
namespace L2
open PySem PySem.Spec PyProof.Rows AxS
section
variable {X:Cx}{K:Cd}
def SR (K:Cd):Dj->Hp->VK->Prop:=fun xs H Q=>∃(a:Eh) (vs:Dj) (Dm:Dl),xs=[.ref a]/\SqT K H a vs/\F8 K H vs Dm/\∀l,H l=none->Q (.ref l) (upd H l (.dK (putAll [] Dm)))
theorem He (hc:X.calm=true)(hK:X.K=K:=by rfl):CallR X (.type "dict") (SR K):=by
 subst hK;intro Dp s σ H xs us Q I r h;obtain⟨a,vs,Dm,rfl,ha,pv,q⟩:=h;obtain⟨u,rfl,ru⟩:=vals1 r;cases ru;obtain⟨its,rv,⟨⟨oc,od,oda,osl⟩,e,hc1,n,hda,hdn⟩,z⟩:=I.tupleD ha;simp only at hc1 hda hdn;subst hc1 hda hdn;obtain⟨um,rel,len,all⟩:=Gp I rv pv;have vl:=rv.length;have kl:Dm.length=um.length:=Paired.length rel;refine GC (I.ok.hd hc) e ⟨by rw[Zw];exact len,fun i v hv=>all i v (by simpa using hv)⟩ (by omega) fun h' tk hD kp=>?_;have zl:=qX Dm [];exact⟨.ref s.heap.objs.size,_,I.laid (o:=.dK (putAll [] Dm)) (t':=tk) kp (Ze _) (Gr (by rw[Yj]at zl;omega) (Yv.mpr (EA (Zz I.big))) (KV.putAll (Dm:=[]) (vs:=[]) .nil rel) hD),rfl,q _ (I.hok.fresh (Ze _))⟩
end
end L2
namespace An09
open PySem L2 An
seal L2.PS L2.PSs L2.PE L2.PT L2.PW L2.PA L2.PG L2.PGs L2.PI L2.PFi L2.PC
def qI (P:Ei)(w:Em)(K:Cd)(C:Eh):Sp:=fun vs H Q _=>∃(a:Eh) (fp:Dd) (S:Di) (x:Str) (Do:Dg),vs=[.ref a,.str x]/\ShAt P w K C H a fp S/\OkS S/\At S x (.tree Do)/\(Do.map (·.1)).Nodup/\∀l,H l=none->Q (.ref l) (upd H l (.dK (Cq Do)))
def Bt (P:Ei)(w:Em)(K:Cd)(C aN:Eh):Sp:=fun vs H Q E=>∃(a:Eh) (fp:Dd) (S:Di) (x p:Str),vs=[.ref a,.str x,.str p]/\ShAt P w K C H a fp S/\OkS S/\UX p=true/\p.length<=1000 /\
 ((∃d Do,At S x (.tree Do)/\Tree d S x/\∀H',Same H H'->Q (oV (atT S x (labs p))) H')\/(Uu S (.str x) "tree"=false/\E (.ref aN) none H))
section
variable {P:Ei}{w:Em}{K:Cd}{mg:Str->Dc}{base:Ez}{t1 t2 t3 t4 t5 t6 t7:Tok}{aL aC aN aT aA b1 b2 b3:Eh}
theorem Np {Do:Dg}(h:DtAll K H (Do.map rowDat) rs):F8 K H rs (Cq Do):=by
 have l1:rs.length=Do.length:=by rw[DtAll.length h,Q7]
 refine⟨by unfold Cq;rw[Q7];exact l1,fun i x hx=>?_⟩;obtain⟨r,c,hr,rfl,hc⟩:=BW h hx;exact⟨c,.inr r.1,.str r.2,rfl,hc,by unfold Cq;rw[Zp,hr];rfl⟩
theorem RA {Do:Dg}(nd:(Do.map (·.1)).Nodup):putAll [] (Cq Do)=Cq Do:=by
 rw[uB (Dm:=[]) (fun k _ z=>absurd z Yd)]
 ·rfl
 ·rw[FI];have:(Do.map fun p=>(.inr p.1:Key))=(Do.map (·.1)).map Sum.inr:=by rw[ZB];rfl
  rw[this];exact List.Pairwise.map _ (fun a b n e=>by cases e;exact n rfl) nd
theorem TV {l:Da}(h:l.Pairwise Cy):l.Nodup:=ZF.mpr (h.imp fun{a b} z=>vX z)
namespace AR
abbrev st:Stmt:=top 43
theorem sc:FnScope ["store","tree"] ["store","tree"] (zG st):=Cp
theorem ok (F:Fun K "rows_of" "rows_of" st f fd)(T:Txt P w K mg t1 t2 t3 t4 t5 t6 t7 aL aC aN aT aA b1 b2 b3)(Qa:MetX P w K mg base aC 4 "thing" ["self","name"] (qF P w K aC aN)):FnOk P w K mg base Cm 5 f fd ["store","tree"] (qI P w K aC):=by
 refine F.ok sc (fun vs H Q E h=>?_) (fun cdv A outer s H vs Q E hr h=>?_)
 ·obtain⟨a,fp,S,x,Do,rfl,_⟩:=h;rfl
 ·obtain⟨a,fp,S,x,Do,rfl,sh,ok,at_,nd,k⟩:=h;refine⟨_,(zD (zM (yB (He (K:=K) rfl) (by rfl) T.dict YN (zA (zV (ix_tup:Cl _ (Ut K)) (y9 (pv 0) T.cls Qa hr.m z9 (zA (pv 1) zC)) zI (fun _ _=>rfl)) zC)))),?_⟩;obtain⟨ix,i1,i2,i3,hix⟩:=uN sh;have hx:UZ S (.str x)=true:=Zf at_.mem;refine⟨_,rfl,a,ix,_,rfl,hix,rfl,_,rfl,a,fp,S,.str x,_,rfl,sh,rfl,fun e he ed t ht=>?_,fun z=>by rw[hx]at z;cases z⟩;rw[qL ok at_ he ed]at ht;obtain⟨c,rs,ht1,hc,hrs⟩:=vT ht;refine⟨t,_,_,_,rfl,rfl,ht1,rfl,c,rs,Cq Do,rfl,hc,Np hrs,fun l nl=>?_⟩;rw[RA nd];exact k l nl
end AR
namespace AS
abbrev st:Stmt:=top 49
theorem sc:FnScope ["store","root","path","name","label"] ["store","root","path"] (zG st):=Cp
theorem ok (F:Fun K "found_at" "found_at" st f fd)(T:Txt P w K mg t1 t2 t3 t4 t5 t6 t7 aL aC aN aT aA b1 b2 b3)(Qg:CalX P w K mg base 6 "need_root" ["store","root"] (jV P w K aC aN))(Qh:CalX P w K mg base 3 "labels_of" ["path"] (vB K b1))(Qe:Cal P w K mg base 5 "names_form" ["store","name","form"] (Pj P w K aC))(Qc:Cal P w K mg base 5 "rows_of" ["store","tree"] (qI P w K aC)):FnOk P w K mg base (Cz P w) 7 f fd ["store","root","path"] (Bt P w K aC aN):=by
 refine F.okX sc (fun vs H Q E h=>?_) (fun cdv A outer s H vs Q E hr h=>?_)
 ·obtain⟨a,fp,S,x,p,rfl,_⟩:=h;rfl
 ·obtain⟨a,fp,S,x,p,rfl,sh,ok,hp,pl,h⟩:=h;refine⟨_,(zE (yM (yD Qg hr.m yA (zA (pv 0) (zA (pv 1) zC)))) (zE (Cr (i:=3) sc.nd (pv 1)) (zE (xN Ls rfl (kF (yD Qh hr.m yA (zA (pv 2) zC))) (zU (i:=4) sc.nd rfl (EJ rfl)) (zE (yI (yZ (zS (K:=K) (zJ Qe hr.m (zA (pv 0) (zA (pv 3) (zA pe_str zC)))) (fun _=>rfl))) (zD (zM uQ)) zQ) (zD (Cr (i:=3) sc.nd (ON hr.units1 (zJ Qc hr.m (zA (pv 0) (zA (pv 3) zC))) (pv 4) ⟨rfl,rfl,rfl,rfl⟩))))) (zD (zM (pv 3)))))),?_⟩
  refine⟨_,rfl,_,rfl,a,fp,S,.str x,_,rfl,sh,ok.th,rfl,fun q=>?_,fun q=>?_⟩
  rotate_left
  ·rcases h with⟨_,Do,at_,_⟩|⟨_,kE⟩
   ·rw[WL at_]at q;cases q
   ·exact kE
  rcases h with⟨d,Do,at_,tr,k⟩|⟨z,_⟩
  rotate_left
  ·rw[z]at q;cases q
  refine⟨_,rfl,_,rfl,.str p,_,rfl,rfl,Zf pl,fun x' ex hx' l H1 e1 hl=>?_,fun z=>?_⟩
  rotate_left
  ·rw[show UV (.str p)=UX p from rfl,hp]at z;cases z
  cases ex;have lc:=vD p;refine⟨l,rfl,⟨_,hl⟩,X5 (K:=K) (a:=l) (xs:=(labs p).map V.str) (fun i σ H'=>∃o4 nm,σ=[some (.ref a),some (.str x),some (.str p),some (oV nm),o4]/\Same H1 H'/\nm=((labs p).take i).foldl (stepT S) (some x)/\∀n,nm=some n->∃e,Tree e S n) ⟨none,some x,rfl,Same.refl _,rfl,fun n hn=>⟨d,by cases hn;exact tr⟩⟩ (fun i σ H' _ h=>?_) ?_ ?_⟩
  ·obtain⟨_,_,_,e2,_⟩:=h;exact e2.seq hl
  ·rintro i v σ H' hv ⟨o4,nm,rfl,e2,en,ht⟩;rw[Zp]at hv;obtain⟨lb,hlb,rfl⟩:=Z2.mp hv;have etk:((labs p).take (i+1)).foldl (stepT S) (some x)=stepT S nm lb:=by rw[take_snoc hlb,YL,←en];rfl
   have eall:atT S x (labs p)=((labs p).drop (i+1)).foldl (stepT S) (stepT S nm lb):=by
    unfold atT;rw[←etk,←YL,ZW]
   refine⟨_,rfl,_,rfl,a,fp,S,Nk nm,oV nm,"tree",rfl,sh.same (e1.trans e2),ok.th,by cases nm<;>rfl,_,rfl,?_⟩;have out:stepT S nm lb=none->Q .non H':=fun z=>by
    rw[z,Xi]at eall;rw[eall]at k;exact k H' (e1.trans e2)
   cases nm with
   |none=>exact KI (out rfl)
   |some n =>
    rcases form_dec ok n with⟨q1,rows',at'⟩|⟨q1,no⟩
    ·rw[show Uu S (Nk (some n)) "tree"=Uu S (.str n) "tree" from rfl,q1];obtain⟨e,te⟩:=ht n rfl;have nd':(rows'.map (·.1)).Nodup/\∀r∈rows',∃e,Tree e S r.2:=by
      cases e with
      |zero=>exact absurd te (fun z=>z)
      |succ e =>
       rcases te with⟨ls,z⟩|⟨rows2,z,h1,h2⟩
       ·cases z.thing ok at'
       ·cases z.thing ok at';exact⟨TV h1,fun r hr=>⟨e,(h2 r hr).2.1⟩⟩
     refine IG ⟨_,rfl,_,rfl,a,fp,S,n,rows',rfl,sh.same (e1.trans e2),ok,at',nd'.1,fun l2 nl2=>?_⟩;have u2:=zF (o:=.dK (Cq rows')) nl2;refine⟨l2,rfl,.inl ⟨_,.inl zB⟩,_,rfl,_,DGet.k (k:=.inr lb) zB,?_⟩;have ev:((Ur (Cq rows') (.inr lb)).getD .non)=oV (rowAt rows' lb):=by
      rw[vF];cases rowAt rows' lb<;>rfl
     rw[ev];refine⟨_,rowAt rows' lb,rfl,e2.trans u2,by rw[etk,kI ok at'],fun m hm=>?_⟩;exact nd'.2 _ (jK hm)
    ·rw[show Uu S (Nk (some n)) "tree"=Uu S (.str n) "tree" from rfl,q1];exact KI (out (FT no lb))
  ·rintro σ H' ⟨o4,nm,rfl,e2,en,ht⟩;rw[Q7,ZJ]at en;refine⟨_,rfl,?_⟩;rw[show nm=atT S x (labs p) from en];exact k H' (e1.trans e2)
end AS
end
end An09
namespace L2
open PySem PySem.Spec PyProof.Rows PySem.W
section
variable {X:Cx}
def Tb (H₀:Hp)(t:TS):TS:=fun D σ H=>t { D with nx:=fun σ' H'=>∃d ob Dm,H' d=some (.frz ob (.dK Dm))/\(∀o u,H₀ d≠some (.frz o u))/\D.nx σ' (upd H' d (.dK Dm)),rt:=fun v H'=>∃d ob Dm,H' d=some (.frz ob (.dK Dm))/\(∀o u,H₀ d≠some (.frz o u))/\D.rt v (upd H' d (.dK Dm)) } σ H
theorem OW {st:EI}(h:PS X st t):PS X st (Tb X.H₀ t):=by
 intro Dp s σ H D I q;refine Ci (h Dp s σ H _ I q) fun f s1 z=>?_;cases f with
 |next =>
  obtain⟨σ',H',I',d,ob,Dm,hd,n0,q⟩:=z;exact⟨σ',_,I'.thaw hd n0,q⟩
 |ret v =>
  obtain⟨x,σ',H',I',r,d,ob,Dm,hd,n0,q⟩:=z;exact⟨x,σ',_,I'.thaw hd n0,r,q⟩
 |brk=>exact z
 |cont=>exact z
end
end L2
namespace An09
open PySem L2 An
seal L2.PS L2.PSs L2.PE L2.PT L2.PW L2.PA L2.PG L2.PGs L2.PI L2.PFi L2.PC
def MenuP (p:Nat->Bool)(n:Nat)(x:Str):Prop:=(cs x).length=n/\(cs x).all p=true
theorem MenuP.at (h:MenuP p n x){i:Int}(h0:0<=i)(h1:i<n):∃c,Hc x.cps.toList i=some c/\p c=true:=by
 obtain⟨j,rfl⟩:=Js h0;have hj:j<(cs x).length:=by rw[h.1];omega
 exact⟨(cs x)[j],xR (Zn hj),ZI.mp h.2 _ (YB hj)⟩
theorem MenuP.len (h:MenuP p n x)(hn:n<=1000):x.length<=sizeLine:=le_line (by rw[length_cs,h.1];omega)
def menuZ:Str:=" !\"#$&'()*+,-./0123456789:;<=>?@ABCDEFGHIJKLMNOPQRSTUVWXYZ[\\]^_`"++"abcdefghijklmnopqrstuvwxyz{|}~"
def sizeZ (c:Int):Int:=if c / 4 % 9=1 then 17+c / 36 % 4 else c % 4
def W5 (c:Int)(i:Nat):Nat:=(Hc menuZ.cps.toList ((c / 4*(0+(i:Int)+1)+c / 7+5*(0+(i:Int))) % 94)).getD 0
def Tl (c:Int)(n:Nat):List Nat:=(EG n).map (W5 c)
def KM (c:Int):Str:=⟨(Tl c (sizeZ c).toNat).toArray⟩
theorem On (c:Int)(n:Nat):Tl c (n+1)=Tl c n++[W5 c n]:=by
 unfold Tl;rw[List.range_succ,Zl];rfl
theorem NU (c:Int):cs (KM c)=Tl c (sizeZ c).toNat:=rfl
def FQ:Sp:=fun vs H Q _=>∃c,vs=[.int c]/\∀x H',UU x=true->x=KM c->Same H H'->Q (.str x) H'
theorem PQ (x:Str)(n:Nat):cs (Mo x none (some (n:Int)))=(cs x).take n:=TB x n
theorem Nm {x y:Str}:decide (Mo y none (some ((x.length:Int)+1))=x++"/")=Uw x y:=by
 have e47:cs ("/":Str)=[47]:=by decide +kernel
 have en:((x.length:Int)+1)=((x.length+1:Nat):Int):=by omega
 rw[ZZ,Zv,B2,en];have ee:Mo y none (some ((x.length+1:Nat):Int))=x++"/"↔(cs y).take ((cs x).length+1)=cs x++[47]:=by
  rw[←e47,←cs_append,←length_cs,←PQ];exact⟨fun z=>by rw[z],fun z=>cs_inj z⟩
 rw[ee];constructor
 ·intro h;refine⟨(cs y).drop ((cs x).length+1),?_⟩;have:=ZW ((cs x).length+1) (cs y);rw[h,Z0]at this;exact this.symm
 ·rintro⟨t,h⟩;rw[h,show cs x++47::t=(cs x++[47])++t by simp,Uk (by simp)]
def F7 (ls:Da):Prop:=ls≠[]/\ls.length<=4/\∀l∈ls,zN l=true
def FR:Sp:=fun vs H Q _=>∃c,vs=[.int c]/\∀ls H',F7 ls->Same H H'->Q (.str (Cc ls)) H'
def Pm:Sp:=fun vs H Q _=>∃x y:Str,vs=[.str x,.str y]/\x.length<=1000/\y.length<=1000/\Q (.bl (Uw x y)) H
def Pd (K:Cd):Sp:=fun vs H Q _=>∃(c:Eh) (Dm:Dl) (fs:Dk) (p:Str),vs=[.ref c,.str p]/\H c=some (.dK Dm)/\Dm.map (·.1)=fs.map (fun f=>(.inr (Cc f.1):Key))/\(∀f∈fs,(Cc f.1).length<=1000)/\p.length<=1000/\∀H',Same H H'->Q (.bl (fs.all fun f=>!(Uw (Cc f.1) p||Uw p (Cc f.1)))) H'
def SA (c:Int):Da:=(EG (c % 3).toNat).map fun(k:Nat)=>KM (c / 3+7*(0+(k:Int)))
def GM (K:Cd):Sp:=fun vs H Q _=>∃c,vs=[.int c]/\∀p ls H',Same H H'->H' p=some (.tup (ls.map V.str))->Uz ls->ls=SA c->Q (.ref p) H'
theorem menu_low:MenuP UG 26 "abcdefghijklmnopqrstuvwxyz":=⟨by decide +kernel,by decide +kernel⟩
theorem WN:Txt.mul "a" 7="aaaaaaa":=by decide +kernel
section
variable {P:Ei}{w:Em}{K:Cd}{mg:Str->Dc}{base:Ez}{t1 t2 t3 t4 t5 t6 t7:Tok}{aL aC aN aT aA b1 b2 b3:Eh}
namespace AT
end AT
namespace AU
abbrev st:Stmt:=top 62
theorem sc:FnScope ["_law_cell","_law_some","_law_size"] ["_law_cell"] (zG st):=Cp
theorem ok (F:Fun K "_law_line_by" "_law_line_by" st f fd)(T:Txt P w K mg t1 t2 t3 t4 t5 t6 t7 aL aC aN aT aA b1 b2 b3):FnOk P w K mg base Cm 1 f fd ["_law_cell"] FQ:=by
 refine F.ok sc (fun vs H Q E h=>?_) (fun cdv A outer s H vs Q E hr h=>?_)
 ·obtain⟨c,rfl,_⟩:=h;rfl
 ·obtain⟨c,rfl,k⟩:=h;refine⟨_,(zE (Cr (i:=1) sc.nd pe_str) (zE (Cr (i:=1) sc.nd (z8 yJ (pv 1) pe_str)) (zE (Cr (i:=2) sc.nd (z8 x9 (pv 0) zI)) (yT (yI (z5 qA (z8 x9 (z8 xK (pv 0) zI) zI) zI (zW _)) (zD (Cr (i:=2) sc.nd (z8 jJ zI (z8 x9 (z8 xK (pv 0) zI) zI)))) zQ) (zD (zM (kN Yf JH JI X0 pe_str (zA (xC (sc:=zG st) (N:=["_law_cell","_law_some","_law_size"]) (N':=["_law_k","_law_some","_law_cell"]) (src:=[none,some 1,some 0]) ⟨by decide +kernel,rfl,rfl,by decide +kernel,by decide +kernel,by decide +kernel,by decide +kernel⟩ rfl rfl rfl (Xo rfl T.range (zA (pv 2) zC)) (fun _ _ _ _=>(zU (i:=0) (show(["_law_k","_law_some","_law_cell"]:Da).Nodup by decide +kernel) rfl (EJ rfl))) (fun _ _ _ _=>qD) (fun _ _ _ _=>(zV Oe (pv 1) (z8 x9 (z8 jJ (z8 jJ (z8 IW (z8 xK (pv 2) zI) (z8 jJ (pv 0) zI)) (z8 xK (pv 2) zI)) (z8 IW zI (pv 0))) zI) (fun _ _=>rfl)))) zC)))))))),?_⟩
  refine⟨_,rfl,_,_,rfl,rfl,le_line (by decide +kernel),_,rfl,_,_,rfl,rfl,(by show(0:Int)<4;decide),fun σ' H'=>∃n S,σ'=[some (.int c),some (.str S),some (.int n)]/\H'=H/\0<=n/\n<=20/\n=sizeZ c/\S=menuZ/\MenuP UE 94 S,?_,?_⟩
  ·refine⟨_,rfl,_,_,rfl,rfl,⟨by decide,by decide⟩,_,_,rfl,rfl,(by show(0:Int)<9;decide),rfl,_,rfl,Ux (fun z=>?_) (fun z=>?_)⟩
   ·have z:c / 4 % 9=1:=by simpa using z
    exact⟨_,rfl,_,_,rfl,rfl,⟨by decide,by decide⟩,_,_,rfl,rfl,(by show(0:Int)<4;decide),_,_,rfl,rfl,_,_,rfl,rfl,by omega,by omega,by unfold sizeZ;rw[Zy z],rfl,by decide +kernel,by decide +kernel⟩
   ·have z:¬c / 4 % 9=1:=by simpa using z
    exact⟨_,_,rfl,rfl,by omega,by omega,by unfold sizeZ;rw[ZA z],rfl,by decide +kernel,by decide +kernel⟩
  ·rintro σ' H' ⟨n,S,rfl,rfl,h0,h20,en,eS,hS⟩;refine⟨rfl,_,rfl,n,rfl,by omega,by omega,j8 (fun i ys σ H2=>∃x l,σ=[x,some (.str S),some (.int c)]/\H2=H'/\ys=(l.map one).map V.str/\l.length=i/\l=Tl c i/\∀c∈l,UE c=true) ⟨none,[],rfl,rfl,rfl,rfl,rfl,fun c hc=>nomatch hc⟩ (le_line (by omega))
    (fun i ys σ H2 hi ⟨x,l,_,_,ey,el,_,_⟩=>by rw[ey,Q7,Q7,el];exact Ze _) ?_ ?_⟩
   ·rintro i ys σ H2 hi ⟨x,l,rfl,rfl,rfl,rfl,lz,al⟩;refine⟨_,rfl,_,rfl,_,_,rfl,rfl,⟨by decide,by decide⟩,_,rfl,_,_,rfl,rfl,_,_,rfl,rfl,.inr ⟨by omega,by omega⟩,_,rfl,_,_,rfl,rfl,⟨by decide,by decide⟩,_,_,rfl,rfl,_,rfl,_,_,rfl,rfl,.inl ⟨by decide,by decide⟩,_,_,rfl,rfl,_,_,rfl,rfl,(by show(0:Int)<94;decide),?_⟩;obtain⟨d,hd1,hd2⟩:=hS.at (i:=(c / 4*(0+((l.length:Nat):Int)+1)+c / 7+5*(0+((l.length:Nat):Int))) % 94) (by omega) (by omega);refine⟨S,_,d,rfl,rfl,hS.len (by decide),hd1,_,l++[d],rfl,rfl,?_,by simp,?_,vC al hd2⟩
    ·rw[Zl,Zl];rfl
    ·rw[On,←lz]
     congr 2
     unfold W5;rw[←eS,hd1];rfl
   ·rintro ys σ H2 ⟨x,l,rfl,rfl,rfl,el,lz,al⟩ p np;have c0:("":Str).length=0:=by decide +kernel
    refine⟨_,p,l.map one,rfl,rfl,.inl (SqL.of zB),by rw[FY,c0];omega,k _ _ (line_parts.mpr ⟨?_,?_⟩) (cs_inj (by rwa[j9,NU,←en])) (zF np)⟩
    ·rw[length_cs,j9];omega
    ·rwa[j9,ZI]
end AU
namespace AV
abbrev st:Stmt:=top 64
theorem sc:FnScope ["_law_one","_law_other"] ["_law_one","_law_other"] (zG st):=Cp
theorem ok (F:Fun K "_law_over" "_law_over" st f fd)(T:Txt P w K mg t1 t2 t3 t4 t5 t6 t7 aL aC aN aT aA b1 b2 b3):FnOk P w K mg base Cm 1 f fd ["_law_one","_law_other"] Pm:=by
 refine F.ok sc (fun vs H Q E h=>?_) (fun cdv A outer s H vs Q E hr h=>?_)
 ·obtain⟨x,y,rfl,_⟩:=h;rfl
 ·obtain⟨x,y,rfl,hx,hy,k⟩:=h;refine⟨_,(zD (zM (yE qA (kY SZ (pv 1) vR (vW (z8 jJ (zL qG (by rfl) T.len ZO (zA (pv 0) zC)) zI))) (z8 yJ (pv 0) pe_str) (zW _)))),?_⟩;have e1:("/":Str).length=1:=by decide +kernel
  rw[←Nm]at k;refine⟨_,rfl,_,rfl,x,rfl,le_line (by omega),_,_,rfl,rfl,_,rfl,_,rfl,le_line (by omega),_,rfl,_,_,rfl,rfl,le_line (by rw[e1];omega),rfl,?_⟩;have ed:decide (V.str (Mo y none (some ((x.length:Int)+1)))=V.str (x++"/"))=decide (Mo y none (some ((x.length:Int)+1))=x++"/"):=by
   rw[ZZ,Zv,Zv,V.str.injEq]
  rw[←ed]at k;exact k
end AV
namespace AW
abbrev st:Stmt:=top 66
theorem sc:FnScope ["_law_cell"] ["_law_cell"] (zG st):=Cp
theorem ok (F:Fun K "_law_lines_by" "_law_lines_by" st f fd)(T:Txt P w K mg t1 t2 t3 t4 t5 t6 t7 aL aC aN aT aA b1 b2 b3)(QV:Cal P w K mg base 1 "_law_line_by" ["_law_cell"] FQ):FnOk P w K mg base Cm 2 f fd ["_law_cell"] (GM K):=by
 refine F.ok sc (fun vs H Q E h=>?_) (fun cdv A outer s H vs Q E hr h=>?_)
 ·obtain⟨c,rfl,_⟩:=h;rfl
 ·obtain⟨c,rfl,k⟩:=h;refine⟨_,(zD (zM (yB kJ (by rfl) T.tuple Yl (zA (xC (sc:=zG st) (N:=["_law_cell"]) (N':=["_law_k","_law_cell"]) (src:=[none,some 0]) ⟨by decide +kernel,rfl,rfl,by decide +kernel,by decide +kernel,by decide +kernel,by decide +kernel⟩ rfl rfl rfl (Xo rfl T.range (zA (z8 x9 (pv 0) zI) zC)) (fun _ _ _ _=>(zU (i:=0) (show(["_law_k","_law_cell"]:Da).Nodup by decide +kernel) rfl (EJ rfl))) (fun _ _ _ _=>qD) (fun _ _ _ _=>(zJ QV hr.m (zA (z8 jJ (z8 xK (pv 1) zI) (z8 IW zI (pv 0))) zC)))) zC)))),?_⟩;have h0:0<=c % 3:=by omega
  have h3:c % 3<3:=by omega
  refine⟨_,rfl,_,_,rfl,rfl,(by decide:(0:Int)<3),_,rfl,by omega,by omega,j8 (fun i ys σ H2=>∃o ls,σ=[o,some (.int c)]/\Same H H2/\ys=ls.map V.str/\ls.length=i/\ls=(EG i).map (fun(k:Nat)=>KM (c / 3+7*(0+(k:Int))))/\∀l∈ls,UU l=true) ⟨none,[],rfl,Same.refl _,rfl,rfl,rfl,fun l hl=>(nomatch hl)⟩ (le_line (by omega)) ?_ ?_ ?_⟩
  ·rintro i ys σ H2 hi ⟨o,ls,rfl,e2,rfl,ll,_,_⟩;rw[Q7,ll];exact Ze _
  ·rintro i ys σ H2 hi ⟨o,ls,rfl,e2,rfl,ll,lz,lo⟩;refine⟨_,rfl,_,_,rfl,rfl,⟨by decide,by decide⟩,_,rfl,_,_,rfl,rfl,.inl ⟨by decide,by decide⟩,_,_,rfl,rfl,_,rfl,fun x H3 hx ex s3=>⟨_,ls++[x],rfl,e2.trans s3,by rw[Zl];rfl,by rw[Zj,ll];rfl,by rw[List.range_succ,Zl,←lz,ex];rfl,vC lo hx⟩⟩
  ·rintro ys σ H2 ⟨o,ls,rfl,e2,rfl,ll,lz,lo⟩ p np;refine⟨p,_,rfl,.inl ⟨SqL.of zB,fun p2 n2=>?_⟩⟩;exact k p2 ls _ ((e2.trans (zF np)).trans (zF n2)) zB ⟨by omega,lo⟩ lz
end AW
namespace AX
abbrev st:Stmt:=top 65
theorem sc:FnScope ["_law_files","_law_path","_law_other"] ["_law_files","_law_path"] (zG st):=Cp
theorem ok (F:Fun K "_law_free" "_law_free" st f fd)(T:Txt P w K mg t1 t2 t3 t4 t5 t6 t7 aL aC aN aT aA b1 b2 b3)(QA:Cal P w K mg base 1 "_law_over" ["_law_one","_law_other"] Pm):FnOk P w K mg base Cm 2 f fd ["_law_files","_law_path"] (Pd K):=by
 refine F.ok sc (fun vs H Q E h=>?_) (fun cdv A outer s H vs Q E hr h=>?_)
 ·obtain⟨c,Dm,fs,p,rfl,_⟩:=h;rfl
 ·obtain⟨c,Dm,fs,p,rfl,hc,ky,fl,pl,k⟩:=h;refine⟨_,(zE (OW (xN ET rfl (vN (uS (pv 0))) (zU (i:=2) sc.nd rfl (EJ rfl)) (zD (yI (PW.pt (vY (zS (K:=K) (zJ QA hr.m (zA (pv 2) (zA (pv 1) zC))) (fun _=>rfl)) (uP (zS (K:=K) (zJ QA hr.m (zA (pv 1) (zA (pv 2) zC))) (fun _=>rfl))))) (zD (zM j6)) zQ)))) (zD (zM j6))),?_⟩
  refine⟨_,rfl,c,Dm,rfl,hc,fun ob=>?_⟩;have kl:Dm.length=fs.length:=by
   have:=congrArg List.length ky;rw[Q7,Q7]at this;exact this
  have hc1:upd H c (.frz ob (.dK Dm)) c=some (.frz ob (.dK Dm)):=zB;have n0:∀o u,H c≠some (.frz o u):=fun o u z=>by rw[hc]at z;cases z
  refine⟨c,ob,Dm,rfl,hc1,vA (fun i σ H2=>∃o2,σ=[some (.ref c),some (.str p),o2]/\Same (upd H c (.frz ob (.dK Dm))) H2/\((fs.take i).all fun f=>!(Uw (Cc f.1) p||Uw p (Cc f.1)))=true) ⟨none,rfl,Same.refl _,rfl⟩ (fun i σ H2 hi ⟨_,_,e2,_⟩=>e2 _ _ hc1) ?_ ?_⟩
  ·rintro i kk v σ H2 hi ⟨o2,rfl,e2,al⟩;have hl:=(Zu.mp hi).1;have hf:=Zn (l:=fs) (i:=i) (by rwa[←kl]);have ek:=congrArg (fun l=>l[i]?) ky;simp only[Zp,hi,hf,Yt]at ek;have ek:kk=.inr (Cc fs[i].1):=Option.some.inj ek;generalize fs[i]=f at hf ek;subst ek;have fl':=fl f (Zm hf);have bad:(Uw (Cc f.1) p||Uw p (Cc f.1))=true->(fs.all fun f=>!(Uw (Cc f.1) p||Uw p (Cc f.1)))=false:=fun z=>by
    rw[YD];intro q;have:=ZI.mp q f (Zm hf);rw[z]at this;cases this
   have out:(Uw (Cc f.1) p||Uw p (Cc f.1))=true->∃d ob Dm,H2 d=some (.frz ob (.dK Dm))/\(∀o u,H d≠some (.frz o u))/\Q (.bl false) (upd H2 d (.dK Dm)):=fun z=>⟨c,ob,Dm,e2 _ _ hc1,n0,by
    rw[bad z]at k;exact k _ (kU hc e2)⟩
   refine⟨_,rfl,_,rfl,Cc f.1,p,rfl,fl',pl,_,rfl,Ux (fun z=>Um (out (by rw[z];rfl))) (fun z=>?_)⟩;refine⟨_,rfl,_,rfl,p,Cc f.1,rfl,pl,fl',_,rfl,Ux (fun z2=>out (by rw[z2,Bool.or_true])) (fun z2=>⟨_,rfl,e2,?_⟩)⟩;rw[take_snoc hf,List.all_append,al];show(true&&(!(Uw (Cc f.1) p||Uw p (Cc f.1))&&true))=true;rw[YD.mpr z,YD.mpr z2];rfl
  ·rintro σ H2 ⟨o2,rfl,e2,al⟩;rw[kl,ZJ]at al;refine⟨c,ob,Dm,e2 _ _ hc1,n0,?_⟩;rw[al]at k;exact k _ (kU hc e2)
end AX
theorem T7 {a b c d:Str}{i:Int}(h0:0<=i)(h1:i<4):∃x,Hc [V.str a,V.str b,V.str c,V.str d] i=some (.str x)/\(x=a\/x=b\/x=c\/x=d):=by
 match i,h0,h1 with
 | 0,_,_=>exact⟨a,rfl,.inl rfl⟩
 | 1,_,_=>exact⟨b,rfl,.inr (.inl rfl)⟩
 | 2,_,_=>exact⟨c,rfl,.inr (.inr (.inl rfl))⟩
 | 3,_,_=>exact⟨d,rfl,.inr (.inr (.inr rfl))⟩
theorem HC (h:UG d=true):zN ("aaaaaaa"++⟨#[d]⟩)=true:=by
 have e:cs ("aaaaaaa"++(⟨#[d]⟩:Str))=[97,97,97,97,97,97,97,d]:=by
  rw[cs_append,show cs ("aaaaaaa":Str)=[97,97,97,97,97,97,97] by decide +kernel];rfl
 refine label_parts.mpr ⟨by rw[length_cs,e];show 1<=8;decide,by rw[length_cs,e];show 8<=8;decide,?_⟩;rw[e];show(UG 97&&(UG 97&&(UG 97&&(UG 97&&(UG 97&&(UG 97&&(UG 97&&(UG d&&true))))))))=true;rw[h];rfl
namespace AY
abbrev st:Stmt:=top 63
theorem sc:FnScope ["_law_cell","_law_letters","_law_labels","_law_k","_law_label"] ["_law_cell"] (zG st):=Cp
theorem ok (F:Fun K "_law_path_by" "_law_path_by" st f fd)(T:Txt P w K mg t1 t2 t3 t4 t5 t6 t7 aL aC aN aT aA b1 b2 b3):FnOk P w K mg base Cm 1 f fd ["_law_cell"] FR:=by
 refine F.ok sc (fun vs H Q E h=>?_) (fun cdv A outer s H vs Q E hr h=>?_)
 ·obtain⟨c,rfl,_⟩:=h;rfl
 ·obtain⟨c,rfl,k⟩:=h;refine⟨_,(zE (Cr (i:=1) sc.nd pe_str) (zE (Cr (i:=2) sc.nd (q8 zC)) (zE (xN ET rfl (Xo rfl T.range (zA (z8 jJ zI (z8 x9 (pv 0) zI)) zC)) (zU (i:=3) sc.nd rfl (EJ rfl)) (zE (Cr (i:=4) sc.nd (zV (ix_list:Cl _ (Uy K)) (q8 (zA pe_str (zA pe_str (zA pe_str (zA (z8 yJ (z8 Rg pe_str zI) (zV Oe (pv 1) (z8 x9 (z8 xK (pv 0) zI) zI) (fun _ _=>rfl))) zC))))) (z8 x9 (z8 xK (pv 0) (z8 jJ zI (z8 IW zI (pv 3)))) zI) (fun _ _=>rfl))) (zD (yM (kN Y5 YY YZ jM (pv 2) (zA (pv 4) zC)))))) (zD (zM (kN Yf JH JI X0 pe_str (zA (pv 2) zC))))))),?_⟩
  refine⟨ZT _,fun l0 nl0=>?_⟩;have u0:=zF (o:=.lst []) nl0;have h0:0<=c % 4:=by omega
  have h4:c % 4<4:=by omega
  refine⟨_,rfl,_,_,rfl,rfl,(by decide:(0:Int)<4),_,_,rfl,rfl,_,rfl,by omega,by omega,G4 (lo:=0) (n:=(1+c % 4).toNat) (fun i σ H'=>∃o3 o4 ls,σ=[some (.int c),some (.str "abcdefghijklmnopqrstuvwxyz"),some (.ref l0),o3,o4]/\Same H H'/\H' l0=some (.lst (ls.map V.str))/\ls.length=i/\∀l∈ls,zN l=true) ⟨none,none,[],rfl,u0,zB,rfl,fun l hl=>(nomatch hl)⟩ ?_ ?_⟩
  ·rintro i σ H' hi ⟨o3,o4,ls,rfl,e,hl,ll,lo⟩;have hi:i<4:=by omega
   obtain⟨d,hd1,hd2⟩:=menu_low.at (i:=c / 64 % 26) (by omega) (by omega);have ml:MulOk "a" 7:=⟨by decide,fun _ _=>by decide,fun _ _=>by decide⟩;have l8:("aaaaaaa":Str).length=7:=by decide +kernel
   refine⟨"a",7,rfl,rfl,ml,?_⟩;rw[WN];refine⟨_,rfl,_,rfl,_,_,rfl,rfl,⟨by decide,by decide⟩,_,_,rfl,rfl,(by decide:(0:Int)<26),_,_,d,rfl,rfl,menu_low.len (by decide),hd1,_,_,rfl,rfl,le_line (by rw[l8];show 7+1<=_;decide),Uv 4,fun p np=>?_⟩;have up:=zF (o:=.lst [V.str "a",V.str "b",V.str "ab",V.str ("aaaaaaa"++⟨#[d]⟩)]) np;refine⟨_,rfl,_,rfl,_,_,rfl,rfl,.inl ⟨by decide,by decide⟩,_,_,rfl,rfl,_,_,rfl,rfl,⟨by omega,by omega⟩,_,_,rfl,rfl,(by decide:(0:Int)<4),?_⟩;obtain⟨x,hx,xc⟩:=T7 (a:="a") (b:="b") (c:="ab") (d:="aaaaaaa"++⟨#[d]⟩) (i:=c / (4+12*(0+(i:Int))) % 4) (VJ _ (by decide)) (Va _ (by decide));have lx:zN x=true:=by
    rcases xc with z|z|z|z
    ·rw[z];decide +kernel
    ·rw[z];decide +kernel
    ·rw[z];decide +kernel
    ·rw[z];exact HC hd2
   refine⟨p,_,_,_,rfl,rfl,SqL.of zB,hx,?_⟩;have hl2:=up _ _ hl;refine⟨_,rfl,.inl ⟨rfl,_,SqL.of hl2⟩,_,rfl,l0,_,_,rfl,rfl,hl2,yS (by rw[Q7];omega),_,_,ls++[x],rfl,An.Same.updF (e.trans up) nl0,by rw[zB,Zl];rfl,by rw[Zj,ll];rfl,vC lo lx⟩
  ·rintro σ H' ⟨o3,o4,ls,rfl,e,hl,ll,lo⟩;have e1:("/":Str).length=1:=by decide +kernel
   have l4:ls.length<=4:=by omega
   refine⟨rfl,_,rfl,"/",l0,ls,rfl,rfl,.inl (SqL.of hl),?_,k ls H' ⟨fun z=>?_,l4,lo⟩ e⟩
   ·have:=Bx (n:=8) ls (fun y hy=>(label_parts.mp (lo y hy)).2.1);rw[e1];omega
   ·rw[z]at ll;have ll:0=(1+c % 4).toNat:=ll;omega
end AY
end
end An09
namespace An
open PySem L2 AnJ
def FB (fs:Dk)(f:Fi):Dk:=if f.1∈fs.map (·.1) then fs.map (fun g=>if g.1=f.1 then f else g) else fs++[f]
theorem BJ {a t:Da}(ha:a≠[])(ht:t≠[]):Cc (a++t)=Cc a++"/"++Cc t:=cs_inj (by
 have e:cs ("/":Str)=[47]:=by decide +kernel
 unfold Cc;rw[xT,Zl,Hw (by simpa using ha) (by simpa using ht),cs_append,cs_append,xT,xT,e];simp)
theorem FsAt.put {K:Cd}(h:FsAt K H fs Dm){n:Nat}(g:GoodF n fs){f:Fi}{v:V}(h0:f.1≠[])(hl:∀l∈f.1,zN l=true)(hv:Dt K H (tupS f.2) v)(hn:Uz f.2):FsAt K H (FB fs f) (putK Dm (.inr (Cc f.1)) v):=by
 have key:∀k∈fs,((.inr (Cc k.1):Key)=.inr (Cc f.1))↔k.1=f.1:=fun k hk=>⟨fun z=>x4 (d:=0) (g.lab k hk).1 h0 (g.lab k hk).2.2.1 hl (Sum.inr.inj z),fun z=>by rw[z]⟩
 by_cases z:f.1∈fs.map (·.1)
 ·have hin:∃k∈fs,k.1=f.1:=let ⟨k,hk,e⟩:=Zb.mp z;⟨k,hk,e⟩;have ha:(Dm.any fun kv=>decide (kv.1=.inr (Cc f.1)))=true:=by
   obtain⟨k,hk,e⟩:=hin;have:(.inr (Cc f.1):Key)∈Dm.map (·.1):=by rw[h.keys];exact Zb.mpr ⟨k,hk,by rw[e]⟩
   obtain⟨kv,m,e2⟩:=Zb.mp this;exact ZY.mpr ⟨kv,m,Zf e2⟩
  unfold putK FB;rw[Zy ha,Zy z];refine⟨?_,fun i k kv a b=>?_⟩
  ·rw[ZB,ZB];have e1:Dm.map ((fun p=>p.1)∘fun kv=>if kv.1=.inr (Cc f.1) then(kv.1,v) else kv)=Dm.map (·.1):=ZS fun kv _=>by
    show(if kv.1=.inr (Cc f.1) then(kv.1,v) else kv).1=kv.1
    split<;>rfl
   rw[e1,h.keys];refine ZS fun k _=>?_;show(Er (Cc k.1):Key)=.inr (Cc (if k.1=f.1 then f else k).1)
   split
   ·rename_i q;rw[q]
   ·rfl
  ·rw[Zp]at a b;obtain⟨k0,hk0,ek⟩:=Z2.mp a;obtain⟨kv0,hkv0,ekv⟩:=Z2.mp b;have e1:=congrArg (fun l=>l[i]?) h.keys;simp only[Zp,hk0,hkv0,Yt]at e1;have e1:kv0.1=.inr (Cc k0.1):=Option.some.inj e1
   by_cases q:k0.1=f.1
   ·rw[Zy q]at ek;rw[Zy (by rw[e1,q])]at ekv;rw[←ek,←ekv];exact⟨hv,hn⟩
   ·rw[ZA q]at ek;rw[ZA (fun y=>q ((key k0 (Zm hk0)).mp (e1.symm.trans y)))]at ekv;rw[←ek,←ekv];exact h.val i k0 kv0 hk0 hkv0
 ·have nk:(.inr (Cc f.1):Key)∉Dm.map (·.1):=fun y=>by
   rw[h.keys]at y;obtain⟨k,hk,e⟩:=Zb.mp y;exact z (Zb.mpr ⟨k,hk,(key k hk).mp e⟩)
  rw[qQ nk];unfold FB;rw[ZA z];exact h.snoc hv hn
theorem Tree.labs (g:OkS S):∀{d:Nat} {x:Str},Tree d S x->∀f∈reads d S x,∀l∈f.1,zN l=true
 | 0,_,h=>absurd h (fun z=>z)
 |d+1,x,h=>by
  rcases h with⟨ls,h⟩|⟨Do,h,so,hr⟩
  ·rw[zR g h];intro f hf l hl;rw[Q8.mp hf]at hl;cases hl
  ·rw[yC g h];intro f hf l hl;obtain⟨r,hr',hf⟩:=Z1.mp hf;obtain⟨f',hf',rfl⟩:=Zb.mp hf
   rcases Zi.mp hl with z|z
   ·rw[z];exact(hr r hr').1
   ·exact Tree.labs g (hr r hr').2.1 f' hf' l z
theorem Tree.row_len (g:OkS S){y:Str}{Do:Dg}(h:At S y (.tree Do)):Do.length<=500:=by
 obtain⟨e,he,_,hd⟩:=h;obtain⟨t,ht,gt,_⟩:=g.th e he;have:=X1 (hd.symm.trans ht);subst this;have:=gt.1;have this:(z7 Do).length<=1000:=this;rw[flat_len]at this;omega
section
variable {K:Cd}{H:Hp}{fs gs:Dk}{Dm more:Dl}
theorem FsAt.app (h:FsAt K H fs Dm)(k:FsAt K H gs more):FsAt K H (fs++gs) (Dm++more):=by
 refine⟨by rw[Zl,Zl,h.keys,k.keys],fun i g kv a b=>?_⟩
 by_cases z:i<fs.length
 ·rw[ZR z]at a;rw[ZR (by rwa[h.len])]at b;exact h.val i g kv a b
 ·rw[ZU (by omega)]at a;rw[ZU (by rw[h.len];omega),h.len]at b;exact k.val _ g kv a b
end
def CB (B:Da)(fs:Dk):Dk:=fs.map fun f=>(B++f.1,f.2)
theorem PL (fs:Dk):CB [] fs=fs:=by
 unfold CB
 conv=>rhs;rw[←VE fs]
 exact ZS fun f _=>rfl
theorem PM (B:Da)(l:Str)(fs:Dk):CB B (fs.map fun f=>(l::f.1,f.2))=CB (B++[l]) fs:=by
 unfold CB;rw[ZB];exact ZS fun f _=>by
  show(B++l::f.1,f.2)=(B++[l]++f.1,f.2);rw[Z0];rfl
theorem BF (B:Da)(fs gs:Dk):CB B (fs++gs)=CB B fs++CB B gs:=Zl
theorem Si {B:Da}{fs:Dk}(h:fs.Pairwise (fun f g=>Cy (Cc f.1) (Cc g.1)))(ne:∀f∈fs,f.1≠[])(hB:∀l∈B,zN l=true)(hl:∀f∈fs,∀l∈f.1,zN l=true):((CB B fs).map fun f=>(.inr (Cc f.1):Key)).Nodup:=by
 unfold CB;rw[ZB,ZF,Z9];refine h.imp_of_mem fun{a b} ha hb z e=>?_;have e:Cc (B++a.1)=Cc (B++b.1):=Sum.inr.inj e;have nn:∀{f:Fi},f∈fs->B++f.1≠[]:=fun{f} hf q=>ne f hf (Vm.mp q).2;have all:∀{f:Fi},f∈fs->∀l∈B++f.1,zN l=true:=fun{f} hf l q=>by
  rcases Zt.mp q with q|q
  ·exact hB l q
  ·exact hl f hf l q
 have:=x4 (d:=0) (nn ha) (nn hb) (all ha) (all hb) e;exact vX z (by rw[Vd this])
theorem OY (B:Da)(l:Str)(hB:B≠[]):Cc B++"/"++l=Cc (B++[l]):=by
 rw[BJ hB (ZL _ _),uY]
theorem GS {B:Da}(hB:∀l∈B,zN l=true):Cc B=""↔B=[]:=by
 constructor
 ·intro z;cases B with
  |nil=>rfl
  |cons b B =>
   obtain⟨s,e,_⟩:=Ig b B;have h1:=hB b (Zc ..);have:=congrArg (fun x=>(cs x).length) z;simp only[e,Zj]at this;unfold zN at h1;rw[Zk,Zk,ZM,length_cs]at h1;have h2:(cs ("":Str)).length=0:=by decide +kernel
   omega
 ·intro z;rw[z];exact cs_inj (by unfold Cc;rw[xT];rfl)
end An
namespace An09
open PySem L2 An
seal L2.PS L2.PSs L2.PE L2.PT L2.PW L2.PA L2.PG L2.PGs L2.PI L2.PFi L2.PC
def Il (P:Ei)(w:Em)(K:Cd)(C:Eh):Nat->Sp
 | 0=>fun _ _ _ _=>False
 |d+1=>fun vs H Q _=>∃(a:Eh) (fp:Dd) (S:Di) (x:Str) (B:Da),vs=[.ref a,.str x,.str (Cc B)]/\ShAt P w K C H a fp S/\OkS S/\Tree (d+1) S x/\(∀l∈B,zN l=true)/\B.length+(d+1)<=50/\(reads (d+1) S x).length<=63/\(∀f∈reads (d+1) S x,Uz f.2) /\
  ∀e Dm H',Same H H'->H e=none->H' e=some (.dK Dm)->FsAt K H' (CB B (reads (d+1) S x)) Dm->Q (.ref e) H'
section
variable {P:Ei}{w:Em}{K:Cd}{mg:Str->Dc}{base:Ez}{t1 t2 t3 t4 t5 t6 t7:Tok}{aL aC aN aT aA b1 b2 b3:Eh}
theorem GY {H:Hp}{c:Eh}{ob:Obj}{Dm:Dl}(h:H c=some (.frz ob (.dK Dm))):∀b∈[c],∀xs,¬Rd H b (.tup xs):=fun b hb xs z=>by
 rw[Q8.mp hb]at z
 rcases z with z|⟨o,z⟩<;>rw[h]at z<;>cases z
namespace AZ
abbrev st:Stmt:=top 67
theorem sc:FnScope ["_law_store","_law_name","_law_before","_law_found","_law_thing","_law_label","_law_inner","_law_path","_law_beneath","_law_other"] ["_law_store","_law_name","_law_before"] (zG st):=Cp
theorem step {L:Nat}(F:Fun K "_law_read" "_law_read" st f fd)(T:Txt P w K mg t1 t2 t3 t4 t5 t6 t7 aL aC aN aT aA b1 b2 b3)(Qa:MetX P w K mg base aC 4 "thing" ["self","name"] (qF P w K aC aN))(hL:8<=L)(Qu:Cal P w K mg base L "_law_read" ["_law_store","_law_name","_law_before"] (Il P w K aC d)):FnOk P w K mg base Cm (L+1) f fd ["_law_store","_law_name","_law_before"] (Il P w K aC (d+1)):=by
 refine F.ok sc (fun vs H Q E h=>?_) (fun cdv A outer s H vs Q E hr h=>?_)
 ·obtain⟨a,fp,S,x,B,rfl,_⟩:=h;rfl
 ·obtain⟨a,fp,S,x,B,rfl,sh,ok,tr,hB,bl,rl,rn,k⟩:=h;have hu:=GN hr;refine⟨_,(zE (Cr (i:=3) sc.nd yO) (zE (Cr (i:=4) sc.nd (y9 (pv 0) T.cls Qa (hr.mono (by omega)) z9 (zA (pv 1) zC))) (zE (yI (z5 qA (zV (ix_tup:Cl _ (Ut K)) (pv 4) zI (fun _ _=>rfl)) pe_str (zW _)) (zE (xO hu (pv 3) (pv 2) (zV (ix_tup:Cl _ (Ut K)) (pv 4) zI (fun _ _=>rfl)) rfl) (zD (zM (pv 3)))) zQ) (zE (xN ET rfl (j4 (zV (ix_tup:Cl _ (Ut K)) (pv 4) zI (fun _ _=>rfl))) (Xe rfl (y8 (zU (i:=5) sc.nd rfl (EJ rfl)) (y8 (zU (i:=6) sc.nd rfl (EJ rfl)) uH))) (yT (Cr (i:=7) sc.nd (Gh (z5 qA (pv 2) pe_str (zW _)) (pv 5) (z8 yJ (z8 yJ (pv 2) pe_str) (pv 5)))) (zE (Cr (i:=8) sc.nd (zJ Qu (hr.mono (by omega)) (zA (pv 0) (zA (pv 6) (zA (pv 7) zC))))) (zD (uI (xN ET rfl (vN (uS (pv 8))) (zU (i:=9) sc.nd rfl (EJ rfl)) (zD (xO hu (pv 3) (pv 9) (jA hu (pv 8) (pv 9) (fun _ _=>rfl)) rfl)))))))) (zD (zM (pv 3))))))),?_⟩
  refine fun e0 ne0=>?_;have u0:=zF (o:=.dK []) ne0;have he0:upd H e0 (.dK []) e0=some (.dK []):=zB;generalize upd H e0 (.dK [])=H1 at u0 he0 ⊢;obtain⟨ix,i1,i2,i3,hix⟩:=uN sh;have hx:UZ S (.str x)=true:=Zf tr.mem;refine⟨_,rfl,a,ix,_,rfl,u0 _ _ hix,rfl,_,rfl,a,fp,S,.str x,_,rfl,sh.same u0,rfl,fun e he ed t ht=>?_,fun z=>by rw[hx]at z;cases z⟩;have pB:=vS hB;have l1:("/":Str).length=1:=by decide +kernel
  rcases id tr with⟨ls,atl⟩|⟨Do,att,so,hrr⟩
  ·rw[qL ok atl he ed]at ht;obtain⟨vv,ht3,hvv⟩:=By ht;have lnk:Uz ls:=rn ([],ls) (by rw[zR ok atl];exact Q8.mpr rfl);rw[zR ok atl]at k;refine⟨_,rfl,t,_,_,_,rfl,rfl,ht3,rfl,rfl,true,?_,Um ?_⟩
   ·show V.bl (decide (V.str "leaf"=V.str "leaf"))=V.bl true;rw[Zf rfl]
   refine⟨_,rfl,t,_,_,_,rfl,rfl,ht3,rfl,_,rfl,_,rfl,e0,_,rfl,DPut.k (k:=.inr (Cc B)) he0 (yS (by show 0<16777216;decide)),_,rfl,k e0 [(.inr (Cc B),vv)] _ (An.Same.updF u0 ne0) ne0 zB ?_⟩;have f1:=FsAt.snoc (K:=K) (H:=upd H1 e0 (.dK [((.inr (Cc B):Key),vv)])) (fs:=[]) FsAt.nil (f:=(B,ls)) (v:=vv) (Dt.off (zO he0) zY _ _ (qK lnk) hvv) lnk;have eb:CB B [(([],ls):Fi)]=[(B,ls)]:=by
    show[((B++[],ls):Fi)]=_;rw[Zs]
   rwa[eb]
  ·rw[qL ok att he ed]at ht;obtain⟨c,rs,ht1,hc,hrs⟩:=vT ht;have rd:reads (d+1) S x=Do.flatMap (Co d S):=yC ok att;have rise:=(tr.rise ok).1;have lbs:=tr.labs ok;have nem:∀f∈reads (d+1) S x,f.1≠[]:=fun f hf=>by
    rw[rd]at hf;obtain⟨r,_,hf⟩:=Z1.mp hf;obtain⟨f',_,rfl⟩:=Zb.mp hf;exact ZL _ _
   rw[rd]at rl rn rise k lbs nem;have ndA:=Si (B:=B) rise nem hB lbs;have rsl:rs.length=Do.length:=by rw[DtAll.length hrs,Q7]
   have nt:=zO he0;refine⟨_,rfl,t,_,_,_,rfl,rfl,ht1,rfl,rfl,false,?_,Uo ?_⟩
   ·show V.bl (decide (V.str "tree"=V.str "leaf"))=V.bl false;rw[Zr (by intro z;injection z with z;exact absurd z (by decide +kernel))]
   refine⟨_,rfl,t,_,_,_,rfl,rfl,ht1,rfl,c,rfl,⟨_,hc⟩,CV (K:=K) (a:=c) (xs:=rs) (fun i σ H'=>∃o5 o6 o7 o8 o9 Dm,σ=[some (.ref a),some (.str x),some (.str (Cc B)),some (.ref e0),some (.ref t),o5,o6,o7,o8,o9]/\Off [e0] H1 H'/\H' e0=some (.dK Dm)/\FsAt K H' (CB B ((Do.take i).flatMap (Co d S))) Dm) ⟨none,none,none,none,none,[],rfl,Off.refl _ _,he0,FsAt.nil⟩ (fun i σ H' _ h=>?_) ?_ ?_⟩
   ·obtain⟨_,_,_,_,_,_,_,of',_⟩:=h;exact vV nt of' hc
   ·rintro i v σ H' hv ⟨o5,o6,o7,o8,o9,Dm,rfl,of',he',fs'⟩ D' hD;obtain⟨r,c',hr',rfl,hc'⟩:=BW hrs hv;have sm:Same H H':=fun b o e=>of' b o (fun z=>by rw[Q8.mp z,ne0]at e;cases e) (u0 _ _ e);have sh':=sh.same sm;have hrm:=Zm hr';obtain⟨lb,trr,nen⟩:=hrr r hrm;have etk:(Do.take (i+1)).flatMap (Co d S)=(Do.take i).flatMap (Co d S)++Co d S r:=by rw[take_snoc hr',JW,Ym,VA,Zs]
    have eall:Do.flatMap (Co d S)=((Do.take i).flatMap (Co d S)++Co d S r)++(Do.drop (i+1)).flatMap (Co d S):=by rw[←etk,←JW,ZW]
    have nd:=ndA;rw[eall,BF,BF,Zl,Zl,Ye,Ye]at nd;have er:CB B (Co d S r)=CB (B++[r.1]) (reads d S r.2):=PM B r.1 (reads d S r.2);have lr:(Co d S r).length=(reads d S r.2).length:=Q7 ..;have kl:Dm.length+(Co d S r).length<=63:=by
     have:=congrArg List.length eall;rw[Zj,Zj]at this;have h2:=fs'.len;unfold CB at h2;rw[Q7]at h2;omega
    have inr:∀f∈Co d S r,Uz f.2:=fun f hf=>rn f (Z1.mpr ⟨r,hrm,hf⟩);have lbl:=(label_parts.mp lb).2.1;refine⟨c',_,rfl,vV nt of' hc',rfl,_,_,rfl,_,_,rfl,rfl,?_⟩;refine⟨fun σ' H''=>σ'=[some (.ref a),some (.str x),some (.str (Cc B)),some (.ref e0),some (.ref t),some (.str r.1),some (.str r.2),some (.str (Cc (B++[r.1]))),o8,o9]/\H''=H',?_,?_⟩
    ·by_cases b0:B=[]
     ·subst b0;have z1:Cc []="":=(GS (B:=[]) (fun l hl=>absurd hl Yd)).mpr rfl;refine⟨_,rfl,rfl,true,?_,Um ⟨_,rfl,?_⟩⟩
      ·show V.bl (decide (V.str (Cc [])=V.str ""))=V.bl true;rw[z1,Zf rfl]
      ·show _=_/\_;rw[VH,uY];exact⟨rfl,rfl⟩
     ·have z1:Cc B≠"":=fun z=>b0 ((GS hB).mp z);refine⟨_,rfl,rfl,false,?_,Uo ⟨_,rfl,_,_,rfl,rfl,le_line ?_,_,rfl,_,_,rfl,rfl,le_line ?_,?_⟩⟩
      ·show V.bl (decide (V.str (Cc B)=V.str ""))=V.bl false;rw[Zr (by intro z;injection z with z;exact z1 z)]
      ·rw[l1,length_cs];omega
      ·rw[len_append,l1,length_cs];omega
      ·show _=_/\_;rw[OY B r.1 b0];exact⟨rfl,rfl⟩
    ·rintro σ' H'' ⟨rfl,rfl⟩;cases d with
     |zero=>exact absurd trr (fun z=>z)
     |succ d =>
      refine⟨_,rfl,_,rfl,_,rfl,a,fp,S,r.2,B++[r.1],rfl,sh',ok,trr,fun l hl=>?_,by rw[Zj];show B.length+1+(d+1)<=50;omega,by omega,fun f hf=>inr (r.1::f.1,f.2) (Zb.mpr ⟨f,hf,rfl⟩),fun e3 kv3 H3 s3 ne3 he3 ff3=>?_⟩
      ·rcases Zt.mp hl with q|q
       ·exact hB l q
       ·rwa[Q8.mp q]
      rw[←er]at ff3;have l3:kv3.length=(Co (d+1) S r).length:=by
       have h2:=ff3.len;unfold CB at h2;rw[Q7]at h2;exact h2
      have e03:e0≠e3:=fun z=>by rw[←z,he']at ne3;cases ne3
      have kn3:(kv3.map (·.1)).Nodup:=by rw[ff3.keys];exact nd.1.2.1
      have kdj:∀q∈kv3.map (·.1),q∉Dm.map (·.1):=fun q hq z=>nd.1.2.2 q (by rwa[←fs'.keys]) q (by rwa[←ff3.keys]) rfl;refine⟨_,rfl,e3,kv3,rfl,he3,fun ob=>?_⟩;have o4:Off [e3] H3 (upd H3 e3 (.frz ob (.dK kv3))):=zY;have h43:upd H3 e3 (.frz ob (.dK kv3)) e3=some (.frz ob (.dK kv3)):=zB;have h40:upd H3 e3 (.frz ob (.dK kv3)) e0=some (.dK Dm):=by rw[zH e03];exact s3 _ _ he'
      have f40:=(fs'.same s3).off (zO he3) o4;have f43:=ff3.off (zO he3) o4;have of4:∀b o,b∉[e0]->H1 b=some o->upd H3 e3 (.frz ob (.dK kv3)) b=some o:=fun b o nb eb=>by
       have hb':=of' b o nb eb;rw[zH (fun z=>by rw[z,ne3]at hb';cases hb')];exact s3 _ _ hb'
      generalize upd H3 e3 (.frz ob (.dK kv3))=H4 at o4 h43 h40 f40 f43 of4 ⊢;refine⟨e3,ob,kv3,rfl,h43,vA (fun j σ H5=>∃o9,σ=[some (.ref a),some (.str x),some (.str (Cc B)),some (.ref e0),some (.ref t),some (.str r.1),some (.str r.2),some (.str (Cc (B++[r.1]))),some (.ref e3),o9]/\Off [e0] H4 H5/\H5 e0=some (.dK (Dm++kv3.take j))) ⟨o9,rfl,Off.refl _ _,by rw[List.take_zero,Zs];exact h40⟩ (fun j σ H5 hj ⟨_,_,o5,_⟩=>o5 _ _ (fun z=>e03 (Q8.mp z).symm) h43) ?_ ?_⟩
      ·rintro j kk v σ H5 hj ⟨o9,rfl,o5,h50⟩;have h53:=o5 _ _ (fun z=>e03 (Q8.mp z).symm) h43;have hm:=Zm hj;have vv:=jN kn3 hm;have nk:kk∉(Dm++kv3.take j).map (·.1):=fun z=>by
        rw[Zl]at z
        rcases Zt.mp z with z|z
        ·exact kdj kk (Zb.mpr ⟨_,hm,rfl⟩) z
        ·have n2:=kn3;rw[←ZW j kv3,Zl,Ye]at n2;have hd:kv3.drop j=(kk,v)::kv3.drop (j+1):=by
          have:=Zu.mp hj;rw[←this.2];exact JT this.1
         exact n2.2.2 kk z kk (by rw[hd];exact Zc ..) rfl
       refine⟨_,rfl,_,rfl,e3,v,rfl,.inl ⟨kv3,kk,.inr ⟨ob,h53⟩,rfl,vv.symm⟩,_,rfl,_,rfl,e0,_,rfl,DPut.k (k:=kk) h50 (yS (by rw[Zj,ZD];omega)),_,rfl,o5.trans zY,?_⟩;rw[zB,qQ nk,take_snoc hj,Z0]
      ·rintro σ H5 ⟨o9,rfl,o5,h50⟩;rw[ZJ]at h50;have h53:=o5 _ _ (fun z=>e03 (Q8.mp z).symm) h43;refine⟨e3,ob,kv3,h53,fun o u z=>?_,?_⟩
       ·have z:H e3=some (.frz o u):=z;have:=sm _ _ z;rw[ne3]at this;cases this
       refine hD _ _ ⟨_,_,_,_,_,Dm++kv3,rfl,fun b o nb eb=>?_,by rw[zH e03];exact h50,?_⟩
       ·have hb':=of' b o nb eb;rw[zH (fun z=>by rw[z,ne3]at hb';cases hb')];exact o5 b o nb (of4 b o nb eb)
       ·rw[etk,BF];exact((f40.app f43).off (zO h40) o5).off (GY h53) zY
   ·rintro σ H' ⟨o5,o6,o7,o8,o9,Dm,rfl,of',he',fs'⟩;rw[rsl,ZJ]at fs';exact⟨_,rfl,k e0 Dm H' (fun b o e=>of' b o (fun z=>by rw[Q8.mp z,ne0]at e;cases e) (u0 _ _ e)) ne0 he' fs'⟩
theorem ok0 (F:Fun K "_law_read" "_law_read" st f fd):FnOk P w K mg base Cm 8 f fd ["_law_store","_law_name","_law_before"] (Il P w K aC 0) :=
 F.ok sc (fun vs H Q E h=>EB h) (fun cdv A outer s H vs Q E hr h=>EB h)
theorem ok (F:Fun K "_law_read" "_law_read" st f fd)(T:Txt P w K mg t1 t2 t3 t4 t5 t6 t7 aL aC aN aT aA b1 b2 b3)(Qa:MetX P w K mg base aC 4 "thing" ["self","name"] (qF P w K aC aN))(Hm:mg "_law_read"=some (.ref f))(Hb:Binds K fd ["_law_store","_law_name","_law_before"] []):FnOk P w K mg base Cm 13 f fd ["_law_store","_law_name","_law_before"] (Il P w K aC 5):=by
 have c0:=Cal.mk' F (ok0 (P:=P) (w:=w) (mg:=mg) (base:=base) (aC:=aC) F) Hm Hb;have c1:=Cal.mk' F (step F T Qa (by decide) c0) Hm Hb;have c2:=Cal.mk' F (step F T Qa (by decide) c1) Hm Hb;have c3:=Cal.mk' F (step F T Qa (by decide) c2) Hm Hb;have c4:=Cal.mk' F (step F T Qa (by decide) c3) Hm Hb;exact step F T Qa (by decide) c4
end AZ
end
end An09
namespace An
open PySem L2 AnJ
theorem GoodF.subs {gs:Dk}(g:GoodF n fs)(h:∀k∈gs,k∈fs)(nd:(gs.map (·.1)).Nodup):GoodF n gs :=
 ⟨fun f hf=>g.lab f (h f hf),nd,fun f hf k hk t e=>g.pre f (h f hf) k (h k hk) t e⟩
theorem GoodF.one (g:GoodF n fs){f k:Fi}(hf:f∈fs)(hk:k∈fs)(e:f.1=k.1):f=k:=by
 obtain⟨i,hi,rfl⟩:=ZN.mp hf;obtain⟨j,hj,rfl⟩:=ZN.mp hk;have:=(YX (h₀:=by simpa using hi) (h₁:=by simpa using hj) g.nd).mp (by rwa[ZQ,ZQ]);subst this;rfl
theorem Ww {n:Nat}{fs:Dk}(g:∀f∈fs,f.1.length<=n):wt fs<=n*fs.length:=by
 unfold wt
 induction fs with
 |nil=>exact ZT _
 |cons f fs ih =>
  have h1:=g f (Zc ..);have h2:=ih fun k hk=>g k (Za _ hk);rw[ZC,Jl,Zh,Nat.mul_succ];omega
theorem GoodF.wt (g:GoodF n fs):wt fs<=n*fs.length:=Ww fun f hf=>(g.lab f hf).2.1
theorem HL {rs:Dk}{ss:Da}(g:GoodF n fs)(hr:rs.Pairwise fun f h=>Cy (Cc f.1) (Cc h.1))(e:∀f,f∈rs↔f∈fs)(p:ss.Perm (fs.map fun f=>Cc f.1))(so:PyProof.Rows.sortedS ss=true):rs.map (fun f=>Cc f.1)=ss:=by
 have h1:(rs.map fun f=>Cc f.1).Pairwise Cy:=Z9.mpr hr;have n1:(rs.map fun f=>Cc f.1).Nodup:=ZF.mpr (h1.imp fun{a b} z=>vX z);have n2:(fs.map fun f=>Cc f.1).Nodup:=by
  have:=g.nd;rw[ZF,Z9]at this ⊢;refine this.imp_of_mem fun{a b} ha hb ne q=>ne (x4 (d:=0) (g.lab a ha).1 (g.lab b hb).1 (g.lab a ha).2.2.1 (g.lab b hb).2.2.1 q)
 refine Jm (le:=PB) (fun a b _ _ z q=>Gi z q) (h1.imp fun{a b} z q=>KO z q) (Xl so) ?_;refine((Yz n1 n2).mpr fun x=>?_).trans p.symm;rw[Zb,Zb];exact⟨fun⟨f,hf,q⟩=>⟨f,(e f).mp hf,q⟩,fun⟨f,hf,q⟩=>⟨f,(e f).mpr hf,q⟩⟩
section
variable {K:Cd}{H:Hp}{fs:Dk}{Dm:Dl}
theorem FsAt.nd (h:FsAt K H fs Dm)(g:GoodF n fs):(Dm.map (·.1)).Nodup:=by
 rw[h.keys];have:=g.nd;rw[ZF,Z9]at this ⊢;exact this.imp_of_mem fun{a b} ha hb ne q=>ne (x4 (d:=0) (g.lab a ha).1 (g.lab b hb).1 (g.lab a ha).2.2.1 (g.lab b hb).2.2.1 (Sum.inr.inj q))
theorem FsAt.at (h:FsAt K H fs Dm)(g:GoodF n fs){f:Fi}(hf:f∈fs):∃v,Ur Dm (.inr (Cc f.1))=some v/\Dt K H (tupS f.2) v/\Uz f.2:=by
 obtain⟨i,hi,rfl⟩:=ZN.mp hf;have hk:i<Dm.length:=by rwa[h.len]
 obtain⟨f',e1,e2,e3,e4⟩:=h.get (i:=i) (k:=Dm[i].1) (v:=Dm[i].2) (Zn hk);rw[Zn hi]at e1;cases e1;refine⟨Dm[i].2,jN (h.nd g) ?_,e3,e4⟩;rw[←e2];exact YB hk
theorem FsAt.kV (h:FsAt K H fs Dm):(Dm.map fun kv=>kV kv.1)=(fs.map fun f=>Cc f.1).map V.str:=by
 have:(Dm.map fun kv=>L2.kV kv.1)=(Dm.map (·.1)).map L2.kV:=by rw[ZB];rfl
 rw[this,h.keys,ZB,ZB];rfl
theorem FsAt.allS (h:FsAt K H fs Dm):R8 Dm/\Dm.map GD=fs.map fun f=>Cc f.1:=by
 constructor
 ·intro kv hkv;have:kv.1∈Dm.map (·.1):=Zb.mpr ⟨kv,hkv,rfl⟩;rw[h.keys]at this;obtain⟨f,_,e⟩:=Zb.mp this;unfold GD;rw[←e]
 ·have e:Dm.map GD=(Dm.map (·.1)).map fun k=>GD (k,V.non):=by rw[ZB];rfl
  rw[e,h.keys,ZB];rfl
end
end An
namespace L2
open PySem PySem.Spec PyProof.Rows
section
variable {X:Cx}{K:Cd}
theorem KU (hu:X.A.units+64<E5)(hK:X.K=K:=by rfl):Cu X (EK .Eq) (T8 K):=by
 subst hK;exact OJ hu
end
end L2
namespace An09
open PySem L2 An
seal L2.PS L2.PSs L2.PE L2.PT L2.PW L2.PA L2.PG L2.PGs L2.PI L2.PFi L2.PC
theorem pth_mem:∀{p:Da} {c:Nat},c∈cs (Cc p)->c=47\/∃l∈p,c∈cs l
 |[],c,h=>by
  have e:cs (Cc [])=[]:=by decide +kernel
  rw[e]at h;exact absurd h Yd
 |[l],c,h=>by
  rw[XX]at h;exact .inr ⟨l,Q8.mpr rfl,h⟩
 |l::b::r,c,h=>by
  rw[qN l (ZL b r)]at h
  rcases Zt.mp h with h|h
  ·exact .inr ⟨l,Zc ..,h⟩
  ·rcases Zi.mp h with h|h
   ·exact .inl h
   ·rcases pth_mem h with q|⟨m,hm,q⟩
    ·exact .inl q
    ·exact .inr ⟨m,Za _ hm,q⟩
theorem SN {p:Da}(h:∀l∈p,zN l=true):Ep (Cc p)=true:=by
 rw[xM];intro c hc
 rcases pth_mem hc with q|⟨l,hl,q⟩
 ·omega
 ·exact((xM _).mp (U7 (h l hl)).ok) c q
theorem Hg {d:Eh}{Dm:Dl}{ob:Obj}{g:TG}{te:TE}{Q:VK}{H:Hp}(Pv:Nat->Dj->St->Hp->Prop)(h0:Pv 0 [] (UA src σ) H)(hz:Dm.length<=sizeLine)(hl:∀i ys σ H,i<=Dm.length->Pv i ys σ H->H d=some (.frz ob (.dK Dm))/\ys.length<=i)
  (hs:∀i k v ys σ H,Dm[i]?=some (k,v)->Pv i ys σ H->g (kV k) σ H fun σ2 H3=>te σ2 H3 fun y H5=>Pv (i+1) (ys++[y]) σ2 H5)
  (hd:∀ys σ H,Pv Dm.length ys σ H->∀p,H p=none->Q (.ref p) (upd H p (.lst ys))):UK src (Tq d Dm ob) g ID te Q σ H :=
 MR Pv h0 hz hl (fun i k v ys σ H e p=>by rw[Ga];exact hs i k v ys σ H e p) hd
def Po (K:Cd):Sp:=fun vs H Q _=>∃(c d:Eh) (kv1 kv2:Dl) (rs fs:Dk),vs=[.ref c,.ref d]/\H c=some (.dK kv1)/\FsAt K H rs kv1/\rs.Pairwise (fun f h=>Cy (Cc f.1) (Cc h.1))/\(∀f,f∈rs↔f∈fs)/\H d=some (.dK kv2)/\FsAt K H fs kv2/\GoodF 4 fs/\c≠d/\fs.length<=63/\∀H',Same H H'->Q (.bl true) H'
section
variable {P:Ei}{w:Em}{K:Cd}{mg:Str->Dc}{base:Ez}{t1 t2 t3 t4 t5 t6 t7:Tok}{aL aC aN aT aA b1 b2 b3:Eh}
namespace A0
abbrev st:Stmt:=top 69
theorem sc:FnScope ["_law_found","_law_files"] ["_law_found","_law_files"] (zG st):=Cp
theorem ok (F:Fun K "_law_same" "_law_same" st f fd)(T:Txt P w K mg t1 t2 t3 t4 t5 t6 t7 aL aC aN aT aA b1 b2 b3):FnOk P w K mg base Cm 1 f fd ["_law_found","_law_files"] (Po K):=by
 refine F.ok sc (fun vs H Q E h=>?_) (fun cdv A outer s H vs Q E hr h=>?_)
 ·obtain⟨c,d,kv1,kv2,rs,fs,rfl,_⟩:=h;rfl
 ·obtain⟨c,d,kv1,kv2,rs,fs,rfl,hc,fr,rr,me,hd,ff,gf,cd,fl,k⟩:=h;refine⟨_,(zE (yI (PW.pt (vY (yZ (zS (K:=K) (zL (CallR.or (zX (K:=K)) (jR (K:=K))) (by rfl) T.isinstance ZE (zA (pv 0) (zA (yY (v:=.ty "dict") rfl T.dict YN rfl) zC))) (fun _=>rfl))) (uP (z5 (SH hr.units) (yB (X7 rfl) (by rfl) T.list YM (zA (pv 0) zC)) (zL (B4 rfl) (by rfl) T.sorted J1 (zA (pv 1) zC)) (zW _))))) (zD (zM j6)) zQ) (zD (zM (zL (xX rfl) (by rfl) T.all Yi (zA (Rq (xC (sc:=zG st) (N:=["_law_found","_law_files"]) (N':=["_law_path","_law_found","_law_files"]) (src:=[none,some 0,some 1]) ⟨by decide +kernel,rfl,rfl,by decide +kernel,by decide +kernel,by decide +kernel,by decide +kernel⟩ rfl rfl rfl (vN (uS (pv 1))) (fun _ _ _ _=>(zU (i:=0) (show(["_law_path","_law_found","_law_files"]:Da).Nodup by decide +kernel) rfl (EJ rfl))) (fun _ _ _ _=>qD) (fun _ _ _ _=>(yX (zL (CallR.or (zX (K:=K)) (jR (K:=K))) (by rfl) T.isinstance ZE (zA (jA hr.units1 (pv 1) (pv 0) (fun _ _=>rfl)) (zA (yY (v:=.ty "tuple") rfl T.tuple Yl rfl) zC))) (xF (yE (KU (K:=K) hr.units) (jA hr.units1 (pv 1) (pv 0) (fun _ _=>rfl)) (jA hr.units1 (pv 2) (pv 0) (fun _ _=>rfl)) (zW _))))))) zC))))),?_⟩
  have gr:GoodF 4 rs:=gf.subs (fun f hf=>(me f).mp hf) (ZF.mpr (Z9.mpr (rr.imp fun{a b} (z:Cy (Cc a.1) (Cc b.1)) (q:a.1=b.1)=>vX z (by rw[q]))));refine⟨_,rfl,.inr ⟨c,"dict",kv1,_,rfl,.inl hc,T.kit _ (by simp[kinds]) _ (by simp[kinds]),_,rfl,Uo ?_⟩⟩;refine⟨_,rfl,c,kv1,rfl,.inl hc,fun l nl=>?_⟩;rw[fr.kV];have ul:=zF (o:=.lst ((rs.map fun f=>Cc f.1).map V.str)) nl;refine⟨_,rfl,d,kv2,rfl,.inl (ul _ _ hd),ff.allS.1,by have:=ff.len;omega,fun l2 ss n2 pm so=>?_⟩;rw[ff.allS.2]at pm;have es:=HL gf rr me pm so;have u2:=zF (o:=.lst (ss.map V.str)) n2;have so1:∀p∈rs.map (fun f=>Cc f.1),Ep p=true:=fun p hp=>by
   obtain⟨f,hf,rfl⟩:=Zb.mp hp;exact SN (gr.lab f hf).2.2.1
  refine⟨.list ((rs.map fun f=>Cc f.1).map .str),.list (ss.map .str),⟨l,_,rfl,SqL.of (u2 _ _ zB),DtAll.strs _⟩,⟨l2,_,rfl,SqL.of zB,DtAll.strs _⟩,(yU so1).1,(yU (by rwa[←es])).1,_,rfl,Ux (fun z=>?_) (fun _=>?_)⟩
  ·exfalso;rw[←es]at z;have z:(!EU _ _)=true:=z;rw[qJ,Zf rfl]at z;cases z
  have e2:=ul.trans u2;have hd2:=e2 _ _ hd;have hc2:=e2 _ _ hc;have fr2:=fr.same e2;have ff2:=ff.same e2;generalize upd (upd H l (.lst ((rs.map fun f=>Cc f.1).map V.str))) l2 (.lst (ss.map V.str))=H2 at e2 hd2 hc2 fr2 ff2 ⊢;refine⟨_,rfl,d,kv2,rfl,hd2,fun ob=>?_⟩;have hd3:upd H2 d (.frz ob (.dK kv2)) d=some (.frz ob (.dK kv2)):=zB;have hc3:upd H2 d (.frz ob (.dK kv2)) c=some (.dK kv1):=by rwa[zH cd]
  have od:Off [d] H2 (upd H2 d (.frz ob (.dK kv2))):=zY;have fr3:=fr2.off (zO hd2) od;have ff3:=ff2.off (zO hd2) od;have n0:∀o u,H d≠some (.frz o u):=fun o u z=>by rw[hd]at z;cases z
  refine⟨d,ob,kv2,rfl,hd3,Hg (fun i ys σ H'=>∃o,σ=[o,some (.ref c),some (.ref d)]/\Same (upd H2 d (.frz ob (.dK kv2))) H'/\ys.length=i/\∀y∈ys,y=V.bl true) ⟨none,rfl,Same.refl _,rfl,fun y hy=>(nomatch hy)⟩ (le_line (by have:=ff.len;omega)) ?_ ?_ ?_⟩
  ·rintro i ys σ H' hi ⟨o,rfl,e',yl,_⟩;exact⟨e' _ _ hd3,by omega⟩
  ·rintro i kk v ys σ H' hi ⟨o,rfl,e',yl,yt⟩;obtain⟨f,hf,rfl,dv,ln⟩:=(ff3.same e').get hi;have hfm:=Zm hf;obtain⟨v1,hv1,dv1,_⟩:=(fr3.same e').at gr ((me f).mpr hfm);have vv:=jN ((ff3.same e').nd gf) (Zm hi);have sh:Lm (AnJ.tupS f.2)=true:=(yU fun p hp=>(IK (ln.2 p hp)).ok).2;have g1:DGet H' c (kV (.inr (Cc f.1))) (some v1):=by rw[←hv1];exact DGet.k (k:=.inr (Cc f.1)) (e' _ _ hc3)
   refine⟨_,rfl,_,rfl,c,v1,rfl,g1,.inl ⟨v1,"tuple",AnJ.tupS f.2,_,rfl,Dt.dw dv1,T.kit _ (by show"tuple"∈kinds;simp[kinds]) _ (by simp[kinds]),_,rfl,Um ?_⟩⟩;refine⟨_,rfl,_,rfl,c,v1,rfl,g1,_,rfl,_,rfl,d,v,rfl,.inl ⟨kv2,.inr (Cc f.1),.inr ⟨ob,e' _ _ hd3⟩,rfl,vv.symm⟩,AnJ.tupS f.2,AnJ.tupS f.2,dv1,dv,sh,sh,_,rfl,e',by rw[Zj,yl];rfl,fun y hy=>?_⟩
   rcases Zt.mp hy with q|q
   ·exact yt y q
   ·rw[Q8.mp q];show V.bl (EU _ _)=_;rw[qJ,Zf rfl]
  ·rintro ys σ H' ⟨o,rfl,e',yl,yt⟩ p np;have pd:p≠d:=fun z=>by rw[z,e' _ _ hd3]at np;cases np
   have ey:ys=(EL ys.length true).map V.bl:=by
    rw[J9];exact JJ.mpr ⟨rfl,yt⟩
   refine⟨d,ob,kv2,by rw[zH pd.symm];exact e' _ _ hd3,n0,p,EL ys.length true,rfl,SqL.of (by rw[zH pd,zB];exact congrArg (fun z=>some (HO.lst z)) ey),?_⟩;have ea:(EL ys.length true).all id=true:=ZI.mpr fun b hb=>by rw[Jn hb];rfl
   rw[ea];exact k _ (e2.trans (kU hd2 (e'.trans (zF np))))
end A0
end
end An09
namespace An
open PySem L2 AnJ
structure RowsOk (d:Nat)(S:Di)(Do:Dg):Prop where
 nd:(Do.map (·.1)).Nodup
 at_:∀r∈Do,zN r.1=true/\Tree d S r.2/\reads d S r.2≠[]
noncomputable def Cf (d:Nat)(S:Di)(Do:Dg):Dk:=Do.flatMap fun r=>(reads d S r.2).map fun f=>(r.1::f.1,f.2)
theorem mem_readsR {f:Fi}:f∈Cf d S Do↔∃r∈Do,∃g∈reads d S r.2,f=(r.1::g.1,g.2):=by
 unfold Cf;rw[Z1];constructor
 ·rintro⟨r,hr,h⟩;obtain⟨g,hg,e⟩:=Zb.mp h;exact⟨r,hr,g,hg,e.symm⟩
 ·rintro⟨r,hr,g,hg,rfl⟩;exact⟨r,hr,Zb.mpr ⟨g,hg,rfl⟩⟩
section
variable {d:Nat}{S T:Di}{Do:Dg}
theorem RowsOk.more (g:OkS (S++T))(g0:OkS S)(h:RowsOk d S Do):RowsOk d (S++T) Do/\Cf d (S++T) Do=Cf d S Do:=by
 refine⟨⟨h.nd,fun r hr=>?_⟩,?_⟩
 ·obtain⟨a,t,n⟩:=h.at_ r hr;obtain⟨t2,e2⟩:=t.more g g0;exact⟨a,t2,by rw[e2];exact n⟩
 ·unfold Cf;rw[Y9,Y9]
  congr 1
  exact ZS fun r hr=>by rw[((h.at_ r hr).2.1.more g g0).2]
theorem RC {rs:Dg}(h:(rs.map (·.1)).Pairwise Cy):(rs.map (·.1)).Nodup:=ZF.mpr (h.imp fun{a b} z=>vX z)
theorem Tree.rowsOk (g:OkS S){x:Str}(t:Tree (d+1) S x)(a:At S x (.tree Do)):RowsOk d S Do/\reads (d+1) S x=Cf d S Do:=by
 rcases t with⟨ls,z⟩|⟨rows2,z,so,hr⟩
 ·cases z.thing g a
 ·cases z.thing g a;exact⟨⟨RC so,hr⟩,yC g a⟩
structure RowPut (d:Nat)(S:Di)(Do:Dg)(p:List En×Str):Prop where
 ok:OkS p.1
 new:∃T,p.1=S++T/\∀e∈T,e.nm=p.2
 at_:At p.1 p.2 (.tree (Uq Do))
 tree:Tree (d+1) p.1 p.2
 rd:∀f,f∈reads (d+1) p.1 p.2↔f∈Cf d S Do
 len:p.1.length<=S.length+1
theorem RowsOk.put (g:OkS S)(h:RowsOk d S Do)(hl:Do.length<=63)(ls:S.length<2000):RowPut d S Do (Ch S (.tree (Uq Do))):=by
 have fo:Fo d S S Do (Do.map fun r=>(r.1,reads d S r.2)):=⟨g,⟨[],(Zs _).symm,fun e he=>(nomatch he)⟩,by rw[ZB];rfl,fun i r p hi hp=>by
  rw[Zp,hi]at hp;cases hp;exact⟨(h.at_ r (Zm hi)).2.1,fun f=>Iff.rfl⟩⟩
 obtain⟨pk,pl⟩:=fo.put hl (by rw[ZB];exact h.nd) (fun p hp=>by
  obtain⟨r,hr,rfl⟩:=Zb.mp hp;exact⟨(h.at_ r hr).1,(h.at_ r hr).2.2⟩) ls
 have ms:∀{r},r∈Uq Do↔r∈Do:=(yH Do).mem_iff;have gt:(Th.tree (Uq Do)).Good:=MG g (by rwa[(yH Do).length_eq]) fun r hr=>⟨(h.at_ r (ms.mp hr)).1,(h.at_ r (ms.mp hr)).2.1.mem⟩;obtain⟨ok,at1,l1,T,eT,hT⟩:=vI g gt ls;refine⟨ok,⟨T,eT,hT⟩,at1,pk.tree,fun f=>?_,l1⟩;rw[pk.rd];unfold Cf;rw[V4]
end
def UC (Do:Dg)(l n:Str):Dg:=if l∈Do.map (·.1) then Do.map (fun r=>if r.1=l then(l,n) else r) else Do++[(l,n)]
theorem Nr (Do:Dg)(l n:Str):(UC Do l n).map (·.1)=if l∈Do.map (·.1) then Do.map (·.1) else Do.map (·.1)++[l]:=by
 unfold UC
 split
 ·rw[ZB];refine ZS fun r _=>?_;show(if r.1=l then(l,n) else r).1=r.1
  split
  ·rename_i z;exact z.symm
  ·rfl
 ·rw[Zl];rfl
theorem mem_setR {r:Str×Str}:r∈UC Do l n↔(r∈Do/\r.1≠l)\/r=(l,n):=by
 unfold UC
 split
 ·rename_i z;rw[Zb];constructor
  ·rintro⟨k,hk,e⟩
   split at e
   ·exact .inr e.symm
   ·rename_i q;subst e;exact .inl ⟨hk,q⟩
  ·rintro(⟨hr,q⟩|rfl)
   ·exact⟨r,hr,ZA q⟩
   ·obtain⟨k,hk,e⟩:=Zb.mp z;exact⟨k,hk,Zy e⟩
 ·rename_i z;rw[Zt,Q8];constructor
  ·rintro(h|h)
   ·exact .inl ⟨h,fun q=>z (Zb.mpr ⟨r,h,q⟩)⟩
   ·exact .inr h
  ·rintro(h|h)
   ·exact .inl h.1
   ·exact .inr h
theorem FM (Do:Dg)(l n:Str):(UC Do l n).length<=Do.length+1:=by
 unfold UC
 split
 ·rw[Q7];exact Ji _
 ·rw[Zj];exact Ze _
theorem BZ {Do:Dg}(h:(Do.map (·.1)).Nodup):((UC Do l n).map (·.1)).Nodup:=by
 rw[Nr]
 split
 ·exact h
 ·rename_i z;exact kA h z
theorem qV (Do:Dg)(l n:Str):(l,n)∈UC Do l n:=mem_setR.mpr (.inr rfl)
theorem K6 (Do:Dg)(l n:Str):putK (Cq Do) (.inr l) (.str n)=Cq (UC Do l n):=by
 by_cases z:l∈Do.map (·.1)
 ·unfold putK;have ha:((Cq Do).any fun kv=>decide (kv.1=.inr l))=true:=by
   obtain⟨r,hr,e⟩:=Zb.mp z;exact ZY.mpr ⟨(.inr r.1,.str r.2),Zb.mpr ⟨r,hr,rfl⟩,Zf (by rw[e])⟩
  rw[Zy ha];unfold Cq UC;rw[Zy z,ZB,ZB];refine ZS fun r _=>?_;show(if(.inr r.1:Key)=.inr l then((.inr r.1:Key),V.str n) else(.inr r.1,V.str r.2))=((.inr (if r.1=l then(l,n) else r).1:Key),V.str (if r.1=l then(l,n) else r).2)
  by_cases q:r.1=l
  ·rw[Zy (by rw[q]),Zy q,q]
  ·rw[ZA (fun y=>q (Sum.inr.inj y)),ZA q]
 ·rw[BK z];unfold UC;rw[ZA z]
noncomputable def Cv (S:Di)(n:Str):Dg:=match ME S n with
 |some (.tree Do)=>Do
 |_=>[]
theorem qS (g:OkS S){n:Str}{Do:Dg}(h:At S n (.tree Do)):Cv S n=Do:=by
 unfold Cv;rw[Xq g h]
noncomputable def Cg (S:Di)(Do:Dg)(l:Str):Dg:=match rowAt Do l with
 |some n=>Cv S n
 |none=>[]
noncomputable def wR:Da->Di->Dg->Str->List En×Dg
 |[],S,Do,_=>(S,Do)
 |[l],S,Do,leaf=>(S,UC Do l leaf)
 |l::b::r,S,Do,leaf =>
  ((Ch (wR (b::r) S (Cg S Do l) leaf).1 (.tree (Uq (wR (b::r) S (Cg S Do l) leaf).2))).1,UC Do l (Ch (wR (b::r) S (Cg S Do l) leaf).1 (.tree (Uq (wR (b::r) S (Cg S Do l) leaf).2))).2)
inductive OnWay (S:Di):Dg->Da->Str->Prop
 |here {Do:Dg} {l n:Str} {ls:Da}:(l,n)∈Do->OnWay S Do (l::ls) n
 |down {Do rs:Dg} {l n x:Str} {ls:Da}:(l,n)∈Do->At S n (.tree rs)->OnWay S rs ls x->OnWay S Do (l::ls) x
theorem OnWay.more {T:Di}(h:OnWay S Do ls x):OnWay (S++T) Do ls x:=by
 induction h with
 |here h=>exact .here h
 |down h a _ ih=>exact .down h a.more ih
theorem yV {Do:Dg}(nd:(Do.map (·.1)).Nodup){l n:Str}:rowAt Do l=some n↔(l,n)∈Do:=by
 refine⟨jK,fun h=>?_⟩;unfold rowAt;cases q:Do.find? (fun r=>decide (r.1=l)) with
 |none =>
  have:=List.find?_eq_none.mp q _ h;simp at this
 |some r =>
  have h1:=List.mem_of_find?_eq_some q;have h2:=List.find?_some q;have h2:r.1=l:=Zx h2;obtain⟨i,hi,e1⟩:=ZN.mp h1;obtain⟨j,hj,e2⟩:=ZN.mp h;have:=(YX (h₀:=by simpa using hi) (h₁:=by simpa using hj) nd).mp (by rwa[ZQ,ZQ,e1,e2]);subst this;rw[e1]at e2;rw[e2];rfl
theorem HV (h:rowAt Do l=none):∀r∈Do,r.1≠l:=fun r hr e=>by
 unfold rowAt at h;rw[Option.map_eq_none_iff]at h;have:=List.find?_eq_none.mp h r hr;simp at this;exact this e
structure WithOk (d:Nat)(S:Di)(Do:Dg)(ls:Da)(lines:Da)(q:List En×Dg):Prop where
 ok:OkS q.1
 new:∃T,q.1=S++T/\∀e∈T,OnWay q.1 q.2 ls e.nm
 rok:RowsOk d q.1 q.2
 rd:∀f,f∈Cf d q.1 q.2↔(f∈Cf d S Do/\f.1≠ls)\/f=(ls,lines)
 len:q.1.length+1<=S.length+ls.length
 few:q.2.length<=Do.length+1
def FreeW (fs:Dk)(ls:Da):Prop:=∀f∈fs,∀t,(ls=f.1++t\/f.1=ls++t)->t=[]
theorem OnWay.perm {Do rs:Dg}(h:∀r∈Do,r∈rs){ls:Da}{x:Str}(w:OnWay S Do ls x):OnWay S rs ls x:=by
 cases w with
 |here a=>exact .here (h _ a)
 |down a b c=>exact .down (h _ a) b c
theorem xL:∀{Do:Dg},RowsOk d S Do->Do.length<=(Cf d S Do).length
 |[],_=>ZT _
 |r::Do,h=>by
  have ih:=xL (Do:=Do) ⟨(Z8.mp h.nd).2,fun k hk=>h.at_ k (Za _ hk)⟩;have ne:=(h.at_ r (Zc ..)).2.2;have p:0<(reads d S r.2).length:=JV.mpr ne;unfold Cf at ih ⊢;rw[Ym,Zj,Q7,Zh];omega
theorem KL {Do:Dg}{r:Str×Str}(h:r∈Do):(reads d S r.2).length<=(Cf d S Do).length:=by
 induction Do with
 |nil=>cases h
 |cons k Do ih =>
  unfold Cf at ih ⊢;rw[Ym,Zj,Q7]
  rcases Zi.mp h with z|z
  ·rw[z];omega
  ·have:=ih z;omega
theorem NM {d:Nat}{l b:Str}{r:Da}(g:OkS S)(h:RowsOk (d+1) S Do)(fr:FreeW (Cf (d+1) S Do) (l::b::r))(hl:(Cf (d+1) S Do).length<=62) :
  RowsOk d S (Cg S Do l)/\(∀k,k∈Cf d S (Cg S Do l)↔(l::k.1,k.2)∈Cf (d+1) S Do)/\(Cf d S (Cg S Do l)).length<=62:=by
 unfold Cg;cases q:rowAt Do l with
 |none =>
  refine⟨⟨Yy,fun r hr=>(nomatch hr)⟩,fun k=>⟨fun hk=>absurd hk Yd,fun hk=>?_⟩,ZT _⟩;obtain⟨r,hr,m,_,e⟩:=mem_readsR.mp hk;injection e with e1 e2;injection e1 with e1 _;exact absurd e1.symm (HV q r hr)
 |some n =>
  have hm:=jK q;obtain⟨lb,t,ne⟩:=h.at_ _ hm;obtain⟨rs,at_⟩:∃rs,At S n (.tree rs):=by
   rcases id t with⟨ls,z⟩|⟨rs,z,_⟩
   ·exfalso;have:=fr ([l],ls) (mem_readsR.mpr ⟨_,hm,([],ls),by rw[zR g z];exact Q8.mpr rfl,rfl⟩) (b::r) (.inl rfl);cases this
   ·exact⟨rs,z⟩
  obtain⟨ro,rd⟩:=t.rowsOk g at_;show RowsOk d S (Cv S n)/\(∀k,k∈Cf d S (Cv S n)↔_)/\(Cf d S (Cv S n)).length<=62;rw[qS g at_];refine⟨ro,fun k=>?_,by rw[←rd];exact Z5 (KL hm) hl⟩;rw[←rd,mem_readsR];constructor
  ·intro hk;exact⟨_,hm,k,hk,rfl⟩
  ·rintro⟨r2,hr2,m,hm2,e⟩;injection e with e1 e2;injection e1 with e1 e3;obtain⟨l2,n2⟩:=r2;have e1:l=l2:=e1;subst e1;have:n2=n:=by
    have h1:=(yV h.nd).mpr hr2;rw[q]at h1;exact(Option.some.inj h1).symm
   subst this;have:k=m:=Ln e3 e2;rwa[this]
theorem MJ {lines:Da}:∀(ls:Da) {d:Nat} {S:Di} {Do:Dg},ls≠[]->ls.length<=d->(∀l∈ls,zN l=true)->OkS S->At S leaf (.leaf lines)->RowsOk d S Do->FreeW (Cf d S Do) ls->(Cf d S Do).length<=62->S.length+ls.length<=2000 ->
  WithOk d S Do ls lines (wR ls S Do leaf)/\OnWay (wR ls S Do leaf).1 (wR ls S Do leaf).2 ls leaf
 |[],_,_,_,h,_,_,_,_,_,_,_,_=>absurd rfl h
 |[l],0,_,_,_,h,_,_,_,_,_,_,_=>absurd h (Jk _)
 |[l],d+1,S,Do,_,_,lb,g,al,ro,fr,hl,sl=>by
  have rd1:reads (d+1) S leaf=[([],lines)]:=zR g al;refine⟨⟨g,⟨[],(Zs _).symm,fun e he=>(nomatch he)⟩,⟨BZ ro.nd,fun r hr=>?_⟩,fun f=>?_,Ze _,FM _ _ _⟩,.here (qV _ _ _)⟩
  ·rcases mem_setR.mp hr with⟨h,_⟩|rfl
   ·exact ro.at_ r h
   ·exact⟨lb l (Q8.mpr rfl),.inl ⟨lines,al⟩,by show reads (d+1) S leaf≠[];rw[rd1];exact ZL _ _⟩
  ·show f∈Cf (d+1) S (UC Do l leaf)↔_;rw[mem_readsR];constructor
   ·rintro⟨r,hr,k,hk,rfl⟩
    rcases mem_setR.mp hr with⟨h,nl⟩|rfl
    ·exact .inl ⟨mem_readsR.mpr ⟨r,h,k,hk,rfl⟩,fun e=>nl (by injection e)⟩
    ·have hk:k∈reads (d+1) S leaf:=hk;rw[rd1]at hk;rw[Q8.mp hk];exact .inr rfl
   ·rintro(⟨h,ne⟩|rfl)
    ·obtain⟨r,hr,k,hk,e⟩:=mem_readsR.mp h;refine⟨r,mem_setR.mpr (.inl ⟨hr,fun z=>ne ?_⟩),k,hk,e⟩;have:=fr f h k.1 (.inr (by rw[e,←z];rfl));rw[e,this,z]
    ·exact⟨(l,leaf),qV _ _ _,([],lines),by show _∈reads (d+1) S leaf;rw[rd1];exact Q8.mpr rfl,rfl⟩
 |l::b::r,0,_,_,_,h,_,_,_,_,_,_,_=>absurd h (by rw[Zh];omega)
 |l::b::r,d+1,S,Do,_,hd,lb,g,al,ro,fr,hl,sl=>by
  obtain⟨b1,b2,b3⟩:=NM g ro fr hl;have frb:FreeW (Cf d S (Cg S Do l)) (b::r):=fun f hf t ht=>fr (l::f.1,f.2) ((b2 f).mp hf) t (by
   rcases ht with ht|ht
   ·exact .inl (by rw[ht];rfl)
   ·exact .inr (by show l::f.1=_;rw[ht];rfl))
  rw[Zh]at hd sl;obtain⟨W,wl⟩:=MJ (b::r) (d:=d) (ZL _ _) (by omega) (fun x hx=>lb x (Za _ hx)) g al b1 frb b3 (by omega);have eq:wR (l::b::r) S Do leaf=((Ch (wR (b::r) S (Cg S Do l) leaf).1 (.tree (Uq (wR (b::r) S (Cg S Do l) leaf).2))).1,UC Do l (Ch (wR (b::r) S (Cg S Do l) leaf).1 (.tree (Uq (wR (b::r) S (Cg S Do l) leaf).2))).2):=rfl;rw[eq];generalize wR (b::r) S (Cg S Do l) leaf=q at W wl;have wlen:=W.len;have R:=W.rok.put W.ok (by have:=W.few;have:=xL b1;omega) (by omega);generalize Ch q.1 (.tree (Uq q.2))=p at R;obtain⟨T1,eT1,hT1⟩:=W.new;obtain⟨T2,eT2,hT2⟩:=R.new;have eT:p.1=S++(T1++T2):=by rw[eT2,eT1,Z0]
  have okp:OkS (S++(T1++T2)):=by rw[←eT];exact R.ok
  have rom:=(ro.more okp g);rw[←eT]at rom;have onw:∀{x},OnWay q.1 q.2 (b::r) x->OnWay p.1 (UC Do l p.2) (l::b::r) x:=fun{x} h=>.down (qV _ _ _) R.at_ ((by rw[eT2];exact h.more:OnWay p.1 q.2 (b::r) x).perm fun k hk=>(yH q.2).mem_iff.mpr hk);have rdp:∀k,k∈reads (d+1) p.1 p.2↔(k∈Cf d S (Cg S Do l)/\k.1≠b::r)\/k=(b::r,lines):=fun k=>by rw[R.rd,W.rd]
  have rdo:∀k∈Do,reads (d+1) p.1 k.2=reads (d+1) S k.2:=fun k hk=>by
   rw[eT];exact((ro.at_ k hk).2.1.more okp g).2
  refine⟨⟨R.ok,⟨T1++T2,eT,fun e he=>?_⟩,⟨BZ ro.nd,fun k hk=>?_⟩,fun f=>?_,?_,FM _ _ _⟩,onw wl⟩
  ·rcases Zt.mp he with z|z
   ·exact onw (hT1 e z)
   ·rw[hT2 e z];exact .here (qV _ _ _)
  ·rcases mem_setR.mp hk with⟨h,_⟩|rfl
   ·exact rom.1.at_ k h
   ·refine⟨lb l (Zc ..),R.tree,fun z=>?_⟩;have:((b::r,lines):Fi)∈reads (d+1) p.1 p.2:=(rdp _).mpr (.inr rfl);rw[show reads (d+1) p.1 p.2=[] from z]at this;cases this
  ·show f∈Cf (d+1) p.1 (UC Do l p.2)↔_;rw[mem_readsR];constructor
   ·rintro⟨k,hk,m,hm,rfl⟩
    rcases mem_setR.mp hk with⟨h,nl⟩|rfl
    ·rw[rdo k h]at hm;exact .inl ⟨mem_readsR.mpr ⟨k,h,m,hm,rfl⟩,fun e=>nl (by injection e)⟩
    ·rcases(rdp m).mp hm with⟨h1,h2⟩|rfl
     ·exact .inl ⟨(b2 m).mp h1,fun e=>h2 (by injection e)⟩
     ·exact .inr rfl
   ·rintro(⟨h,ne⟩|rfl)
    ·obtain⟨k,hk,m,hm,e⟩:=mem_readsR.mp h
     by_cases z:k.1=l
     ·refine⟨(l,p.2),qV _ _ _,m,(rdp m).mpr (.inl ⟨(b2 m).mpr (by rwa[←z,←e]),fun y=>ne (by rw[e,y,z])⟩),by rw[e,z]⟩
     ·exact⟨k,mem_setR.mpr (.inl ⟨hk,z⟩),m,by rw[rdo k hk];exact hm,e⟩
    ·exact⟨(l,p.2),qV _ _ _,(b::r,lines),(rdp _).mpr (.inr rfl),rfl⟩
  ·show p.1.length+1<=_;have:=R.len;rw[Zh]at wlen ⊢;rw[Zh];omega
def U4 (Do:Dg)(l:Str):Dg:=Do.filter fun r=>!decide (r.1=l)
theorem mem_delR {r:Str×Str}:r∈U4 Do l↔r∈Do/\r.1≠l:=by
 unfold U4;rw[VF,Y3,Y4]
theorem Kv {Do:Dg}(h:(Do.map (·.1)).Nodup):((U4 Do l).map (·.1)).Nodup:=by
 unfold U4;rw[ZF,Z9]at h ⊢;exact h.sublist List.filter_sublist
theorem CM (Do:Dg)(l:Str):(U4 Do l).length<=Do.length:=JG _ _
noncomputable def oR:Da->Di->Dg->List En×Dg
 |[],S,Do=>(S,Do)
 |[l],S,Do=>(S,U4 Do l)
 |l::b::r,S,Do =>
  if(oR (b::r) S (Cg S Do l)).2=[] then((oR (b::r) S (Cg S Do l)).1,U4 Do l)
  else((Ch (oR (b::r) S (Cg S Do l)).1 (.tree (Uq (oR (b::r) S (Cg S Do l)).2))).1,UC Do l (Ch (oR (b::r) S (Cg S Do l)).1 (.tree (Uq (oR (b::r) S (Cg S Do l)).2))).2)
structure OutOk (d:Nat)(S:Di)(Do:Dg)(ls:Da)(q:List En×Dg):Prop where
 ok:OkS q.1
 new:∃T,q.1=S++T/\∀e∈T,OnWay q.1 q.2 ls e.nm
 rok:RowsOk d q.1 q.2
 rd:∀f,f∈Cf d q.1 q.2↔f∈Cf d S Do/\f.1≠ls
 len:q.1.length+1<=S.length+ls.length
 few:q.2.length<=Do.length
theorem IC (h:RowsOk d S Do):(∀f,f∉Cf d S Do)↔Do=[]:=by
 constructor
 ·intro z;cases Do with
  |nil=>rfl
  |cons r Do =>
   exfalso;obtain⟨_,_,ne⟩:=h.at_ r (Zc ..);cases q:reads d S r.2 with
   |nil=>exact ne q
   |cons f fs=>exact z _ (mem_readsR.mpr ⟨r,Zc ..,f,by rw[q];exact Zc ..,rfl⟩)
 ·rintro rfl f hf;exact absurd hf Yd
theorem NL {d:Nat}{l b:Str}{r:Da}{lines:Da}(g:OkS S)(h:RowsOk (d+1) S Do)(hf:(l::b::r,lines)∈Cf (d+1) S Do)(hl:(Cf (d+1) S Do).length<=62) :
  RowsOk d S (Cg S Do l)/\(∀k,k∈Cf d S (Cg S Do l)↔(l::k.1,k.2)∈Cf (d+1) S Do)/\(Cf d S (Cg S Do l)).length<=62/\∃n,(l,n)∈Do/\At S n (.tree (Cg S Do l)):=by
 obtain⟨⟨l2,n⟩,hm,m,hmm,e⟩:=mem_readsR.mp hf;injection e with e1 e2;injection e1 with e1 e3;have e1:l=l2:=e1;subst e1;have q:rowAt Do l=some n:=(yV h.nd).mpr hm;obtain⟨lb,t,ne⟩:=h.at_ _ hm;obtain⟨rs,at_⟩:∃rs,At S n (.tree rs):=by
  rcases id t with⟨ls,z⟩|⟨rs,z,_⟩
  ·exfalso;rw[show reads (d+1) S n=[([],ls)] from zR g z]at hmm;have:=Q8.mp hmm;rw[this]at e3;cases e3
  ·exact⟨rs,z⟩
 obtain⟨ro,rd⟩:=t.rowsOk g at_;have eb:Cg S Do l=rs:=by
  unfold Cg;rw[q];exact qS g at_
 rw[eb];refine⟨ro,fun k=>?_,by rw[←rd];exact Z5 (KL hm) hl,n,hm,at_⟩;rw[←rd,mem_readsR];constructor
 ·intro hk;exact⟨_,hm,k,hk,rfl⟩
 ·rintro⟨r2,hr2,m2,hm2,e⟩;injection e with e1 e2;injection e1 with e1 e3;obtain⟨l2,n2⟩:=r2;have e1:l=l2:=e1;subst e1;have:n2=n:=by
   have h1:=(yV h.nd).mpr hr2;rw[q]at h1;exact(Option.some.inj h1).symm
  subst this;have:k=m2:=Ln e3 e2;rwa[this]
theorem KS:∀(ls:Da) {d:Nat} {S:Di} {Do:Dg} {lines:Da},ls≠[]->ls.length<=d->OkS S->RowsOk d S Do->(ls,lines)∈Cf d S Do->(Cf d S Do).length<=62->S.length+ls.length<=2000 ->
  OutOk d S Do ls (oR ls S Do)
 |[],_,_,_,_,h,_,_,_,_,_,_=>absurd rfl h
 |[l],0,_,_,_,_,h,_,_,_,_,_=>absurd h (Jk _)
 |[l],d+1,S,Do,lines,_,_,g,ro,hf,hl,sl=>by
  refine⟨g,⟨[],(Zs _).symm,fun e he=>(nomatch he)⟩,⟨Kv ro.nd,fun r hr=>ro.at_ r (mem_delR.mp hr).1⟩,fun f=>?_,Ze _,CM _ _⟩;show f∈Cf (d+1) S (U4 Do l)↔_;rw[mem_readsR];constructor
  ·rintro⟨r,hr,k,hk,rfl⟩;obtain⟨h,nl⟩:=mem_delR.mp hr;exact⟨mem_readsR.mpr ⟨r,h,k,hk,rfl⟩,fun e=>nl (by injection e)⟩
  ·rintro⟨h,ne⟩;obtain⟨r,hr,k,hk,e⟩:=mem_readsR.mp h;refine⟨r,mem_delR.mpr ⟨hr,fun z=>ne ?_⟩,k,hk,e⟩;obtain⟨r2,hr2,m,hm,e2⟩:=mem_readsR.mp hf;injection e2 with e3 e4;injection e3 with e3 e5;have er:r=r2:=by
    obtain⟨a,n⟩:=r;obtain⟨a2,n2⟩:=r2;have z:a=l:=z;have e3:l=a2:=e3;subst z e3;have h1:=(yV ro.nd).mpr hr;rw[(yV ro.nd).mpr hr2]at h1;rw[Option.some.inj h1]
   subst er
   rcases((ro.at_ r hr).2.1.rise g).2 with⟨ls2,q⟩|q
   ·rw[q]at hk;rw[e,Q8.mp hk,z]
   ·exact absurd e5.symm (q m hm)
 |l::b::r,0,_,_,_,_,h,_,_,_,_,_=>absurd h (Jk _)
 |l::b::r,d+1,S,Do,lines,_,hd,g,ro,hf,hl,sl=>by
  obtain⟨b1,b2,b3,n0,hn0,atn⟩:=NL g ro hf hl;rw[Zh]at hd sl;have W:=KS (b::r) (d:=d) (lines:=lines) (ZL _ _) (by omega) g b1 ((b2 _).mpr hf) b3 (by omega);have eq:oR (l::b::r) S Do=if(oR (b::r) S (Cg S Do l)).2=[] then((oR (b::r) S (Cg S Do l)).1,U4 Do l) else((Ch (oR (b::r) S (Cg S Do l)).1 (.tree (Uq (oR (b::r) S (Cg S Do l)).2))).1,UC Do l (Ch (oR (b::r) S (Cg S Do l)).1 (.tree (Uq (oR (b::r) S (Cg S Do l)).2))).2):=rfl;rw[eq];generalize oR (b::r) S (Cg S Do l)=q at W;have wlen:=W.len;obtain⟨T1,eT1,hT1⟩:=W.new
  by_cases z:q.2=[]
  ·rw[Zy z];have T0:T1=[]:=by
    cases T1 with
    |nil=>rfl
    |cons e T =>
     exfalso;have:=hT1 e (Zc ..);rw[z]at this;cases this with
     |here h=>cases h
     |down h _ _=>cases h
   rw[T0,Zs]at eT1;have none_:∀k,k∈Cf d S (Cg S Do l)->k.1=b::r:=fun k hk=>by
    rcases L6 (k.1=b::r) with y|y
    ·exact y
    ·exact absurd ((W.rd k).mpr ⟨hk,y⟩) ((IC W.rok).mpr z k)
   refine⟨W.ok,⟨[],by rw[Zs];exact eT1,fun e he=>(nomatch he)⟩,⟨Kv ro.nd,fun k hk=>by rw[eT1];exact ro.at_ k (mem_delR.mp hk).1⟩,fun f=>?_,by show q.1.length+1<=_;rw[Zh]at wlen ⊢;rw[Zh];omega,CM _ _⟩;show f∈Cf (d+1) q.1 (U4 Do l)↔_;rw[eT1,mem_readsR];constructor
   ·rintro⟨k,hk,m,hm,rfl⟩;obtain⟨h,nl⟩:=mem_delR.mp hk;exact⟨mem_readsR.mpr ⟨k,h,m,hm,rfl⟩,fun e=>nl (by injection e)⟩
   ·rintro⟨h,ne⟩;obtain⟨k,hk,m,hm,e⟩:=mem_readsR.mp h;refine⟨k,mem_delR.mpr ⟨hk,fun y=>ne ?_⟩,m,hm,e⟩;have:(l::m.1,m.2)∈Cf (d+1) S Do:=by rwa[←y,←e]
    rw[e,none_ m ((b2 m).mpr this),y]
  ·rw[ZA z];have R:=W.rok.put W.ok (by have:=W.few;have:=xL b1;omega) (by omega);generalize Ch q.1 (.tree (Uq q.2))=p at R;obtain⟨T2,eT2,hT2⟩:=R.new;have eT:p.1=S++(T1++T2):=by rw[eT2,eT1,Z0]
   have okp:OkS (S++(T1++T2)):=by rw[←eT];exact R.ok
   have rom:=(ro.more okp g);rw[←eT]at rom;have onw:∀{x},OnWay q.1 q.2 (b::r) x->OnWay p.1 (UC Do l p.2) (l::b::r) x:=fun{x} h=>.down (qV _ _ _) R.at_ ((by rw[eT2];exact h.more:OnWay p.1 q.2 (b::r) x).perm fun k hk=>(yH q.2).mem_iff.mpr hk);have rdp:∀k,k∈reads (d+1) p.1 p.2↔k∈Cf d S (Cg S Do l)/\k.1≠b::r:=fun k=>by rw[R.rd,W.rd]
   have rdo:∀k∈Do,reads (d+1) p.1 k.2=reads (d+1) S k.2:=fun k hk=>by
    rw[eT];exact((ro.at_ k hk).2.1.more okp g).2
   refine⟨R.ok,⟨T1++T2,eT,fun e he=>?_⟩,⟨BZ ro.nd,fun k hk=>?_⟩,fun f=>?_,?_,?_⟩
   ·rcases Zt.mp he with y|y
    ·exact onw (hT1 e y)
    ·rw[hT2 e y];exact .here (qV _ _ _)
   ·rcases mem_setR.mp hk with⟨h,_⟩|rfl
    ·exact rom.1.at_ k h
    ·refine⟨(ro.at_ _ hn0).1,R.tree,fun y=>z ((IC W.rok).mp fun f hf=>?_)⟩;have:f∈reads (d+1) p.1 p.2:=(R.rd f).mpr hf;rw[show reads (d+1) p.1 p.2=[] from y]at this;cases this
   ·show f∈Cf (d+1) p.1 (UC Do l p.2)↔_;rw[mem_readsR];constructor
    ·rintro⟨k,hk,m,hm,rfl⟩
     rcases mem_setR.mp hk with⟨h,nl⟩|rfl
     ·rw[rdo k h]at hm;exact⟨mem_readsR.mpr ⟨k,h,m,hm,rfl⟩,fun e=>nl (by injection e)⟩
     ·obtain⟨h1,h2⟩:=(rdp m).mp hm;exact⟨(b2 m).mp h1,fun e=>h2 (by injection e)⟩
    ·rintro⟨h,ne⟩;obtain⟨k,hk,m,hm,e⟩:=mem_readsR.mp h
     by_cases y:k.1=l
     ·exact⟨(l,p.2),qV _ _ _,m,(rdp m).mpr ⟨(b2 m).mpr (by rwa[←y,←e]),fun y2=>ne (by rw[e,y2,y])⟩,by rw[e,y]⟩
     ·exact⟨k,mem_setR.mpr (.inl ⟨hk,y⟩),m,by rw[rdo k hk];exact hm,e⟩
   ·show p.1.length+1<=_;have:=R.len;rw[Zh]at wlen ⊢;rw[Zh];omega
   ·show(UC Do l p.2).length<=_;unfold UC;rw[Zy (Zb.mpr ⟨_,hn0,rfl⟩),Q7];exact Ze _
end An
namespace An09
open PySem L2 An
seal L2.PS L2.PSs L2.PE L2.PT L2.PW L2.PA L2.PG L2.PGs L2.PI L2.PFi L2.PC
theorem kX (h:RowsOk e S Do):∀r∈Do,zN r.1=true/\zT S r.2 ["leaf","tree"]=true:=fun r hr=>⟨(h.at_ r hr).1,KB (h.at_ r hr).2.1⟩
def vG (P:Ei)(w:Em)(K:Cd)(C:Eh):Nat->Sp
 | 0=>fun _ _ _ _=>False
 |d+1=>fun vs H Q _=>∃(a c l:Eh) (fp:Dd) (S:Di) (Do:Dg) (ls lines:Da) (leaf:Str) (e:Nat),vs=[.ref a,.ref c,.ref l,.str leaf]/\ShAt P w K C H a fp S/\OkS S/\H c=some (.dK (Cq Do))/\c∉fp/\SqL K H l (ls.map V.str)/\ls≠[]/\ls.length<=d+1/\ls.length<=e/\(∀l∈ls,zN l=true)/\At S leaf (.leaf lines)/\RowsOk e S Do/\FreeW (Cf e S Do) ls/\(Cf e S Do).length<=62/\S.length+ls.length<=2000 /\
  ∀c' H',Off fp H H'->H c'=none->H' c'=some (.dK (Cq (wR ls S Do leaf).2))->ShAt P w K C H' a fp (wR ls S Do leaf).1->Q (.ref c') H'
theorem RB (Do:Dg)(x:Str):IZ (Cq Do) (.inr x)=Cq (U4 Do x):=by
 unfold IZ Cq U4;rw[List.filter_map]
 congr 1
 refine List.filter_congr fun r _=>?_;show decide ((.inr r.1:Key)≠.inr x)=!decide (r.1=x)
 by_cases z:r.1=x
 ·simp[z]
 ·have z2:¬(Er r.1:Key)=.inr x:=fun q=>z (Sum.inr.inj q);simp[z,z2]
def Gg (P:Ei)(w:Em)(K:Cd)(C:Eh):Nat->Sp
 | 0=>fun _ _ _ _=>False
 |d+1=>fun vs H Q _=>∃(a c l:Eh) (fp:Dd) (S:Di) (Do:Dg) (ls lines:Da) (e:Nat),vs=[.ref a,.ref c,.ref l]/\ShAt P w K C H a fp S/\OkS S/\H c=some (.dK (Cq Do))/\SqL K H l (ls.map V.str)/\ls≠[]/\ls.length<=d+1/\ls.length<=e/\RowsOk e S Do/\(ls,lines)∈Cf e S Do/\(Cf e S Do).length<=62/\S.length+ls.length<=2000 /\
  ∀c' H',Off fp H H'->H c'=none->H' c'=some (.dK (Cq (oR ls S Do).2))->ShAt P w K C H' a fp (oR ls S Do).1->Q (.ref c') H'
section
variable {P:Ei}{w:Em}{K:Cd}{mg:Str->Dc}{base:Ez}{t1 t2 t3 t4 t5 t6 t7:Tok}{aL aC aN aT aA b1 b2 b3:Eh}
namespace A1
abbrev st:Stmt:=top 51
theorem sc:FnScope ["shelf","rows","labels","leaf","label","name","beneath","changed"] ["shelf","rows","labels","leaf"] (zG st):=Cp
theorem step {L d:Nat}(F:Fun K "rows_with" "rows_with" st f fd)(T:Txt P w K mg t1 t2 t3 t4 t5 t6 t7 aL aC aN aT aA b1 b2 b3)(Qc:Cal P w K mg base 5 "rows_of" ["store","tree"] (qI P w K aC))(Qb:Cal P w K mg base 8 "put_rows" ["shelf","rows"] (xJ P w K aC))(hL:8<=L)(hd:d<=100)(Qv:Cal P w K mg base L "rows_with" ["shelf","rows","labels","leaf"] (vG P w K aC d)):FnOk P w K mg base Cm (L+1) f fd ["shelf","rows","labels","leaf"] (vG P w K aC (d+1)):=by
 refine F.ok sc (fun vs H Q E h=>?_) (fun cdv A outer s H vs Q E hr h=>?_)
 ·obtain⟨a,c,l,fp,S,Do,ls,lines,leaf,e,rfl,_⟩:=h;rfl
 ·obtain⟨a,c,l,fp,S,Do,ls,lines,leaf,e,rfl,sh,ok,hc,ncf,sq,l0,ld,le,lb,al,ro,fr,hl,sl,k⟩:=h;have rl:=xL ro;refine⟨_,(zE (Cr (i:=4) sc.nd (zV (ix_list:Cl _ (Uy K)) (pv 2) zI (fun _ _=>rfl))) (zE (Cr (i:=5) sc.nd (pv 3)) (yT (yI (z5 Fu (zL zZ (by rfl) T.len ZO (zA (pv 2) zC)) zI (zW _)) (yT (Cr (i:=6) sc.nd (Gh (z5 (IL hr.units) (pv 4) (pv 1) (by with_unfolding_all rfl)) (zJ Qc (hr.mono (by omega)) (zA (pv 0) (zA (jA hr.units1 (pv 1) (pv 4) (fun _ _=>rfl)) zC))) yO)) (zD (Cr (i:=5) sc.nd (zJ Qb (hr.mono (by omega)) (zA (pv 0) (zA (zJ Qv (hr.mono (by omega)) (zA (pv 0) (zA (pv 6) (zA (kY (sl_list:RQ _ (Ry K)) (pv 2) (vW zI) vR) (zA (pv 3) zC))))) zC)))))) zQ) (zE (Cr (i:=7) sc.nd (yB uC (by rfl) T.dict YN (zA (pv 1) zC))) (zE (xO hr.units1 (pv 7) (pv 4) (pv 5) rfl) (zD (zM (pv 7)))))))),?_⟩
  cases ls with
  |nil=>exact absurd rfl l0
  |cons x r =>
   refine⟨_,rfl,l,_,_,_,rfl,rfl,sq,xR (j:=0) rfl,_,rfl,?_⟩;refine⟨fun σ' H'=>∃o6 nm S',σ'=[some (.ref a),some (.ref c),some (.ref l),some (.str leaf),some (.str x),some (.str nm),o6,none]/\Off fp H H'/\ShAt P w K aC H' a fp S'/\wR (x::r) S Do leaf=(S',UC Do x nm),?_,?_⟩
   ·refine⟨_,rfl,l,_,rfl,.inl sq,_,_,rfl,rfl,_,rfl,Ux (fun z=>?_) (fun z=>?_)⟩
    ·cases r with
     |nil =>
      exfalso;have:=Zx z;exact absurd this (by show¬(1:Int)<1;decide)
     |cons b r =>
      cases d with
      |zero =>
       exfalso;rw[Zh,Zh]at ld;omega
      |succ d =>
       cases e with
       |zero=>exact absurd le (Jk _)
       |succ e =>
        obtain⟨b1',b2',b3'⟩:=NM ok ro fr hl;have frb:FreeW (Cf e S (Cg S Do x)) (b::r):=fun f hf t ht=>fr (x::f.1,f.2) ((b2' f).mp hf) t (by
         rcases ht with ht|ht
         ·exact .inl (by rw[ht];rfl)
         ·exact .inr (by show x::f.1=_;rw[ht];rfl))
        rw[Zh]at ld le sl;refine⟨fun σ' H'=>∃cb,σ'=[some (.ref a),some (.ref c),some (.ref l),some (.str leaf),some (.str x),some (.str leaf),some (.ref cb),none]/\Same H H'/\H cb=none/\H' cb=some (.dK (Cq (Cg S Do x))),?_,?_⟩
        ·refine⟨_,rfl,_,rfl,c,_,rfl,DGet.k (k:=.inr x) hc,_,rfl,Ux (fun z=>?_) (fun z=>?_)⟩
         ·rw[vF]at z;cases q:rowAt Do x with
          |none=>rw[q]at z;cases z
          |some n =>
           have hm:=jK q;obtain⟨rs,at_⟩:∃rs,At S n (.tree rs):=by
            rcases id (ro.at_ _ hm).2.1 with⟨ls2,z2⟩|⟨rs,z2,_⟩
            ·exfalso;have:=fr ([x],ls2) (mem_readsR.mpr ⟨_,hm,([],ls2),by rw[zR ok z2];exact Q8.mpr rfl,rfl⟩) (b::r) (.inl rfl);cases this
            ·exact⟨rs,z2⟩
           have eb:Cg S Do x=rs:=by
            unfold Cg;rw[q];exact qS ok at_
           rw[eb]at b1';refine⟨_,rfl,_,rfl,_,rfl,c,.str n,rfl,by rw[show(some (V.str n))=Ur (Cq Do) (.inr x) by rw[vF,q];rfl];exact DGet.k (k:=.inr x) hc,a,fp,S,n,rs,rfl,sh,ok,at_,b1'.nd,fun cb ncb=>⟨cb,rfl,zF ncb,ncb,by rw[eb];exact zB⟩⟩
         ·rw[vF]at z;have q:rowAt Do x=none:=by
           cases q:rowAt Do x with
           |none=>rfl
           |some n=>rw[q]at z;exact absurd rfl z
          refine fun cb ncb=>⟨cb,rfl,zF ncb,ncb,?_⟩;have eb:Cg S Do x=[]:=by
           unfold Cg;rw[q]
          rw[eb];exact zB
        ·rintro σ' H1 ⟨cb,rfl,s1,ncb,hcb⟩;have sh1:=sh.same s1;have cbf:cb∉fp:=(ShAt.ex sh).not ncb;refine⟨_,rfl,_,rfl,_,rfl,_,rfl,1,rfl,l,_,rfl,s1.seq sq,fun l2 n2=>?_⟩;have ec:UI ((x::b::r).map V.str) (some 1) none=(b::r).map V.str:=Ip (i:=1) (by decide);rw[ec];have u2:=zF (o:=.lst ((b::r).map V.str)) n2;refine⟨_,rfl,a,cb,l2,fp,S,Cg S Do x,b::r,lines,leaf,e,rfl,sh1.same u2,ok,u2 _ _ hcb,cbf,SqL.of zB,ZL _ _,by omega,by omega,fun y hy=>lb y (Za _ hy),al,b1',frb,b3',by omega,fun c' H2 of2 nc' hc' sh2=>?_⟩;have W:=(MJ (b::r) (d:=e) (Do:=Cg S Do x) (leaf:=leaf) (lines:=lines) (ZL _ _) (by omega) (fun y hy=>lb y (Za _ hy)) ok al b1' frb b3' (by omega)).1;have eq:wR (x::b::r) S Do leaf=((Ch (wR (b::r) S (Cg S Do x) leaf).1 (.tree (Uq (wR (b::r) S (Cg S Do x) leaf).2))).1,UC Do x (Ch (wR (b::r) S (Cg S Do x) leaf).1 (.tree (Uq (wR (b::r) S (Cg S Do x) leaf).2))).2):=rfl;rw[eq];generalize wR (b::r) S (Cg S Do x) leaf=q at W hc' sh2;have wl:=W.len;have wf:=W.few;have bl:=xL b1';refine⟨a,c',fp,q.1,q.2,rfl,sh2,W.ok,.inl hc',W.rok.nd,kX W.rok,by omega,by omega,fun H3 of3 sh3=>?_⟩;exact⟨_,_,_,rfl,fun y o ny ey=>of3 y o ny (of2 y o ny (u2 _ _ (s1 _ _ ey))),sh3,rfl⟩
    ·cases r with
     |nil=>exact⟨none,leaf,S,rfl,Off.refl _ _,sh,rfl⟩
     |cons b r =>
      exfalso;refine z (Zf ?_);rw[Q7,Zh,Zh];omega
   ·rintro σ' H1 ⟨o6,nm,S',rfl,of1,sh1,eq⟩;have hc1:=of1 _ _ ncf hc;refine⟨_,rfl,c,_,rfl,.inl hc1,fun c' nc'=>?_⟩;have u1:=zF (o:=.dK (Cq Do)) nc';have c'f:c'∉fp:=(ShAt.ex sh1).not nc';have nc0:H c'=none:=by
     cases q:H c' with
     |none=>rfl
     |some o=>rw[of1 _ _ c'f q]at nc';cases nc'
    refine⟨_,rfl,_,rfl,_,rfl,c',_,rfl,DPut.k (k:=.inr x) (zB (H:=H1) (a:=c') (o:=.dK (Cq Do))) (yS (by unfold Cq;rw[Q7];omega)),_,rfl,?_⟩;rw[K6];rw[eq]at k;have sh2:=(sh1.same u1).off (zO (zB (H:=H1) (a:=c') (o:=.dK (Cq Do)))) (zY (c:=c') (o:=.dK (Cq (UC Do x nm)))) (fun y hy z=>c'f (Q8.mp z▸hy));refine k c' _ (fun y o ny ey=>?_) nc0 zB sh2;have ney:y≠c':=fun z=>by rw[z,nc0]at ey;cases ey
    rw[zH ney];exact u1 _ _ (of1 y o ny ey)
theorem ok0 (F:Fun K "rows_with" "rows_with" st f fd):FnOk P w K mg base Cm 8 f fd ["shelf","rows","labels","leaf"] (vG P w K aC 0) :=
 F.ok sc (fun vs H Q E h=>EB h) (fun cdv A outer s H vs Q E hr h=>EB h)
theorem ok (F:Fun K "rows_with" "rows_with" st f fd)(T:Txt P w K mg t1 t2 t3 t4 t5 t6 t7 aL aC aN aT aA b1 b2 b3)(Qc:Cal P w K mg base 5 "rows_of" ["store","tree"] (qI P w K aC))(Qb:Cal P w K mg base 8 "put_rows" ["shelf","rows"] (xJ P w K aC))(Hm:mg "rows_with"=some (.ref f))(Hb:Binds K fd ["shelf","rows","labels","leaf"] []):FnOk P w K mg base Cm 12 f fd ["shelf","rows","labels","leaf"] (vG P w K aC 4):=by
 have c0:=Cal.mk' F (ok0 (P:=P) (w:=w) (mg:=mg) (base:=base) (aC:=aC) F) Hm Hb;have c1:=Cal.mk' F (step F T Qc Qb (by decide) (by decide) c0) Hm Hb;have c2:=Cal.mk' F (step F T Qc Qb (by decide) (by decide) c1) Hm Hb;have c3:=Cal.mk' F (step F T Qc Qb (by decide) (by decide) c2) Hm Hb;exact step F T Qc Qb (by decide) (by decide) c3
end A1
namespace A2
abbrev st:Stmt:=top 52
theorem sc:FnScope ["shelf","rows","labels","label","changed","beneath"] ["shelf","rows","labels"] (zG st):=Cp
theorem step {L d:Nat}(F:Fun K "rows_without" "rows_without" st f fd)(T:Txt P w K mg t1 t2 t3 t4 t5 t6 t7 aL aC aN aT aA b1 b2 b3)(Qc:Cal P w K mg base 5 "rows_of" ["store","tree"] (qI P w K aC))(Qb:Cal P w K mg base 8 "put_rows" ["shelf","rows"] (xJ P w K aC))(hL:8<=L)(hd:d<=100)(Qw:Cal P w K mg base L "rows_without" ["shelf","rows","labels"] (Gg P w K aC d)):FnOk P w K mg base Cm (L+1) f fd ["shelf","rows","labels"] (Gg P w K aC (d+1)):=by
 refine F.ok sc (fun vs H Q E h=>?_) (fun cdv A outer s H vs Q E hr h=>?_)
 ·obtain⟨a,c,l,fp,S,Do,ls,lines,e,rfl,_⟩:=h;rfl
 ·obtain⟨a,c,l,fp,S,Do,ls,lines,e,rfl,sh,ok,hc,sq,l0,ld,le,ro,hf,hl,sl,k⟩:=h;have rl:=xL ro;refine⟨_,(zE (Cr (i:=3) sc.nd (zV (ix_list:Cl _ (Uy K)) (pv 2) zI (fun _ _=>rfl))) (zE (Cr (i:=4) sc.nd (yB uC (by rfl) T.dict YN (zA (pv 1) zC))) (zE (Cr (i:=5) sc.nd yO) (yT (yI (z5 Fu (zL zZ (by rfl) T.len ZO (zA (pv 2) zC)) zI (zW _)) (zD (Cr (i:=5) sc.nd (zJ Qw (hr.mono (by omega)) (zA (pv 0) (zA (zJ Qc (hr.mono (by omega)) (zA (pv 0) (zA (jA hr.units1 (pv 1) (pv 3) (fun _ _=>rfl)) zC))) (zA (kY (sl_list:RQ _ (Ry K)) (pv 2) (vW zI) vR) zC)))))) zQ) (yT (yI (z5 Fu (zL kS (by rfl) T.len ZO (zA (pv 5) zC)) zI (zW _)) (zD (xO hr.units1 (pv 4) (pv 3) (zJ Qb (hr.mono (by omega)) (zA (pv 0) (zA (pv 5) zC))) rfl)) (zD (yM (OP (pv 4) (pv 3) ⟨rfl,rfl,rfl,rfl⟩)))) (zD (zM (pv 4)))))))),?_⟩
  cases ls with
  |nil=>exact absurd rfl l0
  |cons x r =>
   obtain⟨n0,hn0⟩:∃n,(x,n)∈Do:=by
    obtain⟨⟨x2,n⟩,hm,m,_,e1⟩:=mem_readsR.mp hf;injection e1 with e1 _;injection e1 with e1 _;have e1:x=x2:=e1;rw[e1];exact⟨n,hm⟩
   have v0:Ur (Cq Do) (.inr x)=some (.str n0):=by rw[vF,(yV ro.nd).mpr hn0];rfl
   refine⟨_,rfl,l,_,_,_,rfl,rfl,sq,xR (j:=0) rfl,_,rfl,c,_,rfl,.inl hc,fun c' nc' cb0 ncb0=>?_⟩;have u1:=zF (o:=.dK (Cq Do)) nc';have u2:=zF (o:=.dK []) ncb0;have s2:=u1.trans u2;have cc:cb0≠c':=fun z=>by rw[z,zB]at ncb0;cases ncb0
   have hc'2:=u2 _ _ (zB (H:=H) (a:=c') (o:=.dK (Cq Do)));have hcb2:upd (upd H c' (.dK (Cq Do))) cb0 (.dK []) cb0=some (.dK (Cq [])):=zB;have c'f:c'∉fp:=(ShAt.ex sh).not nc';have sh2:=sh.same s2;generalize upd (upd H c' (.dK (Cq Do))) cb0 (.dK [])=H2 at s2 hc'2 hcb2 sh2 ⊢;clear u1 u2 ncb0;refine⟨fun σ' H'=>∃cb rb S',σ'=[some (.ref a),some (.ref c),some (.ref l),some (.str x),some (.ref c'),some (.ref cb)]/\Off fp H2 H'/\ShAt P w K aC H' a fp S'/\H' cb=some (.dK (Cq rb))/\OkS S'/\(rb.map (·.1)).Nodup/\(∀r∈rb,zN r.1=true/\zT S' r.2 ["leaf","tree"]=true)/\rb.length<=63/\S'.length<2000/\oR (x::r) S Do=(if rb=[] then(S',U4 Do x) else((Ch S' (.tree (Uq rb))).1,UC Do x (Ch S' (.tree (Uq rb))).2)),?_,?_⟩
   ·refine⟨_,rfl,l,_,rfl,.inl (s2.seq sq),_,_,rfl,rfl,_,rfl,Ux (fun z=>?_) (fun z=>?_)⟩
    ·cases r with
     |nil =>
      exfalso;have:=Zx z;exact absurd this (by show¬(1:Int)<1;decide)
     |cons b r =>
      cases d with
      |zero =>
       exfalso;rw[Zh,Zh]at ld;omega
      |succ d =>
       cases e with
       |zero=>exact absurd le (Jk _)
       |succ e =>
        obtain⟨b1',b2',b3',n,hn,atn⟩:=NL ok ro hf hl;have en:n0=n:=by
         have h1:=(yV ro.nd).mpr hn0;rw[(yV ro.nd).mpr hn]at h1;exact(Option.some.inj h1).symm
        subst en;rw[Zh]at ld le sl;refine⟨_,rfl,_,rfl,_,rfl,_,rfl,c,.str n0,rfl,by rw[←v0];exact DGet.k (k:=.inr x) (s2 _ _ hc),a,fp,S,n0,Cg S Do x,rfl,sh2,ok,atn,b1'.nd,fun cb ncb=>?_⟩;have u3:=zF (o:=.dK (Cq (Cg S Do x))) ncb;refine⟨_,rfl,1,rfl,l,_,rfl,(s2.trans u3).seq sq,fun l2 n2=>?_⟩;have ec:UI ((x::b::r).map V.str) (some 1) none=(b::r).map V.str:=Ip (i:=1) (by decide);rw[ec];have u4:=zF (o:=.lst ((b::r).map V.str)) n2;refine⟨a,cb,l2,fp,S,Cg S Do x,b::r,lines,e,rfl,(sh2.same u3).same u4,ok,u4 _ _ zB,SqL.of zB,ZL _ _,by omega,by omega,b1',(b2' _).mpr hf,b3',by omega,fun c3 H3 of3 nc3 hc3 sh3=>?_⟩;have W:=KS (b::r) (d:=e) (Do:=Cg S Do x) (lines:=lines) (ZL _ _) (by omega) ok b1' ((b2' _).mpr hf) b3' (by omega);have eq:oR (x::b::r) S Do=if(oR (b::r) S (Cg S Do x)).2=[] then((oR (b::r) S (Cg S Do x)).1,U4 Do x) else((Ch (oR (b::r) S (Cg S Do x)).1 (.tree (Uq (oR (b::r) S (Cg S Do x)).2))).1,UC Do x (Ch (oR (b::r) S (Cg S Do x)).1 (.tree (Uq (oR (b::r) S (Cg S Do x)).2))).2):=rfl;rw[eq];generalize oR (b::r) S (Cg S Do x)=q at W hc3 sh3;have wl:=W.len;have wf:=W.few;have bl:=xL b1';exact⟨c3,q.2,q.1,rfl,fun y o ny ey=>of3 y o ny (u4 _ _ (u3 _ _ ey)),sh3,hc3,W.ok,W.rok.nd,kX W.rok,by omega,by omega,rfl⟩
    ·cases r with
     |nil=>exact⟨cb0,[],S,rfl,Off.refl _ _,sh2,hcb2,ok,Yy,fun r hr=>(nomatch hr),ZT _,by rw[Zh]at sl;omega,by rw[Zy rfl];rfl⟩
     |cons b r =>
      exfalso;refine z (Zf ?_);rw[Q7,Zh,Zh];omega
   ·rintro σ' H3 ⟨cb,rb,S',rfl,of3,sh3,hcb3,ok3,nd3,fo3,len3,sl3,eq⟩;have hc'3:=of3 _ _ c'f hc'2;have back:∀{H4},Off fp H3 H4->∀y o,y∉fp->H y=some o->H4 y=some o:=fun{H4} o4 y o ny ey=>o4 y o ny (of3 y o ny (s2 _ _ ey));refine⟨fun σ' H'=>σ'=[some (.ref a),some (.ref c),some (.ref l),some (.str x),some (.ref c'),some (.ref cb)]/\Off fp H H'/\H' c'=some (.dK (Cq (oR (x::r) S Do).2))/\ShAt P w K aC H' a fp (oR (x::r) S Do).1,?_,?_⟩
    ·refine⟨_,rfl,cb,_,rfl,hcb3,_,_,rfl,rfl,_,rfl,Ux (fun z=>?_) (fun z=>?_)⟩
     ·have ne:rb≠[]:=fun q=>by
       rw[q]at z;have:=Zx z;exact absurd this (by show¬(0:Int)<0;decide)
      rw[ZA ne]at eq;refine⟨_,rfl,_,rfl,a,cb,fp,S',rb,rfl,sh3,ok3,.inl hcb3,nd3,fo3,len3,sl3,fun H4 of4 sh4=>?_⟩;have hc'4:=of4 _ _ c'f hc'3;refine⟨_,rfl,_,rfl,c',_,rfl,DPut.k (k:=.inr x) hc'4 (yS (by unfold Cq;rw[Q7];omega)),rfl,?_,?_,?_⟩
      ·intro y o ny ey;rw[zH (fun z=>by rw[z,nc']at ey;cases ey)];exact back of4 y o ny ey
      ·rw[zB,K6,eq]
      ·rw[eq];exact sh4.off (zO hc'4) zY (fun y hy z=>c'f (Q8.mp z▸hy))
     ·have e0:rb=[]:=by
       cases rb with
       |nil=>rfl
       |cons q rb =>
        exfalso;refine z (Zf ?_);unfold Cq;rw[Q7,Zh];omega
      rw[Zy e0]at eq;refine⟨_,rfl,c',rfl,.inl ⟨_,.inl hc'3⟩,_,rfl,Cq Do,.inr x,.str n0,hc'3,rfl,v0,rfl,?_,?_,?_⟩
      ·intro y o ny ey;rw[zH (fun z=>by rw[z,nc']at ey;cases ey)];exact back (Off.refl _ _) y o ny ey
      ·rw[zB,RB,eq]
      ·rw[eq];exact sh3.off (zO hc'3) zY (fun y hy z=>c'f (Q8.mp z▸hy))
    ·rintro σ' H4 ⟨rfl,of4,hc4,sh4⟩;exact⟨_,rfl,k c' H4 of4 nc' hc4 sh4⟩
theorem ok0 (F:Fun K "rows_without" "rows_without" st f fd):FnOk P w K mg base Cm 8 f fd ["shelf","rows","labels"] (Gg P w K aC 0) :=
 F.ok sc (fun vs H Q E h=>EB h) (fun cdv A outer s H vs Q E hr h=>EB h)
theorem ok (F:Fun K "rows_without" "rows_without" st f fd)(T:Txt P w K mg t1 t2 t3 t4 t5 t6 t7 aL aC aN aT aA b1 b2 b3)(Qc:Cal P w K mg base 5 "rows_of" ["store","tree"] (qI P w K aC))(Qb:Cal P w K mg base 8 "put_rows" ["shelf","rows"] (xJ P w K aC))(Hm:mg "rows_without"=some (.ref f))(Hb:Binds K fd ["shelf","rows","labels"] []):FnOk P w K mg base Cm 12 f fd ["shelf","rows","labels"] (Gg P w K aC 4):=by
 have c0:=Cal.mk' F (ok0 (P:=P) (w:=w) (mg:=mg) (base:=base) (aC:=aC) F) Hm Hb;have c1:=Cal.mk' F (step F T Qc Qb (by decide) (by decide) c0) Hm Hb;have c2:=Cal.mk' F (step F T Qc Qb (by decide) (by decide) c1) Hm Hb;have c3:=Cal.mk' F (step F T Qc Qb (by decide) (by decide) c2) Hm Hb;exact step F T Qc Qb (by decide) (by decide) c3
end A2
end
end An09
namespace L2
open PySem PySem.Spec PyProof.Rows
section
variable {X:Cx}
def W1 (K:Cd):R2:=fun x y H Q=>∃a b ka kb r,x=.ref a/\y=.ref b/\Rd H a (.dK ka)/\Rd H b (.dK kb)/\Hits K H kb ka r/\Q (.bl (!(ka.length==kb.length&&r))) H
theorem SI (hu:X.A.units+128<E5):Cu X (EK .NotEq) (W1 X.K):=by
 intro Dp s σ H x y v u Q I rx ry h;obtain⟨a,b,ka,kb,r,rfl,rfl,ha,hb,hh,q⟩:=h;cases rx;cases ry;obtain⟨va,_,ra,da,sa,_⟩:=Xx I ha;obtain⟨vb,_,rb,db,sb,_⟩:=Xx I hb;have la:ka.length=va.length:=Paired.length ra;have lb:kb.length=vb.length:=Paired.length rb;refine PySem.W.keq_ne sa sb da.dictOf db.dictOf (by omega) (fun _=>hh.keq I (by show X.A.units+1+64<E5;omega) rb ra) ⟨.bl _,H,I,?_,q⟩;rw[la,lb];rfl
def T9 (K:Cd):R2:=fun x y H Q=>∃a b ka kb r,x=.ref a/\y=.ref b/\Rd H a (.dK ka)/\Rd H b (.dK kb)/\Hits K H kb ka r/\Q (.bl (ka.length==kb.length&&r)) H
theorem OK (hu:X.A.units+128<E5):Cu X (EK .Eq) (T9 X.K):=by
 intro Dp s σ H x y v u Q I rx ry h;obtain⟨a,b,ka,kb,r,rfl,rfl,ha,hb,hh,q⟩:=h;cases rx;cases ry;obtain⟨va,_,ra,da,sa,_⟩:=Xx I ha;obtain⟨vb,_,rb,db,sb,_⟩:=Xx I hb;have la:ka.length=va.length:=Paired.length ra;have lb:kb.length=vb.length:=Paired.length rb;refine PySem.W.keq_eq sa sb da.dictOf db.dictOf (by omega) (fun _=>hh.keq I (by show X.A.units+1+64<E5;omega) rb ra) ⟨.bl _,H,I,?_,q⟩;rw[la,lb];rfl
end
end L2
namespace An
open PySem L2 AnJ
theorem Tree.met_mem (g:OkS S):∀{d:Nat} {x y:Str},Tree d S x->y∈met d S x->y∈S.map En.nm
 | 0,_,_,h,_=>absurd h (fun z=>z)
 |d+1,x,y,h,m=>by
  rcases id h with⟨ls,a⟩|⟨Do,a,so,hr⟩
  ·rw[Gc g a]at m;rw[Q8.mp m];exact h.mem
  ·rw[jZ g a]at m
   rcases Zi.mp m with z|z
   ·rw[z];exact h.mem
   ·obtain⟨r,hr',hm⟩:=Z1.mp z;exact Tree.met_mem g (hr r hr').2.1 hm
section
variable {d n:Nat}{S:Di}{fs gs:Dk}{q q2:List En×Str}
theorem BE {l:Dk}(h:l.Pairwise fun f h=>Cy (Cc f.1) (Cc h.1)):l.Nodup:=ZF.mpr (h.imp fun{a b} (z:Cy (Cc a.1) (Cc b.1)) (q:a=b)=>vX z (by rw[q]))
theorem PutOk.again (a:PutOk d S fs q)(b:PutOk d q.1 gs q2)(e:∀f,f∈fs↔f∈gs):q2=q:=by
 obtain⟨T,eT,hT⟩:=b.new;have e2:q.2=q2.2:=(FD a b eT).mpr e;have ok:=b.ok;rw[eT]at ok;have T0:T=[]:=by
  cases T with
  |nil=>rfl
  |cons t T =>
   exfalso;have m:=hT t (Zc ..);rw[←e2,eT,a.tree.met_more ok a.ok]at m;have m:=a.tree.met_mem a.ok m;have nn:=ok.good.nn;rw[Zl,Ye]at nn;exact nn.2.2 t.nm m t.nm (Zb.mpr ⟨t,Zc ..,rfl⟩) rfl
 rw[T0,Zs]at eT;exact Ln eT e2.symm
end
theorem FW {α:Type} [DecidableEq α]:∀{a b:List α},a.Nodup->(∀x∈a,x∈b)->b.length<=a.length->∀x∈b,x∈a
 |[],b,_,_,l,x,hx=>by
  have:b=[]:=Yq (Nat.le_zero.mp l);rw[this]at hx;exact hx
 |y::a,b,nd,h,l,x,hx=>by
  have hy:=h y (Zc ..);have nd:=Z8.mp nd
  by_cases z:x=y
  ·rw[z];exact Zc ..
  ·refine Za _ (FW (b:=b.erase y) nd.2 (fun u hu=>?_) ?_ x ((List.mem_erase_of_ne z).mpr hx))
   ·exact(List.mem_erase_of_ne (fun(q:u=y)=>nd.1 (by rwa[←q]))).mpr (h u (Za _ hu))
   ·rw[List.length_erase_of_mem hy];rw[Zh]at l;omega
section
variable {K:Cd}{H:Hp}{fs rs:Dk}{ka kb:Dl}{n m:Nat}
theorem FsAt.tail {f:Fi}{kv:Key×V}(h:FsAt K H (f::fs) (kv::ka)):FsAt K H fs ka:=⟨List.tail_eq_of_cons_eq h.keys,fun i f kv a b=>h.val (i+1) f kv a b⟩
theorem X2 (hb:FsAt K H fs kb)(gb:GoodF n fs):∀{rs:Dk} {ka:Dl},FsAt K H rs ka->(∀f∈rs,f.1≠[]/\∀l∈f.1,zN l=true)->Hits K H kb ka (decide (∀f∈rs,f∈fs))
 |[],[],_,_=>by
  rw[Zf (fun f hf=>(nomatch hf))];exact .nil
 |[],_::_,h,_=>by cases h.keys
 |_::_,[],h,_=>by cases h.keys
 |f::rs,(k,v)::ka,h,ho=>by
  have ih:=X2 hb gb h.tail fun k hk=>ho k (Za _ hk);obtain⟨f',e1,e2,dv,lv⟩:=h.get (i:=0) (k:=k) (v:=v) rfl;have e1:f=f':=Option.some.inj e1;subst e1 e2;obtain⟨f0,fl⟩:=ho f (Zc ..);have sh:∀{ls:Da},Uz ls->Lm (tupS ls)=true:=fun{ls} h=>(yU fun p hp=>(IK (h.2 p hp)).ok).2
  by_cases z:f.1∈fs.map (·.1)
  ·obtain⟨g,hg,eg⟩:=Zb.mp z;obtain⟨y,hy,dy,ly⟩:=hb.at gb hg;rw[eg]at hy;have e:decide (∀k∈f::rs,k∈fs)=(ER (tupS f.2) (tupS g.2)&&decide (∀k∈rs,k∈fs)):=by
    rw[N1,ZZ,Zk,Zv,Zv,Zv,List.forall_mem_cons];refine and_congr_left fun _=>⟨fun hf=>?_,fun hf=>?_⟩
    ·rw[gb.one hf hg eg.symm]
    ·have:f=g:=Ln eg.symm hf;rwa[this]
   rw[e];exact .hit hy dv dy (sh lv) (sh ly) ih
  ·have nv:Ur kb (.inr (Cc f.1))=none:=by
    cases q:Ur kb (.inr (Cc f.1)) with
    |none=>rfl
    |some y =>
     exfalso;have:=j7 q;rw[hb.keys]at this;obtain⟨g,hg,eg⟩:=Zb.mp this;exact z (Zb.mpr ⟨g,hg,x4 (d:=0) (gb.lab g hg).1 f0 (gb.lab g hg).2.2.1 fl (Sum.inr.inj eg)⟩)
   rw[Zr (fun q=>z (Zb.mpr ⟨f,q f (Zc ..),rfl⟩))];exact .miss nv
theorem Iy (ha:FsAt K H rs ka)(hb:FsAt K H fs kb)(gb:GoodF n fs)(ga:rs.Nodup):(ka.length==kb.length&&decide (∀f∈rs,f∈fs))=true↔∀f,f∈rs↔f∈fs:=by
 rw[Zk,Jy,Zv,ha.len,hb.len];constructor
 ·rintro⟨l,h⟩ f;exact⟨h f,FW ga h (by omega) f⟩
 ·intro h;exact⟨((Yz ga (xG gb.nd)).mpr h).length_eq,fun f hf=>(h f).mp hf⟩
end
theorem uX (ok:OkS S):∀(p:Da) {d:Nat} {x n:Str},Tree d S x->atT S x p=some n->∃e,d=e+p.length/\Tree e S n/\(∀g:Fi,g∈reads e S n↔(p++g.1,g.2)∈reads d S x)/\(p≠[]->reads e S n≠[])
 |[],d,x,n,t,h=>by
  have h:some x=some n:=h;cases h;exact⟨d,rfl,t,fun g=>Iff.rfl,fun z=>absurd rfl z⟩
 |l::p,0,x,n,t,h=>absurd t (fun z=>z)
 |l::p,d+1,x,n,t,h=>by
  have h:p.foldl (stepT S) (stepT S (some x) l)=some n:=h;cases q:stepT S (some x) l with
  |none=>rw[q,Xi]at h;cases h
  |some m =>
   rw[q]at h
   rcases form_dec ok x with⟨_,Do,att⟩|⟨_,not⟩
   ·rw[kI ok att]at q;obtain⟨ro,rd⟩:=t.rowsOk ok att;have hm:=jK q;obtain⟨_,tm,ne⟩:=ro.at_ _ hm;obtain⟨e,ed,te,re,ne2⟩:=uX ok p tm h;refine⟨e,by rw[ed,Zh];omega,te,fun g=>?_,fun _=>?_⟩
    ·rw[re,rd,mem_readsR];constructor
     ·intro hg;exact⟨_,hm,_,hg,rfl⟩
     ·rintro⟨⟨l2,n2⟩,hr,k,hk,e1⟩;injection e1 with e1 e2;injection e1 with e1 e3;have e1:l=l2:=e1;subst e1;have:n2=m:=by
       have h1:=(yV ro.nd).mpr hr;rw[q]at h1;exact(Option.some.inj h1).symm
      subst this;have e3:p++g.1=k.1:=e3;have:((p++g.1,g.2):Fi)=k:=Ln e3 e2;rwa[this]
    ·cases p with
     |nil =>
      have h:some m=some n:=h;cases h;intro z;have ed:d=e:=ed;subst ed;exact ne z
     |cons b p=>exact ne2 (ZL _ _)
   ·rw[FT not]at q;cases q
theorem Bw (g:OkS S){n:Str}{t:Th}(h:At S n t){w:Str}(ne:t.word≠w):zT S n [w]=false:=by
 cases q:zT S n [w] with
 |false=>rfl
 |true =>
  exfalso;unfold zT at q;obtain⟨e,he,q⟩:=ZY.mp q;rw[Zk,ZM,ZM]at q;obtain⟨t2,ht,_,_⟩:=g.th e he;have:=At.thing g h ⟨e,he,q.1,ht⟩;subst this;rw[qR ht]at q;exact ne (Q8.mp q.2)
theorem X9 (h:At S n t):zT S n [t.word]=true:=by
 obtain⟨e,he,en,hd⟩:=h;refine ZY.mpr ⟨e,he,?_⟩;rw[Zk,Zv,Zv,qR hd];exact⟨en,Q8.mpr rfl⟩
section
variable {d:Nat}{S:Di}{x:Str}{ls:Da}
theorem CY (ok:OkS S)(t:Tree d S x)(fr:FreeW (reads d S x) ls){p r:Da}(e:ls=p++r)(hr:r≠[]){n:Str}(h:atT S x p=some n):zT S n ["leaf"]=false:=by
 obtain⟨k,ed,tk,rk,_⟩:=uX ok p t h;cases k with
 |zero=>exact absurd tk (fun z=>z)
 |succ k =>
  rcases tk with⟨L,a⟩|⟨Do,a,_⟩
  ·exfalso;rw[zR ok a]at rk;have:=(rk ([],L)).mp (Q8.mpr rfl);rw[Zs]at this;exact hr (fr _ this r (.inl e))
  ·exact Bw ok a (by show("tree":Str)≠"leaf";decide +kernel)
theorem MY (ok:OkS S)(t:Tree d S x)(fr:FreeW (reads d S x) ls)(l0:ls≠[]){n:Str}(h:atT S x ls=some n):zT S n ["tree"]=false:=by
 obtain⟨k,ed,tk,rk,ne⟩:=uX ok ls t h;have ne:=ne l0;cases k with
 |zero=>exact absurd tk (fun z=>z)
 |succ k =>
  rcases id tk with⟨L,a⟩|⟨Do,a,_⟩
  ·exact Bw ok a (by show("leaf":Str)≠"tree";decide +kernel)
  ·exfalso;cases q:reads (k+1) S n with
   |nil=>exact ne q
   |cons g gs =>
    have hg:g∈reads (k+1) S n:=by rw[q];exact Zc ..
    have h1:=fr _ ((rk g).mp hg) g.1 (.inr rfl);rw[(tk.rowsOk ok a).2,mem_readsR]at hg;obtain⟨r,_,m,_,e⟩:=hg;rw[e]at h1;cases h1
theorem Xb (ok:OkS S):∀(ls:Da) {d:Nat} {x:Str} {L:Da},Tree d S x->(ls,L)∈reads d S x->∃n,atT S x ls=some n/\At S n (.leaf L)
 |[],0,x,L,t,h=>absurd t (fun z=>z)
 |[],d+1,x,L,t,h=>by
  rcases id t with⟨L2,a⟩|⟨Do,a,_⟩
  ·rw[zR ok a]at h;have:=Q8.mp h;cases this;exact⟨x,rfl,a⟩
  ·exfalso;rw[(t.rowsOk ok a).2,mem_readsR]at h;obtain⟨r,_,m,_,e⟩:=h;cases e
 |l::ls,0,x,L,t,h=>absurd t (fun z=>z)
 |l::ls,d+1,x,L,t,h=>by
  rcases id t with⟨L2,a⟩|⟨Do,a,_⟩
  ·exfalso;rw[zR ok a]at h;have:=Q8.mp h;cases this
  ·obtain⟨ro,rd⟩:=t.rowsOk ok a;rw[rd,mem_readsR]at h;obtain⟨⟨l2,m⟩,hr,k,hk,e⟩:=h;injection e with e1 e2;injection e1 with e1 e3;have e1:l=l2:=e1;subst e1;have:k=(ls,L):=Ln e3.symm e2.symm;rw[this]at hk;obtain⟨n,h1,h2⟩:=Xb ok ls (ro.at_ _ hr).2.1 hk;refine⟨n,?_,h2⟩;show ls.foldl (stepT S) (stepT S (some x) l)=some n;rwa[kI ok a,(yV ro.nd).mpr hr]
end
noncomputable def Ct (S:Di)(x:Str)(ls lines:Da):List En×Str :=
 Ch (wR ls (Ch S (.leaf lines)).1 (Cv (Ch S (.leaf lines)).1 x) (Ch S (.leaf lines)).2).1 (.tree (Uq (wR ls (Ch S (.leaf lines)).1 (Cv (Ch S (.leaf lines)).1 x) (Ch S (.leaf lines)).2).2))
noncomputable def outF (S:Di)(x:Str)(ls:Da):List En×Str:=Ch (oR ls S (Cv S x)).1 (.tree (Uq (oR ls S (Cv S x)).2))
def WayOf (S:Di)(x:Str)(ls:Da)(y:Str):Prop:=y=x\/∃Do,At S x (.tree Do)/\OnWay S Do ls y
theorem OnWay.met (ok:OkS S){Do:Dg}{ls:Da}{y:Str}(w:OnWay S Do ls y):∀{d:Nat},RowsOk d S Do->y∈Do.flatMap fun r=>met d S r.2:=by
 induction w with
 | @here Do l n ls h =>
  intro d ro;refine Z1.mpr ⟨_,h,?_⟩;cases d with
  |zero=>exact absurd (ro.at_ _ h).2.1 (fun z=>z)
  |succ d=>exact Zc ..
 | @down Do rs l n y ls h a _ ih =>
  intro d ro;refine Z1.mpr ⟨_,h,?_⟩;cases d with
  |zero=>exact absurd (ro.at_ _ h).2.1 (fun z=>z)
  |succ d =>
   rw[jZ ok a];exact Za _ (ih ((ro.at_ _ h).2.1.rowsOk ok a).1)
theorem WayOf.met (ok:OkS S){x:Str}{ls:Da}{y:Str}{d:Nat}(t:Tree (d+1) S x)(w:WayOf S x ls y):y∈met (d+1) S x:=by
 rcases w with rfl|⟨Do,a,w⟩
 ·exact Fp
 ·rw[jZ ok a];exact Za _ (w.met ok (t.rowsOk ok a).1)
section
variable {d:Nat}{S:Di}{x:Str}{ls lines:Da}{fs gs:Dk}{Do:Dg}
theorem Px (ok:OkS S)(t:Tree (d+1) S x)(a:At S x (.tree Do))(l0:ls≠[])(ld:ls.length<=d)(lb:∀l∈ls,zN l=true)(ln:Uz lines)(fr:FreeW (reads (d+1) S x) ls)(hl:(reads (d+1) S x).length<=61)(sl:S.length+ls.length+2<=2000)
  (rd:∀f,f∈gs↔(f∈reads (d+1) S x/\f.1≠ls)\/f=(ls,lines)) :
  PutOk (d+1) S gs (Ct S x ls lines)/\(Ct S x ls lines).1.length<=S.length+ls.length+1/\∃T,(Ct S x ls lines).1=S++T/\∀e∈T,WayOf (Ct S x ls lines).1 (Ct S x ls lines).2 ls e.nm:=by
 unfold Ct;obtain⟨ok1,at1,l1,T1,eT1,hT1⟩:=vI ok (XQ ln) (by omega);generalize Ch S (.leaf lines)=p at ok1 at1 l1 eT1 hT1;have okT:OkS (S++T1):=by rwa[←eT1]
 have tm:=t.more okT ok;have am:At p.1 x (.tree Do):=by rw[eT1];exact a.more
 rw[←eT1]at tm;obtain⟨ro,rr⟩:=tm.1.rowsOk ok1 am;rw[qS ok1 am];rw[tm.2]at rr;obtain⟨W,wl⟩:=MJ ls (leaf:=p.2) (lines:=lines) l0 ld lb ok1 at1 ro (by rwa[←rr]) (by rw[←rr];omega) (by omega);generalize wR ls p.1 Do p.2=q at W wl;have wn:=W.len;have wf:=W.few;have rl:=xL ro;rw[←rr]at rl;have R:=W.rok.put W.ok (by omega) (by omega);generalize Ch q.1 (.tree (Uq q.2))=u at R;obtain⟨T2,eT2,hT2⟩:=W.new;obtain⟨T3,eT3,hT3⟩:=R.new;have eT:u.1=S++(T1++(T2++T3)):=by rw[eT3,eT2,eT1];simp
 have onw:∀{y},OnWay q.1 q.2 ls y->WayOf u.1 u.2 ls y:=fun{y} h=>.inr ⟨_,R.at_,(by rw[eT3];exact h.more:OnWay u.1 q.2 ls y).perm fun k hk=>(yH q.2).mem_iff.mpr hk⟩;have way:∀e∈T1++(T2++T3),WayOf u.1 u.2 ls e.nm:=fun e he=>by
  rcases Zt.mp he with z|z
  ·rw[hT1 e z];exact onw wl
  ·rcases Zt.mp z with z|z
   ·exact onw (hT2 e z)
   ·exact .inl (hT3 e z)
 have rl':=R.len;refine⟨⟨R.ok,⟨_,eT,fun e he=>(way e he).met R.ok R.tree⟩,R.tree,fun f=>?_,⟨_,R.at_⟩⟩,by omega,⟨_,eT,way⟩⟩;rw[R.rd,W.rd,←rr,rd]
theorem Rh (ok:OkS S)(t:Tree (d+1) S x)(a:At S x (.tree Do))(l0:ls≠[])(ld:ls.length<=d)(hf:(ls,lines)∈reads (d+1) S x)(hl:(reads (d+1) S x).length<=61)(sl:S.length+ls.length+2<=2000)
  (rd:∀f,f∈gs↔f∈reads (d+1) S x/\f.1≠ls) :
  PutOk (d+1) S gs (outF S x ls)/\(outF S x ls).1.length<=S.length+ls.length+1/\∃T,(outF S x ls).1=S++T/\∀e∈T,WayOf (outF S x ls).1 (outF S x ls).2 ls e.nm:=by
 unfold outF;obtain⟨ro,rr⟩:=t.rowsOk ok a;rw[qS ok a];have W:=KS ls (lines:=lines) l0 ld ok ro (by rwa[←rr]) (by rw[←rr];omega) (by omega);generalize oR ls S Do=q at W;have wn:=W.len;have wf:=W.few;have rl:=xL ro;rw[←rr]at rl;have R:=W.rok.put W.ok (by omega) (by omega);generalize Ch q.1 (.tree (Uq q.2))=u at R;obtain⟨T2,eT2,hT2⟩:=W.new;obtain⟨T3,eT3,hT3⟩:=R.new;have eT:u.1=S++(T2++T3):=by rw[eT3,eT2];simp
 have onw:∀{y},OnWay q.1 q.2 ls y->WayOf u.1 u.2 ls y:=fun{y} h=>.inr ⟨_,R.at_,(by rw[eT3];exact h.more:OnWay u.1 q.2 ls y).perm fun k hk=>(yH q.2).mem_iff.mpr hk⟩;have way:∀e∈T2++T3,WayOf u.1 u.2 ls e.nm:=fun e he=>by
  rcases Zt.mp he with z|z
  ·exact onw (hT2 e z)
  ·exact .inl (hT3 e z)
 have rl':=R.len;refine⟨⟨R.ok,⟨_,eT,fun e he=>(way e he).met R.ok R.tree⟩,R.tree,fun f=>?_,⟨_,R.at_⟩⟩,by omega,⟨_,eT,way⟩⟩;rw[R.rd,W.rd,←rr,rd]
end
theorem G1 (ok:OkS S):∀(ls:Da) {d:Nat} {x:Str} {t L:Da},t≠[]->Tree d S x->(ls++t,L)∈reads d S x->∃n Do,atT S x ls=some n/\At S n (.tree Do)
 |ls,0,x,t,L,ht,tr,h=>absurd tr (fun z=>z)
 |[],d+1,x,t,L,ht,tr,h=>by
  rcases id tr with⟨L2,a⟩|⟨Do,a,_⟩
  ·rw[zR ok a]at h;have:=Q8.mp h;injection this with h1 h2;exact absurd h1 ht
  ·exact⟨x,Do,rfl,a⟩
 |l::ls,d+1,x,t,L,ht,tr,h=>by
  rcases id tr with⟨L2,a⟩|⟨Do,a,_⟩
  ·exfalso;rw[zR ok a]at h;have:=Q8.mp h;cases this
  ·obtain⟨ro,rd⟩:=tr.rowsOk ok a;rw[rd,mem_readsR]at h;obtain⟨⟨l2,m⟩,hr,k,hk,e⟩:=h;injection e with e1 e2;have e1:l::(ls++t)=l2::k.1:=e1;injection e1 with e1 e3;subst e1;have:k=(ls++t,L):=Ln e3.symm e2.symm;rw[this]at hk;obtain⟨n,rs,h1,h2⟩:=G1 ok ls ht (ro.at_ _ hr).2.1 hk;refine⟨n,rs,?_,h2⟩;show ls.foldl (stepT S) (stepT S (some x) l)=some n;rwa[kI ok a,(yV ro.nd).mpr hr]
section
variable {S:Di}{d:Nat}{x:Str}{ls:Da}{Do:Dg}
theorem N2 (ok:OkS S)(t:Tree d S x)(a:At S x (.tree Do)){f:Fi}(hf:f∈reads d S x):f.1≠[]:=by
 cases d with
 |zero=>exact absurd t (fun z=>z)
 |succ d =>
  rw[(t.rowsOk ok a).2,mem_readsR]at hf;obtain⟨r,_,g,_,e⟩:=hf;rw[e];exact ZL _ _
theorem PY (ok:OkS S)(t:Tree d S x)(a:At S x (.tree Do))(l0:ls≠[])(h1:∀j,j+1<ls.length->∀n,atT S x (ls.take (j+1))=some n->zT S n ["leaf"]=false)(h2:∀n,atT S x ls=some n->zT S n ["tree"]=false):FreeW (reads d S x) ls:=by
 intro f hf r hr
 rcases L6 (r=[]) with q|q
 ·exact q
 exfalso
 rcases hr with e|e
 ·obtain⟨n,hn,an⟩:=Xb ok f.1 t (L:=f.2) hf;have f0:=N2 ok t a hf;have lp:0<f.1.length:=by
   cases z:f.1 with
   |nil=>exact absurd z f0
   |cons _ _=>exact Ud _
  have rp:0<r.length:=by
   cases z:r with
   |nil=>exact absurd z q
   |cons _ _=>exact Ud _
  have e2:ls.take (f.1.length-1+1)=f.1:=by
   rw[Nat.sub_add_cancel lp,e,Uk rfl]
  have:=h1 (f.1.length-1) (by rw[e,Zj];omega) n (by rwa[e2]);rw[show zT S n ["leaf"]=true from X9 an]at this;cases this
 ·obtain⟨n,rs,hn,an⟩:=G1 ok ls q t (L:=f.2) (by rwa[←e]);have:=h2 n hn;rw[show zT S n ["tree"]=true from X9 an]at this;cases this
theorem P8 (ok:OkS S)(t:Tree d S x){n:Str}(h:atT S x ls=some n)(f:zT S n ["leaf"]=true):∃L,(ls,L)∈reads d S x:=by
 obtain⟨e,ed,te,re,_⟩:=uX ok ls t h;cases e with
 |zero=>exact absurd te (fun z=>z)
 |succ e =>
  rcases id te with⟨L,a⟩|⟨rs,a,_⟩
  ·refine⟨L,?_⟩;have:=(re ([],L)).mp (by rw[zR ok a];exact Q8.mpr rfl);have e2:ls++([]:Da)=ls:=Zs ls;rw[e2]at this;exact this
  ·rw[Bw ok a (by show("tree":Str)≠"leaf";decide +kernel)]at f;cases f
end
end An
namespace An09
open PySem L2 An
seal L2.PS L2.PSs L2.PE L2.PT L2.PW L2.PA L2.PG L2.PGs L2.PI L2.PFi L2.PC
theorem N8 {o:Option Str}{w:Str}(h:∀n,o=some n->zT S n [w]=false):Uu S (Nk o) w=false:=by
 cases o with
 |none=>rfl
 |some n=>exact h n rfl
theorem Gv {ls:Da}(h0:ls≠[])(h:∀l∈ls,zN l=true):labs (Cc ls)=ls:=jD h0 fun y hy=>xP (h y hy)
theorem uU {ls:Da}(h4:ls.length<=4)(h:∀l∈ls,zN l=true):(Cc ls).length<=1000:=by
 have:=vS h;rw[length_cs];omega
def Ik (P:Ei)(w:Em)(K:Cd)(C b2:Eh):Sp:=fun vs H Q E=>∃(a:Eh) (fp:Dd) (S:Di) (x:Str) (ls:Da) (Do:Dg),vs=[.ref a,.str x,.str (Cc ls)]/\ShAt P w K C H a fp S/\OkS S/\Tree 5 S x/\At S x (.tree Do)/\ls≠[]/\ls.length<=4/\(∀l∈ls,zN l=true)/\(FreeW (reads 5 S x) ls->∀H',Same H H'->Q .non H')/\(¬FreeW (reads 5 S x) ls->∀H',Same H H'->E (.ref b2) none H')
def MB (P:Ei)(w:Em)(K:Cd)(C b2:Eh):Sp:=fun vs H Q E=>∃(a:Eh) (fp:Dd) (S:Di) (x:Str) (ls lines:Da) (Do:Dg) (v:V),vs=[.ref a,.str x,.str (Cc ls),v]/\ShAt P w K C H a fp S/\OkS S/\Tree 5 S x/\At S x (.tree Do)/\ls≠[]/\ls.length<=4/\(∀l∈ls,zN l=true)/\Dt K H (AnJ.tupS lines) v/\Uz lines/\(reads 5 S x).length<=61/\S.length+10<=2000 /\
 (FreeW (reads 5 S x) ls->∀H',Off fp H H'->ShAt P w K C H' a fp (Ct S x ls lines).1->Q (.str (Ct S x ls lines).2) H')/\(¬FreeW (reads 5 S x) ls->∀H',Same H H'->E (.ref b2) none H')
def Pl (P:Ei)(w:Em)(K:Cd)(C b3:Eh):Sp:=fun vs H Q E=>∃(a:Eh) (fp:Dd) (S:Di) (x:Str) (ls:Da) (Do:Dg),vs=[.ref a,.str x,.str (Cc ls)]/\ShAt P w K C H a fp S/\OkS S/\Tree 5 S x/\At S x (.tree Do)/\ls≠[]/\ls.length<=4/\(∀l∈ls,zN l=true)/\(reads 5 S x).length<=61/\S.length+10<=2000 /\
 (ls∈(reads 5 S x).map (·.1)->∀H',Off fp H H'->ShAt P w K C H' a fp (outF S x ls).1->Q (.str (outF S x ls).2) H')/\(ls∉(reads 5 S x).map (·.1)->∀H',Same H H'->E (.ref b3) none H')
theorem KC (h:Uu S (Nk o) w=true):∃n,o=some n/\zT S n [w]=true:=by
 cases o with
 |none=>cases h
 |some n=>exact⟨n,rfl,h⟩
theorem G9 (h:Uu S (Nk o) w=false):∀n,o=some n->zT S n [w]=false:=fun n hn=>by
 rw[hn]at h;exact h
section
variable {P:Ei}{w:Em}{K:Cd}{mg:Str->Dc}{base:Ez}{t1 t2 t3 t4 t5 t6 t7:Tok}{aL aC aN aT aA b1 b2 b3:Eh}
namespace A3
abbrev st:Stmt:=top 50
theorem sc:FnScope ["shelf","root","path","folder"] ["shelf","root","path"] (zG st):=Cp
theorem ok (F:Fun K "need_free" "need_free" st f fd)(T:Txt P w K mg t1 t2 t3 t4 t5 t6 t7 aL aC aN aT aA b1 b2 b3)(Qs:Cal P w K mg base 1 "folders_of" ["path"] (Ka K))(Qe:Cal P w K mg base 5 "names_form" ["store","name","form"] (Pj P w K aC))(Qi:CalX P w K mg base 7 "found_at" ["store","root","path"] (Bt P w K aC aN)):FnOk P w K mg base (Cz P w) 8 f fd ["shelf","root","path"] (Ik P w K aC b2):=by
 refine F.okX sc (fun vs H Q E h=>?_) (fun cdv A outer s H vs Q E hr h=>?_)
 ·obtain⟨a,fp,S,x,ls,Do,rfl,_⟩:=h;rfl
 ·obtain⟨a,fp,S,x,ls,Do,rfl,sh,ok,tr,att,l0,l4,lb,k,kE⟩:=h;refine⟨_,(zE (xN Ls rfl (kF (zJ Qs hr.m (zA (pv 2) zC))) (zU (i:=3) sc.nd rfl (EJ rfl)) (zD (yI (zS (K:=K) (zJ Qe hr.m (zA (pv 0) (zA (yD Qi hr.m yA (zA (pv 0) (zA (pv 1) (zA (pv 3) zC)))) (zA pe_str zC)))) (fun _=>rfl)) (zD (y7 rfl yR rfl T.BadFiles T.xBadFiles (zA pe_str zC))) zQ))) (zD (yI (zS (K:=K) (zJ Qe hr.m (zA (pv 0) (zA (yD Qi hr.m yA (zA (pv 0) (zA (pv 1) (zA (pv 2) zC)))) (zA pe_str zC)))) (fun _=>rfl)) (zD (y7 rfl yR rfl T.BadFiles T.xBadFiles (zA pe_str zC))) zQ))),?_⟩
  have lp:=Gv l0 lb;refine⟨_,rfl,Cc ls,rfl,uU l4 lb,fun p H1 s1 sq=>⟨p,rfl,⟨_,sq⟩,X5 (K:=K) (a:=p) (xs:=(XJ (Cc ls)).map V.str) (fun i σ H'=>∃o3,σ=[some (.ref a),some (.str x),some (.str (Cc ls)),o3]/\Same H1 H'/\∀j,j<i->j+1<ls.length->∀n,atT S x (ls.take (j+1))=some n->zT S n ["leaf"]=false) ⟨none,rfl,Same.refl _,fun j hj=>absurd hj (VI j)⟩ (fun i σ H' _ ⟨_,_,e2,_⟩=>e2.seq sq) ?_ ?_⟩⟩
  ·rintro i v σ H' hv ⟨o3,rfl,e2,hb⟩;rw[Zp]at hv;obtain⟨z,hz,rfl⟩:=Z2.mp hv;have hz:(XJ (Cc ls))[i]?=some z:=hz;unfold XJ at hz;rw[Zp,lp]at hz;obtain⟨j,hj,ez⟩:=Z2.mp hz;have hi:i<ls.length-1:=by
    obtain⟨h,_⟩:=Zu.mp hj;rw[Yn]at h;exact h
   rw[VN hi]at hj;cases hj;have ez:Cc (ls.take (i+1))=z:=ez;have t0:ls.take (i+1)≠[]:=fun q=>by
    have:=congrArg List.length q;rw[ZD,Yj]at this;omega
   have tb:∀l∈ls.take (i+1),zN l=true:=fun y hy=>lb y (Y1 hy);have t4:(ls.take (i+1)).length<=4:=by rw[ZD];omega
   have lz:labs z=ls.take (i+1):=by rw[←ez];exact Gv t0 tb
   refine⟨_,rfl,_,rfl,_,rfl,_,rfl,a,fp,S,x,z,rfl,sh.same (s1.trans e2),ok,by rw[←ez];exact jH t0 t4 tb,by rw[←ez];exact uU t4 tb,.inl ⟨5,Do,att,tr,fun H2 e3=>?_⟩⟩;refine⟨a,fp,S,Nk (atT S x (labs z)),oV (atT S x (labs z)),"leaf",rfl,sh.same ((s1.trans e2).trans e3),ok.th,by cases atT S x (labs z)<;>rfl,_,rfl,?_⟩;rw[lz];cases q:Uu S (Nk (atT S x (ls.take (i+1)))) "leaf" with
   |true =>
    obtain⟨n,hn,fo⟩:=KC q;refine Um ⟨Uv 1,kE (fun fr=>?_) H2 ((s1.trans e2).trans e3)⟩;rw[CY ok tr fr (ZW (i+1) ls).symm (fun q=>by
     have:=congrArg List.length q;rw[YH,Yj]at this;omega) hn]at fo
    cases fo
   |false =>
    refine Uo ⟨_,rfl,e2.trans e3,fun j hj hl=>?_⟩
    rcases Ub j i with h|h
    ·exact hb j h hl
    ·have:j=i:=by omega
     subst this;exact G9 q
  ·rintro σ H' ⟨o3,rfl,e2,hb⟩;refine⟨_,rfl,_,rfl,_,rfl,_,rfl,a,fp,S,x,Cc ls,rfl,sh.same (s1.trans e2),ok,jH l0 l4 lb,uU l4 lb,.inl ⟨5,Do,att,tr,fun H2 e3=>?_⟩⟩;refine⟨a,fp,S,Nk (atT S x (labs (Cc ls))),oV (atT S x (labs (Cc ls))),"tree",rfl,sh.same ((s1.trans e2).trans e3),ok.th,by cases atT S x (labs (Cc ls))<;>rfl,_,rfl,?_⟩;rw[lp];have s3:=(s1.trans e2).trans e3;cases q:Uu S (Nk (atT S x ls)) "tree" with
   |true =>
    obtain⟨n,hn,fo⟩:=KC q;refine Um ⟨Uv 1,kE (fun fr=>?_) H2 s3⟩;rw[MY ok tr fr l0 hn]at fo;cases fo
   |false=>exact Uo (k (PY ok tr att l0 (fun j hj=>hb j (by rw[Q7];unfold XJ;rw[Q7,Yn,lp];omega) hj) (G9 q)) H2 s3)
end A3
namespace A4
abbrev st:Stmt:=top 53
theorem sc:FnScope ["shelf","root","path","lines","labels","leaf"] ["shelf","root","path","lines"] (zG st):=Cp
theorem ok (F:Fun K "with_file" "with_file" st f fd)(T:Txt P w K mg t1 t2 t3 t4 t5 t6 t7 aL aC aN aT aA b1 b2 b3)(Qg:CalX P w K mg base 6 "need_root" ["store","root"] (jV P w K aC aN))(Qh:CalX P w K mg base 3 "labels_of" ["path"] (vB K b1))(Qf:Cal P w K mg base 3 "is_lines" ["thing"] (XZ K))(QW:CalX P w K mg base 8 "need_free" ["shelf","root","path"] (Ik P w K aC b2))(Qd:MetX P w K mg base aC 7 "put" ["self","thing"] (U3 P w K aC aN aT))
  (Qb:Cal P w K mg base 8 "put_rows" ["shelf","rows"] (xJ P w K aC)) (Qv:Cal P w K mg base 12 "rows_with" ["shelf","rows","labels","leaf"] (vG P w K aC 4)) (Qc:Cal P w K mg base 5 "rows_of" ["store","tree"] (qI P w K aC)):FnOk P w K mg base (Cz P w) 13 f fd ["shelf","root","path","lines"] (MB P w K aC b2):=by
 refine F.okX sc (fun vs H Q E h=>?_) (fun cdv A outer s H vs Q E hr h=>?_)
 ·obtain⟨a,fp,S,x,ls,lines,Do,v,rfl,_⟩:=h;rfl
 ·obtain⟨a,fp,S,x,ls,lines,Do,v,rfl,sh,ok,tr,att,l0,l4,lb,dv,ln,hl,sl,k,kE⟩:=h;refine⟨_,(zE (yM (yD Qg hr.m yA (zA (pv 0) (zA (pv 1) zC)))) (zE (Cr (i:=4) sc.nd (yD Qh hr.m yA (zA (pv 2) zC))) (zE (yI (yZ (zS (K:=K) (zJ Qf hr.m (zA (pv 3) zC)) (fun _=>rfl))) (zD (y7 rfl yR rfl T.BadFiles T.xBadFiles (zA pe_str zC))) zQ) (zE (yM (yD QW hr.m yA (zA (pv 0) (zA (pv 1) (zA (pv 2) zC))))) (zE (Cr (i:=5) sc.nd (y9 (pv 0) T.cls Qd hr.m yA (zA (uM (zA pe_str (zA (pv 3) zC))) zC))) (zD (zM (zJ Qb hr.m (zA (pv 0) (zA (zJ Qv hr.m (zA (pv 0) (zA (zJ Qc hr.m (zA (pv 0) (zA (pv 1) zC))) (zA (pv 4) (zA (pv 5) zC))))) zC)))))))))),?_⟩
  have lp:=Gv l0 lb;have pj:=jH l0 l4 lb;refine⟨_,rfl,_,rfl,a,fp,S,.str x,_,rfl,sh,ok.th,rfl,fun q=>?_,fun q=>by rw[WL att]at q;cases q⟩;refine⟨_,rfl,.str (Cc ls),_,rfl,rfl,Zf (uU l4 lb),fun x' ex hx' l H1 s1 sq=>?_,fun z=>by rw[show UV (.str (Cc ls))=UX (Cc ls) from rfl,show UX (Cc ls)=true from pj]at z;cases z⟩;cases ex;rw[lp]at sq;obtain⟨lg,ls4⟩:vJ (AnJ.tupS lines)=true/\small (AnJ.tupS lines)=true:=by
   constructor
   ·show(lines.map Le).all UQ=true;rw[List.all_map,ZI];exact ln.2
   ·show(decide ((lines.map Le).length<=1000)&&yF (lines.map .str))=true;rw[jY fun l hl=>(XS (ln.2 l hl)).len,Q7,Zf (show lines.length<=1000 by have:=ln.1;omega)];rfl
  refine⟨_,rfl,AnJ.tupS lines,v,rfl,Dt.dw (Dt.same s1 _ _ dv),ls4,fun H2 s2=>⟨_,rfl,?_⟩⟩;rw[lg];refine IG ⟨_,rfl,_,rfl,_,rfl,a,fp,S,x,ls,Do,rfl,sh.same (s1.trans s2),ok,tr,att,l0,l4,lb,fun fr H3 s3=>?_,fun nf H3 s3=>kE nf H3 ((s1.trans s2).trans s3)⟩;have k:=k fr;have s13:=(s1.trans s2).trans s3;have sh3:=sh.same s13;have sq3:=(s2.trans s3).seq sq;have dv3:=Dt.same s13 _ _ dv;clear s1 s2 s3 sq;obtain⟨ix,i1,i2,i3,hix⟩:=uN sh3;refine⟨_,rfl,a,ix,_,rfl,hix,rfl,_,rfl,Uv 2,fun p4 n4=>?_⟩;have v4:=zF (o:=.tup [V.str "leaf",v]) n4;have d0:Dt K (upd H3 p4 (.tup [V.str "leaf",v])) (Th.leaf lines).dat (.ref p4):=⟨p4,_,rfl,SqT.of zB,_,_,rfl,rfl,_,_,rfl,Dt.same v4 _ _ dv3,rfl⟩;delta Nu;dsimp only;show U3 P w K aC aN aT [V.ref a,V.ref p4] (upd H3 p4 (.tup [V.str "leaf",v])) _ _;refine O0 (sh3.same v4) ok (Be ln.2 ln.1) rfl (by omega) d0 fun H5 of5 sh5=>?_;have sq5:SqL K H5 l (ls.map V.str):=by
   have ns:=(sh3.same v4).noseq
   rcases v4.seq sq3 with(h|⟨ob,h⟩)|h
   ·refine .inl (.inl (of5 _ _ (fun z=>?_) h));obtain⟨o,e,_,h2,_⟩:=ns l z;rw[h]at e;exact h2 _ (Option.some.inj e).symm
   ·refine .inl (.inr ⟨ob,of5 _ _ (fun z=>?_) h⟩);obtain⟨o,e,_,_,h3⟩:=ns l z;rw[h]at e;exact h3 _ _ (Option.some.inj e).symm
   ·exact .inr h
  have of0:Off fp H H5:=fun y o ny ey=>of5 y o ny (v4 _ _ (s13 _ _ ey));obtain⟨ok1,at1,l1,T1,eT1,hT1⟩:=vI ok (XQ ln) (by omega);unfold Ct at k;generalize Ch S (.leaf lines)=p at k ok1 at1 l1 eT1 hT1 sh5;have okT:OkS (S++T1):=by rwa[←eT1]
  have tm:=tr.more okT ok;have am:At p.1 x (.tree Do):=by rw[eT1];exact att.more
  rw[←eT1]at tm;obtain⟨ro,rr⟩:=tm.1.rowsOk ok1 am;rw[tm.2]at rr;have rr:reads 5 S x=Cf 4 p.1 Do:=rr;rw[qS ok1 am]at k;have rl:=xL ro;rw[←rr]at rl;have W:=(MJ ls (leaf:=p.2) (lines:=lines) l0 l4 lb ok1 at1 ro (by rwa[←rr]) (by rw[←rr];omega) (by omega)).1;refine⟨_,rfl,_,rfl,_,rfl,_,rfl,a,fp,p.1,x,Do,rfl,sh5,ok1,am,ro.nd,fun c6 n6=>?_⟩;have v6:=zF (o:=.dK (Cq Do)) n6;refine⟨_,rfl,_,rfl,a,c6,l,fp,p.1,Do,ls,lines,p.2,4,rfl,sh5.same v6,ok1,zB,sh5.ex.not n6,v6.seq sq5,l0,l4,l4,lb,at1,ro,by rw[←rr];exact fr,by rw[←rr];omega,by omega,fun c7 H7 of7 n7 h7 sh7=>?_⟩;generalize wR ls p.1 Do p.2=q at W k h7 sh7;have wn:=W.len;have wf:=W.few;refine⟨a,c7,fp,q.1,q.2,rfl,sh7,W.ok,.inl h7,W.rok.nd,kX W.rok,by omega,by omega,fun H8 of8 sh8=>?_⟩;exact k H8 (fun y o ny ey=>of8 y o ny (of7 y o ny (v6 _ _ (of0 y o ny ey)))) sh8
end A4
namespace A5
abbrev st:Stmt:=top 54
theorem sc:FnScope ["shelf","root","path"] ["shelf","root","path"] (zG st):=Cp
theorem ok (F:Fun K "without_file" "without_file" st f fd)(T:Txt P w K mg t1 t2 t3 t4 t5 t6 t7 aL aC aN aT aA b1 b2 b3)(Qe:Cal P w K mg base 5 "names_form" ["store","name","form"] (Pj P w K aC))(Qi:CalX P w K mg base 7 "found_at" ["store","root","path"] (Bt P w K aC aN))(Qb:Cal P w K mg base 8 "put_rows" ["shelf","rows"] (xJ P w K aC))(Qw:Cal P w K mg base 12 "rows_without" ["shelf","rows","labels"] (Gg P w K aC 4))(Qc:Cal P w K mg base 5 "rows_of" ["store","tree"] (qI P w K aC))(Qh:CalX P w K mg base 3 "labels_of" ["path"] (vB K b1)):FnOk P w K mg base (Cz P w) 13 f fd ["shelf","root","path"] (Pl P w K aC b3):=by
 refine F.okX sc (fun vs H Q E h=>?_) (fun cdv A outer s H vs Q E hr h=>?_)
 ·obtain⟨a,fp,S,x,ls,Do,rfl,_⟩:=h;rfl
 ·obtain⟨a,fp,S,x,ls,Do,rfl,sh,ok,tr,att,l0,l4,lb,hl,sl,k,kE⟩:=h;refine⟨_,(zE (yI (yZ (zS (K:=K) (zJ Qe hr.m (zA (pv 0) (zA (yD Qi hr.m yA (zA (pv 0) (zA (pv 1) (zA (pv 2) zC)))) (zA pe_str zC)))) (fun _=>rfl))) (zD (y7 rfl yR rfl T.NoFit T.xNoFit (zA pe_str zC))) zQ) (zD (zM (zJ Qb hr.m (zA (pv 0) (zA (zJ Qw hr.m (zA (pv 0) (zA (zJ Qc hr.m (zA (pv 0) (zA (pv 1) zC))) (zA (yD Qh hr.m yA (zA (pv 2) zC)) zC)))) zC)))))),?_⟩
  have lp:=Gv l0 lb;have pj:=jH l0 l4 lb;refine⟨_,rfl,_,rfl,_,rfl,_,rfl,a,fp,S,x,Cc ls,rfl,sh,ok,pj,uU l4 lb,.inl ⟨5,Do,att,tr,fun H1 s1=>?_⟩⟩;rw[lp];refine⟨a,fp,S,Nk (atT S x ls),oV (atT S x ls),"leaf",rfl,sh.same s1,ok.th,by cases atT S x ls<;>rfl,_,rfl,?_⟩
  rcases L6 (ls∈(reads 5 S x).map (·.1)) with hm|hm
  rotate_left
  ·have:Uu S (Nk (atT S x ls)) "leaf"=false:=N8 fun n hn=>by
    cases q:zT S n ["leaf"] with
    |false=>rfl
    |true =>
     obtain⟨L,hL⟩:=P8 ok tr hn q;exact absurd (Zb.mpr ⟨_,hL,rfl⟩) hm
   rw[this];exact KI ⟨Uv 1,kE hm H1 s1⟩
  have k:=k hm;obtain⟨⟨ls',lines⟩,hf,el⟩:=Zb.mp hm;have el:ls'=ls:=el;subst el;obtain⟨n,hn,an⟩:=Xb ok ls' tr hf;rw[hn,show Uu S (Nk (some n)) "leaf"=true from X9 an];have sh1:=sh.same s1;obtain⟨ro,rr⟩:=tr.rowsOk ok att;have rr:reads 5 S x=Cf 4 S Do:=rr;unfold outF at k;rw[qS ok att]at k;have rl:=xL ro;rw[←rr]at rl;have W:=KS ls' (lines:=lines) l0 l4 ok ro (by rwa[←rr]) (by rw[←rr];omega) (by omega);refine IG ⟨_,rfl,_,rfl,_,rfl,_,rfl,a,fp,S,x,Do,rfl,sh1,ok,att,ro.nd,fun c6 n6=>?_⟩;have v6:=zF (o:=.dK (Cq Do)) n6;refine⟨_,rfl,.str (Cc ls'),_,rfl,rfl,Zf (uU l4 lb),fun x' ex hx' l H2 s2 sq=>?_,fun z=>by rw[show UV (.str (Cc ls'))=UX (Cc ls') from rfl,show UX (Cc ls')=true from pj]at z;cases z⟩;cases ex;rw[lp]at sq;refine⟨a,c6,l,fp,S,Do,ls',lines,4,rfl,(sh1.same v6).same s2,ok,s2 _ _ zB,sq,l0,l4,l4,ro,by rw[←rr];exact hf,by rw[←rr];omega,by omega,fun c7 H7 of7 n7 h7 sh7=>?_⟩;generalize oR ls' S Do=q at W k h7 sh7;have wn:=W.len;have wf:=W.few;refine⟨a,c7,fp,q.1,q.2,rfl,sh7,W.ok,.inl h7,W.rok.nd,kX W.rok,by omega,by omega,fun H8 of8 sh8=>?_⟩;exact k H8 (fun y o ny ey=>of8 y o ny (of7 y o ny (s2 _ _ (v6 _ _ (s1 _ _ ey))))) sh8
end A5
def Ie (P:Ei)(w:Em)(K:Cd)(C:Eh):Nat->Sp
 | 0=>fun _ _ _ _=>False
 |d+1=>fun vs H Q _=>∃(a:Eh) (fp:Dd) (S:Di) (x:Str),vs=[.ref a,.str x]/\ShAt P w K C H a fp S/\OkS S/\Tree (d+1) S x/\(∀(y:Str) (Do:Dg),At S y (.tree Do)->Do.length<=500)/\∀H',Same H H'->Q (.bl (!(reads (d+1) S x).isEmpty)) H'
theorem FL (e:Same H H')(h:SqT K H c xs):SqT K H' c xs:=vV (X:=[]) (fun b hb=>(nomatch hb)) (Off.of e) h
namespace A6
abbrev st:Stmt:=top 68
theorem sc:FnScope ["_law_store","_law_name","_law_thing"] ["_law_store","_law_name"] (zG st):=Cp
theorem step {L:Nat}(F:Fun K "_law_thin" "_law_thin" st f fd)(T:Txt P w K mg t1 t2 t3 t4 t5 t6 t7 aL aC aN aT aA b1 b2 b3)(Qa:MetX P w K mg base aC 4 "thing" ["self","name"] (qF P w K aC aN))(hL:8<=L)(Qx:Cal P w K mg base L "_law_thin" ["_law_store","_law_name"] (Ie P w K aC d)):FnOk P w K mg base Cm (L+1) f fd ["_law_store","_law_name"] (Ie P w K aC (d+1)):=by
 refine F.ok sc (fun vs H Q E h=>?_) (fun cdv A outer s H vs Q E hr h=>?_)
 ·obtain⟨a,fp,S,x,rfl,_⟩:=h;rfl
 ·obtain⟨a,fp,S,x,rfl,sh,ok,tr,rl,k⟩:=h;refine⟨_,(zE (Cr (i:=2) sc.nd (y9 (pv 0) T.cls Qa (hr.mono (by omega)) z9 (zA (pv 1) zC))) (zE (yI (z5 qA (zV (ix_tup:Cl _ (Ut K)) (pv 2) zI (fun _ _=>rfl)) pe_str (zW _)) (zD (zM j6)) zQ) (zD (zM (yX (yE Fu (zL zZ (by rfl) T.len ZO (zA (zV (ix_tup:Cl _ (Ut K)) (pv 2) zI (fun _ _=>rfl)) zC)) zI (zW _)) (xF (zL (xX rfl) (by rfl) T.all Yi (zA (xC (sc:=zG st) (N:=["_law_store","_law_name","_law_thing"]) (N':=["_law_row","_law_store"]) (src:=[none,some 0]) ⟨by decide +kernel,rfl,rfl,by decide +kernel,by decide +kernel,by decide +kernel,by decide +kernel⟩ rfl rfl rfl (j4 (zV (ix_tup:Cl _ (Ut K)) (pv 2) zI (fun _ _=>rfl))) (fun _ _ _ _=>(zU (i:=0) (show(["_law_row","_law_store"]:Da).Nodup by decide +kernel) rfl (EJ rfl))) (fun _ _ _ _=>qD) (fun _ _ _ _=>(zJ Qx (hr.mono (by omega)) (zA (pv 1) (zA (zV (ix_tup:Cl _ (Ut K)) (pv 0) zI (fun _ _=>rfl)) zC))))) zC)))))))),?_⟩
  obtain⟨ix,i1,i2,i3,hix⟩:=uN sh;have hx:UZ S (.str x)=true:=Zf tr.mem;refine⟨_,rfl,a,ix,_,rfl,hix,rfl,_,rfl,a,fp,S,.str x,_,rfl,sh,rfl,fun e he ed t ht=>?_,fun z=>by rw[hx]at z;cases z⟩
  rcases id tr with⟨ls,atl⟩|⟨Do,att,so,hrr⟩
  ·rw[qL ok atl he ed]at ht;obtain⟨vv,ht3,hvv⟩:=By ht;rw[zR ok atl]at k;refine⟨_,rfl,t,_,_,_,rfl,rfl,ht3,rfl,rfl,true,?_,Um (k H (Same.refl _))⟩;show V.bl (decide (V.str "leaf"=V.str "leaf"))=V.bl true;rw[Zf rfl]
  ·rw[qL ok att he ed]at ht;obtain⟨c,rs,ht1,hc,hrs⟩:=vT ht;have rsl:rs.length=Do.length:=by rw[DtAll.length hrs,Q7]
   have rlen:=rl x Do att;refine⟨_,rfl,t,_,_,_,rfl,rfl,ht1,rfl,rfl,false,?_,Uo ?_⟩
   ·show V.bl (decide (V.str "tree"=V.str "leaf"))=V.bl false;rw[Zr (by intro z;injection z with z;exact absurd z (by decide +kernel))]
   refine⟨_,rfl,t,_,_,_,rfl,rfl,ht1,rfl,c,_,rfl,.inr hc,_,_,rfl,rfl,_,rfl,Ux (fun z=>?_) (fun z=>?_)⟩
   ·have r0:Do≠[]:=fun q=>by
     rw[q]at rsl;have:=Zx z;rw[rsl]at this;exact absurd this (by decide)
    have ne:(reads (d+1) S x).isEmpty=false:=by
     rw[yC ok att];cases Do with
     |nil=>exact absurd rfl r0
     |cons r Do =>
      rw[Ym];cases q:reads d S r.2 with
      |nil=>exact absurd q (hrr r (Zc ..)).2.2
      |cons f fs=>rfl
    rw[ne]at k;refine⟨_,rfl,t,_,_,_,rfl,rfl,ht1,rfl,c,rfl,⟨_,hc⟩,jO (K:=K) (a:=c) (xs:=rs) (fun i ys σ H'=>∃o,σ=[o,some (.ref a)]/\Same H H'/\ys.length=i/\∀y∈ys,y=V.bl true) ⟨none,rfl,Same.refl _,rfl,fun y hy=>(nomatch hy)⟩ (le_line (by omega)) ?_ ?_ ?_⟩
    ·rintro i ys σ H' hi ⟨o,rfl,e',yl,_⟩;exact⟨FL e' hc,by omega⟩
    ·rintro i v ys σ H' hv ⟨o,rfl,e',yl,yt⟩;obtain⟨r,c',hr',rfl,hc'⟩:=BW hrs hv;obtain⟨lb,trr,nen⟩:=hrr r (Zm hr');cases d with
     |zero=>exact absurd trr (fun z=>z)
     |succ d =>
      refine⟨_,rfl,_,rfl,c',_,_,_,rfl,rfl,FL e' hc',rfl,a,fp,S,r.2,rfl,sh.same e',ok,trr,rl,fun H2 e2=>⟨_,rfl,e'.trans e2,by rw[Zj,yl];rfl,fun y hy=>?_⟩⟩
      rcases Zt.mp hy with q|q
      ·exact yt y q
      ·rw[Q8.mp q];cases q2:reads (d+1) S r.2 with
       |nil=>exact absurd q2 nen
       |cons f fs=>rfl
    ·rintro ys σ H' ⟨o,rfl,e',yl,yt⟩ p np;have ey:ys=(EL ys.length true).map V.bl:=by
      rw[J9];exact JJ.mpr ⟨rfl,yt⟩
     refine⟨p,EL ys.length true,rfl,SqL.of (by rw[zB];exact congrArg (fun z=>some (HO.lst z)) ey),?_⟩;have ea:(EL ys.length true).all id=true:=ZI.mpr fun b hb=>by rw[Jn hb];rfl
     rw[ea];exact k _ (e'.trans (zF np))
   ·have r0:Do=[]:=Yq (by
     rcases Je Do.length with q|q
     ·exact q
     ·exact absurd (Zf (show(0:Int)<(rs.length:Int) by omega)) z)
    subst r0;rw[yC ok att]at k;exact k H (Same.refl _)
theorem ok0 (F:Fun K "_law_thin" "_law_thin" st f fd):FnOk P w K mg base Cm 8 f fd ["_law_store","_law_name"] (Ie P w K aC 0) :=
 F.ok sc (fun vs H Q E h=>EB h) (fun cdv A outer s H vs Q E hr h=>EB h)
theorem ok (F:Fun K "_law_thin" "_law_thin" st f fd)(T:Txt P w K mg t1 t2 t3 t4 t5 t6 t7 aL aC aN aT aA b1 b2 b3)(Qa:MetX P w K mg base aC 4 "thing" ["self","name"] (qF P w K aC aN))(Hm:mg "_law_thin"=some (.ref f))(Hb:Binds K fd ["_law_store","_law_name"] []):FnOk P w K mg base Cm 13 f fd ["_law_store","_law_name"] (Ie P w K aC 5):=by
 have c0:=Cal.mk' F (ok0 (P:=P) (w:=w) (mg:=mg) (base:=base) (aC:=aC) F) Hm Hb;have c1:=Cal.mk' F (step F T Qa (by decide) c0) Hm Hb;have c2:=Cal.mk' F (step F T Qa (by decide) c1) Hm Hb;have c3:=Cal.mk' F (step F T Qa (by decide) c2) Hm Hb;have c4:=Cal.mk' F (step F T Qa (by decide) c3) Hm Hb;exact step F T Qa (by decide) c4
end A6
end
end An09
namespace AxS
open PySem PySem.Spec PyProof.Rows
end AxS
namespace L2
open PySem PySem.Spec PyProof.Rows AxS
def Wr (K:Cd)(C C2:Eh)(tb:(St->Hp->Eg->Prop)->TS)(th th2:TS):TS:=fun D σ H=>∃R:St->Hp->Eg->Prop,tb R D σ H /\
 ∀σ' H' cls a,R σ' H' cls->H' a=none->(Li K cls (.ref C)=some true/\th D σ' (upd H' a (Xu a cls)))\/(Li K cls (.ref C)=some false/\Li K cls (.ref C2)=some true/\th2 D σ' (upd H' a (Xu a cls)))
section
variable {X:Cx}
theorem Rt {body suite suite2:List EI}{hs':List ExceptHandler}{b₀ b₁:EI}{c c2:Str}{C C2:Eh}{np hpos np2 hpos2 pos:Pos}{tb:(St->Hp->Eg->Prop)->TS}{th th2:TS}(hst:X.stack=X.env::X.outer)(hfr:X.env.frame=some X.env.locals)(hex:X.ex=[])
  (hb:∀Dp R,PSs (X.tryc Dp R) body (tb R)) (hg:Gl X c) (hm:X.mg c=some (.ref C)) (hs:∀e,PSs (X.inexc e) (b₀::suite) th) (hg2:Gl X c2) (hm2:X.mg c2=some (.ref C2)) (hs2:∀e,PSs (X.inexc e) (b₁::suite2) th2)
  (hd:(c==("__debug__":Str))=false:=by decide) (hd2:(c2==("__debug__":Str))=false:=by decide):PS X (.Try body (.ExceptHandler (some (.Name c np)) none (b₀::suite) hpos::.ExceptHandler (some (.Name c2 np2)) none (b₁::suite2) hpos2::hs') [] [] pos) (Wr X.K C C2 tb th th2):=by
 intro Dp s σ H D I h;obtain⟨R,hb1,hh⟩:=h;refine wpAny_Try_except (Yk (hb Dp R [] s σ H D (I.into R) hb1) (fun f s1 q=>?_) fun e s1 q=>?_)
 ·have q':SP X Dp D f s1:=q.outof;cases f with
  |next=>exact VG q'
  |brk=>exact q'
  |cont=>exact q'
  |ret u=>exact q'
 ·obtain⟨a,T,cls,σ1,H1,rfl,I1,fa,fT,⟨oe,vs,oT,ts,e1,e2,e3,e4,e5,e6,e7,e8⟩,r1⟩:=q;have hc2:=hh σ1 H1 cls a r1 fa.1;have hA:X.A.frames=some (X.env::X.outer):=by rw[I1.ok.frames,hst]
  have hch:∀b∈[a,T],Ti X Dp H1 b:=fun b z=>by
   rcases Zi.mp z with z|z
   ·rwa[z]
   ·rwa[Q8.mp z]
  have fl3:s1.heap.FunFrames (UP s1.heap [a,T] X.stack) (X.env::X.outer):=by have z:=kB (as:=[a,T]) I1.stack;rw[hst]at z ⊢;exact z
  have fly:NG ctx0 s1.heap (UP s1.heap [a,T] X.stack) a cls .none:=⟨oe,vs,T,oT,ts,e1,e2,e3,e4,JL _ (by simp),e5,e6,e7,e8⟩;refine KR Xn hA fl3 hfr fly jX (JL _ (by simp)) fun h2 g1 g2 held2 sm2=>?_;refine x6 (s:={ s1 with heap:=h2 }) g1 g2 held2 fun h3 st3 ff3 fly3 sm3=>?_;have I3:Inv X Dp σ1 H1 { s1 with heap:=h3 }:=I1.land hch st3 (sm2.trans sm3) s1.toks;refine wpAny_handleBy_cons (codeAny_handlers_test ?_) (by intro z;cases z);refine kC (X:=X.inexc (.ref a)) (I3.mark _) hg hm ?_ hd;obtain⟨ob,_,_,_,_,hob,⟨hobc,_⟩,_⟩:=id fly3;have LT:PySem.W.Looks (Es X.prog X.w) h3 (typeOf (.ref a)) cls:=hobc▸(PySem.W.Looks.ld hob).andThen .now
  rcases hc2 with⟨hx,hth⟩|⟨hx0,hx,hth⟩
  ·refine(PySem.W.exm_one (K:=X.K) (h:=h3) I3.kIn LT hx).here ?_;refine codeAny_handlers_suite (x6 (s:={ s1 with heap:=h3 }) st3 ff3 fly3 fun h4 st4 ff4 fly4 sm4=>?_);have I4:Inv X Dp σ1 H1 { s1 with heap:=h4 }:=I1.land hch st4 ((sm2.trans sm3).trans sm4) s1.toks;have new:ObjOk X.prog X.w (upd H1 a (Xu a cls)) h4 a (Xu a cls):=by
    obtain⟨oe4,vs4,_,_,_,g1,⟨g2,gc⟩,g3,_⟩:=fly4;exact⟨⟨oe4,vs4,g1,g2,g3,gc⟩,⟨oe4,g1⟩,fun u1 u2 ⟨o,v,z1,z2,z3⟩ k=>⟨o,v,k o z1,z2,z3⟩⟩
   have I5:Inv X Dp σ1 (upd H1 a (Xu a cls)) { s1 with heap:=h4 }:=I4.takeUp2 fa new;refine Yk (hs (.ref a) Dp _ _ _ _ (I5.mark _) hth) (fun f s7 q7=>?_) fun _ _ z=>z.elim;cases f with
   |ret u=>obtain⟨v,σ7,H7,I7,rv,q⟩:=q7;exact⟨v,σ7,H7,I7.unmark I1.ok,rv,q⟩
   |next=>obtain⟨σ7,H7,I7,q⟩:=q7;exact⟨σ7,H7,I7.unmark I1.ok,q⟩
   |brk=>obtain⟨σ7,H7,I7,q⟩:=q7;exact⟨σ7,H7,I7.unmark I1.ok,q⟩
   |cont=>obtain⟨σ7,H7,I7,q⟩:=q7;exact⟨σ7,H7,I7.unmark I1.ok,q⟩
  ·refine(PySem.W.exm_one (K:=X.K) (h:=h3) I3.kIn LT hx0).here ?_;refine wpAny_handleBy_cons (codeAny_handlers_test ?_) (by intro z;cases z);refine kC (X:=X.inexc (.ref a)) (I3.mark _) hg2 hm2 ?_ hd2;refine(PySem.W.exm_one (K:=X.K) (h:=h3) I3.kIn LT hx).here ?_;refine codeAny_handlers_suite (x6 (s:={ s1 with heap:=h3 }) st3 ff3 fly3 fun h4 st4 ff4 fly4 sm4=>?_);have I4:Inv X Dp σ1 H1 { s1 with heap:=h4 }:=I1.land hch st4 ((sm2.trans sm3).trans sm4) s1.toks;have new:ObjOk X.prog X.w (upd H1 a (Xu a cls)) h4 a (Xu a cls):=by
    obtain⟨oe4,vs4,_,_,_,g1,⟨g2,gc⟩,g3,_⟩:=fly4;exact⟨⟨oe4,vs4,g1,g2,g3,gc⟩,⟨oe4,g1⟩,fun u1 u2 ⟨o,v,z1,z2,z3⟩ k=>⟨o,v,k o z1,z2,z3⟩⟩
   have I5:Inv X Dp σ1 (upd H1 a (Xu a cls)) { s1 with heap:=h4 }:=I4.takeUp2 fa new;refine Yk (hs2 (.ref a) Dp _ _ _ _ (I5.mark _) hth) (fun f s7 q7=>?_) fun _ _ z=>z.elim;cases f with
   |ret u=>obtain⟨v,σ7,H7,I7,rv,q⟩:=q7;exact⟨v,σ7,H7,I7.unmark I1.ok,rv,q⟩
   |next=>obtain⟨σ7,H7,I7,q⟩:=q7;exact⟨σ7,H7,I7.unmark I1.ok,q⟩
   |brk=>obtain⟨σ7,H7,I7,q⟩:=q7;exact⟨σ7,H7,I7.unmark I1.ok,q⟩
   |cont=>obtain⟨σ7,H7,I7,q⟩:=q7;exact⟨σ7,H7,I7.unmark I1.ok,q⟩
end
end L2
namespace An09
open PySem L2 An
seal L2.PS L2.PSs L2.PE L2.PT L2.PW L2.PA L2.PG L2.PGs L2.PI L2.PFi L2.PC
def UH (fs:Dk)(ls:Da):Dk:=fs.filter fun f=>!decide (f.1=ls)
theorem mem_but {f:Fi}:f∈UH fs ls↔f∈fs/\f.1≠ls:=by
 unfold UH;rw[VF,Y3,Y4]
theorem NO (g:GoodF n fs)(ls:Da):((UH fs ls).map (·.1)).Nodup:=by
 have h:=g.nd;unfold UH;rw[ZF,Z9]at h ⊢;exact h.sublist List.filter_sublist
theorem CZ (g:GoodF n fs)(ls:Da):GoodF n (UH fs ls):=⟨fun f hf=>g.lab f (mem_but.mp hf).1,NO g ls,fun f hf k hk=>g.pre f (mem_but.mp hf).1 k (mem_but.mp hk).1⟩
theorem Kp (fs:Dk)(ls:Da):(UH fs ls).length<=fs.length:=JG _ _
theorem MZ (g:GoodF 4 fs)(lb:F7 ls)(ln:Uz lines)(fr:FreeW fs ls):GoodF 4 (UH fs ls++[(ls,lines)]):=by
 refine⟨fun f hf=>?_,?_,fun f hf k hk t e=>?_⟩
 ·rcases Zt.mp hf with h|h
  ·exact g.lab f (mem_but.mp h).1
  ·rw[Q8.mp h];exact⟨lb.1,lb.2.1,lb.2.2,ln⟩
 ·rw[Zl,Ye];refine⟨NO g ls,by simp,fun a ha b hb e=>?_⟩;obtain⟨f,hf,rfl⟩:=Zb.mp ha;rw[ZC,Vh,Q8]at hb;exact(mem_but.mp hf).2 (e.trans hb)
 ·rcases Zt.mp hf with h|h<;>rcases Zt.mp hk with h'|h'
  ·exact g.pre f (mem_but.mp h).1 k (mem_but.mp h').1 t e
  ·rw[Q8.mp h']at e;exact fr f (mem_but.mp h).1 t (.inl e)
  ·rw[Q8.mp h]at e;exact fr k (mem_but.mp h').1 t (.inr e)
  ·rw[Q8.mp h,Q8.mp h']at e;have:=congrArg List.length e;rw[Zj]at this;exact List.length_eq_zero_iff.mp (by omega)
theorem O2 (fs:Dk)(ls lines:Da):FB (UH fs ls) (ls,lines)=UH fs ls++[(ls,lines)]:=by
 unfold FB;refine ZA fun z=>?_;obtain⟨f,hf,e⟩:=Zb.mp z;exact(mem_but.mp hf).2 e
theorem Oy {lines:Da}{f:Fi}:f∈UH fs ls++[(ls,lines)]↔(f∈fs/\f.1≠ls)\/f=(ls,lines):=by
 rw[Zt,mem_but,Q8]
theorem FreeW.file (g:GoodF n fs){f:Fi}(hf:f∈fs):FreeW fs f.1:=fun k hk t ht=>by
 rcases ht with h|h
 ·exact g.pre k hk f hf t h
 ·exact g.pre f hf k hk t h
theorem FreeW.over (g:GoodF n fs){ls:Da}(l0:ls≠[])(h:(fs.all fun f=>!(Uw (Cc f.1) (Cc ls)||Uw (Cc ls) (Cc f.1)))=true):FreeW fs ls:=fun k hk t ht=>by
 have:=ZI.mp h k hk;rw[Y3,YJ]at this
 rcases L6 (t=[]) with q|q
 ·exact q
 ·exfalso
  rcases ht with z|z
  ·have h1:=this.1;rw[z,BJ (g.lab k hk).1 q,Fw]at h1;cases h1
  ·have h1:=this.2;rw[z,BJ l0 q,Fw]at h1;cases h1
theorem KY {a b:Da}(a0:a≠[])(al:∀l∈a,zN l=true)(b0:b≠[])(bl:∀l∈b,zN l=true)(h:Uw (Cc a) (Cc b)=true):∃t,b=a++t/\t≠[]:=by
 obtain⟨i,hi,e⟩:=Zb.mp (fols_iff.mpr h);rw[Gv b0 bl]at hi e;have hi:=Jb.mp hi;have e:Cc (b.take (i+1))=Cc a:=e;have t0:b.take (i+1)≠[]:=fun q=>by
  have:=congrArg List.length q;rw[ZD,Yj]at this;omega
 have e:=x4 (d:=0) t0 a0 (fun l hl=>bl l (Y1 hl)) al e;refine⟨b.drop (i+1),?_,fun q=>?_⟩
 ·rw[←e,ZW]
 ·have:=congrArg List.length q;rw[YH,Yj]at this;omega
theorem FreeW.all (g:GoodF n fs){ls:Da}(l0:ls≠[])(lb:∀l∈ls,zN l=true)(h:FreeW fs ls):(fs.all fun f=>!(Uw (Cc f.1) (Cc ls)||Uw (Cc ls) (Cc f.1)))=true:=by
 refine ZI.mpr fun f hf=>?_;rw[Y3,YJ];constructor
 ·cases q:Uw (Cc f.1) (Cc ls) with
  |false=>rfl
  |true =>
   obtain⟨t,e,ht⟩:=KY (g.lab f hf).1 (g.lab f hf).2.2.1 l0 lb q;exact absurd (h f hf t (.inl e)) ht
 ·cases q:Uw (Cc ls) (Cc f.1) with
  |false=>rfl
  |true =>
   obtain⟨t,e,ht⟩:=KY l0 lb (g.lab f hf).1 (g.lab f hf).2.2.1 q;exact absurd (h f hf t (.inr e)) ht
theorem Oh {K:Cd}{ls:Da}(ff:FsAt K H fs Dm)(gf:GoodF n fs)(l0:ls≠[])(lb:∀l∈ls,zN l=true):(Ur Dm (.inr (Cc ls))).isSome=true↔ls∈fs.map (·.1):=by
 constructor
 ·intro h;cases q:Ur Dm (.inr (Cc ls)) with
  |none=>rw[q]at h;cases h
  |some v =>
   have:=j7 q;rw[ff.keys]at this;obtain⟨g,hg,eg⟩:=Zb.mp this;have eg:Cc g.1=Cc ls:=Sum.inr.inj eg;exact Zb.mpr ⟨g,hg,x4 (d:=0) (gf.lab g hg).1 l0 (gf.lab g hg).2.2.1 lb eg⟩
 ·intro h;obtain⟨f,hf,e⟩:=Zb.mp h;obtain⟨v,hv,_⟩:=ff.at gf hf;have e:f.1=ls:=e;rw[←e,hv];rfl
def LinV (K:Cd)(H:Hp)(o:Option Da)(v:V):Prop:=match o with
 |none=>v=.non
 |some L=>Dt K H (AnJ.tupS L) v/\Uz L
theorem LinV.same {K:Cd}(h:LinV K H o v)(e:Same H H'):LinV K H' o v:=by
 cases o with
 |none=>exact h
 |some L=>exact⟨Dt.same e _ _ h.1,h.2⟩
def UT (fs:Dk)(ls:Da)(o:Option Da):Dk:=UH fs ls++(match o with
 |none=>[]
 |some L=>[(ls,L)])
def Iq (fs:Dk)(ls:Da)(o:Option Da):Prop:=match o with
 |none=>ls∈fs.map (·.1)
 |some _=>FreeW fs ls
noncomputable def doneF (S:Di)(x:Str)(ls:Da)(o:Option Da):List En×Str:=match o with
 |none=>outF S x ls
 |some L=>Ct S x ls L
def Ph (K:Cd):Sp:=fun vs H Q _=>∃(c:Eh) (ls:Da) (Dm:Dl) (fs:Dk) (o:Option Da) (v:V),vs=[.ref c,.str (Cc ls),v]/\H c=some (.dK Dm)/\FsAt K H fs Dm/\GoodF 4 fs/\ls≠[]/\(∀l∈ls,zN l=true)/\fs.length<=62/\LinV K H o v/\∀d kv2 H',Same H H'->H d=none->H' d=some (.dK kv2)->FsAt K H' (UT fs ls o) kv2->Q (.ref d) H'
def R1 (K:Cd):Sp:=fun vs H Q _=>∃(c:Eh) (ls:Da) (Dm:Dl) (fs:Dk) (o:Option Da) (v:V),vs=[.ref c,.str (Cc ls),v]/\H c=some (.dK Dm)/\FsAt K H fs Dm/\GoodF 4 fs/\F7 ls/\fs.length<=62/\LinV K H o v/\∀b H',Same H H'->(b=true↔Iq fs ls o)->Q (.bl b) H'
def Pb (P:Ei)(w:Em)(K:Cd)(C:Eh):Sp:=fun vs H Q _=>∃(a:Eh) (fp:Dd) (S:Di) (x:Str) (ls:Da) (Do:Dg) (o:Option Da) (v:V),vs=[.ref a,.str x,.str (Cc ls),v]/\ShAt P w K C H a fp S/\OkS S/\Tree 5 S x/\At S x (.tree Do)/\F7 ls/\LinV K H o v/\(reads 5 S x).length<=61/\S.length+10<=2000 /\
 (Iq (reads 5 S x) ls o->∀H',Off fp H H'->ShAt P w K C H' a fp (doneF S x ls o).1->Q (.str (doneF S x ls o).2) H')/\(¬Iq (reads 5 S x) ls o->∀H',Same H H'->Q (.str (if o.isNone then"no fit" else"bad files")) H')
def MA (P:Ei)(w:Em)(K:Cd)(C:Eh):Sp:=fun vs H Q _=>∃(a c:Eh) (fp:Dd) (S:Di) (x:Str) (fs:Dk) (Dm:Dl) (Do:Dg),vs=[.ref a,.str x,.ref c]/\ShAt P w K C H a fp S/\OkS S/\Tree 5 S x/\At S x (.tree Do)/\(∀f,f∈reads 5 S x↔f∈fs)/\H c=some (.dK Dm)/\FsAt K H fs Dm/\GoodF 4 fs/\fs.length<=62/\∀H',Same H H'->Q (.bl true) H'
section
variable {P:Ei}{w:Em}{K:Cd}{mg:Str->Dc}{base:Ez}{t1 t2 t3 t4 t5 t6 t7:Tok}{aL aC aN aT aA b1 b2 b3:Eh}
namespace A7
abbrev st:Stmt:=top 70
theorem sc:FnScope ["_law_files","_law_path","_law_lines","_law_found","_law_other"] ["_law_files","_law_path","_law_lines"] (zG st):=Cp
theorem ok (F:Fun K "_law_more" "_law_more" st f fd)(T:Txt P w K mg t1 t2 t3 t4 t5 t6 t7 aL aC aN aT aA b1 b2 b3):FnOk P w K mg base Cm 1 f fd ["_law_files","_law_path","_law_lines"] (Ph K):=by
 refine F.ok sc (fun vs H Q E h=>?_) (fun cdv A outer s H vs Q E hr h=>?_)
 ·obtain⟨c,ls,Dm,fs,o,v,rfl,_⟩:=h;rfl
 ·obtain⟨c,ls,Dm,fs,o,lv,rfl,hc,ff,gf,l0,lb,fl,hv,k⟩:=h;refine⟨_,(zE (Cr (i:=3) sc.nd yO) (zE (uI (xN ET rfl (vN (uS (pv 0))) (zU (i:=4) sc.nd rfl (EJ rfl)) (zD (yI (z5 Iv (pv 4) (pv 1) (zW _)) (zD (xO hr.units1 (pv 3) (pv 4) (jA hr.units1 (pv 0) (pv 4) (fun _ _=>rfl)) rfl)) zQ)))) (yT (yI (z5 KW (pv 2) uQ (zW _)) (zD (xO hr.units1 (pv 3) (pv 1) (pv 2) rfl)) zQ) (zD (zM (pv 3)))))),?_⟩
  refine fun d nd=>?_;have ud:=zF (o:=.dK []) nd;have dc:d≠c:=fun z=>by rw[z,hc]at nd;cases nd
  have kl:=ff.len;refine⟨_,rfl,c,Dm,rfl,ud _ _ hc,fun ob=>?_⟩;have hc1:upd (upd H d (.dK [])) c (.frz ob (.dK Dm)) c=some (.frz ob (.dK Dm)):=zB;have hd1:upd (upd H d (.dK [])) c (.frz ob (.dK Dm)) d=some (.dK []):=by rw[zH dc,zB]
  have ff1:=(ff.same ud).off (zO (ud _ _ hc)) (zY (c:=c) (o:=.frz ob (.dK Dm)));have n0:∀o u,H c≠some (.frz o u):=fun o u z=>by rw[hc]at z;cases z
  refine⟨c,ob,Dm,rfl,hc1,vA (fun i σ H2=>∃o3 kv2,σ=[some (.ref c),some (.str (Cc ls)),some lv,some (.ref d),o3]/\Off [d] (upd (upd H d (.dK [])) c (.frz ob (.dK Dm))) H2/\H2 d=some (.dK kv2)/\FsAt K H2 (UH (fs.take i) ls) kv2) ⟨none,[],rfl,Off.refl _ _,hd1,FsAt.nil⟩ (fun i σ H2 hi ⟨_,_,_,o2,_⟩=>o2 _ _ (fun z=>dc (Q8.mp z).symm) hc1) ?_ ?_⟩
  ·rintro i kk v σ H2 hi ⟨o3,kv2,rfl,o2,hd2,fg⟩;have il:=(Zu.mp hi).1;have hc2:=o2 _ _ (fun z=>dc (Q8.mp z).symm) hc1;have ff2:=ff1.off (zO hd1) o2;obtain⟨f,hf,rfl,dv,ln⟩:=ff2.get hi;have hfm:=Zm hf;obtain⟨f0,f4,fb,_⟩:=gf.lab f hfm;have vv:=jN (ff2.nd gf) (Zm hi);have iff:V.str (Cc f.1)=V.str (Cc ls)↔f.1=ls:=⟨fun z=>x4 (d:=0) f0 l0 fb lb (V.str.inj z),fun z=>by rw[z]⟩;have etk:UH (fs.take (i+1)) ls=UH (fs.take i) ls++(if f.1=ls then[] else[f]):=by
    unfold UH;rw[take_snoc hf,List.filter_append,V3]
    by_cases z:f.1=ls
    ·simp[z]
    ·simp[z]
   refine⟨_,rfl,_,rfl,rfl,_,rfl,Ux (fun z=>?_) (fun z=>?_)⟩
   ·have z:¬f.1=ls:=fun q=>by
     have z:(!decide (V.str (Cc f.1)=V.str (Cc ls)))=true:=z;rw[Zf (iff.mpr q)]at z;cases z
    have Sy:kv2.length<=fs.length:=by
     rw[fg.len];unfold UH;have:=JG (fun f:Fi=>!decide (f.1=ls)) (fs.take i);rw[ZD]at this;omega
    have nk:(.inr (Cc f.1):Key)∉kv2.map (·.1):=fun y=>by
     rw[fg.keys]at y;obtain⟨g,hg,e⟩:=Zb.mp y;have hg:=(mem_but.mp hg).1;obtain⟨j,hj⟩:=YE.mp hg;rw[List.getElem?_take]at hj
     split at hj
     ·rename_i ji;have gm:=Zm hj;have e1:=x4 (d:=0) (gf.lab g gm).1 f0 (gf.lab g gm).2.2.1 fb (Sum.inr.inj e);have:=gf.one gm hfm e1;subst this;have ndf:=xG gf.nd;have hi1:=(Zu.mp hj);have hi2:=(Zu.mp hf);have:=(YX (h₀:=hi1.1) (h₁:=hi2.1) ndf).mp (hi1.2.trans hi2.2.symm);omega
     ·cases hj
    refine⟨_,rfl,_,rfl,c,v,rfl,.inl ⟨Dm,.inr (Cc f.1),.inr ⟨ob,hc2⟩,rfl,vv.symm⟩,_,rfl,_,rfl,d,_,rfl,DPut.k (k:=.inr (Cc f.1)) hd2 (yS (by omega)),_,_,rfl,o2.trans zY,zB,?_⟩;rw[qQ nk,etk,ZA z];exact(fg.snoc dv ln).off (zO hd2) zY
   ·have z:f.1=ls:=by
     rcases L6 (f.1=ls) with q|q
     ·exact q
     ·exact absurd (show(!decide (V.str (Cc f.1)=V.str (Cc ls)))=true by rw[Zr (fun y=>q (iff.mp y))];rfl) z
    refine⟨_,kv2,rfl,o2,hd2,?_⟩;rwa[etk,Zy z,Zs]
  ·rintro σ H2 ⟨o3,kv2,rfl,o2,hd2,fg⟩;have hc2:=o2 _ _ (fun z=>dc (Q8.mp z).symm) hc1;rw[kl,ZJ]at fg;refine⟨c,ob,Dm,hc2,n0,?_⟩;have sm:Same H (upd H2 c (.dK Dm)):=fun b o eb=>by
    by_cases z:b=c
    ·rw[z,zB];rw[z,hc]at eb;exact eb
    ·rw[zH z];exact o2 b o (fun q=>by rw[Q8.mp q,nd]at eb;cases eb) (by rw[zH z];exact ud _ _ eb)
   have hd3:upd H2 c (.dK Dm) d=some (.dK kv2):=by rwa[zH dc]
   have fg3:=fg.off (GY hc2) (zY (c:=c) (o:=.dK Dm));generalize upd H2 c (.dK Dm)=H3 at sm hd3 fg3 ⊢;refine⟨fun σ' H'=>∃kv3,σ'=[some (.ref c),some (.str (Cc ls)),some lv,some (.ref d),o3]/\Same H H'/\H' d=some (.dK kv3)/\FsAt K H' (UT fs ls o) kv3,?_,?_⟩
   ·refine⟨_,rfl,rfl,_,rfl,?_⟩;cases o with
    |none =>
     have hv:lv=.non:=hv;subst hv;exact Uo ⟨kv2,rfl,sm,hd3,by unfold UT;rw[Zs];exact fg3⟩
    |some L =>
     obtain⟨p,xs,rfl,_⟩:=id hv.1;have dv:=Dt.same sm _ _ hv.1;have bl:=Kp fs ls;have gl:=fg3.len;refine Um ⟨_,rfl,_,rfl,_,rfl,d,_,rfl,DPut.k (k:=.inr (Cc ls)) hd3 (yS (by omega)),_,rfl,fun b o eb=>?_,zB,?_⟩
     ·rw[zH (fun z=>by rw[z,nd]at eb;cases eb)];exact sm _ _ eb
     ·have fm:=(fg3.put (CZ gf ls) (f:=(ls,L)) l0 lb dv hv.2).off (zO hd3) (zY (c:=d) (o:=.dK (putK kv2 (.inr (Cc ls)) (.ref p))));rw[O2]at fm;exact fm
   ·rintro σ' H4 ⟨kv3,rfl,s4,h4,f4⟩;exact⟨_,rfl,k d kv3 H4 s4 nd h4 f4⟩
end A7
namespace A8
abbrev st:Stmt:=top 71
theorem sc:FnScope ["_law_files","_law_path","_law_lines"] ["_law_files","_law_path","_law_lines"] (zG st):=Cp
theorem ok (F:Fun K "_law_may" "_law_may" st f fd)(T:Txt P w K mg t1 t2 t3 t4 t5 t6 t7 aL aC aN aT aA b1 b2 b3)(QX:Cal P w K mg base 2 "_law_free" ["_law_files","_law_path"] (Pd K)):FnOk P w K mg base Cm 3 f fd ["_law_files","_law_path","_law_lines"] (R1 K):=by
 refine F.ok sc (fun vs H Q E h=>?_) (fun cdv A outer s H vs Q E hr h=>?_)
 ·obtain⟨c,ls,Dm,fs,o,v,rfl,_⟩:=h;rfl
 ·obtain⟨c,ls,Dm,fs,o,lv,rfl,hc,ff,gf,lb,fl,hv,k⟩:=h;refine⟨_,(zE (yI (z5 HK (pv 2) uQ (zW _)) (zD (zM (yE (IL hr.units) (pv 1) (pv 0) (by with_unfolding_all rfl)))) zQ) (zD (zM (K0 (yE (IL hr.units) (pv 1) (pv 0) (by with_unfolding_all rfl)) (xF (zJ QX hr.m (zA (pv 0) (zA (pv 1) zC)))))))),?_⟩
  refine⟨_,rfl,rfl,_,rfl,?_⟩;cases o with
  |none =>
   have hv:lv=.non:=hv;subst hv;exact Um ⟨_,rfl,_,rfl,c,_,rfl,DGet.k (k:=.inr (Cc ls)) hc,k _ H (Same.refl _) (Oh ff gf lb.1 lb.2.2)⟩
  |some L =>
   obtain⟨p,xs,rfl,_⟩:=id hv.1;refine Uo ⟨_,rfl,_,rfl,c,_,rfl,DGet.k (k:=.inr (Cc ls)) hc,_,rfl,Ux (fun z=>?_) (fun z=>?_)⟩
   ·obtain⟨f,hf,e⟩:=Zb.mp ((Oh ff gf lb.1 lb.2.2).mp z);have e:f.1=ls:=e;exact k true H (Same.refl _) ⟨fun _=>by show FreeW fs ls;rw[←e];exact FreeW.file gf hf,fun _=>rfl⟩
   ·refine⟨_,rfl,_,rfl,c,Dm,fs,Cc ls,rfl,hc,ff.keys,fun f hf=>uU (gf.lab f hf).2.1 (gf.lab f hf).2.2.1,uU lb.2.1 lb.2.2,fun H3 e3=>?_⟩;exact k _ H3 e3 ⟨fun z=>FreeW.over gf lb.1 z,fun z=>FreeW.all gf lb.1 lb.2.2 z⟩
end A8
namespace A9
abbrev st:Stmt:=top 72
theorem sc:FnScope ["_law_shelf","_law_root","_law_path","_law_lines"] ["_law_shelf","_law_root","_law_path","_law_lines"] (zG st):=Cp
theorem ok (F:Fun K "_law_done" "_law_done" st f fd)(T:Txt P w K mg t1 t2 t3 t4 t5 t6 t7 aL aC aN aT aA b1 b2 b3)(QY:CalX P w K mg base 13 "with_file" ["shelf","root","path","lines"] (MB P w K aC b2))(QZ:CalX P w K mg base 13 "without_file" ["shelf","root","path"] (Pl P w K aC b3)):FnOk P w K mg base Cm 14 f fd ["_law_shelf","_law_root","_law_path","_law_lines"] (Pb P w K aC):=by
 refine F.ok sc (fun vs H Q E h=>?_) (fun cdv A outer s H vs Q E hr h=>?_)
 ·obtain⟨a,fp,S,x,ls,Do,o,v,rfl,_⟩:=h;rfl
 ·obtain⟨a,fp,S,x,ls,Do,o,lv,rfl,sh,ok,tr,att,lb,hv,rl,sl,k1,k2⟩:=h;refine⟨_,(zD (Rt rfl rfl rfl (fun _ _=>(zE (yI (z5 HK (pv 3) uQ (zW _)) (zD (zM (yD QZ hr.m (XC rfl) (zA (pv 0) (zA (pv 1) (zA (pv 2) zC)))))) zQ) (zD (zM (yD QY hr.m (XC rfl) (zA (pv 0) (zA (pv 1) (zA (pv 2) (zA (pv 3) zC))))))))) rfl T.BadFiles (fun _=>(zD (zM pe_str))) rfl T.NoFit (fun _=>(zD (zM pe_str))))),?_⟩
  cases o with
  |none =>
   have hv:lv=.non:=hv;subst hv;refine⟨fun σ' H' cls=>Same H H'/\cls=.ref b3/\¬Iq (reads 5 S x) ls none,?_,?_⟩
   ·refine⟨_,rfl,rfl,_,rfl,Um ⟨_,rfl,_,rfl,_,rfl,a,fp,S,x,ls,Do,rfl,sh,ok,tr,att,lb.1,lb.2.1,lb.2.2,rl,sl,fun hm H' of' sh'=>k1 hm H' of' sh',fun hm H' s'=>⟨s',rfl,hm⟩⟩⟩
   ·rintro σ' H' cls z ⟨s',rfl,hm⟩ nz;exact .inr ⟨T.exm32,T.exm33,k2 hm _ (s'.trans (zF nz))⟩
  |some L =>
   obtain⟨p,xs,rfl,_⟩:=id hv.1;refine⟨fun σ' H' cls=>Same H H'/\cls=.ref b2/\¬Iq (reads 5 S x) ls (some L),?_,?_⟩
   ·refine⟨_,rfl,rfl,_,rfl,Uo ⟨_,rfl,_,rfl,_,rfl,_,rfl,a,fp,S,x,ls,L,Do,.ref p,rfl,sh,ok,tr,att,lb.1,lb.2.1,lb.2.2,hv.1,hv.2,rl,sl,fun hm H' of' sh'=>k1 hm H' of' sh',fun hm H' s'=>⟨s',rfl,hm⟩⟩⟩
   ·rintro σ' H' cls z ⟨s',rfl,hm⟩ nz;exact .inl ⟨T.exm22,k2 hm _ (s'.trans (zF nz))⟩
end A9
namespace Ca
abbrev st:Stmt:=top 73
theorem sc:FnScope ["_law_shelf","_law_root","_law_files"] ["_law_shelf","_law_root","_law_files"] (zG st):=Cp
theorem ok (F:Fun K "_law_reads" "_law_reads" st f fd)(T:Txt P w K mg t1 t2 t3 t4 t5 t6 t7 aL aC aN aT aA b1 b2 b3)(Qu:Cal P w K mg base 13 "_law_read" ["_law_store","_law_name","_law_before"] (Il P w K aC 5))(Q0:Cal P w K mg base 1 "_law_same" ["_law_found","_law_files"] (Po K))(Qy:CalX P w K mg base 14 "files_of" ["store","root"] (U8 P w K aC aN))(Qx:Cal P w K mg base 13 "_law_thin" ["_law_store","_law_name"] (Ie P w K aC 5)):FnOk P w K mg base Cm 15 f fd ["_law_shelf","_law_root","_law_files"] (MA P w K aC):=by
 refine F.ok sc (fun vs H Q E h=>?_) (fun cdv A outer s H vs Q E hr h=>?_)
 ·obtain⟨a,c,fp,S,x,fs,Dm,Do,rfl,_⟩:=h;rfl
 ·obtain⟨a,c,fp,S,x,fs,Dm,Do,rfl,sh,ok,tr,att,rd,hc,ff,gf,fl,k⟩:=h;refine⟨_,(zE (yI (PW.pt (vY (z5 (SI hr.units128) (zJ Qu hr.m (zA (pv 0) (zA (pv 1) (zA pe_str zC)))) (pv 2) (zW _)) (uP (yZ (zS (K:=K) (zJ Q0 hr.m (zA (yD Qy hr.m z9 (zA (pv 0) (zA (pv 1) zC))) (zA (pv 2) zC))) (fun _=>rfl)))))) (zD (zM j6)) zQ) (zD (zM (K0 (yE qA (zL kS (by rfl) T.len ZO (zA (pv 2) zC)) zI (zW _)) (xF (zJ Qx hr.m (zA (pv 0) (zA (pv 1) zC)))))))),?_⟩
  have ri:=(tr.rise ok).1;have nr:=BE ri;have pm:(reads 5 S x).Perm fs:=(Yz nr (xG gf.nd)).mpr rd;have rl:(reads 5 S x).length=fs.length:=pm.length_eq;have ln:∀f∈reads 5 S x,Uz f.2:=fun f hf=>(gf.lab f ((rd f).mp hf)).2.2.2;refine⟨_,rfl,_,rfl,a,fp,S,x,[],rfl,sh,ok,tr,fun l hl=>(nomatch hl),by decide,by show(reads 5 S x).length<=63;omega,ln,fun e1 kv1 H1 s1 ne1 he1 fe1=>?_⟩;have fe1:FsAt K H1 (CB [] (reads 5 S x)) kv1:=fe1;rw[PL]at fe1;have hts:=X2 (ff.same s1) gf fe1 fun f hf=>⟨(gf.lab f ((rd f).mp hf)).1,(gf.lab f ((rd f).mp hf)).2.2.1⟩;have eqd:=(Iy fe1 (ff.same s1) gf nr).mpr rd;refine⟨_,rfl,e1,c,kv1,Dm,_,rfl,rfl,.inl he1,.inl (s1 _ _ hc),hts,_,rfl,Ux (fun z=>?_) (fun _=>?_)⟩
  ·exfalso;rw[eqd]at z;cases z
  refine⟨_,rfl,_,rfl,a,fp,S,x,rfl,sh.same s1,ok,.inl ⟨Do,att,tr,by omega,ln,fun e2 kv2 H2 s2 ne2 he2 fe2=>?_⟩⟩;have s12:=s1.trans s2;refine⟨_,rfl,e2,c,kv2,Dm,_,fs,rfl,he2,fe2,ri,rd,s12 _ _ hc,ff.same s12,gf,(zK (s1 _ _ hc) ne2).symm,by omega,fun H3 s3=>⟨_,rfl,IG ?_⟩⟩;have s13:=s12.trans s3;have kl:=ff.len;refine⟨_,rfl,c,Dm,rfl,s13 _ _ hc,rfl,_,rfl,Ux (fun _=>k _ s13) (fun z=>?_)⟩;refine⟨_,rfl,_,rfl,a,fp,S,x,rfl,sh.same s13,ok,tr,fun y Do h=>Tree.row_len ok h,fun H4 s4=>?_⟩;have e:(!(reads 5 S x).isEmpty)=true:=by
   cases q:reads 5 S x with
   |cons f r=>rfl
   |nil =>
    exfalso;rw[q]at rl;refine z (Zf ?_);rw[kl,←rl];rfl
  show Q (.bl (!(reads 5 S x).isEmpty)) H4;rw[e];exact k H4 (s13.trans s4)
end Ca
end
def Mw (K:Cd):Sp:=fun vs H Q _=>∃(a:Eh) (ns:List Int),vs=[.ref a]/\SqL K H a (ns.map V.int)/\ns.length<=63/\∀H',Q (.bl true) H'
section
variable {P:Ei}{w:Em}{K:Cd}{C:Eh}{H0 H H':Hp}{a:Eh}{fp:Dd}{S S':Di}
theorem KQ (n:NoSeq H fp):∀b∈fp,∀xs,¬Rd H b (.tup xs):=fun b hb xs=>by
 obtain⟨o,e,h1,_,h3⟩:=n b hb;exact IS e h1 h3 xs
theorem qU (n:NoSeq H fp){c:Eh}{xs:Dj}(h:H c=some (.lst xs)):c∉fp:=fun z=>by
 obtain⟨o,e,_,h2,_⟩:=n c z;rw[h]at e;exact h2 xs (Option.some.inj e).symm
theorem IR {fp:Dd}(s:Same H0 H)(fr:∀c∈fp,H0 c=none)(o:Off fp H H'):Same H0 H':=fun c x e=>o c x (fun z=>by rw[fr c z]at e;cases e) (s c x e)
theorem Nj {x dx:Eh}{o1 o2:HO}{fp:Dd}(nx:H x=none)(ndx:H dx=none)(ne:dx≠x)(hfp:∀c∈fp,c=x\/c=dx\/(L2.upd (L2.upd H dx o1) x o2) c=none)(o:Off [x] (L2.upd (L2.upd H dx o1) x o2) H'):Same H H'/\∀c∈fp,H c=none:=by
 have h1:Same H (L2.upd (L2.upd H dx o1) x o2):=(zF ndx).trans (zF (by rwa[zH (EA ne)]));refine⟨fun c u e=>o c u (fun z=>?_) (h1 c u e),fun c hc=>?_⟩
 ·rw[Q8.mp z,nx]at e;cases e
 ·rcases hfp c hc with z|z|z
  ·rwa[z]
  ·rwa[z]
  ·exact h1.free z
end
def RtOk (K:Cd)(H:Hp)(X:Dd)(S:Di)(n:Nat)(r:Str)(d:Eh)(fs:Dk):Prop:=∃kv Do,H d=some (.dK kv)/\d∉X/\FsAt K H fs kv/\GoodF 4 fs/\fs.length<=n/\Tree 5 S r/\At S r (.tree Do)/\∀f,f∈reads 5 S r↔f∈fs
def KnOk (K:Cd)(H:Hp)(X:Dd)(S:Di)(n:Nat)(v:V):Prop:=∃t r d fs,v=.ref t/\H t=some (.tup [.str r,.ref d])/\RtOk K H X S n r d fs
def HeOk (K:Cd)(H:Hp)(X:Dd)(n:Nat)(v:V):Prop:=∃(h e e2 l l2:Eh) (kv:Dl) (fs:Dk) (ns:Da),v=.ref h/\H h=some (.lst [.ref e,.ref e2,.ref l,.ref l2])/\h∉X/\e∉X/\e2∉X/\l∉X/\l2∉X/\H e=some (.dK kv)/\H e2=some (.dK kv)/\FsAt K H fs kv/\GoodF 4 fs/\fs.length<=n/\H l=some (.lst (ns.map V.str))/\H l2=some (.lst (ns.map V.str))/\∀y∈ns,Ep y=true
section
variable {K:Cd}{H H':Hp}{X:Dd}{S T:Di}{n m:Nat}{r:Str}{d:Eh}{fs:Dk}{v:V}
theorem RtOk.off (h:RtOk K H X S n r d fs)(nt:∀b∈X,∀xs,¬Rd H b (.tup xs))(o:Off X H H'):RtOk K H' X S n r d fs:=by
 obtain⟨kv,Do,h1,h2,h3,h4,h5,h6,h7,h8⟩:=h;exact⟨kv,Do,o _ _ h2 h1,h2,h3.off nt o,h4,h5,h6,h7,h8⟩
theorem RtOk.more (h:RtOk K H X S n r d fs)(g:OkS (S++T))(g0:OkS S)(le:n<=m):RtOk K H X (S++T) m r d fs:=by
 obtain⟨kv,Do,h1,h2,h3,h4,h5,h6,h7,h8⟩:=h;have tm:=h6.more g g0;exact⟨kv,Do,h1,h2,h3,h4,by omega,tm.1,h7.more,by rw[tm.2];exact h8⟩
theorem KnOk.off (h:KnOk K H X S n v)(nt:∀b∈X,∀xs,¬Rd H b (.tup xs))(o:Off X H H'):KnOk K H' X S n v:=by
 obtain⟨t,r,d,fs,h1,h2,h3⟩:=h;exact⟨t,r,d,fs,h1,o _ _ (fun z=>nt t z _ (.inl h2)) h2,h3.off nt o⟩
theorem KnOk.more (h:KnOk K H X S n v)(g:OkS (S++T))(g0:OkS S)(le:n<=m):KnOk K H X (S++T) m v:=by
 obtain⟨t,r,d,fs,h1,h2,h3⟩:=h;exact⟨t,r,d,fs,h1,h2,h3.more g g0 le⟩
theorem HeOk.off (h:HeOk K H X n v)(nt:∀b∈X,∀xs,¬Rd H b (.tup xs))(o:Off X H H'):HeOk K H' X n v:=by
 obtain⟨q,e,e2,l,l2,kv,fs,ns,h1,h2,n1,n2,n3,n4,n5,h3,h4,h5,h6,h7,h8,h9,h10⟩:=h;exact⟨q,e,e2,l,l2,kv,fs,ns,h1,o _ _ n1 h2,n1,n2,n3,n4,n5,o _ _ n2 h3,o _ _ n3 h4,h5.off nt o,h6,h7,o _ _ n4 h8,o _ _ n5 h9,h10⟩
theorem HeOk.mono (h:HeOk K H X n v)(le:n<=m):HeOk K H X m v:=by
 obtain⟨q,e,e2,l,l2,kv,fs,ns,h1,h2,n1,n2,n3,n4,n5,h3,h4,h5,h6,h7,h8,h9,h10⟩:=h;exact⟨q,e,e2,l,l2,kv,fs,ns,h1,h2,n1,n2,n3,n4,n5,h3,h4,h5,h6,by omega,h8,h9,h10⟩
end
structure J (P:Ei)(w:Em)(K:Cd)(C:Eh)(H0 H:Hp)(x:Eh)(fp:Dd)(R F Kn Hd:Eh)(S:Di)(rts:Da)(dds:Dd)(ks hs:Dj)(n:Nat):Prop where
 same:Same H0 H
 sh:ShAt P w K C H x fp S
 ok:OkS S
 fr:∀c∈fp,H0 c=none
 nR:H0 R=none
 nF:H0 F=none
 nK:H0 Kn=none
 nH:H0 Hd=none
 hR:H R=some (.lst (rts.map V.str))
 hF:H F=some (.lst (dds.map V.ref))
 hK:H Kn=some (.lst ks)
 hH:H Hd=some (.lst hs)
 r1:R≠F
 r2:R≠Kn
 r3:R≠Hd
 r4:F≠Kn
 r5:F≠Hd
 r6:Kn≠Hd
 lr:rts.length=2
 ld:dds.length=2
 rt:∀(i:Nat) (r:Str) (d:Eh),rts[i]?=some r->dds[i]?=some d->∃fs,RtOk K H (R::F::Kn::Hd::fp) S n r d fs
 kn:∀v∈ks,KnOk K H (R::F::Kn::Hd::fp) S n v
 kp:0<ks.length
 kl:ks.length<=n+1
 he:∀v∈hs,HeOk K H (R::F::Kn::Hd::fp) n v
 hl:hs.length<=n
 sl:S.length<=1+6*n
section
variable {P:Ei}{w:Em}{K:Cd}{C:Eh}{H0 H H':Hp}{x:Eh}{fp:Dd}{R F Kn Hd:Eh}{S S' T:Di}{rts DK:Da}{dds DL:Dd}{ks hs ks' hs':Dj}{n m:Nat}
theorem jF {H:Hp}{a:Eh}{xs:Dj}(h:H a=some (.lst xs)):∀ys,¬Rd H a (.tup ys):=fun ys z=>by
 rcases z with z|⟨o,z⟩
 ·rw[h]at z;cases z
 ·rw[h]at z;cases z
theorem J.notup (j:J P w K C H0 H x fp R F Kn Hd S rts dds ks hs n):∀b∈R::F::Kn::Hd::fp,∀xs,¬Rd H b (.tup xs):=fun b hb xs=>by
 rcases Zi.mp hb with rfl|hb
 ·exact jF j.hR xs
 rcases Zi.mp hb with rfl|hb
 ·exact jF j.hF xs
 rcases Zi.mp hb with rfl|hb
 ·exact jF j.hK xs
 rcases Zi.mp hb with rfl|hb
 ·exact jF j.hH xs
 exact KQ j.sh.noseq b hb xs
theorem J.fresh (j:J P w K C H0 H x fp R F Kn Hd S rts dds ks hs n):∀b∈R::F::Kn::Hd::fp,H0 b=none:=fun b hb=>by
 rcases Zi.mp hb with rfl|hb
 ·exact j.nR
 rcases Zi.mp hb with rfl|hb
 ·exact j.nF
 rcases Zi.mp hb with rfl|hb
 ·exact j.nK
 rcases Zi.mp hb with rfl|hb
 ·exact j.nH
 exact j.fr b hb
theorem J.ex (j:J P w K C H0 H x fp R F Kn Hd S rts dds ks hs n){b:Eh}(h:H b=none):b∉R::F::Kn::Hd::fp:=fun hb=>by
 rcases Zi.mp hb with rfl|hb
 ·rw[j.hR]at h;cases h
 rcases Zi.mp hb with rfl|hb
 ·rw[j.hF]at h;cases h
 rcases Zi.mp hb with rfl|hb
 ·rw[j.hK]at h;cases h
 rcases Zi.mp hb with rfl|hb
 ·rw[j.hH]at h;cases h
 exact j.sh.ex.not h hb
theorem J.step (j:J P w K C H0 H x fp R F Kn Hd S rts dds ks hs n)(o:Off (R::F::Kn::Hd::fp) H H')(sh:ShAt P w K C H' x fp (S++T))(ok:OkS (S++T))(le:n<=m)(hR:H' R=some (.lst (DK.map V.str)))(hF:H' F=some (.lst (DL.map V.ref)))(hK:H' Kn=some (.lst ks'))(hH:H' Hd=some (.lst hs'))
  (lr:DK.length=2) (ld:DL.length=2) (rt:∀(i:Nat) (r:Str) (d:Eh),DK[i]?=some r->DL[i]?=some d->(rts[i]?=some r/\dds[i]?=some d)\/∃fs,RtOk K H' (R::F::Kn::Hd::fp) (S++T) m r d fs) (kn:∀v∈ks',v∈ks\/KnOk K H' (R::F::Kn::Hd::fp) (S++T) m v) (kp:0<ks'.length) (kl:ks'.length<=m+1)
  (he:∀v∈hs',v∈hs\/HeOk K H' (R::F::Kn::Hd::fp) m v) (hl:hs'.length<=m) (sl:(S++T).length<=1+6*m):J P w K C H0 H' x fp R F Kn Hd (S++T) DK DL ks' hs' m :=
 ⟨IR j.same j.fresh o,sh,ok,j.fr,j.nR,j.nF,j.nK,j.nH,hR,hF,hK,hH,j.r1,j.r2,j.r3,j.r4,j.r5,j.r6,lr,ld,fun i r d h1 h2=>by
  rcases rt i r d h1 h2 with⟨z1,z2⟩|z
  ·obtain⟨fs,z⟩:=j.rt i r d z1 z2;exact⟨fs,(z.off j.notup o).more ok j.ok le⟩
  ·exact z,fun v hv=>by
  rcases kn v hv with z|z
  ·exact((j.kn v z).off j.notup o).more ok j.ok le
  ·exact z,kp,kl,fun v hv=>by
  rcases he v hv with z|z
  ·exact((j.he v z).off j.notup o).mono le
  ·exact z,hl,sl⟩
theorem J.step0 (j:J P w K C H0 H x fp R F Kn Hd S rts dds ks hs n)(o:Off (R::F::Kn::Hd::fp) H H')(sh:ShAt P w K C H' x fp S)(le:n<=m)(hR:H' R=some (.lst (DK.map V.str)))(hF:H' F=some (.lst (DL.map V.ref)))(hK:H' Kn=some (.lst ks'))(hH:H' Hd=some (.lst hs'))
  (lr:DK.length=2) (ld:DL.length=2) (rt:∀(i:Nat) (r:Str) (d:Eh),DK[i]?=some r->DL[i]?=some d->(rts[i]?=some r/\dds[i]?=some d)\/∃fs,RtOk K H' (R::F::Kn::Hd::fp) S m r d fs) (kn:∀v∈ks',v∈ks\/KnOk K H' (R::F::Kn::Hd::fp) S m v) (kp:0<ks'.length) (kl:ks'.length<=m+1)
  (he:∀v∈hs',v∈hs\/HeOk K H' (R::F::Kn::Hd::fp) m v) (hl:hs'.length<=m):J P w K C H0 H' x fp R F Kn Hd S DK DL ks' hs' m:=by
 have e:=Zs S;have:=j.step (T:=[]) (m:=m) (DK:=DK) (DL:=DL) (ks':=ks') (hs':=hs') o (by rwa[e]) (by rw[e];exact j.ok) le hR hF hK hH lr ld (by rwa[e]) (by rw[e];exact kn) kp kl he hl (by rw[e];have:=j.sl;omega);rw[e]at this;exact this
theorem BV (sh:ShAt P w K C H x fp S){a:Eh}{ys zs:Dj}(h:H a=some (.lst ys)):ShAt P w K C (upd H a (.lst zs)) x fp S :=
 sh.off (gp:=[a]) (fun b hb xs=>by rw[Q8.mp hb];exact jF h xs) zY (fun c hc z=>qU sh.noseq h (Q8.mp z▸hc))
theorem J.ins (j:J P w K C H0 H x fp R F Kn Hd S rts dds ks hs n)(s:Same H H'):J P w K C H0 H' x fp R F Kn Hd S rts dds ks hs n:=by
 have:=j.step (T:=[]) (H':=H') (m:=n) (DK:=rts) (DL:=dds) (ks':=ks) (hs':=hs) (Off.of s) (by rw[Zs];exact j.sh.same s) (by rw[Zs];exact j.ok) (Ze n) (s _ _ j.hR) (s _ _ j.hF) (s _ _ j.hK) (s _ _ j.hH) j.lr j.ld (fun i r d h1 h2=>.inl ⟨h1,h2⟩) (fun v hv=>.inl hv) j.kp j.kl (fun v hv=>.inl hv) j.hl (by rw[Zs];exact j.sl);rw[Zs]at this;exact this
theorem J.offL (j:J P w K C H0 H x fp R F Kn Hd S rts dds ks hs n)(o:Off fp H H'):Off (R::F::Kn::Hd::fp) H H':=o.mono fun b hb=>Za _ (Za _ (Za _ (Za _ hb)))
theorem J.put (j:J P w K C H0 H x fp R F Kn Hd S rts dds ks hs n)(o:Off fp H H')(sh:ShAt P w K C H' x fp (S++T))(ok:OkS (S++T))(le:n<=m)(sl:(S++T).length<=1+6*m):J P w K C H0 H' x fp R F Kn Hd (S++T) rts dds ks hs m :=
 j.step (j.offL o) sh ok le (o _ _ (qU j.sh.noseq j.hR) j.hR) (o _ _ (qU j.sh.noseq j.hF) j.hF) (o _ _ (qU j.sh.noseq j.hK) j.hK) (o _ _ (qU j.sh.noseq j.hH) j.hH) j.lr j.ld (fun i r d h1 h2=>.inl ⟨h1,h2⟩) (fun v hv=>.inl hv) j.kp (by have:=j.kl;omega) (fun v hv=>.inl hv) (by have:=j.hl;omega) sl
theorem J.put0 (j:J P w K C H0 H x fp R F Kn Hd S rts dds ks hs n)(o:Off fp H H')(sh:ShAt P w K C H' x fp S):J P w K C H0 H' x fp R F Kn Hd S rts dds ks hs n :=
 j.step0 (j.offL o) sh (Ze n) (o _ _ (qU j.sh.noseq j.hR) j.hR) (o _ _ (qU j.sh.noseq j.hF) j.hF) (o _ _ (qU j.sh.noseq j.hK) j.hK) (o _ _ (qU j.sh.noseq j.hH) j.hH) j.lr j.ld (fun i r d h1 h2=>.inl ⟨h1,h2⟩) (fun v hv=>.inl hv) j.kp j.kl (fun v hv=>.inl hv) j.hl
end
end An09
namespace L2
open PySem PySem.Spec PyProof.Rows
theorem Rf {X:Cx}{K:Cd}(hu:X.A.units+128<E5)(hK:X.K=K:=by rfl):Cu X (EK .Eq) (T9 K):=by
 subst hK;exact OK hu
end L2
namespace An09
open PySem L2 An
seal L2.PS L2.PSs L2.PE L2.PT L2.PW L2.PA L2.PG L2.PGs L2.PI L2.PFi L2.PC
theorem PZ {i:Nat}{v:V}{σ:St}{H:Hp}{Q:St->Hp->Prop}(h:Q (σ.set i (some v)) H):Bh i v σ H Q:=h
theorem Hn {lo:Int}{n:Nat}{g:TG}{tb:TS}{D:Ends}{σ:St}{H:Hp}(Pv:Nat->St->Hp->Prop)(h0:Pv 0 σ H)
  (hs:∀i σ H,i<n->Pv i σ H->∀D':Ends,(∀σ H,Pv (i+1) σ H->D'.nx σ H)->g (.int (lo+i)) σ H fun σ2 H2=>tb D' σ2 H2) (hd:∀σ H,Pv n σ H->D.nx σ H) :
  ∃W:Nat->Nat->St->Hp->Prop,(∃m,W 0 m σ H)/\∀i m σ H,W i m σ H ->
   ((NC lo n).stop i H/\D.nx σ H)\/((NC lo n).go i H/\∃N:St->Hp->Prop,(∀σ' H',N σ' H'->∃m',m'<m/\W (i+1) m' σ' H')/\∀x H',(NC lo n).yld i H x H'->g x σ H' fun σ2 H2=>tb { D with nx:=N,ct:=N,bk:=D.nx } σ2 H2) :=
 G4 Pv h0 (fun i σ H hi p=>hs i σ H hi p _ fun _ _ h=>h) hd
theorem WP {i n:Nat}(h:i+1<n)(hn:n<=63):i<=61:=by omega
theorem SC {f i:Nat}(h:f<=i)(hi:i<=61):f<=62:=by omega
theorem TY {r f i:Nat}(e:r=f)(h:f<=i)(hi:i<=61):r<=61:=by omega
theorem OB {f i:Nat}(h:f<=i+1)(hi:i<=61):f<=62/\f<=63:=by omega
theorem ao {S i:Nat}(h:S<=1+6*i)(hi:i<=61):S+10<=2000/\S+6<=2000:=by omega
theorem nbQ {q S i:Nat}(h:q<=S+5)(hs:S<=1+6*i):q<=1+6*(i+1):=by omega
theorem aq {S i w f:Nat}(hs:S<=1+6*(i+1))(hw:w<=4*f)(hf:f<=i+1)(hi:i<=61):S+1+w<=2000:=by omega
theorem Tm {k:Nat}(h:0<k):(0:Int)<(k:Int)/\(k:Int)≠0:=by omega
theorem ar {k i:Nat}(h:k<=i+1+1)(hi:i<=61):k<16777216:=by omega
theorem nbm {m f i:Nat}(h:m<=f+1)(hf:f<=i):m<=i+1:=by omega
theorem nbt {k:Int}{n:Nat}(h0:0<=k)(h1:k<(n:Int)):k.toNat<n:=by omega
theorem kZ (n:Nat):GoodF n []:=⟨fun f hf=>(nomatch hf),Yy,fun f hf=>(nomatch hf)⟩
theorem Bb {fs gs:Dk}(h:∀f,f∈gs↔f∈fs):Iq gs ls o↔Iq fs ls o:=by
 cases o with
 |none =>
  show ls∈gs.map (·.1)↔ls∈fs.map (·.1);rw[Zb,Zb];exact⟨fun⟨f,hf,e⟩=>⟨f,(h f).mp hf,e⟩,fun⟨f,hf,e⟩=>⟨f,(h f).mpr hf,e⟩⟩
 |some L=>exact⟨fun z f hf=>z f ((h f).mpr hf),fun z f hf=>z f ((h f).mp hf)⟩
theorem Xa {fs:Dk}{Do:Dg}(ok:OkS S)(t:Tree 5 S r)(a:At S r (.tree Do))(rd:∀f,f∈reads 5 S r↔f∈fs):PutOk 5 S fs (S,r):=⟨ok,⟨[],(Zs S).symm,fun e he=>(nomatch he)⟩,t,rd,Do,a⟩
theorem PU {fs:Dk}{Do:Dg}{o:Option Da}(ok:OkS S)(t:Tree 5 S r)(a:At S r (.tree Do))(lb:F7 ls)(hl:∀L,o=some L->Uz L)(rl:(reads 5 S r).length<=61)(sl:S.length+6<=2000)(rd:∀f,f∈reads 5 S r↔f∈fs)(may:Iq (reads 5 S r) ls o):PutOk 5 S (UT fs ls o) (doneF S r ls o)/\(doneF S r ls o).1.length<=S.length+5:=by
 have l4:=lb.2.1;cases o with
 |none =>
  obtain⟨f,hf,e⟩:=Zb.mp may;have e:f.1=ls:=e;have hf:(ls,f.2)∈reads 5 S r:=by rwa[←e]
  have:=Rh (gs:=UT fs ls none) ok t a lb.1 lb.2.1 hf rl (by omega) fun g=>by
   unfold UT;rw[Zs,mem_but,rd]
  exact⟨this.1,by have h:=this.2.1;show(outF S r ls).1.length<=_;omega⟩
 |some L =>
  have:=Px (gs:=UT fs ls (some L)) ok t a lb.1 lb.2.1 lb.2.2 (hl L rfl) may rl (by omega) fun g=>by
   show g∈UH fs ls++[(ls,L)]↔_;rw[Oy,rd]
  exact⟨this.1,by have h:=this.2.1;show(Ct S r ls L).1.length<=_;omega⟩
theorem Hr {o:Option Da}(g:GoodF 4 fs)(lb:F7 ls)(hl:∀L,o=some L->Uz L)(may:Iq fs ls o):GoodF 4 (UT fs ls o)/\(UT fs ls o).length<=fs.length+1:=by
 have bl:=Kp fs ls;cases o with
 |none =>
  show GoodF 4 (UH fs ls++[])/\(UH fs ls++[]).length<=_;rw[Zs];exact⟨CZ g ls,by omega⟩
 |some L=>exact⟨MZ g lb (hl L rfl) may,by show(UH fs ls++[(ls,L)]).length<=_;rw[Zj];show _+1<=_;omega⟩
theorem LinV.ln {K:Cd}(h:LinV K H o v):∀L,o=some L->Uz L:=fun L e=>by
 rw[e]at h;exact h.2
theorem LinV.off {K:Cd}{X:Dd}(h:LinV K H o v)(nt:∀b∈X,∀xs,¬Rd H b (.tup xs))(of:Off X H H'):LinV K H' o v:=by
 cases o with
 |none=>exact h
 |some L=>exact⟨Dt.off nt of _ _ (qK h.2) h.1,h.2⟩
theorem M3 {rs:Dk}(g:GoodF n fs)(p:rs.Perm fs):GoodF n rs:=⟨fun f hf=>g.lab f (p.mem_iff.mp hf),(p.map _).nodup_iff.mpr g.nd,fun f hf k hk=>g.pre f (p.mem_iff.mp hf) k (p.mem_iff.mp hk)⟩
theorem Sy {α:Type}:∀{xs:List α},xs.length=2->∃a b,xs=[a,b]
 |[a,b],_=>⟨a,b,rfl⟩
section
variable {P:Ei}{w:Em}{K:Cd}{mg:Str->Dc}{base:Ez}{t1 t2 t3 t4 t5 t6 t7:Tok}{aL aC aN aT aA b1 b2 b3:Eh}
namespace Cb
abbrev st:Stmt:=top 74
theorem sc:FnScope ["_law_script","_law_shelf","_law_roots","_law_files","_law_known","_law_held","_law_k","_law_cell","_law_at","_law_path","_law_lines","_law_found","_law_old","_law_told"] ["_law_script"] (zG st):=Cp
theorem ok (F:Fun K "law" "law" st f fd)(T:Txt P w K mg t1 t2 t3 t4 t5 t6 t7 aL aC aN aT aA b1 b2 b3)(Q1:Mak P w K mg base aC 5 "Shelf" ["self","base"] (Pf P w K aC))(Qp:Met P w K mg base aC 1 "names" ["self"] (BQ P w K aC))(Qz:CalX P w K mg base 13 "keep_files" ["shelf","files"] (Pg P w K aC))(Q2:Cal P w K mg base 1 "_law_path_by" ["_law_cell"] FR)(Q3:Cal P w K mg base 2 "_law_lines_by" ["_law_cell"] (GM K))(Q4:Cal P w K mg base 14 "_law_done" ["_law_shelf","_law_root","_law_path","_law_lines"] (Pb P w K aC))
  (Q5:Cal P w K mg base 3 "_law_may" ["_law_files","_law_path","_law_lines"] (R1 K)) (Q6:Cal P w K mg base 1 "_law_more" ["_law_files","_law_path","_law_lines"] (Ph K)) (QB:Cal P w K mg base 15 "_law_reads" ["_law_shelf","_law_root","_law_files"] (MA P w K aC)) (Qy:CalX P w K mg base 14 "files_of" ["store","root"] (U8 P w K aC aN)):FnOk P w K mg base Cm 16 f fd ["_law_script"] (Mw K):=by
 refine F.ok sc (fun vs H Q E h=>?_) (fun cdv A outer s H vs Q E hr h=>?_)
 ·obtain⟨sa,ns,rfl,_⟩:=h;rfl
 ·obtain⟨sa,ns,rfl,hsa,Dq,kQ⟩:=h;refine⟨_,(zE (Cr (i:=1) sc.nd (Rm Q1 hr.m (zA uQ zC))) (yT (Cr (i:=2) sc.nd (q8 (zA (yD Qz hr.m z9 (zA (pv 1) (zA yO zC))) (zA (yD Qz hr.m z9 (zA (pv 1) (zA yO zC))) zC)))) (yT (Cr (i:=3) sc.nd (q8 (zA yO (zA yO zC)))) (yT (Cr (i:=4) sc.nd (q8 (zA (uM (zA (zV (ix_list:Cl _ (Uy K)) (pv 2) zI (fun _ _=>rfl)) (zA yO zC))) zC))) (yT (Cr (i:=5) sc.nd (q8 zC)) (zE (xN ET rfl (Bl rfl T.range (zA zI (zA (zL zZ (by rfl) T.len ZO (zA (pv 0) zC)) zC))) (zU (i:=6) sc.nd rfl (EJ rfl)) (zE (Cr (i:=7) sc.nd (zV (ix_list:Cl _ (Uy K)) (pv 0) (pv 6) (fun _ _=>rfl))) (zE (Cr (i:=8) sc.nd (z8 x9 (pv 7) zI)) (zE (Cr (i:=9) sc.nd (zJ Q2 hr.m (zA (z8 xK (pv 7) zI) zC))) (yT (yI (PW.pt (O3 (z5 qA (z8 x9 (z8 xK (pv 7) zI) zI) zI (zW _)) (K4 (z5 Fu (zL kS (by rfl) T.len ZO (zA (zV (ix_list:Cl _ (Uy K)) (pv 3) (pv 8) (fun _ _=>rfl)) zC)) zI (zW _))))) (zD (Cr (i:=9) sc.nd (zV (ix_list:Cl _ (Uy K)) (yB (X7 rfl) (by rfl) T.list YM (zA (zV (ix_list:Cl _ (Uy K)) (pv 3) (pv 8) (fun _ _=>rfl)) zC)) (z8 x9 (z8 xK (pv 7) zI) (zL kS (by rfl) T.len ZO (zA (zV (ix_list:Cl _ (Uy K)) (pv 3) (pv 8) (fun _ _=>rfl)) zC))) (fun _ _=>rfl)))) zQ) (yT (Cr (i:=10) sc.nd (Gh (z5 T5 (z8 x9 (z8 xK (pv 7) zI) zI) zI (zW _)) uQ (zJ Q3 hr.m (zA (z8 xK (pv 7) zI) zC)))) (yT (Cr (i:=11) sc.nd (zJ Q4 hr.m (zA (pv 1) (zA (zV (ix_list:Cl _ (Uy K)) (pv 2) (pv 8) (fun _ _=>rfl)) (zA (pv 9) (zA (pv 10) zC)))))) (yT (yI (zS (K:=K) (zJ Q5 hr.m (zA (zV (ix_list:Cl _ (Uy K)) (pv 3) (pv 8) (fun _ _=>rfl)) (zA (pv 9) (zA (pv 10) zC)))) (fun _=>rfl)) (zE (OV (zJ Q6 hr.m (zA (zV (ix_list:Cl _ (Uy K)) (pv 3) (pv 8) (fun _ _=>rfl)) (zA (pv 9) (zA (pv 10) zC)))) (OS (pv 3) (pv 8) set_list)) (zE (OV (pv 11) (OS (pv 2) (pv 8) set_list)) (zD (yM (kN Y5 YY YZ jM (pv 4) (zA (uM (zA (pv 11) (zA (zV (ix_list:Cl _ (Uy K)) (pv 3) (pv 8) (fun _ _=>rfl)) zC))) zC)))))) (zD (yI (z5 Iv (pv 11) (zV (ix_list:Cl _ (Uy K)) (q8 (zA pe_str (zA pe_str zC))) (yB MN (by rfl) T.int PyProof.Rows.boot_int (zA (yE HK (pv 10) uQ (zW _)) zC)) (fun _ _=>rfl)) (zW _)) (zD (zM j6)) zQ))) (yT (yI (PW.pt (O3 (z5 qA (z8 x9 (z8 xK (pv 7) zI) zI) zI (zW _)) (K4 (z5 Iv (yD Qz hr.m z9 (zA (pv 1) (zA (zV (ix_list:Cl _ (Uy K)) (pv 3) (pv 8) (fun _ _=>rfl)) zC))) (zV (ix_list:Cl _ (Uy K)) (pv 2) (pv 8) (fun _ _=>rfl)) (zW _))))) (zD (zM j6)) zQ) (zE (Cr (i:=12) sc.nd (zV (ix_list:Cl _ (Uy K)) (pv 4) (z8 x9 (z8 jJ (z8 xK (pv 7) zI) (pv 6)) (zL zZ (by rfl) T.len ZO (zA (pv 4) zC))) (fun _ _=>rfl))) (zE (yI (PW.pt (vY (yZ (zS (K:=K) (zJ QB hr.m (zA (pv 1) (zA (zV (ix_list:Cl _ (Uy K)) (pv 2) (pv 8) (fun _ _=>rfl)) (zA (zV (ix_list:Cl _ (Uy K)) (pv 3) (pv 8) (fun _ _=>rfl)) zC)))) (fun _=>rfl))) (uP (yZ (zS (K:=K) (zJ QB hr.m (zA (pv 1) (zA (zV (ix_tup:Cl _ (Ut K)) (pv 12) zI (fun _ _=>rfl)) (zA (zV (ix_tup:Cl _ (Ut K)) (pv 12) zI (fun _ _=>rfl)) zC)))) (fun _=>rfl)))))) (zD (zM j6)) zQ) (zE (yI (z5 Iv (yE qA (zV (ix_list:Cl _ (Uy K)) (pv 2) zI (fun _ _=>rfl)) (zV (ix_list:Cl _ (Uy K)) (pv 2) zI (fun _ _=>rfl)) (zW _)) (yE (OK hr.units128) (zV (ix_list:Cl _ (Uy K)) (pv 3) zI (fun _ _=>rfl)) (zV (ix_list:Cl _ (Uy K)) (pv 3) zI (fun _ _=>rfl)) (zW _)) (zW _)) (zD (zM j6)) zQ) (yT (Cr (i:=13) sc.nd (q8 (zA (yD Qy hr.m z9 (zA (pv 1) (zA (zV (ix_list:Cl _ (Uy K)) (pv 2) (pv 8) (fun _ _=>rfl)) zC))) (zA (Fz (pv 1) T.cls Qp hr.m) zC)))) (zD (yM (kN Y5 YY YZ jM (pv 5) (zA (q8 (zA (zV (ix_list:Cl _ (Uy K)) (pv 13) zI (fun _ _=>rfl)) (zA (yB uC (by rfl) T.dict YN (zA (zV (ix_list:Cl _ (Uy K)) (pv 13) zI (fun _ _=>rfl)) zC)) (zA (zV (ix_list:Cl _ (Uy K)) (pv 13) zI (fun _ _=>rfl)) (zA (yB jB (by rfl) T.list YM (zA (zV (ix_list:Cl _ (Uy K)) (pv 13) zI (fun _ _=>rfl)) zC)) zC))))) zC))))))))))))))))) (zD (zM (zL (xX rfl) (by rfl) T.all Yi (zA (xC (sc:=zG st) (N:=["_law_script","_law_shelf","_law_roots","_law_files","_law_known","_law_held","_law_k","_law_cell","_law_at","_law_path","_law_lines","_law_found","_law_old","_law_told"]) (N':=["_law_one"]) (src:=[none]) ⟨by decide +kernel,rfl,rfl,by decide +kernel,by decide +kernel,by decide +kernel,by decide +kernel⟩ rfl rfl rfl (kF (pv 5)) (fun _ _ _ _=>(zU (i:=0) (show(["_law_one"]:Da).Nodup by decide +kernel) rfl (EJ rfl))) (fun _ _ _ _=>qD) (fun _ _ _ _=>(yX (yE (Rf (K:=K) hr.units128) (zV (ix_list:Cl _ (Uy K)) (pv 0) zI (fun _ _=>rfl)) (zV (ix_list:Cl _ (Uy K)) (pv 0) zI (fun _ _=>rfl)) (zW _)) (xF (yE (KU (K:=K) hr.units) (zV (ix_list:Cl _ (Uy K)) (pv 0) zI (fun _ _=>rfl)) (zV (ix_list:Cl _ (Uy K)) (pv 0) zI (fun _ _=>rfl)) (zW _)))))) zC)))))))))),?_⟩
  refine fun x dx nx ndx ne=>⟨x,dx,.non,[],rfl,zB,by rw[zH ne];exact zB,ne,.inl ⟨rfl,rfl⟩,fun fp H1 hfp off0 sh1=>⟨rfl,?_⟩⟩;obtain⟨s1,fr⟩:=Nj nx ndx ne hfp off0;have ok0:OkS []:=⟨sh1.good,fun e he=>(nomatch he),fun e he=>(nomatch he)⟩;clear off0 hfp nx ndx ne;refine⟨fun σ' H'=>∃(R:Eh) (S:Di) (r:Str) (Do:Dg),σ'=[some (.ref sa),some (.ref x),some (.ref R),none,none,none,none,none,none,none,none,none,none,none]/\Same H H'/\ShAt P w K aC H' x fp S/\OkS S/\S.length<=1/\Tree 5 S r/\At S r (.tree Do)/\(∀f,f∈reads 5 S r↔f∈([]:Dk))/\H' R=some (.lst [V.str r,V.str r])/\H R=none,?_,?_⟩
  ·obtain⟨pk1,pl1⟩:=vH 3 (S:=[]) (fs:=[]) ok0 (kZ 4) (by decide) (by decide);refine⟨_,rfl,fun c1 nc1=>⟨x,c1,fp,[],[],[],rfl,sh1.same (zF nc1),ok0,zB,sh1.ex.not nc1,FsAt.nil,kZ 4,by decide,by decide,fun H2 of2 sh2=>?_⟩⟩;have s2:=IR (s1.trans (zF (o:=.dK []) nc1)) fr of2;generalize eq1:Us 4 [] []=q1 at pk1 pl1 sh2 ⊢;have pk1:PutOk 5 [] [] q1:=pk1;have pl1:q1.1.length<=1:=pl1;obtain⟨pk2,_⟩:=vH 3 (S:=q1.1) (fs:=[]) pk1.ok (kZ 4) (by decide) (by show q1.1.length+1+0<=2000;omega);have eq2:Us 4 q1.1 []=q1:=pk1.again pk2 fun f=>Iff.rfl;refine⟨_,rfl,fun c3 nc3=>⟨x,c3,fp,q1.1,[],[],rfl,sh2.same (zF nc3),pk1.ok,zB,sh2.ex.not nc3,FsAt.nil,kZ 4,by decide,by show q1.1.length+1+0<=2000;omega,fun H4 of4 sh4=>?_⟩⟩;have s4:=IR (s2.trans (zF (o:=.dK []) nc3)) fr of4;rw[eq2]at sh4 ⊢;obtain⟨rows1,at1⟩:=pk1.node;refine⟨Uv 2,fun R nR=>⟨R,q1.1,q1.2,rows1,rfl,s4.trans (zF nR),sh4.same (zF nR),pk1.ok,pl1,pk1.tree,at1,pk1.rd,zB,s4.free nR⟩⟩
  clear s1 sh1 ok0;rintro σ' H4 ⟨R,S0,r0,rows1,rfl,s4,sh4,ok1,pl1,tr1,at1,rd1,hR,nR⟩;refine⟨fun σ' H'=>∃(Fl d0 d1:Eh),σ'=[some (.ref sa),some (.ref x),some (.ref R),some (.ref Fl),none,none,none,none,none,none,none,none,none,none]/\Same H4 H'/\H' Fl=some (.lst [V.ref d0,V.ref d1])/\H' d0=some (.dK [])/\H' d1=some (.dK [])/\H4 Fl=none/\H4 d0=none/\H4 d1=none/\d0≠Fl/\d1≠Fl,?_,?_⟩
  ·refine fun d0 nd0 d1 nd1=>⟨Uv 2,fun Fl nFl=>?_⟩;have u0:=zF (o:=.dK []) nd0;have u1:=zF (o:=.dK []) nd1;have uF:=zF (o:=.lst [V.ref d0,V.ref d1]) nFl;have e0:=u1 _ _ (zB (H:=H4) (a:=d0) (o:=.dK []));have e1:=zB (H:=upd H4 d0 (.dK [])) (a:=d1) (o:=.dK []);exact⟨Fl,d0,d1,rfl,(u0.trans u1).trans uF,zB,uF _ _ e0,uF _ _ e1,(u0.trans u1).free nFl,nd0,u0.free nd1,zK e0 nFl,zK e1 nFl⟩
  rintro σ' H5 ⟨Fl,d0,d1,rfl,s5,hF,h0,h1,nF,n0,n1,f0,f1⟩;refine⟨fun σ' H'=>∃(Kn d2 t:Eh),σ'=[some (.ref sa),some (.ref x),some (.ref R),some (.ref Fl),some (.ref Kn),none,none,none,none,none,none,none,none,none]/\Same H5 H'/\H' Kn=some (.lst [V.ref t])/\H' t=some (.tup [V.str r0,V.ref d2])/\H' d2=some (.dK [])/\H5 Kn=none/\H5 d2=none/\d2≠Kn,?_,?_⟩
  ·refine⟨_,rfl,R,_,_,_,rfl,rfl,SqL.of (s5 _ _ hR),IB _ _,fun d2 nd2=>⟨Uv 2,fun t nt=>⟨Uv 1,fun Kn nKn=>?_⟩⟩⟩;have u2:=zF (o:=.dK []) nd2;have ut:=zF (o:=.tup [V.str r0,V.ref d2]) nt;have uK:=zF (o:=.lst [V.ref t]) nKn;have e2:=ut _ _ (zB (H:=H5) (a:=d2) (o:=.dK []));exact⟨Kn,d2,t,rfl,(u2.trans ut).trans uK,zB,uK _ _ zB,uK _ _ e2,(u2.trans ut).free nKn,nd2,zK e2 nKn⟩
  rintro σ' H6' ⟨Kn,d2,t,rfl,s6,hK,ht,h2,nK,n2,f2⟩;refine⟨fun σ' H'=>∃Hd:Eh,σ'=[some (.ref sa),some (.ref x),some (.ref R),some (.ref Fl),some (.ref Kn),some (.ref Hd),none,none,none,none,none,none,none,none]/\Same H6' H'/\H' Hd=some (.lst [])/\H6' Hd=none,?_,?_⟩
  ·exact⟨Uv 0,fun Hd nHd=>⟨Hd,rfl,zF nHd,zB,nHd⟩⟩
  rintro σ' H6 ⟨Hd,rfl,s7,hH,nH⟩;have hF6:=s6 _ _ hF;have h06:=s6 _ _ h0;have h16:=s6 _ _ h1;have hR5:=s5 _ _ hR;have hR6:=s6 _ _ hR5;have nX:∀{d:Eh},d≠R->d≠Fl->d≠Kn->d≠Hd->d∉fp->d∉R::Fl::Kn::Hd::fp:=fun{d} a b c e g z=>by
   rcases Zi.mp z with z|z
   ·exact a z
   rcases Zi.mp z with z|z
   ·exact b z
   rcases Zi.mp z with z|z
   ·exact c z
   rcases Zi.mp z with z|z
   ·exact e z
   exact g z
  have rk:∀{d:Eh},H6 d=some (.dK [])->d∉R::Fl::Kn::Hd::fp->RtOk K H6 (R::Fl::Kn::Hd::fp) S0 0 r0 d []:=fun{d} hd nd=>⟨[],rows1,hd,nd,FsAt.nil,kZ 4,Ze 0,tr1,at1,rd1⟩;have rk0:=rk (s7 _ _ h06) (nX (zK hR n0).symm f0 (zK h0 nK) (zK h06 nH) (sh4.ex.not n0));have rk1:=rk (s7 _ _ h16) (nX (zK hR n1).symm f1 (zK h1 nK) (zK h16 nH) (sh4.ex.not n1));have rk2:=rk (s7 _ _ h2) (nX (zK hR5 n2).symm (zK hF n2).symm f2 (zK h2 nH) ((sh4.same s5).ex.not n2));have j0:J P w K aC H H6 x fp R Fl Kn Hd S0 [r0,r0] [d0,d1] [V.ref t] [] 0 :=
   ⟨((s4.trans s5).trans s6).trans s7,((sh4.same s5).same s6).same s7,ok1,fr,nR,s4.free nF,(s4.trans s5).free nK,((s4.trans s5).trans s6).free nH,s7 _ _ hR6,s7 _ _ hF6,s7 _ _ hK,hH,zK hR nF,zK hR5 nK,zK hR6 nH,zK hF nK,zK hF6 nH,zK hK nH,rfl,rfl,fun i r d h1 h2=>?_,fun v hv=>?_,Ud 0,Ze 1,fun v hv=>(nomatch hv),Ze 0,by omega⟩
  rotate_left
  ·match i,h1,h2 with
   | 0,h1,h2=>cases h1;cases h2;exact⟨[],rk0⟩
   | 1,h1,h2=>cases h1;cases h2;exact⟨[],rk1⟩
  ·rw[Q8.mp hv];exact⟨t,r0,d2,[],rfl,s7 _ _ ht,rk2⟩
  clear rk rk0 rk1 rk2 nX hR6 hR5 h16 h06 hF6 hH nH s7 hK ht h2 nK n2 f2 s6 hF h0 h1 nF n0 n1 f0 f1 s5 hR nR rd1 at1 tr1 pl1 ok1 sh4 s4 fr;have j0:∃S rts dds ks hs,J P w K aC H H6 x fp R Fl Kn Hd S rts dds ks hs 0:=⟨_,_,_,_,_,j0⟩;refine⟨_,rfl,sa,_,rfl,.inl (by obtain⟨_,_,_,_,_,j⟩:=j0;exact j.same.seq hsa),1,_,rfl,⟨by decide,by decide,by omega,by rw[Q7];omega⟩,Hn (lo:=1) (n:=((((ns.map V.int).length:Nat):Int)-1).toNat) (fun i σ H'=>∃S rts dds ks hs o6 o7 o8 o9 o10 o11 o12 o13,σ=[some (.ref sa),some (.ref x),some (.ref R),some (.ref Fl),some (.ref Kn),some (.ref Hd),o6,o7,o8,o9,o10,o11,o12,o13]/\J P w K aC H H' x fp R Fl Kn Hd S rts dds ks hs i) ?_ ?_ ?_⟩
  ·obtain⟨S,rts,dds,ks,hs,j⟩:=j0;exact⟨S,rts,dds,ks,hs,none,none,none,none,none,none,none,none,rfl,j⟩
  ·clear j0;rintro i σ H7 hi ⟨S,rts,dds,ks,hs,o6,o7,o8,o9,o10,o11,o12,o13,rfl,j⟩ D' hD;have hi:i+1<ns.length:=by
    rw[Q7]at hi;omega
   have i61:i<=61:=WP hi Dq;obtain⟨c,hc,ec⟩:=vK (f:=V.int) (xs:=ns) (i:=1+(i:Int)) (by omega) (by omega);have m2:0<=c % 2/\c % 2<2:=⟨VJ _ (by decide),Va _ (by decide)⟩;obtain⟨r,hr,er⟩:=vK (f:=V.str) (xs:=rts) (i:=c % 2) m2.1 (by rw[j.lr];exact m2.2);obtain⟨d,hd,ed⟩:=vK (f:=V.ref) (xs:=dds) (i:=c % 2) m2.1 (by rw[j.ld];exact m2.2);obtain⟨fs,kv,Do,hdk,ndX,ff,gf,fl,tr,att,rd⟩:=j.rt _ r d hr hd;have kl:=ff.len;refine PZ ⟨_,rfl,_,rfl,sa,_,_,_,rfl,rfl,j.same.seq hsa,ec,_,rfl,_,_,rfl,rfl,(by decide:(0:Int)<2),_,rfl,_,_,rfl,rfl,⟨by decide,by decide⟩,_,rfl,fun ls0 H8 lb0 s8=>?_⟩;have j:=j.ins s8;have hdk:=s8 _ _ hdk;have ff:=ff.same s8;clear s8;refine⟨fun σ' H'=>∃ls,σ'=[some (.ref sa),some (.ref x),some (.ref R),some (.ref Fl),some (.ref Kn),some (.ref Hd),some (.int (1+(i:Int))),some (.int c),some (.int (c % 2)),some (.str (Cc ls)),o10,o11,o12,o13]/\Same H8 H'/\F7 ls,?_,?_⟩
   ·refine⟨_,rfl,_,_,rfl,rfl,⟨by decide,by decide⟩,_,_,rfl,rfl,(by decide:(0:Int)<5),rfl,_,rfl,Ux (fun _=>?_) (fun _=>Uo ⟨ls0,rfl,Same.refl _,lb0⟩)⟩;refine⟨_,rfl,_,rfl,Fl,_,_,_,rfl,rfl,SqL.of j.hF,ed,d,kv,rfl,hdk,_,_,rfl,rfl,_,rfl,Ux (fun z=>?_) (fun _=>⟨ls0,rfl,Same.refl _,lb0⟩)⟩;have pos:0<fs.length:=by
     have:=Zx z;omega
    refine⟨_,rfl,_,rfl,Fl,_,_,_,rfl,rfl,SqL.of j.hF,ed,d,kv,rfl,.inl hdk,fun l nl=>?_⟩;rw[ff.kV];have ul:=zF (o:=.lst ((fs.map fun f=>Cc f.1).map V.str)) nl;obtain⟨p,hp,ep⟩:=vK (f:=V.str) (xs:=fs.map fun f=>Cc f.1) (i:=c / 10 % (kv.length:Int)) (VJ _ (Tm (kl▸pos)).2) (by rw[Q7,←kl];exact Va _ (Tm (kl▸pos)).1);obtain⟨g,hg,rfl⟩:=Zb.mp (Zm hp);refine⟨_,rfl,_,_,rfl,rfl,⟨by decide,by decide⟩,_,rfl,_,rfl,Fl,_,_,_,rfl,rfl,SqL.of (ul _ _ j.hF),ed,d,kv,rfl,ul _ _ hdk,_,_,rfl,rfl,(Tm (kl▸pos)).1,l,_,_,_,rfl,rfl,SqL.of zB,ep,g.1,rfl,ul,(gf.lab g hg).1,(gf.lab g hg).2.1,(gf.lab g hg).2.2.1⟩
   rintro σ' H9 ⟨ls,rfl,s9,lb⟩;have j:=j.ins s9;have hdk:=s9 _ _ hdk;have ff:=ff.same s9;clear s9 lb0 ls0;refine⟨fun σ' H'=>∃o lv,σ'=[some (.ref sa),some (.ref x),some (.ref R),some (.ref Fl),some (.ref Kn),some (.ref Hd),some (.int (1+(i:Int))),some (.int c),some (.int (c % 2)),some (.str (Cc ls)),some lv,o11,o12,o13]/\Same H9 H'/\LinV K H' o lv,?_,?_⟩
   ·refine⟨_,rfl,_,_,rfl,rfl,⟨by decide,by decide⟩,_,_,rfl,rfl,(by decide:(0:Int)<5),_,_,rfl,rfl,_,rfl,Ux (fun _=>⟨none,.non,rfl,Same.refl _,rfl⟩) (fun _=>?_)⟩;exact⟨_,rfl,_,_,rfl,rfl,⟨by decide,by decide⟩,_,rfl,fun p L H' s' hp ln _=>⟨some L,.ref p,rfl,s',⟨p,_,rfl,SqT.of hp,DtAll.strs _⟩,ln⟩⟩
   rintro σ' H10 ⟨o,lv,rfl,s10,hv⟩;have j:=j.ins s10;have hdk:=s10 _ _ hdk;have ff:=ff.same s10;have nr:=BE (tr.rise j.ok).1;have rl:(reads 5 S r).length=fs.length:=((Yz nr (xG gf.nd)).mpr rd).length_eq;have neS:∀{v:V},(!decide (v=v))=true->False:=fun{v} z=>by rw[Zf rfl]at z;cases z
   have jsl:=j.sl;have jkl:=j.kl;have jhl:=j.hl;clear s10;refine⟨fun σ' H'=>∃fv,σ'=[some (.ref sa),some (.ref x),some (.ref R),some (.ref Fl),some (.ref Kn),some (.ref Hd),some (.int (1+(i:Int))),some (.int c),some (.int (c % 2)),some (.str (Cc ls)),some lv,some fv,o12,o13]/\((Iq (reads 5 S r) ls o/\Off fp H10 H'/\ShAt P w K aC H' x fp (doneF S r ls o).1/\fv=.str (doneF S r ls o).2)\/(¬Iq (reads 5 S r) ls o/\Same H10 H'/\fv=.str (if o.isNone then"no fit" else"bad files"))),?_,?_⟩
   ·refine⟨_,rfl,_,rfl,_,rfl,R,_,_,_,rfl,rfl,SqL.of j.hR,er,_,rfl,_,rfl,x,fp,S,r,ls,Do,o,lv,rfl,j.sh,j.ok,tr,att,lb,hv,TY rl fl i61,(ao jsl i61).1,fun may H' of' sh'=>⟨_,rfl,.inl ⟨may,of',sh',rfl⟩⟩,fun may H' s'=>⟨_,rfl,.inr ⟨may,s',rfl⟩⟩⟩
   rintro σ' H11 ⟨fv,rfl,hfv⟩;refine⟨fun σ' H'=>∃S' DK DL ks' fv,σ'=[some (.ref sa),some (.ref x),some (.ref R),some (.ref Fl),some (.ref Kn),some (.ref Hd),some (.int (1+(i:Int))),some (.int c),some (.int (c % 2)),some (.str (Cc ls)),some lv,some fv,o12,o13]/\J P w K aC H H' x fp R Fl Kn Hd S' DK DL ks' hs (i+1),?_,?_⟩
   ·rcases hfv with⟨may,of11,sh11,rfl⟩|⟨may,s11,rfl⟩
    ·obtain⟨pkd,pld⟩:=PU j.ok tr att lb hv.ln (TY rl fl i61) (ao jsl i61).2 rd may;generalize eq:doneF S r ls o=q at pkd pld sh11 ⊢;obtain⟨T',eT',_⟩:=pkd.new;obtain⟨rowsq,atq⟩:=pkd.node;have okq:=pkd.ok;have trq:=pkd.tree;have rdq:=pkd.rd;rw[eT']at sh11 okq pld trq rdq atq;have nsq:=KQ j.sh.noseq;have j:=j.put (m:=i+1) of11 sh11 okq (Ji i) (nbQ pld jsl);have dfp:d∉fp:=fun z=>ndX (Za _ (Za _ (Za _ (Za _ z))));have hdk:=of11 _ _ dfp hdk;have ff:=ff.off nsq of11;have hv:=hv.off nsq of11;have hln:=hv.ln;have mayf:=(Bb rd).mp may;obtain⟨gm,lm⟩:=Hr gf lb hln mayf;refine⟨_,rfl,_,rfl,Fl,_,_,_,rfl,rfl,SqL.of j.hF,ed,_,rfl,_,rfl,d,ls,kv,fs,o,lv,rfl,hdk,ff,gf,lb,SC fl i61,hv,fun b H12 s12 hb=>?_⟩;rw[show b=true from hb.mpr mayf];have j:=j.ins s12;have hdk:=s12 _ _ hdk;have ff:=ff.same s12;have hv:=hv.same s12;refine⟨_,rfl,Um ?_⟩;refine⟨_,rfl,_,rfl,Fl,_,_,_,rfl,rfl,SqL.of j.hF,ed,_,rfl,_,rfl,d,ls,kv,fs,o,lv,rfl,hdk,ff,gf,lb.1,lb.2.2,SC fl i61,hv,fun d' kv' H13 s13 nd' hd' fd'=>?_⟩;have d'X:=j.ex nd';have j:=j.ins s13;clear hdk ff hv s13 s12 nd' hb;have mR:R∈R::Fl::Kn::Hd::fp:=Zc;have mF:Fl∈R::Fl::Kn::Hd::fp:=Za _ Zc;have mK:Kn∈R::Fl::Kn::Hd::fp:=Za _ (Za _ Zc);have eF:(dds.map V.ref).set (c % 2).toNat (V.ref d')=(dds.set (c % 2).toNat d').map V.ref:=List.map_set.symm;have eR:(rts.map V.str).set (c % 2).toNat (V.str q.2)=(rts.set (c % 2).toNat q.2).map V.str:=List.map_set.symm;have rk:RtOk K H13 (R::Fl::Kn::Hd::fp) (S++T') (i+1) q.2 d' (UT fs ls o):=⟨kv',rowsq,hd',d'X,fd',gm,nbm lm fl,trq,atq,rdq⟩;refine⟨_,rfl,_,rfl,Fl,_,_,_,rfl,rfl,j.hF,Hv m2.1 (by rw[Q7,j.ld];exact m2.2),?_⟩;rw[eF];have hR4:upd H13 Fl (.lst ((dds.set (c % 2).toNat d').map V.ref)) R=some (.lst (rts.map V.str)):=by rw[zH j.r1];exact j.hR
     refine⟨_,rfl,_,rfl,_,rfl,R,_,_,_,rfl,rfl,hR4,Hv m2.1 (by rw[Q7,j.lr];exact m2.2),?_⟩;rw[eR];have hF5:upd (upd H13 Fl (.lst ((dds.set (c % 2).toNat d').map V.ref))) R (.lst ((rts.set (c % 2).toNat q.2).map V.str)) Fl=some (.lst ((dds.set (c % 2).toNat d').map V.ref)):=by rw[zH (EA j.r1),zB]
     have hR5:=zB (H:=upd H13 Fl (.lst ((dds.set (c % 2).toNat d').map V.ref))) (a:=R) (o:=.lst ((rts.set (c % 2).toNat q.2).map V.str));have hK5:upd (upd H13 Fl (.lst ((dds.set (c % 2).toNat d').map V.ref))) R (.lst ((rts.set (c % 2).toNat q.2).map V.str)) Kn=some (.lst ks):=by rw[zH (EA j.r2),zH (EA j.r4)];exact j.hK
     have hH5:upd (upd H13 Fl (.lst ((dds.set (c % 2).toNat d').map V.ref))) R (.lst ((rts.set (c % 2).toNat q.2).map V.str)) Hd=some (.lst hs):=by rw[zH (EA j.r3),zH (EA j.r5)];exact j.hH
     have of5:Off (R::Fl::Kn::Hd::fp) H13 (upd (upd H13 Fl (.lst ((dds.set (c % 2).toNat d').map V.ref))) R (.lst ((rts.set (c % 2).toNat q.2).map V.str))):=((Off.refl _ _).upd mF).upd mR;have sh5:=BV (zs:=(rts.set (c % 2).toNat q.2).map V.str) (BV (zs:=(dds.set (c % 2).toNat d').map V.ref) j.sh j.hF) hR4;generalize upd (upd H13 Fl (.lst ((dds.set (c % 2).toNat d').map V.ref))) R (.lst ((rts.set (c % 2).toNat q.2).map V.str))=H15 at hF5 hR5 hK5 hH5 of5 sh5 ⊢;have ld5:(dds.set (c % 2).toNat d').length=2:=by rw[Ue];exact j.ld
     have lr5:(rts.set (c % 2).toNat q.2).length=2:=by rw[Ue];exact j.lr
     have ed5:Hc ((dds.set (c % 2).toNat d').map V.ref) (c % 2)=some (V.ref d'):=by
      obtain⟨y,hy,ey⟩:=vK (f:=V.ref) (xs:=dds.set (c % 2).toNat d') (i:=c % 2) m2.1 (by rw[ld5];exact m2.2);rw[Ve (by rw[j.ld];omega)]at hy;cases hy;exact ey
     refine⟨_,rfl,.inl ⟨rfl,_,SqL.of hK5⟩,_,rfl,_,rfl,_,rfl,Fl,_,_,_,rfl,rfl,SqL.of hF5,ed5,Uv 2,fun t' nt'=>?_⟩;have ut:=zF (o:=.tup [V.str q.2,V.ref d']) nt';have tK:=zK hK5 nt';have kl5:=j.kl;refine⟨Kn,ks,_,rfl,rfl,ut _ _ hK5,yS (ar kl5 i61),?_⟩;have o7:Off (R::Fl::Kn::Hd::fp) H13 (upd (upd H15 t' (.tup [V.str q.2,V.ref d'])) Kn (.lst (ks++[V.ref t']))):=(of5.trans (Off.of ut)).upd mK;have rk:=rk.off j.notup o7;refine⟨_,_,_,_,_,rfl,j.step0 o7 (BV (sh5.same ut) (ut _ _ hK5)) (Ze _) (by rw[zH j.r2];exact ut _ _ hR5) (by rw[zH j.r4];exact ut _ _ hF5) zB (by rw[zH (EA j.r6)];exact ut _ _ hH5) lr5 ld5 (fun k r1 d1 h1 h2=>?_) (fun v hv=>?_) (by rw[Zj];exact Ud _) (by rw[Zj];exact V8 jkl) (fun v hv=>.inl hv) j.hl⟩
     ·rw[List.getElem?_set]at h1 h2
      split at h1
      ·rename_i e;rw[Zy e]at h2
       split at h1
       ·cases h1
        split at h2
        ·cases h2;exact .inr ⟨_,rk⟩
        ·cases h2
       ·cases h1
      ·rename_i e;rw[ZA e]at h2;exact .inl ⟨h1,h2⟩
     ·rcases Zt.mp hv with h|h
      ·exact .inl h
      ·rw[Q8.mp h];exact .inr ⟨t',q.2,d',_,rfl,by rw[zH tK.symm,zB],rk⟩
    ·have j:=j.ins s11;have hdk:=s11 _ _ hdk;have ff:=ff.same s11;have hv:=hv.same s11;refine⟨_,rfl,_,rfl,Fl,_,_,_,rfl,rfl,SqL.of j.hF,ed,_,rfl,_,rfl,d,ls,kv,fs,o,lv,rfl,hdk,ff,gf,lb,SC fl i61,hv,fun b H12 s12 hb=>?_⟩;have hbf:b=false:=by
      cases b with
      |false=>rfl
      |true=>exact absurd ((Bb rd).mpr (hb.mp rfl)) may
     rw[hbf];refine⟨_,rfl,Uo ?_⟩;refine⟨_,rfl,Uv 2,fun l nl=>?_⟩;have ul:=zF (o:=.lst [V.str "bad files",V.str "no fit"]) nl;have j:=(j.ins s12).ins ul;have fin:∃S' DK DL ks' fv,[some (V.ref sa),some (.ref x),some (.ref R),some (.ref Fl),some (.ref Kn),some (.ref Hd),some (.int (1+(i:Int))),some (.int c),some (.int (c % 2)),some (.str (Cc ls)),some lv,some (.str (if o.isNone then"no fit" else"bad files")),o12,o13]=[some (.ref sa),some (.ref x),some (.ref R),some (.ref Fl),some (.ref Kn),some (.ref Hd),some (.int (1+(i:Int))),some (.int c),some (.int (c % 2)),some (.str (Cc ls)),some lv,some fv,o12,o13]/\J P w K aC H (upd H12 l (.lst [V.str "bad files",V.str "no fit"])) x fp R Fl Kn Hd S' DK DL ks' hs (i+1) :=
      ⟨_,_,_,_,_,rfl,j.step0 (Off.refl _ _) j.sh (Ji i) j.hR j.hF j.hK j.hH j.lr j.ld (fun _ _ _ h1 h2=>.inl ⟨h1,h2⟩) (fun _ h=>.inl h) j.kp (VW j.kl) (fun _ h=>.inl h) (VW j.hl)⟩
     cases o with
     |none =>
      have hv:lv=.non:=hv;subst hv;refine⟨_,rfl,rfl,.inr ⟨_,rfl,l,_,_,_,rfl,rfl,SqL.of zB,rfl,rfl,_,rfl,Ux (fun z=>(neS z).elim) (fun _=>fin)⟩⟩
     |some L =>
      obtain⟨p,xs,rfl,_⟩:=id hv.1;refine⟨_,rfl,rfl,.inr ⟨_,rfl,l,_,_,_,rfl,rfl,SqL.of zB,rfl,rfl,_,rfl,Ux (fun z=>(neS z).elim) (fun _=>fin)⟩⟩
   clear hfv;rintro σ' H20 ⟨S,rts,dds,ks,fv,rfl,j⟩;obtain⟨r,hr,er⟩:=vK (f:=V.str) (xs:=rts) (i:=c % 2) m2.1 (by rw[j.lr];exact m2.2);obtain⟨d,hd,ed⟩:=vK (f:=V.ref) (xs:=dds) (i:=c % 2) m2.1 (by rw[j.ld];exact m2.2);have jsl:=j.sl;have nfp:∀{d:Eh},d∉R::Fl::Kn::Hd::fp->d∉fp:=fun{d} n z=>n (Za _ (Za _ (Za _ (Za _ z))));refine⟨fun σ' H'=>σ'=[some (.ref sa),some (.ref x),some (.ref R),some (.ref Fl),some (.ref Kn),some (.ref Hd),some (.int (1+(i:Int))),some (.int c),some (.int (c % 2)),some (.str (Cc ls)),some lv,some fv,o12,o13]/\J P w K aC H H' x fp R Fl Kn Hd S rts dds ks hs (i+1),?_,?_⟩
   ·refine⟨_,rfl,_,_,rfl,rfl,⟨by decide,by decide⟩,_,_,rfl,rfl,(by decide:(0:Int)<13),rfl,_,rfl,Ux (fun _=>?_) (fun _=>Uo ⟨rfl,j⟩)⟩;obtain⟨fs,kv,Do,hdk,ndX,ff,gf,fl,tr,att,rd⟩:=j.rt _ r d hr hd;have wf:=gf.wt;obtain⟨pk,_⟩:=vH 3 (S:=S) (fs:=fs) j.ok gf (OB fl i61).2 (aq jsl wf fl i61);have eq:Us 4 S fs=(S,r):=(Xa j.ok tr att rd).again pk fun f=>Iff.rfl;refine⟨_,rfl,_,rfl,_,rfl,Fl,_,_,_,rfl,rfl,SqL.of j.hF,ed,x,d,fp,S,fs,kv,rfl,j.sh,j.ok,hdk,nfp ndX,ff,gf,(OB fl i61).2,aq jsl wf fl i61,fun H21 of21 sh21=>?_⟩;rw[eq]at sh21 ⊢;have j:=j.put0 of21 sh21;exact⟨_,rfl,_,rfl,R,_,_,_,rfl,rfl,SqL.of j.hR,er,rfl,_,rfl,Ux (fun z=>(neS z).elim) (fun _=>⟨rfl,j⟩)⟩
   clear j;rintro σ' H22 ⟨rfl,j⟩;obtain⟨fs,kv,Do,hdk,ndX,ff,gf,fl,tr,att,rd⟩:=j.rt _ r d hr hd;have kp:=j.kp;have k0:0<=(c / 3+(1+(i:Int))) % (ks.length:Int):=VJ _ (Tm kp).2;have k1:(c / 3+(1+(i:Int))) % (ks.length:Int)<(ks.length:Int):=Va _ (Tm kp).1;obtain⟨v,hv⟩:∃v,ks[((c / 3+(1+(i:Int))) % (ks.length:Int)).toNat]?=some v:=⟨_,Zn (nbt k0 k1)⟩;have ev:Hc ks ((c / 3+(1+(i:Int))) % (ks.length:Int))=some v:=by
    unfold Hc;rwa[Hv k0 k1]
   obtain⟨t2,r2,d2',fs2,rfl,ht2,kv2,rows2,hdk2,nd2X,ff2,gf2,fl2,tr2,att2,rd2⟩:=j.kn v (Zm hv);refine⟨_,rfl,_,rfl,_,_,rfl,rfl,⟨by decide,by decide⟩,_,rfl,_,_,rfl,rfl,_,rfl,Kn,_,rfl,.inl (SqL.of j.hK),_,_,rfl,rfl,(Tm kp).1,Kn,_,_,_,rfl,rfl,SqL.of j.hK,ev,?_⟩;refine⟨_,rfl,_,rfl,_,rfl,R,_,_,_,rfl,rfl,SqL.of j.hR,er,_,rfl,_,rfl,Fl,_,_,_,rfl,rfl,SqL.of j.hF,ed,x,d,fp,S,r,fs,kv,Do,rfl,j.sh,j.ok,tr,att,rd,hdk,ff,gf,(OB fl i61).1,fun H23 s23=>⟨true,rfl,IG ?_⟩⟩;have j:=j.ins s23;have ht2:=s23 _ _ ht2;refine⟨_,rfl,_,rfl,t2,_,_,_,rfl,rfl,SqT.of ht2,rfl,_,rfl,t2,_,_,_,rfl,rfl,SqT.of ht2,rfl,x,d2',fp,S,r2,fs2,kv2,rows2,rfl,j.sh,j.ok,tr2,att2,rd2,s23 _ _ hdk2,ff2.same s23,gf2,(OB fl2 i61).1,fun H24 s24=>⟨true,rfl,IG ?_⟩⟩;have j:=j.ins s24;clear ht2 hdk2 ff2 s23 s24 hdk ff;obtain⟨ra,rb,rfl⟩:=Sy j.lr;obtain⟨da,db,rfl⟩:=Sy j.ld;obtain⟨fa,ka,rowa,ha,naX,ffa,gfa,fla,tra,ata,rda⟩:=j.rt 0 ra da rfl rfl;obtain⟨fb,kb,rowb,hb,nbX,ffb,gfb,flb,trb,atb,rdb⟩:=j.rt 1 rb db rfl rfl;have hts:=X2 ffb gfb ffa fun f hf=>⟨(gfa.lab f hf).1,(gfa.lab f hf).2.2.1⟩;have eqb:decide (V.str ra=V.str rb)=(ka.length==kb.length&&decide (∀f∈fa,f∈fb)):=by
    rw[ZZ,Zv,Iy ffa ffb gfb (xG gfa.nd),V.str.injEq];exact FD (Xa j.ok tra ata rda) (Xa j.ok trb atb rdb) (Zs S).symm
   refine⟨_,rfl,R,_,_,_,rfl,rfl,SqL.of j.hR,rfl,_,rfl,R,_,_,_,rfl,rfl,SqL.of j.hR,rfl,rfl,_,rfl,Fl,_,_,_,rfl,rfl,SqL.of j.hF,rfl,_,rfl,Fl,_,_,_,rfl,rfl,SqL.of j.hF,rfl,da,db,ka,kb,_,rfl,rfl,.inl ha,.inl hb,hts,rfl,_,rfl,Ux (fun z=>?_) (fun _=>?_)⟩
   ·exfalso;rw[eqb]at z;exact neS z
   clear eqb hts ha hb ffa ffb;have pm:(reads 5 S r).Perm fs:=(Yz (BE (tr.rise j.ok).1) (xG gf.nd)).mpr rd;have rl:(reads 5 S r).length=fs.length:=pm.length_eq;have lns:∀f∈reads 5 S r,Uz f.2:=fun f hf=>(gf.lab f ((rd f).mp hf)).2.2.2;have nmo:∀p∈S.map En.nm,Ep p=true:=fun p hp=>by
    obtain⟨e,he,rfl⟩:=Zb.mp hp;exact(j.ok.nm he).ok
   refine⟨fun σ' H'=>∃(e25 l26 l27:Eh) (DV:Dl),σ'=[some (.ref sa),some (.ref x),some (.ref R),some (.ref Fl),some (.ref Kn),some (.ref Hd),some (.int (1+(i:Int))),some (.int c),some (.int (c % 2)),some (.str (Cc ls)),some lv,some fv,some (.ref t2),some (.ref l27)]/\J P w K aC H H' x fp R Fl Kn Hd S [ra,rb] [da,db] ks hs (i+1)/\H' e25=some (.dK DV)/\FsAt K H' (reads 5 S r) DV/\H' l26=some (.lst ((S.map En.nm).map V.str))/\H' l27=some (.lst [V.ref e25,V.ref l26])/\e25∉R::Fl::Kn::Hd::fp/\l26∉R::Fl::Kn::Hd::fp,?_,?_⟩
   ·refine⟨_,rfl,_,rfl,_,rfl,R,_,_,_,rfl,rfl,SqL.of j.hR,er,x,fp,S,r,rfl,j.sh,j.ok,.inl ⟨Do,att,tr,by rw[rl];exact(OB fl i61).2,lns,fun e25 DV H25 s25 ne25 he25 fe25=>?_⟩⟩;have xe:=j.ex ne25;have j:=j.ins s25;obtain⟨ix,i1,i2,i3,hix⟩:=uN j.sh;have enm:(S.map fun e=>V.str e.nm)=(S.map En.nm).map V.str:=by rw[ZB];rfl
    refine⟨_,rfl,x,ix,_,rfl,hix,rfl,x,fp,S,rfl,j.sh,fun l26 nl26=>?_⟩;rw[enm];have xl:=j.ex nl26;have v26:=zF (o:=.lst ((S.map En.nm).map V.str)) nl26;refine⟨Uv 2,fun l27 nl27=>?_⟩;have v27:=zF (o:=.lst [V.ref e25,V.ref l26]) nl27;exact⟨e25,l26,l27,DV,rfl,(j.ins v26).ins v27,v27 _ _ (v26 _ _ he25),(fe25.same v26).same v27,v27 _ _ zB,zB,xe,xl⟩
   clear j;rintro σ' H27 ⟨e25,l26,l27,DV,rfl,j,he27,fe27,hl27,ht,xe,xl⟩;refine⟨_,rfl,.inl ⟨rfl,_,SqL.of j.hH⟩,_,rfl,l27,_,_,_,rfl,rfl,SqL.of ht,rfl,_,rfl,l27,_,_,_,rfl,rfl,SqL.of ht,rfl,e25,DV,rfl,.inl he27,fun e28 ne28=>?_⟩;have xe2:=j.ex ne28;have v28:=zF (o:=.dK DV) ne28;have ht28:=v28 _ _ ht;have hl28:=v28 _ _ hl27;have j:=j.ins v28;refine⟨_,rfl,l27,_,_,_,rfl,rfl,SqL.of ht28,rfl,_,rfl,l27,_,_,_,rfl,rfl,SqL.of ht28,rfl,l26,_,rfl,.inl (SqL.of hl28),fun l29 nl29=>?_⟩;have xl2:=j.ex nl29;have v29:=zF (o:=.lst ((S.map En.nm).map V.str)) nl29;have j:=j.ins v29;refine⟨Uv 4,fun h30 nh30=>?_⟩;have xh:=j.ex nh30;have v30:=zF (o:=.lst [V.ref e25,V.ref e28,V.ref l26,V.ref l29]) nh30;have j:=j.ins v30;have hHd:=j.hH;have hhl:=j.hl;have he30:=v30 _ _ (v29 _ _ (v28 _ _ he27));have he31:=v30 _ _ (v29 _ _ (zB (H:=H27) (a:=e28) (o:=.dK DV)));have hl30:=v30 _ _ (v29 _ _ hl28);have hl31:=v30 _ _ (zB (H:=upd H27 e28 (.dK DV)) (a:=l29) (o:=.lst ((S.map En.nm).map V.str)));have hh30:=zB (H:=upd (upd H27 e28 (.dK DV)) l29 (.lst ((S.map En.nm).map V.str))) (a:=h30) (o:=.lst [V.ref e25,V.ref e28,V.ref l26,V.ref l29]);have fe30:=fe27.same ((v28.trans v29).trans v30);generalize upd (upd (upd H27 e28 (.dK DV)) l29 (.lst ((S.map En.nm).map V.str))) h30 (.lst [V.ref e25,V.ref e28,V.ref l26,V.ref l29])=H30 at j hHd he30 he31 hl30 hl31 hh30 fe30 ⊢;refine⟨Hd,hs,_,rfl,rfl,hHd,yS (ar (VW hhl) i61),?_⟩;have mH:Hd∈R::Fl::Kn::Hd::fp:=Za _ (Za _ (Za _ Zc));have of31:Off (R::Fl::Kn::Hd::fp) H30 (upd H30 Hd (.lst (hs++[V.ref h30]))):=(Off.refl _ _).upd mH;have ho:HeOk K H30 (R::Fl::Kn::Hd::fp) (i+1) (.ref h30):=⟨h30,e25,e28,l26,l29,DV,reads 5 S r,S.map En.nm,rfl,hh30,xh,xe,xe2,xl,xl2,he30,he31,fe30,M3 gf pm,by rw[rl];exact fl,hl30,hl31,nmo⟩;refine hD _ _ ⟨S,[ra,rb],[da,db],ks,hs++[V.ref h30],_,_,_,_,_,_,_,_,rfl,j.step0 of31 (BV j.sh hHd) (Ze _) (by rw[zH j.r3];exact j.hR) (by rw[zH j.r5];exact j.hF) (by rw[zH j.r6];exact j.hK) zB rfl rfl (fun _ _ _ h1 h2=>.inl ⟨h1,h2⟩) (fun _ h=>.inl h) j.kp j.kl (fun v hv=>?_) (by rw[Zj];exact V8 jhl)⟩
   rcases Zt.mp hv with h|h
   ·exact .inl h
   ·rw[Q8.mp h];exact .inr (ho.off j.notup of31)
  ·rintro σ H7 ⟨S,rts,dds,ks,hs,o6,o7,o8,o9,o10,o11,o12,o13,rfl,j⟩;have jhl:=j.hl;have jn:(((ns.map V.int).length:Int)-1).toNat<=62:=by rw[Q7];omega
   refine⟨_,rfl,Hd,rfl,⟨_,SqL.of j.hH⟩,jU (K:=K) (a:=Hd) (xs:=hs) (fun i zs σ H'=>∃o,σ=[o]/\H'=H7/\zs.length=i/\∀z∈zs,z=V.bl true) ⟨none,rfl,rfl,rfl,fun z hz=>(nomatch hz)⟩ (le_line (by omega)) ?_ ?_ ?_⟩
   ·rintro i zs σ H' hi ⟨o,rfl,rfl,zl,_⟩;exact⟨SqL.of j.hH,by omega⟩
   ·rintro i v zs σ H' hv ⟨o,rfl,rfl,zl,zt⟩;obtain⟨q,e,e2,l,l2,kv,fs,ys,rfl,hq,_,_,_,_,_,he,he2,ff,gf,fl,hl,hl2,so⟩:=j.he v (Zm hv);have hts:=X2 ff gf ff fun f hf=>⟨(gf.lab f hf).1,(gf.lab f hf).2.2.1⟩;have eqd:=(Iy ff ff gf (xG gf.nd)).mpr fun f=>Iff.rfl;refine⟨_,rfl,q,_,_,_,rfl,rfl,SqL.of hq,rfl,_,rfl,q,_,_,_,rfl,rfl,SqL.of hq,rfl,e,e2,kv,kv,_,rfl,rfl,.inl he,.inl he2,hts,_,rfl,?_⟩;rw[eqd];refine Um ⟨_,rfl,q,_,_,_,rfl,rfl,SqL.of hq,rfl,_,rfl,q,_,_,_,rfl,rfl,SqL.of hq,rfl,.list (ys.map .str),.list (ys.map .str),⟨l,_,rfl,SqL.of hl,DtAll.strs _⟩,⟨l2,_,rfl,SqL.of hl2,DtAll.strs _⟩,(yU so).1,(yU so).1,?_⟩;rw[show ER (.list (ys.map .str)) (.list (ys.map .str))=true from(qJ ys ys).trans (Zf rfl)];refine⟨_,rfl,rfl,by rw[Zj,zl];rfl,fun z hz=>?_⟩
    rcases Zt.mp hz with y|y
    ·exact zt z y
    ·exact Q8.mp y
   ·rintro zs σ H' ⟨o,rfl,rfl,zl,zt⟩ p5 n5;have ey:zs=(EL zs.length true).map V.bl:=by
     rw[J9];exact JJ.mpr ⟨rfl,zt⟩
    refine⟨p5,EL zs.length true,rfl,SqL.of (by rw[zB];exact congrArg (fun z=>some (HO.lst z)) ey),?_⟩;have ea:(EL zs.length true).all id=true:=ZI.mpr fun b hb=>by rw[Jn hb];rfl
    rw[ea];exact kQ _
end Cb
end
end An09
/-! the evaluating tactics look for a twin of each of these constants under these names;names that are taken keep them from laying one,for the twins' equations make the compiled file too large -/
namespace PySem.W.Fast
theorem tw17557193576596385746:True:=trivial
theorem tw17268472737355292079:True:=trivial
theorem tw4294694631973427886:True:=trivial
theorem tw4484546007697888884:True:=trivial
theorem tw12665914245110543923:True:=trivial
theorem tw15429689942824127219:True:=trivial
theorem tw11992831249595746116:True:=trivial
theorem tw16088972213959474576:True:=trivial
theorem tw5727320335769285587:True:=trivial
theorem tw1264710997687439907:True:=trivial
theorem tw2981544209620545330:True:=trivial
theorem tw9629931314396827941:True:=trivial
theorem tw9455782912408022967:True:=trivial
theorem tw14480458466347241681:True:=trivial
theorem tw7448683352847281872:True:=trivial
theorem tw12168717522021621160:True:=trivial
theorem tw16483933175924748110:True:=trivial
theorem tw2984031786769971818:True:=trivial
theorem tw6639389808473852242:True:=trivial
theorem tw6472081564251372797:True:=trivial
theorem tw8687217856712297832:True:=trivial
theorem tw18433750001264934776:True:=trivial
theorem tw1766101663341324376:True:=trivial
theorem tw12673643343447583629:True:=trivial
theorem tw400559712096271147:True:=trivial
theorem tw13614449128553800818:True:=trivial
theorem tw15680575785410408041:True:=trivial
theorem tw13665192189852562477:True:=trivial
theorem tw10080721372433964177:True:=trivial
theorem tw18408996380956261477:True:=trivial
theorem tw9550074394718006009:True:=trivial
theorem tw6915787302739792779:True:=trivial
theorem tw4479129455104895684:True:=trivial
theorem tw6427048837341456728:True:=trivial
theorem tw12960571578207980071:True:=trivial
theorem tw5420754562275813233:True:=trivial
theorem tw14863891635773646621:True:=trivial
theorem tw9734816839574258939:True:=trivial
theorem tw11417067336554670089:True:=trivial
theorem tw8637359442209136317:True:=trivial
theorem tw12594047842326296164:True:=trivial
theorem tw17617731078829898017:True:=trivial
theorem tw6793729710736151037:True:=trivial
theorem tw8878991844311392708:True:=trivial
theorem tw2856470899033259336:True:=trivial
theorem tw4334842984716590554:True:=trivial
theorem tw4496404365697191585:True:=trivial
theorem tw1166790639822208159:True:=trivial
theorem tw7790364838350005201:True:=trivial
theorem tw2014844425085154408:True:=trivial
theorem tw14729400191883388409:True:=trivial
theorem tw1754013371411263780:True:=trivial
theorem tw2252123378883068893:True:=trivial
theorem tw12610993124190091278:True:=trivial
theorem tw4428647564869005784:True:=trivial
theorem tw4740865385747616438:True:=trivial
theorem tw18053287266256434194:True:=trivial
theorem tw17290768354272762909:True:=trivial
theorem tw2496184904138540184:True:=trivial
theorem tw3142228344341215188:True:=trivial
theorem tw7749165155728051813:True:=trivial
theorem tw7730741240128496687:True:=trivial
theorem tw11263226058469027281:True:=trivial
theorem tw13397558998356566599:True:=trivial
theorem tw10278639116152631804:True:=trivial
theorem tw16131372394133538132:True:=trivial
theorem tw37205818280259826:True:=trivial
theorem tw13606354390801345148:True:=trivial
theorem tw6733140605701240516:True:=trivial
theorem tw5710720252592319400:True:=trivial
theorem tw372303253836483341:True:=trivial
theorem tw11703279413559420189:True:=trivial
theorem tw6301664672469237274:True:=trivial
theorem tw11972534212968477717:True:=trivial
theorem tw4370343634359472142:True:=trivial
theorem tw14057708489507900811:True:=trivial
theorem tw10045545432402860354:True:=trivial
theorem tw8032419879574088475:True:=trivial
theorem tw16138396736152000380:True:=trivial
theorem tw890561457062139399:True:=trivial
theorem tw8240815214625873577:True:=trivial
theorem tw3379051150991270425:True:=trivial
theorem tw1136148924224402138:True:=trivial
theorem tw2810869656932919200:True:=trivial
theorem tw1954640026705848138:True:=trivial
theorem tw9515503384451664496:True:=trivial
theorem tw187265109173318133:True:=trivial
theorem tw2160338323714456901:True:=trivial
theorem tw11120147130849515887:True:=trivial
theorem tw11582083618823738640:True:=trivial
theorem tw7553884411337148259:True:=trivial
theorem tw2748033795577738004:True:=trivial
theorem tw5097152605631412944:True:=trivial
theorem tw91933922161511988:True:=trivial
theorem tw11950734225541572823:True:=trivial
theorem tw14740642409603045556:True:=trivial
theorem tw5627895940599203261:True:=trivial
theorem tw4827669032036798703:True:=trivial
theorem tw6418251088454392943:True:=trivial
theorem tw12499997117777767333:True:=trivial
theorem tw9143692777274104563:True:=trivial
theorem tw1781860404287147621:True:=trivial
theorem tw12927673723761397794:True:=trivial
theorem tw16627682201457706970:True:=trivial
theorem tw5726343354519402008:True:=trivial
theorem tw232576401116547661:True:=trivial
theorem tw4689891083783702589:True:=trivial
theorem tw14238943327974691771:True:=trivial
theorem tw16540087944930268179:True:=trivial
theorem tw2516497334717483628:True:=trivial
theorem tw12235913818076530268:True:=trivial
theorem tw17501823345672004932:True:=trivial
theorem tw16492520847592997237:True:=trivial
theorem tw16809017417414214237:True:=trivial
theorem tw11672591910696639294:True:=trivial
theorem tw12477311890679942636:True:=trivial
theorem tw2841640076620053928:True:=trivial
theorem tw16663248746530647203:True:=trivial
theorem tw3824544734747077738:True:=trivial
theorem tw1107770540679538670:True:=trivial
theorem tw15856617986325898545:True:=trivial
theorem tw2409346027114435305:True:=trivial
theorem tw16758526494575890382:True:=trivial
theorem tw11469400154735919626:True:=trivial
theorem tw15280869193935333004:True:=trivial
theorem tw8971333025921285240:True:=trivial
theorem tw860084231669195056:True:=trivial
theorem tw10414225782937816937:True:=trivial
theorem tw11129468065939893817:True:=trivial
theorem tw16301104733166485813:True:=trivial
theorem tw4144572400738593983:True:=trivial
theorem tw11769986694780276088:True:=trivial
theorem tw13554953687411604376:True:=trivial
theorem tw14575984805630840856:True:=trivial
theorem tw2564279043063590261:True:=trivial
theorem tw1349574913272111935:True:=trivial
theorem tw13633908579201931018:True:=trivial
theorem tw3917403053153461075:True:=trivial
theorem tw12820725943847681256:True:=trivial
theorem tw10905378878386981611:True:=trivial
theorem tw936727057926434792:True:=trivial
theorem tw16880714887933858611:True:=trivial
theorem tw18312804999811119196:True:=trivial
theorem tw18340024401538251963:True:=trivial
theorem tw4154458412815453842:True:=trivial
theorem tw2062251390657391475:True:=trivial
theorem tw11948713729378582475:True:=trivial
theorem tw747438326692476547:True:=trivial
theorem tw1574370127942958309:True:=trivial
theorem tw11977527166217077438:True:=trivial
theorem tw8721435579491958903:True:=trivial
theorem tw17125651706669885240:True:=trivial
theorem tw11784464662144041822:True:=trivial
theorem tw15998935186765422877:True:=trivial
theorem tw2314614364484456354:True:=trivial
theorem tw15345604922623699812:True:=trivial
theorem tw5419822450967563923:True:=trivial
theorem tw18403368863660561733:True:=trivial
theorem tw15563352990246342459:True:=trivial
theorem tw15297890969594265309:True:=trivial
theorem tw2038320997347158270:True:=trivial
theorem tw3944211089461125967:True:=trivial
theorem tw16543122975387512104:True:=trivial
theorem tw10736375756169623121:True:=trivial
theorem tw8794566294644996928:True:=trivial
theorem tw15753963982704158459:True:=trivial
theorem tw3676322091935085019:True:=trivial
theorem tw17028750579055593518:True:=trivial
theorem tw11674494640594724220:True:=trivial
theorem tw8046690822548257738:True:=trivial
theorem tw975014017824053234:True:=trivial
theorem tw6300125764835195914:True:=trivial
theorem tw3437458276550377412:True:=trivial
theorem tw8300993599948808672:True:=trivial
theorem tw5880607441665507659:True:=trivial
theorem tw5131664052139433227:True:=trivial
theorem tw7462055371668532812:True:=trivial
theorem tw14782853966156206925:True:=trivial
theorem tw14742524784258170848:True:=trivial
theorem tw15835699113730695990:True:=trivial
theorem tw7647524342453136517:True:=trivial
theorem tw11192028589046336977:True:=trivial
theorem tw5728097591540052510:True:=trivial
theorem tw11185893932849614838:True:=trivial
theorem tw7910817346569671037:True:=trivial
theorem tw9759315110934210048:True:=trivial
theorem tw15993066790829008046:True:=trivial
theorem tw14852235102504584103:True:=trivial
theorem tw8888843063494655015:True:=trivial
theorem tw2714267863086298104:True:=trivial
theorem tw11276669547391657957:True:=trivial
theorem tw6546768760194579098:True:=trivial
theorem tw16686442194025756191:True:=trivial
theorem tw13186466331422216749:True:=trivial
theorem tw10006388520511517265:True:=trivial
theorem tw6509594873166899445:True:=trivial
theorem tw4122212171983022127:True:=trivial
theorem tw12209736688919048255:True:=trivial
theorem tw12236620847565268572:True:=trivial
theorem tw14117508808640700367:True:=trivial
theorem tw2580974342335892160:True:=trivial
theorem tw13853495357762375871:True:=trivial
theorem tw16222750031776704107:True:=trivial
theorem tw8545763800466415371:True:=trivial
theorem tw13386140231795142551:True:=trivial
theorem tw7103565525139285382:True:=trivial
theorem tw4485379281197172294:True:=trivial
theorem tw14154975490968319612:True:=trivial
theorem tw17535044911368499341:True:=trivial
theorem tw10496345111705588066:True:=trivial
theorem tw4119338652311157102:True:=trivial
theorem tw2489857569437399160:True:=trivial
theorem tw10668725396975700705:True:=trivial
theorem tw17283732512595064437:True:=trivial
theorem tw11851535973458298895:True:=trivial
theorem tw3536117728508773606:True:=trivial
theorem tw6987374771640733831:True:=trivial
theorem tw7814843896461534144:True:=trivial
theorem tw18266013027035151042:True:=trivial
theorem tw1420933064562926946:True:=trivial
theorem tw9694415935877070936:True:=trivial
theorem tw12095085419076099589:True:=trivial
theorem tw6793501309113636452:True:=trivial
theorem tw14677634422214734964:True:=trivial
theorem tw4522307980577815075:True:=trivial
theorem tw17746059797198416846:True:=trivial
theorem tw451084592379046191:True:=trivial
theorem tw10476107951707404276:True:=trivial
theorem tw15369444196528097750:True:=trivial
theorem tw14355935151914004586:True:=trivial
theorem tw5088551785249675032:True:=trivial
theorem tw13667544974531912476:True:=trivial
theorem tw3705226770323159953:True:=trivial
theorem tw7030072565915476079:True:=trivial
theorem tw13612688937626043640:True:=trivial
theorem tw9463980357460154550:True:=trivial
theorem tw4601742384559241402:True:=trivial
theorem tw4807335676984429793:True:=trivial
theorem tw6734238751168690863:True:=trivial
theorem tw15695196875263844812:True:=trivial
theorem tw12772317891033737784:True:=trivial
theorem tw2127979163083532698:True:=trivial
theorem tw2984738234621090237:True:=trivial
theorem tw3909557141577511690:True:=trivial
theorem tw11127195484081231585:True:=trivial
theorem tw946044505451552588:True:=trivial
theorem tw1730121081251341843:True:=trivial
theorem tw11977695441451456599:True:=trivial
theorem tw608372561597053976:True:=trivial
theorem tw5626834054796738861:True:=trivial
theorem tw14529919576758298900:True:=trivial
theorem tw11012846631215754021:True:=trivial
theorem tw12513124102577149196:True:=trivial
theorem tw4182002471885781448:True:=trivial
theorem tw18304301063127374864:True:=trivial
theorem tw18413163752107895892:True:=trivial
theorem tw7249376796092104814:True:=trivial
theorem tw1520430059092534593:True:=trivial
theorem tw11554875050562091991:True:=trivial
theorem tw3988321502986657538:True:=trivial
theorem tw11756102632019266837:True:=trivial
theorem tw1524656817939778611:True:=trivial
theorem tw3385249315868046052:True:=trivial
theorem tw7566578856280099244:True:=trivial
theorem tw16412814259755515389:True:=trivial
theorem tw5987132206914025430:True:=trivial
theorem tw3588603108551263106:True:=trivial
theorem tw2170117515592510985:True:=trivial
theorem tw11091379307144606023:True:=trivial
theorem tw15472982533623507828:True:=trivial
theorem tw6609607105770836842:True:=trivial
theorem tw6911764171583896070:True:=trivial
theorem tw12573380884227014609:True:=trivial
theorem tw15023019613661186411:True:=trivial
theorem tw2562739830390911485:True:=trivial
theorem tw14687300258896245630:True:=trivial
theorem tw13437931058785455498:True:=trivial
theorem tw10986300517160080881:True:=trivial
theorem tw12741125600496598229:True:=trivial
theorem tw17911999123774311709:True:=trivial
theorem tw14006790159188754826:True:=trivial
theorem tw17939810802921673547:True:=trivial
theorem tw10799182407676070792:True:=trivial
theorem tw11621090756611716217:True:=trivial
theorem tw9367360451540487560:True:=trivial
theorem tw8615164809734000988:True:=trivial
theorem tw17861406872529181899:True:=trivial
theorem tw5725149906733214153:True:=trivial
theorem tw16666577666830062632:True:=trivial
theorem tw15127826854461667622:True:=trivial
theorem tw18337480167400649760:True:=trivial
theorem tw4627259941427066106:True:=trivial
theorem tw78183877754589896:True:=trivial
theorem tw2718564674396060761:True:=trivial
theorem tw3560385101431939673:True:=trivial
theorem tw12364358466734260220:True:=trivial
theorem tw12314478491983422429:True:=trivial
theorem tw1310778381812343637:True:=trivial
theorem tw3899980228037634009:True:=trivial
theorem tw2376835880658675350:True:=trivial
theorem tw14755645531594092171:True:=trivial
theorem tw11252158982501831739:True:=trivial
theorem tw11875380127201693788:True:=trivial
theorem tw16808324806500592860:True:=trivial
theorem tw10757550611876039990:True:=trivial
theorem tw18297212119746278960:True:=trivial
theorem tw6619322855412210046:True:=trivial
theorem tw18351492820745283147:True:=trivial
theorem tw11611504471937539641:True:=trivial
theorem tw14880950958511180093:True:=trivial
theorem tw10148339891240281233:True:=trivial
theorem tw1344608217496002287:True:=trivial
theorem tw11457802545984851660:True:=trivial
theorem tw6430009249481142644:True:=trivial
theorem tw14219649885946128735:True:=trivial
theorem tw9523508196806234459:True:=trivial
theorem tw1249933174570555367:True:=trivial
theorem tw6582164585842201730:True:=trivial
theorem tw8823560693438713866:True:=trivial
theorem tw12305020956014863508:True:=trivial
theorem tw3010070725380751264:True:=trivial
theorem tw5623382634006845342:True:=trivial
theorem tw3737241609337564686:True:=trivial
theorem tw8769041212587005997:True:=trivial
theorem tw5498662770782260322:True:=trivial
theorem tw1976215711333054433:True:=trivial
theorem tw4063675314972151067:True:=trivial
theorem tw11211584063153932078:True:=trivial
theorem tw3324288944429444838:True:=trivial
theorem tw8680498565936598447:True:=trivial
theorem tw17879063555094261726:True:=trivial
end PySem.W.Fast
namespace An09
open PySem L2 An
theorem kd_of {P:Ei}{w:Em}{K:Cd}{a:Eh}{t1 u1 t2 u2 t3 u3:Tok}{n:Nat}(h:K.lookup a=some { cls:=.type "dict",data:=.dict #[⟨LK w.params "leaf",.str "leaf" t1,.str "L" u1⟩,⟨LK w.params "tree",.str "tree" t2,.str "T" u2⟩,⟨LK w.params "note",.str "note" t3,.str "N" u3⟩] n }) :
  KD P w K a xQ:=by
 intro hp X;refine⟨[(Er "leaf",.str "L" u1),(Er "tree",.str "T" u2),(Er "note",.str "N" u3)],.cons ⟨rfl,u1,rfl⟩ (.cons ⟨rfl,u2,rfl⟩ (.cons ⟨rfl,u3,rfl⟩ .nil)),_,_,n,X a _ h,⟨rfl,rfl,rfl⟩,rfl,?_,?_,?_⟩
 ·intro e he;have he:e∈[(⟨LK w.params "leaf",.str "leaf" t1,.str "L" u1⟩:LZ),⟨LK w.params "tree",.str "tree" t2,.str "T" u2⟩,⟨LK w.params "note",.str "note" t3,.str "N" u3⟩]:=by simpa using he
  rcases Zi.mp he with z|z
  ·subst z;exact⟨Er "leaf",qC _ t1,rfl⟩
  ·rcases Zi.mp z with z|z
   ·subst z;exact⟨Er "tree",qC _ t2,rfl⟩
   ·rw[Q8.mp z];exact⟨Er "note",qC _ t3,rfl⟩
 ·exact .cons (qC _ t1) rfl (.cons (qC _ t2) rfl (.cons (qC _ t3) rfl .nil))
 ·show([Er "leaf",Er "tree",Er "note"]:List Key).Nodup
  decide +kernel
def GF (K:Cd)(x:Str)(st:EI)(f:Eh):Prop:=Ey K Et x=some (some (.ref f))/\∃(oc:Eg) (od an:Option Eh) (sl:Array Dc) (kV dc pm cd ct:Eg),K.lookup f=some ⟨oc,od,.func (E6 x x (x8 st) (xS st) (zG st) .none kV dc pm an cd ct),sl⟩/\Lz K cd x=true/\ES K (.ref f)=true
def MF (K:Cd)(C:Eh)(x q:Str)(st:EI)(f:Eh):Prop:=EH K (.ref C) x=some (some (.ref f))/\Mh K (.ref f)=true/\∃(oc:Eg) (od an:Option Eh) (sl:Array Dc) (kV dc pm cd ct:Eg),K.lookup f=some ⟨oc,od,.func (E6 x q (x8 st) (xS st) (zG st) .none kV dc pm an cd ct),sl⟩/\Lz K cd q=true/\ES K (.ref f)=true
section
variable {P:Ei}{w:Em}{K:Cd}{h:Ez}{mg:Str->Dc}{k:Nat}{x q:Str}{st:EI}{f C:Eh}{ps:Da}{sp:Sp}{oc:Eg}{od an:Option Eh}{sl:Array Dc}{kV dc pm cd ct:Eg}
theorem GF.mk (a:Ey K Et x=some (some (.ref f)))(l:K.lookup f=some ⟨oc,od,.func (E6 x x (x8 st) (xS st) (zG st) .none kV dc pm an cd ct),sl⟩)(c:Lz K cd x=true)(k:ES K (.ref f)=true):GF K x st f:=⟨a,_,_,_,_,_,_,_,_,_,l,c,k⟩
theorem MF.mk (a:EH K (.ref C) x=some (some (.ref f)))(i:Mh K (.ref f)=true)(l:K.lookup f=some ⟨oc,od,.func (E6 x q (x8 st) (xS st) (zG st) .none kV dc pm an cd ct),sl⟩)(c:Lz K cd q=true)(k:ES K (.ref f)=true):MF K C x q st f:=⟨a,i,_,_,_,_,_,_,_,_,_,l,c,k⟩
abbrev BA (x q:Str)(st:EI)(ps:Da):Prop:=∀(kV doc pm:Eg) (an:Option Eh) (cdv ct:Eg) (us:Db),us.length=ps.length->bindArgs (E6 x q (x8 st) (xS st) (zG st) .none kV doc pm an cdv ct) ⟨us,[]⟩=Lx (ps.zip us)
abbrev BX (x q:Str)(st:EI)(ps:Da)(kV doc pm:Eg)(an:Option Eh)(cdv ct:Eg)(us:Db):Prop:=bindArgs (E6 x q (x8 st) (xS st) (zG st) .none kV doc pm an cdv ct) ⟨us,[]⟩=Lx (ps.zip us)
theorem Tt (h:∀kV i j an c' ct a,BX x q st ps kV i j an c' ct [a])(l:ps.length=1):BA x q st ps:=fun kV i j an c' ct us z=>match us,(z.trans l) with|[a],_=>h kV i j an c' ct a
theorem Tu (h:∀kV i j an c' ct a b,BX x q st ps kV i j an c' ct [a,b])(l:ps.length=2):BA x q st ps:=fun kV i j an c' ct us z=>match us,(z.trans l) with|[a,b],_=>h kV i j an c' ct a b
theorem Tv (h:∀kV i j an c' ct a b c,BX x q st ps kV i j an c' ct [a,b,c])(l:ps.length=3):BA x q st ps:=fun kV i j an c' ct us z=>match us,(z.trans l) with|[a,b,c],_=>h kV i j an c' ct a b c
theorem Tw (h:∀kV i j an c' ct a b c d,BX x q st ps kV i j an c' ct [a,b,c,d])(l:ps.length=4):BA x q st ps:=fun kV i j an c' ct us z=>match us,(z.trans l) with|[a,b,c,d],_=>h kV i j an c' ct a b c d
theorem Ty (h:∀kV i j an c' ct a b c d e,BX x q st ps kV i j an c' ct [a,b,c,d,e])(l:ps.length=5):BA x q st ps:=fun kV i j an c' ct us z=>match us,(z.trans l) with|[a,b,c,d,e],_=>h kV i j an c' ct a b c d e
theorem GF.cal (X:K.In h)(G:h.Ns Et mg)(a:GF K x st f)(b:Ez)(g:∀fd,Fun K x x st f fd->mg x=some (.ref f)->Binds K fd ps []->FnOk P w K mg b Cm k f fd ps sp)(e:BA x x st ps:=by first|exact Tt (fun _ _ _ _ _ _ _=>rfl) rfl|exact Tu (fun _ _ _ _ _ _ _ _=>rfl) rfl|exact Tv (fun _ _ _ _ _ _ _ _ _=>rfl) rfl|exact Tw (fun _ _ _ _ _ _ _ _ _ _=>rfl) rfl|exact Ty (fun _ _ _ _ _ _ _ _ _ _ _=>rfl) rfl):Cal P w K mg b k x ps sp:=by
 obtain⟨h1,_,_,_,_,_,_,_,_,_,l,c,kp⟩:=a;have F:=Xm l c kp;exact Cal.mk' F (g _ F (Z3 X G h1) (F.binds e)) (Z3 X G h1) (F.binds e)
theorem GF.calX (X:K.In h)(G:h.Ns Et mg)(a:GF K x st f)(b:Ez)(g:∀fd,Fun K x x st f fd->mg x=some (.ref f)->Binds K fd ps []->FnOk P w K mg b (Cz P w) k f fd ps sp)(e:BA x x st ps:=by first|exact Tt (fun _ _ _ _ _ _ _=>rfl) rfl|exact Tu (fun _ _ _ _ _ _ _ _=>rfl) rfl|exact Tv (fun _ _ _ _ _ _ _ _ _=>rfl) rfl|exact Tw (fun _ _ _ _ _ _ _ _ _ _=>rfl) rfl|exact Ty (fun _ _ _ _ _ _ _ _ _ _ _=>rfl) rfl):CalX P w K mg b k x ps sp:=by
 obtain⟨h1,_,_,_,_,_,_,_,_,_,l,c,kp⟩:=a;have F:=Xm l c kp;exact CalX.mk' F (g _ F (Z3 X G h1) (F.binds e)) (Z3 X G h1) (F.binds e)
theorem MF.met (a:MF K C x q st f)(b:Ez)(g:∀fd,Fun K x q st f fd->FnOk P w K mg b Cm k f fd ps sp)(e:BA x q st ps:=by first|exact Tt (fun _ _ _ _ _ _ _=>rfl) rfl|exact Tu (fun _ _ _ _ _ _ _ _=>rfl) rfl|exact Tv (fun _ _ _ _ _ _ _ _ _=>rfl) rfl|exact Tw (fun _ _ _ _ _ _ _ _ _ _=>rfl) rfl|exact Ty (fun _ _ _ _ _ _ _ _ _ _ _=>rfl) rfl):Met P w K mg b C k x ps sp:=by
 obtain⟨h1,i,_,_,_,_,_,_,_,_,_,l,c,kp⟩:=a;have F:=Xm l c kp;exact⟨⟨_,_,g _ F,⟨h1,i,kp⟩,F.binds e⟩⟩
theorem MF.metX (a:MF K C x q st f)(b:Ez)(g:∀fd,Fun K x q st f fd->FnOk P w K mg b (Cz P w) k f fd ps sp)(e:BA x q st ps:=by first|exact Tt (fun _ _ _ _ _ _ _=>rfl) rfl|exact Tu (fun _ _ _ _ _ _ _ _=>rfl) rfl|exact Tv (fun _ _ _ _ _ _ _ _ _=>rfl) rfl|exact Tw (fun _ _ _ _ _ _ _ _ _ _=>rfl) rfl|exact Ty (fun _ _ _ _ _ _ _ _ _ _ _=>rfl) rfl):MetX P w K mg b C k x ps sp:=by
 obtain⟨h1,i,_,_,_,_,_,_,_,_,_,l,c,kp⟩:=a;have F:=Xm l c kp;exact⟨⟨_,_,g _ F,⟨h1,i,kp⟩,F.binds e⟩⟩
theorem MF.mak (a:MF K C "__init__" q st f)(b:Ez)(m:Me K C=true)(kc:ES K (.ref C)=true)(hx:mg x=some (.ref C))(g:∀fd,Fun K "__init__" q st f fd->FnOk P w K mg b Cm k f fd ps sp)(e:BA "__init__" q st ps:=by first|exact Tt (fun _ _ _ _ _ _ _=>rfl) rfl|exact Tu (fun _ _ _ _ _ _ _ _=>rfl) rfl|exact Tv (fun _ _ _ _ _ _ _ _ _=>rfl) rfl|exact Tw (fun _ _ _ _ _ _ _ _ _ _=>rfl) rfl|exact Ty (fun _ _ _ _ _ _ _ _ _ _ _=>rfl) rfl):Mak P w K mg b C k x ps sp:=by
 obtain⟨h1,i,_,_,_,_,_,_,_,_,_,l,c,kp⟩:=a;have F:=Xm l c kp;exact⟨⟨_,_,g _ F,⟨m,h1,i,kc⟩,F.binds e,hx⟩⟩
end
set_option maxHeartbeats 0 in
theorem all_mk {l:PySem.W.OpenLaw}{w:Em}{K:Cd}{h:Ez}{mg:Str->Dc}{fa:Eh}{t1 t2 t3 t4 t5 t6 t7:Tok}{aL aC aN aT aA b1 b2 b3:Eh}(X:K.In h)(G:h.Ns Et mg)(hfa:mg "law"=some (.ref fa))
  (z_len:Ey K Et "len"=some none)
  (z_all:Ey K Et "all"=some none)
  (z_ord:Ey K Et "ord"=some none)
  (DD:Ey K Et "isinstance"=some none)
  (z_str:Ey K Et "str"=some none)
  (z_set:Ey K Et "set"=some none)
  (DW:Ey K Et "sorted"=some none)
  (D4:Ey K Et "tuple"=some none)
  (Ed:Ey K Et "list"=some none)
  (z_max:Ey K Et "max"=some none)
  (z_int:Ey K Et "int"=some none)
  (Ef:Ey K Et "bool"=some none)
  (D5:Ey K Et "range"=some none)
  (Ee:Ey K Et "dict"=some none)
  (z_any:Ey K Et "any"=some none)
  (Dz:Ey K Et "LONGEST_LINE"=some (some (.int 20 t1)))
  (Dv:Ey K Et "LONGEST_LABEL"=some (some (.int 8 t2)))
  (Dy:Ey K Et "MOST_PARENTS"=some (some (.int 2 t3)))
  (DO:Ey K Et "PERCENT"=some (some (.int 37 t4)))
  (DB:Ey K Et "MOST_LABELS"=some (some (.int 4 t7)))
  (Dx:Ey K Et "DIGEST_FACTOR"=some (some (.int 31 t5)))
  (DA:Ey K Et "DIGEST_BOUND"=some (some (.int 97 t6)))
  (DQ:Ey K Et "LETTERS"=some (some (.ref aL)))
  (DX:Ey K Et "NoName"=some (some (.ref aN)))
  (DP:Ey K Et "NoThing"=some (some (.ref aT)))
  (DC:Ey K Et "AnnalsError"=some (some (.ref aA)))
  (DR:Ey K Et "BadPath"=some (some (.ref b1)))
  (DH:Ey K Et "BadFiles"=some (some (.ref b2)))
  (D7:Ey K Et "NoFit"=some (some (.ref b3)))
  (D6:Ey K Et "Shelf"=some (some (.ref aC)))
  (DS:EZ K aN UO "ValueError.__new__"=true)
  (DI:EZ K aT UO "ValueError.__new__"=true)
  (DJ:EZ K b1 UO "ValueError.__new__"=true)
  (DF:EZ K b2 UO "ValueError.__new__"=true)
  (Ea:Li K (.ref b2) (.ref b2)=some true)
  (D9:Li K (.ref b3) (.ref b2)=some false)
  (D8:Li K (.ref b3) (.ref b3)=some true)
  (DY:EZ K b3 UO "ValueError.__new__"=true)
  (s_kd:KD l.prog w K aL xQ)
  (pg_aC:LM K aC L7=true)
  (hd_aC:L3 K aC=true)
  (po_aC:PySem.W.plainOver K aC=true)
  (sa_aC:EH K (.ref aC) "__setattr__"=some (some (.builtin "object.__setattr__")))
  (mk_aC:Me K aC=true)
  (kc_aC:ES K (.ref aC)=true)
  (s_n1:EH K (.ref aC) "thing_by_name"=some none)
  (s_n2:EH K (.ref aC) "name_by_thing"=some none)
  (s_n3:EH K (.ref aC) "next_numbers"=some none)
  (s_kit:∀a∈kinds,∀b∈kinds,Ly K (.type a) (.type b)=some (a==b||(a=="bool"&&b=="int")))
  {f0 f1 f2 f3 f4 f5 f6 f7 f8 f9 f10 f11 f12 f13 f14 f15 f16 f17 f18 f19 f20 f21 f22 f23 f24 f25 f26 f27 f28 f29 f30 f31 f32 f33 f34 f35 f36 f37 f38 f39 f40 f41 f42 f43 f44 f45 f46 f47 f48 f49 f50 f51 f52 f53 f54 f55 f56 f57 f58 f59:Eh}
  (a0:MF K aC "names" "Shelf.names" Au.st f0)
  (a1:MF K aC "take" "Shelf.take" Av.st f1)
  (a2:GF K "is_key" Aw.st f2)
  (a3:MF K aC "has" "Shelf.has" Ax.st f3)
  (a4:GF K "need_name" Ay.st f4)
  (a5:MF K aC "thing" "Shelf.thing" Az.st f5)
  (a6:MF K aC "__init__" "Shelf.__init__" AD.st f6)
  (a7:GF K "is_label" Ad.st f7)
  (a8:GF K "is_path" AE.st f8)
  (a9:GF K "is_sign" Aa.st f9)
  (a10:GF K "is_line" Ab.st f10)
  (a11:GF K "is_lines" Ac.st f11)
  (a12:GF K "is_file" AH.st f12)
  (a13:GF K "folders_of" AG.st f13)
  (a14:GF K "need_files" AK.st f14)
  (a15:GF K "is_leaf" Ah.st f15)
  (a16:GF K "is_row" Ae.st f16)
  (a17:GF K "is_rows" Ag.st f17)
  (a18:GF K "is_tree" Ai.st f18)
  (a19:GF K "is_parents" Af.st f19)
  (a20:GF K "is_note" Aj.st f20)
  (a21:GF K "is_thing" Ak.st f21)
  (a22:GF K "need_thing" Al.st f22)
  (a23:MF K aC "need_form" "Shelf.need_form" AA.st f23)
  (a24:MF K aC "need_names" "Shelf.need_names" AB.st f24)
  (a25:GF K "letter_of" Am.st f25)
  (a26:GF K "tree_parts" Ao.st f26)
  (a27:GF K "parts_of" Ap.st f27)
  (a28:GF K "counted" Aq.st f28)
  (a29:GF K "spelled" Ar.st f29)
  (a30:GF K "digest" As.st f30)
  (a31:MF K aC "put" "Shelf.put" AC.st f31)
  (a32:GF K "put_rows" AI.st f32)
  (a33:GF K "put_files" AJ.st f33)
  (a34:GF K "keep_files" AL.st f34)
  (a35:GF K "_law_path_by" AY.st f35)
  (a36:GF K "_law_line_by" AU.st f36)
  (a37:GF K "_law_lines_by" AW.st f37)
  (a38:GF K "names_form" AM.st f38)
  (a39:GF K "need_root" AN.st f39)
  (a40:GF K "labels_of" AF.st f40)
  (a41:GF K "rows_of" AR.st f41)
  (a42:GF K "found_at" AS.st f42)
  (a43:GF K "need_free" A3.st f43)
  (a44:GF K "rows_with" A1.st f44)
  (a45:GF K "with_file" A4.st f45)
  (a46:GF K "rows_without" A2.st f46)
  (a47:GF K "without_file" A5.st f47)
  (a48:GF K "_law_done" A9.st f48)
  (a49:GF K "_law_over" AV.st f49)
  (a50:GF K "_law_free" AX.st f50)
  (a51:GF K "_law_may" A8.st f51)
  (a52:GF K "_law_more" A7.st f52)
  (a53:GF K "_law_read" AZ.st f53)
  (a54:GF K "_law_same" A0.st f54)
  (a55:GF K "files_beneath" AO.st f55)
  (a56:GF K "files_of" AQ.st f56)
  (a57:GF K "_law_thin" A6.st f57)
  (a58:GF K "_law_reads" Ca.st f58)
  (a59:GF K "law" Cb.st f59) :
  ∃fd:El,(∀(s:Ej) (v:Eg),BindsTo s fd ⟨[v],[]⟩ [("_law_script",v)])/\∀base:Ez,K.In base->base.Ns Et mg->FnOk l.prog w K mg base Cm 16 fa fd ["_law_script"] (Mw K):=by
 have T:Txt l.prog w K mg t1 t2 t3 t4 t5 t6 t7 aL aC aN aT aA b1 b2 b3:=⟨ZX X G z_len,ZX X G z_all,ZX X G z_ord,ZX X G DD,ZX X G z_str,ZX X G z_set,ZX X G DW,ZX X G D4,ZX X G Ed,ZX X G z_max,ZX X G z_int,ZX X G Ef,ZX X G D5,ZX X G Ee,ZX X G z_any,Z3 X G Dz,Z3 X G Dv,Z3 X G Dy,Z3 X G DO,Z3 X G DB,Z3 X G Dx,Z3 X G DA,Z3 X G DQ,Z3 X G DX,Z3 X G DP,Z3 X G DC,Z3 X G DR,Z3 X G DH,Z3 X G D7,Z3 X G D6,DS,DI,DJ,DF,Ea,D9,D8,DY,s_kd,⟨pg_aC,hd_aC,po_aC,sa_aC⟩,s_n1,s_n2,s_n3,s_kit⟩;obtain⟨hL,oc,od,an,sl,kV,dc,pm,cd,ct,lL,cL,kL⟩:=a59;have e:=hfa.symm.trans (Z3 X G hL);cases e;refine⟨E6 "law" "law" (x8 Cb.st) (xS Cb.st) (zG Cb.st) .none kV dc pm an cd ct,fun s v=>.of_eq rfl,fun b _ _=>?_⟩;have C0:=a0.met (mg:=mg) b fun _ F=>Au.ok F T;have C1:=a1.met (mg:=mg) b fun _ F=>Av.ok F T;have C2:=a2.cal X G b fun _ F _ _=>Aw.ok F T;have C3:=a3.met (mg:=mg) b fun _ F=>Ax.ok F T C2;have C4:=a4.calX X G b fun _ F _ _=>Ay.ok F T C3;have C5:=a5.metX (mg:=mg) b fun _ F=>Az.ok F T C4;have C6:=a6.mak b mk_aC kc_aC T.Shelf fun _ F=>AD.ok F T C0 C1 C5;have C7:=a7.cal X G b fun _ F _ _=>Ad.ok F T;have C8:=a8.cal X G b fun _ F _ _=>AE.ok F T C7;have C9:=a9.cal X G b fun _ F _ _=>Aa.ok F T;have C10:=a10.cal X G b fun _ F _ _=>Ab.ok F T C9;have C11:=a11.cal X G b fun _ F _ _=>Ac.ok F T C10;have C12:=a12.cal X G b fun _ F _ _=>AH.ok F T C8 C11;have C13:=a13.cal X G b fun _ F _ _=>AG.ok F T;have C14:=a14.calX X G b fun _ F _ _=>AK.ok F T C12 C13;have C15:=a15.cal X G b fun _ F _ _=>Ah.ok F T C11;have C16:=a16.cal X G b fun _ F _ _=>Ae.ok F T C7;have C17:=a17.cal X G b fun _ F _ _=>Ag.ok F T C16;have C18:=a18.cal X G b fun _ F _ _=>Ai.ok F T C17;have C19:=a19.cal X G b fun _ F _ _=>Af.ok F T;have C20:=a20.cal X G b fun _ F _ _=>Aj.ok F T C19 C10;have C21:=a21.cal X G b fun _ F _ _=>Ak.ok F T C15 C18 C20;have C22:=a22.calX X G b fun _ F _ _=>Al.ok F T C21;have C23:=a23.metX (mg:=mg) b fun _ F=>AA.ok F T C5;have C24:=a24.metX (mg:=mg) b fun _ F=>AB.ok F T C23;have C25:=a25.cal X G b fun _ F _ _=>Am.ok F T;have C26:=a26.cal X G b fun _ F _ _=>Ao.ok F T;have C27:=a27.cal X G b fun _ F _ _=>Ap.ok F T C26;have C28:=a28.cal X G b fun _ F _ _=>Aq.ok F T;have C29:=a29.cal X G b fun _ F _ _=>Ar.ok F T C25 C27 C28;have C30:=a30.cal X G b fun _ F _ _=>As.ok F T C29;have C31:=a31.metX (mg:=mg) b fun _ F=>AC.ok F T C22 C24 C25 C30 C1;have C32:=a32.cal X G b fun _ F _ _=>AI.ok F T C31;have C33:=a33.cal X G b fun _ F m h=>AJ.ok F T C31 C32 m h;have C34:=a34.calX X G b fun _ F _ _=>AL.ok F T C14 C33;have C35:=a35.cal X G b fun _ F _ _=>AY.ok F T;have C36:=a36.cal X G b fun _ F _ _=>AU.ok F T;have C37:=a37.cal X G b fun _ F _ _=>AW.ok F T C36;have C38:=a38.cal X G b fun _ F _ _=>AM.ok F T C3 C5;have C39:=a39.calX X G b fun _ F _ _=>AN.ok F T C38;have C40:=a40.calX X G b fun _ F _ _=>AF.ok F T C8;have C41:=a41.cal X G b fun _ F _ _=>AR.ok F T C5;have C42:=a42.calX X G b fun _ F _ _=>AS.ok F T C39 C40 C38 C41;have C43:=a43.calX X G b fun _ F _ _=>A3.ok F T C13 C38 C42;have C44:=a44.cal X G b fun _ F m h=>A1.ok F T C41 C32 m h;have C45:=a45.calX X G b fun _ F _ _=>A4.ok F T C39 C40 C11 C43 C31 C32 C44 C41;have C46:=a46.cal X G b fun _ F m h=>A2.ok F T C41 C32 m h;have C47:=a47.calX X G b fun _ F _ _=>A5.ok F T C38 C42 C32 C46 C41 C40;have C48:=a48.cal X G b fun _ F _ _=>A9.ok F T C45 C47;have C49:=a49.cal X G b fun _ F _ _=>AV.ok F T;have C50:=a50.cal X G b fun _ F _ _=>AX.ok F T C49;have C51:=a51.cal X G b fun _ F _ _=>A8.ok F T C50;have C52:=a52.cal X G b fun _ F _ _=>A7.ok F T;have C53:=a53.cal X G b fun _ F m h=>AZ.ok F T C5 m h;have C54:=a54.cal X G b fun _ F _ _=>A0.ok F T;have C55:=a55.cal X G b fun _ F m h=>AO.ok F T C5 m h;have C56:=a56.calX X G b fun _ F _ _=>AQ.ok F T C39 C55;have C57:=a57.cal X G b fun _ F m h=>A6.ok F T C5 m h;have C58:=a58.cal X G b fun _ F _ _=>Ca.ok F T C53 C54 C56 C57;exact Cb.ok (Xm (st:=Cb.st) lL cL kL) T C6 C0 C34 C35 C37 C48 C51 C52 C58 C56
theorem walk {l:PySem.W.OpenLaw}{q:Ei}{loose:Da}{XP:(Str->Dc)->Ez->Prop}{YP:Em->Ez->Prop}{d:DefRec}{K:Params->Cd}(hn:l.most=some 63)(hdf:d.params.defaults=[])
  (hY:∀(w:Em) (h:Ez),YP w h->(K w.params).In h)
  (F:∀(w:Em) (mg:Str->Dc) (fa:Eh) (h:Ez),(K w.params).In h->h.Ns Et mg->mg d.name=some (.ref fa) -> ∃fd:El,(∀(s:Ej) (u:Eg),BindsTo s fd ⟨[u],[]⟩ [("_law_script",u)])/\∀base:Ez,(K w.params).In base->base.Ns Et mg->FnOk l.prog w (K w.params) mg base Cm 16 fa fd ["_law_script"] (Mw (K w.params))) :
  PySem.W.WalkO q loose XP YP l.row.toRowW d [] (fun f vs=>PySem.call f vs) :=
 L2.walk_of (n:=63) (k:=16) (x:="_law_script") (CX:=fun _=>Cm) (sp:=fun w=>Mw (K w.params)) hn (by decide) hdf ⟨rfl,by decide,by decide⟩ hY F (fun _ _ a ns hl _ hS=>⟨a,ns,rfl,hS,hl,fun _=>rfl⟩) fun _ _ _ _ _ z=>z
end An09
open PySem PySem.W PyProof.Rows
set_option maxRecDepth 100000 in
set_option maxHeartbeats 0 in
theorem PySem.Challenge.cw_annals_k09_whole_trees_holds : PySem.Challenge.rw_annals_k09_whole_trees.Holds := by
 w_on;o_law;k_head;(case hw=>w_witness2)
 k_fill
 refine An09.walk (l:=PySem.Challenge.rw_annals_k09_whole_trees) rfl rfl (fun w h Y=>PySem.W.kIn_of Y) ?F
 case F =>
  intro w mg fa h KX G hmg;refine' An09.all_mk KX G hmg ?z_len ?z_all ?z_ord ?DD ?z_str ?z_set ?DW ?D4 ?Ed ?z_max ?z_int ?Ef ?D5 ?Ee ?z_any ?Dz ?Dv ?Dy ?DO ?DB ?Dx ?DA ?DQ ?DX ?DP ?DC ?DR ?DH ?D7 ?D6 ?DS ?DI ?DJ ?DF ?Ea ?D9 ?D8 ?DY ?s_kd ?pg_aC ?hd_aC ?po_aC ?sa_aC ?mk_aC ?kc_aC ?s_n1 ?s_n2 ?s_n3 ?s_kit ?a0 ?a1 ?a2 ?a3 ?a4 ?a5 ?a6 ?a7 ?a8 ?a9 ?a10 ?a11 ?a12 ?a13 ?a14 ?a15 ?a16 ?a17 ?a18 ?a19 ?a20 ?a21 ?a22 ?a23 ?a24 ?a25 ?a26 ?a27 ?a28 ?a29 ?a30 ?a31 ?a32 ?a33 ?a34 ?a35 ?a36 ?a37 ?a38 ?a39 ?a40 ?a41 ?a42 ?a43 ?a44 ?a45 ?a46 ?a47 ?a48 ?a49 ?a50 ?a51 ?a52 ?a53 ?a54 ?a55 ?a56 ?a57 ?a58 ?a59
  case z_len|z_all|z_ord|DD|z_str|z_set|DW|D4|Ed|z_max|z_int|Ef|D5|Ee|z_any|Dz|Dv|Dy|DO|DB|Dx|DA|DQ|DX|DP|DC|DR|DH|D7|D6=>k_is
  case a0|a1=>(apply An09.MF.mk;k_is;k_is;k_is;k_is;k_is)
  case a2=>(apply An09.GF.mk;k_is;k_is;k_is;k_is)
  case a3=>(apply An09.MF.mk;k_is;k_is;k_is;k_is;k_is)
  case a4=>(apply An09.GF.mk;k_is;k_is;k_is;k_is)
  case a5|a6=>(apply An09.MF.mk;k_is;k_is;k_is;k_is;k_is)
  case a7|a8|a9|a10|a11|a12|a13|a14|a15|a16|a17|a18|a19|a20|a21|a22=>(apply An09.GF.mk;k_is;k_is;k_is;k_is)
  case a23|a24=>(apply An09.MF.mk;k_is;k_is;k_is;k_is;k_is)
  case a25|a26|a27|a28|a29|a30=>(apply An09.GF.mk;k_is;k_is;k_is;k_is)
  case a31=>(apply An09.MF.mk;k_is;k_is;k_is;k_is;k_is)
  case a32|a33|a34|a35|a36|a37|a38|a39|a40|a41|a42|a43|a44|a45|a46|a47|a48|a49|a50|a51|a52|a53|a54|a55|a56|a57|a58|a59=>(apply An09.GF.mk;k_is;k_is;k_is;k_is)
  case DS|DI|DJ|DF|Ea|D9|D8|DY=>first|k_is|kernel_rfl|rfl|(with_unfolding_all rfl)|decide +kernel +revert
  case s_kd=>exact An09.kd_of (by k_is)
  case pg_aC|hd_aC|po_aC|sa_aC|mk_aC|kc_aC|s_n1|s_n2|s_n3=>k_is
  case s_kit=>(intro a ha b hb;simp only[An09.kinds,Zi,Yd,VR]at ha hb;rcases ha with rfl|rfl|rfl|rfl|rfl|rfl|rfl<;>rcases hb with rfl|rfl|rfl|rfl|rfl|rfl|rfl<;>rfl)
