import PyProof.Rows.All
import Wide.All
import OpenK.AllK
import PySem.Challenge.RW_annals_k14_whole_changes
set_option Elab.async false
set_option linter.all false
set_option compiler.extract_closed false
set_option genSizeOf false
set_option maxRecDepth 100000
set_option maxHeartbeats 4000000
abbrev Da:=List PySem.Str
abbrev Db:=List PySem.Value
abbrev Dc:=Option PySem.Value
abbrev Dd:=List PySem.Addr
abbrev De:=List<|PySem.Addr×PySem.Obj
abbrev Df:=List PySem.PyData
abbrev Dg:=List<|PySem.Str×PySem.Str
abbrev Dh:=PySem.Shared->Prop
abbrev Ca:=PySem.W.Frag
open PySem renaming wpAny_bind->Q4,wpAny_pure->Q7,wpAny_setState_of->ZP,wpAny_holding->ZW,wpAny_newObj_type->Yb,wpAny_mono->Yg,wpAny_ite_split->Yk,sizeLine_eq->Ym,wpAny_call_entry->Ys,boot_len->Yw,codeAny_builtin->YB,codeAny_mono->YW,wpAny_callSpecial?_slot->YY,wpAny_isInstance->Y0,wpAny_truthy_bool->Y2,mem_of_lookup->Y8,wpAny_Call_Name_kw->Jc,wpAny_askSetting->Jd,plainId_quiet->Je,wpAny_setField->Jf,isSubtype_type->Jh,call_meetsIn->JE,wpAny_rule->JH,wpAny_setEntries_of->JK,wpAny_typeOf->JS,tupleKind_room_in1->JT,wpAny_specialOf->J0,wpAny_pyIter_list->J5,wpAny_storeSet_of->J7,wpAny_richCompare_same_room->J8,typeIs_str->Vc,wpAny_of_eq->Vd,wpAny_forIn_list->Vi,wpAny_passesOwn->Vo,wpAny_field->Vu,fits_of_scanBound->VB,builtinLookup_eq_fast->VL,weight_type_call_type->VN,wpAny_call->VQ,call_meets->VS,wpAny_attempt->VW,wpAny_newList->VX,codeAny_call_builtin->V1,wpAny_execs_nil->V3,codeAny_of_tree->V4,wpAny_pyIter_tuple->Uc,wpAny_tupleItemsOf->Ue,wpAny_newTuple->Uf,wpAny_fieldsOf->Uh,wpAny_Call_method->Ul
open List renaming length_map->Q5,mem_singleton->Q6,mem_cons_of_mem->Q9,mem_map->Za,getElem?_eq_getElem->Zb,mem_cons_self->Zc,length_append->Ze,map_append->Zg,mem_cons->Zh,getElem?_map->Zj,mem_of_getElem?->Zm,length_cons->Zn,size_toArray->Zp,getElem?_eq_some_iff->Zq,map_cons->Zv,length_take->Zx,mem_append->Zy,mem_append_right->ZA,map_map->ZB,take_length->ZF,append_nil->ZG,all_eq_true->ZI,mem_iff_getElem->ZN,nodup_iff_pairwise_ne->ZO,getElem_map->ZQ,cons_ne_nil->ZR,getElem?_append_left->ZS,getElem?_append_right->ZX,getD_eq_getElem?_getD->ZY,mem_append_left->ZZ,append_assoc->Z7,length_range->Z8,nodup_cons->Z9,any_eq_true->Yc,getElem?_eq_none->Yf,mem_iff_getElem?->Yl,eq_nil_of_length_eq_zero->Yn,map_congr_left->Yp,pairwise_map->Yv,mem_filter->Yy,length_drop->Yz,not_mem_nil->YE,getElem_mem->YF,mem_flatMap->YG,cons_lt_cons_iff->YI,take_append_drop->YJ,nodup_nil->YM,find?_cons->YN,take_of_length_le->YR,take_add_one->YT,length_singleton->YU,mem_range->YV,getElem_inj->YX,filter_cons->YZ,nodup_append->Y5,filterMap_cons->Y7,mem_of_find?_eq_some->Ja,mem_of_mem_take->Ji,foldl_append->Jj,length_pos_iff->Jo,sum_cons->Jp,perm_ext_iff_of_nodup->Jw,getElem?_zip_eq_some->Jy,pairwise_iff_getElem->Jz,getElem?_eq_none_iff->JA,drop_eq_getElem_cons->JB,length_nil->JC,foldl_cons->JD,flatMap_cons->JF,pairwise_singleton->JL,lt_irrefl->JM,flatMap_def->JN,eq_nil_iff_forall_not_mem->JO,mem_filterMap->JP,of_mem_zip->JZ,find?_some->J1,any_eq_false->J6,not_lt->Ve,map_nil->Vh,find?_eq_none->Vt,ext_getElem?->VC,append_eq_nil_iff->VG,length_filter_le->VI,getElem?_toArray->VM,map_take->VY,sum_append->V5,nil_append->V6,getElem?_range->V9,flatMap_append->Ub,drop_zero->Ud,pairwise_cons->Ui,map_id->Uq
open PySem.Heap renaming get?_push_of_some->Q8,get?_push_size->Zk,lt_size->Zl,get?_update_self->Ye,size_push->YL,get?_update_other->YQ,get?_none_of_le->VZ,get?_update_ne->Ua
open Nat renaming le_refl->Zd,ne_of_lt->Zu,lt_of_lt_of_le->ZC,zero_le->ZD,le_trans->ZL,le_of_lt->Yu,lt_irrefl->YC,ne_of_gt->YO,lt_succ_of_lt->Y3,le_succ->Jg,lt_succ_self->Jq,le_of_eq->JQ,lt_of_le_of_lt->JV,eq_zero_or_pos->JW,zero_add->JX,not_lt_zero->Vq,lt_or_ge->VD,mul_le_mul_right->V2,lt_trichotomy->Uo
abbrev Zf:=@decide_eq_true
abbrev Zo:=@decide_eq_false
abbrev Zr:=@of_decide_eq_true
abbrev Zs:=@if_neg
abbrev Zt:=@if_pos
abbrev ZK:=@decide_eq_true_iff
abbrev ZM:=@decide_eq_true_eq
abbrev YH:=@beq_eq_false_iff_ne
abbrev Jl:=@beq_iff_eq
abbrev Js:=@if_false
abbrev Ju:=@of_decide_eq_false
abbrev Vj:=@decide_eq_decide
abbrev Vw:=@decide_eq_false_iff_not
abbrev Vz:=@or_false
abbrev VA:=@iff_of_false
abbrev VE:=@getElem?_pos
abbrev VV:=@beq_self_eq_true
abbrev V8:=@ne_true_of_eq_false
open Bool renaming and_eq_true->Zi,false_ne_true->ZH,false_eq_true->ZU,eq_false_iff->Yd,eq_iff_iff->Yq,and_false->Jt,or_eq_false_iff->JG,not_true->Vm,or_eq_true->Vp,false_and->Vx,not_eq_true'->Um
open Array renaming length_toList->Zw,getD_eq_getD_getElem?->ZE,getElem?_eq_getElem->ZT,getElem?_toList->Z0,getElem?_eq_none->Y4,getElem?_eq_some_iff->Jr,getElem_toList->Vf,forIn_toList->Vs,size_map->VF
open Option renaming map_eq_some_iff->Zz,map_some->Yt,isSome_iff_exists->YD,getD_some->VT
open PyProof.Rows renaming boot_isinstance->ZJ,boot_str->Yx,boot_dict->YA,boot_list->YS,callWith_type1->Y1,slot_tuple_getitem->Y9,boot_tuple->Jk,boot_all->Jx,boot_sorted->JI,toString_length_le->JJ,listUpdate_at->J2,boot_set->J4,callWith_builtin1->VR,int_text_len_1921->VU,slice_closes_toL->V0
open PySem.W renaming mg_none_of->ZV,mg_of->Ya,kia_one->Yr,hideAll_get->Jm,callWith_K->JR,hideAll_none->Vb,cellsFrom_some->Vy,methodCall_KW->VH,plainGet_of->V7,kitx_list->Uj,kitx_dict->Uk
open PySem.F renaming plainAttrs_str->Yh,slot_list_append->Yi,type_list_append->Yj,plainAttrs_list->Yo,slot_dict_get->Jb,entry_dict_get->JU,slot_str_startswith->J9,type_str_startswith->Va,plainAttrs_dict->Vv,slot_str_join->VO,type_str_join->VP
open Int renaming eq_ofNat_of_zero_le->YK,emod_lt_of_pos->JY,emod_nonneg->Vr,natAbs_natCast->Ug
open PySem.Value renaming isStrOf_shape->Y6
open PyProof.Rows.F renaming plain_set_update_loop->Jn,entry_set_update_loop->Vk
open Classical renaming choose_spec->J3
open LawfulBEq renaming eq_of_beq->Vg
open PySem.List renaming filterMap_getElem?_range_length->Vl
open List.Perm renaming eq_of_pairwise->Vn
open PySem.W.KIN renaming signs_num->VJ
open PySem renaming Value->Ei,Addr->Ej,Program->Ek,wpAny->El,Shared->Em,World->Eo,model->Ep,PyData->Er,FuncData->Et,mainGlobals->Ew,starEach->Ey,Heap->EB,Around->EF,Expr->EN,rawInt->ET,sysModules->EV,Stmt->EW,compareOp->EZ,eval->E8,SetTable->La,cLine->Lc,backTo->Lh,Paired->Lp,assignEach->Lr,attributeBase->LA,keywordEach->LK,bootBuiltins->LL,ReadsAll->LN,Scope->LV,codeAny->L1,NameKind->L5,letOwnedTupleGo->L6,entryOfKey->L8,pyNext->L9,sliceBounds->Mb,scanBound->Mc,pickOrder->Md,richCompare->Me,binaryOp->Mf,DictEntry->Ml,backToKw->Mn,compEnvC->Mp,getItem->Mu,valueAt->Mv,ElemsOf->Mw,tupleKind->My,swapsWith->Mz,getMethod->MA,closureFor->MB,setsByText->MD,IsPart->MG
open PySem.PyData renaming strOk->Es,canLayAll0->Ev,depthAll->EG,eqv->EH,eqvAll->E6,str->Lv,keyHash->LY
open Sum renaming inr->Eu
open PySem.Value renaming ref->Ez,none->EI,type->E3,isStrOf->Ld,bool->L7,str->Ma,int->Mx
open PySem.AutoSeq1 renaming wpAny_loadPart'->EA
open List renaming range->EC,toArray->EY,lookup->LJ
open PySem.SetTable renaming sizeAbove->ED,below->Lj,bits->LD,grown->LH,runEnd->LO,fits->Mm
open PySem.W renaming nsIn->EE,findIn->EU,keepIn->E4,emptyDict->Lb,fnOf->Le,excIn->Lg,exmOne->Ln,instObj->Lq,kitOne->LF,codeIn->LG,plainGet->LZ,hasDictIn->Mg,makesIn->Mq,isFn->Mt
open Or renaming inl->EJ
open Ne renaming symm->EK
open False renaming elim->EL
open PySem.Heap.SameBut renaming update->EM
open PySem.Obj renaming mapSeq->EO,putSet->LM,mapFields->LP
open PyProof.Rows renaming seqObj->EQ,envOfC->Mr,AllBare->ME
open PySem.SeqAt renaming shaped->ER,eqBoolOverData->LX
open PySem.Heap renaming SameBut->ES
open PySem.Str renaming ofString->EX,empty->Mj,join->MC
open PySem.Around renaming under_plainId->E1
open PySem.Builtin.Tuple renaming tupleHashOf->E2,tupleExact->LB,tupleItemsOf->LW
open PySem.Builtin.Frozenset renaming updateFrom->E5,isAnySet->E9
open PySem.Builtin.Str renaming occurrences->E7,strSub->Lm,partsBetween->LC
open PySem.MeetsSeq3 renaming plain_eq_loop->Lf
open PySem.Calls renaming callWith_builtin->Li,spliced_cons->Lu,evalArgs_plain->Ly,spliced_nil->LR
open Classical renaming byContradiction->Lk
open PySem.StrLaws renaming glued_eq_join->Ll,subAt_one->Mh
open Pure renaming pure->Lo
open True renaming intro->Ls
open PySem.Txt renaming join->Lw,split->LI
open PySem.Builtin.Slice renaming slicePlaces->Lx,sliceAdjust->L3
open PySem.PassesOwn renaming leaving->Lz
open PySem.Shared renaming TypeIs->LQ
open PySem.Builtin.List renaming listExtendWith->LS
open List.Pairwise renaming map->LU
open ToString renaming toString->L4
open PySem.F renaming slot_dict_items->Mi
open Prod renaming ext->Mo
open ForInStep renaming yield->Ms
noncomputable section
namespace L2
open PySem
section
variable {M:Model}{A:EF}{E:Ei->Dh}{s:Em}{base:EB}{q:Array Ei->Prop}{env:Env}{outer:List Env}{L x:Ej}
def GN (q:Array Ei->Prop):Prop:=∀(b:Array Ei) (v:Ei),q b->q (b.setIfInBounds 1 v)
def OZ (q:Array Ei->Prop)(h base:EB)(x:Ej)(c g:Ei):Prop :=
 ∃b d T e f,h.get? x=some b/\(b.cls=c/\q d)/\b.data=.fields d/\d[1]?=some (.ref T)/\base.get? T=none/\T≠x/\h.get? T=some e/\e.data=.fields f/\f[3]?=some g
theorem SD {h:EB}{y:Ej}{d:Obj}{vs:Array Ei}(e:h.get? y=some d)(hd:d.data=.fields vs):∀b o,h.get? b=some o->(∀ws,o.data≠.fields ws)->b≠y:=fun b o c f z=>by
 subst z;rw[e]at c;cases c;exact f vs hd
theorem IR (G:GN q){n:Obj}{vs:Array Ei}{head:Ei}{nx:Bool}{Q:Unit->Dh}(D:A.frames=some (env::outer))(i:s.heap.FunFrames base (env::outer))(F:env.frame=some L)
  (l:s.heap.get? x=some n) (I:base.StaysIn s.heap) (t:base.get? x=none) (hd:n.data=.fields vs) (sz:1<vs.size) (H:q vs)
  (k:∀h',base.StaysIn h'->h'.FunFrames base (env::outer)->OZ q h' base x n.cls (ET L)->s.heap.UpToSlots h'->Q () { s with heap:=h' }) :
  El M A (do let fo ←frameOf env;let pl ←entryPlaceOf L nx;let en ←EntryCells.newEntry head fo .none (ET L) .none pl;setField (.ref x) 1 en) Q E s:=by
 have K:x∉(env::outer).filterMap (·.frame):=fun z=>by
  obtain⟨_,o,y,c⟩:=i.mem z;rw[l]at y;cases y;exact c vs hd
 refine Q4<|wpAny_frameOf_fun D i F fun g j=>Q4<|wpAny_entryPlaceOf fun pl d=>?_;unfold EntryCells.newEntry;unfold newFields;refine Q4<|Yb (T:="traceback") ?_<|d.sizeOk5 _ _ _ _ _;have w:g.get? x=some n:=by rw[←l];exact j.2.1 x K
 have v:base.StaysIn g:=fun b o e=>by
  rw[j.2.1 b fun z=>by rw[(i.mem z).1]at e;cases e];exact I b o e
 obtain⟨row,r⟩:∃row:Obj,row={ cls:=.type "traceback",data:=.fields ([head,.ref L,.none,ET L,.none]++(if pl.isEmpty then List.replicate 6 EI else pl)).toArray }:=⟨_,rfl⟩;have B:=Q8 (h:=g) row w;have f:g.objs.size≠x:=YO<|Zl w;rw[←r];have keep:∀b o,b≠x->g.get? b=some o->((g.push row).update x (LP (·.setIfInBounds 1 (Ez g.objs.size)))).get? b=some o:=fun b o J e=>by
  rw[YQ _ _<|EK J];exact Q8 _ e
 refine Jf B hd sz<|k _ ?_ ?_ ?_ ?_
 ·intro b o e;exact keep b o (fun z=>by rw[z,t]at e;cases e)<|v b o e
 ·refine i.of_keeps fun b o e c=>?_;obtain⟨C,p⟩:=j.2.2 b o e;exact⟨_,keep b _ (SD l hd b o e c) p,rfl⟩
 ·have u:=Obj.data_mapFields hd (·.setIfInBounds 1 (Ez g.objs.size));refine⟨_,_,g.objs.size,row,_,Ye _ B<|Obj.isFreed_of_fields u,⟨Obj.cls_mapFields _ _,G _ _ H⟩,u,by simp[sz],v.fresh,f,?_,by rw[r],?_⟩
  ·rw[YQ _ _<|EK f];exact Zk g (by rw[r];rfl)
  ·rcases d with rfl|⟨_,_,_,_,_,_,_,rfl⟩<;>simp
 ·intro b o e c;obtain⟨C,p⟩:=j.2.2 b o e;exact⟨C,keep b _ (SD l hd b o e c) p⟩
theorem KZ (i:GN q){c:Obj}{vs:Array Ei}{Q:Unit->Dh}(h:A.frames=some (env::outer))(g:s.heap.FunFrames base (env::outer))(e:env.frame=some L)
  (f:s.heap.get? x=some c) (l:base.StaysIn s.heap) (b:base.get? x=none) (hd:c.data=.fields vs) (d:vs[1]?=some .none) (j:q vs)
  (k:∀h',base.StaysIn h'->h'.FunFrames base (env::outer)->OZ q h' base x c.cls (ET L)->s.heap.UpToSlots h'->Q () { s with heap:=h' }):El M A (noteFrame (.ref x) env) Q E s:=by
 unfold noteFrame;simp only[e];refine Q4<|Vu f hd d ?_;rw[Zs<|show¬(EI !=EI)=true by decide];exact IR i h g e f l b hd (Jr.mp d).1 j k
theorem NC (w:GN q){c:Ei}{Q:Unit->Dh}(u:A.frames=some (env::outer))(r:s.heap.FunFrames base (env::outer))(l:env.frame=some L)(t:OZ q s.heap base x c .none)(C:base.StaysIn s.heap)(h:base.get? x=none)
  (k:∀h',base.StaysIn h'->h'.FunFrames base (env::outer)->OZ q h' base x c (ET L)->s.heap.UpToSlots h'->Q () { s with heap:=h' }):El M A (noteFrame (.ref x) env) Q E s:=by
 obtain⟨K,P,T,N,O,B,⟨v,y⟩,hd,i,D,p,g,dT,j⟩:=t;subst v;unfold noteFrame;simp only[l];refine Q4<|Vu B hd i ?_;rw[Zt<|show(Ez T !=EI)=true by simp];refine Q4<|Vu g dT j ?_;rw[Zs<|show¬(EI==ET L)=true by simp[ET]];have d:∀b,b≠T->(s.heap.update T (LP (·.setIfInBounds 3 EI))).get? b=s.heap.get? b:=fun b F=>YQ _ _<|EK F;have n:=SD g dT;refine Q4<|Jf g dT (Jr.mp j).1 ?_;refine IR w u (r.of_keeps fun b o e f=>⟨o,by rw[d b<|n b o e f];exact e,rfl⟩) l (by rwa[d x<|EK p]) (fun b o e=>?_) h hd (Jr.mp i).1 y fun h' G H I J=>k h' G H I fun b o e f=>?_
 ·rw[d b fun z=>by rw[z,D]at e;cases e];exact C b o e
 ·exact J b o (by rwa[d b<|n b o e f]) f
theorem x9 {l:List Env}{Q:Unit->Dh}(B:base.StaysIn s.heap)(v:s.heap.FunFrames base l)(t:OZ q s.heap base x c fl)
  (k:∀h',base.StaysIn h'->h'.FunFrames base l->OZ q h' base x c .none->s.heap.UpToSlots h'->Q () { s with heap:=h' }):El M A (setFlight (.ref x) none) Q E s:=by
 obtain⟨D,G,T,H,F,n,y,hd,j,p,i,g,dT,w⟩:=t;have u:3<F.size:=(Jr.mp w).1;have r:=SD g dT;have d:∀b,b≠T->(s.heap.update T (LP (·.setIfInBounds 3 ((none:Option Ej).elim EI fun f=>ET f)))).get? b=s.heap.get? b:=fun b C=>YQ _ _<|EK C;unfold setFlight;refine Q4<|Vu n hd j ?_;rw[Zt<|show(Ez T !=EI)=true by simp];refine Jf g dT u (k _ (fun b o e=>?_) (v.of_keeps fun b o e h=>⟨o,by rw[d b<|r b o e h];exact e,rfl⟩) ?_ fun b o e h=>⟨o.slots,by rw[d b<|r b o e h];exact e⟩)
 ·rw[d b fun z=>by rw[z,p]at e;cases e];exact B b o e
 ·refine⟨D,G,T,_,_,by rw[d x<|EK i];exact n,y,hd,j,p,i,Ye _ g<|Obj.isFreed_of_fields<|Obj.data_mapFields dT _,Obj.data_mapFields dT _,?_⟩;simp[u]
theorem F3 (i:GN q){c:Obj}{vs:Array Ei}{Q:Unit->Dh}(f:A.frames=some (env::outer))(d:s.heap.FunFrames base (env::outer))(h:env.frame=some L)
  (l:s.heap.get? x=some c) (n:base.StaysIn s.heap) (b:base.get? x=none) (hd:c.data=.fields vs) (e:vs[1]?=some .none) (j:q vs)
  (k:∀h',base.StaysIn h'->h'.FunFrames base (env::outer)->OZ q h' base x c.cls .none->s.heap.UpToSlots h'->Q () { s with heap:=h' }):El M A (leaving env<|.ref x) Q E s:=by
 unfold leaving;exact Q4<|KZ i f d h l n b hd e j fun g o p r t=>x9 (s:={ s with heap:=g }) o p r fun h' u v w y=>k h' u v w<|t.trans y
theorem KO (h:GN q){c:Ei}{Q:Unit->Dh}(e:A.frames=some (env::outer))(d:s.heap.FunFrames base (env::outer))(f:env.frame=some L)(t:OZ q s.heap base x c .none)(i:base.StaysIn s.heap)(b:base.get? x=none)
  (k:∀h',base.StaysIn h'->h'.FunFrames base (env::outer)->OZ q h' base x c .none->s.heap.UpToSlots h'->Q () { s with heap:=h' }):El M A (leaving env<|.ref x) Q E s:=by
 unfold leaving;exact Q4<|NC h e d f t i b fun g j l n o=>x9 (s:={ s with heap:=g }) j l n fun h' p r u v=>k h' p r u<|o.trans v
end
open PySem.Spec PyProof.Rows
abbrev Key:=Sum Int Str
def Bk:Key->Ei->Bool
 | .inl k,v=>Value.isInt k v
 | .inr x,v=>Ld x v
def bZ (w:Eo):Key->Int
 | .inl k=>hashInt k
 | .inr x=>hashStr w x
theorem yJ:∀{k:Key} {v:Ei},Bk k v=true->(∃i t,k=Sum.inl i/\v=Mx i t)\/(∃x t,k=Eu x/\v=Ma x t)
 | .inl i,v,h=>by
  obtain⟨t,e⟩:=Value.isInt_shape (k:=i) (v:=v) h;exact .inl ⟨i,t,rfl,e⟩
 | .inr x,v,h=>by
  obtain⟨t,e⟩:=Y6 (x:=x) (v:=v) h;exact .inr ⟨x,t,rfl,e⟩
theorem Ow (i:Int)(t:Tok):Bk (.inl i) (.int i t)=true:=by simp[Bk,Value.isInt]
theorem qG (x:Str)(t:Tok):Bk (.inr x) (.str x t)=true:=by simp[Bk,Ld]
theorem Wh (a b:Int):decide ((Sum.inl a:Key)=Sum.inl b)=(a==b):=by
 by_cases e:a=b
 ·subst e;simp
 ·have h:¬(Sum.inl a:Key)=Sum.inl b:=fun q=>e<|Sum.inl.inj q;rw[Zo h];exact(YH.mpr e).symm
theorem Wk (a b:Str):decide ((Eu a:Key)=Eu b)=decide (a=b):=by
 by_cases e:a=b
 ·subst e;simp
 ·have h:¬(Eu a:Key)=Eu b:=fun q=>e<|Sum.inr.inj q;rw[Zo h,Zo e]
theorem Wi (a:Int)(b:Str):decide ((Sum.inl a:Key)=Eu b)=false:=Zo<|fun q=>nomatch q
theorem Wj (a:Str)(b:Int):decide ((Eu a:Key)=Sum.inl b)=false:=Zo<|fun q=>nomatch q
def za (prog:Ek)(w:Eo):PySem.KeyKind prog w Key where
 is:=Bk
 hash:=bZ w
 inj:=fun v a b g f=>by
  rcases yJ g with⟨i,t,rfl,rfl⟩|⟨x,t,rfl,rfl⟩
  ·rcases yJ f with⟨j,u,rfl,e⟩|⟨y,u,rfl,e⟩
   ·injection e with c _;rw[c]
   ·exact nomatch e
  ·rcases yJ f with⟨j,u,rfl,e⟩|⟨y,u,rfl,e⟩
   ·exact nomatch e
   ·injection e with c _;rw[c]
 byValue:=fun k v h=>by
  rcases yJ h with⟨i,t,rfl,rfl⟩|⟨x,t,rfl,rfl⟩<;>rfl
 pyHash:=fun d h=>by
  rcases yJ d with⟨i,t,rfl,rfl⟩|⟨x,t,rfl,rfl⟩
  ·exact wpAny_pyHash_int h
  ·exact wpAny_pyHash_str h
 eqBool:=fun l d h=>by
  rcases yJ l with⟨i,t,rfl,rfl⟩|⟨x,t,rfl,rfl⟩
  ·rcases yJ d with⟨j,u,rfl,rfl⟩|⟨y,u,rfl,rfl⟩
   ·rw[Wh]at h;exact wpAny_eqBool_int h
   ·rw[Wi]at h;exact SeqAt.EqAt.int_str i t y u _ _ _ _ h
  ·rcases yJ d with⟨j,u,rfl,rfl⟩|⟨y,u,rfl,rfl⟩
   ·rw[Wj]at h;exact SeqAt.EqAt.str_int x t j u _ _ _ _ h
   ·rw[Wk]at h;exact wpAny_eqBool_str h
 «strs»:=fun k x t v h=>by
  rcases yJ h with⟨i,u,rfl,e⟩|⟨y,u,rfl,e⟩
  ·exact nomatch e
  ·injection e with c _;subst c;cases v<;>rfl
theorem Hj (prog:Ek)(w:Eo)(i:Int)(t:Tok):(za prog w).is (.inl i) (.int i t)=true:=Ow i t
theorem Hk (prog:Ek)(w:Eo)(x:Str)(t:Tok):(za prog w).is (.inr x) (.str x t)=true:=qG x t
inductive V where
 |non|bl (b:Bool)|int (i:Int)|str (x:Str)|byt (b:Array UInt8)|flt (b:UInt64)|ref (a:Ej)|ty (n:String)
 deriving DecidableEq
abbrev Dl:=List<|Key×V
abbrev Dj:=List V
def yq:V->Ei->Prop
 | .non,u=>u=EI
 | .bl b,u=>u=L7 b
 | .int i,u=>∃t,u=Mx i t
 | .str x,u=>∃t,u=Ma x t
 | .byt b,u=>∃t,u=Value.bytes b t
 | .flt b,u=>∃t,u=Value.float b t
 | .ref a,u=>u=Ez a
 | .ty n,u=>u=E3 n
abbrev yr:Dj->Db->Prop:=Lp yq
theorem yr.length (r:yr xs us):xs.length=us.length:=Paired.length r
theorem yr.get:∀{xs:Dj} {us:Db} {i:Nat} {x:V},yr xs us->xs[i]?=some x->∃u,us[i]?=some u/\yq x u
 |_,_,_,_,.nil,e=>by simp at e
 |_,_,0,_,.cons r _,e=>by simp at e;subst e;exact⟨_,rfl,r⟩
 |_,_,i+1,x,.cons _ t,e=>by
  obtain⟨u,b,c⟩:=yr.get (i:=i) (x:=x) t (by simpa using e);exact⟨u,by simpa using b,c⟩
theorem yr.append:∀{xs ys:Dj} {us ws:Db},yr xs us->yr ys ws->yr (xs++ys) (us++ws)
 |_,_,_,_,.nil,s=>s
 |_,_,_,_,.cons r t,s=>.cons r<|yr.append t s
theorem yr.take:∀{xs:Dj} {us:Db} (n:Nat),yr xs us->yr (xs.take n) (us.take n)
 |_,_,0,_=>.nil
 |_,_,_+1,.nil=>.nil
 |_,_,n+1,.cons r t=>.cons r<|yr.take n t
theorem yr.drop:∀{xs:Dj} {us:Db} (n:Nat),yr xs us->yr (xs.drop n) (us.drop n)
 |_,_,0,r=>r
 |_,_,_+1,.nil=>.nil
 |_,_,n+1,.cons _ t=>yr.drop n t
def wu:Option V->Dc->Prop
 |some v,some u=>yq v u
 |none,none=>True
 |_,_=>False
def KV {κ:Type}:List (κ×V)->List (κ×Ei)->Prop:=Lp fun(p:κ×V) (q:κ×Ei)=>p.1=q.1/\yq p.2 q.2
def kV:Key->V
 | .inl i=>.int i
 | .inr x=>.str x
inductive HO where
 |lst (xs:Dj)
 |tup (xs:Dj)
 |dK (Dm:Dl)|dT (Dm:List<|List Key×V)
 |set (S:Int->Bool) (n:Nat)
 |ins (C dx:Ej) (fs:List<|Str×V)
 |own (x:Ej)
 |xd (fs:List<|Str×V)
 |met (f x:Ej)
 |rng (lo hi:Int)
 |frz (o:Obj) (u:HO)
 |tbl (ps:Array Ei)
 |ext (φ:EB->Prop)
abbrev Hp:=Ej->Option HO
def upd (H:Hp)(a:Ej)(o:HO):Hp:=fun b=>if b=a then some o else H b
theorem zC:upd H a o a=some o:=by unfold upd;rw[Zt rfl]
theorem zG {a b:Ej}(h:b≠a):upd H a o b=H b:=by unfold upd;rw[Zs h]
theorem vM:upd (upd H a o) a u=upd H a u:=by
 funext b;unfold upd;split<;>rfl
theorem aI {H:Hp}{a b:Ej}{o u:HO}(h:H a=some o)(h':H b=some u)(d:o≠u):a≠b:=by
 intro e;subst e;rw[h]at h';exact d<|Option.some.inj h'
theorem zQ {H:Hp}{a b:Ej}{o:HO}(h:H a=some o)(h':H b=none):a≠b:=by
 intro e;subst e;rw[h]at h';cases h'
def TupAt (h:EB)(a:Ej)(Dn:Array Ei):Prop:=∃o,h.get? a=some o/\o.cls=.type "tuple"/\∃n,o.data=.seq Dn n/\o.dict=none
theorem TupAt.is (t:TupAt h a Dn):IsTup h a Dn:=let ⟨o,h1,h2,n,h3,_⟩:=t;⟨o,h1,h2,n,h3⟩
theorem TupAt.lt (t:TupAt h a Dn):a<h.objs.size:=t.is.lt
theorem TupAt.new (h:EB)(Dn:Array Ei):TupAt (h.push { cls:=.type "tuple",data:=.seq Dn }) h.objs.size Dn:=⟨_,Zk _ rfl,rfl,_,rfl,rfl⟩
section
variable (P:Ek)(w:Eo)
def yp (H:Hp)(h:EB)(a:Ej):HO->Prop
 | .lst c=>c.length<=sizeLine/\∃(b:Db) (n:Nat),yr c b/\h.get? a=some { cls:=.type "list",data:=.seq b.toArray n }
 | .tup c=>c.length<=sizeLine/\∃b:Db,yr c b/\TupAt h a b.toArray
 | .dK Dm=>Dm.length<=sizeLine/\(a==EV)=false/\∃j,KV Dm j/\h.DictOf (za P w) a j
 | .dT Dm=>Dm.length<=sizeLine/\(a==EV)=false/\∃c:List<|List Key×Ej×Ei,
   Lp (fun(p:List Key×V) (q:List Key×Ej×Ei)=>p.1=q.1/\H q.2.1=some (.tup<|p.1.map kV)/\yq p.2 q.2.2) Dm c /\
   ∃o e l,h.get? a=some o/\o.ExactDict/\o.data=.dict e l/\e.toList=c.map (L8<|My<|za P w)/\(c.map (·.1)).Nodup
 | .set S n=>h.SetOf (intKind P w) a S n
 | .ins C dx fs=>H dx=some (.own a)/\fs.length<=1000/\dx≠a/\h.get? a=some (Lq C dx) /\
   ∃d,h.Ns1 dx d/\(∀f,wu (fs.lookup f)<|d f)/\PySem.Within d (fs.map (·.1))
 | .own _=>∃o,h.get? a=some o
 | .xd fs=>∃d,h.Ns1 a d/\∀f,wu (fs.lookup f)<|d f
 | .rng lo hi=>∃t u v,h.get? a=some { cls:=.type "range",data:=.fields #[.int lo t,.int hi u,.int 1 v] }
 | .frz o u=>h.get? a=some o/\yp H h a u
 | .tbl ps=>h.get? a=some { cls:=.none,data:=.fields ps }
 | .met f x=>h.get? a=some (PySem.W.methodObj (.ref f)<|.ref x)
 | .ext φ=>φ h/\(∃o,h.get? a=some o)/\∀g i:EB,φ g->(∀o,g.get? a=some o->i.get? a=some o)->φ i
def vf (H:Hp)(h:EB):Prop:=∀a o,H a=some o->yp P w H h a o
end
section
variable {P:Ek}{w:Eo}{H H':Hp}{h h':EB}{a:Ej}{o:HO}
theorem yp.lt (x:yp P w H h a o):a<h.objs.size:=by
 cases o with
 |lst xs=>obtain⟨_,_,_,_,e⟩:=x;exact Zl e
 |tup xs=>obtain⟨_,_,_,p⟩:=x;exact p.lt
 |dK Dm=>obtain⟨_,_,_,_,o,_,_,e,_⟩:=x;exact Zl e
 |dT Dm=>obtain⟨_,_,_,_,o,_,_,e,_⟩:=x;exact Zl e
 |set S n=>obtain⟨o,_,_,_,e,_⟩:=x;exact Zl e
 |ins C dx fs=>obtain⟨_,_,_,e,_⟩:=x;exact Zl e
 |own y=>obtain⟨_,e⟩:=x;exact Zl e
 |xd fs=>obtain⟨_,⟨_,_,_,e,_⟩,_⟩:=x;exact Zl e
 |rng lo hi=>obtain⟨_,_,_,e⟩:=x;exact Zl e
 |frz ob u=>obtain⟨e,_⟩:=x;exact Zl e
 |tbl ps=>exact Zl<|show h.get? a=some _ from x
 |met f y=>exact Zl<|show h.get? a=some _ from x
 |ext φ=>obtain⟨_,⟨_,e⟩,_⟩:=x;exact Zl e
theorem Paired.mQ {α c:Type}{F G:α->c->Prop}:∀{l₁:List α} {l₂:List c},Lp F l₁ l₂->(∀a b,F a b->G a b)->Lp G l₁ l₂
 |_,_,.nil,_=>.nil
 |_,_,.cons r t,f=>.cons (f _ _ r)<|Paired.mQ t f
theorem yp.stay (x:yp P w H h a o)(k:∀b u,(b=a\/H b=some (.own a))->h.get? b=some u->h'.get? b=some u)
  (D:∀b,H b=some (.own a)->H' b=some (.own a)) (E:∀b xs,H b=some (.tup xs)->H' b=some (.tup xs)):yp P w H' h' a o:=by
 induction o with
 |lst xs=>obtain⟨z,l,n,r,e⟩:=x;exact⟨z,l,n,r,k _ _ (.inl rfl) e⟩
 |tup xs=>obtain⟨z,l,r,g,e,c⟩:=x;exact⟨z,l,r,g,k _ _ (.inl rfl) e,c⟩
 |dK Dm=>obtain⟨z,y,F,r,g,j,i,e,c⟩:=x;exact⟨z,y,F,r,g,j,i,k _ _ (.inl rfl) e,c⟩
 |dT Dm =>
  obtain⟨z,y,xs,r,g,j,i,e,c⟩:=x;exact⟨z,y,xs,Paired.mQ r fun p q z=>⟨z.1,E _ _ z.2.1,z.2.2⟩,g,j,i,k _ _ (.inl rfl) e,c⟩
 |set S n=>obtain⟨g,j,i,t,e,c⟩:=x;exact⟨g,j,i,t,k _ _ (.inl rfl) e,c⟩
 |ins C dx fs =>
  obtain⟨d,z,ne,e,s,⟨A,j,i,B,c⟩,r⟩:=x;exact⟨D _ d,z,ne,k _ _ (.inl rfl) e,s,⟨A,j,i,k _ _ (.inr d) B,c⟩,r⟩
 |own y=>obtain⟨g,e⟩:=x;exact⟨g,k _ _ (.inl rfl) e⟩
 |xd fs=>obtain⟨s,⟨A,j,i,e,c⟩,r⟩:=x;exact⟨s,⟨A,j,i,k _ _ (.inl rfl) e,c⟩,r⟩
 |rng lo hi=>obtain⟨t,u,v,e⟩:=x;exact⟨t,u,v,k _ _ (.inl rfl) e⟩
 |frz g u ih=>obtain⟨e,q⟩:=x;exact⟨k _ _ (.inl rfl) e,ih q⟩
 |tbl ps =>
  have e:h.get? a=some { cls:=.none,data:=.fields ps }:=x;show h'.get? a=some { cls:=.none,data:=.fields ps };exact k a _ (.inl rfl) e
 |met f y =>
  have e:h.get? a=some (PySem.W.methodObj (.ref f)<|.ref y):=x;show h'.get? a=some (PySem.W.methodObj (.ref f)<|.ref y);exact k a _ (.inl rfl) e
 |ext φ=>obtain⟨p,⟨o,e⟩,st⟩:=x;exact⟨st _ _ p fun o q=>k _ _ (.inl rfl) q,⟨o,k _ _ (.inl rfl) e⟩,st⟩
theorem vf.lt (x:vf P w H h)(e:H a=some o):a<h.objs.size:=(x a o e).lt
theorem vf.fresh (x:vf P w H h)(e:h.objs.size<=a):H a=none:=by
 cases q:H a with
 |none=>rfl
 |some u=>exact absurd (ZC (x.lt q) e)<|YC _
theorem vf.kept (x:vf P w H h)(k:∀b u,h.get? b=some u->h'.get? b=some u):vf P w H h':=fun a o e =>
 (x a o e).stay (fun b u _ q=>k b u q) (fun _ q=>q) fun _ _ q=>q
theorem vf.laid (x:vf P w H h)(k:∀b u,h.get? b=some u->h'.get? b=some u)(g:h.objs.size<=a)(new:yp P w (upd H a o) h' a o):vf P w (upd H a o) h':=fun b u e=>by
 have f:=x.fresh g
 by_cases d:b=a
 ·subst d;rw[zC]at e;cases e;exact new
 ·rw[zG d]at e;exact(x b u e).stay (fun c v _ q=>k c v q) (fun c q=>by rwa[zG<|zQ q f]) fun c i q=>by rwa[zG<|zQ q f]
end
def Rd (H:Hp)(a:Ej)(u:HO):Prop:=H a=some u\/∃o,H a=some (.frz o u)
theorem Rd.ok (r:Rd H a u)(x:vf P w H h):yp P w H h a u:=by
 rcases r with r|⟨o,r⟩
 ·exact x a u r
 ·obtain⟨_,q⟩:=x a _ r;exact q
def TV:Option HO->Prop
 |some (.lst _)=>True
 |some (.dK _)=>True
 |some (.dT _)=>True
 |some (.set _ _)=>True
 |some (.ins _ _ _)=>True
 |some (.ext _)=>True
 |_=>False
section
variable {P:Ek}{w:Eo}{H:Hp}{h h':EB}{x e:Ej}{o':HO}
theorem vf.write (ok:vf P w H h)(l:TV<|H x)(p:e=x\/H e=some (.own x))(k:∀b u,b≠e->h.get? b=some u->h'.get? b=some u)(o:∃u,h'.get? e=some u)
  (new:yp P w (upd H x o') h' x o'):vf P w (upd H x o') h':=fun b u q=>by
 have f:∀c y,H c=some (.own y)->c≠x:=fun c y r z=>by subst z;rw[r]at l;exact l
 have g:∀c n,H c=some (.tup n)->c≠x:=fun c n r z=>by subst z;rw[r]at l;exact l
 by_cases i:b=x
 ·subst i;rw[zC]at q;cases q;exact new
 ·rw[zG i]at q
  by_cases d:b=e
  ·have s:H b=some (.own x):=by
    rcases p with z|z
    ·exact absurd (d.trans z) i
    ·rwa[d]
   rw[q]at s;cases s;obtain⟨v,t⟩:=o;exact⟨v,by rw[d];exact t⟩
  ·refine(ok b u q).stay (fun c v j r=>k c v ?_ r) (fun c r=>by rwa[zG<|f c b r]) fun c n r=>by rwa[zG<|g c n r]
   rcases j with rfl|j
   ·exact d
   ·rintro rfl
    rcases p with z|z
    ·exact f c b j z
    ·rw[j]at z;cases z;exact i rfl
end
structure Un (fs ex:Dd)(H H':Hp)(h h':EB):Prop where
 keep:∀b o,h.get? b=some o->H b=none->b∉fs->b∉ex->h'.get? b=some o
 slot:∀b o,h.get? b=some o->H b=none->b∈fs->b∉ex->∃sl,h'.get? b=some { o with slots:=sl }
 free:∀b o,h.get? b=some o->H b=none->b∉ex->H' b=none
 there:∀b o,h.get? b=some o->b∉ex->∃o',h'.get? b=some o'
 tups:∀b xs,H b=some (.tup xs)->H' b=some (.tup xs)
 wg:∀b o u,H b=some (.frz o u)->H' b=some (.frz o u)
 vz:∀b ps,H b=some (.tbl ps)->∃more,H' b=some (.tbl<|ps++more)
section
variable {fs fs' ex ex':Dd}{H H1 H2:Hp}{h h1 h2 h':EB}{a x e:Ej}{o:HO}
theorem Un.any (u:Un fs ex H H1 h h1){b:Ej}{c:Obj}(q:h.get? b=some c)(n:H b=none)(e:b∉ex):∃sl,h1.get? b=some { c with slots:=sl }:=by
 by_cases d:b∈fs
 ·exact u.slot b c q n d e
 ·exact⟨c.slots,u.keep b c q n d e⟩
theorem Un.kept (k:∀b u,h.get? b=some u->h'.get? b=some u):Un fs ex H H h h' :=
 ⟨fun b c q _ _ _=>k b c q,fun b c q _ _ _=>⟨c.slots,k b c q⟩,fun _ _ _ n _=>n,fun b c q _=>⟨c,k b c q⟩,fun _ _ q=>q,fun _ _ _ q=>q,fun _ d q=>⟨#[],by rw[q];simp⟩⟩
theorem Un.refl:Un fs ex H H h h:=Un.kept fun _ _ q=>q
theorem Un.laid (k:∀b u,h.get? b=some u->h'.get? b=some u)(d:h.objs.size<=a)(c:H a=none):Un fs ex H (upd H a o) h h' where
 keep:=fun b u q _ _ _=>k b u q
 slot:=fun b u q _ _ _=>⟨u.slots,k b u q⟩
 free:=fun b u q n _=>by rwa[zG<|Zu<|ZC (Zl q) d]
 there:=fun b u q _=>⟨u,k b u q⟩
 tups:=fun b e q=>by rwa[zG<|zQ q c]
 wg:=fun b u e q=>by rwa[zG<|zQ q c]
 vz:=fun b f q=>⟨#[],by rw[zG<|zQ q c,q];simp⟩
theorem Un.write (d:TV<|H x)(l:e=x\/H e=some (.own x))(k:∀b u,b≠e->h.get? b=some u->h'.get? b=some u)(f:∃u,h'.get? e=some u):Un fs ex H (upd H x o) h h':=by
 have j:∀b,H b=none->b≠x:=fun b n z=>by subst z;rw[n]at d;exact d
 have i:∀b,H b=none->b≠e:=fun b n z=>by
  subst z
  rcases l with r|r
  ·exact j b n r
  ·rw[n]at r;cases r
 have g:∀b u,H b=some u->¬TV (some u)->b≠x:=fun b u q nm z=>by subst z;rw[q]at d;exact nm d
 refine⟨fun b u q n _ _=>k b u (i b n) q,fun b u q n _ _=>⟨u.slots,k b u (i b n) q⟩,fun b u q n _=>by rw[zG<|j b n];exact n,fun b u q _=>?_,
  fun b p q=>by rw[zG<|g b _ q fun z=>z];exact q,fun b u p q=>by rw[zG<|g b _ q fun z=>z];exact q,fun b s q=>⟨#[],by rw[zG<|g b _ q fun z=>z,q];simp⟩⟩
 by_cases c:b=e
 ·subst c;exact f
 ·exact⟨u,k b u c q⟩
end
def bJ (h:EB)(H:Hp):Dd:=(EC h.objs.size).filter fun a=>(H a).isSome
def CQ (h:EB)(H:Hp):Heap:=PySem.W.hideAll h<|bJ h H
theorem Ou (h:EB)(H:Hp):(CQ h H).objs.size=h.objs.size:=PySem.W.hideAll_size _ _
theorem Gq {h:EB}{H:Hp}{b:Ej}{o:Obj}(e:h.get? b=some o)(n:H b=none):(CQ h H).get? b=some o :=
 Jm _ e fun c=>by
  have q:(H b).isSome=true:=(Yy.mp c).2;rw[n]at q;simp at q
theorem SE {b:Ej}{o:Obj}(e:(CQ h H).get? b=some o):h.get? b=some o/\H b=none:=by
 have c:h.get? b=some o:=PySem.W.of_hideAll (bJ h H) e;refine⟨c,?_⟩;cases q:H b with
 |none=>rfl
 |some x =>
  have d:b∈bJ h H:=Yy.mpr ⟨YV.mpr<|Zl c,by simp[q]⟩;have z:(CQ h H).get? b=none:=Vb (bJ h H) d;rw[z]at e;cases e
structure Mod (K:Ca)(mg:Str->Dc)(base:EB):Prop where
 mW:K.In base
 glob:base.Ns Ew mg
 blt:∃mb,base.Ns builtinsNs mb/\∀x:Str,x≠"__name__"->mb x=LL x
 nolimit:base.NoLimit
structure Cx where
 prog:Ek
 w:Eo
 K:Ca
 mg:Str->Dc
 base:EB
 A:EF
 N:Da
 s₀:Em
 H₀:Hp
 env:Env
 outer:List Env
 stack:List Env
 ex:Dd
 fn:Str->Bool
 calm:Bool
 pn:De
 xe:Ei->Dh
def frs (l:List Env):Dd:=l.filterMap (·.frame)
abbrev Cx.fs (X:Cx):Dd:=frs X.outer
def bF (sc:LV)(x:Str):Prop:=sc.names.lookup x=some .local\/sc.names.lookup x=some .cell\/sc.names.lookup x=some .free
def Loc (sc:LV)(x:Str):Prop:=sc.names.lookup x=some .local\/sc.names.lookup x=some .cell
def Look (env:Env)(h:EB)(m:Str->Dc)(x:Str)(u:Ei):Prop :=
 (env.kindOf x=some .local/\m x=some u)\/((env.kindOf x=some .cell\/env.kindOf x=some .free)/\∃c,env.cells.lookup x=some c/\h.IsCell c (some u))
structure Cx.Ok (X:Cx):Prop where
 mod:Mod X.K X.mg X.base
 kind:X.env.scope.kind=.function
 glob:X.env.globals=Ew
 blt:X.env.builtins=builtinsNs
 above:X.s₀.heap.objs.size<=X.env.locals
 inj:∀x y c,X.env.cells.lookup x=some c->X.env.cells.lookup y=some c->x=y
 has:∀x,(X.env.kindOf x=some .cell\/X.env.kindOf x=some .free)->∃c,X.env.cells.lookup x=some c
 cab:∀x c,X.fn x=true->X.env.cells.lookup x=some c->X.s₀.heap.objs.size<=c
 hd:X.calm=true->X.A.handled=none
 frames:X.A.frames=some X.stack
 stk:X.stack=X.outer\/(X.stack=X.env::X.outer/\X.env.frame=some X.env.locals)
 mC:∀b∈X.ex,b≠X.env.locals/\∀x c,X.env.cells.lookup x=some c->c≠b
 bs:∀b o,X.base.get? b=some o->X.s₀.heap.get? b=some o/\X.H₀ b=none
 oY:X.base.objs.size<=X.s₀.heap.objs.size
 qj:∀b o,X.base.get? b=some o->b∉X.ex
 qu:∀b∈X.ex,b∉X.fs
 uz:X.s₀.heap.FunFrames X.base X.outer
 nJ:∀b∈X.fs,X.H₀ b=none
structure Inv (X:Cx)(Do:De)(σ:List<|Option V)(H:Hp)(s:Em):Prop where
 ok:X.Ok
 os:s.os=X.s₀.os
 bare:ME s.gens
 base:Un X.fs X.ex X.H₀ H X.s₀.heap s.heap
 loc:∃m,s.heap.Ns X.env.locals m/\∀(i:Nat) (x:Str) (v:V),X.N[i]?=some x->σ[i]?=some (some v)->bF X.env.scope x->∃u,yq v u/\Look X.env s.heap m x u
 cell:∀x c,X.env.cells.lookup x=some c->∃v,s.heap.IsCell c v
 free:H X.env.locals=none
 wQ:∀x c,X.env.cells.lookup x=some c->H c=none
 pin:∀p∈X.pn++Do,s.heap.get? p.1=some p.2/\H p.1=none/\p.1≠X.env.locals/\p.1∉X.fs/\∀v,p.2.data≠.cell v
 hok:vf X.prog X.w H s.heap
 len:σ.length=X.N.length
section
variable {X:Cx}{Do:De}{σ:List (Option V)}{H H':Hp}{s:Em}{h':EB}
theorem Cx.Ok.jt (ok:X.Ok){b:Ej}{o:Obj}(e:X.base.get? b=some o):b∉X.fs:=fun c=>by
 have:=(ok.uz.mem c).1;rw[e]at this;cases this
theorem Inv.bs (I:Inv X Do σ H s):∀b o,X.base.get? b=some o->s.heap.get? b=some o/\H b=none:=fun b o e =>
 ⟨I.base.keep b o (I.ok.bs b o e).1 (I.ok.bs b o e).2 (I.ok.jt e)<|I.ok.qj b o e,I.base.free b o (I.ok.bs b o e).1 (I.ok.bs b o e).2<|I.ok.qj b o e⟩
theorem Inv.bk (I:Inv X Do σ H s):∀b o,X.base.get? b=some o->s.heap.get? b=some o:=fun b o e=>(I.bs b o e).1
theorem Inv.mod (I:Inv X Do σ H s):Mod X.K X.mg X.base:=I.ok.mod
theorem Inv.vq (I:Inv X Do σ H s):X.K.In s.heap:=I.ok.mod.mW.keeps I.bk
theorem Inv.nolimit (I:Inv X Do σ H s):s.heap.NoLimit:=I.ok.mod.nolimit.keeps I.bk
theorem Inv.lt (I:Inv X Do σ H s):X.env.locals<s.heap.objs.size:=let ⟨_,hn,_⟩:=I.loc;hn.lt
theorem Inv.sz (I:Inv X Do σ H s):X.s₀.heap.objs.size<=s.heap.objs.size:=ZL I.ok.above<|Yu I.lt
theorem Inv.mF (I:Inv X Do σ H s){a:Ej}(h:s.heap.objs.size<=a):a∉X.fs:=fun b=>by
 obtain⟨_,o,c,_⟩:=I.ok.uz.mem b;exact absurd (ZC (Zl c)<|ZL I.sz h)<|YC _
theorem Inv.lZ (I:Inv X Do σ H s):∀x c,X.env.cells.lookup x=some c->c≠X.env.locals:=fun x c e z=>by
 obtain⟨v,o,f,hd⟩:=I.cell x c e;obtain⟨m,⟨i,h,g,d,b,_⟩,_⟩:=I.loc;rw[z,d]at f;cases f;rw[b]at hd;cases hd
theorem Inv.uz (I:Inv X Do σ H s):s.heap.FunFrames X.base X.outer:=by
 have all:∀(l:List Env),(∀b∈frs l,b∈X.fs)->X.s₀.heap.FunFrames X.base l->s.heap.FunFrames X.base l:=by
  intro l
  induction l with
  |nil=>intro _ _;trivial
  |cons env r ih =>
   intro g hl;obtain⟨h,⟨L,o,f,i,j,hd⟩,n⟩:=hl;have c:L∈X.fs:=g L (by unfold frs;rw[Y7,f];exact Zc);obtain⟨p,e⟩:=I.base.slot L o j (I.ok.nJ L c) c fun z=>I.ok.qu L z c;exact⟨h,⟨L,_,f,i,e,hd⟩,ih (fun b d=>g b (by unfold frs;rw[Y7,f];exact Q9 _ d)) n⟩
 exact all X.outer (fun _ d=>d) I.ok.uz
theorem Inv.stack (I:Inv X Do σ H s):s.heap.FunFrames X.base X.stack:=by
 rcases I.ok.stk with e|⟨e,b⟩
 ·rw[e];exact I.uz
 ·rw[e];obtain⟨m,c,_⟩:=I.loc;refine .cons (by rw[I.ok.kind];decide) b c ?_ I.uz;exact VZ<|ZL I.ok.oY I.ok.above
theorem Inv.tM (I:Inv X Do σ H s):∀b∈frs X.stack,b∈X.env.locals::X.fs:=fun b c=>by
 rcases I.ok.stk with e|⟨e,d⟩
 ·rw[e]at c;exact Q9 _ c
 ·rw[e]at c;unfold frs at c;rw[Y7,d]at c;exact c
theorem Inv.tU (I:Inv X Do σ H s):∀b∈frs X.stack,H b=none:=fun b c=>by
 rcases Zh.mp (I.tM b c) with e|c
 ·rw[e];exact I.free
 ·obtain⟨_,o,d,_⟩:=I.ok.uz.mem c;exact I.base.free b o d (I.ok.nJ b c) fun z=>I.ok.qu b z c
theorem Inv.step {g':Array GenState}{t':Nat}{d':Drawn}{ch:Dd}(I:Inv X Do σ H s)
  (h:∀b∈ch,(b∈X.ex\/X.s₀.heap.objs.size<=b)/\b≠X.env.locals/\(∀x c,X.env.cells.lookup x=some c->c≠b)/\∀p∈X.pn++Do,p.1≠b)
  (keep:∀b o,b≠X.env.locals->b∉X.fs->b∉ch->s.heap.get? b=some o->H b=none->h'.get? b=some o)
  (slot:∀b o,b≠X.env.locals->b∈X.fs->b∉ch->s.heap.get? b=some o->H b=none->∃sl,h'.get? b=some { o with slots:=sl }) (free:∀b o,b∉ch->s.heap.get? b=some o->H b=none->H' b=none)
  (there:∀b o,b∉ch->s.heap.get? b=some o->∃o',h'.get? b=some o')
  (tups:∀b xs,H b=some (.tup xs)->H' b=some (.tup xs)) (wg:∀b o u,H b=some (.frz o u)->H' b=some (.frz o u)) (vz:∀b ps,H b=some (.tbl ps)->∃more,H' b=some (.tbl<|ps++more))
  (ns:∀m,s.heap.Ns X.env.locals m->h'.Ns X.env.locals m) (hok:vf X.prog X.w H' h') (L:ME g') :
  Inv X Do σ H' { s with heap:=h',gens:=g',drawn:=d',toks:=t' }:=by
 have D:∀b o,X.s₀.heap.get? b=some o->b≠X.env.locals:=fun b o e=>Zu<|ZC (Zl e) I.ok.above;have y:∀b o,X.s₀.heap.get? b=some o->b∉X.ex->b∉ch:=fun b o e f A=>by
  rcases(h b A).1 with z|z
  ·exact f z
  ·exact absurd (ZC (Zl e) z) (YC _)
 have g:∀x c,X.env.cells.lookup x=some c->∀v,s.heap.IsCell c v->h'.IsCell c v:=fun x c e v ⟨o,B,hd⟩=>by
  have j:c∉ch:=fun z=>(h c z).2.2.1 x c e rfl
  by_cases F:c∈X.fs
  ·obtain⟨sl,q⟩:=slot c o (I.lZ x c e) F j B<|I.wQ x c e;exact⟨_,q,hd⟩
  ·exact⟨o,keep c o (I.lZ x c e) F j B<|I.wQ x c e,hd⟩
 refine⟨I.ok,I.os,L,⟨fun b o e n A f=>?_,fun b o e n A f=>?_,fun b o e n f=>?_,fun b o e f=>?_,fun b xs e=>tups b xs<|I.base.tups b xs e,fun b o xs e=>wg b o xs<|I.base.wg b o xs e,fun b ps e=>?_⟩,?_,fun x c e=>?_,?_,fun x c e=>?_,fun p G=>?_,hok,I.len⟩
 ·exact keep b o (D b o e) A (y b o e f) (I.base.keep b o e n A f) (I.base.free b o e n f)
 ·obtain⟨sl,t⟩:=I.base.slot b o e n A f;obtain⟨E,C⟩:=slot b _ (D b o e) A (y b o e f) t<|I.base.free b o e n f;exact⟨E,C⟩
 ·obtain⟨o',t⟩:=I.base.there b o e f;exact free b o' (y b o e f) t<|I.base.free b o e n f
 ·obtain⟨o',t⟩:=I.base.there b o e f;exact there b o' (y b o e f) t
 ·obtain⟨N,t⟩:=I.base.vz b ps e;obtain⟨O,C⟩:=vz b _ t;exact⟨N++O,by rw[C,Array.append_assoc]⟩
 ·obtain⟨m,M,hl⟩:=I.loc;refine⟨m,ns m M,fun i x v t C K=>?_⟩;obtain⟨u,r,l⟩:=hl i x v t C K;refine⟨u,r,?_⟩
  rcases l with l|⟨k,c,e,z⟩
  ·exact .inl l
  ·exact .inr ⟨k,c,e,g x c e _ z⟩
 ·obtain⟨v,z⟩:=I.cell x c e;exact⟨v,g x c e v z⟩
 ·obtain⟨m,⟨o,_,_,B,_⟩,_⟩:=I.loc;exact free _ o (fun z=>(h _ z).2.1 rfl) B I.free
 ·obtain⟨v,o,B,hd⟩:=I.cell x c e;exact free c o (fun z=>(h c z).2.2.1 x c e rfl) B (I.wQ x c e)
 ·obtain⟨e,n,ne,J,d⟩:=I.pin p G;have j:p.1∉ch:=fun z=>(h p.1 z).2.2.2 p G rfl;exact⟨keep p.1 p.2 ne J j e n,free p.1 p.2 j e n,ne,J,d⟩
theorem Inv.un {t':Nat}(I:Inv X Do σ H s)(u:Un X.fs [] H H' s.heap h')(hok:vf X.prog X.w H' h'):Inv X Do σ H' { s with heap:=h',toks:=t' }:=by
 obtain⟨m,⟨o,q,p,h,r⟩,_⟩:=id I.loc;obtain⟨x,i⟩:=u.any h I.free (by simp);exact I.step (g':=s.gens) (d':=s.drawn) (ch:=[]) (fun _ z=>nomatch z) (fun b o _ g _ e n=>u.keep b o e n g<|by simp) (fun b o _ g _ e n=>u.slot b o e n g<|by simp) (fun b o _ e n=>u.free b o e n<|by simp) (fun b o _ e=>u.there b o e<|by simp) u.tups u.wg u.vz (fun t j=>by
  obtain⟨v,f,d,c,l⟩:=j;rw[h]at c;cases c;exact⟨_,f,d,i,l⟩) hok I.bare
theorem Inv.call {g':Array GenState}{t':Nat}{d':Drawn}(I:Inv X Do σ H s)(u:Un (frs X.stack) ch H H' s.heap h')(hok:vf X.prog X.w H' h')(t:ME g')
  (f:∀b∈ch,(b∈X.ex\/X.s₀.heap.objs.size<=b)/\b≠X.env.locals/\(∀x c,X.env.cells.lookup x=some c->c≠b)/\∀p∈X.pn++Do,p.1≠b) :
  Inv X Do σ H' { s with heap:=h',gens:=g',drawn:=d',toks:=t' }:=by
 obtain⟨m,⟨o,B,A,l,r⟩,_⟩:=id I.loc;obtain⟨E,j⟩:=u.any l I.free fun z=>(f _ z).2.1 rfl;exact I.step (ch:=ch) f (fun b o j q d e n=>u.keep b o e n (fun z=>(Zh.mp<|I.tM b z).elim j q) d) (fun b o _ _ d e n=>u.any e n d) (fun b o d e n=>u.free b o e n d) (fun b o d e=>u.there b o e d) u.tups u.wg u.vz (fun C v=>by
  obtain⟨D,i,h,g,y⟩:=v;rw[l]at g;cases g;exact⟨_,i,h,j,y⟩) hok t
theorem Inv.turned {t':Nat}{it:Ej}(I:Inv X Do σ H s)(k:∀b o,b≠it->s.heap.get? b=some o->h'.get? b=some o)(A:H it=none)(g:it≠X.env.locals)
  (j:it∈X.ex\/X.s₀.heap.objs.size<=it) (l:∀x c,X.env.cells.lookup x=some c->c≠it) (t:∀p∈X.pn++Do,p.1≠it):Inv X Do σ H { s with heap:=h',toks:=t' }:=by
 have f:∀b u,H b=some u->b≠it:=fun b u e z=>by rw[z,A]at e;cases e
 refine I.step (g':=s.gens) (d':=s.drawn) (ch:=[it]) (fun b w=>?_) (fun b o _ _ d e _=>k b o (fun z=>d<|by simp[z]) e) (fun b o _ _ d e _=>⟨o.slots,k b o (fun z=>d<|by simp[z]) e⟩) (fun _ _ _ _ n=>n)
  (fun b o d e=>⟨o,k b o (fun z=>d<|by simp[z]) e⟩) (fun _ _ e=>e) (fun _ _ _ e=>e) (fun b C e=>⟨#[],by rw[e];simp⟩) (fun m y=>?_) (fun b u e=>?_) I.bare
 ·have e:b=it:=by simpa using w
  subst e;exact⟨j,g,l,t⟩
 ·obtain⟨o,i,h,B,r⟩:=y;exact⟨o,i,h,k _ o (EK g) B,r⟩
 ·refine(I.hok b u e).stay (fun c v d q=>k c v ?_ q) (fun _ q=>q) fun _ _ q=>q
  rcases d with z|z
  ·rw[z];exact f b u e
  ·exact f c _ z
theorem Inv.tok (I:Inv X Do σ H s)(t:Nat):Inv X Do σ H { s with toks:=t }:=I.un (h':=s.heap) (t':=t) Un.refl I.hok
theorem Inv.kept {t':Nat}(I:Inv X Do σ H s)(k:∀b u,s.heap.get? b=some u->h'.get? b=some u):Inv X Do σ H { s with heap:=h',toks:=t' }:=I.un (Un.kept k)<|I.hok.kept k
theorem Inv.laid {a:Ej}{t':Nat}(I:Inv X Do σ H s)(k:∀b u,s.heap.get? b=some u->h'.get? b=some u)(c:s.heap.objs.size<=a)(new:yp X.prog X.w (upd H a o) h' a o) :
  Inv X Do σ (upd H a o) { s with heap:=h',toks:=t' }:=I.un (Un.laid k c<|I.hok.fresh c)<|I.hok.laid k c new
theorem Inv.write {x e:Ej}{o:HO}{t':Nat}(I:Inv X Do σ H s)(f:TV<|H x)(d:e=x\/H e=some (.own x))(k:∀b u,b≠e->s.heap.get? b=some u->h'.get? b=some u)(c:∃u,h'.get? e=some u)
  (new:yp X.prog X.w (upd H x o) h' x o):Inv X Do σ (upd H x o) { s with heap:=h',toks:=t' }:=I.un (Un.write f d k c)<|I.hok.write f d k c new
theorem Inv.vW {b:De}(I:Inv X Do σ H s)(h:∀p∈b,s.heap.get? p.1=some p.2/\H p.1=none/\p.1≠X.env.locals/\p.1∉X.fs/\∀v,p.2.data≠.cell v):Inv X b σ H s :=
 ⟨I.ok,I.os,I.bare,I.base,I.loc,I.cell,I.free,I.wQ,fun p c=>(Zy.mp c).elim (fun z=>I.pin p<|ZZ _ z) (h p),I.hok,I.len⟩
theorem Hn {N:Da}(e:N.Nodup){i j:Nat}{x:Str}(a:N[i]?=some x)(b:N[j]?=some x):i=j:=by
 obtain⟨f,c⟩:=Zq.mp a;obtain⟨g,d⟩:=Zq.mp b;exact(YX e).mp (c.trans d.symm)
theorem GV {M:Model}{A:EF}{E:Ei->Dh}{i:Nat}{x:Str}{Q:Unit->Dh}(I:Inv X Do σ H s)(hN:X.N.Nodup)(S:X.N[i]?=some x)(B:Loc X.env.scope x)(r:yq v u)
  (h:∀s',Inv X Do (σ.set i (some v)) H s'->(∃a,ES a s.heap s'.heap/\(a=X.env.locals\/X.env.cells.lookup x=some a))->Q () s') (hf:X.fn x=true\/X.env.scope.names.lookup x=some .local:=by first|exact .inl rfl|exact .inr rfl|assumption):El M A (storeName X.env x u) Q E s:=by
 obtain⟨m,hn,hl⟩:=id I.loc;have R:(X.env.scope.kind==.class||(X.env.scope.kind==.module&&X.env.locals !=X.env.globals))=false:=by rw[I.ok.kind];rfl
 have F:i<σ.length:=by rw[I.len];exact(Zq.mp S).1
 have lZ:=I.lZ;have l:∀{a:Ej} {h':EB},(∃o,s.heap.get? a=some o/\H a=none)->ES a s.heap h'->vf X.prog X.w H h':=fun{a h'} ha f b ob e=>by
  obtain⟨_,_,C⟩:=ha;refine(I.hok b ob e).stay (fun c Y t q=>(f.2 c ?_).trans q) (fun _ q=>q) fun _ _ q=>q;rintro rfl
  rcases t with rfl|t
  ·rw[C]at e;cases e
  ·rw[C]at t;cases t
 rcases B with G|G
 ·refine wpAny_storeName_local G hn (fun h' ab f=>?_) R;obtain⟨oL,_,_,ai,_⟩:=id hn;refine h _ ⟨I.ok,I.os,I.bare,⟨fun b o e n J B=>?_,fun b o e n J B=>?_,I.base.free,fun b o e B=>?_,I.base.tups,I.base.wg,I.base.vz⟩,⟨_,ab,fun j y v' g D Z=>?_⟩,fun y c e=>?_,I.free,I.wQ,fun p hp=>?_,l ⟨oL,ai,I.free⟩ f,by simpa using I.len⟩ ⟨_,f,.inl rfl⟩
  ·exact(f.2 b<|Zu<|ZC (Zl e) I.ok.above).trans (I.base.keep b o e n J B)
  ·obtain⟨sl,g⟩:=I.base.slot b o e n J B;exact⟨sl,(f.2 b<|Zu<|ZC (Zl e) I.ok.above).trans g⟩
  ·obtain⟨o',g⟩:=I.base.there b o e B;exact⟨o',(f.2 b<|Zu<|ZC (Zl e) I.ok.above).trans g⟩
  ·by_cases L:j=i
   ·subst L;rw[S]at g;cases g;rw[List.getElem?_set_self F]at D;cases D;exact⟨u,r,.inl ⟨G,by simp⟩⟩
   ·rw[List.getElem?_set_ne<|EK L]at D;obtain⟨u',r',q⟩:=hl j y v' g D Z;refine⟨u',r',?_⟩
    rcases q with⟨k,e⟩|⟨k,c,e,z⟩
    ·refine .inl ⟨k,?_⟩;have:y≠x:=fun e=>L<|Hn hN g<|e▸S;simp[this,e]
    ·exact .inr ⟨k,c,e,z.sameBut f<|lZ y c e⟩
  ·obtain⟨Y,z⟩:=I.cell y c e;exact⟨Y,z.sameBut f<|lZ y c e⟩
  ·obtain⟨e,n,ne,nf,d⟩:=I.pin p hp;exact⟨(f.2 p.1 ne).trans e,n,ne,nf,d⟩
 ·have K:X.fn x=true:=by
   rcases hf with z|z
   ·exact z
   ·rw[z]at G;cases G
  obtain⟨c,t⟩:=I.ok.has x<|.inl G;obtain⟨Y,z⟩:=I.cell x c t;refine wpAny_storeName_cell I.ok.kind G t z<|fun h' O f=>?_;obtain⟨oc,T,aj⟩:=id z;refine h { s with heap:=h' } ⟨I.ok,I.os,I.bare,⟨fun b o e n J B=>?_,fun b o e n J B=>?_,I.base.free,fun b o e B=>?_,I.base.tups,I.base.wg,I.base.vz⟩,⟨m,hn.sameBut f<|EK<|lZ x c t,fun j y v' g D Z=>?_⟩,fun y U e=>?_,I.free,I.wQ,fun p hp=>?_,l ⟨oc,T,I.wQ x c t⟩ f,by simpa using I.len⟩ ⟨c,f,.inr t⟩
  ·exact(f.2 b<|Zu<|ZC (Zl e)<|I.ok.cab x c K t).trans (I.base.keep b o e n J B)
  ·obtain⟨sl,g⟩:=I.base.slot b o e n J B;exact⟨sl,(f.2 b<|Zu<|ZC (Zl e)<|I.ok.cab x c K t).trans g⟩
  ·obtain⟨o',g⟩:=I.base.there b o e B;exact⟨o',(f.2 b<|Zu<|ZC (Zl e)<|I.ok.cab x c K t).trans g⟩
  ·by_cases L:j=i
   ·subst L;rw[S]at g;cases g;rw[List.getElem?_set_self F]at D;cases D;exact⟨u,r,.inr ⟨.inl G,c,t,O⟩⟩
   ·rw[List.getElem?_set_ne<|EK L]at D;obtain⟨u',r',q⟩:=hl j y v' g D Z;refine⟨u',r',?_⟩
    rcases q with q|⟨k,U,e,z'⟩
    ·exact .inl q
    ·refine .inr ⟨k,U,e,z'.sameBut f ?_⟩;rintro rfl;exact L<|Hn hN g<|I.ok.inj _ _ _ e t▸S
  ·by_cases P:U=c
   ·subst P;exact⟨_,O⟩
   ·obtain⟨w2,z2⟩:=I.cell y U e;exact⟨w2,z2.sameBut f P⟩
  ·obtain⟨e,n,ne,nf,d⟩:=I.pin p hp;refine⟨(f.2 p.1 ?_).trans e,n,ne,nf,d⟩;intro q;rw[q,T]at e;have q':oc=p.2:=Option.some.inj e;exact d Y (by rwa[←q'])
theorem X5 {M:Model}{A:EF}{E:Ei->Dh}{i:Nat}{x:Str}{Q:Unit->Dh}(I:Inv X Do σ H s)(c:X.N.Nodup)(e:X.N[i]?=some x)(f:Loc X.env.scope x)(r:yq v u)
  (h:∀s',Inv X Do (σ.set i (some v)) H s'->Q () s') (d:X.fn x=true\/X.env.scope.names.lookup x=some .local:=by first|exact .inl rfl|exact .inr rfl|assumption):El M A (storeName X.env x u) Q E s :=
 GV I c e f r (fun s' b _=>h s' b) d
theorem Inv.call' {d:Em}(I:Inv X Do σ H s)(h:d.os=s.os)(u:Un (frs X.stack) ch H H' s.heap d.heap)(hok:vf X.prog X.w H' d.heap)(g:ME d.gens)
  (f:∀b∈ch,(b∈X.ex\/X.s₀.heap.objs.size<=b)/\b≠X.env.locals/\(∀x c,X.env.cells.lookup x=some c->c≠b)/\∀p∈X.pn++Do,p.1≠b):Inv X Do σ H' d:=by
 obtain⟨h',g',d',t',i⟩:=d;have e:i=s.os:=h;subst e;exact I.call (g':=g') (t':=t') (d':=d') u hok g f
end
abbrev XK:=Ei->Option Ej->Hp->Prop
abbrev St:=List<|Option V
abbrev VK:=V->Hp->Prop
abbrev TE:=St->Hp->VK->Prop
abbrev TT:=St->Hp->(Bool->Hp->Prop)->Prop
abbrev TA:=St->Hp->(Dj->Hp->Prop)->Prop
structure Ends where
 nx:St->Hp->Prop
 rt:VK
 bk:St->Hp->Prop:=fun _ _=>False
 ct:St->Hp->Prop:=fun _ _=>False
abbrev TS:=Ends->St->Hp->Prop
inductive EP (X:Cx)(Do:De)(σ:St)(Q:VK)(u:Ei)(s':Em):Prop
 |mk (v:V) (H':Hp) (i:Inv X Do σ H' s') (r:yq v u) (q:Q v H'):EP X Do σ Q u s'
inductive TP (X:Cx)(Do:De)(σ:St)(Q:Bool->Hp->Prop)(b:Bool)(s':Em):Prop
 |mk (H':Hp) (i:Inv X Do σ H' s') (q:Q b H'):TP X Do σ Q b s'
inductive AP (X:Cx)(Do:De)(σ:St)(Q:Dj->Hp->Prop)(us:Db)(s':Em):Prop
 |mk (vs:Dj) (H':Hp) (i:Inv X Do σ H' s') (r:yr vs us) (q:Q vs H'):AP X Do σ Q us s'
def SP (X:Cx)(d:De)(D:Ends)(f:Flow)(e:Em):Prop :=
 match f with
 | .next=>∃b c,Inv X d b c e/\D.nx b c
 | .brk=>∃b c,Inv X d b c e/\D.bk b c
 | .cont=>∃b c,Inv X d b c e/\D.ct b c
 | .ret u=>∃v b c,Inv X d b c e/\yq v u/\D.rt v c
def PE (X:Cx)(e:EN)(t:TE):Prop :=
 ∀(c:De) (s:Em) (b:St) (H:Hp) (Q:VK),Inv X c b H s->t b H Q->El (Ep X.prog X.w) X.A (E8 e X.env) (EP X c b Q) X.xe s
def PT (X:Cx)(e:EN)(t:TT):Prop :=
 ∀(c:De) (s:Em) (b:St) (H:Hp) (Q:Bool->Hp->Prop),Inv X c b H s->t b H Q->El (Ep X.prog X.w) X.A (isTrue e X.env<|E8 e X.env) (TP X c b Q) X.xe s
def PW (X:Cx)(e:EN)(t:TT):Prop :=
 ∀(b:Sem Ei) (d:De) (s:Em) (c:St) (H:Hp) (Q:Bool->Hp->Prop),Inv X d c H s->t c H Q->El (Ep X.prog X.w) X.A (isTrue e X.env b) (TP X d c Q) X.xe s
theorem PW.pt (h:PW X e t):PT X e t:=h _
def PA (X:Cx)(es:List EN)(t:TA):Prop :=
 ∀(pos:Pos) (c:De) (s:Em) (b:St) (H:Hp) (Q:Dj->Hp->Prop),Inv X c b H s->t b H Q->El (Ep X.prog X.w) X.A (spliced<|Lh pos<|Ey es X.env) (AP X c b Q) X.xe s
def PS (X:Cx)(st:EW)(t:TS):Prop :=
 ∀(b:De) (s:Em) (c:St) (H:Hp) (D:Ends),Inv X b c H s->t D c H->El (Ep X.prog X.w) X.A (exec st X.env) (SP X b D) X.xe s
def tG (X:Cx)(st:List EW)(t:TS):Prop :=
 ∀(b:De) (s:Em) (c:St) (H:Hp) (D:Ends),Inv X b c H s->t D c H->El (Ep X.prog X.w) X.A (execs st X.env) (SP X b D) X.xe s
theorem Cf {α:Type}{t:Sem α}{Q b:α->Dh}{M:Model}{A:EF}{E:Ei->Dh}{s:Em}(h:El M A t Q E s)(c:∀a s,Q a s->b a s):El M A t b E s:=Yg h c fun _ _ x=>x
section
variable {X:Cx}
inductive lz (i:Nat)(σ:St)(H:Hp)(Q:VK):Prop
 |mk (v:V) (e:σ[i]?=some (some v)) (q:Q v H):lz i σ H Q
def bv (i:Nat):TE:=lz i
def tC (v:V):TE:=fun _ H Q=>Q v H
theorem Wy {i:Nat}{x:Str}{pos:Pos}(j:X.N[i]?=some x)(o:bF X.env.scope x)(hd:(x==("__debug__":Str))=false:=by decide)(f:(x==("__classdict__":Str))=false:=by decide):PE X (.Name x pos) (bv i):=by
 intro g s p H Q I h;obtain⟨v,e,h⟩:=h;obtain⟨m,n,hl⟩:=I.loc;obtain⟨u,r,l⟩:=hl i x v j e o;have b:EP X g p Q u s:=⟨v,H,I,r,h⟩
 rcases l with⟨d,hm⟩|⟨d,c,hc,hcell⟩
 ·exact wpAny_Name (wpAny_loadName_local I.ok.kind d n hm b) hd
 ·rcases d with d|d
  ·exact wpAny_Name (wpAny_loadName_cell I.ok.kind d hc hcell b) hd
  ·exact wpAny_Name (wpAny_loadName_free I.ok.kind d hc hcell b f) hd
theorem zH {i j pos}:PE X (.Constant (.int i) j pos) (tC<|.int i):=fun _ _ _ H _ I h=>wpAny_Constant_int ⟨.int i,H,I.tok _,⟨_,rfl⟩,h⟩
theorem j2 {b j pos}:PE X (.Constant (.bool b) j pos) (tC<|.bl b):=fun _ _ _ H _ I h=>Constant_bool ⟨.bl b,H,I,rfl,h⟩
theorem uO {j pos}:PE X (.Constant .none j pos) (tC .non):=fun _ _ _ H _ I h=>Constant_none ⟨.non,H,I,rfl,h⟩
theorem zq {x j pos}:PE X (.Constant (.str x) j pos) (tC<|.str x):=fun _ _ _ H _ I h=>Calls.Constant_str ⟨.str x,H,I.tok _,⟨_,rfl⟩,h⟩
def Gl (X:Cx)(x:Str):Prop:=X.env.kindOf x=some .globalImplicit
theorem jY {E:Ei->Dh}{u:Ei}{pos:Pos}{Q:Ei->Dh}(I:Inv X Do σ H s)(b:Gl X x)(c:X.mg x=some u)(h:Q u s)
  (hd:(x==("__debug__":Str))=false:=by decide):El (Ep X.prog X.w) X.A (E8 (.Name x pos) X.env) Q E s :=
 Calls.Name_function_global I.ok.kind b (Calls.loadGlobal_global (by rw[I.ok.glob];exact I.mod.glob.keeps I.bk) c h) hd
theorem kD {E:Ei->Dh}{u:Ei}{pos:Pos}{Q:Ei->Dh}(I:Inv X Do σ H s)(d:Gl X x)(e:X.mg x=none)(g:LL x=some u)(h:Q u s)
  (f:x≠"__name__":=by decide) (hd:(x==("__debug__":Str))=false:=by decide):El (Ep X.prog X.w) X.A (E8 (.Name x pos) X.env) Q E s:=by
 obtain⟨i,b,c⟩:=I.mod.blt;exact Calls.Name_function_global I.ok.kind d (Calls.loadGlobal_builtin (by rw[I.ok.glob];exact I.mod.glob.keeps I.bk) e (by rw[I.ok.blt];exact b.keeps I.bk) ((c x f).trans g) h) hd
theorem jZ {u:Ei}{pos:Pos}(b:Gl X x)(c:X.mg x=some u)(r:yq v u)(hd:(x==("__debug__":Str))=false:=by decide):PE X (.Name x pos) (tC v) :=
 fun _ _ _ H _ I h=>jY I b c ⟨v,H,I,r,h⟩ hd
theorem xI {u:Ei}{pos:Pos}(b:Gl X x)(c:X.mg x=none)(e:LL x=some u)(r:yq v u)(d:x≠"__name__":=by decide)(hd:(x==("__debug__":Str))=false:=by decide):PE X (.Name x pos) (tC v) :=
 fun _ _ _ H _ I h=>kD I b c e ⟨v,H,I,r,h⟩ d hd
variable {a b:EN}{ta tb:TE}{pos:Pos}
def PC (X:Cx)(op:CmpOp)(a b:EN)(t:TE):Prop :=
 ∀(f:De) (s:Em) (e:St) (H:Hp) (Q:VK),Inv X f e H s->t e H Q ->
  El (Ep X.prog X.w) X.A (E8 a X.env) (fun v c=>El (Ep X.prog X.w) X.A (E8 b X.env) (fun u d=>El (Ep X.prog X.w) X.A (EZ op v u) (EP X f e Q) X.xe d) X.xe c) X.xe s
variable {tA tB':TT}{rest:List EN}
def tOr (t u:TT):TT:=fun d H Q=>t d H fun c b=>if c=true then Q true b else u d b Q
def cI (t:TT):TT:=fun d H Q=>t d H fun c b=>Q (!c) b
theorem uP (d:PT X a tA):PW X (.BoolOp .Or [a] pos) tA:=by
 intro i b s f H Q I h;refine isTrue_or<|Cf (d b s f H Q I h) fun c g e=>?_;cases c with
 |false=>exact isTrue_or_nil e
 |true=>exact e
theorem vL (j:PT X a tA)(l:PW X (.BoolOp .Or (b::rest) pos) tB'):PW X (.BoolOp .Or (a::b::rest) pos) (tOr tA tB'):=by
 intro o d s i H Q I h;refine isTrue_or<|Cf (j d s i H _ I h) fun c n ⟨e,f,g⟩=>?_;cases c with
 |true=>exact⟨e,f,g⟩
 |false=>exact l o d n i e Q f g
theorem qF (f:PT X a tA):PT X (.UnaryOp .Not a pos) (cI tA):=by
 intro b s g H Q I h;exact isTrue_not<|Cf (f b s g H (fun c e=>Q (!c) e) I h) fun c j z=>z.casesOn fun d i q=>⟨d,i,q⟩
def bc (ta tb:TE):TE:=fun d H Q=>ta d H fun x b=>∃c,x=.bl c/\if c=true then tb d b Q else Q (.bl false) b
def cJ (ta tb:TE):TE:=fun d H Q=>ta d H fun x b=>∃c,x=.bl c/\if c=true then Q (.bl true) b else tb d b Q
theorem qP (h:PE X a t):PE X (.BoolOp op [a] pos) t:=fun b s d H Q I c=>BoolOp_one<|h b s d H Q I c
theorem xU (j:PE X a ta)(l:PE X (.BoolOp .And (b::rest) pos) tb):PE X (.BoolOp .And (a::b::rest) pos) (bc ta tb):=by
 intro e s i H Q I h;refine BoolOp_and<|Cf (j e s i H _ I h) fun v o ⟨x,f,g,n,d⟩=>?_;obtain⟨c,rfl,d⟩:=d;cases n;refine Y2 ?_;cases c with
 |true=>exact l e o i f Q g d
 |false=>exact⟨.bl false,f,g,rfl,d⟩
theorem Tz (j:PE X a ta)(l:PE X (.BoolOp .Or (b::rest) pos) tb):PE X (.BoolOp .Or (a::b::rest) pos) (cJ ta tb):=by
 intro e s i H Q I h;refine BoolOp_or<|Cf (j e s i H _ I h) fun v o ⟨x,f,g,n,d⟩=>?_;obtain⟨c,rfl,d⟩:=d;cases n;refine Y2 ?_;cases c with
 |false=>exact l e o i f Q g d
 |true=>exact⟨.bl true,f,g,rfl,d⟩
def tIf (t:TT)(ta tb:TE):TE:=fun b H Q=>t b H fun c d=>if c=true then ta b d Q else tb b d Q
theorem Iw (p:PT X c tA)(n:PE X a ta)(o:PE X b tb):PE X (.IfExp c a b pos) (tIf tA ta tb):=by
 intro e s f H Q I h;refine wpAny_IfExp<|Cf (p e s f H _ I h) fun d l ⟨g,i,j⟩=>?_;cases d with
 |true=>exact n e l f g Q i j
 |false=>exact o e l f g Q i j
end
def yx (K:Ca)(H:Hp)(a:Ej)(xs:Dj):Prop :=
 Rd H a (.lst xs) \/
  ∃(o:Obj) (b:Array Ei) (n:Nat),K.lookup a=some o/\o.cls=.type "list"/\o.dict=none/\o.data=.seq b n/\b.size<=sizeLine/\yr xs b.toList
def xg (K:Ca)(H:Hp)(a:Ej)(xs:Dj):Prop :=
 Rd H a (.tup xs) \/
  ∃(o:Obj) (b:Array Ei) (n:Nat),K.lookup a=some o/\o.cls=.type "tuple"/\o.dict=none/\o.data=.seq b n/\b.size<=sizeLine/\yr xs b.toList
def bQ:Ei->Option V
 | .none=>some .non
 | .bool b=>some<|.bl b
 | .int i _=>some<|.int i
 | .str x _=>some<|.str x
 | .bytes b _=>some<|.byt b
 | .float b _=>some<|.flt b
 | .ref a=>some<|.ref a
 | .type n=>some<|.ty n
 |_=>none
theorem yq.abs (r:yq x u):bQ u=some x:=by
 cases x with
 |non=>cases r;rfl
 |bl _=>cases r;rfl
 |int _=>obtain⟨t,rfl⟩:=r;rfl
 |str _=>obtain⟨t,rfl⟩:=r;rfl
 |byt _=>obtain⟨t,rfl⟩:=r;rfl
 |flt _=>obtain⟨t,rfl⟩:=r;rfl
 |ref _=>cases r;rfl
 |ty _=>cases r;rfl
theorem yq.inj (r:yq x u)(q:yq y u):x=y:=Option.some.inj<|r.abs.symm.trans q.abs
theorem yr.inj:∀{xs ys:Dj} {us:Db},yr xs us->yr ys us->xs=ys
 |_,_,_,.nil,.nil=>rfl
 |_,_,_,.cons r t,.cons r' t'=>by rw[r.inj r',yr.inj t t']
section
variable {X:Cx}{Do:De}{σ:St}{H:Hp}{s:Em}{a:Ej}{xs ys:Dj}
theorem yx.of {K:Ca}(h:H a=some (.lst xs)):yx K H a xs:=.inl<|.inl h
theorem xg.of {K:Ca}(h:H a=some (.tup xs)):xg K H a xs:=.inl<|.inl h
theorem Inv.list (I:Inv X Do σ H s)(h:yx X.K H a xs):∃its:Db,yr xs its/\PlainL s.heap a its.toArray/\xs.length<=sizeLine:=by
 rcases h with h|⟨o,its,n,c,b,hd,d,f,r⟩
 ·obtain⟨z,its,n,r,e⟩:=h.ok I.hok;exact⟨its,r,⟨_,n,e,rfl,rfl,rfl⟩,z⟩
 ·refine⟨its.toList,r,⟨o,n,I.vq a o c,b,hd,by simpa using d⟩,?_⟩;have e:=r.length;simp only[Zw]at e;lia
theorem Inv.oA (I:Inv X Do σ H s)(h:xg X.K H a xs):∃its:Db,yr xs its/\TupAt s.heap a its.toArray/\xs.length<=sizeLine:=by
 rcases h with h|⟨o,its,n,d,c,b,f,g,r⟩
 ·obtain⟨z,its,r,p⟩:=h.ok I.hok;exact⟨its,r,p,z⟩
 ·refine⟨its.toList,r,⟨o,I.vq a o d,c,n,by simpa using f,b⟩,?_⟩;have e:=r.length;simp only[Zw]at e;lia
theorem Inv.tuple (I:Inv X Do σ H s)(h:xg X.K H a xs):∃its:Db,yr xs its/\IsTup s.heap a its.toArray/\xs.length<=sizeLine:=by
 obtain⟨its,r,p,z⟩:=I.oA h;exact⟨its,r,p.is,z⟩
theorem Inv.rZ (I:Inv X Do σ H s)(h:yx X.K H a xs)(h':yx X.K H a ys):xs=ys:=by
 obtain⟨b,r,⟨o,n,e,_,_,d⟩,_⟩:=I.list h;obtain⟨g,j,⟨p,l,f,_,_,c⟩,_⟩:=I.list h';rw[e]at f;cases f;rw[d]at c;injection c with i _;have:b=g:=by simpa using congrArg Array.toList i
 subst this;exact r.inj j
theorem Inv.oW (I:Inv X Do σ H s)(h:xg X.K H a xs)(h':xg X.K H a ys):xs=ys:=by
 obtain⟨b,r,⟨o,e,_,n,d⟩,_⟩:=I.tuple h;obtain⟨g,j,⟨p,f,_,l,c⟩,_⟩:=I.tuple h';rw[e]at f;cases f;rw[d]at c;injection c with i _;have:b=g:=by simpa using congrArg Array.toList i
 subst this;exact r.inj j
end
abbrev Cx.wish (X:Cx)(E:Ei->Dh):Cx:={ X with xe:=E }
abbrev Cx.lY (X:Cx):Cx:=X.wish fun _ _=>False
theorem Cx.Ok.wish {X:Cx}(ok:X.Ok)(E:Ei->Dh):(X.wish E).Ok :=
 ⟨ok.mod,ok.kind,ok.glob,ok.blt,ok.above,ok.inj,ok.has,ok.cab,ok.hd,ok.frames,ok.stk,ok.mC,ok.bs,ok.oY,ok.qj,ok.qu,ok.uz,ok.nJ⟩
theorem Cx.Ok.vg {X:Cx}{E:Ei->Dh}(ok:(X.wish E).Ok):X.Ok :=
 ⟨ok.mod,ok.kind,ok.glob,ok.blt,ok.above,ok.inj,ok.has,ok.cab,ok.hd,ok.frames,ok.stk,ok.mC,ok.bs,ok.oY,ok.qj,ok.qu,ok.uz,ok.nJ⟩
section
variable {X:Cx}{Do:De}{σ:St}{H:Hp}{s:Em}{E:Ei->Dh}
theorem Inv.wish (I:Inv X Do σ H s)(E:Ei->Dh):Inv (X.wish E) Do σ H s:=⟨I.ok.wish E,I.os,I.bare,I.base,I.loc,I.cell,I.free,I.wQ,I.pin,I.hok,I.len⟩
theorem Inv.vg (I:Inv (X.wish E) Do σ H s):Inv X Do σ H s:=⟨I.ok.vg,I.os,I.bare,I.base,I.loc,I.cell,I.free,I.wQ,I.pin,I.hok,I.len⟩
theorem SP.vg (h:SP (X.wish E) Do D f s'):SP X Do D f s':=by
 cases f with
 |next=>obtain⟨b,c,I,q⟩:=h;exact⟨b,c,I.vg,q⟩
 |brk=>obtain⟨b,c,I,q⟩:=h;exact⟨b,c,I.vg,q⟩
 |cont=>obtain⟨b,c,I,q⟩:=h;exact⟨b,c,I.vg,q⟩
 |ret u=>obtain⟨v,b,c,I,r,q⟩:=h;exact⟨v,b,c,I.vg,r,q⟩
theorem tG.lY {st:List EW}(h:tG X.lY st t):tG X st t:=fun Do s σ H D I b =>
 Yg (h Do s σ H D (I.wish _) b) (fun _ _ q=>q.vg) fun _ _ z=>EL z
end
section
variable {X:Cx}{st:EW}{rest:List EW}{t u:TS}{e:EN}{te:TE}{pos:Pos}
def bn:TS:=fun D b H=>D.nx b H
def Te (t u:TS):TS:=fun D b H=>t { D with nx:=u D } b H
theorem zS:tG X [] bn:=fun _ _ b H _ I h=>V3 ⟨b,H,I,h⟩
theorem zD (g:PS X st t)(i:tG X rest u):tG X (st::rest) (Te t u):=by
 intro c s l H D I h;refine wpAny_execs_cons<|Cf (g c s l H { D with nx:=u D } I h) fun f j q=>?_;cases f with
 |next =>
  obtain⟨b,d,e,q⟩:=q;exact i c j b d D e q
 |ret v=>exact q
 |brk=>exact q
 |cont=>exact q
theorem zE (c:PS X st t):tG X [st] t:=by
 intro b s d H D I h;refine wpAny_execs_cons<|Cf (c b s d H D I h) fun f e q=>?_;cases f with
 |next=>exact V3 q
 |ret v=>exact q
 |brk=>exact q
 |cont=>exact q
theorem Inv.quiet (I:Inv X Do σ H s):interactive X.env=false:=by simp[interactive,I.ok.kind]
def bg (te:TE):TS:=fun D b H=>te b H fun _ c=>D.nx b c
theorem yD (g:PE X e te)(hs:Mz e none pos.line X.env=Lo false:=by rfl):PS X (.Expr e pos) (bg te):=by
 intro c s b H D I h;exact wpAny_Expr_any (Cf (g c s b H _ I h) fun v l ⟨x,d,f,j,i⟩=>⟨b,d,f,i⟩) I.quiet hs
def cK (te:TE):TS:=fun D b H=>te b H D.rt
theorem zM (g:PE X e te):PS X (.Return (some e) pos) (cK te):=by
 intro c s b H D I h;exact wpAny_Return_some<|Cf (g c s b H _ I h) fun v l ⟨x,d,f,j,i⟩=>⟨x,b,d,f,j,i⟩
def cG (c:TT)(t u:TS):TS:=fun D d H=>c d H fun b e=>if b=true then t D d e else u D d e
theorem yC (p:PT X c tc)(n:tG X a t)(o:tG X b u):PS X (.If c a b pos) (cG tc t u):=by
 intro e s f H D I h;refine wpAny_If<|Cf (p e s f H _ I h) fun d l ⟨g,i,j⟩=>?_;cases d with
 |true=>exact n e l f g D i j
 |false=>exact o e l f g D i j
end
abbrev TG:=V->St->Hp->(St->Hp->Prop)->Prop
abbrev R7:=Dj->St->Hp->(St->Hp->Prop)->Prop
def PG (X:Cx)(b:EN)(t:TG):Prop :=
 ∀(d:De) (s:Em) (f:St) (H:Hp) (v:V) (u:Ei) (Q:St->Hp->Prop),Inv X d f H s->yq v u->t v f H Q ->
  El (Ep X.prog X.w) X.A (assign b X.env u) (fun _ g=>∃c e,Inv X d c e g/\Q c e) X.xe s
def oM (X:Cx)(i:List EN)(t:R7):Prop :=
 ∀(c:De) (s:Em) (g:St) (H:Hp) (f:Dj) (e:Db) (Q:St->Hp->Prop),Inv X c g H s->yr f e->t f g H Q ->
  El (Ep X.prog X.w) X.A (assignInOrder ((Lr i X.env).map (·.2)) e) (fun _ h=>∃b d,Inv X c b d h/\Q b d) X.xe s
abbrev bE:=V->V->Hp->VK->Prop
def cP (X:Cx)(op:Operator)(t:bE):Prop :=
 ∀(b:De) (s:Em) (c:St) (H:Hp) (x y:V) (v u:Ei) (Q:VK),Inv X b c H s->yq x v->yq y u->t x y H Q ->
  El (Ep X.prog X.w) X.A (inplaceOp op v u) (EP X b c Q) X.xe s
section
variable {X:Cx}{pos:Pos}
def IV (i:Nat):TG:=fun v b H Q=>Q (b.set i (some v)) H
theorem zL {i:Nat}{x:Str}(c:X.N.Nodup)(e:X.N[i]?=some x)(f:Loc X.env.scope x)(d:X.fn x=true\/X.env.scope.names.lookup x=some .local:=by first|exact .inl rfl|exact .inr rfl|assumption):PG X (.Name x pos) (IV i):=by
 intro g s l H v u Q I r h;exact wpAny_assign_Name<|X5 I c e f r (fun j b=>⟨_,H,b,h⟩) d
def bV:R7:=fun b c H Q=>b=[]/\Q c H
inductive mU (t:TG)(u:R7)(vs:Dj)(σ:St)(H:Hp)(Q:St->Hp->Prop):Prop
 |mk (v:V) (r:Dj) (e:vs=v::r) (q:t v σ H fun σ' H'=>u r σ' H' Q):mU t u vs σ H Q
theorem xX:oM X [] bV:=by
 intro c s b H f d Q I r h;obtain⟨e,h⟩:=h;subst e;cases r;exact assignInOrder_nil ⟨b,H,I,h⟩
theorem zX (i:PG X e t)(j:oM X es u)
  (hs:(Lr (e::es) X.env).map (·.2)=assign e X.env::(Lr es X.env).map (·.2):=by rfl):oM X (e::es) (mU t u):=by
 intro c s o H w p Q I r h;obtain⟨v,q,g,h⟩:=h;subst g;cases r with
 |cons r rr =>
  rw[hs];refine assignInOrder_cons<|Cf (i c s o H _ _ _ I r h) fun _ n ⟨b,d,f,l⟩=>?_;exact j c n b d _ _ Q f rr l
inductive mH (K:Ca)(n:Nat)(t:R7)(v:V)(σ:St)(H:Hp)(Q:St->Hp->Prop):Prop
 |mk (a:Ej) (xs:Dj) (e:v=.ref a) (h:xg K H a xs) (l:xs.length=n) (q:t xs σ H Q):mH K n t v σ H Q
theorem jT {k:Nat}{n:Nat}(q:X.calm=true)(h:oM X es t)
  (w:(Lr es X.env).length=n:=by rfl) (c:(Lr es X.env).findIdx? (·.1)=none:=by rfl):PG X (.Tuple es k pos) (mH X.K n t):=by
 intro f s i H v u Q I r d;obtain⟨a,B,l,x,hl,d⟩:=d;subst l;cases r;obtain⟨A,g,y,C⟩:=I.tuple x;refine assign_Tuple_tuple (I.ok.hd q) y (by simp[w,←hl,g.length]) c fun p z=>?_;have j:Inv X f i H { s with heap:=p }:=I.kept (t':=s.toks) fun b o e=>z b o (Zu<|Zl e) e;exact h f _ i H B _ Q j (by simpa using g) d
def Tb (d:TE)(g:TG):TS:=fun D b H=>d b H fun x c=>g x b c D.nx
theorem WA (j:PE X e te)(l:PG X tg g)(hs:swapsWithSole [tg] e pos.line X.env=Lo false:=by rfl)(n:swappedStores [tg] e X.env=Lo none:=by rfl)
  (i:(Lr [tg] X.env).map (·.2)=[assign tg X.env]:=by rfl):PS X (.Assign [tg] e pos) (Tb te g):=by
 intro b s c H D I h;refine wpAny_Assign_stores (Cf (j b s c H _ I h) fun v r ⟨x,d,f,p,o⟩=>?_) hs n;rw[i];exact Cf (l b r c d x v _ f p o) fun _ t q=>q
theorem zT {i:Nat}{x:Str}{b:Pos}(j:X.N.Nodup)(o:X.N[i]?=some x)(p:Loc X.env.scope x)(l:PE X e te)(hs:Mz e (some<|.Name x b) pos.line X.env=Lo false:=by rfl)(n:X.fn x=true\/X.env.scope.names.lookup x=some .local:=by first|exact .inl rfl|exact .inr rfl|assumption) :
  PS X (.Assign [.Name x b] e pos) (Tb te<|IV i):=by
 intro c s t H D I h;refine wpAny_Assign_Name (Cf (l c s t H _ I h) fun v u ⟨y,d,f,r,q⟩=>?_) hs;exact X5 f j o p r (fun w g=>⟨_,d,g,q⟩) n
theorem Cm {i:Nat}{x:Str}{b:Pos}(c:X.N.Nodup)(d:PE X e te)(g:X.N[i]?=some x:=by rfl)(h:Loc X.env.scope x:=by first|exact EJ rfl|exact Or.inr rfl)(hs:Mz e (some<|.Name x b) pos.line X.env=Lo false:=by rfl)(f:X.fn x=true\/X.env.scope.names.lookup x=some .local:=by first|exact .inl rfl|exact .inr rfl|assumption):PS X (.Assign [.Name x b] e pos) (Tb te<|IV i):=zT c g h d hs f
def cB (i:Nat)(e:TE)(f:bE):TS:=fun D b H=>∃x,b[i]?=some (some x)/\e b H fun y c=>f x y c fun z d=>D.nx (b.set i (some z)) d
theorem WB {i:Nat}{x:Str}{q:Pos}(J:X.N.Nodup)(o:X.N[i]?=some x)(j:Loc X.env.scope x)(K:PE X e te)(O:cP X op ti)(L:X.fn x=true\/X.env.scope.names.lookup x=some .local:=by first|exact .inl rfl|exact .inr rfl|assumption) :
  PS X (.AugAssign (.Name x q) op e pos) (cB i te ti):=by
 intro g s p H D I h;obtain⟨v,G,h⟩:=h;obtain⟨m,M,hl⟩:=I.loc;have n:bF X.env.scope x:=by rcases j with k|k;exact .inl k;exact .inr<|.inl k
 obtain⟨u,r,l⟩:=hl i x v o G n;refine wpAny_AugAssign_Name ?_;have go:El (Ep X.prog X.w) X.A (E8 e X.env) (fun w d=>El (Ep X.prog X.w) X.A (inplaceOp op u w) (fun r f=>El (Ep X.prog X.w) X.A (storeName X.env x r) (fun _=>SP X g D .next) X.xe f) X.xe d) X.xe s:=by
  refine Cf (K g s p H _ I h) fun w T ⟨y,t,C,R,P⟩=>?_;refine Cf (O g T p t v y u w _ C r R P) fun z U ⟨Z,B,E,S,Q⟩=>?_;exact X5 E J o j S (fun Y F=>⟨_,B,F,Q⟩) L
 rcases l with⟨b,hm⟩|⟨b,c,hc,hcell⟩
 ·exact wpAny_loadName_local I.ok.kind b M hm go
 ·rcases b with b|b
  ·exact wpAny_loadName_cell I.ok.kind b hc hcell go
  ·rcases j with k|k
   ·have:X.env.scope.names.lookup x=some .free:=b;rw[k]at this;cases this
   ·have:X.env.scope.names.lookup x=some .free:=b;rw[k]at this;cases this
def ipI (f:Int->Int->Int):bE:=fun x y H Q=>∃i j,x=.int i/\y=.int j/\Q (.int<|f i j) H
theorem Wg:cP X .Add (ipI fun i j=>i+j):=by
 intro f s l H x y v u Q I d e h;obtain⟨i,j,b,c,q⟩:=h;subst b;subst c;obtain⟨t,rfl⟩:=d;obtain⟨g,rfl⟩:=e;exact iadd_int ⟨.int _,H,I.tok _,⟨_,rfl⟩,q⟩
end
structure It where
 go:Nat->Hp->Prop
 oZ:Nat->Hp->V->Hp->Prop
 stop:Nat->Hp->Prop
def XH (X:Cx)(d:De)(H:Hp)(b:Ej):Prop :=
 H b=none/\b≠X.env.locals/\b∉X.fs/\(b∈X.ex\/X.s₀.heap.objs.size<=b)/\(∀x c,X.env.cells.lookup x=some c->c≠b)/\∀p∈X.pn++d,p.1≠b
theorem Inv.tL {H':Hp}{b:Ej}(I:Inv X Do σ H s)(d:s.heap.objs.size<=b)(f:H' b=none):XH X Do H' b:=by
 refine⟨f,YO<|ZC I.lt d,I.mF d,.inr<|ZL I.sz d,fun x c e z=>?_,fun p g z=>?_⟩
 ·obtain⟨v,q⟩:=I.cell x c e;exact absurd (ZC q.lt<|by rwa[z])<|YC _
 ·exact absurd (ZC (Zl (I.pin p g).1)<|by rwa[z]) (YC _)
structure Turn (P:Ek)(w:Eo)(K:Ca)(tg:EN)(J:It)(fp:Dd)(it:Ej)(tn:Nat->EB->Prop):Prop where
 mem:it∈fp
 obj:∀i h,tn i h->∀b∈fp,∃o,h.get? b=some o/\∀v,o.data≠.cell v
 keep:∀i h h',tn i h->(∀b∈fp,∀o,h.get? b=some o->h'.get? b=some o)->tn i h'
 item:∀(X:Cx),X.prog=P->X.w=w->X.K=K->X.calm=true->∀(i:Nat) (Do:De) (s:Em) (σ:St) (H:Hp) (E:Ei->Dh),Inv X Do σ H s->(∀b∈fp,XH X Do H b)->tn i s.heap->J.go i H ->
  El (Ep P w) X.A (L9<|.ref it) (fun r s1=>∃u,r=some u /\ El (Ep P w) X.A (L6 tg (.ref it) u) (fun _ s2=>∃x H',Inv X Do σ H' s2/\yq x u/\J.oZ i H x H'/\tn (i+1) s2.heap/\∀b∈fp,H' b=none) E s1) E s
 done:∀(X:Cx),X.prog=P->X.w=w->X.K=K->X.calm=true->∀(i:Nat) (Do:De) (s:Em) (σ:St) (H:Hp) (E:Ei->Dh),Inv X Do σ H s->(∀b∈fp,XH X Do H b)->tn i s.heap->J.stop i H ->
  El (Ep P w) X.A (L9<|.ref it) (fun r s1=>r=none/\Inv X Do σ H s1) E s
 self:∀(A:EF) (i:Nat) (s:Em) (Q:Ei->Dh) (E:Ei->Dh),tn i s.heap->Q (.ref it) s->El (Ep P w) A (pyIter<|.ref it) Q E s
abbrev TI:=St->Hp->(It->Hp->Prop)->Prop
def PIE (X:Cx)(e:De)(l:St)(j:EN)(R:It->Hp->Prop)(d:Ei)(h:Em):Prop :=
 ∃(g:Ej) (f:Dd) (i:Nat->EB->Prop) (J:It) (c:Hp),d=.ref g/\Inv X e l c h/\Turn X.prog X.w X.K j J f g i/\i 0 h.heap/\(∀b∈f,XH X e c b)/\R J c
def PI (X:Cx)(f b:EN)(g:TI):Prop :=
 ∀(d:De) (s:Em) (c:St) (H:Hp) (R:It->Hp->Prop),Inv X d c H s->g c H R ->
  El (Ep X.prog X.w) X.A (E8 b X.env) (fun v e=>El (Ep X.prog X.w) X.A (pyIter v) (PIE X d c f R) X.xe e) X.xe s
theorem FW {M:Model}{A:EF}{E:Ei->Dh}{s:Em}{c:EN}{it:Ej}{u:Ei}{o:Obj}{n:String}{vs:Array Ei}{Q:Unit->Dh}(f:s.heap.get? it=some o)(d:o.cls=.type n)(hd:o.data=.fields vs)
  (e:["enumerate","zip","dict_itemiterator","dict_reverseitemiterator","odict_iterator","itertools.zip_longest","itertools.pairwise"].contains n=false) (b:Q () s):El M A (L6 c (.ref it) u) Q E s:=by
 unfold L6;cases c<;>first
  |exact Q7 b
  | (cases u<;>first
    |exact Q7 b
    | (refine Q4 (wpAny_load f ?_)
       rw[d,hd];show El M A (if(["enumerate","zip","dict_itemiterator","dict_reverseitemiterator","odict_iterator","itertools.zip_longest","itertools.pairwise"].contains n&&vs[0]?==some (ET _))=true then _ else _) Q E s;rw[Zs (by intro h;rw[e,Vx]at h;cases h)];exact Q7 b))
def TQ (K:Ca)(a:Ej):It :=
 ⟨fun i H=>∃b x,yx K H a b/\b[i]?=some x,fun i H x c=>c=H/\∀b,yx K H a b->b[i]?=some x,fun i H=>∃b,yx K H a b/\b.length<=i⟩
def TR (K:Ca)(a:Ej):It :=
 ⟨fun i H=>∃b x,xg K H a b/\b[i]?=some x,fun i H x c=>c=H/\∀b,xg K H a b->b[i]?=some x,fun i H=>∃b,xg K H a b/\b.length<=i⟩
def RZ (lo:Int)(n:Nat):It:=⟨fun i _=>i<n,fun i H x b=>b=H/\x=.int (lo+i),fun i _=>n<=i⟩
theorem OS {K:Ca}(a it:Ej):Turn P w K tg (TQ K a) [it] it (fun i h=>h.IsListIter it a i) where
 mem:=by simp
 obj:=fun i h st b f=>by
  have e:b=it:=by simpa using f
  subst e;obtain⟨o,e,c,d⟩:=st;exact⟨o,e,fun v z=>by rw[d]at z;cases z⟩
 keep:=fun i h j st k=>st.at fun o e=>k it (by simp) o e
 item:=by
  intro X B D A M i L s N H E I l st C;subst B D A;obtain⟨xs,x,n,F⟩:=C;obtain⟨G,J,p,U⟩:=I.list n;obtain⟨u,S,Y⟩:=J.get F;obtain⟨q,r,R,t,y,f5⟩:=l it (by simp);refine wpAny_pyNext_list_item st p.isList (x:=u) (by simpa using S) fun j g Z=>?_;have O:Inv X L N H { s with heap:=j }:=I.turned (t':=s.toks) (fun b o f e=>(Z.2 b f).trans e) q r t y f5;obtain⟨o,e,c,d⟩:=id g;exact⟨u,rfl,FW (s:={ s with heap:=j }) e c d (by decide) ⟨x,H,O,Y,⟨rfl,fun ys T=>by rw[I.rZ T n];exact F⟩,g,fun b f=>(l b f).1⟩⟩
 done:=by
  intro X B D A M i L s N H E I l st C;subst B D A;obtain⟨xs,n,F⟩:=C;obtain⟨G,J,p,U⟩:=I.list n;obtain⟨q,r,R,t,y,f5⟩:=l it (by simp);have hl:=J.length;exact wpAny_pyNext_list_end (I.ok.hd M) st p.isList (by simp;lia) fun j Q=>⟨rfl,I.turned (t':=s.toks) (fun b o f e=>Q b o f e) q r t y f5⟩
 self:=fun _ _ _ _ _ st h=>wpAny_pyIter_listiter st h
theorem MV {K:Ca}(a it:Ej):Turn P w K tg (TR K a) [it] it (fun i h=>h.IsTupleIter it a i) where
 mem:=by simp
 obj:=fun i h st b f=>by
  have e:b=it:=by simpa using f
  subst e;obtain⟨o,e,c,d⟩:=st;exact⟨o,e,fun v z=>by rw[d]at z;cases z⟩
 keep:=fun i h l st k=>st.at fun o e=>k it (by simp) o e
 item:=by
  intro X C F B M i L s N H E I n st D;subst C F B;obtain⟨xs,x,q,G⟩:=D;obtain⟨g,J,p,U⟩:=I.tuple q;obtain⟨u,S,Y⟩:=J.get G;obtain⟨r,t,R,y,A,f5⟩:=n it (by simp);refine wpAny_pyNext_tuple_item st (show s.heap.IsTuple a g.toArray from p) (x:=u) (by simpa using S) fun l j Z=>?_;have O:Inv X L N H { s with heap:=l }:=I.turned (t':=s.toks) (fun b o f e=>(Z.2 b f).trans e) r t y A f5;obtain⟨o,e,c,d⟩:=id j;exact⟨u,rfl,FW (s:={ s with heap:=l }) e c d (by decide) ⟨x,H,O,Y,⟨rfl,fun ys T=>by rw[I.oW T q];exact G⟩,j,fun b f=>(n b f).1⟩⟩
 done:=by
  intro X C F B M i L s N H E I n st D;subst C F B;obtain⟨xs,q,G⟩:=D;obtain⟨g,J,p,U⟩:=I.tuple q;obtain⟨r,t,R,y,A,f5⟩:=n it (by simp);have hl:=J.length;exact wpAny_pyNext_tuple_end (I.ok.hd M) st (show s.heap.IsTuple a g.toArray from p) (by simp;lia) fun l Q=>⟨rfl,I.turned (t':=s.toks) (fun b o f e=>Q b o f e) r t y A f5⟩
 self:=fun _ _ _ _ _ st h=>wpAny_pyIter_tupleiter st h
theorem MU {K:Ca}(it:Ej)(lo:Int)(n:Nat):Turn P w K tg (RZ lo n) [it] it (fun i h=>IsRangeIter h it (lo+(i:Nat)*1) ((n:Int)-(i:Nat)) 1) where
 mem:=by simp
 obj:=fun i h st b c=>by
  have e:b=it:=by simpa using c
  subst e;exact⟨_,st,fun v z=>by
   have N:Data.fields _=Data.cell v:=z;cases N⟩
 keep:=fun i h f st k=>k it (by simp) _ st
 item:=by
  intro X u A r x i B s D H E I g st y;subst u A r;obtain⟨j,l,J,p,q,f5⟩:=g it (by simp);have W:=Walks.range (prog:=X.prog) (w:=X.w) (I.ok.hd x) it lo 1 n;refine W.item i s _ _ y st fun v f C L d M=>?_;obtain⟨t,rfl⟩:=L;have F:Inv X B D H { s with heap:=f,toks:=C }:=I.turned (fun b o c e=>M b o (by simpa using c) e) j l p q f5;refine⟨_,rfl,FW (s:={ s with heap:=f,toks:=C }) (n:="range_iterator") d rfl rfl (by decide) ⟨.int<|lo+i,H,F,⟨t,?_⟩,⟨rfl,rfl⟩,d,fun b c=>(g b c).1⟩⟩;rw[Int.mul_one]
 done:=by
  intro X u A r x i B s D H E I g st y;subst u A r;obtain⟨j,l,J,p,q,f5⟩:=g it (by simp);exact wpAny_pyNext_range_end (I.ok.hd x) st (by have:n<=i:=y;lia) fun f G=>⟨rfl,I.turned (t':=s.toks) (fun b o c e=>G b o c e) j l p q f5⟩
 self:=fun _ _ _ _ _ st h=>wpAny_pyIter_rangeiter st h
section
variable {X:Cx}{tg:EN}
def aw (K:Ca)(c:TE):TI:=fun e H R=>c e H fun x b=>∃a,x=.ref a/\(∃d,yx K b a d)/\R (TQ K a) b
def bY (K:Ca)(c:TE):TI:=fun e H R=>c e H fun x b=>∃a,x=.ref a/\(∃d,xg K b a d)/\R (TR K a) b
theorem xJ (hl:PE X l tl):PI X tg l (aw X.K tl):=by
 intro f s u H R I h;refine Cf (hl f s u H _ I h) fun v d ⟨x,g,c,t,r⟩=>?_;obtain⟨a,e,⟨z,j⟩,q⟩:=r;subst e;cases t;obtain⟨n,y,p,w⟩:=c.list j;refine J5 p.isList ?_;refine⟨d.heap.objs.size,[d.heap.objs.size],_,_,g,rfl,c.kept (t':=d.toks) fun b o e=>Q8 _ e,OS a _,⟨_,Zk _ rfl,rfl,rfl⟩,fun b i=>?_,q⟩;have e:b=d.heap.objs.size:=by simpa using i
 subst e;exact c.tL (Zd _)<|c.hok.fresh<|Zd _
theorem jW (hl:PE X l tl):PI X tg l (bY X.K tl):=by
 intro g s u H R I h;refine Cf (hl g s u H _ I h) fun v c ⟨x,i,d,t,r⟩=>?_;obtain⟨a,e,⟨z,n⟩,q⟩:=r;subst e;cases t;obtain⟨f,y,p,w⟩:=d.tuple n;refine Uc (show c.heap.IsTuple a f.toArray from p) ?_;refine⟨c.heap.objs.size,[c.heap.objs.size],_,_,i,rfl,d.kept (t':=c.toks) fun b o e=>Q8 _ e,MV a _,⟨_,Zk _ rfl,rfl,rfl⟩,fun b j=>?_,q⟩;have e:b=c.heap.objs.size:=by simpa using j
 subst e;exact d.tL (Zd _)<|d.hok.fresh<|Zd _
theorem HL {R:It->Hp->Prop}{E:Ei->Dh}{lo c:Int}{t u v:Tok}{f:Nat}(I:Inv X Do σ H s)(i:-(2 ^ 62)<=lo)(j:lo<2 ^ 62)(l:-(2 ^ 62)<=c)(n:c<2 ^ 62)
  (q:R (RZ lo (c-lo).toNat) H):El (Ep X.prog X.w) X.A (pyIter<|.ref s.heap.objs.size) (PIE X Do σ tg R) E { s with heap:=s.heap.push { cls:=.type "range",data:=.fields #[.int lo t,.int c u,.int 1 v] },toks:=f }:=by
 refine wpAny_pyIter_range (IsRange.new ..) (small_one i j l n) ?_;have d:Inv X Do σ H { s with heap:=s.heap.push { cls:=.type "range",data:=.fields #[.int lo t,.int c u,.int 1 v] },toks:=f }:=I.kept fun b o e=>Q8 _ e;refine⟨(s.heap.push { cls:=.type "range",data:=.fields #[.int lo t,.int c u,.int 1 v] }).objs.size,[(s.heap.push { cls:=.type "range",data:=.fields #[.int lo t,.int c u,.int 1 v] }).objs.size],_,_,H,rfl,d.kept (t':=f) fun b o e=>Q8 _ e,MU _ lo (c-lo).toNat,?_,fun b p=>?_,q⟩
 ·have g:lo+((0:Nat):Int)*1=lo:=by simp
  have h:(((c-lo).toNat:Nat):Int)-((0:Nat):Int)=Builtin.Range.rangeSize lo c 1:=by rw[rangeSize_one];split<;>lia
  show IsRangeIter _ _ (lo+((0:Nat):Int)*1) ((((c-lo).toNat:Nat):Int)-((0:Nat):Int)) 1;rw[g,h];exact Zk _ rfl
 ·have e:b=(s.heap.push { cls:=.type "range",data:=.fields #[.int lo t,.int c u,.int 1 v] }).objs.size:=by simpa using p
  subst e;exact d.tL (Zd _)<|d.hok.fresh<|Zd _
def aB (c:TA):TI:=fun e H R=>c e H fun d b=>∃j:Int,d=[.int j]/\-(2 ^ 62)<=j/\j<2 ^ 62/\R (RZ 0 j.toNat) b
def aD (c:TA):TI:=fun e H R=>c e H fun d b=>∃i j:Int,d=[.int i,.int j]/\(-(2 ^ 62)<=i/\i<2 ^ 62/\-(2 ^ 62)<=j/\j<2 ^ 62)/\R (RZ i (j-i).toNat) b
theorem Xb {a:EN}{p pos:Pos}(g:Gl X "range")(i:X.mg "range"=none)(f:PA X [a] ta)(hs:Ey [a] X.env=[(false,E8 a X.env)]:=by rfl):PI X tg (.Call (.Name "range" p) [a] [] pos) (aB ta):=by
 intro c s o H R I h;refine Call_<|kD I g i boot_range<|Y1 (Cf (f pos c s o H _ I h) fun w v ⟨x,u,d,n,b⟩=>?_) hs rfl;obtain⟨j,e,b,l,q⟩:=b;subst e;cases n with
 |cons r rr =>
  cases rr;obtain⟨t,rfl⟩:=r;exact call_range_1 (HL d (by lia) (by lia) b l<|by simpa using q)
theorem OL {a b:EN}{p pos:Pos}(n:Gl X "range")(o:X.mg "range"=none)(l:PA X [a,b] ta)(hs:Ey [a,b] X.env=[(false,E8 a X.env),(false,E8 b X.env)]:=by rfl)(c:Ey [b] X.env=[(false,E8 b X.env)]:=by rfl) :
  PI X tg (.Call (.Name "range" p) [a,b] [] pos) (aD ta):=by
 intro f s y H R I h;refine Call_ (kD I n o boot_range<|Y1 (Cf (l pos f s y H _ I h) fun C A ⟨D,z,g,x,d⟩=>?_) (by rw[hs,c]) (by rw[c];rfl));obtain⟨i,j,e,⟨d,u,v,w⟩,q⟩:=d;subst e;cases x with
 |cons r rr =>
  cases rr with
  |cons r' rr =>
   cases rr;obtain⟨t,rfl⟩:=r;obtain⟨B,rfl⟩:=r';exact call_range_2<|HL g d u v w q
def cE (n:TI)(g:TG)(l:TS):TS:=fun D b H=>n b H fun J h=>∃W:Nat->Nat->St->Hp->Prop,(∃m,W 0 m b h)/\∀i m b H,W i m b H ->
 (J.stop i H/\D.nx b H)\/(J.go i H/\∃N:St->Hp->Prop,(∀d c,N d c->∃f,f<m/\W (i+1) f d c)/\∀x c,J.oZ i H x c->g x b c fun e j=>l { D with nx:=N,ct:=N,bk:=D.nx } e j)
def U7 (c:Dd)(h:EB):De:=c.filterMap fun b=>(h.get? b).map fun o=>(b,o)
theorem jO {c:Dd}{h:EB}{b:Ej}{o:Obj}(d:b∈c)(e:h.get? b=some o):(b,o)∈U7 c h:=JP.mpr ⟨b,d,by rw[e];rfl⟩
theorem OI {p:Ej×Obj}(f:p∈U7 fp h):p.1∈fp/\h.get? p.1=some p.2:=by
 obtain⟨b,d,e⟩:=JP.mp f;cases q:h.get? b with
 |none=>rw[q]at e;cases e
 |some o =>
  rw[q]at e;have c:(b,o)=p:=Option.some.inj e;subst c;exact⟨d,q⟩
theorem Inv.pinned {c:Dd}(I:Inv X Do σ H s)(l:∀b∈c,XH X Do H b)(n:∀b∈c,∃o,s.heap.get? b=some o/\∀v,o.data≠.cell v):Inv X (Do++U7 c s.heap) σ H s :=
 I.vW fun p q=>(Zy.mp q).elim (fun z=>I.pin p<|ZA _ z) fun z=>by
  obtain⟨g,e⟩:=OI z;obtain⟨h,i,j,_⟩:=l p.1 g;obtain⟨o,f,d⟩:=n p.1 g;rw[e]at f;cases f;exact⟨e,h,i,j,d⟩
theorem Inv.rW {b pl:De}(I:Inv X (b++pl) σ H s):Inv X b σ H s:=I.vW fun p c=>I.pin p<|ZA _<|ZZ _ c
theorem yU {pos:Pos}(K:PassesOwn (Ep X.prog X.w) X.A X.env X.xe)(hc:X.calm=true)(hi:PI X tg iter wi)(hg:PG X tg g)(p:tG X body tb)
  (hs:∀x,foldedSetIterable iter X.env x=Lo x:=by intro _;rfl):PS X (.For tg iter body [] pos) (cE wi g tb):=by
 intro C s σ H D I h;refine wpAny_For (Cf (hi C s σ H _ I h) fun v s1 h1=>Cf h1 fun ab s2 h2=>?_) hs;obtain⟨it,F,tn,J,H2,e,I2,T,U,f2,W,⟨m0,w0⟩,turn⟩:=h2;subst e;have q:∀{z:Hp},(∀b∈F,z b=none)->∀b∈F,XH X C z b:=fun hn b p=>⟨hn b p,(f2 b p).2⟩;refine codeAny_forLoop_any (fun n s'=>∃i t z,Inv X C t z s'/\tn i s'.heap/\(∀b∈F,z b=none)/\W i n t z) ?_ m0 ⟨0,σ,H2,I2,U,fun b p=>(f2 b p).1,w0⟩;rintro n s3 ⟨i,y,O,I3,M,G,w3⟩
 rcases turn i n y O w3 with⟨stop,qn⟩|⟨go,N,hN,step⟩
 ·refine Vo K (Cf (T.done X rfl rfl rfl hc i C s3 y O X.xe I3 (q G) M stop) fun r s4 ⟨R,I4⟩=>?_);subst R;exact V3 ⟨y,O,I4,qn⟩
 ·refine Vo K (Cf (T.item X rfl rfl rfl hc i C s3 y O X.xe I3 (q G) M go) fun r s4 ⟨u,R,h4⟩=>?_);subst R;refine Vo K<|Cf h4 fun _ s5 ⟨x,Z,I5,r5,y5,E,Q⟩=>?_;have P:=I5.pinned (q Q)<|T.obj _ _ E;refine Vo K<|Cf (hg _ s5 y Z x u _ P r5<|step x Z y5) fun _ s6 ⟨Y,H6,I6,q6⟩=>?_;refine Vo K<|Cf (p _ s6 Y H6 _ I6 q6) fun f S B=>?_;have again:∀{c:St} {j:Hp},Inv X (C++U7 F s5.heap) c j S->N c j->∃m,m<n/\∃i t z,Inv X C t z S/\tn i S.heap/\(∀b∈F,z b=none)/\W i m t z:=fun{c j} l L=>by
   obtain⟨m',hm,w7⟩:=hN c j L;refine⟨m',hm,i+1,c,j,l.rW,T.keep _ _ _ E fun b p o e=>(l.pin (b,o)<|ZA _<|ZA _<|jO p e).1,fun b p=>?_,w7⟩;obtain⟨o,e,d⟩:=T.obj _ _ E b p;exact(l.pin (b,o)<|ZA _<|ZA _<|jO p e).2.1
  cases f with
  |next=>obtain⟨c,j,l,L⟩:=B;exact again l L
  |cont=>obtain⟨c,j,l,L⟩:=B;exact again l L
  |brk=>obtain⟨c,j,l,B⟩:=B;exact⟨c,j,l.rW,B⟩
  |ret v=>obtain⟨x7,c,j,l,r7,B⟩:=B;exact⟨x7,c,j,l.rW,r7,B⟩
end
theorem j9 {K:Ca}{xs:Dj}{g:TG}{f:TS}{D:Ends}{b:St}{H:Hp}(c:Nat->St->Hp->Prop)(h:c 0 b H)(hl:∀i b H,i<=xs.length->c i b H->yx K H a xs)
  (hs:∀i x b H,xs[i]?=some x->c i b H->g x b H fun σ2 H2=>f { D with nx:=c<|i+1,ct:=c<|i+1,bk:=D.nx } σ2 H2) (hd:∀b H,c xs.length b H->D.nx b H) :
  ∃W:Nat->Nat->St->Hp->Prop,(∃m,W 0 m b H)/\∀i m b H,W i m b H ->
   ((TQ K a).stop i H/\D.nx b H)\/((TQ K a).go i H/\∃N:St->Hp->Prop,(∀σ' H',N σ' H'->∃m',m'<m/\W (i+1) m' σ' H')/\∀x H',(TQ K a).oZ i H x H'->g x b H' fun σ2 H2=>f { D with nx:=N,ct:=N,bk:=D.nx } σ2 H2):=by
 refine⟨fun i m b H=>m=xs.length-i/\i<=xs.length/\c i b H,⟨xs.length,by simp,ZD _,h⟩,?_⟩;rintro i m b H ⟨rfl,j,p⟩;have q:=hl i b H j p
 by_cases d:i<xs.length
 ·refine .inr ⟨⟨xs,xs[i],q,by simp[d]⟩,c<|i+1,fun σ' H' l=>⟨xs.length-(i+1),by lia,rfl,d,l⟩,fun x H' y=>?_⟩;obtain⟨e,y⟩:=y;subst e;exact hs i x b _ (y xs q) p
 ·have e:i=xs.length:=by lia
  subst e;exact .inl ⟨⟨xs,q,Zd _⟩,hd b H p⟩
theorem B5 {K:Ca}{xs:Dj}{g:TG}{f:TS}{D:Ends}{b:St}{H:Hp}(c:Nat->St->Hp->Prop)(h:c 0 b H)(hl:∀i b H,i<=xs.length->c i b H->xg K H a xs)
  (hs:∀i x b H,xs[i]?=some x->c i b H->g x b H fun σ2 H2=>f { D with nx:=c<|i+1,ct:=c<|i+1,bk:=D.nx } σ2 H2) (hd:∀b H,c xs.length b H->D.nx b H) :
  ∃W:Nat->Nat->St->Hp->Prop,(∃m,W 0 m b H)/\∀i m b H,W i m b H ->
   ((TR K a).stop i H/\D.nx b H)\/((TR K a).go i H/\∃N:St->Hp->Prop,(∀σ' H',N σ' H'->∃m',m'<m/\W (i+1) m' σ' H')/\∀x H',(TR K a).oZ i H x H'->g x b H' fun σ2 H2=>f { D with nx:=N,ct:=N,bk:=D.nx } σ2 H2):=by
 refine⟨fun i m b H=>m=xs.length-i/\i<=xs.length/\c i b H,⟨xs.length,by simp,ZD _,h⟩,?_⟩;rintro i m b H ⟨rfl,j,p⟩;have q:=hl i b H j p
 by_cases d:i<xs.length
 ·refine .inr ⟨⟨xs,xs[i],q,by simp[d]⟩,c<|i+1,fun σ' H' l=>⟨xs.length-(i+1),by lia,rfl,d,l⟩,fun x H' y=>?_⟩;obtain⟨e,y⟩:=y;subst e;exact hs i x b _ (y xs q) p
 ·have e:i=xs.length:=by lia
  subst e;exact .inl ⟨⟨xs,q,Zd _⟩,hd b H p⟩
theorem Bp {lo:Int}{n:Nat}{g:TG}{f:TS}{D:Ends}{b:St}{H:Hp}(c:Nat->St->Hp->Prop)(h:c 0 b H)
  (hs:∀i b H,i<n->c i b H->g (.int<|lo+i) b H fun σ2 H2=>f { D with nx:=c<|i+1,ct:=c<|i+1,bk:=D.nx } σ2 H2) (hd:∀b H,c n b H->D.nx b H) :
  ∃W:Nat->Nat->St->Hp->Prop,(∃m,W 0 m b H)/\∀i m b H,W i m b H ->
   ((RZ lo n).stop i H/\D.nx b H)\/((RZ lo n).go i H/\∃N:St->Hp->Prop,(∀σ' H',N σ' H'->∃m',m'<m/\W (i+1) m' σ' H')/\∀x H',(RZ lo n).oZ i H x H'->g x b H' fun σ2 H2=>f { D with nx:=N,ct:=N,bk:=D.nx } σ2 H2):=by
 refine⟨fun i m b H=>m=n-i/\i<=n/\c i b H,⟨n,by simp,ZD _,h⟩,?_⟩;rintro i m b H ⟨rfl,l,p⟩
 by_cases d:i<n
 ·refine .inr ⟨d,c<|i+1,fun σ' H' j=>⟨n-(i+1),by lia,rfl,d,j⟩,fun x H' y=>?_⟩;obtain⟨e,y⟩:=y;subst e y;exact hs i b _ d p
 ·have e:i=n:=by lia
  subst e;exact .inl ⟨Zd _,hd b H p⟩
abbrev R2:=V->V->Hp->VK->Prop
def Ct (X:Cx)(f:Ei->Ei->Sem Ei)(r:R2):Prop :=
 ∀(b:De) (s:Em) (c:St) (H:Hp) (x y:V) (v u:Ei) (Q:VK),Inv X b c H s->yq x v->yq y u->r x y H Q ->
  El (Ep X.prog X.w) X.A (f v u) (EP X b c Q) X.xe s
def bP (X:Cx)(f:Ei->Sem Ei)(r:V->Hp->VK->Prop):Prop :=
 ∀(b:De) (s:Em) (c:St) (H:Hp) (x:V) (v:Ei) (Q:VK),Inv X b c H s->yq x v->r x H Q ->
  El (Ep X.prog X.w) X.A (f v) (EP X b c Q) X.xe s
def xf (X:Cx)(f:Ei)(r:Dj->Hp->VK->Prop):Prop :=
 ∀(b:De) (s:Em) (e:St) (H:Hp) (d:Dj) (c:Db) (Q:VK),Inv X b e H s->yr d c->r d H Q ->
  El (Ep X.prog X.w) X.A (call f c) (EP X b e Q) X.xe s
def bO (X:Cx)(r:V->Hp->(Bool->Hp->Prop)->Prop):Prop :=
 ∀(b:De) (s:Em) (c:St) (H:Hp) (x:V) (v:Ei) (Q:Bool->Hp->Prop),Inv X b c H s->yq x v->r x H Q ->
  El (Ep X.prog X.w) X.A (truthy v) (TP X b c Q) X.xe s
def bI (r:R2)(e f:TE):TE:=fun b H Q=>e b H fun x c=>f b c fun y d=>r x y d Q
def tUn (r:V->Hp->VK->Prop)(c:TE):TE:=fun d H Q=>c d H fun x b=>r x b Q
inductive rI (C:Int->Int->Prop)(g:Int->Int->V)(x y:V)(H:Hp)(Q:VK):Prop
 |mk (i j:Int) (e:x=.int i) (f:y=.int j) (c:C i j) (q:Q (g i j) H):rI C g x y H Q
inductive mX (g:Int->Int->V)(x y:V)(H:Hp)(Q:VK):Prop
 |mk (i j:Int) (e:x=.int i) (f:y=.int j) (q:Q (g i j) H):mX g x y H Q
def rU (g:Int->V):V->Hp->VK->Prop:=fun x H Q=>∃i,x=.int i/\Q (g i) H
section
variable {X:Cx}{a b c:EN}{ta tb tc:TE}{pos:Pos}
theorem T5 (i:PE X a ta)(j:PE X b tb){d:De}{s:Em}{c:St}{H:Hp}{R:V->V->Hp->Prop}(I:Inv X d c H s)
  (h:ta c H fun x H1=>tb c H1 fun y H2=>R x y H2) {Q:Ei->Dh} {f:Ei->Ei->Sem Ei}
  (l:∀v u s2 x y H2,Inv X d c H2 s2->yq x v->yq y u->R x y H2->El (Ep X.prog X.w) X.A (f v u) Q X.xe s2) :
  El (Ep X.prog X.w) X.A (E8 a X.env) (fun v s₁=>El (Ep X.prog X.w) X.A (E8 b X.env) (fun u s₂=>El (Ep X.prog X.w) X.A (f v u) Q X.xe s₂) X.xe s₁) X.xe s:=by
 refine Cf (i d s c H _ I h) fun v r ⟨x,H1,e,p,n⟩=>?_;refine Cf (j d r c H1 _ e n) fun u s2 ⟨y,H2,g,q,o⟩=>?_;exact l v u s2 x y H2 g p q o
theorem zP {op:Operator}(i:Ct X (Mf op) r)(f:PE X a ta)(g:PE X b tb):PE X (.BinOp a op b pos) (bI r ta tb):=by
 intro c s o H Q I h;exact wpAny_BinOp<|T5 f g I h fun v u n x y d e j l q=>i c n o d x y v u Q e j l q
theorem aS {op:UnaryOp}(g:bP X (unaryOp op) r)(f:PE X a ta):PE X (.UnaryOp op a pos) (tUn r ta):=by
 intro b s c H Q I h;exact UnaryOp_<|Cf (f b s c H _ I h) fun v l ⟨x,d,e,j,i⟩=>g b l c d x v Q e j i
theorem b8 {f:Ei->Ei->Sem Ei}{C:Int->Int->Prop}{g:Int->Int->Int}
  (b:∀(i j:Int) (t u:Tok) (s:Em) (Q:Ei->Dh) (E:Ei->Dh),C i j->Q (.int (g i j) s.toks) { s with toks:=s.toks+1 }->El (Ep X.prog X.w) X.A (f (.int i t)<|.int j u) Q E s) :
  Ct X f (rI C fun i j=>.int<|g i j):=by
 intro n s o H x y v u Q I d e h;obtain⟨i,j,rfl,rfl,c,q⟩:=h;obtain⟨t,rfl⟩:=d;obtain⟨l,rfl⟩:=e;exact b i j t l s _ _ c ⟨.int<|g i j,H,I.tok _,⟨_,rfl⟩,q⟩
theorem aK {f:Ei->Ei->Sem Ei}{g:Int->Int->Int}
  (b:∀(i j:Int) (t u:Tok) (s:Em) (Q:Ei->Dh) (E:Ei->Dh),Q (.int (g i j) s.toks) { s with toks:=s.toks+1 }->El (Ep X.prog X.w) X.A (f (.int i t)<|.int j u) Q E s) :
  Ct X f (mX fun i j=>.int<|g i j):=by
 intro l s n H x y v u Q I c d h;obtain⟨i,j,rfl,rfl,q⟩:=h;obtain⟨t,rfl⟩:=c;obtain⟨e,rfl⟩:=d;exact b i j t e s _ _ ⟨.int<|g i j,H,I.tok _,⟨_,rfl⟩,q⟩
theorem Ws {f:Ei->Ei->Sem Ei}{g:Int->Int->Bool}
  (b:∀(i j:Int) (t u:Tok) (s:Em) (Q:Ei->Dh) (E:Ei->Dh),Q (.bool<|g i j) s->El (Ep X.prog X.w) X.A (f (.int i t)<|.int j u) Q E s) :
  Ct X f (mX fun i j=>.bl<|g i j):=by
 intro l s n H x y v u Q I c d h;obtain⟨i,j,rfl,rfl,q⟩:=h;obtain⟨t,rfl⟩:=c;obtain⟨e,rfl⟩:=d;exact b i j t e s _ _ ⟨.bl<|g i j,H,I,rfl,q⟩
def bK (i j:Int):Prop:=0<j/\j<1073741824
def mJ (i j:Int):Prop:=(-(2 ^ 64)<i/\i<2 ^ 64)\/(-(2 ^ 64)<j/\j<2 ^ 64)
theorem mJ.ok (h:mJ i j):IntMulOk i j:=by
 rcases h with⟨h1,h2⟩|⟨h1,h2⟩
 ·exact .of_left (intBits_le_64 h1 h2)
 ·exact .of_right (intBits_le_64 h1 h2)
theorem xH:Ct X (Mf .Add) (mX fun i j=>.int<|i+j):=aK fun _ _ _ _ _ _ _ q=>add_int q
theorem Wv:Ct X (Mf .Sub) (mX fun i j=>.int<|i-j):=aK fun _ _ _ _ _ _ _ q=>sub_int q
theorem Iz:Ct X (Mf .Mult) (rI mJ fun i j=>.int<|i*j):=b8 fun _ _ _ _ _ _ _ b q=>mul_int q b.ok
theorem qU:Ct X (Mf .FloorDiv) (rI bK fun i j=>.int<|i / j):=b8 fun i j _ _ _ _ _ b q=>by
 have c:(0:Int)<j:=b.1;have d:j<1073741824:=b.2;exact floordiv_int (by lia) (by rwa[Int.fdiv_eq_ediv_of_nonneg i<|by lia]) (.inl<|PyProof.noPylong_small<|by lia)
theorem yS:Ct X (Mf .Mod) (rI (fun _ j=>0<j) fun i j=>.int<|i % j):=b8 fun i j _ _ _ _ _ b q=>by
 have c:(0:Int)<j:=b;exact mod_int' (by lia) (by rwa[Int.fmod_eq_emod_of_nonneg i<|by lia])
theorem unI {f:Ei->Sem Ei}{g:Int->Int}
  (b:∀(i:Int) (t:Tok) (s:Em) (Q:Ei->Dh) (E:Ei->Dh),Q (.int (g i) s.toks) { s with toks:=s.toks+1 }->El (Ep X.prog X.w) X.A (f<|.int i t) Q E s) :
  bP X f (rU fun i=>.int<|g i):=by
 intro d s e H x v Q I c h;obtain⟨i,rfl,q⟩:=h;obtain⟨t,rfl⟩:=c;exact b i t s _ _ ⟨.int<|g i,H,I.tok _,⟨_,rfl⟩,q⟩
theorem W2:bP X (unaryOp .USub) (rU fun i=>.int<|-i):=unI fun _ _ _ _ _ q=>neg_int q
def ba:V->V->Bool
 | .non,.non=>true|.non,.int _=>true|.int _,.non=>true|.non,.bl _=>true|.bl _,.non=>true|.non,.str _=>true|.str _,.non=>true
 | .int _,.int _=>true|.bl _,.bl _=>true|.str _,.str _=>true|.byt _,.byt _=>true
 | .int _,.str _=>true|.str _,.int _=>true|.bl _,.str _=>true|.str _,.bl _=>true
 |_,_=>false
def rEq:R2:=fun x y H Q=>ba x y=true/\Q (.bl<|decide (x=y)) H
def rNe:R2:=fun x y H Q=>ba x y=true/\Q (.bl<|!decide (x=y)) H
theorem M9 {i j:Int}:decide (V.int i=V.int j)=(i==j):=by
 rw[Yq];simp
theorem Pc {i j:Bool}:decide (V.bl i=V.bl j)=(i==j):=by
 rw[Yq];simp
theorem Na {i j:Str}:decide (V.str i=V.str j)=(i==j):=by
 rw[Yq];simp
theorem M8 {i j:Array UInt8}:decide (V.byt i=V.byt j)=(i.toList==j.toList):=by
 rw[Yq];cases i;cases j;simp
theorem yE {Q:VK}{k b:Bool}(I:Inv X Do σ H s)(q:Q (.bl k) H)(e:k=b):EP X Do σ Q (.bool b) s:=by
 subst e;exact⟨.bl k,H,I,rfl,q⟩
theorem qJ:Ct X (EZ .Eq) rEq:=by
 intro f s g H x y v u Q I e b h;obtain⟨d,q⟩:=h;cases x with
 |non =>
  cases e;cases y with
  |non=>cases b;exact PySem.EqNone.eq_none_none (yE I q<|by simp)
  |bl j=>cases b;exact PySem.EqNone.eq_none_bool (yE I q<|by simp)
  |int j=>obtain⟨c,rfl⟩:=b;exact PySem.EqNone.eq_none_int (yE I q<|by simp)
  |str j=>obtain⟨c,rfl⟩:=b;exact PySem.EqNone.eq_none_str (yE I q<|by simp)
  |_=>exact absurd (show false=true from d) ZH
 |bl i =>
  cases e;cases y with
  |non=>cases b;exact PySem.EqNone.eq_bool_none (yE I q<|by simp)
  |bl j=>cases b;exact eq_bool<|yE I q Pc
  |str j=>obtain⟨c,rfl⟩:=b;exact PySem.EqMixed.eq_bool_str (yE I q<|by simp)
  |_=>exact absurd (show false=true from d) ZH
 |int i =>
  obtain⟨t,rfl⟩:=e;cases y with
  |non=>cases b;exact PySem.EqNone.eq_int_none (yE I q<|by simp)
  |int j=>obtain⟨c,rfl⟩:=b;exact eq_int<|yE I q M9
  |str j=>obtain⟨c,rfl⟩:=b;exact PySem.EqMixed.eq_int_str (yE I q<|by simp)
  |_=>exact absurd (show false=true from d) ZH
 |str i =>
  obtain⟨t,rfl⟩:=e;cases y with
  |non=>cases b;exact PySem.EqNone.eq_str_none (yE I q<|by simp)
  |bl j=>cases b;exact PySem.EqMixed.eq_str_bool (yE I q<|by simp)
  |int j=>obtain⟨c,rfl⟩:=b;exact PySem.EqMixed.eq_str_int (yE I q<|by simp)
  |str j=>obtain⟨c,rfl⟩:=b;exact eq_str<|yE I q Na
  |_=>exact absurd (show false=true from d) ZH
 |byt i =>
  obtain⟨t,rfl⟩:=e;cases y with
  |byt j=>obtain⟨c,rfl⟩:=b;exact PySem.W.eq_bytes<|yE I q M8
  |_=>exact absurd (show false=true from d) ZH
 |_=>cases y<;>exact absurd (show false=true from d) ZH
theorem aQ:Ct X (EZ .NotEq) rNe:=by
 intro f s g H x y v u Q I e b h;obtain⟨d,q⟩:=h;cases x with
 |non =>
  cases e;cases y with
  |non=>cases b;exact PySem.EqNone.ne_none_none (yE I q<|by simp)
  |bl j=>cases b;exact PySem.EqNone.ne_none_bool (yE I q<|by simp)
  |int j=>obtain⟨c,rfl⟩:=b;exact PySem.EqNone.ne_none_int (yE I q<|by simp)
  |str j=>obtain⟨c,rfl⟩:=b;exact PySem.EqNone.ne_none_str (yE I q<|by simp)
  |_=>exact absurd (show false=true from d) ZH
 |bl i =>
  cases e;cases y with
  |non=>cases b;exact PySem.EqNone.ne_bool_none (yE I q<|by simp)
  |bl j=>cases b;exact ne_bool<|yE I q<|congrArg not Pc
  |str j=>obtain⟨c,rfl⟩:=b;exact PySem.EqMixed.ne_bool_str (yE I q<|by simp)
  |_=>exact absurd (show false=true from d) ZH
 |int i =>
  obtain⟨t,rfl⟩:=e;cases y with
  |non=>cases b;exact PySem.EqNone.ne_int_none (yE I q<|by simp)
  |int j=>obtain⟨c,rfl⟩:=b;exact ne_int<|yE I q<|congrArg not M9
  |str j=>obtain⟨c,rfl⟩:=b;exact PySem.EqMixed.ne_int_str (yE I q<|by simp)
  |_=>exact absurd (show false=true from d) ZH
 |str i =>
  obtain⟨t,rfl⟩:=e;cases y with
  |non=>cases b;exact PySem.EqNone.ne_str_none (yE I q<|by simp)
  |bl j=>cases b;exact PySem.EqMixed.ne_str_bool (yE I q<|by simp)
  |int j=>obtain⟨c,rfl⟩:=b;exact PySem.EqMixed.ne_str_int (yE I q<|by simp)
  |str j=>obtain⟨c,rfl⟩:=b;exact ne_str<|yE I q<|congrArg not Na
  |_=>exact absurd (show false=true from d) ZH
 |byt i =>
  obtain⟨t,rfl⟩:=e;cases y with
  |byt j=>obtain⟨c,rfl⟩:=b;exact PySem.W.ne_bytes<|yE I q<|congrArg not M8
  |_=>exact absurd (show false=true from d) ZH
 |_=>cases y<;>exact absurd (show false=true from d) ZH
theorem aO:Ct X (EZ .Lt) (mX fun i j=>.bl<|decide (i<j)):=Ws fun _ _ _ _ _ _ _ q=>lt_int q
theorem ND:Ct X (EZ .LtE) (mX fun i j=>.bl<|decide (i<=j)):=Ws fun _ _ _ _ _ _ _ q=>le_int q
theorem aM:Ct X (EZ .Gt) (mX fun i j=>.bl<|decide (j<i)):=Ws fun _ _ _ _ _ _ _ q=>gt_int q
theorem K4:Ct X (EZ .Is) (fun x y H Q=>y=.non/\Q (.bl<|decide (x=.non)) H):=by
 intro d s e H x y v u Q I b c h;obtain⟨rfl,q⟩:=h;cases c;refine is_none_gen<|yE I q ?_;cases x<;>first
  |(cases b;rfl)
  |(obtain⟨t,rfl⟩:=b;rfl)
theorem SG:Ct X (EZ .IsNot) (fun x y H Q=>y=.non/\Q (.bl<|!decide (x=.non)) H):=by
 intro d s e H x y v u Q I b c h;obtain⟨rfl,q⟩:=h;cases c;refine isnot_none_gen<|yE I q ?_;cases x<;>first
  |(cases b;rfl)
  |(obtain⟨t,rfl⟩:=b;rfl)
theorem zW (b:EN){op:CmpOp}(h:op≠.In:=by decide)(e:op≠.NotIn:=by decide):behindInMarks op b=false:=by
 have c:(op==CmpOp.In)=false:=by cases op<;>first|rfl|exact absurd rfl h
 have d:(op==CmpOp.NotIn)=false:=by cases op<;>first|rfl|exact absurd rfl e
 cases b<;>simp[behindInMarks,c,d]
theorem yT {op:CmpOp}(j:Ct X (EZ op) r)(f:PE X a ta)(g:PE X b tb)(i:behindInMarks op b=false):PE X (.Compare a [op] [b] pos) (bI r ta tb):=by
 intro c s p H Q I h;exact wpAny_Compare1 (T5 f g I h fun v u o x y d e l n q=>j c o p d x y v u Q e l n q) i
inductive kj (x:V)(H:Hp)(Q:Bool->Hp->Prop):Prop
 |mk (k:Bool) (e:x=.bl k) (q:Q k H):kj x H Q
def br (t:TE):TT:=fun c H Q=>t c H fun x b=>kj x b Q
theorem zU {op:CmpOp}(w:Ct X (EZ op) r)(p:PE X a ta)(q:PE X b tb)(t:behindInMarks op b=false):PT X (.Compare a [op] [b] pos) (br<|bI r ta tb):=by
 intro d s f H Q I h;refine wpAny_isTrue_Compare1 (Cf (p d s f H _ I h) fun v G ⟨x,g,l,D,A⟩=>Cf (q d G f g _ l A) fun u J ⟨y,i,n,E,B⟩ => Cf (w d J f i x y v u _ n D E B) fun c K ⟨z,j,o,F,k,e,C⟩=>?_) t
 subst e;cases F;exact Y2 ⟨j,o,C⟩
def WP (r g:R2)(ta tb tc:TE):TE:=fun b H Q=>ta b H fun x d=>tb b d fun y e=>r x y e fun z c=>∃k,z=.bl k /\
 (if k=true then tc b c fun h f=>g y h f Q else Q (.bl false) c)
theorem Id {op f:CmpOp}(J:Ct X (EZ op) r)(j:Ct X (EZ f) r')(D:PE X a ta)(E:PE X b tb)(F:PE X c tc)
  (G:lastMarks [op,f] [b,c]=false:=by with_unfolding_all rfl):PE X (.Compare a [op,f] [b,c] pos) (WP r r' ta tb tc):=by
 intro g s i H Q I h;refine Compare_chain (Cf (D g s i H _ I h) fun v R ⟨x,q,A,N,K⟩=>chain_link<|Cf (E g R i q _ A K) fun u S ⟨y,t,B,p,L⟩ => Cf (J g S i t x y v u _ B N p L) fun d T ⟨z,l,n,O,k,e,o⟩=>?_) G
 subst e;cases O;refine Y2 ?_;cases k with
 |false=>exact ite_ff ⟨.bl false,l,n,rfl,o⟩
 |true=>exact ite_tt<|chain_last<|Cf (F g T i l _ n o) fun Y U ⟨Z,w,C,P,M⟩=>j g U i w y Z u Y Q C p P M
def TY (K:Ca)(x:V)(H:Hp)(k:Bool):Prop :=
 match x with
 | .non=>k=false
 | .bl b=>k=b
 | .int i=>k=(i !=0)
 | .str y=>y.length<=sizeLine/\k=((y.length:Int) !=0)
 | .byt y=>y.size<=sizeLine/\k=((y.size:Int) !=0)
 | .ref p=>(∃c,yx K H p c/\k=!c.isEmpty)\/(∃c,xg K H p c/\k=!c.isEmpty)\/∃d,H p=some (.dK d)/\k=!d.isEmpty
 |_=>False
theorem KJ {κ:Type}{Dm:List (κ×V)}{vs:List (κ×Ei)}(r:KV Dm vs):(!vs.isEmpty)=!Dm.isEmpty:=by
 cases r<;>rfl
theorem Ir (r:yr xs its):(!its.toArray.isEmpty)=!xs.isEmpty:=by
 cases r<;>simp
theorem Xe:(sizeLine:Nat)<2 ^ 63:=by rw[Ym];decide
theorem W0:bO X (fun x H Q=>∃k,TY X.K x H k/\Q k H):=by
 intro B s D H x v Q I g h;obtain⟨k,e,q⟩:=h;have hl:=Xe;have C:sizeLine=16777216:=Ym;cases x with
 |non =>
  cases g;have c:k=false:=e;subst c;exact truthy_none ⟨H,I,q⟩
 |bl b =>
  cases g;have c:k=b:=e;subst c;exact Y2 ⟨H,I,q⟩
 |int i =>
  obtain⟨t,rfl⟩:=g;have c:k=(i !=0):=e;subst c;exact PySem.P.truthy_int ⟨H,I,q⟩
 |str y =>
  obtain⟨t,rfl⟩:=g;obtain⟨A,c⟩:y.length<=sizeLine/\k=((y.length:Int) !=0):=e;subst c;exact PySem.P.truthy_str (by lia) ⟨H,I.tok _,q⟩
 |byt y =>
  obtain⟨t,rfl⟩:=g;obtain⟨A,c⟩:y.size<=sizeLine/\k=((y.size:Int) !=0):=e;subst c;exact PySem.W.truthy_bytes (by lia) ⟨H,I.tok _,q⟩
 |ref p =>
  cases g;have c:(∃d,yx X.K H p d/\k=!d.isEmpty)\/(∃d,xg X.K H p d/\k=!d.isEmpty)\/∃f,H p=some (.dK f)/\k=!f.isEmpty:=e
  rcases c with⟨d,hx,c⟩|⟨d,hx,c⟩|⟨f,hx,c⟩
  ·subst c;obtain⟨l,r,n,u⟩:=I.list hx;have o:=r.length;exact wpAny_truthy_list n.isList (by simp only[Zp];lia) ⟨H,I.tok _,by rw[Ir r];exact q⟩
  ·subst c;obtain⟨l,r,n,u⟩:=I.tuple hx;have o:=r.length;exact truthy_tuple n (by simp only[Zp];lia) ⟨H,I.tok _,by rw[Ir r];exact q⟩
  ·subst c;obtain⟨u,z,j,r,m⟩:f.length<=sizeLine/\(p==EV)=false/\∃j,KV f j/\s.heap.DictOf (za X.prog X.w) p j:=I.hok p _ hx;have o:f.length=j.length:=Paired.length r;exact wpAny_truthy_dict z m (by lia) ⟨H,I.tok _,by rw[KJ r];exact q⟩
 |_=>exact(show False from e).elim
theorem Rw (e:PE X a ta)(f:∀whole,isTrue a X.env whole=(do let v ←whole;standAt a.pos;holding [v] (truthy v))) :
  PT X a (fun σ H Q=>ta σ H fun x H'=>∃k,TY X.K x H' k/\Q k H'):=by
 intro b s σ H Q I h;exact isTrue_plain (Cf (e b s σ H _ I h) fun v j ⟨x,c,d,i,g⟩=>W0 b j σ c x v Q d i g) (f _)
theorem zK:Ct X (Mf .Add) (fun x y H Q=>∃i j,x=.str i/\y=.str j/\i.length+j.length<=sizeLine/\Q (.str<|i++j) H):=by
 intro f s l H x y v u Q I c d h;obtain⟨i,j,rfl,rfl,b,q⟩:=h;obtain⟨t,rfl⟩:=c;obtain⟨e,rfl⟩:=d;exact add_str (fun e g=>⟨.str<|i++j,H,I.tok _,⟨_,rfl⟩,q⟩) b
theorem wW {x:V}(r:yr [x] us):∃u,us=[u]/\yq x u:=by
 cases r with
 |cons r1 r2=>cases r2;exact⟨_,rfl,r1⟩
theorem vals2 {x y:V}(r:yr [x,y] us):∃u w',us=[u,w']/\yq x u/\yq y w':=by
 cases r with
 |cons r1 r2 =>
  cases r2 with
  |cons r3 r4=>cases r4;exact⟨_,_,rfl,r1,r3⟩
theorem Ob (c:X.calm=true):xf X (.builtin "max") (fun xs H Q=>∃i j,xs=[.int i,.int j]/\Q (.int<|if j>i then j else i) H):=by
 intro d s o H xs l Q I r h;obtain⟨i,j,rfl,q⟩:=h;obtain⟨u,n,rfl,⟨t,rfl⟩,⟨f,rfl⟩⟩:=vals2 r;refine max_two_ints (I.ok.hd c) fun e g k=>⟨_,H,I.kept k,?_,q⟩
 by_cases b:j>i
 ·rw[Zt b,Zt b];exact⟨_,rfl⟩
 ·rw[Zs b,Zs b];exact⟨_,rfl⟩
theorem N9:xf X (.type "int") (fun xs H Q=>(∃i,xs=[.int i]/\Q (.int i) H)\/∃k,xs=[.bl k]/\Q (.int<|if k then 1 else 0) H):=by
 intro c s e H xs d Q I r h
 rcases h with⟨i,rfl,q⟩|⟨k,rfl,q⟩
 ·obtain⟨u,rfl,t,rfl⟩:=wW r;exact call_int_int ⟨.int i,H,I,⟨_,rfl⟩,q⟩
 ·obtain⟨u,rfl,b⟩:=wW r;cases b;exact call_int_bool ⟨.int<|if k then 1 else 0,H,I.tok _,⟨_,rfl⟩,q⟩
theorem jB:xf X (.type "str") (fun xs H Q=>∃i,xs=[.int i]/\i.natAbs.log2<1920/\Q (.str<|L4 i) H):=by
 intro c s e H xs d Q I r h;obtain⟨i,rfl,b,q⟩:=h;obtain⟨u,rfl,t,rfl⟩:=wW r;exact PySem.P.str_of_int b ⟨.str _,H,I.tok _,⟨_,rfl⟩,q⟩
theorem FB:xf X (.builtin "ord") (fun xs H Q=>∃x,xs=[.str x]/\x.length=1/\Q (.int (x.cps.getD 0 0:Nat)) H):=by
 intro c s e H xs d Q I r h;obtain⟨x,rfl,b,q⟩:=h;obtain⟨u,rfl,t,rfl⟩:=wW r;exact ord_of_one b ⟨.int _,H,I.tok _,⟨_,rfl⟩,q⟩
end
structure pY (h:EB)(x dx C:Ej)(mA:Str->Dc):Prop where
 obj:h.get? x=some (Lq C dx)
 ns:h.Ns1 dx mA
 ne:dx≠x
theorem OC {h:EB}{b:Ej}{d:Str->Dc}(n:h.Ns1 b d):∃od,h.get? b=some od/\∀name,PySem.W.lookIn name od=some (d name):=by
 obtain⟨o,c,r,l,hd,i,_,j⟩:=n;refine⟨o,l,fun name=>?_⟩;have e:=j name;unfold nsFind findBy at e;rw[←Array.find?_toList]at e;unfold PySem.W.lookIn;rw[hd];dsimp only
 split
 ·rename_i y q;rw[q]at e;exact congrArg some e
 ·rename_i q;rw[q]at e;have a:c.toList.any (·.refKey)=false:=by
   rw[J6];intro y p;obtain⟨z,t,f⟩:=i y<|Array.mem_toList_iff.mp p;simp[DictEntry.refKey,f]
  have g:¬c.toList.any (·.refKey)=true:=by rw[a];exact ZH
  rw[Zs g];exact congrArg some e
theorem pY.look (I:pY h x dx C mA):∃od,PySem.W.InstAt h x (Lq C dx) C (some od)/\∀name,PySem.W.lookIn name od=some (mA name) :=
 let ⟨od,ho,hl⟩:=OC I.ns
 ⟨od,⟨I.obj,rfl,rfl,ho⟩,hl⟩
section
variable {prog:Ek}{w:Eo}{A:EF}{E:Ei->Dh}{s:Em}{K:Ca}{x dx C f:Ej}{mA:Str->Dc}{name:Str}{v:Ei}
theorem Sq {b:Bool}{Q:Ei->Dh}(X:K.In s.heap)(I:pY s.heap x dx C mA)(e:LZ K C name=true)(f:Mg K C=true)
  (d:EU K (.ref C) name=some none) (g:mA name=some v) (c:PySem.W.handedIn v=true) (h:Q v { s with toks:=s.toks+1 }) :
  El (Ep prog w) A (getAttr (.ref x) name b) Q E s:=by
 obtain⟨i,J,hl⟩:=I.look;exact PySem.W.get_value X J (V7 e).1 (PySem.W.findObj_own f d rfl<|by rw[hl,g]) c h
theorem Ps {pl:Sem Bool}{Q:Ei×Db->Dh}(X:K.In s.heap)(I:pY s.heap x dx C mA)(b:LZ K C name=true)
  (c:EU K (.ref C) name=some (some<|.ref f)) (d:Mt K (.ref f)=true) (e:mA name=none) (h:Q (.ref f,[.ref x]) s) :
  El (Ep prog w) A (MA (.ref x) name pl) Q E s:=by
 obtain⟨g,J,hl⟩:=I.look;exact PySem.W.method_fn X J (V7 b).1 (V7 b).2 c (Jl.mp d) (by show(PySem.W.lookIn name g).map (·.isSome)=some false;rw[hl,e];rfl) h
theorem S6 {ns:Da}{Q:Unit->Dh}(X:K.In s.heap)(I:pY s.heap x dx C mA)
  (hs:EU K (.ref C) "__setattr__"=some (some<|.builtin "object.__setattr__")) (p:PySem.W.plainOver K C=true) (q:PySem.W.takerIn K C name=some none) (o:Mg K C=true)
  (t:PySem.Within mA ns) (hsz:ns.length<=sizeLine)
  (h:∀h',pY h' x dx C (fun y=>if y=name then some v else mA y)->ES dx s.heap h'->Q () { s with heap:=h',toks:=s.toks+2 }) :
  El (Ep prog w) A (setAttr (.ref x) name v) Q E s:=by
 obtain⟨B,J,hl⟩:=I.look;refine PySem.W.set_plain X J hs<|PySem.W.osa_open (s:={ s with toks:=s.toks+1 }) (r:=none) X J p q fun b=>?_;obtain⟨z,n,f⟩:=PySem.W.any_some o;have u:s.heap.get? x=some ⟨.ref C,some dx,.plain,#[]⟩:=I.obj;refine Q4<|Q7<|Q4<|Q4<|wpAny_loadPart u<|Q4<|PySem.W.Looks.here (s:={ s with toks:=s.toks+1 }) (PySem.W.looks_clsIn X n) ?_;rw[f];refine Q7 (a:=some dx)<|Q4<|Q7<|Q4 ?_;refine wpAny_nsSet1 (s:={ s with toks:=s.toks+1 }) I.ns fun h' c d=>?_;obtain⟨oD,l,j,i,g,e⟩:=c.count<|PySem.Within.cons name v t;refine Q4 (wpAny_lookBehind i (by rw[g];exact pastItsLine_dict<|ZL e (by rw[Zn];lia)) ?_);exact Q7<|h _ ⟨(d.2 _<|EK I.ne).trans I.obj,c,I.ne⟩ d
theorem P7 {R:Result->Dh}{vs:Db}{b:List (Str×Ei)}(X:K.In s.heap)(i:Mq K C=true)
  (e:EU K (.ref C) "__init__"=some (some<|.ref f)) (c:PySem.W.typeIn K (.ref f)=some (.type "function"))
  (h:L1 (Ep prog w) (A.under<|.builtin "type.__call__" ⟨.ref C::vs,b⟩) (.call (.ref f) ⟨.ref (s.heap.objs.size+1)::vs,b⟩) (PySem.W.InitBack (s.heap.objs.size+1) R) { s with heap:=(s.heap.push Lb).push (Lq C s.heap.objs.size) }) :
  L1 (Ep prog w) A (.call (.ref C) ⟨vs,b⟩) R s:=by
 obtain⟨j,g,d,t,os⟩:=s;exact PySem.W.make_core (PySem.W.makes_of X i) (PySem.W.looks_findIn X e) (fun self=>PySem.W.bind_fn X self c) (.inl rfl) h
end
def Uu (f:Str)(v:V):List (Str×V)->List (Str×V)
 |[]=>[(f,v)]
 |(g,x)::r=>if g=f then(g,v)::r else(g,x)::Uu f v r
theorem Xu (f g:Str)(v:V):∀fs:List<|Str×V,(Uu f v fs).lookup g=if g=f then some v else fs.lookup g
 |[]=>by
  show LJ g [(f,v)]=_
  by_cases h:g=f
  ·have b:(g==f)=true:=Jl.mpr h;simp only[LJ,b,Zt h]
  ·have b:(g==f)=false:=YH.mpr h;simp only[LJ,b,Zs h]
 |(k,x)::r=>by
  have d:=Xu f g v r;rw[show Uu f v ((k,x)::r)=(if k=f then(k,v)::r else(k,x)::Uu f v r) from rfl]
  by_cases c:k=f
  ·rw[Zt c]
   by_cases h:g=k
   ·have b:(g==k)=true:=Jl.mpr h;simp only[LJ,b,Zt<|h.trans c]
   ·have b:(g==k)=false:=YH.mpr h;simp only[LJ,b,Zs (fun e:g=f=>h<|e.trans c.symm)]
  ·rw[Zs c]
   by_cases h:g=k
   ·have b:(g==k)=true:=Jl.mpr h;simp only[LJ,b,Zs (fun e:g=f=>c<|h.symm.trans e)]
   ·have b:(g==k)=false:=YH.mpr h;simp only[LJ,b];exact d
theorem Xc (f:Str)(v:V):∀fs:List<|Str×V,f∈(Uu f v fs).map (·.1)/\∀g,g∈fs.map (·.1)->g∈(Uu f v fs).map (·.1)
 |[]=>⟨by simp[Uu],fun g h=>by simp at h⟩
 |(k,x)::r=>by
  obtain⟨c,d⟩:=Xc f v r;rw[show Uu f v ((k,x)::r)=(if k=f then(k,v)::r else(k,x)::Uu f v r) from rfl]
  by_cases b:k=f
  ·rw[Zt b];subst b;exact⟨by simp,fun g h=>by simpa using h⟩
  ·rw[Zs b];refine⟨?_,fun g h=>?_⟩
   ·rw[Zv];exact Q9 _ c
   ·rw[Zv]at h ⊢
    rcases Zh.mp h with e|e
    ·exact Zh.mpr (.inl e)
    ·exact Q9 _ (d g e)
theorem Xs (f:Str)(v:V):∀fs:List<|Str×V,(Uu f v fs).length<=fs.length+1
 |[]=>by simp[Uu]
 |(k,x)::r=>by
  have c:=Xs f v r;rw[show Uu f v ((k,x)::r)=(if k=f then(k,v)::r else(k,x)::Uu f v r) from rfl]
  by_cases b:k=f
  ·rw[Zt b,Zn,Zn];lia
  ·rw[Zs b,Zn,Zn];lia
theorem wu.some_of {v:V}(r:wu (some v) o):∃u,o=some u/\yq v u:=by
 cases o with
 |none=>exact(show False from r).elim
 |some u=>exact⟨u,rfl,r⟩
theorem wu.none_of (r:wu none o):o=none:=by
 cases o with
 |none=>rfl
 |some u=>exact(show False from r).elim
theorem Ot (r:yq v u):PySem.W.handedIn u=true:=by
 cases v with
 |non=>cases(show u=EI from r);rfl
 |bl b=>cases(show u=L7 b from r);rfl
 |int i=>obtain⟨t,e⟩:=(show∃t,u=Mx i t from r);cases e;rfl
 |str x=>obtain⟨t,e⟩:=(show∃t,u=Ma x t from r);cases e;rfl
 |byt b=>obtain⟨t,e⟩:=(show∃t,u=Value.bytes b t from r);cases e;rfl
 |flt b=>obtain⟨t,e⟩:=(show∃t,u=Value.float b t from r);cases e;rfl
 |ref a=>cases(show u=Ez a from r);rfl
 |ty n=>cases(show u=E3 n from r);rfl
section
variable {P:Ek}{w:Eo}{H H':Hp}{h h':EB}{a C dx:Ej}{fs fs':List (Str×V)}
theorem XO (hok:vf P w H h)(e:H a=some (.ins C dx fs)):∃mA,pY h a dx C mA/\(∀f,wu (fs.lookup f)<|mA f)/\PySem.Within mA (fs.map (·.1))/\fs.length<=1000/\H dx=some (.own a):=by
 obtain⟨d,z,ne,b,mA,n,r,q⟩:=(show yp P w H h a (.ins C dx fs) from hok a _ e);exact⟨mA,⟨b,n,ne⟩,r,q,z,d⟩
end
structure Cls (K:Ca)(C:Ej):Prop where
 pg:LZ K C Mj=true
 hd:Mg K C=true
 po:PySem.W.plainOver K C=true
 sa:EU K (.ref C) "__setattr__"=some (some<|.builtin "object.__setattr__")
theorem Cls.get {K:Ca}(c:Cls K C)(f:Str):LZ K C f=true:=c.pg
def vZ (K:Ca)(C:Ej)(f:Str):Prop:=EU K (.ref C) f=some none
theorem vZ.taker {K:Ca}(n:vZ K C f):PySem.W.takerIn K C f=some none:=by
 unfold PySem.W.takerIn;rw[show EU K (.ref C) f=some none from n];rfl
structure Meth (K:Ca)(C:Ej)(m:Str)(f:Ej):Prop where
 at_:EU K (.ref C) m=some (some<|.ref f)
 fn:Mt K (.ref f)=true
 kp:E4 K (.ref f)=true
section
variable {X:Cx}{Do:De}{σ:St}{H:Hp}{s:Em}{a C dx:Ej}{fs:List (Str×V)}{f:Str}{v:V}{A:EF}{E:Ei->Dh}
theorem KG {b:Bool}{Q:Ei->Dh}(I:Inv X Do σ H s)(e:H a=some (.ins C dx fs))(c:Cls X.K C)(n:vZ X.K C f)(l:fs.lookup f=some v)
  (h:∀u s',Inv X Do σ H s'->yq v u->Q u s'):El (Ep X.prog X.w) A (getAttr (.ref a) f b) Q E s:=by
 obtain⟨i,O,r,_,_,_⟩:=XO I.hok e;obtain⟨u,g,d⟩:=wu.some_of (v:=v) (o:=i f) (by rw[←l];exact r f);exact Sq I.vq O (c.get f) c.hd n g (Ot d)<|h u _ (I.tok _) d
theorem uH {pl:Sem Bool}{Q:Ei×Db->Dh}(I:Inv X Do σ H s)(e:H a=some (.ins C dx fs))(c:Cls X.K C)(k:Meth X.K C m g)(l:fs.lookup m=none)
  (h:Q (.ref g,[.ref a]) s):El (Ep X.prog X.w) A (MA (.ref a) m pl) Q E s:=by
 obtain⟨d,O,r,_,_,_⟩:=XO I.hok e;have b:d m=none:=wu.none_of (by rw[←l];exact r m);exact Ps I.vq O (c.get m) k.at_ k.fn b h
theorem MP {Q:Unit->Dh}(I:Inv X Do σ H s)(e:H a=some (.ins C dx fs))(c:Cls X.K C)(n:vZ X.K C f)(hl:fs.length<1000)(F:yq y u)
  (h:∀s',Inv X Do σ (upd H a<|.ins C dx<|Uu f y fs) s'->Q () s'):El (Ep X.prog X.w) A (setAttr (.ref a) f u) Q E s:=by
 obtain⟨j,O,r,l,_,i⟩:=XO I.hok e;have B:(fs.map (·.1)).length<=sizeLine:=by rw[Q5,Ym];lia
 refine S6 I.vq O c.sa c.po n.taker c.hd l B fun p d D=>h _ ?_;have hd:∃o,p.get? dx=some o:=let ⟨o,_,_,e',_⟩:=d.ns;⟨o,e'⟩;refine I.write (x:=a) (e:=dx) (by rw[e];exact Ls) (.inr i) (fun b q t z=>(D.2 b t).trans z) hd ?_;refine⟨by rw[zG O.ne];exact i,?_,O.ne,d.obj,_,d.ns,fun g=>?_,fun g v=>?_⟩
 ·have:=Xs f y fs;lia
 ·show wu ((Uu f y fs).lookup g) (if g=f then some u else j g);rw[Xu]
  by_cases q:g=f
  ·rwa[Zt q,Zt q]
  ·rw[Zs q,Zs q];exact r g
 ·by_cases q:g=f
  ·rw[q];exact(Xc f y fs).1
  ·refine(Xc f y fs).2 g (l g fun z=>v ?_);show(if g=f then some u else j g)=none;rwa[Zs q]
theorem Inv.made (I:Inv X Do σ H s):Inv X Do σ (upd (upd H s.heap.objs.size<|.own<|s.heap.objs.size+1) (s.heap.objs.size+1)<|.ins C s.heap.objs.size [])
  { s with heap:=(s.heap.push Lb).push (Lq C s.heap.objs.size) }:=by
 have c:(s.heap.push Lb).get? s.heap.objs.size=some PySem.W.emptyDict:=Zk s.heap rfl;have f:((s.heap.push Lb).push<|Lq C s.heap.objs.size).get? (s.heap.objs.size+1)=some (Lq C s.heap.objs.size):=by
  have:=Zk (s.heap.push Lb) (o:=Lq C s.heap.objs.size) rfl
  rwa[YL]at this
 have g:(s.heap.push Lb).Ns s.heap.objs.size (fun _=>none):=⟨Lb,#[],_,c,rfl,(fun e h=>absurd h<|by simp),fun _=>rfl⟩;have d:=I.laid (a:=s.heap.objs.size) (o:=.own<|s.heap.objs.size+1) (h':=s.heap.push Lb) (t':=s.toks) (fun b u q=>Q8 _ q) (Zd _) ⟨_,c⟩;refine d.laid (a:=s.heap.objs.size+1) (o:=.ins C s.heap.objs.size []) (t':=s.toks) (fun b u q=>Q8 _ q) (JQ<|YL _ _) ?_;have ne:s.heap.objs.size≠s.heap.objs.size+1:=Zu<|Jq _;refine⟨by rw[zG ne,zC],ZD _,ne,f,fun _=>none,(Heap.Ns1.of_empty g).at fun o q=>Q8 _ q,fun _=>Ls,fun y i=>absurd rfl i⟩
theorem R9 {prog:Ek}{w:Eo}{env:Env}{e:EN}{f:Str}{pos:Pos}{s:Em}{Q:Ei->Dh}(b:LA e f env (E8 e env)=E8 e env)
  (h:El (Ep prog w) A (E8 e env) (fun o s₁=>El (Ep prog w) A (getAttr o f true) Q E s₁) E s):El (Ep prog w) A (E8 (.Attribute e f pos) env) Q E s :=
 Attribute_any_ h (by rw[arm_eval_Attribute,b])
end
def cD (K:Ca)(d:TE)(f:Str):TE:=fun e H Q=>d e H fun x b=>∃a C c fs v,x=.ref a/\b a=some (.ins C c fs)/\Cls K C/\vZ K C f/\fs.lookup f=some v/\Q v b
def cA (K:Ca)(g h:TE)(f:Str):TS:=fun D b H=>h b H fun y e=>g b e fun x c=>∃a C d fs,x=.ref a/\c a=some (.ins C d fs)/\Cls K C/\vZ K C f/\fs.length<1000 /\
 D.nx b (upd c a<|.ins C d<|Uu f y fs)
section
variable {X:Cx}{o e value:EN}{f:Str}{pos DI D8:Pos}{ta tv:TE}
theorem kT (p:PE X e ta)(o:LA e f X.env (E8 e X.env)=E8 e X.env):PE X (.Attribute e f pos) (cD X.K ta f):=by
 intro b s w H Q I h;refine R9 o<|Cf (p b s w H _ I h) fun u z ⟨x,d,g,t,a,C,y,fs,v,ex,j,c,n,l,q⟩=>?_;subst ex;obtain rfl:u=Ez a:=t;exact KG g j c n l fun B A i r=>⟨v,d,i,r,q⟩
theorem K8 (r:PE X o ta)(t:PE X value tv)(hs:Mz value (some<|.Attribute o f DI) pos.line X.env=Lo false):PS X (.Assign [.Attribute o f DI] value pos) (cA X.K ta tv f):=by
 intro d s b H D I h;refine plainObj_wpAny_Assign_Attribute (Cf (t d s b H _ I h) fun u B ⟨y,e,g,A,q⟩=>Cf (r d B b e _ g q) fun v G ⟨x,E,i,z,a,C,F,fs,ex,p,c,n,l,w⟩=>?_) hs;subst ex;obtain rfl:v=Ez a:=z;exact MP i p c n l A fun J j=>⟨b,_,j,w⟩
end
section
variable {X:Cx}{Do:De}{σ:St}{H:Hp}{s:Em}{A:EF}{E:Ei->Dh}{Q:Ei->Dh}{c:Ei}{b:Bool}
inductive tu (K:Ca)(H:Hp):V->Ei->Prop where
 |non:tu K H .non<|.type "NoneType"
 |bl (x:Bool):tu K H (.bl x)<|.type "bool"
 |int (i:Int):tu K H (.int i)<|.type "int"
 |str (x:Str):tu K H (.str x)<|.type "str"
 |flt (x:UInt64):tu K H (.flt x)<|.type "float"
 |lst {a:Ej} {xs:Dj} (e:H a=some (.lst xs)):tu K H (.ref a)<|.type "list"
 |frz {a:Ej} {o:Obj} {xs:Dj} (e:H a=some (.frz o<|.lst xs)):tu K H (.ref a)<|.type "list"
 |tup {a:Ej} {xs:Dj} (e:H a=some (.tup xs)):tu K H (.ref a)<|.type "tuple"
 |dK {a:Ej} {Dm:Dl} (e:H a=some (.dK Dm)):tu K H (.ref a)<|.type "dict"
 |dT {a:Ej} {Dm:List (List Key×V)} (e:H a=some (.dT Dm)):tu K H (.ref a)<|.type "dict"
 |ins {a C dx:Ej} {fs:List (Str×V)} (e:H a=some (.ins C dx fs)) (cl:Cls K C) (ha:EU K (.ref C) "__class__"=some (some<|.builtin "object.__class__"))
   (hn:PySem.W.specialIn K (.builtin "object.__class__") "__get__"=some (some<|.builtin "getset_descriptor.__get__")) (htk:PySem.W.takesIn K (.builtin "object.__class__")=some true)
   (hm:PySem.W.mroIn K C (.type "object")=some true):tu K H (.ref a)<|.ref C
theorem jJ (I:Inv X Do σ H s)(d:yq x u)(ty:tu X.K H x t)(e:LF X.K t c=some b)(h:∀tk,Q (.bool b) { s with toks:=tk }) :
  El (Ep X.prog X.w) A (call (.builtin "isinstance") [u,c]) Q E s:=by
 cases ty with
 |non=>cases(show u=EI from d);exact Yr PySem.W.kitx_none I.vq Ls e (fun z=>nomatch z) h
 |bl y=>cases(show u=L7 y from d);exact Yr PySem.W.kitx_bool I.vq Ls e (fun z=>nomatch z) h
 |int i=>obtain⟨t,q⟩:=(show∃t,u=Mx i t from d);cases q;exact Yr PySem.W.kitx_int I.vq Ls e (fun z=>nomatch z) h
 |str y=>obtain⟨t,q⟩:=(show∃t,u=Ma y t from d);cases q;exact Yr PySem.W.kitx_str I.vq Ls e (fun z=>nomatch z) h
 |flt y=>obtain⟨t,q⟩:=(show∃t,u=Value.float y t from d);cases q;exact Yr PySem.W.kitx_float I.vq Ls e (fun z=>nomatch z) h
 | @lst a g ea =>
  cases(show u=Ez a from d);obtain⟨_,_,n,_,f⟩:=(show yp X.prog X.w H s.heap a (.lst g) from I.hok a _ ea);exact Yr Uj I.vq ⟨_,f,rfl⟩ e (fun z=>nomatch z) h
 | @frz a ob g ea =>
  cases(show u=Ez a from d);obtain⟨_,_,_,n,_,f⟩:=(show yp X.prog X.w H s.heap a (.frz ob<|.lst g) from I.hok a _ ea);exact Yr Uj I.vq ⟨_,f,rfl⟩ e (fun z=>nomatch z) h
 | @tup a g ea =>
  cases(show u=Ez a from d);obtain⟨_,_,_,p⟩:=(show yp X.prog X.w H s.heap a (.tup g) from I.hok a _ ea);obtain⟨o,f,j,_⟩:=p;exact Yr PySem.W.kitx_tuple I.vq ⟨o,f,j⟩ e (fun z=>nomatch z) h
 | @dK a Dm ea =>
  cases(show u=Ez a from d);obtain⟨_,_,D,_,p⟩:=(show yp X.prog X.w H s.heap a (.dK Dm) from I.hok a _ ea);obtain⟨o,r,l,f,j,_⟩:=p;exact Yr Uk I.vq ⟨o,f,j.1⟩ e (fun z=>nomatch z) h
 | @dT a Dm ea =>
  cases(show u=Ez a from d);obtain⟨_,_,g,_,o,r,l,f,j,_⟩:=(show yp X.prog X.w H s.heap a (.dT Dm) from I.hok a _ ea);exact Yr Uk I.vq ⟨o,f,j.1⟩ e (fun z=>nomatch z) h
 | @ins a C dx fs ea cl ha hn htk hm =>
  cases(show u=Ez a from d);obtain⟨v,O,_⟩:=XO I.hok ea;obtain⟨B,J,_⟩:=O.look;exact Yr (PySem.W.kitx_own (cl.get _) cl.hd ha hn htk hm) I.vq J e (fun z=>nomatch z) h
end
structure xu (k:Nat)(A:EF):Prop where
 hd:A.handled=none
 dp:A.depth+3*k+5<recursionLimit
 un:A.units+16*k+200<Lc
theorem xu.mono {j:Nat}(r:xu k A)(h:j<=k):xu j A:=⟨r.hd,by have:=r.dp;lia,by have:=r.un;lia⟩
theorem xu.m {j:Nat}(r:xu k A)(h:j<=k:=by decide):xu j A:=r.mono h
theorem xu.deeper {k:Nat}(r:xu (k+1) A)(env:Env):xu k (A.deeper env) :=
 ⟨r.hd,by have:=r.dp;show A.depth+1+3*k+5<_;lia,by have:=r.un;show A.units+3+16*k+200<_;lia⟩
theorem xu.in1 {k:Nat}(r:xu (k+1) A):xu k A.in1 :=
 ⟨r.hd,by have:=r.dp;show A.depth+3*k+5<_;lia,by have:=r.un;show A.units+1+16*k+200<_;lia⟩
theorem KS {A:EF}{C:Ej}{us:Db}{b:List (Str×Ei)}:(A.under<|.builtin "type.__call__" ⟨.ref C::us,b⟩).depth=A.depth+1:=by
 first|rfl|simp[Around.under,Code.weight,Code.isCreation,Code.isGuard,Code.isCaller,Code.frames,Code.isFrame,guardIds]
theorem KU {A:EF}{C:Ej}{us:Db}{b:List (Str×Ei)}:(A.under<|.builtin "type.__call__" ⟨.ref C::us,b⟩).units=A.units+1:=by
 first|rfl|simp[Around.under,Code.cUnits,Code.frames,Code.isFrame]
theorem xu.make {k:Nat}(r:xu (k+1) A)(C:Ej)(us:Db)(b:List<|Str×Ei):xu k (A.under<|.builtin "type.__call__" ⟨.ref C::us,b⟩) :=
 ⟨r.hd,by have:=r.dp;rw[KS];lia,by have:=r.un;rw[KU];lia⟩
theorem xu.depth (r:xu k A):A.depth<recursionLimit:=by have:=r.dp;lia
theorem xu.units (r:xu k A):A.units+64<cLine:=by have:=r.un;lia
def UN:TA:=fun _ H Q=>Q [] H
def be (e:TE)(f:TA):TA:=fun b H Q=>e b H fun x c=>f b c fun g d=>Q (x::g) d
section
variable {X:Cx}{e:EN}{es:List EN}{te:TE}{t:TA}{pos:Pos}
theorem zB:PA X [] UN:=fun _ _ _ _ H Q I h=>LR ⟨[],H,I,.nil,h⟩
theorem zA (j:PE X e te)(l:PA X es t)(hs:Ey (e::es) X.env=(false,E8 e X.env)::Ey es X.env:=by rfl):PA X (e::es) (be te t):=by
 intro pos b s c H Q I h;rw[hs];show El _ _ (spliced ((false,E8 e X.env)::Lh pos (Ey es X.env))) _ _ s;refine Lu<|Cf (j b s c H _ I h) fun u r ⟨x,d,g,p,n⟩=>?_;exact Cf (l pos b r c d _ g n) fun y w ⟨v,f,i,q,o⟩=>⟨x::v,f,i,.cons p q,o⟩
inductive mD (o:Dj->HO)(Q:VK)(xs:Dj)(H1:Hp):Prop
 |mk (l:xs.length<=sizeLine) (q:∀p,H1 p=none->Q (.ref p) (upd H1 p<|o xs)):mD o Q xs H1
def cN (t:TA):TE:=fun d H Q=>t d H fun c b=>mD .tup Q c b
def cH (t:TA):TE:=fun d H Q=>t d H fun c b=>mD .lst Q c b
theorem yH {x1}(h:PA X es t):PE X (.Tuple es x1 pos) (cN t):=by
 intro g s o H Q I j;refine wpAny_Tuple_spliced (Cf (h pos g s o H _ I j) fun l c ⟨n,d,f,r,z,q⟩=>⟨by rw[←r.length];exact z,?_⟩);have i:d c.heap.objs.size=none:=f.hok.fresh<|Zd _;refine⟨.ref c.heap.objs.size,upd d c.heap.objs.size<|.tup n,f.laid (t':=c.toks) (fun b u e=>Q8 _ e) (Zd _) ?_,rfl,q _ i⟩;exact⟨z,l,r,TupAt.new _ _⟩
theorem y9 (h:PA X es t):PE X (.List es pos) (cH t):=by
 intro g s o H Q I j;refine wpAny_List_spliced (Cf (h pos g s o H _ I j) fun l c ⟨n,d,f,r,z,q⟩=>⟨by rw[←r.length];exact z,?_⟩);have i:d c.heap.objs.size=none:=f.hok.fresh<|Zd _;refine⟨.ref c.heap.objs.size,upd d c.heap.objs.size<|.lst n,f.laid (t':=c.toks) (fun b u e=>Q8 _ e) (Zd _) ?_,rfl,q _ i⟩;exact⟨z,l,0,r,Zk _ rfl⟩
end
abbrev Sp:=Dj->Hp->VK->XK->Prop
abbrev RX:=List Env->Hp->Em->XK->Ei->Dh
structure rA (P:Ek)(w:Eo)(K:Ca)(mg:Str->Dc)(base:EB)(A:EF)(outer:List Env)(s:Em)(H:Hp):Prop where
 frames:A.frames=some outer
 mod:Mod K mg base
 bs:∀b o,base.get? b=some o->s.heap.get? b=some o/\H b=none
 oY:base.objs.size<=s.heap.objs.size
 uz:s.heap.FunFrames base outer
 nJ:∀b∈frs outer,H b=none
 hok:vf P w H s.heap
 bare:ME s.gens
def CE (outer:List Env)(P:Ek)(w:Eo)(H:Hp)(s:Em)(Q:VK)(u:Ei)(b:Em):Prop :=
 ∃v c,b.os=s.os/\ME b.gens/\Un (frs outer) [] H c s.heap b.heap/\vf P w c b.heap/\yq v u/\Q v c
def CR (c:RX)(outer:List Env)(P:Ek)(w:Eo)(H:Hp)(s:Em)(Q:VK)(E:XK)(r:Result)(b:Em):Prop :=
 match r with
 | .ok (.ret u)=>CE outer P w H s Q u b
 | .ok _=>False
 | .error e=>c outer H s E e b
structure yu (P:Ek)(w:Eo)(K:Ca)(mg:Str->Dc)(base:EB)(CX:RX)(k:Nat)(f:Ej)(fd:Et)(ps:Da)(sp:Sp):Prop where
 len:∀vs H Q E,sp vs H Q E->vs.length=ps.length
 run:∀(A:EF) (outer:List Env) (s:Em) (H:Hp) (args:Args) (us:Db) (vs:Dj) (Q:VK) (E:XK),xu k A->rA P w K mg base A outer s H->BindsTo s fd args (ps.zip us)->yr vs us->sp vs H Q E ->
  L1 (Ep P w) A (.call (.ref f) args) (CR CX outer P w H s Q E) s
theorem rA.make {K:Ca}(e:rA P w K mg base A outer s H)(C:Ej)(us:Db)(b:List<|Str×Ei) :
  rA P w K mg base (A.under<|.builtin "type.__call__" ⟨.ref C::us,b⟩) outer s H:=⟨by first|exact e.frames|(simpa[Around.under,Code.envs,Code.isFrame,pushEnvs] using e.frames),e.mod,e.bs,e.oY,e.uz,e.nJ,e.hok,e.bare⟩
theorem rA.in1 {K:Ca}(e:rA P w K mg base A outer s H) :
  rA P w K mg base A.in1 outer s H:=⟨e.frames,e.mod,e.bs,e.oY,e.uz,e.nJ,e.hok,e.bare⟩
section
variable {X:Cx}{Do:De}{σ:St}{H:Hp}{s s':Em}
theorem Inv.env0 (I:Inv X Do σ H s):rA X.prog X.w X.K X.mg X.base X.A X.stack s H :=
 ⟨I.ok.frames,I.ok.mod,I.bs,ZL I.ok.oY I.sz,I.stack,I.tU,I.hok,I.bare⟩
theorem Inv.after (I:Inv X Do σ H s)(h:CE X.stack X.prog X.w H s Q u s'):EP X Do σ Q u s':=by
 obtain⟨v,e,os,bare,un,hok,r,q⟩:=h;obtain⟨f,g,d,t,c⟩:=s';obtain rfl:c=s.os:=os;exact⟨v,e,I.call (h':=f) (g':=g) (d':=d) (t':=t) (ch:=[]) un hok bare<|fun b z=>absurd z<|by simp,r,q⟩
end
def TK (sp:Sp)(b:Dj)(E:XK)(t:TA):TE:=fun e H Q=>t e H fun d c=>sp (d++b) c Q E
inductive lE (C:Ej)(m:Str)(sp:Sp)(dvs:Dj)(E:XK)(t:TA)(σ:St)(Q:VK)(x:V)(H1:Hp):Prop
 |mk (a dx:Ej) (fs:List<|Str×V) (e:x=.ref a) (h:H1 a=some (.ins C dx fs)) (n:fs.lookup m=none) (q:t σ H1 fun vs H2=>sp (x::(vs++dvs)) H2 Q E):lE C m sp dvs E t σ Q x H1
def N0 (C:Ej)(m:Str)(sp:Sp)(b:Dj)(E:XK)(e:TE)(t:TA):TE:=fun c H Q=>e c H fun x d=>lE C m sp b E t c Q x d
def TM (C:Ej)(sp:Sp)(d:Dj)(E:XK)(t:TA):TE:=fun g H Q=>t g H fun f c=>∀x b,c x=none->c b=none->b≠x ->
 sp (.ref x::(f++d)) (upd (upd c b<|.own x) x<|.ins C b []) (fun v e=>v=.non/\Q (.ref x) e) E
def wU (K:Ca)(d:Et)(ps:Da)(c:Db):Prop :=
 ∀(s:Em) (b:Db),K.In s.heap->(b++c).length=ps.length->BindsTo s d ⟨b,[]⟩ (ps.zip<|b++c)
theorem wU.all {K:Ca}{b:Et}{ps:Da}(h:∀us:Db,us.length=ps.length->bindArgs b ⟨us,[]⟩=Lo (ps.zip us)):wU K b ps []:=fun s us _ hl=>by
 rw[ZG]at hl ⊢;exact .of_eq<|h us hl
def vE (c:RX)(X:Cx)(E:XK):Prop:=∀(d:De) (f:St) (H:Hp) (s:Em) (e:Ei) (b:Em),Inv X d f H s->c X.stack H s E e b->X.xe e b
section
variable {X:Cx}{CX:RX}{k:Nat}{f C:Ej}{fd:Et}{ps:Da}{sp:Sp}{dvs:Dj}{ds:Db}{E:XK}{x m:Str}{p pos Dr:Pos}{e o:EN}{es:List EN}{ta:TE}{t:TA}
theorem MN {c:De}{d:St}{H:Hp}{s:Em}{Q:VK}{us:Db}{vs:Dj}(F:yu X.prog X.w X.K X.mg X.base CX k f fd ps sp)(j:xu k X.A)(i:wU X.K fd ps ds)(hd:yr dvs ds)(l:vE CX X E)
  (I:Inv X c d H s) (r:yr vs us) (h:sp (vs++dvs) H Q E):El (Ep X.prog X.w) X.A (call (.ref f) us) (EP X c d Q) X.xe s:=by
 have g:yr (vs++dvs) (us++ds):=r.append hd;have hl:(us++ds).length=ps.length:=by rw[←g.length];exact F.len _ _ _ _ h
 refine VQ<|YW (F.run X.A X.stack s H ⟨us,[]⟩ (us++ds) (vs++dvs) Q E j I.env0 (i s us I.vq hl) g h) fun r n b=>?_;cases r with
 |error e=>exact l c d H s e n I b
 |ok fl =>
  cases fl with
  |ret u=>exact I.after b
  |next=>exact EL b
  |brk=>exact EL b
  |cont=>exact EL b
theorem SH (F:yu X.prog X.w X.K X.mg X.base CX k f fd ps sp)(v:xu k X.A)(n:Gl X x)(u:X.mg x=some (.ref f))(o:E4 X.K (.ref f)=true)(j:wU X.K fd ps ds)(hd:yr dvs ds)(y:vE CX X E)
  (i:PA X (e::es) t) (b:(x==("__debug__":Str))=false:=by decide) (l:Ey (e::es) X.env=(false,E8 e X.env)::Ey es X.env:=by rfl) (c:(Lh pos<|Ey es X.env).any (·.1)=false:=by rfl) :
  PE X (.Call (.Name x p) (e::es) [] pos) (TK sp dvs E t):=by
 intro g s z H Q I h;refine Jc<|jY I n u ?_ b;refine JR (h₀:=X.base) I.ok.mod.mW o (Cf (i pos g s z H _ I h) fun D C ⟨G,B,d,r,q⟩=>⟨d.vq,?_⟩) l c;exact MN F v j hd y d r q
theorem SL {pl:Sem Bool}(D:PE X o ta)(c:Cls X.K C)(n:Meth X.K C m f)(F:yu X.prog X.w X.K X.mg X.base CX k f fd ps sp)(G:xu k X.A)(B:wU X.K fd ps ds)(hd:yr dvs ds)(L:vE CX X E)(z:PA X (e::es) t)
  (d:Ey (e::es) X.env=(false,E8 e X.env)::Ey es X.env:=by rfl) (b:(Lh pos<|Ey es X.env).any (·.1)=false:=by rfl)
  (J:E8 (.Call (.Attribute o m Dr) (e::es) [] pos) X.env=(do
   let ov ←E8 o X.env
   standAt Dr.atName
   let (f,first) ←holding [ov] (MA ov m pl)
   callWith pos f first (Lh pos<|Ey (e::es) X.env) (Mn pos<|LK [] X.env)):=by rfl) :
  PE X (.Call (.Attribute o m Dr) (e::es) [] pos) (N0 C m sp dvs E ta t):=by
 intro g s p H Q I h;refine VH (pl:=pl) (Cf (D g s p H _ I h) fun u O ⟨x,v,i,N,a,R,fs,ex,y,l,q⟩=>?_) J;subst ex;obtain rfl:u=Ez a:=N;refine uH i y c n l ?_;refine JR (first:=[.ref a]) (h₀:=X.base) I.ok.mod.mW n.kp (Cf (z pos g O p v _ i q) fun us S ⟨vs,P,j,r,M⟩=>⟨j.vq,?_⟩) d b;exact MN (us:=.ref a::us) (vs:=.ref a::vs) F G B hd L j (.cons rfl r) M
theorem Rp {pl:Sem Bool}(j:PE X o ta)(c:Cls X.K C)(d:Meth X.K C m f)(F:yu X.prog X.w X.K X.mg X.base CX k f fd ps sp)(n:xu k X.A)(i:wU X.K fd ps ds)(hd:yr dvs ds)(r:vE CX X E)
  (p:E8 (.Call (.Attribute o m Dr) [] [] pos) X.env=(do
   let ov ←E8 o X.env
   standAt Dr.atName
   let (f,first) ←holding [ov] (MA ov m pl)
   callWith pos f first (Lh pos<|Ey [] X.env) (Mn pos<|LK [] X.env)):=by rfl) :
  PE X (.Call (.Attribute o m Dr) [] [] pos) (N0 C m sp dvs E ta UN):=by
 intro e s v H Q I h;refine VH (pl:=pl) (Cf (j e s v H _ I h) fun u B ⟨x,y,b,t,a,z,fs,ex,g,l,q⟩=>?_) p;subst ex;obtain rfl:u=Ez a:=t;refine uH b g c d l ?_;exact PySem.W.callWith_K0 (first:=[.ref a]) b.vq d.kp<|MN (us:=[.ref a]) (vs:=[.ref a]) F n i hd r b (.cons rfl .nil) q
structure Mk (K:Ca)(C f:Ej):Prop where
 makes:Mq K C=true
 init:EU K (.ref C) "__init__"=some (some<|.ref f)
 fn:Mt K (.ref f)=true
 kp:E4 K (.ref C)=true
theorem RI {d:De}{g:St}{H:Hp}{s:Em}{Q:VK}{us:Db}{vs:Dj}(M:Mk X.K C f)(F:yu X.prog X.w X.K X.mg X.base CX k f fd ps sp)(q:xu (k+1) X.A)(p:wU X.K fd ps ds)(hd:yr dvs ds)
  (t:vE CX X E) (I:Inv X d g H s) (r:yr vs us)
  (h:∀x dx,H x=none->H dx=none->dx≠x->sp (.ref x::(vs++dvs)) (upd (upd H dx<|.own x) x<|.ins C dx []) (fun v H2=>v=.non/\Q (.ref x) H2) E) :
  El (Ep X.prog X.w) X.A (call (.ref C) us) (EP X d g Q) X.xe s:=by
 have i:=h (s.heap.objs.size+1) s.heap.objs.size (I.hok.fresh<|Jg _) (I.hok.fresh<|Zd _)<|Zu<|Jq _;have c:=Inv.made (C:=C) I;have j:yr (V.ref (s.heap.objs.size+1)::(vs++dvs)) (Ez (s.heap.objs.size+1)::(us++ds)):=.cons rfl<|r.append hd;have hl:(Ez (s.heap.objs.size+1)::us++ds).length=ps.length:=by
  have e:=j.length;rw[F.len _ _ _ _ i]at e;exact e.symm
 refine VQ<|P7 (f:=f) I.vq M.makes M.init (Jl.mp M.fn)<|YW (F.run _ X.stack _ _ ⟨Ez (s.heap.objs.size+1)::us,[]⟩ (Ez (s.heap.objs.size+1)::(us++ds)) _ _ E (q.make C us []) (c.env0.make C us []) (p _ (Ez (s.heap.objs.size+1)::us) c.vq hl) j i) fun r B b=>?_
 cases r with
 |error e=>exact t d g _ _ e B c b
 |ok fl =>
  cases fl with
  |ret u =>
   obtain⟨v,l,n,z,o,y⟩:=c.after b;subst o;exact⟨z,⟨V.ref<|s.heap.objs.size+1,l,n,rfl,y⟩⟩
  |next=>exact EL b
  |brk=>exact EL b
  |cont=>exact EL b
theorem SK (M:Mk X.K C f)(F:yu X.prog X.w X.K X.mg X.base CX k f fd ps sp)(u:xu (k+1) X.A)(n:Gl X x)(o:X.mg x=some (.ref C))(j:wU X.K fd ps ds)(hd:yr dvs ds)(v:vE CX X E)
  (i:PA X (e::es) t) (b:(x==("__debug__":Str))=false:=by decide) (l:Ey (e::es) X.env=(false,E8 e X.env)::Ey es X.env:=by rfl) (c:(Lh pos<|Ey es X.env).any (·.1)=false:=by rfl) :
  PE X (.Call (.Name x p) (e::es) [] pos) (TM C sp dvs E t):=by
 intro g s y H Q I h;refine Jc<|jY I n o ?_ b;refine JR (h₀:=X.base) I.ok.mod.mW M.kp (Cf (i pos g s y H _ I h) fun D B ⟨G,z,d,r,q⟩=>⟨d.vq,?_⟩) l c;exact RI M F u j hd v d r q
end
structure zu (N P:Da)(sc:LV):Prop where
 kind:sc.kind=.function
 co:sc.isCoroutine=false
 gen:sc.isGenerator=false
 nd:N.Nodup
 pre:N.take P.length=P
 par:∀x∈P,sc.names.lookup x=some .local\/sc.names.lookup x=some .cell
 mG:∀y∈sc.names,y.2≠.free
theorem Cn {N P:Da}{sc:LV}(a:sc.kind=.function:=by rfl)(b:sc.isCoroutine=false:=by rfl)(c:sc.isGenerator=false:=by rfl)(d:N.Nodup:=by decide +kernel)(e:N.take P.length=P:=by rfl)(f:∀x∈P,sc.names.lookup x=some .local\/sc.names.lookup x=some .cell:=by decide +kernel)(g:∀y∈sc.names,y.2≠.free:=by decide +kernel):zu N P sc:=⟨a,b,c,d,e,f,g⟩
theorem GQ {kindOf:Str->Option L5}{x:Str}:∀{binds:List (Str×Ei)} {m:Str->Dc},(∀v,(x,v)∉binds)->bindL kindOf binds m x=m x
 |[],_,_=>rfl
 |(n,v)::r,m,h=>by
  unfold bindL;rw[GQ fun w b=>h w<|Q9 _ b]
  split
  ·have:x≠n:=by rintro rfl;exact h v Zc
   simp[this]
  ·rfl
theorem Bn {kindOf:Str->Option L5}{x:Str}:∀{binds:List (Str×Ei)} {m:Str->Dc},(∀v,(x,v)∉binds)->bindC kindOf binds m x=m x
 |[],_,_=>rfl
 |(n,v)::r,m,h=>by
  unfold bindC;rw[Bn fun w b=>h w<|Q9 _ b]
  split
  ·rfl
  ·have:x≠n:=by rintro rfl;exact h v Zc
   simp[this]
theorem BI {kindOf:Str->Option L5}{x:Str}{v:Ei}:∀{P:Da} {vs:Db} {i:Nat} {m:Str->Dc},P.Nodup->P[i]?=some x->vs[i]?=some v->kindOf x=some .local ->
  bindL kindOf (P.zip vs) m x=some v
 |[],_,_,_,_,h,_,_=>by simp at h
 |_::_,[],_,_,_,_,h,_=>by simp at h
 |p::P,w::vs,0,m,nd,h1,h2,hk=>by
  simp at h1 h2;subst h1;subst h2;show bindL kindOf ((p,w)::P.zip vs) m p=_;unfold bindL;rw[GQ fun v b=>(Z9.mp nd).1 (JZ b).1,Zt hk];simp
 |p::P,w::vs,i+1,m,nd,h1,h2,hk=>by
  show bindL kindOf ((p,w)::P.zip vs) m x=_;unfold bindL;exact BI (i:=i) (Z9.mp nd).2 (by simpa using h1) (by simpa using h2) hk
theorem GM {kindOf:Str->Option L5}{x:Str}{v:Ei}:∀{P:Da} {vs:Db} {i:Nat} {m:Str->Dc},P.Nodup->P[i]?=some x->vs[i]?=some v->kindOf x≠some .local ->
  bindC kindOf (P.zip vs) m x=some v
 |[],_,_,_,_,h,_,_=>by simp at h
 |_::_,[],_,_,_,_,h,_=>by simp at h
 |p::P,w::vs,0,m,nd,h1,h2,hk=>by
  simp at h1 h2;subst h1;subst h2;show bindC kindOf ((p,w)::P.zip vs) m p=_;unfold bindC;rw[Bn fun v b=>(Z9.mp nd).1 (JZ b).1,Zs hk];simp
 |p::P,w::vs,i+1,m,nd,h1,h2,hk=>by
  show bindC kindOf ((p,w)::P.zip vs) m x=_;unfold bindC;exact GM (i:=i) (Z9.mp nd).2 (by simpa using h1) (by simpa using h2) hk
def start (N:Da)(vs:Dj):St:=vs.map some++List.replicate (N.length-vs.length) none
def Xf (d:RX)(P:Ek)(w:Eo)(K:Ca)(mg:Str->Dc)(base:EB)(N:Da)(qual:Str)(scope:LV)(f:Ej)(c:Ei)(A:EF)(outer:List Env)(s:Em)(H:Hp)(E:XK):Cx where
 prog:=P
 w:=w
 K:=K
 mg:=mg
 base:=base
 A:=A.deeper<|Mr qual scope s.heap.objs.size f c
 N:=N
 s₀:=s
 H₀:=H
 env:=Mr qual scope s.heap.objs.size f c
 outer:=outer
 stack:=Mr qual scope s.heap.objs.size f c::outer
 ex:=[]
 calm:=true
 fn:=fun _=>true
 pn:=[]
 xe:=fun e h=>El (Ep P w) (A.deeper<|Mr qual scope s.heap.objs.size f c) (leaving (Mr qual scope s.heap.objs.size f c) e) (fun _ b=>d outer H s E e b) (fun g b=>d outer H s E g b) h
theorem FD {sc:LV}{n:Nat}{x:Str}(h:sc.names.lookup x=some .cell):∃c,(cellsFrom n sc.names []).lookup x=some c:=by
 have q:=Vy sc.names n []<|.inl h;exact YD.mp q
theorem Bi {F:RX}{P:Ek}{w:Eo}{K:Ca}{mg:Str->Dc}{base:EB}{N ps:Da}{qual:Str}{scope:LV}{f:Ej}{B:Ei}{A:EF}{outer:List Env}{s J:Em}{H:Hp}{E:XK}{us:Db}{vs:Dj}
  (S:zu N ps scope) (hd:A.handled=none) (g:rA P w K mg base A outer s H) (hl:vs.length=ps.length) (r:yr vs us)
  (x:InCallC s s.heap.objs.size (bindL (Mr qual scope s.heap.objs.size f B).kindOf (ps.zip us) fun _=>none) (cellsFrom (s.heap.objs.size+1) scope.names []) (bindC (Mr qual scope s.heap.objs.size f B).kindOf (ps.zip us) fun _=>none) J) :
  Inv (Xf F P w K mg base N qual scope f B A outer s H E) [] (start N vs) H J:=by
 have M:ps.length<=N.length:=by have:=congrArg List.length S.pre;rw[Zx]at this;lia
 obtain⟨D,R,rfl,G⟩:=x.done;have l:∀b:Ej,b∉(Xf F P w K mg base N qual scope f B A outer s H E).ex:=fun b z=>absurd (show b∈([]:Dd) from z) (by simp);refine⟨⟨g.mod,S.kind,rfl,rfl,Zd _,fun y z c D d=>?_,fun y j=>?_,fun y c _ h=>?_,fun _=>hd,Around.frames_deeper g.frames,.inr ⟨rfl,rfl⟩,fun b z=>absurd z<|l b,g.bs,g.oY,fun b _ _=>l b,fun b z=>absurd z<|l b,g.uz,g.nJ⟩,rfl,g.bare,Un.kept G,⟨_,x.toInCall.ns,fun i y v D d Q=>?_⟩,fun y c h=>⟨_,x.cell y c h⟩,g.hok.fresh<|Zd _,fun y c h=>?_,fun p o=>absurd (show p∈([]:De) from o) (by simp),g.hok.kept G,?_⟩
 ·exact name_of_addr x.apart (Y8 D) (Y8 d)
 ·have j:scope.names.lookup y=some .cell\/scope.names.lookup y=some .free:=j
  rcases j with j|j
  ·exact FD j
  ·exact absurd rfl (S.mG _<|Y8 j)
 ·exact Yu (x.above y c<|Y8 h)
 ·have C:i<vs.length:=by
   unfold start at d
   by_cases C:i<vs.length
   ·exact C
   ·rw[ZX<|by simpa using C]at d;rw[List.getElem?_replicate]at d
    split at d<;>cases d
  have L:vs[i]?=some v:=by
   unfold start at d;rw[ZS<|by simpa using C,Zj]at d;cases e:vs[i]? with
   |none=>rw[e]at d;cases d
   |some a=>rw[e]at d;cases d;rfl
  obtain⟨u,I,O⟩:=r.get L;have o:ps[i]?=some y:=by
   rwa[←S.pre,List.getElem?_take_of_lt<|by lia]
  have t:ps.Nodup:=by rw[←S.pre];exact S.nd.sublist<|List.take_sublist _ _
  refine⟨u,O,?_⟩
  rcases S.par y (Zm o) with k|k
  ·exact .inl ⟨k,BI t o I k⟩
  ·obtain⟨c,e⟩:=FD (n:=s.heap.objs.size+1) k;refine .inr ⟨.inl k,c,e,?_⟩;have q:=x.cell y c e;rw[GM t o I (by show scope.names.lookup y≠_;rw[k];decide)]at q;exact q
 ·exact g.hok.fresh (Yu<|x.above y c<|Y8 h)
 ·unfold start;show _=N.length;rw[Ze,Q5,List.length_replicate];lia
theorem Pp {z:RX}{P:Ek}{w:Eo}{K:Ca}{mg:Str->Dc}{base:EB}{k:Nat}{f:Ej}{name qual:Str}{params:Arguments}{body:List EW}{scope:LV}{T kV i pm c ct oc:Ei}{O od:Option Ej}
  {F:Array Dc} {N ps:Da} {sp:Sp} (lk:K.lookup f=some ⟨oc,od,.func<|Le name qual params body scope T kV i pm O c ct,F⟩) (B:LG K c qual=true) (S:zu N ps scope)
  (len:∀vs H Q E,sp vs H Q E->vs.length=ps.length)
  (X:∀(A:EF) (outer:List Env) (s:Em) (H:Hp) (vs:Dj) (Q:VK) (E:XK),xu k (A.deeper<|Mr qual scope s.heap.objs.size f c)->sp vs H Q E -> ∃t,tG (Xf z P w K mg base N qual scope f c A outer s H E) body t/\t { nx:=fun _ H'=>Q .non H',rt:=Q } (start N vs) H) :
  yu P w K mg base z (k+1) f (Le name qual params body scope T kV i pm O c ct) ps sp:=by
 refine⟨len,fun A outer s H R us vs Q E C j Z r p=>?_⟩;have hl:=len _ _ _ _ p;have M:K.In s.heap:=j.mod.mW.keeps fun b o e=>(j.bs b o e).1;have D:s.heap.NoLimit:=j.mod.nolimit.keeps fun b o e=>(j.bs b o e).1;have g:∀y∈ps.zip us,scope.names.lookup y.1=some .local\/(scope.names.lookup y.1=some .cell/\((cellsFrom (s.heap.objs.size+1) scope.names []).lookup y.1).isSome=true):=fun⟨n,v⟩ hy=>by
  rcases S.par n (JZ hy).1 with q|q
  ·exact .inl q
  ·exact .inr ⟨q,Vy _ _ _<|.inl q⟩
 refine codeAny_call_function C.depth (M _ _ lk) rfl S.co S.gen rfl (PySem.W.codeRec_of M B)<|Z _ _ _ _ ?_;refine wpAny_newFunctionEnv_cells S.kind g fun env he U x=>?_;subst he;refine⟨D.keeps x.toInCall.keep,codeAny_func ?_⟩;obtain⟨t,ht,hq⟩:=X A outer s H vs Q E (C.deeper _) p;have I:Inv (Xf z P w K mg base N qual scope f c A outer s H E) [] (start N vs) H U:=Bi S C.hd j hl r x;refine Yg (ht [] U (start N vs) H _ I hq) (fun Y L h=>?_) fun e L h=>h;have l:∀{d:St} {H':Hp} {v:V} {u:Ei},Inv (Xf z P w K mg base N qual scope f c A outer s H E) [] d H' L->yq v u->Q v H'->CE outer P w H s Q u L :=
  fun{d H' v u} J G q=>⟨v,H',J.os,J.bare,J.base,J.hok,G,q⟩
 cases Y with
 |ret u =>
  obtain⟨v,d,H',J,G,q⟩:=h;exact l J G q
 |next =>
  obtain⟨d,H',J,q⟩:=h;exact l (v:=V.non) (u:=EI) J rfl q
 |brk =>
  obtain⟨_,_,_,q⟩:=h;exact EL q
 |cont =>
  obtain⟨_,_,_,q⟩:=h;exact EL q
section
variable {X:Cx}{x:Str}{p pos:Pos}{e:EN}{es:List EN}{t:TA}{id T:String}{r:Dj->Hp->VK->Prop}
def cR (r:Dj->Hp->VK->Prop)(t:TA):TE:=fun d H Q=>t d H fun c b=>r c b Q
theorem zO (l:xf X (.builtin id) r)(o:Gl X x)(q:X.mg x=none)(v:LL x=some (.builtin id))(j:PA X (e::es) t)(u:x≠"__name__":=by decide)(b:(x==("__debug__":Str))=false:=by decide)
  (n:Ey (e::es) X.env=(false,E8 e X.env)::Ey es X.env:=by rfl) (c:(Lh pos<|Ey es X.env).any (·.1)=false:=by rfl):PE X (.Call (.Name x p) (e::es) [] pos) (cR r t):=by
 intro d s f H Q I h;refine Jc<|kD I o q v ?_ u b;exact VR (Cf (j pos d s f H _ I h) fun A z ⟨B,g,i,y,w⟩=>l d z f g B A Q i y w) n c
theorem zY (l:xf X (.type T) r)(o:Gl X x)(q:X.mg x=none)(v:LL x=some (.type T))(j:PA X (e::es) t)(u:x≠"__name__":=by decide)(b:(x==("__debug__":Str))=false:=by decide)
  (n:Ey (e::es) X.env=(false,E8 e X.env)::Ey es X.env:=by rfl) (c:(Lh pos<|Ey es X.env).any (·.1)=false:=by rfl):PE X (.Call (.Name x p) (e::es) [] pos) (cR r t):=by
 intro d s f H Q I h;refine Jc<|kD I o q v ?_ u b;exact Y1 (Cf (j pos d s f H _ I h) fun A z ⟨B,g,i,y,w⟩=>l d z f g B A Q i y w) n c
end
end L2
namespace HT
open PySem PyProof.Rows
section
variable {prog:Ek}{w:Eo}{A:EF}{E:Ei->Dh}{s:Em}
def wO (n d:Nat):Option Int->Nat
 |none=>d
 |some v=>if v<0 then(v+(n:Int)).toNat else min v.toNat n
theorem qg (n d:Nat):wO n d none=d:=rfl
theorem sX (n d k:Nat):wO n d (some (k:Int))=min k n:=by
 show(if(k:Int)<0 then((k:Int)+(n:Int)).toNat else min (k:Int).toNat n)=min k n;rw[Zs<|by lia,Int.toNat_natCast]
theorem WM (n d:Nat)(hd:d<=n)(o:Option Int):wO n d o<=n:=by
 cases o with
 |none=>exact hd
 |some v =>
  show(if v<0 then(v+(n:Int)).toNat else min v.toNat n)<=n
  by_cases b:v<0
  ·rw[Zt b];lia
  ·rw[Zs b];exact Nat.min_le_right _ _
theorem M5 (v:Int)(n d:Nat):(if v<0 then max (v+(n:Int)) 0 else min v (n:Int))=((wO n d (some v):Nat):Int):=by
 show(if v<0 then max (v+(n:Int)) 0 else min v (n:Int))=(((if v<0 then(v+(n:Int)).toNat else min v.toNat n):Nat):Int)
 by_cases b:v<0
 ·simp only[Zt b];lia
 ·simp only[Zs b];lia
theorem Km (lo b:Option Int)(n:Nat):L3 lo b 1 (n:Int)=(((wO n 0 lo:Nat):Int),((wO n n b:Nat):Int)):=by
 have c:¬((1:Int)<0):=by lia
 unfold L3;simp only[c,Js];refine Mo ?_ ?_
 ·cases lo with
  |none=>rfl
  |some v=>exact M5 v n 0
 ·cases b with
  |none=>rfl
  |some v=>exact M5 v n n
theorem K7 (i j:Nat):Lx (i:Int) (j:Int) 1=j-i:=by
 unfold Lx;have b:(1:Int)>0:=by lia
 simp only[b,if_true,Int.ediv_one]
 split<;>lia
theorem IW {v:Ei}{o:Option Int}{Q:Option Int->Dh}(p:MG v o)(h:Q o s):El (Ep prog w) A (Builtin.Slice.slicePartIndex v) Q E s:=by
 cases p with
 |none=>exact slicePart_none h
 |int i t=>exact slicePart_int h
theorem jA {g:Ej}{e f:Ei}{lo c:Option Int}{n:Nat}{Q:Int×Int×Nat->Dh}(hs:s.heap.IsSliceOf g e f .none)(pl:MG e lo)(j:MG f c)
  (h:Q (((wO n 0 lo:Nat):Int),1,wO n n c-wO n 0 lo) s):El (Ep prog w) A (Builtin.Slice.sliceApplied (.ref g)<|Lo (n:Int)) Q E s:=by
 obtain⟨os,d,i,b⟩:=id hs;unfold Builtin.Slice.sliceApplied Builtin.Slice.sliceFields;refine Q4<|Q4<|Vu d b (x:=e) rfl<|Q4<|Vu d b (x:=f) rfl<|Q4<|Vu d b (x:=.none) rfl<|Q7 ?_;refine Q4<|slicePart_none ?_;show El _ _ (if((1:Int)==0)=true then _ else _) _ _ s;rw[Zs<|by decide];refine Q4<|IW pl<|Q4<|IW j<|Q4<|Q7 ?_;show El _ _ (match L3 lo c 1 (n:Int) with|(lo,c)=>Lo (lo,(1:Int),Lx lo c 1)) _ _ s;rw[Km lo c n];show El _ _ (Lo (((wO n 0 lo:Nat):Int),(1:Int),Lx ((wO n 0 lo:Nat):Int) ((wO n n c:Nat):Int) 1)) _ _ s;rw[K7];exact Q7 h
theorem Rt (xs:Array Ei)(i k:Nat):((EC k).filterMap fun(m:Nat)=>xs[((i:Int)+(m:Int)*1).toNat]?).toArray=((xs.toList.drop i).take k).toArray:=by
 have e:(fun(m:Nat)=>xs[((i:Int)+(m:Int)*1).toNat]?)=fun m=>xs[i+m]?:=by
  funext m
  have:((i:Int)+(m:Int)*1).toNat=i+m:=by lia
  rw[this]
 rw[e];have:=pick_run xs i k;rw[List.filterMap_map]at this;have b:((fun x=>xs[x]?)∘fun x=>i+x)=fun m=>xs[i+m]?:=rfl;rw[b]at this;rw[this]
theorem tY {t j:Ej}{Dn:Array Ei}{l n:Ei}{lo c:Option Int}{Q:Ei->Dh}(d:IsTup s.heap t Dn)(hs:s.heap.IsSliceOf j l n .none)(pl:MG l lo)(r:MG n c)
  (p:¬(wO Dn.size 0 lo=0/\wO Dn.size Dn.size c=Dn.size))
  (h:Q (.ref s.heap.objs.size) { s with heap:=s.heap.push { cls:=.type "tuple",data:=.seq ((Dn.toList.drop<|wO Dn.size 0 lo).take<|wO Dn.size Dn.size c-wO Dn.size 0 lo).toArray } })
  (hsz:Dn.size<=sizeLine):El (Ep prog w) A (Mu (.ref t)<|.ref j) Q E s:=by
 have b:sizeOk (.seq ((Dn.toList.drop<|wO Dn.size 0 lo).take<|wO Dn.size Dn.size c-wO Dn.size 0 lo).toArray):=by
  show((Dn.toList.drop<|wO Dn.size 0 lo).take<|wO Dn.size Dn.size c-wO Dn.size 0 lo).toArray.size<=sizeLine;rw[Zp,Zx,Yz,Zw];lia
 have u:wO Dn.size Dn.size c<=Dn.size:=WM _ _ (Zd _) c;obtain⟨os,i,f,o⟩:=id hs;have e:s.TypeIs (.ref j) "slice":=⟨os,i,f⟩;unfold Mu
 try with_reducible refine ZW ?_
 first|refine Q4 (Q7 ?_)|skip
 refine Q4 (wpAny_sequenceKey d.typeIs (by decide) ?_);refine Q4<|YY (name:=EX "__getitem__") d.typeIs Y9<|Ys Y9 d.typeIs entry_tuple_getitem ?_<|args_tuple_getitem _ _
 show El _ _ (LW (.ref t)>>=_) _ _ s;refine Q4<|tupleItemsOf_ d ?_;refine Q4<|JS e ?_;rw[Zt<|by decide];refine Q4<|jA hs pl r ?_;have g:¬((((wO Dn.size 0 lo:Nat):Int)==0&&(1:Int)==1&&(wO Dn.size Dn.size c-wO Dn.size 0 lo)==Dn.size)=true):=by
  intro q;rw[Zi,Zi]at q;have v:((wO Dn.size 0 lo:Nat):Int)=0:=Vg q.1.1;have x:wO Dn.size Dn.size c-wO Dn.size 0 lo=Dn.size:=Vg q.2;exact p ⟨by lia,by lia⟩
 show El _ _ (if(((wO Dn.size 0 lo:Nat):Int)==0&&(1:Int)==1&&(wO Dn.size Dn.size c-wO Dn.size 0 lo)==Dn.size)=true then _ else _) _ _ s;rw[Zs g,Rt]
 first
  |exact Q4 (m:=LB _) (Yb (Q7 ⟨_,rfl,Q7 h⟩) b)
  |exact Q4 (m:=LB _) (Yb (Q4<|Q7<|Q7 ⟨_,rfl,Q7 h⟩) b)
  |exact Q4 (Q4 (m:=LB _)<|Yb (Q7<|Q7 ⟨_,rfl,Q7 h⟩) b)
  |exact Q4 (Q4 (m:=LB _)<|Yb (Q7 ⟨_,rfl,Q7 h⟩) b)
end
end HT
namespace L2
open PySem PySem.Spec PyProof.Rows
abbrev TO:=St->Hp->(Option Int->Hp->Prop)->Prop
def PO (X:Cx)(e:Option EN)(t:TO):Prop :=
 ∀(c:De) (s:Em) (b:St) (H:Hp) (Q:Option Int->Hp->Prop),Inv X c b H s->t b H Q ->
  El (Ep X.prog X.w) X.A (evalPart e X.env) (fun u f=>∃o d,Inv X c b d f/\MG u o/\Q o d) X.xe s
def Tc:TO:=fun _ H Q=>Q none H
def bp (t:TE):TO:=fun c H Q=>t c H fun x b=>∃i,x=.int i/\Q (some i) b
section
variable {X:Cx}{e:EN}{te:TE}{lo hi:Option EN}{tl th:TO}{pos p2:Pos}
theorem xW:PO X none Tc:=by
 intro b s c H Q I h;rw[evalPart_none];exact Q7 ⟨none,H,I,.none,h⟩
theorem xG (h:PE X e te):PO X (some e) (bp te):=by
 intro b s l H Q I f;rw[evalPart_some];refine Cf (h b s l H _ I f) fun u n ⟨x,c,d,j,g⟩=>?_;obtain⟨i,rfl,q⟩:=g;obtain⟨t,rfl⟩:=j;exact⟨some i,c,d,.int i t,q⟩
def Kl (X:Cx)(r:V->Option Int->Option Int->Hp->VK->Prop):Prop :=
 ∀(b:De) (s:Em) (f:St) (H:Hp) (x:V) (v d e:Ei) (lo hi:Option Int) (c:Ej) (Q:VK),Inv X b f H s->yq x v->s.heap.IsSliceOf c d e .none->MG d lo->MG e hi->r x lo hi H Q ->
  ∃T id,typeLookup (.type T) "__getitem__"=Lo (some<|.builtin id)/\s.TypeIs v T/\El (Ep X.prog X.w) X.A (Mu v<|.ref c) (EP X b f Q) X.xe s
def tSl (r:V->Option Int->Option Int->Hp->VK->Prop)(te:TE)(tl th:TO):TE:=fun b H Q=>te b H fun x c=>tl b c fun l d=>th b d fun u e=>r x l u e Q
theorem yR (E:Kl X r)(C:PE X e te)(hl:PO X lo tl)(G:PO X hi th):PE X (.Subscript e (.Slice lo hi none p2) pos) (tSl r te tl th):=by
 intro d s f H Q I h;refine Subscript_<|Cf (C d s f H _ I h) fun v P ⟨x,n,p,O,L⟩=>?_;refine wpAny_Slice<|Cf (hl d P f n _ p L) fun g R ⟨l,o,t,J,M⟩=>Cf (G d R f o _ t M) fun i c ⟨u,j,y,K,N⟩=>?_;rw[evalPart_none];refine Q7 ?_;have z:Inv X d f j { c with heap:=c.heap.push { cls:=.type "slice",data:=.fields #[g,i,.none] } }:=y.kept (t':=c.toks) fun b S q=>Q8 _ q;obtain⟨T,id,B,F,D⟩:=E d { c with heap:=c.heap.push { cls:=.type "slice",data:=.fields #[g,i,.none] } } f j x v g i l u c.heap.objs.size Q z O (Heap.IsSliceOf.new ..) J K N;show El (Ep X.prog X.w) X.A (subscriptTail e (.Slice lo hi none p2) v<|.ref c.heap.objs.size) (EP X d f Q) X.xe { c with heap:=c.heap.push { cls:=.type "slice",data:=.fields #[g,i,.none] } };exact tail_any (ops:=[.ref c.heap.objs.size,v]) F B D (by with_unfolding_all rfl)
def UA (xs:Dj)(lo hi:Option Int):Dj:=(xs.drop<|HT.wO xs.length 0 lo).take<|HT.wO xs.length xs.length hi-HT.wO xs.length 0 lo
theorem Xz (xs:Dj)(lo hi:Option Int):(UA xs lo hi).length<=xs.length:=by
 unfold UA;rw[Zx,Yz];lia
end
def Tv (n:Nat)(i:Int):Option Nat:=if 0<=i then(if i<n then some i.toNat else none) else if -(n:Int)<=i then some (i+n).toNat else none
def CD {α:Type}(xs:List α)(i:Int):Option α:=(Tv xs.length i).bind fun j=>xs[j]?
theorem Su {j:Nat}(h:Tv n i=some j):seqIndex? i n=some j/\j<n/\-(n:Int)<=i/\i<n:=by
 unfold Tv at h
 by_cases c:0<=i
 ·rw[Zt c]at h
  by_cases b:i<n
  ·rw[Zt b]at h;have e:i.toNat=j:=Option.some.inj h;exact⟨by rw[seqIndex_of c b,e],by lia,by lia,b⟩
  ·rw[Zs b]at h;cases h
 ·rw[Zs c]at h
  by_cases b:-(n:Int)<=i
  ·rw[Zt b]at h;have e:(i+n).toNat=j:=Option.some.inj h;exact⟨by rw[seqIndex_neg (by lia) b,e],by lia,b,by lia⟩
  ·rw[Zs b]at h;cases h
theorem B4 {α:Type}{xs:List α}{v:α}(h:CD xs i=some v):∃j,seqIndex? i xs.length=some j/\xs[j]?=some v/\j<xs.length/\-(xs.length:Int)<=i/\i<xs.length:=by
 unfold CD at h;cases e:Tv xs.length i with
 |none=>rw[e]at h;cases h
 |some j =>
  rw[e]at h;obtain⟨b,c,d,f⟩:=Su e;exact⟨j,b,h,c,d,f⟩
theorem xL {α:Type}{xs:List α}{j:Nat}{v:α}(h:xs[j]?=some v):CD xs (j:Int)=some v:=by
 have b:j<xs.length:=(Zq.mp h).1;have e:Tv xs.length (j:Int)=some j:=by
  unfold Tv;rw[Zt<|by lia,Zt<|by lia];simp
 unfold CD;rwa[e]
theorem O2 {α:Type}(xs:List α)(v:α):CD (xs++[v]) (-1)=some v:=by
 have hl:(xs++[v]).length=xs.length+1:=by simp
 have e:Tv (xs++[v]).length (-1)=some xs.length:=by
  unfold Tv;rw[hl,Zs<|by decide,Zt<|by lia]
  congr 1
  lia
 unfold CD;rw[e];show(xs++[v])[xs.length]?=some v;simp
def R6 (b:EN):Prop:=∀o i,subscripted b false o i=operate [o,i] (Mu o i)
def Cg (X:Cx)(r:R2):Prop :=
 ∀(value slice:EN) (b:De) (s:Em) (c:St) (H:Hp) (x y:V) (v u:Ei) (Q:VK),Inv X b c H s->yq x v->yq y u->r x y H Q ->
  subscripted slice false v u=operate [v,u] (Mu v u)->El (Ep X.prog X.w) X.A (subscriptTail value slice v u) (EP X b c Q) X.xe s
def R3 (X:Cx)(id:String)(r:V->Dj->Hp->VK->Prop):Prop :=
 ∀(b:De) (s:Em) (e:St) (H:Hp) (x:V) (d:Dj) (v:Ei) (c:Db) (Q:VK),Inv X b e H s->yq x v->yr d c->r x d H Q ->
  El (Ep X.prog X.w) X.A (call (.builtin id) (v::c)) (EP X b e Q) X.xe s
section
variable {X:Cx}{a b:EN}{ta tb:TE}{pos:Pos}
theorem zR (i:Cg X r)(f:PE X a ta)(g:PE X b tb)(hs:R6 b:=by exact fun _ _=>rfl):PE X (.Subscript a b pos) (bI r ta tb):=by
 intro c s o H Q I h;exact Subscript_<|T5 f g I h fun v u n x y d e j l q=>i a b c n o d x y v u Q e j l q<|hs _ _
inductive xx (K:Ca)(x y:V)(H:Hp)(Q:VK):Prop
 |mk (p:Ej) (xs:Dj) (i:Int) (v:V) (e:x=.ref p) (f:y=.int i) (h:yx K H p xs) (a:CD xs i=some v) (q:Q v H):xx K x y H Q
inductive wZ (K:Ca)(x y:V)(H:Hp)(Q:VK):Prop
 |mk (p:Ej) (xs:Dj) (i:Int) (v:V) (e:x=.ref p) (f:y=.int i) (h:xg K H p xs) (a:CD xs i=some v) (q:Q v H):wZ K x y H Q
inductive lD (x y:V)(H:Hp)(Q:VK):Prop
 |mk (z:Str) (i:Int) (c:Nat) (e:x=.str z) (f:y=.int i) (l:z.length<=sizeLine) (a:CD z.cps.toList i=some c) (q:Q (.str ⟨#[c]⟩) H):lD x y H Q
theorem zj:Cg X (xx X.K):=by
 intro value slice l s B H x y v u Q I J L h A;obtain⟨p,R,i,z,rfl,rfl,G,F,q⟩:=h;cases J;obtain⟨t,rfl⟩:=L;obtain⟨e,r,f,P⟩:=I.list G;obtain⟨j,c,C,N,D,E⟩:=B4 F;obtain⟨w,n,g⟩:=r.get C;have hl:=r.length;have O:=Xe;have b:EP X l B Q w s:=⟨z,H,I,g,q⟩
 by_cases o:0<=i
 ·have d:i.toNat=j:=by
   rw[seqIndex_of o E]at c;exact Option.some.inj c
  exact item_listR f.isList o (by lia) (by rw[d];simpa using n) b A
 ·have d:(i+(e.toArray.size:Int)).toNat=j:=by
   rw[seqIndex_neg (by lia) D]at c;rw[Zp,←hl];exact Option.some.inj c
  exact subscriptTail_builtinR (x:=w) f.isList.typeIs slot_list_getitem.lookup
   (wpAny_getItem_list_neg (Q:=fun r M=>r=w/\EP X l B Q r M) f.isList (by lia) (by rw[Zp]<;>lia) (by lia) (by rw[d];simpa using n) ⟨rfl,b⟩) A
theorem yt:Cg X (wZ X.K):=by
 intro value slice d s f H x y v u Q I C D h A;obtain⟨p,O,i,z,rfl,rfl,o,n,q⟩:=h;cases C;obtain⟨t,rfl⟩:=D;obtain⟨B,r,e,N⟩:=I.tuple o;obtain⟨j,F,l,G,J,L⟩:=B4 n;obtain⟨w,g,c⟩:=r.get l;have hl:=r.length;have M:=Xe;have b:EP X d f Q w s:=⟨z,H,I,c,q⟩;exact subscriptTail_builtinR (x:=w) e.typeIs slot_tuple_getitem.lookup
  (getItem_tuple (j:=j) (Q:=fun r E=>r=w/\EP X d f Q r E) e (by lia) (by lia) (by rwa[Zp,←hl]) (by simpa using g) ⟨rfl,b⟩) A
theorem PD:Cg X lD:=by
 intro value slice w s E H x y v u Q I p r h o;obtain⟨z,i,c,rfl,rfl,C,n,q⟩:=h;obtain⟨t,rfl⟩:=p;obtain⟨D,rfl⟩:=r;obtain⟨j,b,f,A,g,l⟩:=B4 n;have hl:z.cps.toList.length=z.length:=by simp[Str.length]
 rw[hl]at b g l;have B:=Xe;exact tail_any (Vc s z t) slot_str_getitem.lookup (getItem_str (c:=c) (by
  have d:decide (i < -(2 ^ 63:Int))=false:=Zo (by lia);have e:decide (i≥2 ^ 63)=false:=Zo (by lia);rw[d,e,Bool.or_false]) (by rw[b];simpa using f) ⟨.str ⟨#[c]⟩,H,I.tok _,⟨_,rfl⟩,q⟩) o
theorem BU (lo b:Option Int)(n:Nat):(Mb lo b none n).1=((HT.wO n 0 lo:Nat):Int)/\(Mb lo b none n).2.1=((HT.wO n n b:Nat):Int)/\(Mb lo b none n).2.2=1:=by
 refine⟨?_,?_,rfl⟩
 ·cases lo with
  |none=>simp[Mb,HT.wO]
  |some i =>
   simp only[Mb,HT.wO,Option.getD_none,show(1:Int)>0 by decide,if_true]
   by_cases h:i<0
   ·simp only[h,if_true]<;>lia
   ·simp only[h,Js]<;>lia
 ·cases b with
  |none=>simp[Mb,HT.wO]
  |some i =>
   simp only[Mb,HT.wO,Option.getD_none,show(1:Int)>0 by decide,if_true]
   by_cases h:i<0
   ·simp only[h,if_true]<;>lia
   ·simp only[h,Js]<;>lia
theorem GD (its:Db)(lo b:Option Int):slicePick its.toArray lo b none=((its.drop<|HT.wO its.length 0 lo).take<|HT.wO its.length its.length b-HT.wO its.length 0 lo).toArray:=by
 obtain⟨c,d,e⟩:=BU lo b its.toArray.size;unfold slicePick;rw[c,d,e];simp only[sliceRange_one,pick_run,Zp]<;>rfl
def Ia (K:Ca):V->Option Int->Option Int->Hp->VK->Prop:=fun x d c H Q=>∃a b,x=.ref a/\yx K H a b/\∀p,H p=none->Q (.ref p) (upd H p<|.lst<|UA b d c)
theorem wJ:Kl X (Ia X.K):=by
 intro w s C H x v A B d e z Q I u i p t h;obtain⟨a,c,rfl,j,q⟩:=h;cases u;obtain⟨n,r,f,l⟩:=I.list j;have g:=r.length;refine⟨"list",_,slot_list_getitem.lookup,f.isList.typeIs,?_⟩;refine wpAny_getItem_list_slice f.isList i p t .none (by simp) ?_ (by rw[Zp]<;>lia);rw[GD,←g];refine⟨.ref s.heap.objs.size,_,I.laid (t':=s.toks) (o:=.lst<|UA c d e) (fun b y q=>Q8 _ q) (Zd _) ?_,rfl,q _<|I.hok.fresh<|Zd _⟩;exact⟨ZL (Xz c d e) l,_,0,(r.drop<|HT.wO c.length 0 d).take<|HT.wO c.length c.length e-HT.wO c.length 0 d,Zk _ rfl⟩
theorem z9:xf X (.builtin "len") (fun xs H Q=>∃p ys,xs=[.ref p]/\(yx X.K H p ys\/xg X.K H p ys)/\Q (.int ys.length) H):=by
 intro j s o H xs n Q I r h;obtain⟨p,ys,rfl,b,q⟩:=h;obtain⟨u,rfl,i⟩:=wW r;cases i;have l:=Xe
 rcases b with b|b
 ·obtain⟨d,f,e,g⟩:=I.list b;have c:=f.length;exact Calls.call_len_list e.isList (by simp only[Zp]<;>lia) ⟨.int ys.length,H,I.tok _,⟨s.toks+1,by rw[Zp,c]⟩,q⟩
 ·obtain⟨d,f,e,g⟩:=I.tuple b;have c:=f.length;exact len_tuple e (by simp only[Zp]<;>lia) ⟨.int ys.length,H,I.tok _,⟨s.toks+1,by rw[Zp,c]⟩,q⟩
theorem qK:xf X (.builtin "len") (fun xs H Q=>∃z,xs=[.str z]/\z.length<=sizeLine/\Q (.int z.length) H):=by
 intro b s f H xs e Q I r h;obtain⟨z,rfl,d,q⟩:=h;obtain⟨u,rfl,t,rfl⟩:=wW r;have c:=Xe;exact len_str (by lia) ⟨.int z.length,H,I.tok _,⟨_,rfl⟩,q⟩
theorem xf.or (h:xf X f r)(h':xf X f r'):xf X f (fun xs H Q=>r xs H Q\/r' xs H Q):=by
 intro b s e H xs d Q I c q
 rcases q with q|q
 ·exact h b s e H xs d Q I c q
 ·exact h' b s e H xs d Q I c q
theorem xT:xf X (.type "list") (fun xs H Q=>∃p ys,xs=[.ref p]/\(yx X.K H p ys\/xg X.K H p ys)/\∀l,H l=none->Q (.ref l) (upd H l<|.lst ys)):=by
 intro A s D H xs E Q I r h;obtain⟨p,ys,rfl,j,q⟩:=h;obtain⟨u,rfl,C⟩:=wW r;cases C;have i:∀(c:Db),yr ys c->ys.length<=sizeLine->∀(d:EB) (f:Nat),(∀b z,s.heap.get? b=some z->d.get? b=some z) ->
   d.get? s.heap.objs.size=some { cls:=.type "list",dict:=none,data:=.seq c.toArray f,slots:=#[] }->EP X A D Q (.ref s.heap.objs.size) { s with heap:=d }:=fun c g t d f kp e =>
  ⟨.ref s.heap.objs.size,_,I.laid (t':=s.toks) kp (Zd _)<|show yp X.prog X.w _ d _ (.lst ys) from⟨t,c,f,g,e⟩,rfl,q _<|I.hok.fresh<|Zd _⟩
 rcases j with j|j
 ·obtain⟨c,g,y,t⟩:=I.list j;have B:=g.length;obtain⟨o,x,v,n,hd⟩:=y.isList;exact call_list_seq p (.inl rfl) x v hd (fun d f kp e=>i c g t d f kp e) (by simp only[Zp]<;>lia)
 ·obtain⟨c,g,y,t⟩:=I.tuple j;have B:=g.length;obtain⟨o,x,v,n,hd⟩:=y;exact call_list_seq p (.inr rfl) x v hd (fun d f kp e=>i c g t d f kp e) (by simp only[Zp]<;>lia)
theorem GI:xf X (.type "tuple") (fun xs H Q=>∃p ys,xs=[.ref p]/\((yx X.K H p ys/\∀l,H l=none->Q (.ref l) (upd H l<|.tup ys))\/(xg X.K H p ys/\Q (.ref p) H))):=by
 intro i s t H xs z Q I r h;obtain⟨p,ys,rfl,h⟩:=h;obtain⟨u,rfl,x⟩:=wW r;cases x
 rcases h with⟨hq,q⟩|⟨hq,q⟩
 ·obtain⟨c,g,f,n⟩:=I.list hq;have y:=g.length;refine call_tuple_list f.isList (fun d kp=>?_) (by simp only[Zp]<;>lia);have j:Inv X i t H { s with heap:=d }:=I.kept (t':=s.toks) kp;have v:Inv X i t (upd H d.objs.size<|.tup ys) { s with heap:=d.push { cls:=.type "tuple",data:=.seq c.toArray } } :=
   j.laid (t':=s.toks) (fun b o e=>Q8 _ e) (Zd _) (show yp X.prog X.w _ _ _ (.tup ys) from⟨n,c,g,TupAt.new _ _⟩)
  exact⟨.ref d.objs.size,_,v,rfl,q _<|j.hok.fresh<|Zd _⟩
 ·obtain⟨c,g,f,n⟩:=I.tuple hq;exact call_tuple_same f ⟨.ref p,H,I,rfl,q⟩
def cS (K:Ca)(T:String)(x:V)(H:Hp):Prop:=match x with
 | .str _=>T="str"
 | .int _=>T="int"
 | .ref p=>(T="list"/\∃c,yx K H p c)\/(T="tuple"/\∃o,K.lookup p=some o/\o.cls=.type "tuple"/\o.dict=none) \/
   (T="dict"/\((∃b,H p=some (.dK b))\/∃b,H p=some (.dT b)))\/(T="set"/\∃S n,H p=some (.set S n))
 |_=>False
theorem W1 (I:Inv X Do σ H s)(r:yq x v)(ty:cS X.K T x H) :
  s.TypeIs v T/\∀a,v=.ref a->∃ob,s.heap.get? a=some ob/\ob.dict=none:=by
 cases x with
 |str z =>
  obtain⟨t,rfl⟩:=r;cases(show T="str" from ty);exact⟨Vc s z t,fun _ e=>nomatch e⟩
 |int i =>
  obtain⟨t,rfl⟩:=r;cases(show T="int" from ty);exact⟨typeIs_int s i t,fun _ e=>nomatch e⟩
 |ref p =>
  cases r
  rcases ty with⟨rfl,xs,hq⟩|⟨rfl,o,hk,hc,hd⟩|⟨rfl,hk⟩|⟨rfl,S,n,hk⟩
  ·obtain⟨f,_,d,_⟩:=I.list hq;refine⟨d.isList.typeIs,fun a e=>?_⟩;cases e;obtain⟨o,n,e,c,hd,_⟩:=d;exact⟨o,e,hd⟩
  ·refine⟨⟨o,I.vq p o hk,hc⟩,fun a e=>?_⟩;cases e;exact⟨o,I.vq _ o hk,hd⟩
  ·have z:∃o,s.heap.get? p=some o/\o.ExactDict:=by
    rcases hk with⟨Dm,hk⟩|⟨Dm,hk⟩
    ·obtain⟨_,_,_,_,o,_,_,e,ex,_⟩:=I.hok p _ hk;exact⟨o,e,ex⟩
    ·obtain⟨_,_,_,_,o,_,_,e,ex,_⟩:=I.hok p _ hk;exact⟨o,e,ex⟩
   obtain⟨o,e,ex⟩:=z;refine⟨⟨o,e,ex.1⟩,fun a b=>?_⟩;cases b;exact⟨o,e,ex.2.1⟩
  ·obtain⟨o,_,_,_,e,ex,_⟩:=I.hok p _ hk;refine⟨⟨o,e,ex.1⟩,fun a b=>?_⟩;cases b;exact⟨o,e,ex.2.1⟩
 |_=>exact EL ty
def cQ (K:Ca)(T:String)(r:V->Dj->Hp->VK->Prop)(e:TE)(t:TA):TE:=fun c H Q=>e c H fun x b=>cS K T x b/\t c b fun f d=>r x f d Q
variable {o e:EN}{es:List EN}{to:TE}{t:TA}{name:Str}{Dr Dq:Pos}{T id:String}{r:V->Dj->Hp->VK->Prop}
theorem qV (D:PlainAttrs T)(slot:Slot T name id)(d:typeOf (.builtin id)=Lo (.type "method_descriptor"))(B:R3 X id r)(C:PE X o to)(A:PA X (e::es) t)
  (l:LA o name X.env (E8 o X.env)=E8 o X.env:=by rfl)
  (b:((Lh Dq<|Ey (e::es) X.env).all (fun x=>!x.1)&&(Mn Dq<|LK [] X.env).all (fun x=>x.1.isSome) && decide ((e::es).length+([]:List Keyword).length+(if([]:List Keyword).isEmpty then 0 else 1)<30))=true:=by rfl)
  (n:(Dr.endLine==Dq.line)=true:=by rfl) (hs:Ey (e::es) X.env=(false,E8 e X.env)::Ey es X.env:=by rfl) (p:(Lh Dq<|Ey es X.env).any (·.1)=false:=by rfl) :
  PE X (.Call (.Attribute o name Dr) (e::es) [] Dq) (cQ X.K T r to t):=by
 intro c s f H Q I h;refine wpAny_Call_method_late l b n rfl<|Cf (C c s f H _ I h) fun v J ⟨x,q,g,j,ty,E⟩=>?_;obtain⟨y,z⟩:=W1 g j ty;refine⟨T,id,D,slot,d,y,z,?_⟩;have i:=A Dq c J f q _ g E;rw[hs]at i ⊢;refine Li (by show(false||(Lh Dq<|Ey es X.env).any (·.1))=false;rw[p]<;>rfl) (Ly ?_);exact Cf i fun M L ⟨N,u,w,G,F⟩=>B c L f u x N v M Q w j G F
end
def MtM (X:Cx)(id:String)(r:V->Dj->Hp->VK->Prop):Prop :=
 ∀(b:De) (s:Em) (e:St) (H:Hp) (x:V) (d:Dj) (v:Ei) (c:Db) (Q:VK),Inv X b e H s->yq x v->yr d c->r x d H Q ->
  El (Ep X.prog X.w) X.A (call (.builtin id) (v::c)) (EP X b e Q) X.xe s
theorem yr.one:∀{x:V} {us:Db},yr [x] us->∃u,us=[u]/\yq x u
 |_,_,.cons r .nil=>⟨_,rfl,r⟩
section
variable {X:Cx}{Do:De}{σ:St}{H:Hp}{s:Em}{l b:Ej}{xs ys zs:Dj}
theorem Inv.m7 {its DR:Db}{n:Nat}{f:Array Ei->Array Ei}{t':Nat}(I:Inv X Do σ H s)(b:H l=some (.lst xs))
  (e:s.heap.get? l=some { cls:=.type "list",data:=.seq its.toArray n }) (d:f its.toArray=DR.toArray) (h:yr ys DR) (hz:ys.length<=sizeLine) :
  Inv X Do σ (upd H l<|.lst ys) { s with heap:=s.heap.update l<|EO f,toks:=t' }:=by
 have q:=PySem.IsL.update e f;rw[d]at q;refine I.write (x:=l) (e:=l) (by rw[b];exact trivial) (.inl rfl) (fun i u c g=>(YQ s.heap (EO f)<|EK c).trans g) ⟨_,q⟩ ?_;exact⟨hz,DR,_,h,q⟩
theorem Inv.oO {t':Nat}(I:Inv X Do σ H s)(b:yr ys its)(hz:ys.length<=sizeLine) :
  Inv X Do σ (upd H s.heap.objs.size<|.lst ys) { s with heap:=s.heap.push { cls:=.type "list",data:=.seq its.toArray },toks:=t' } :=
 I.laid (fun _ _ q=>Q8 _ q) (Zd _) ⟨hz,its,0,b,Zk _ rfl⟩
theorem Inv.fresh (I:Inv X Do σ H s):H s.heap.objs.size=none:=I.hok.fresh<|Zd _
theorem Inv.o9 (I:Inv X Do σ H s)(b:H l=some (.lst xs)):xs.length<=sizeLine/\∃(its:Db) (n:Nat),yr xs its/\xs.length=its.length/\s.heap.get? l=some { cls:=.type "list",data:=.seq its.toArray n }:=by
 obtain⟨z,its,n,r,e⟩:=I.hok l _ b;exact⟨z,its,n,r,r.length,e⟩
end
section
variable {X:Cx}
inductive pD (x:V)(vs:Dj)(H:Hp)(Q:VK):Prop
 |mk (l:Ej) (xs:Dj) (y:V) (e:x=.ref l) (f:vs=[y]) (h:H l=some (.lst xs)) (z:xs.length<sizeLine) (q:Q .non<|upd H l<|.lst<|xs++[y]):pD x vs H Q
theorem xA:MtM X "list.append" pD:=by
 intro i s w H x p v o Q I g f h;obtain⟨l,t,y,rfl,rfl,c,j,q⟩:=h;cases g;obtain⟨u,rfl,d⟩:=f.one;obtain⟨z,b,n,r,hl,e⟩:=I.o9 c;refine VS F.slot_list_append ⟨_,e,rfl⟩ F.entry_list_append (F.args_list_append_2 _ _) (PySem.list_append l b.toArray n u (by rw[Zp];lia)) ⟨e,?_⟩;refine⟨.non,_,I.m7 (DR:=b++[u]) c e (by simp) (r.append<|.cons d .nil) ?_,rfl,q⟩;rw[Ze,YU];lia
def cg:R2:=fun x y H Q=>∃l b c d,x=.ref l/\y=.ref b/\H l=some (.lst c)/\H b=some (.lst d)/\c.length+d.length<=sizeLine/\∀p,H p=none->Q (.ref p) (upd H p<|.lst<|c++d)
theorem jV:Ct X (Mf .Add) cg:=by
 intro A s F H x y v u Q I t w h;obtain⟨l,b,C,E,rfl,rfl,j,i,B,q⟩:=h;cases t;cases w;obtain⟨z,d,n,r,hl,e⟩:=I.o9 j;obtain⟨D,c,n2,p,o,f⟩:=I.o9 i;refine PySem.P.add_list e f ?_ (by rw[Zp,Zp];lia);have g:d.toArray++c.toArray=(d++c).toArray:=by simp
 rw[g];exact⟨.ref _,_,I.oO (t':=s.toks) (r.append p) (by rw[Ze];lia),rfl,q _ I.fresh⟩
end
section
variable {prog:Ek}{w:Eo}{A:EF}{E:Ei->Dh}{s:Em}
set_option maxRecDepth 100000 in
end
section
variable {κ:Type} [DecidableEq κ]
def Us (Dm:List<|κ×V)(k:κ):Option V:=(Dm.find? fun b=>decide (b.1=k)).map (·.2)
def ye (Dm:List<|κ×V)(k:κ)(v:V):List (κ×V) :=
 if(Dm.any fun b=>decide (b.1=k))=true then Dm.map (fun b=>if b.1=k then(b.1,v) else b) else Dm++[(k,v)]
def UF (Dm:List<|κ×V)(k:κ):List (κ×V):=Dm.filter fun b=>decide (b.1≠k)
theorem yY {p:κ×V}{r:List (κ×V)}{k:κ}(e:p.1=k):Us (p::r) k=some p.2:=by simp[Us,YN,e]
theorem yX {p:κ×V}{r:List (κ×V)}{k:κ}(e:¬p.1=k):Us (p::r) k=Us r k:=by simp[Us,YN,e]
theorem xZ (k:κ):∀Dm:List<|κ×V,(Dm.any fun kv=>decide (kv.1=k))=(Us Dm k).isSome
 |[]=>rfl
 |p::r=>by
  rw[List.any_cons]
  by_cases e:p.1=k
  ·simp only[yY e,Zf e,Bool.true_or,Option.isSome_some]
  ·rw[yX e,Zo e,Bool.false_or];exact xZ k r
theorem Kh (k j:κ)(y:V):∀Dm:List<|κ×V,Us (Dm.map fun kv=>if kv.1=k then(kv.1,y) else kv) j=(Us Dm j).map fun x=>if j=k then y else x
 |[]=>rfl
 |p::r=>by
  have b:=Kh k j y r;rw[Zv]
  by_cases h:p.1=k
  ·rw[Zt h]
   by_cases e:p.1=j
   ·rw[yY (p:=(p.1,y)) e,yY e,Yt,Zt<|e.symm.trans h]
   ·rw[yX (p:=(p.1,y)) e,yX e,b]
  ·rw[Zs h]
   by_cases e:p.1=j
   ·rw[yY (p:=p) e,yY e,Yt,Zs<|fun z=>h<|e.trans z]
   ·rw[yX (p:=p) e,yX e,b]
theorem BB (k j:κ)(y:V):∀Dm:List<|κ×V,Us Dm k=none->Us (Dm++[(k,y)]) j=if j=k then some y else Us Dm j
 |[],_=>by
  by_cases e:k=j
  ·rw[Zt e.symm];exact yY (p:=(k,y)) e
  ·rw[Zs<|fun z=>e z.symm];exact yX (p:=(k,y)) e
 |p::r,hn=>by
  rw[List.cons_append];have b:¬p.1=k:=fun z=>by rw[yY z]at hn;cases hn
  rw[yX b]at hn;have c:=BB k j y r hn
  by_cases e:p.1=j
  ·rw[yY e,yY e,Zs<|fun z=>b<|e.trans z]
  ·rw[yX e,yX e,c]
theorem Ki (Dm:List<|κ×V)(k j:κ)(y:V):Us (ye Dm k y) j=if j=k then some y else Us Dm j:=by
 unfold ye
 by_cases a:(Dm.any fun c=>decide (c.1=k))=true
 ·rw[Zt a,Kh];rw[xZ]at a
  by_cases e:j=k
  ·obtain⟨x,b⟩:=YD.mp a;rw[Zt e,e,b,Yt,Zt rfl]
  ·rw[Zs e];cases Us Dm j with
   |none=>rfl
   |some x=>rw[Yt,Zs e]
 ·rw[Zs a];refine BB k j y Dm ?_;rw[xZ]at a;cases q:Us Dm k with
  |none=>rfl
  |some x=>rw[q]at a;exact(a rfl).elim
theorem qI (Dm:List<|κ×V)(k:κ)(v:V):(ye Dm k v).length<=Dm.length+1:=by
 unfold ye
 split
 ·rw[Q5];lia
 ·rw[Ze,Zn,JC];lia
theorem HG {Dm:List (κ×V)}{k:κ}(v:V)(h:Us Dm k=none):ye Dm k v=Dm++[(k,v)]:=by
 unfold ye;rw[xZ,h];exact Zs (by decide)
theorem wu.tO (r:wu o u):o.isSome=u.isSome:=by
 cases o with
 |none=>cases u with
  |none=>rfl
  |some _=>exact(show False from r).elim
 |some _=>cases u with
  |none=>exact(show False from r).elim
  |some _=>rfl
theorem wu.getD (r:wu o u)(rd:yq d d'):yq (o.getD d) (u.getD d'):=by
 cases o with
 |none=>cases u with
  |none=>exact rd
  |some _=>exact(show False from r).elim
 |some _=>cases u with
  |none=>exact(show False from r).elim
  |some _=>exact r
theorem KV.val {Dm:List (κ×V)}{vs:List (κ×Ei)}(r:KV Dm vs)(k:κ):wu (Us Dm k) (Mv vs k):=by
 unfold KV at r
 induction r with
 |nil=>exact Ls
 | @cons p q ps qs h t ih =>
  obtain⟨d,f⟩:=h
  by_cases e:p.1=k
  ·have c:q.1=k:=d.symm.trans e;have b:Mv (q::qs) k=some q.2:=by simp[Mv,YN,c]
   rwa[yY e,b]
  ·have c:¬q.1=k:=fun z=>e<|d.trans z;have b:Mv (q::qs) k=Mv qs k:=by simp[Mv,YN,c]
   rwa[yX e,b]
theorem KV.any {Dm:List (κ×V)}{vs:List (κ×Ei)}(r:KV Dm vs)(k:κ):(Dm.any fun kv=>decide (kv.1=k))=vs.any fun kv=>decide (kv.1=k):=by
 unfold KV at r
 induction r with
 |nil=>rfl
 |cons h t ih=>rw[List.any_cons,List.any_cons,ih,h.1]
theorem KV.repl {Dm:List (κ×V)}{vs:List (κ×Ei)}(r:KV Dm vs)(k:κ){y:V}{u:Ei}(d:yq y u) :
  KV (Dm.map fun kv=>if kv.1=k then(kv.1,y) else kv) (vs.map fun kv=>if kv.1=k then(kv.1,u) else kv):=by
 unfold KV at r ⊢
 induction r with
 |nil=>exact .nil
 | @cons p q ps qs h t ih =>
  rw[Zv,Zv];refine .cons ?_ ih;obtain⟨b,c⟩:=h
  by_cases e:p.1=k
  ·rw[Zt e,Zt<|b.symm.trans e];exact⟨b,d⟩
  ·rw[Zs e,Zs<|fun z=>e<|b.trans z];exact⟨b,c⟩
theorem KV.put {Dm:List (κ×V)}{vs:List (κ×Ei)}(r:KV Dm vs)(k:κ){y:V}{u:Ei}(b:yq y u):KV (ye Dm k y) (stored vs k u):=by
 unfold ye stored;rw[r.any k]
 by_cases e:(vs.any fun c=>decide (c.1=k))=true
 ·rw[Zt e,Zt e];exact r.repl k b
 ·rw[Zs e,Zs e];exact Paired.snoc r ⟨rfl,b⟩
theorem KV.drop {Dm:List (κ×V)}{vs:List (κ×Ei)}(r:KV Dm vs)(k:κ):KV (UF Dm k) (without vs k):=by
 unfold KV at r ⊢;unfold UF without
 induction r with
 |nil=>exact .nil
 | @cons p q ps qs h t ih =>
  obtain⟨c,f⟩:=h;rw[YZ,YZ]
  by_cases e:p.1=k
  ·have a:¬decide (p.1≠k)=true:=by simp[e]
   have b:¬decide (q.1≠k)=true:=by simp[c.symm.trans e]
   rwa[Zs a,Zs b]
  ·have d:¬q.1=k:=fun z=>e<|c.trans z;have a:decide (p.1≠k)=true:=by simp[e]
   have b:decide (q.1≠k)=true:=by simp[d]
   rw[Zt a,Zt b];exact .cons ⟨c,f⟩ ih
theorem KV.length {Dm:List (κ×V)}{vs:List (κ×Ei)}(r:KV Dm vs):Dm.length=vs.length:=Paired.length r
theorem Ph (Dm:List<|κ×V)(k:κ):(UF Dm k).length<=Dm.length:=VI _ _
end
theorem vR (r:yq (kV k) u):(za P w).is k u=true:=by
 cases k with
 |inl i=>obtain⟨t,e⟩:=(show∃t,u=Mx i t from r);subst e;exact Hj P w i t
 |inr x=>obtain⟨t,e⟩:=(show∃t,u=Ma x t from r);subst e;exact Hk P w x t
theorem GL:∀{ks:List Key} {us:Db},yr (ks.map kV) us->ItemsAre (za P w) ks us
 |[],_,r=>by rw[Vh]at r;cases r;exact .nil
 |k::ks,_,r=>by
  rw[Zv]at r;cases r with
  |cons h t=>exact .cons (vR h)<|GL t
abbrev KT (H:Hp):List (List Key×V)->List (List Key×Ej×Ei)->Prop:=Lp fun p q=>p.1=q.1/\H q.2.1=some (.tup<|p.1.map kV)/\yq p.2 q.2.2
theorem KT.val (r:KT H Dm xs)(k:List Key):wu (Us Dm k) ((atKey xs k).map (·.2)):=by
 induction r with
 |nil=>exact Ls
 | @cons p q ps qs h t ih =>
  obtain⟨d,_,f⟩:=h
  by_cases e:p.1=k
  ·have c:q.1=k:=d.symm.trans e;have b:atKey (q::qs) k=some q.2:=by simp[atKey,YN,c]
   rwa[yY e,b]
  ·have c:¬q.1=k:=fun z=>e<|d.trans z;have b:atKey (q::qs) k=atKey qs k:=by simp[atKey,YN,c]
   rwa[yX e,b]
theorem KT.repl (r:KT H Dm xs)(k:List Key){y:V}{u:Ei}(f:yq y u) :
  KT H (Dm.map fun kv=>if kv.1=k then(kv.1,y) else kv) (xs.map<|putAt k u):=by
 induction r with
 |nil=>exact .nil
 | @cons p q ps qs h t ih =>
  rw[Zv,Zv];refine .cons ?_ ih;obtain⟨b,c,d⟩:=h;unfold putAt
  by_cases e:p.1=k
  ·rw[Zt e,Zt<|b.symm.trans e];exact⟨b,c,f⟩
  ·rw[Zs e,Zs<|fun z=>e<|b.trans z];exact⟨b,c,d⟩
theorem KT.put (r:KT H Dm xs)(k:List Key){b:Ej}{y:V}{u:Ei}(d:H b=some (.tup<|k.map kV))(c:yq y u) :
  KT H (ye Dm k y) (storedH xs k b u):=by
 have e:(Dm.any fun f=>decide (f.1=k))=(atKey xs k).isSome:=by
  rw[xZ,(r.val k).tO,Option.isSome_map]
 unfold ye storedH;rw[e]
 by_cases q:(atKey xs k).isSome=true
 ·rw[Zt q,Zt q];exact r.repl k c
 ·rw[Zs q,Zs q];exact Paired.snoc r ⟨rfl,d,c⟩
theorem KT.keeps {H':Hp}(r:KT H Dm xs)(c:∀b ys,H b=some (.tup ys)->H' b=some (.tup ys)):KT H' Dm xs :=
 Paired.mQ r fun _ _ z=>⟨z.1,c _ _ z.2.1,z.2.2⟩
section
variable {P:Ek}{w:Eo}{H:Hp}{h:EB}{a:Ej}
theorem TF (ok:vf P w H h)(e:Rd H a u):yp P w H h a u:=e.ok ok
theorem vQ {Dm:Dl}(ok:vf P w H h)(e:Rd H a<|.dK Dm):Dm.length<=sizeLine/\(a==EV)=false/\∃vs,KV Dm vs/\h.DictOf (za P w) a vs :=
 show yp P w H h a (.dK Dm) from TF ok e
theorem Tp {Dm:Dl}(ok:vf P w H h)(e:H a=some (.dK Dm)):Dm.length<=sizeLine/\(a==EV)=false/\∃vs,KV Dm vs/\h.DictOf (za P w) a vs:=vQ ok<|.inl e
theorem Xl {ks:List Key}(ok:vf P w H h)(e:H a=some (.tup<|ks.map kV)):(My<|za P w).is h ks a:=by
 obtain⟨_,b,r,o,c,d,n,f,_⟩:=(show yp P w H h a (.tup<|ks.map kV) from ok a _ e);exact⟨o,b.toArray,n,c,d,f,by simpa using GL r⟩
theorem Gw {Dm:List (List Key×V)}(ok:vf P w H h)(e:Rd H a<|.dT Dm):Dm.length<=sizeLine/\(a==EV)=false /\
  ∃xs,KT H Dm xs/\h.DictOfH (My<|za P w) a xs:=by
 obtain⟨z,y,xs,r,o,d,c,f,g,i,j,n⟩:=(show yp P w H h a (.dT Dm) from TF ok e);refine⟨z,y,xs,r,o,d,c,f,g,i,j,fun x b=>?_,n⟩;have all:∀{l:List (List Key×V)} {m:List (List Key×Ej×Ei)},KT H l m->∀x∈m,(My<|za P w).is h x.1 x.2.1:=by
  intro l m q
  induction q with
  |nil=>intro x b;exact nomatch b
  | @cons p q ps qs hq t ih =>
   intro x b
   rcases Zh.mp b with e|b
   ·subst e;exact Xl ok (by rw[←hq.1];exact hq.2.1)
   ·exact ih x b
 exact all r x b
theorem ao {Dm:List (List Key×V)}(ok:vf P w H h)(e:H a=some (.dT Dm)):Dm.length<=sizeLine/\(a==EV)=false /\
  ∃xs,KT H Dm xs/\h.DictOfH (My<|za P w) a xs:=Gw ok<|.inl e
end
def v9 (H:Hp)(a:Ej)(y:V)(r:Option V):Prop :=
 (∃c k,Rd H a (.dK c)/\y=kV k/\r=Us c k)\/∃c k b,Rd H a (.dT c)/\y=.ref b/\H b=some (.tup<|k.map kV)/\r=Us c k
def vy (H:Hp)(a:Ej)(y v:V)(H':Hp):Prop :=
 (∃c k,H a=some (.dK c)/\y=kV k/\c.length<sizeLine/\H'=upd H a (.dK<|ye c k v)) \/
 ∃c k b,H a=some (.dT c)/\y=.ref b/\H b=some (.tup<|k.map kV)/\c.length<sizeLine/\H'=upd H a (.dT<|ye c k v)
theorem v9.k {H:Hp}{a:Ej}{Dm:Dl}{k:Key}(e:H a=some (.dK Dm)):v9 H a (kV k) (Us Dm k):=.inl ⟨Dm,k,.inl e,rfl,rfl⟩
theorem vy.k {H:Hp}{a:Ej}{Dm:Dl}{k:Key}(e:H a=some (.dK Dm))(hl:Dm.length<sizeLine):vy H a (kV k) v (upd H a<|.dK<|ye Dm k v):=.inl ⟨Dm,k,e,rfl,hl,rfl⟩
section
variable {X:Cx}{Do:De}{σ:St}{H:Hp}{s:Em}{a:Ej}{y v:V}{u r:Ei}{o:Option V}{A:EF}{E:Ei->Dh}
theorem Inv.big (I:Inv X Do σ H s):EV<s.heap.objs.size:=by
 have h:Ew<s.heap.objs.size:=(I.mod.glob.keeps I.bk).lt;exact Nat.lt_trans (by decide) h
theorem Od {Q:Ei->Dh}(r:A.units+1<Lc)(I:Inv X Do σ H s)(g:v9 H a y<|some v)(n:yq y u)(h:∀w' s',Inv X Do σ H s'->yq v w'->Q w' s') :
  El (Ep X.prog X.w) A (Mu (.ref a) u) Q E s:=by
 rcases g with⟨Dm,k,e,ey,l⟩|⟨Dm,k,b,e,ey,eb,l⟩
 ·subst ey;obtain⟨z,hd,t,c,f⟩:=vQ I.hok e;obtain⟨w',j,d⟩:=wu.some_of (v:=v) (o:=Mv t k) (by rw[l];exact c.val k);exact wpAny_getItem_of (vR n) f.mapOf j<|h w' _ (I.tok _) d
 ·subst ey;cases(show u=Ez b from n);obtain⟨z,hd,x,c,f⟩:=Gw I.hok e;obtain⟨w',j,d⟩:=wu.some_of (v:=v) (o:=(atKey x k).map (·.2)) (by rw[l];exact c.val k);obtain⟨p,q,i⟩:=Zz.mp j;refine wpAny_getItem_heap (JT r) (Xl I.hok eb) f q ?_;rw[i];exact h w' _ (I.tok _) d
theorem bR {Q:Ei->Dh}(i:A.units+1<Lc)(I:Inv X Do σ H s)(g:v9 H a y o)(f:yq y u)(h:∀s',Inv X Do σ H s'->Q (.bool o.isSome) s') :
  El (Ep X.prog X.w) A (EZ .In u<|.ref a) Q E s:=by
 rcases g with⟨Dm,k,e,ey,l⟩|⟨Dm,k,b,e,ey,eb,l⟩
 ·subst ey;obtain⟨z,hd,j,c,d⟩:=vQ I.hok e;refine wpAny_in_of (vR f) hd d.mapOf ?_;rw[←(c.val k).tO,←l];exact h _<|I.tok _
 ·subst ey;cases(show u=Ez b from f);obtain⟨z,hd,n,c,d⟩:=Gw I.hok e;refine wpAny_in_heap (JT i) (Xl I.hok eb) hd d ?_;have q:=(c.val k).tO;rw[Option.isSome_map]at q;rw[←q,←l];exact h _<|I.tok _
theorem XX {h':EB}{t':Nat}(I:Inv X Do σ H s)(f:TV<|H a)(hs:ES a s.heap h')(d:∃q,h'.get? a=some q)(new:yp X.prog X.w (upd H a ob) h' a ob) :
  Inv X Do σ (upd H a ob) { s with heap:=h',toks:=t' } :=
 I.write (x:=a) (e:=a) f (.inl rfl) (fun b q c z=>(hs.2 b c).trans z) d new
theorem B0 {H':Hp}{h':EB}{Dm:Dl}(z:Dm.length<=sizeLine)(hd:(a==EV)=false)(b:KV Dm vs)(dd:h'.DictOf (za P w) a vs) :
  yp P w H' h' a (.dK Dm):=⟨z,hd,vs,b,dd⟩
theorem Oe {Q:Unit->Dh}(M:A.units+1<Lc)(I:Inv X Do σ H s)(g:vy H a y v H')(x:yq y u)(t:yq v r)(h:∀s',Inv X Do σ H' s'->Q () s') :
  El (Ep X.prog X.w) A (setItem (.ref a) u r) Q E s:=by
 rcases g with⟨Dm,k,e,ey,l,eH⟩|⟨Dm,k,b,e,ey,eb,l,eH⟩
 ·subst ey eH;obtain⟨z,hd,N,d,j⟩:=Tp I.hok e;have o:N.length<=sizeLine:=by rwa[←d.length]
  have hl:(ye Dm k v).length<=sizeLine:=by have:=qI Dm k v;lia
  refine wpAny_setItem_pairs (hsz:=o) (vR x) j fun p f n=>h _ ?_;have L:∃q,p.get? a=some q:=let ⟨q,_,_,i,_⟩:=f;⟨q,i⟩;exact XX I (by rw[e];exact Ls) n L<|B0 hl hd (d.put k t) f
 ·subst ey eH;cases(show u=Ez b from x);obtain⟨z,hd,O,d,j⟩:=ao I.hok e;have o:O.length<=sizeLine:=by rwa[←Paired.length d]
  have hl:(ye Dm k v).length<=sizeLine:=by have:=qI Dm k v;lia
  refine wpAny_setItem_heap (hsz:=o) (JT M) (Xl I.hok eb) j fun p f n=>h _ ?_;obtain⟨q,D,C,i,F,G,J,_,K⟩:=f;refine XX I (by rw[e];exact Ls) n ⟨q,i⟩ ⟨hl,hd,_,(d.put k eb t).keeps fun c P B=>?_,q,D,C,i,F,G,J,K⟩;rwa[zG<|aI B e<|fun z=>nomatch z]
end
section
variable {X:Cx}{Do:De}{σ:St}{H:Hp}{s:Em}{a:Ej}{Dm:Dl}{k:Key}{u:Ei}{A:EF}{E:Ei->Dh}
theorem ah {v:V}{more:Db}{Q:Ei->Dh}(I:Inv X Do σ H s)(e:H a=some (.dK Dm))(f:yq (kV k) u)(l:Us Dm k=some v)(j:more=[]\/∃x,more=[x])
  (h:∀w' s',Inv X Do σ (upd H a<|.dK<|UF Dm k) s'->yq v w'->Q w' s'):El (Ep X.prog X.w) A (call (.builtin "dict.pop") (.ref a::u::more)) Q E s:=by
 obtain⟨z,hd,n,b,g⟩:=Tp I.hok e;obtain⟨w',D,d⟩:=wu.some_of (v:=v) (o:=Mv n k) (by rw[←l];exact b.val k);have B:(keyPart u).isSome=true:=by
  cases k with
  |inl i=>obtain⟨t,q⟩:=(show∃t,u=Mx i t from f);subst q;rfl
  |inr x=>obtain⟨t,q⟩:=(show∃t,u=Ma x t from f);subst q;rfl
 have r:argsOk "dict.pop" ⟨.ref a::u::more,[]⟩:=by
  rcases j with q|⟨x,q⟩
  ·subst q;exact PySem.F.args_dict_pop_2 _ _
  ·subst q;exact PySem.F.args_dict_pop_3 _ _ _
 refine JE PySem.F.slot_dict_pop g.typeIs PySem.F.entry_dict_pop r (meets_dict_pop_there (za X.prog X.w) a (vR f) more j B)
  ⟨n,w',g,by rw[←b.length];exact z,D,fun p c C=>h w' _ ?_ d⟩
 have y:∃q,p.get? a=some q:=let ⟨q,_,_,hq,_⟩:=c;⟨q,hq⟩;exact XX I (by rw[e];exact Ls) C y<|B0 (ZL (Ph Dm k) z) hd (b.drop k) c
end
def R4 (i:EN):Prop:=∀c b,subscripted i false c b=operate [c,b] (Mu c b)
theorem Fh {prog:Ek}{w:Eo}{A:EF}{E:Ei->Dh}{s:Em}{env:Env}{value slice:EN}{pos:Pos}{T id:String}{Q:Ei->Dh}
  (hl:typeLookup (.type T) "__getitem__"=Lo (some<|.builtin id)) (hs:R4 slice)
  (h:El (Ep prog w) A (E8 value env) (fun o s₁=>El (Ep prog w) A (E8 slice env) (fun i s₂=>s₂.TypeIs o T/\El (Ep prog w) A (Mu o i) Q E s₂) E s₁) E s) :
  El (Ep prog w) A (E8 (.Subscript value slice pos) env) Q E s:=by
 refine Subscript_<|Yg h (fun o s₁ e=>Yg e (fun i s₂ b=>?_) fun _ _ x=>x) fun _ _ x=>x;obtain⟨g,b⟩:=b;unfold subscriptTail;refine Q4 ?_;rw[getitemInPython_of_ne g.not_modules];refine Q4<|J0 g hl ?_;have d:El (Ep prog w) A (subscripted slice false o i) (fun r c=>El (Ep prog w) A (letTemporaryGo value o r>>=fun _=>Lo r) Q E c) E s₂:=by
  rw[hs o i];exact wpAny_operating<|Yg b (fun r c f=>Q4<|wpAny_letTemporaryGo<|Q7 f) fun _ _ x=>x
 first
  |exact Q7 (Q4 d)
  |exact Q4 (Q7<|Q4 d)
  |exact Q4 d
theorem FL (I:Inv X Do σ H s)(g:v9 H a y o):s.TypeIs (.ref a) "dict":=by
 rcases g with⟨Dm,k,e,_,_⟩|⟨Dm,k,b,e,_,_,_⟩
 ·obtain⟨_,_,d,_,c⟩:=vQ I.hok e;exact c.typeIs
 ·obtain⟨_,_,f,_,c⟩:=Gw I.hok e;exact c.typeIs
def bf (e ty:TE):TE:=fun c H Q=>e c H fun x d=>ty c d fun y b=>∃a v,x=.ref a/\v9 b a y (some v)/\Q v b
def TH (g ty h:TE):TS:=fun D b H=>h b H fun v d=>g b d fun x e=>ty b e fun y f=>∃a c,x=.ref a/\vy f a y v c/\D.nx b c
section
variable {X:Cx}{o i e value:EN}{pos DI D8:Pos}{td ty tv:TE}
theorem NG (r:X.A.units+1<Lc)(q:PE X o td)(p:PE X i ty)(hs:R4 i):PE X (.Subscript o i pos) (bf td ty):=by
 intro c s e H Q I h;refine Fh PySem.F.slot_dict_getitem.lookup hs<|Cf (q c s e H _ I h) fun u C ⟨x,f,l,z,t⟩=>Cf (p c C e f _ l t) fun D E ⟨y,j,d,B,a,v,ex,g,w⟩=>?_;subst ex;obtain rfl:u=Ez a:=z;exact⟨FL d g,Od r d g B fun J G n b=>⟨v,j,n,b,w⟩⟩
theorem xV (w:X.A.units+1<Lc)(t:PE X o td)(q:PE X i ty)(z:PE X value tv)(hs:Mz value (some<|.Subscript o i DI) pos.line X.env=Lo false) :
  PS X (.Assign [.Subscript o i DI] value pos) (TH td ty tv):=by
 intro c s b H D I h;refine wpAny_Assign_Subscript (Cf (z c s b H _ I h) fun r K ⟨v,d,j,F,B⟩=>Cf (t c K b d _ j B) fun u L ⟨x,e,l,G,C⟩=>Cf (q c L b e _ l C) fun N O ⟨y,M,n,J,a,f,ex,g,E⟩=>?_) hs;subst ex;obtain rfl:u=Ez a:=G;exact Oe w n g J F fun P p=>⟨b,f,p,E⟩
end
theorem Pf (h:EB)(b:EV<h.objs.size):yp P w H (h.push { cls:=.type "dict",data:=.dict #[] }) h.objs.size (.dK []) :=
 ⟨ZD _,YH.mpr<|EK<|Zu b,[],.nil,Heap.DictOf.new h⟩
def WS:TE:=fun _ H Q=>∀p,H p=none->Q (.ref p) (upd H p<|.dK [])
section
variable {X:Cx}{pos:Pos}
theorem qM:PE X (.Dict [] [] pos) WS:=fun b s c H Q I h =>
 wpAny_Dict_empty ⟨.ref s.heap.objs.size,_,I.laid (a:=s.heap.objs.size) (o:=.dK []) (t':=s.toks) (fun _ _ q=>Q8 _ q) (Zd _)<|Pf s.heap I.big,rfl,h _<|I.hok.fresh<|Zd _⟩
end
structure M1 (X:Cx)(o:EN)(m:Str)(Dr:Pos)(e:EN)(Dq:Pos):Prop where
 base:LA o m X.env (E8 o X.env)=E8 o X.env
 few:((Lh Dq<|Ey [e] X.env).all (fun x=>!x.1)&&(Mn Dq<|LK [] X.env).all (fun x=>x.1.isSome) && decide (([e]:List EN).length+([]:List Keyword).length+(if([]:List Keyword).isEmpty then 0 else 1)<30))=true
 line:(Dr.endLine==Dq.line)=true
 trees:Lh Dq (Ey [e] X.env)=[(false,E8 e X.env)]
structure M2 (X:Cx)(o:EN)(m:Str)(Dr:Pos)(e f:EN)(Dq:Pos):Prop where
 base:LA o m X.env (E8 o X.env)=E8 o X.env
 few:((Lh Dq<|Ey [e,f] X.env).all (fun x=>!x.1)&&(Mn Dq<|LK [] X.env).all (fun x=>x.1.isSome) && decide (([e,f]:List EN).length+([]:List Keyword).length+(if([]:List Keyword).isEmpty then 0 else 1)<30))=true
 line:(Dr.endLine==Dq.line)=true
 trees:Lh Dq (Ey [e,f] X.env)=[(false,E8 e X.env),(false,E8 f X.env)]
def ae (H:Hp)(a:Ej):Prop:=(∃b,Rd H a<|.dK b)\/∃b,Rd H a<|.dT b
theorem KI (I:Inv X Do σ H s)(d:ae H a) :
  s.TypeIs (.ref a) "dict"/\(∀b,Ez a=.ref b->∃ob,s.heap.get? b=some ob/\ob.dict=none)/\(a==EV)=false:=by
 rcases d with⟨Dm,e⟩|⟨Dm,e⟩
 ·obtain⟨_,hd,h,_,c⟩:=vQ I.hok e;refine⟨c.typeIs,fun b q=>?_,hd⟩;cases q;obtain⟨ob,_,_,f,g,_⟩:=c;exact⟨ob,f,g.2.1⟩
 ·obtain⟨_,hd,i,_,c⟩:=Gw I.hok e;refine⟨c.typeIs,fun b q=>?_,hd⟩;cases q;obtain⟨ob,_,_,f,g,_⟩:=c;exact⟨ob,f,g.2.1⟩
section
variable {X:Cx}{Do:De}{σ:St}{H:Hp}{s:Em}{a:Ej}{y d:V}{u r:Ei}{o:Option V}{A:EF}{E:Ei->Dh}
theorem T6 {Q:Ei->Dh}(i:A.units+1<Lc)(I:Inv X Do σ H s)(g:v9 H a y o)(f:yq y u)(h:∀w' s',Inv X Do σ H s'->yq (o.getD .non) w'->Q w' s') :
  El (Ep X.prog X.w) A (call (.builtin "dict.get") [.ref a,u]) Q E s:=by
 rcases g with⟨Dm,k,e,ey,l⟩|⟨Dm,k,b,e,ey,eb,l⟩
 ·subst ey;obtain⟨z,hd,n,c,d⟩:=vQ I.hok e;refine JE Jb d.typeIs JU (PySem.F.args_dict_get_2 _ _) (meets_dict_get (za X.prog X.w) a (vR f) hd) ⟨_,d.mapOf,h _ _ (I.tok _) ?_⟩;rw[l];exact(c.val k).getD rfl
 ·subst ey;cases(show u=Ez b from f);obtain⟨z,hd,j,c,d⟩:=Gw I.hok e;refine JE Jb d.typeIs JU (PySem.F.args_dict_get_2 _ _) (meetsH_dict_get (My<|za X.prog X.w) a b hd) ⟨JT i,k,j,Xl I.hok eb,d,h _ _ (I.tok _) ?_⟩;rw[l];exact(c.val k).getD rfl
theorem T7 {Q:Ei->Dh}(j:A.units+1<Lc)(I:Inv X Do σ H s)(g:v9 H a y o)(i:yq y u)(rd:yq d r)(h:∀w' s',Inv X Do σ H s'->yq (o.getD d) w'->Q w' s') :
  El (Ep X.prog X.w) A (call (.builtin "dict.get") [.ref a,u,r]) Q E s:=by
 rcases g with⟨Dm,k,e,ey,l⟩|⟨Dm,k,b,e,ey,eb,l⟩
 ·subst ey;obtain⟨z,hd,p,c,f⟩:=vQ I.hok e;refine JE Jb f.typeIs JU (PySem.F.args_dict_get_3 _ _ _) (meets_dict_get_default (za X.prog X.w) a (vR i) hd r) ⟨_,f.mapOf,h _ _ (I.tok _) ?_⟩;rw[l];exact(c.val k).getD rd
 ·subst ey;cases(show u=Ez b from i);obtain⟨z,hd,n,c,f⟩:=Gw I.hok e;refine JE Jb f.typeIs JU (PySem.F.args_dict_get_3 _ _ _) (meetsH_dict_get_default (My<|za X.prog X.w) a b hd r) ⟨JT j,k,n,Xl I.hok eb,f,h _ _ (I.tok _) ?_⟩;rw[l];exact(c.val k).getD rd
end
def WQ (e ty:TE):TE:=fun d H Q=>e d H fun x b=>∃a,x=.ref a/\ae b a/\ty d b fun y c=>∃o,v9 c a y o/\Q (o.getD .non) c
def WR (f ty g:TE):TE:=fun b H Q=>f b H fun x c=>∃a,x=.ref a/\ae c a/\ty b c fun y e=>g b e fun z d=>∃o,v9 d a y o/\Q (o.getD z) d
def WT (f ty:TE):TE:=fun e H Q=>f e H fun x c=>∃a,x=.ref a/\ae c a/\ty e c fun y d=>∃b k v,d a=some (.dK b)/\y=kV k/\Us b k=some v/\Q v (upd d a<|.dK<|UF b k)
section
variable {X:Cx}{o e f:EN}{Dr Dq:Pos}{td ty tx:TE}
theorem uX (t:X.A.units+1<Lc)(r:PE X o td)(q:PE X e ty)(m:M1 X o "get" Dr e Dq):PE X (.Call (.Attribute o "get" Dr) [e] [] Dq) (WQ td ty):=by
 intro c s i H Q I h;refine Ul m.base m.few m.line Vv Jb PySem.F.type_dict_get<|Cf (r c s i H _ I h) fun u C ⟨x,j,f,z,a,ex,d,v⟩=>?_;subst ex;obtain rfl:u=Ez a:=z;obtain⟨D,E,_⟩:=KI f d;refine⟨D,E,?_⟩;rw[m.trees];refine Li rfl<|Ly<|Lu<|Cf (q c C i j _ f v) fun G K ⟨y,l,n,B,J,g,w⟩=>LR ?_;exact T6 t n g B fun M L p b=>⟨_,l,p,b,w⟩
theorem X4 (C:X.A.units+1<Lc)(B:PE X o td)(v:PE X e ty)(w:PE X f tx)(m:M2 X o "get" Dr e f Dq):PE X (.Call (.Attribute o "get" Dr) [e,f] [] Dq) (WR td ty tx):=by
 intro b s i H Q I h;refine Ul m.base m.few m.line Vv Jb PySem.F.type_dict_get<|Cf (B b s i H _ I h) fun u M ⟨x,l,j,J,a,ex,d,D⟩=>?_;subst ex;obtain rfl:u=Ez a:=J;obtain⟨O,P,_⟩:=KI j d;refine⟨O,P,?_⟩;rw[m.trees];refine Li rfl<|Ly<|Lu<|Cf (v b M i l _ j D) fun S N ⟨y,n,q,K,E⟩ => Lu<|Cf (w b N i n _ q E) fun R U ⟨z,p,r,L,T,g,G⟩=>LR ?_
 exact T7 C r g K L fun Z Y t c=>⟨_,p,t,c,G⟩
theorem Hy (t:PE X o td)(r:PE X e ty)(m:M1 X o "pop" Dr e Dq):PE X (.Call (.Attribute o "pop" Dr) [e] [] Dq) (WT td ty):=by
 intro c s g H Q I h;refine Ul m.base m.few m.line Vv PySem.F.slot_dict_pop PySem.F.type_dict_pop<|Cf (t c s g H _ I h) fun u C ⟨x,i,f,A,a,ex,d,w⟩=>?_;subst ex;obtain rfl:u=Ez a:=A;obtain⟨D,E,_⟩:=KI f d;refine⟨D,E,?_⟩;rw[m.trees];refine Li rfl<|Ly<|Lu<|Cf (r c C g i _ f w) fun K L ⟨y,J,j,B,G,k,v,p,q,l,z⟩=>LR ?_;subst q;exact ah j p B l (.inl rfl) fun N M n b=>⟨v,_,n,b,z⟩
end
section
variable {X:Cx}{Do:De}{σ:St}{H:Hp}{s:Em}{a:Ej}{Dm:Dl}{A:EF}{E:Ei->Dh}
theorem Pb {Q:Ei->Dh}(I:Inv X Do σ H s)(e:Rd H a<|.dK Dm)(h:∀p s',H p=none->Inv X Do σ (upd H p<|.dK Dm) s'->Q (.ref p) s'):El (Ep X.prog X.w) A (call (.type "dict") [.ref a]) Q E s:=by
 obtain⟨z,hd,l,c,g⟩:=vQ I.hok e;refine kt_call_dict hd g (by rwa[←c.length]) fun j d i=>?_;refine h _ _ (I.hok.fresh<|Zd _)<|I.laid (a:=s.heap.objs.size) (o:=.dK Dm) (t':=s.toks) (fun b q f=>?_) (Zd _)<|B0 z (YH.mpr<|EK<|Zu I.big) c d;exact(i.2 b<|Zu<|Zl f).trans (Q8 _ f)
end
end L2
namespace Att
open PySem PySem.W PySem.Calls PyProof.Rows
theorem XI {P:Params}{h:EB}:∀(ns:List Int) (vs:Db),WellAll P h vs (ns.map WData.int)->IntsAre vs ns:=by
 intro ns
 induction ns with
 |nil =>
  intro vs w;rw[Vh]at w;cases w;exact .nil
 |cons n ns ih =>
  intro vs w;rw[Zv]at w;cases w with
  |cons a b =>
   cases a;exact .cons _ _<|ih _ b
theorem OO {l:OpenLaw}{n:Nat}(u:l.most=some n){P:Params}{h:EB}{args:List WData}{c:Db}
  (b:l.row.toRowW.claim.pre args=true) (i:WellAll P h c args) :
  ∃a vs ns,c=[Ez a]/\args=[WData.list<|ns.map WData.int]/\h.get? a=some { cls:=.type "list",data:=.seq vs.toArray }/\IntsAre vs ns/\ns.length<=n:=by
 have g:WShape.hasAll [] args [.list .int]=true:=(pre_splitW b).1;have j:l.pre.holds [] { args:=args }=true:=(pre_splitW b).2;obtain⟨d,r,rfl,p,s⟩:=hasAllW_cons g;obtain rfl:=hasAllW_nil s;obtain⟨w,rfl,t⟩:=hasW_list p;obtain⟨ns,rfl⟩:=items_int t;have o:ns.length<=n:=by
  unfold OpenLaw.pre at j;have e:(WTm.not<|.lt (.lit<|.int (n:Int))<|.len<|.arg 0).holds [] { args:=[.list<|ns.map .int] }=true:=by
   have e:=(holds_andW j).1;rw[u]at e;exact e
  have f:=condW_of e<|w_not<|w_lt w_lit<|w_len_list<|w_arg rfl;rw[Q5]at f;refine Nat.le_of_not_lt fun q=>?_;have v:(n:Int)<((ns.length:Nat):Int):=by lia
  first
   |(rw[Zf v]at f;exact absurd f<|by decide)
   |(simp at f;lia)
 cases i with
 |cons w1 w2 =>
  cases w2;cases w1 with
  |list ho hall=>exact⟨_,_,ns,rfl,rfl,ho,XI ns _ hall,o⟩
theorem OM (l:OpenLaw)(args:List WData):l.row.toRowW.claim.post args (.bool true) args=true :=
 postW_of (r:=l.row.toRowW) (X:=(true==true))
  (show WShape.has [] (.bool true) .bool=true by first|rfl|decide|simp[WShape.has,WShape.arms,WShape.armsAll])
  (show(WTm.eq .res<|.lit<|.bool true).value [] { args:=args,res:=some<|.bool true,after:=args }=some (.bool<|true==true) from w_eq_bool (w_res rfl) w_lit) rfl
theorem qp {l:OpenLaw}{n:Nat}{q:Ek}{b:Da}{p:(Str->Dc)->EB->Prop}{s:Eo->EB->Prop}{d:DefRec}
  (I:l.most=some n) (h:d.params.defaults=[])
  (call:∀(w:Eo) (s₀ s₁:Em) (mg mb:Str->Dc) (fa:Ej) (o:Obj) (pm cd doc:Ei) (a:Ej) (vs:Db) (ns:List Int),Ground q b [] p w s₀ mg mb s₁.heap->s w s₁.heap -> s₁.heap.get? fa=some o->o.data=.func (docDef d.name d.params d.body d.scope pm cd doc)->s₁.heap.CodeRec cd d.name->mg d.name=some (.ref fa) -> s₁.heap.get? a=some { cls:=.type "list",data:=.seq vs.toArray }->IntsAre vs ns->ns.length<=n->s₁.gens=#[] -> L1 (Ep l.prog w) callerA (.call (.ref fa) ⟨[.ref a],[]⟩) (fun r s'=>r=.ok (.ret<|.bool true)/\OldK s₁.heap s'.heap/\s'.os=s₁.os/\ME s'.gens) s₁) :
  WalkO q b p s l.row.toRowW d [] (fun f vs=>PySem.call f vs):=by
 intro w s₀ s₁ mg mb G Y fa o pm cd doc A kV J hd g u i E t x M e v L j F;obtain rfl:A=.none:=Dflts.none u h;obtain rfl:kV=.none:=Dflts.noKw u;obtain⟨a,vs,ns,rfl,rfl,z,c,y⟩:=OO I e j;refine enter_call<|YW (call w s₀ s₁ mg mb fa o pm cd doc a vs ns G Y J (fd_plain hd) g i z c y E) fun r s' K=>?_;obtain⟨rfl,B,C,D⟩:=K;exact⟨.inl ⟨.bool true,.bool true,[],rfl,fun _=>rfl,.bool true,OM l _,fun _=>⟨List.Pairwise.nil,fun _ H=>(nomatch H)⟩⟩,B,C,D⟩
end Att
namespace L2
open PySem PySem.Spec PyProof.Rows
theorem BN:∀{vs:Db} {ns:List Int},IntsAre vs ns->yr (ns.map V.int) vs
 |_,_,.nil=>.nil
 |_,_,.cons n t h=>.cons ⟨t,rfl⟩<|BN h
def inClass (s:EW)(j:Nat):Stmt:=match s with
 | .ClassDef _ _ _ body _ _ _ _ _ _ _=>body.getD j<|.Pass ⟨0,0,0,0⟩
 |_=>.Pass ⟨0,0,0,0⟩
def qA (s:EW):Arguments:=match s with
 | .FunctionDef _ a _ _ _ _ _ _ _ _=>a
 |_=>{ posonlyargs:=[],args:=[],vararg:=none,kwonlyargs:=[],kw_defaults:=[],kwarg:=none,defaults:=[] }
def xD (s:EW):List Stmt:=match s with
 | .FunctionDef _ _ b _ _ _ _ _ _ _=>b
 |_=>[]
def zF (s:EW):Scope:=match s with
 | .FunctionDef _ _ _ _ _ _ sc _ _ _=>sc
 |_=>{ kind:=.function,names:=[],isGenerator:=false,isCoroutine:=false }
abbrev Ck:RX:=fun _ _ _ _ _ _=>False
abbrev E0:XK:=fun _ _ _=>False
theorem NF:vE Ck X E0:=fun _ _ _ _ _ _ _ h=>h.elim
structure wX (K:Ca)(x qual:Str)(st:EW)(f:Ej)(fd:Et):Prop where
 ex:∃(oc:Ei) (od:Option Ej) (kV doc pm:Ei) (an:Option Ej) (cdv ct:Ei) (osl:Array Dc),
  fd=Le x qual (qA st) (xD st) (zF st) .none kV doc pm an cdv ct/\K.lookup f=some ⟨oc,od,.func fd,osl⟩/\LG K cdv qual=true
 kp:E4 K (.ref f)=true
section
variable {P:Ek}{w:Eo}{K:Ca}{mg:Str->Dc}{base:EB}
theorem wX.ok {st:EW}{k:Nat}{sp:Sp}(F:wX K x qual st f fd)(S:zu N ps<|zF st)
  (d:∀(cdv:Ei) (A:EF) (outer:List Env) (s:Em) (H:Hp) (vs:Dj) (Q:VK) (E:XK),xu k (A.deeper<|Mr qual (zF st) s.heap.objs.size f cdv)->sp vs H Q E -> ∃t,tG (Xf Ck P w K mg base N qual (zF st) f cdv A outer s H E).lY (xD st) t/\t { nx:=fun _ H'=>Q .non H',rt:=Q } (start N vs) H)(len:∀vs H Q E,sp vs H Q E->vs.length=ps.length:=by intro _ _ _ _ h;first|(cases h;subst_vars;rfl)|repeat first|(obtain⟨rfl,_⟩:=h;rfl)|obtain⟨_,h⟩:=h):yu P w K mg base Ck (k+1) f fd ps sp:=by
 obtain⟨n,o,kV,e,pm,l,cdv,ct,j,rfl,i,b⟩:=F.ex;refine Pp i b S len fun A outer s H vs Q E g c=>?_;obtain⟨t,h,q⟩:=d cdv A outer s H vs Q E g c;exact⟨t,h.lY,q⟩
theorem wX.binds {st:EW}{ps:Da}(F:wX K x qual st f fd)
  (h:∀(kV doc pm:Ei) (an:Option Ej) (cdv ct:Ei) (us:Db),us.length=ps.length->bindArgs (Le x qual (qA st) (xD st) (zF st) .none kV doc pm an cdv ct) ⟨us,[]⟩=Lo (ps.zip us)):wU K fd ps []:=by
 obtain⟨e,g,kV,doc,pm,an,cdv,ct,c,rfl,d,b⟩:=F.ex;exact .all<|h kV doc pm an cdv ct
theorem vI {x qual:Str}{st:EW}{f:Ej}{h:Ei}{i g:Option Ej}{e:Array Dc}{kV d pm b ct:Ei}(l:K.lookup f=some ⟨h,i,.func<|Le x qual (qA st) (xD st) (zF st) .none kV d pm g b ct,e⟩)
  (c:LG K b qual=true) (k:E4 K (.ref f)=true):wX K x qual st f (Le x qual (qA st) (xD st) (zF st) .none kV d pm g b ct):=⟨⟨h,i,kV,d,pm,g,b,ct,e,rfl,l,c⟩,k⟩
end
theorem No (b:xu k A):A.units+1<cLine:=JV (Nat.add_le_add_left (by decide:1<=64) _) b.units
section
variable {X:Cx}
theorem pv (i:Nat){x:Str}{pos:Pos}(c:X.N[i]?=some x:=by rfl)(d:bF X.env.scope x:=by first|exact EJ rfl|exact Or.inr (EJ rfl)|exact Or.inr (Or.inr rfl))(hd:(x==("__debug__":Str))=false:=by decide)
  (b:(x==("__classdict__":Str))=false:=by decide):PE X (.Name x pos) (bv i):=Wy c d hd b
end
theorem Ut {A B:Prop}(h:B):if false=true then A else B:=by
 rwa[Zs ZH]
theorem Uv {A B:Prop}(h:A):if true=true then A else B:=by
 rwa[Zt rfl]
theorem Ux {c A B:Prop} [Decidable c](h1:c->A)(h2:¬c->B):if c then A else B:=by
 by_cases h:c
 ·rw[Zt h];exact h1 h
 ·rw[Zs h];exact h2 h
def zx (H H':Hp):Prop:=∀b o,H b=some o->H' b=some o
theorem zx.refl (H:Hp):zx H H:=fun _ _ h=>h
theorem zx.trans (a:zx H H1)(b:zx H1 H2):zx H H2:=fun c o h=>b c o<|a c o h
theorem zx.free (e:zx H H'){l:Ej}(h:H' l=Option.none):H l=Option.none:=by
 cases q:H l with
 |none=>rfl
 |some o =>
  rw[e l o q]at h;cases h
theorem zx.seq {K:Ca}(e:zx H H')(h:yx K H a xs):yx K H' a xs:=by
 rcases h with(h|⟨o,h⟩)|h
 ·exact .inl (.inl<|e _ _ h)
 ·exact .inl (.inr ⟨o,e _ _ h⟩)
 ·exact .inr h
section
variable {κ:Type} [DecidableEq κ]
theorem IZ {Dm:List (κ×V)}{k:κ}(h:Us Dm k=none):¬k∈Dm.map (·.1):=by
 intro m;obtain⟨p,b,e⟩:=Za.mp m;have q:(Dm.any fun c=>decide (c.1=k))=true:=Yc.mpr ⟨p,b,Zf e⟩;rw[xZ,h]at q;exact absurd q (by simp)
theorem uI {Dm:List (κ×V)}{k:κ}{v:V}(h:Us Dm k=some v):k∈Dm.map (·.1):=by
 have q:(Dm.any fun c=>decide (c.1=k))=true:=by
  rw[xZ,h]
  all_goals rfl
 obtain⟨p,b,e⟩:=Yc.mp q;exact Za.mpr ⟨p,b,Zr e⟩
theorem jL:∀{l:List κ} {k:κ},l.Nodup->¬k∈l->(l++[k]).Nodup
 |[],k,_,_=>by simp
 |a::r,k,h,hk=>by
  obtain⟨b,c⟩:=Z9.mp h;show(a::(r++[k])).Nodup;refine Z9.mpr ⟨fun m=>?_,jL c fun m=>hk<|Zh.mpr<|Or.inr m⟩
  rcases Zy.mp m with q|q
  ·exact b q
  ·exact hk (Zh.mpr<|EJ (Q6.mp q).symm)
theorem Og {p:κ×V}{r:List (κ×V)}{k:κ}(e:p.1=k):UF (p::r) k=UF r k:=by
 unfold UF;rw[YZ,Zs<|by simp[e]]
theorem Of {p:κ×V}{r:List (κ×V)}{k:κ}(e:¬p.1=k):UF (p::r) k=p::UF r k:=by
 unfold UF;rw[YZ,Zt<|by simp[e]]
end
theorem q9 {α b:Type}{f:α->b->Sem (ForInStep b)}(g:b->α->b):∀(l:List α) (c:b),(∀x∈l,∀c,f x c=Lo (.yield<|g c x))->forIn l c f=Lo (l.foldl g c)
 |[],c,_=>rfl
 |x::l,c,h=>by
  rw[List.forIn_cons,h x Zc,pure_bind];exact q9 g l (g c x) fun y d=>h y<|Q9 _ d
def U0 (cells:List<|Str×Ej)(c:List<|Str×Ej)(x:Str×L5):List (Str×Ej) :=
 if x.2==.free then(match cells.lookup x.1 with|some a=>(x.1,a)::c|none=>c) else c
def qL (env:Env)(sc:LV):List (Str×Ej):=sc.names.foldl (U0 env.cells) []
theorem kI {scope:LV}{env:Env}(h:∀x∈scope.names,x.2=.free->∃c,env.cells.lookup x.1=some c):MB scope env=Lo (qL env scope):=by
 simp only[MB];rw[q9 (U0 env.cells) scope.names []<|fun x g c=>?_]
 ·rfl
 ·obtain⟨n,k⟩:=x;unfold U0;cases d:(k==NameKind.free) with
  |true =>
   have e:k=.free:=by simpa using d
   obtain⟨a,f⟩:=h (n,k) g e;have b:env.cells.lookup n=some a:=f;simp only[d,if_true,cellOf,b,pure_bind]
  |false=>simp only[d,ZU,Js]
theorem qC {c:Type}(x n:Str)(a:c)(l:List<|Str×c):LJ x ((n,a)::l)=if x=n then some a else LJ x l:=by
 by_cases h:x=n
 ·have b:(x==n)=true:=Jl.mpr h;simp only[List.lookup_cons,b,Zt h]
 ·have b:(x==n)=false:=YH.mpr h;simp only[List.lookup_cons,b,Zs h]
theorem IE {cells:List (Str×Ej)}:∀(names:List<|Str×L5) (acc:List<|Str×Ej),(∀x c,acc.lookup x=some c->cells.lookup x=some c) ->
  ∀x c,(names.foldl (U0 cells) acc).lookup x=some c->cells.lookup x=some c
 |[],acc,h=>h
 |(n,k)::r,acc,h=>IE r _ fun x c e=>by
  unfold U0 at e
  by_cases d:((n,k).2==NameKind.free)=true
  ·rw[Zt d]at e;dsimp only at e;cases q:cells.lookup n with
   |none=>rw[q]at e;exact h x c e
   |some a =>
    rw[q]at e;dsimp only at e;rw[qC]at e
    by_cases b:x=n
    ·rw[Zt b]at e;rwa[b,q]
    ·rw[Zs b]at e;exact h x c e
  ·rw[Zs d]at e;exact h x c e
theorem GT:∀(names:List<|Str×L5) (acc:List<|Str×Ej) (x:Str),(∃c,acc.lookup x=some c)->∃c,(names.foldl (U0 cells) acc).lookup x=some c
 |[],acc,x,h=>h
 | (n,k)::r,acc,x,h=>GT r _ x (by
  obtain⟨c,h⟩:=h;unfold U0
  by_cases b:((n,k).2==NameKind.free)=true
  ·rw[Zt b];dsimp only;cases q:cells.lookup n with
   |none=>exact⟨c,h⟩
   |some a =>
    dsimp only;rw[qC]
    by_cases d:x=n
    ·exact⟨a,by rw[Zt d]⟩
    ·exact⟨c,by rw[Zs d];exact h⟩
  ·rw[Zs b];exact⟨c,h⟩)
theorem FG {cells:List (Str×Ej)}{x:Str}{c:Ej}(b:cells.lookup x=some c):∀(names:List<|Str×L5) (acc:List<|Str×Ej),(x,NameKind.free)∈names->∃c,(names.foldl (U0 cells) acc).lookup x=some c
 |[],acc,h=>by cases h
 |(n,k)::r,acc,h=>by
  rcases Zh.mp h with e|e
  ·cases e;refine GT r _ x ⟨c,?_⟩;unfold U0;rw[Zt<|by rfl];dsimp only;rw[b];dsimp only;rw[qC,Zt rfl]
  ·exact FG b r _ e
theorem M6 {env:Env}{sc:LV}{x:Str}{c:Ej}(b:env.cells.lookup x=some c)(f:(x,NameKind.free)∈sc.names):(qL env sc).lookup x=some c:=by
 obtain⟨d,h⟩:=FG b sc.names [] f;have e:=IE sc.names [] (fun x c e=>by cases e) x d h;rw[b]at e;cases e;exact h
theorem j4 {x:Str}{c:Ej}(h:(qL env sc).lookup x=some c):env.cells.lookup x=some c :=
 IE sc.names [] (fun x c e=>by cases e) x c h
def HM (env:Env)(x:Str)(k:L5):NameKind:=if(k==.free&&env.scope.kind==.function&&env.kindOf x==some .cell) then .cell else k
theorem jU {env:Env}(x:Str):∀names:List<|Str×L5,
  (names.map fun(n,k)=>if(k==NameKind.free&&env.scope.kind==.function&&env.kindOf n==some .cell) then(n,NameKind.cell) else(n,k)).lookup x=(names.lookup x).map (HM env x)
 |[]=>rfl
 |(n,k)::r=>by
  have c:=jU (env:=env) x r;rw[Zv];have e:(if(k==NameKind.free&&env.scope.kind==.function&&env.kindOf n==some .cell)=true then(n,NameKind.cell) else(n,k))=(n,HM env n k):=by
   unfold HM
   split<;>rfl
  dsimp only;rw[e,qC,qC]
  by_cases b:x=n
  ·rw[Zt b,Zt b,b];rfl
  ·rwa[Zs b,Zs b]
theorem Xt {env:Env}{scope:LV}{b:List (Str×Ej)}{C:Ej}(x:Str):(Mp scope b C env).scope.names.lookup x=(scope.names.lookup x).map (HM env x):=jU x scope.names
def UE (src:List<|Option Nat)(b:St):St:=src.map fun o=>o.bind fun i=>(b[i]?).join
structure v5 (sc:LV)(N N':Da)(src:List<|Option Nat)(scope:LV):Prop where
 nd:N'.Nodup
 len:src.length=N'.length
 kind:scope.kind=.function
 qz:∀y∈scope.names,y.2≠.cell
 names:∀y∈scope.names,y.2=.local->scope.names.lookup y.1=some .local
 free:∀y∈scope.names,y.2=.free->sc.names.lookup y.1=some .cell\/sc.names.lookup y.1=some .free
 srcs:((src.zip N').all fun(o,x)=>match o with|none=>true|some i=>N[i]?==some x&&scope.names.lookup x==some .free)=true
theorem v5.a {sc:LV}{N N':Da}{src:List (Option Nat)}{scope:LV}(nd:N'.Nodup:=by decide +kernel)(len:src.length=N'.length:=by rfl)(kind:scope.kind=.function:=by rfl)(qz:∀y∈scope.names,y.2≠.cell:=by decide +kernel)(names:∀y∈scope.names,y.2=.local->scope.names.lookup y.1=some .local:=by decide +kernel)(free:∀y∈scope.names,y.2=.free->sc.names.lookup y.1=some .cell\/sc.names.lookup y.1=some .free:=by decide +kernel)(srcs:((src.zip N').all fun(o,x)=>match o with|none=>true|some i=>N[i]?==some x&&scope.names.lookup x==some .free)=true:=by decide +kernel):v5 sc N N' src scope:=⟨nd,len,kind,qz,names,free,srcs⟩
theorem v5.at (O:v5 sc N N' src scope){j i:Nat}{x:Str}(c:src[j]?=some (some i))(d:N'[j]?=some x):N[i]?=some x/\scope.names.lookup x=some .free:=by
 have e:(src.zip N')[j]?=some (some i,x):=by rw[Jy];exact⟨c,d⟩
 have q:=ZI.mp O.srcs _<|Zm e;have b:(N[i]?==some x&&scope.names.lookup x==some .free)=true:=q;rw[Zi]at b;exact⟨Vg b.1,Vg b.2⟩
def Cx.comp (X:Cx)(N':Da)(scope:LV)(C:Ej)(s:Em)(H:Hp)(b:Dd):Cx :=
 { X with N:=N',s₀:=s,H₀:=H,env:=Mp scope (qL X.env scope) C X.env,outer:=X.stack,ex:=b,fn:=fun _=>false,pn:=[],xe:=fun _ _=>False }
theorem Un.adopt {D:Ej}(u:Un fs ex H H1 h h1)(f:h.get? D=none)(c:H D=none):Un fs ex H (upd H1 D o) h h1 where
 keep:=u.keep
 slot:=u.slot
 free:=fun b d q n i=>by
  have g:b≠D:=fun z=>by rw[z,f]at q;cases q
  rw[zG g];exact u.free b d q n i
 there:=u.there
 tups:=fun b e q=>by rw[zG<|zQ q c];exact u.tups b e q
 wg:=fun b d e q=>by rw[zG<|zQ q c];exact u.wg b d e q
 vz:=fun b j q=>by rw[zG<|zQ q c];exact u.vz b j q
theorem vf.adopt {D:Ej}(x:vf P w H h)(n:H D=none)(new:yp P w (upd H D o) h D o):vf P w (upd H D o) h:=fun b u e=>by
 by_cases d:b=D
 ·subst d;rw[zC]at e;cases e;exact new
 ·rw[zG d]at e;exact(x b u e).stay (fun c v _ q=>q) (fun c q=>by rwa[zG<|zQ q n]) fun c f q=>by rwa[zG<|zQ q n]
def oK (X:Cx)(b:List EN)(f:TT):Prop :=
 ∀(e:De) (s:Em) (d:St) (H:Hp) (Q:Bool->Hp->Prop),Inv X e d H s->f d H Q ->
  El (Ep X.prog X.w) X.A (forIn b true fun c r=>if r=true then do let ok ←isTrue c X.env (E8 c X.env);Lo (Ms ok) else Lo (Ms r)) (TP X e d Q) X.xe s
def Ig:TT:=fun _ H Q=>Q true H
theorem xS:oK X [] Ig:=by
 intro b s c H Q I h;rw[List.forIn_nil];exact Q7 ⟨H,I,h⟩
theorem Wz (g:PT X c tc):oK X [c] tc:=by
 intro d s j H Q I h;rw[List.forIn_cons];refine Q4<|Q4<|Cf (g d s j H _ I h) fun b l ⟨e,f,i⟩=>Q7 ?_;dsimp only;rw[List.forIn_nil];exact Q7 ⟨e,f,i⟩
def UW (src:List<|Option Nat)(J:It)(g:TG)(t:TT)(s:TE)(Q:VK)(u:St)(H:Hp):Prop :=
 ∃W:Nat->Nat->Dj->St->Hp->Prop,(∃m,W 0 m [] (UE src u) H)/\∀i m f j d,W i m f j d->f.length<=sizeLine /\
 ((J.stop i d/\∀p,d p=none->Q (.ref p) (upd d p<|.lst f)) \/ (J.go i d/\∃l:Dj->St->Hp->Prop,(∀h c e,l h c e->∃o,o<m/\W (i+1) o h c e) /\ ∀x e,J.oZ i d x e->g x j e fun c q=>t c q fun b n=>if b=true then s c n fun y r=>l (f++[y]) c r else l f c n))
def TL (src:List<|Option Nat)(f:TI)(g:TG)(e:TT)(d:TE):TE:=fun b H Q=>f b H fun J c=>UW src J g e d Q b c
section
variable {X:Cx}{tg elt iter:EN}{ifs:List EN}{scope sc:LV}{N N':Da}{src:List (Option Nat)}{g:TG}{tf:TT}{te:TE}{wi:TI}{pos:Pos}
theorem PY {prog:Ek}{w:Eo}{A:EF}{R:Result->Dh}{s:Em}{it f:Ei}{env:Env}(I:Nat->Dh)
  (turn:∀n s,I n s->El (Ep prog w) A (L9 it) (fun r s₁=>match r with
   |none=>R (.ok .next) s₁
   | some v=>El (Ep prog w) A (L6 tg it v) (fun _ s₂=>El (Ep prog w) A (assign tg env v) (fun _ s₃ =>
     El (Ep prog w) A (forIn ifs true fun c r=>if r=true then do let ok ←isTrue c env (E8 c env);Lo (Ms ok) else Lo (Ms r)) (fun ok s₄ =>
      if ok=true then El (Ep prog w) A (E8 elt env) (fun x s₅ =>
       El (Ep prog w) A (call (.builtin "list.append") [f,x]) (fun _ s₆=>∃m,m<n/\I m s₆) (fun _ _=>False) s₅) (fun _ _=>False) s₄
      else∃m,m<n/\I m s₄) (fun _ _=>False) s₃) (fun _ _=>False) s₂) (fun _ _=>False) s₁) (fun _ _=>False) s)
  (n:Nat) (h:I n s):L1 (Ep prog w) A (.compLoop (.ListComp elt [⟨tg,iter,ifs,0⟩] scope pos) 0 it f env) R s:=by
 refine codeAny_loop rfl I (fun n s o=>?_) n h;show El _ A ((compTurn (.ListComp elt [⟨tg,iter,ifs,0⟩] scope pos) 0 it f env).onRaise (fun x=>do noteFrame x env;theTreesLotGoes x)) _ _ s;refine wpAny_noted ?_;rw[compTurn_list];refine Q4<|wpAny_standAt<|Q4<|Yg (turn n s o) (fun r s₁ d=>?_) fun _ _ b=>b.elim;cases r with
 |none=>exact Q7 d
 |some v =>
  refine Q4<|Yg d (fun _ s₂ g=>?_) fun _ _ b=>b.elim;refine Q4<|Yg g (fun _ s₃ i=>Q4<|Yg i (fun ok s₄ e=>?_) fun _ _ b=>b.elim) fun _ _ b=>b.elim;cases ok with
  |false=>exact Q7 ⟨rfl,e⟩
  |true =>
   exact Q4<|Q4<|Yg e (fun x s₅ j=>Q4<|Yg j (fun _ s₆ l=>Q7<|Q7 ⟨rfl,l⟩) fun _ _ b=>b.elim) fun _ _ b=>b.elim
theorem Sb {i:Dd}{C:Ej}(O:v5 sc N N' src scope)(j:X.env.scope=sc)(I:Inv X Do σ H s)(g:∀b∈i,XH X Do H b)
  (w:∀b∈i,∃o,s.heap.get? b=some o) (n:s.heap.objs.size<=C):(X.comp N' scope C s H i).Ok:=by
 have v:∀x,((Mp scope (qL X.env scope) C X.env).kindOf x=some .cell\/(Mp scope (qL X.env scope) C X.env).kindOf x=some .free)->(x,NameKind.free)∈scope.names:=fun x h=>by
  have h:(Mp scope (qL X.env scope) C X.env).scope.names.lookup x=some .cell\/(Mp scope (qL X.env scope) C X.env).scope.names.lookup x=some .free:=h;rw[Xt]at h;cases q:scope.names.lookup x with
  |none=>rw[q]at h;rcases h with h|h<;>cases h
  |some k =>
   have f:=Y8 q;rw[q]at h;cases k with
   |free=>exact f
   |cell=>exact absurd rfl<|O.qz _ f
   |_ =>
    exfalso
    rcases h with h|h<;>(have l:=Option.some.inj h;unfold HM at l;simp at l)
 refine⟨I.ok.mod,O.kind,I.ok.glob,I.ok.blt,n,fun x y c r t=>I.ok.inj x y c (j4 r)<|j4 t,fun x h=>?_,fun x c h=>(by cases h),I.ok.hd,I.ok.frames,.inl rfl,fun b d=>?_,I.bs,ZL I.ok.oY I.sz,fun b o e d=>?_,fun b d z=>?_,I.stack,I.tU⟩
 ·have f:=v x h;have p:=O.free _ f rfl;rw[←j]at p;obtain⟨c,u⟩:=I.ok.has x p;exact⟨c,M6 u f⟩
 ·refine⟨?_,fun x c h=>(g b d).2.2.2.2.1 x c<|j4 h⟩;obtain⟨o,e⟩:=w b d;exact Zu<|ZC (Zl e) n
 ·rcases(g b d).2.2.2.1 with z|z
  ·exact I.ok.qj b o e z
  ·exact absurd (ZC (ZC (Zl e) I.ok.oY) z) (YC _)
 ·rcases Zh.mp (I.tM b z) with e|e
  ·exact(g b d).2.1 e
  ·exact(g b d).2.2.1 e
theorem O6 {A:Dd}{C:Ej}{h':EB}{R:Nat}(O:v5 sc N N' src scope)(n:X.env.scope=sc)(F:X.N=N)(I:Inv X Do σ H s)(G:∀b∈A,XH X Do H b)
  (K:∀b∈A,∃o,s.heap.get? b=some o) (B:s.heap.objs.size<=C) (k:∀b o,s.heap.get? b=some o->h'.get? b=some o) {P:Str->Dc} (J:h'.Ns C P) :
  Inv (X.comp N' scope C s H A) [] (UE src σ) H { s with heap:=h',toks:=R }:=by
 have cells:∀x c,X.env.cells.lookup x=some c->∀v,s.heap.IsCell c v->h'.IsCell c v:=fun x c _ v ⟨o,e,d⟩=>⟨o,k c o e,d⟩;refine⟨Sb O n I G K B,rfl,I.bare,Un.kept k,⟨_,J,fun j x v y f S=>?_⟩,fun x c e=>?_,I.hok.fresh B,fun x c e=>I.wQ x c<|j4 e,fun p L=>(by cases L),I.hok.kept k,?_⟩
 ·have f:(UE src σ)[j]?=some (some v):=f;have y:N'[j]?=some x:=y;unfold UE at f;rw[Zj]at f;cases q:src[j]? with
  |none=>rw[q]at f;cases f
  |some o =>
   rw[q]at f;have f:(o.bind fun i=>(σ[i]?).join)=some v:=Option.some.inj f;cases o with
   |none=>cases f
   |some i =>
    have f:(σ[i]?).join=some v:=f;obtain⟨U,l⟩:=O.at q y;have D:=Y8 l;have E:σ[i]?=some (some v):=by
     cases r:σ[i]? with
     |none=>rw[r]at f;cases f
     |some w=>rw[r]at f;cases w with
      |none=>cases f
      |some w'=>have:w'=v:=Option.some.inj f;rw[this]
    have h:=O.free _ D rfl;rw[←n]at h;obtain⟨m,T,hl⟩:=I.loc;obtain⟨u,Q,M⟩:=hl i x v (by rwa[F]) E<|.inr h;refine⟨u,Q,.inr ?_⟩;obtain⟨c,t,g⟩:∃c,X.env.cells.lookup x=some c/\s.heap.IsCell c (some u):=by
     rcases M with⟨z,_⟩|⟨_,c,t,hz⟩
     ·exfalso;have z:X.env.scope.names.lookup x=some .local:=z
      rcases h with h|h<;>(rw[h]at z;cases z)
     ·exact⟨c,t,hz⟩
    refine⟨?_,c,M6 t D,cells x c t _ g⟩;show(Mp scope (qL X.env scope) C X.env).scope.names.lookup x=some .cell\/(Mp scope (qL X.env scope) C X.env).scope.names.lookup x=some .free;rw[Xt,l];show some (HM X.env x .free)=some .cell\/some (HM X.env x .free)=some .free;unfold HM
    split
    ·exact .inl rfl
    ·exact .inr rfl
 ·obtain⟨v,z⟩:=I.cell x c<|j4 e;exact⟨v,cells x c (j4 e) v z⟩
 ·show(UE src σ).length=N'.length;unfold UE;rw[Q5];exact O.len
theorem Gh {Do:De}{σ:St}{H:Hp}{s:Em}{f:Dd}{it:Ej}{tn:Nat->EB->Prop}{J:It}{E:Ei->Dh}{RR:Ei->Ej->Result->Dh}{Fin:Dj->Hp->Prop}(O:v5 sc N N' src scope)(bi:X.env.scope=sc)(hN:X.N=N)(D3:X.calm=true)
  (hg:∀C s H f,PG (X.comp N' scope C s H f) tg g) (bd:∀C s H f,oK (X.comp N' scope C s H f) ifs tf) (he:∀C s H f,PE (X.comp N' scope C s H f) elt te)
  (I:Inv X Do σ H s) (T:Turn X.prog X.w X.K tg J f it tn) (t0:tn 0 s.heap) (hf:∀b∈f,XH X Do H b)
  (W:Nat->Nat->Dj->St->Hp->Prop) (m0:Nat) (w0:W 0 m0 [] (UE src σ) H)
  (hW:∀i m ys σ' H',W i m ys σ' H'->ys.length<=sizeLine/\((J.stop i H'/\Fin ys H') \/ (J.go i H'/\∃Nx:Dj->St->Hp->Prop,(∀ys2 σ2 H2,Nx ys2 σ2 H2->∃m',m'<m/\W (i+1) m' ys2 σ2 H2) /\ ∀x H2,J.oZ i H' x H2->g x σ' H2 fun σ2 H3=>tf σ2 H3 fun b H4=>if b=true then te σ2 H4 fun y H5=>Nx (ys++[y]) σ2 H5 else Nx ys σ2 H4)))
  (a9:∀(D C:Ej) (s':Em) (σ':St) (H':Hp) (ys:Dj) (its:Db) (n:Nat),s.heap.objs.size<=D->s.heap.objs.size<=C->Inv (X.comp N' scope C s H f) [] σ' H' s'->s'.heap.get? D=some { cls:=.type "list",data:=.seq its.toArray n }->yr ys its->ys.length<=sizeLine -> H' D=none->D≠C->Fin ys H'->RR (.ref D) C (.ok .next) s') :
  El (Ep X.prog X.w) X.A (newList []) (fun acc s₃=>El (Ep X.prog X.w) X.A (newFunctionEnv scope X.env.globals (qL X.env scope) [] X.env.qual none .none<|some X.env) (fun cenv s₄ => L1 (Ep X.prog X.w) X.A (.compStart (.ListComp elt [⟨tg,iter,ifs,0⟩] scope pos) 0 (.ref it) acc { cenv with scope:=relabel scope X.env }) (RR acc cenv.locals) s₄) E s₃) E s:=by
 refine Yb (wpAny_newFunctionEnv O.qz (by intro y hy;cases hy) (fun G l j=>?_) O.kind);dsimp only at l j ⊢;generalize ai:s.heap.push { cls:=.type "list",dict:=none,data:=.seq ([]:Db).toArray }=P2 at l j ⊢;have ab:P2.objs.size=s.heap.objs.size+1:=by rw[←ai,YL]
 have M:s.heap.objs.size≠P2.objs.size:=by rw[ab];exact Zu<|Jq _
 have bm:s.heap.objs.size<=P2.objs.size:=by rw[ab];exact Jg _
 have below:∀b,b<s.heap.objs.size->b≠P2.objs.size/\b≠s.heap.objs.size:=fun b h=>⟨by rw[ab];exact Zu<|Y3 h,Zu h⟩;have old:∀b o,s.heap.get? b=some o->G.get? b=some o:=fun b o e=>j.extBut b o (below b<|Zl e).1<|Q8 _<|ai▸Q8 _ e;have Eh:G.get? s.heap.objs.size=some { cls:=.type "list",data:=.seq ([]:Db).toArray 0 }:=j.extBut _ _ M<|Q8 _<|ai▸Zk _ rfl;have ap:∀b∈f,∃o,s.heap.get? b=some o:=fun b h=>let ⟨o,e,_⟩:=T.obj 0 _ t0 b h;⟨o,e⟩;have L:∀b∈f,b<s.heap.objs.size:=fun b h=>let ⟨o,e⟩:=ap b h;Zl e;generalize hD:s.heap.objs.size=D at *;generalize hC:P2.objs.size=C at *;have a1:∀tk,Inv (X.comp N' scope C s H f) [] (UE src σ) H { s with heap:=G,toks:=tk }:=fun tk=>O6 O bi hN I hf ap (by rwa[hD]) old l;have qi:(X.comp N' scope C s H f).Ok:=(a1 0).ok;have P:∀{H':Hp} {pl:De},(∀b∈f,H' b=none)->(∀p∈pl,p.1∉f)->∀b∈f,XH (X.comp N' scope C s H f) pl H' b:=fun{H' pl} hn q b h =>
  ⟨hn b h,(qi.mC b h).1,qi.qu b h,.inl h,(qi.mC b h).2,fun p hm=>by
   have hm:p∈pl:=by simpa[Cx.comp] using hm
   exact fun z=>q p hm<|z▸h⟩
 have an:D∉(X.comp N' scope C s H f).fs:=fun h=>by
  obtain⟨_,o,ho,_⟩:=qi.uz.mem h;have ho:s.heap.get? D=some o:=ho;have h1:=Zl ho;rw[hD]at h1;exact YC _ h1
 have U:∀x c,(X.comp N' scope C s H f).env.cells.lookup x=some c->c≠D:=fun x c e z=>by
  obtain⟨v,o,ho,_⟩:=I.cell x c<|j4 e;have h1:=Zl ho;rw[hD,z]at h1;exact YC _ h1
 have loop:∀tk,L1 (Ep X.prog X.w) X.A (.compLoop (.ListComp elt [⟨tg,iter,ifs,0⟩] scope pos) 0 (.ref it) (.ref D)<|Mp scope (qL X.env scope) C X.env) (RR (.ref D) C) { s with heap:=G,toks:=tk }:=by
  intro tk;refine PY (fun n s'=>∃i ys σ' H' its c,Inv (X.comp N' scope C s H f) [] σ' H' s'/\tn i s'.heap/\(∀b∈f,H' b=none)/\s'.heap.get? D=some { cls:=.type "list",data:=.seq (its:Db).toArray c }/\yr ys its/\H' D=none/\W i n ys σ' H') ?_ m0
   ⟨0,[],UE src σ,H,[],0,a1 tk,T.keep 0 _ _ t0 fun b _ o e=>old b o e,fun b h=>(hf b h).1,Eh,.nil,I.hok.fresh (by rw[hD];exact Zd _),w0⟩
  rintro n s3 ⟨i,ys,B,H3,its,F,I3,a3,as,d3,v3,ay,w3⟩;obtain⟨Dp,a7⟩:=hW i n ys B H3 w3
  rcases a7 with⟨stop,fin⟩|⟨go,Nx,hNx,step⟩
  ·have Y:Inv (X.comp N' scope C s H f) [(D,{ cls:=.type "list",data:=.seq its.toArray F })] B H3 s3:=I3.vW fun p q=>by
    have e:p=(D,{ cls:=.type "list",data:=.seq its.toArray F }):=by simpa using q
    subst e;exact⟨d3,ay,M,an,fun v z=>by cases z⟩
   refine Cf (T.done (X.comp N' scope C s H f) rfl rfl rfl D3 i _ s3 B H3 _ Y (P as fun p q z=>by
    have e:p=(D,{ cls:=.type "list",data:=.seq its.toArray F }):=by simpa using q
    rw[e]at z;exact YC _<|L D z) a3 stop) fun r s4 ⟨hr,I4⟩=>?_
   subst hr;obtain⟨d4,bj,_⟩:=I4.pin (D,{ cls:=.type "list",data:=.seq its.toArray F }) (by simp[Cx.comp]);exact a9 D C s4 B H3 ys its F (by lia) (by lia) (I4.vW fun p q=>(by cases q)) d4 v3 Dp bj M fin
  ·have Y:Inv (X.comp N' scope C s H f) [(D,{ cls:=.type "list",data:=.seq its.toArray F })] B H3 s3:=I3.vW fun p q=>by
    have e:p=(D,{ cls:=.type "list",data:=.seq its.toArray F }):=by simpa using q
    subst e;exact⟨d3,ay,M,an,fun v z=>by cases z⟩
   have ax:∀p∈[((D,{ cls:=.type "list",data:=.seq its.toArray F }):Ej×Obj)],p.1∉f:=fun p q z=>by
    have e:p=(D,{ cls:=.type "list",data:=.seq its.toArray F }):=by simpa using q
    rw[e]at z;exact YC _<|L D z
   refine Cf (T.item (X.comp N' scope C s H f) rfl rfl rfl D3 i _ s3 B H3 _ Y (P as ax) a3 go) fun r s4 ⟨u,hr,h4⟩=>?_;subst hr;refine Cf h4 fun _ s5 ⟨x,H5,I5,r5,y5,al,a8⟩=>?_;have a5:=I5.pinned (P a8 ax)<|T.obj _ _ al;have S:(D,({ cls:=.type "list",data:=.seq its.toArray F }:Obj))∈(X.comp N' scope C s H f).pn++([((D,{ cls:=.type "list",data:=.seq its.toArray F }):Ej×Obj)]++U7 f s5.heap):=by simp[Cx.comp]
   have R:∀{a4:St} {Q:Hp} {s7:Em},Inv (X.comp N' scope C s H f) ([((D,{ cls:=.type "list",data:=.seq its.toArray F }):Ej×Obj)]++U7 f s5.heap) a4 Q s7 ->
     tn (i+1) s7.heap/\∀b∈f,Q b=none:=fun{a4 Q s7} Z=>⟨T.keep _ _ _ al fun b h o e=>(Z.pin (b,o)<|ZA _<|ZA _<|jO h e).1,fun b h=>by
    obtain⟨o,e,d⟩:=T.obj _ _ al b h;exact(Z.pin (b,o)<|ZA _<|ZA _<|jO h e).2.1⟩
   refine Cf (hg C s H f _ s5 B H5 x u _ a5 r5<|step x H5 y5) fun _ s6 ⟨t,H6,I6,q6⟩=>?_;refine Cf (bd C s H f _ s6 t H6 _ I6 q6) fun b s7 ⟨Q,Z,q7⟩=>?_;cases b with
   |false =>
    obtain⟨m',aj,w7⟩:=hNx ys t Q (by simpa using q7);obtain⟨b1,b2⟩:=R Z;obtain⟨d7,bl,_⟩:=Z.pin _ S;exact⟨m',aj,i+1,ys,t,Q,its,F,Z.vW fun p q=>(by cases q),b1,b2,d7,v3,bl,w7⟩
   |true =>
    have q7:te t Q fun y H5=>Nx (ys++[y]) t H5:=by simpa using q7
    rw[Zt rfl];refine Cf (he C s H f _ s7 t Q _ Z q7) fun u8 s8 ⟨y,H8,I8,r8,n8⟩=>?_;obtain⟨m',aj,w8⟩:=hNx _ _ _ n8;obtain⟨b1,b2⟩:=R I8;obtain⟨d8,a0,_⟩:=I8.pin _ S;have hl:=v3.length;refine wpAny_list_append_plain (items:=its.toArray) ⟨F,d8⟩ (fun h9 ⟨c9,d9⟩ a2=>?_) (by rwa[Zp,←hl]);have a6:Inv (X.comp N' scope C s H f) [] t H8 s8:=I8.vW fun p q=>by cases q
    have I9:Inv (X.comp N' scope C s H f) [] t H8 { s8 with heap:=h9 }:=a6.turned (t':=s8.toks) (it:=D) (fun b o h e=>(a2.2 b h).trans e) a0 M (.inr (by show s.heap.objs.size<=D;lia)) U (fun p q=>by
     have q:p∈([]:De):=by simpa[Cx.comp] using q
     cases q)
    refine⟨m',aj,i+1,ys++[y],t,H8,its++[u8],c9,I9,T.keep _ _ _ b1 fun b h o e=>(a2.2 b<|fun z=>YC _<|z▸L b h).trans e,b2,?_,v3.append<|.cons r8 .nil,a0,w8⟩;show h9.get? D=_;rw[d9];simp
 exact codeAny_compStart_list (loop _)<|T.self _ 0 _ _ _ (T.keep 0 _ _ t0 fun b _ o e=>old b o e)<|loop _
theorem comp_back {f:St}{H':Hp}{e:Em}{c:Dd}{C D:Ej}{ys:Dj}{its:Db}{n:Nat}(I:Inv X Do σ H s)(o:∀b∈c,XH X Do H b)
  (J:Inv (X.comp N' scope C s H c) [] f H' e) (g:s.heap.objs.size<=D) (d:e.heap.get? D=some { cls:=.type "list",data:=.seq its.toArray n }) (v:yr ys its) (hl:ys.length<=sizeLine) (p:H' D=none) :
  Inv X Do σ (upd H' D<|.lst ys) e:=by
 have u:Un (frs X.stack) c H H' s.heap e.heap:=J.base;refine I.call' (ch:=c) J.os (u.adopt (VZ g)<|I.hok.fresh g) (J.hok.adopt p ⟨hl,its,n,v,d⟩) J.bare fun b l=>?_;obtain⟨_,h,_,i,j,f5⟩:=o b l;exact⟨i,h,j,f5⟩
theorem Bv {C:Ej}{h':EB}(I:Inv X Do σ H s)(d:Inv X Do σ2 H2 s2)(i:s.heap.objs.size<=C)(c:H2 C=none)(l:ES C s2.heap h'):Inv X Do σ2 H2 { s2 with heap:=h' }:=by
 obtain⟨_,f,_,g,h,f5⟩:=I.tL (H':=H2) i c;exact d.turned (t':=s2.toks) (it:=C) (fun b o j e=>(l.2 b j).trans e) c f g h f5
theorem xN (O:v5 sc N N' src scope)(c:X.env.scope=sc)(R:X.N=N)(F:X.calm=true)(Y:PI X tg iter wi)
  (U:∀C s H fp,PG (X.comp N' scope C s H fp) tg g) (r:∀C s H fp,oK (X.comp N' scope C s H fp) ifs tf) (S:∀C s H fp,PE (X.comp N' scope C s H fp) elt te)
  (hs:∀x,foldedSetIterable iter X.env x=Lo x:=by intro _;rfl):PE X (.ListComp elt [⟨tg,iter,ifs,0⟩] scope pos) (TL src wi g tf te):=by
 intro u s E H Q I h;rw[eval_ListComp];have b:MB scope X.env=Lo (qL X.env scope):=kI fun x hx Z=>I.ok.has x.1 (by
  have:=O.free x hx Z;rw[←c]at this;exact this)
 refine wpAny_comprehension_free (use:=none) rfl hs b O.kind O.names<|Cf (Y u s E H _ I h) fun v s1 K=>Cf K fun ai s2 L=>?_;obtain⟨it,fp,tn,J,H2,e,i,T,t,y,W,⟨m0,w0⟩,turn⟩:=L;subst e;refine Gh (RR:=fun l C=>compPost (Ep X.prog X.w) X.A X.xe none (EP X u E Q) l C) (Fin:=fun B f=>∀p,f p=none->Q (.ref p) (upd f p<|.lst B)) O c R F U r S i T t y W m0 w0 turn ?_;intro D C s' aj f B ab n P M j d vv hl z q o;have G:=comp_back i y j P d vv hl z;obtain⟨m,hm,_⟩:=j.loc;have nC:f C=none:=j.free;refine⟨m,hm,fun h' sb=>⟨.ref D,_,Bv i G M (by rwa[zG<|EK q]) sb,rfl,o D z⟩⟩
theorem vN {k:Nat}{y:Str}{i c:Pos}(O:v5 sc N N' src scope)(q:X.env.scope=sc)(hN:X.N=N)(D3:X.calm=true)(hi:PI X tg iter wi)
  (hg:∀C s H fp,PG (X.comp N' scope C s H fp) tg g) (K:∀C s H fp,oK (X.comp N' scope C s H fp) ifs tf) (he:∀C s H fp,PE (X.comp N' scope C s H fp) elt te)
  (nd:X.N.Nodup) (L:X.N[k]?=some y) (P:Loc X.env.scope y)
  (M:Mz (.ListComp elt [⟨tg,iter,ifs,0⟩] scope pos) (some<|.Name y i) c.line X.env=Lo true:=by rfl)
  (hf:X.fn y=true\/X.env.scope.names.lookup y=some .local:=by first|exact .inl rfl|exact .inr rfl|assumption)
  (hs:∀x,foldedSetIterable iter X.env x=Lo x:=by intro _;rfl):PS X (.Assign [.Name y i] (.ListComp elt [⟨tg,iter,ifs,0⟩] scope pos) c) (Tb (TL src wi g tf te)<|IV k):=by
 intro t s Z H b I h;rw[exec_Assign_Name_used _ _ _ _ M];refine Q4<|wpAny_standAt<|Q4 ?_;show El _ X.A (do let _ ←comprehension (.ListComp elt [⟨tg,iter,ifs,0⟩] scope pos) scope X.env _ (newList []) false (E8 iter X.env) (some<|assign (.Name y i) X.env)) _ _ s;have f:MB scope X.env=Lo (qL X.env scope):=kI fun x P L=>I.ok.has x.1 (by
  have:=O.free x P L;rw[←q]at this;exact this)
 refine Q4<|Yg (wpAny_comprehension_free (use:=some<|assign (.Name y i) X.env) (Q:=fun _ j=>SP X t b .next j) rfl hs f O.kind O.names<|Cf (hi t s Z H _ I h) fun v s1 h1=>Cf h1 fun ai s2 h2=>?_) (fun _ j hq=>Q7<|Q7 hq) fun _ _ e=>e
 obtain⟨it,fp,tn,J,H2,e,l,T,R,S,W,⟨m0,w0⟩,turn⟩:=h2;subst e;refine Gh (RR:=fun B C=>compPost (Ep X.prog X.w) X.A X.xe (some<|assign (.Name y i) X.env) (fun _ j=>SP X t b .next j) B C) (Fin:=fun Y r=>∀p,r p=none->IV k (.ref p) Z (upd r p<|.lst Y) b.nx) O q hN D3 hg K he l T R S W m0 w0 turn ?_;intro D C j aj r Y ab n hD F u d vv hl U G E;have I3:=comp_back l S u hD d vv hl U;obtain⟨m,hm,_⟩:=u.loc;have nC:r C=none:=u.free;show El _ X.A (assign (.Name y i) X.env<|.ref D) _ _ j;refine wpAny_assign_Name<|GV I3 nd L P (v:=.ref D) rfl (fun s4 I4 ⟨a,sa,ha⟩=>?_) hf;have aC:C≠a:=by
  rcases ha with e|e
  ·rw[e];intro z;exact YC _<|ZC l.lt<|z▸F
  ·intro z;obtain⟨v,o,ho,_⟩:=l.cell y a e;exact YC _<|ZC (Zl ho)<|z▸F
 refine⟨m,Heap.Ns.sameBut hm sa aC,fun h' sb=>⟨_,_,Bv l I4 F (by rwa[zG<|EK G]) sb,E D U⟩⟩
end
def cC (t u:TS):TS:=fun D d H=>∃R:St->Hp->Prop,t { D with nx:=R } d H/\∀b c,R b c->u D b c
theorem vF {st:EW}{b:List EW}(i:PS X st t)(j:tG X b u):tG X (st::b) (cC t u):=by
 intro d s o H D I ⟨R,h,l⟩;refine wpAny_execs_cons<|Cf (i d s o H { D with nx:=R } I h) fun f n q=>?_;cases f with
 |next =>
  obtain⟨c,e,g,q⟩:=q;exact j d n c e D g<|l c e q
 |ret v=>exact q
 |brk=>exact q
 |cont=>exact q
section
variable {K:Ca}{src:List (Option Nat)}{g:TG}{tf:TT}{te:TE}{Q:VK}{a:Ej}{xs:Dj}{σ:St}{H:Hp}
theorem Iy {J:It}(n:Nat)(d:Nat->Dj->St->Hp->Prop)(o:d 0 [] (UE src σ) H)(hz:n<=sizeLine)(hl:∀i ys σ H,i<=n->d i ys σ H->ys.length<=i)
  (l:∀ys σ H,d n ys σ H->J.stop n H) (j:∀i ys σ H,i<n->d i ys σ H->J.go i H)
  (hs:∀i ys σ H,i<n->d i ys σ H->∀x H2,J.oZ i H x H2->g x σ H2 fun σ2 H3=>tf σ2 H3 fun b H4=>if b=true then te σ2 H4 fun y H5=>d (i+1) (ys++[y]) σ2 H5 else d (i+1) ys σ2 H4)
  (hd:∀ys σ H,d n ys σ H->∀p,H p=none->Q (.ref p) (upd H p<|.lst ys)):UW src J g tf te Q σ H:=by
 refine⟨fun i m ys σ H=>m=n-i/\i<=n/\d i ys σ H,⟨n,by simp,ZD _,o⟩,?_⟩;rintro i m ys c h ⟨rfl,q,p⟩;have s:=hl i ys c h q p;refine⟨by lia,?_⟩
 by_cases f:i<n
 ·exact .inr ⟨j i ys c h f p,d<|i+1,fun r σ2 H2 z=>⟨n-(i+1),by lia,rfl,f,z⟩,fun x H2 y=>hs i ys c h f p x H2 y⟩
 ·have e:i=n:=by lia
  subst e;exact .inl ⟨l ys c h p,hd ys c h p⟩
theorem Oc (c:Nat->Dj->St->Hp->Prop)(f:c 0 [] (UE src σ) H)(hz:xs.length<=sizeLine)(hl:∀i ys σ H,i<=xs.length->c i ys σ H->yx K H a xs/\ys.length<=i)
  (hs:∀i x ys σ H,xs[i]?=some x->c i ys σ H->g x σ H fun σ2 H3=>tf σ2 H3 fun b H4=>if b=true then te σ2 H4 fun y H5=>c (i+1) (ys++[y]) σ2 H5 else c (i+1) ys σ2 H4)
  (hd:∀ys σ H,c xs.length ys σ H->∀p,H p=none->Q (.ref p) (upd H p<|.lst ys)):UW src (TQ K a) g tf te Q σ H :=
 Iy xs.length c f hz (fun i ys σ H d p=>(hl i ys σ H d p).2) (fun ys σ H p=>⟨xs,(hl _ ys σ H (Zd _) p).1,Zd _⟩) (fun i ys σ H d p=>⟨xs,xs[i],(hl i ys σ H (Yu d) p).1,by simp[d]⟩)
  (fun i ys σ H d p x h y=>by
   obtain⟨e,y⟩:=y;subst e;exact hs i x ys σ _ (y xs (hl i ys σ _ (Yu d) p).1) p) hd
theorem FH (c:Nat->Dj->St->Hp->Prop)(f:c 0 [] (UE src σ) H)(hz:xs.length<=sizeLine)(hl:∀i ys σ H,i<=xs.length->c i ys σ H->xg K H a xs/\ys.length<=i)
  (hs:∀i x ys σ H,xs[i]?=some x->c i ys σ H->g x σ H fun σ2 H3=>tf σ2 H3 fun b H4=>if b=true then te σ2 H4 fun y H5=>c (i+1) (ys++[y]) σ2 H5 else c (i+1) ys σ2 H4)
  (hd:∀ys σ H,c xs.length ys σ H->∀p,H p=none->Q (.ref p) (upd H p<|.lst ys)):UW src (TR K a) g tf te Q σ H :=
 Iy xs.length c f hz (fun i ys σ H d p=>(hl i ys σ H d p).2) (fun ys σ H p=>⟨xs,(hl _ ys σ H (Zd _) p).1,Zd _⟩) (fun i ys σ H d p=>⟨xs,xs[i],(hl i ys σ H (Yu d) p).1,by simp[d]⟩)
  (fun i ys σ H d p x h y=>by
   obtain⟨e,y⟩:=y;subst e;exact hs i x ys σ _ (y xs (hl i ys σ _ (Yu d) p).1) p) hd
theorem Kv {lo:Int}{n:Nat}(c:Nat->Dj->St->Hp->Prop)(f:c 0 [] (UE src σ) H)(hz:n<=sizeLine)(hl:∀i ys σ H,i<=n->c i ys σ H->ys.length<=i)
  (hs:∀i ys σ H,i<n->c i ys σ H->g (.int<|lo+i) σ H fun σ2 H3=>tf σ2 H3 fun b H4=>if b=true then te σ2 H4 fun y H5=>c (i+1) (ys++[y]) σ2 H5 else c (i+1) ys σ2 H4)
  (hd:∀ys σ H,c n ys σ H->∀p,H p=none->Q (.ref p) (upd H p<|.lst ys)):UW src (RZ lo n) g tf te Q σ H :=
 Iy n c f hz hl (fun _ _ _ _=>Zd _) (fun _ _ _ _ d _=>d)
  (fun i ys σ H d p x h y=>by
   obtain⟨e,y⟩:=y;subst e y;exact hs i ys σ _ d p) hd
theorem Gk {te:TE}{A:V->St->Hp->Prop}{B:St->Hp->Prop}:(fun σ2 H3=>Ig σ2 H3 fun b H4=>if b=true then te σ2 H4 (fun y H5=>A y σ2 H5) else B σ2 H4)=fun(σ2:St) (H3:Hp)=>te σ2 H3 fun y H5=>A y σ2 H5:=by
 funext σ2 H3
 show(if true=true then(te σ2 H3 fun y H5=>A y σ2 H5) else B σ2 H3)=_;rw[Zt rfl]
theorem xK (b:Nat->Dj->St->Hp->Prop)(c:b 0 [] (UE src σ) H)(hz:xs.length<=sizeLine)(hl:∀i ys σ H,i<=xs.length->b i ys σ H->yx K H a xs/\ys.length<=i)
  (hs:∀i x ys σ H,xs[i]?=some x->b i ys σ H->g x σ H fun σ2 H3=>te σ2 H3 fun y H5=>b (i+1) (ys++[y]) σ2 H5)
  (hd:∀ys σ H,b xs.length ys σ H->∀p,H p=none->Q (.ref p) (upd H p<|.lst ys)):UW src (TQ K a) g Ig te Q σ H :=
 Oc b c hz hl (fun i x ys σ H e p=>by rw[Gk];exact hs i x ys σ H e p) hd
theorem jH (b:Nat->Dj->St->Hp->Prop)(c:b 0 [] (UE src σ) H)(hz:xs.length<=sizeLine)(hl:∀i ys σ H,i<=xs.length->b i ys σ H->xg K H a xs/\ys.length<=i)
  (hs:∀i x ys σ H,xs[i]?=some x->b i ys σ H->g x σ H fun σ2 H3=>te σ2 H3 fun y H5=>b (i+1) (ys++[y]) σ2 H5)
  (hd:∀ys σ H,b xs.length ys σ H->∀p,H p=none->Q (.ref p) (upd H p<|.lst ys)):UW src (TR K a) g Ig te Q σ H :=
 FH b c hz hl (fun i x ys σ H e p=>by rw[Gk];exact hs i x ys σ H e p) hd
theorem XA {lo:Int}{n:Nat}(b:Nat->Dj->St->Hp->Prop)(c:b 0 [] (UE src σ) H)(hz:n<=sizeLine)(hl:∀i ys σ H,i<=n->b i ys σ H->ys.length<=i)
  (hs:∀i ys σ H,i<n->b i ys σ H->g (.int<|lo+i) σ H fun σ2 H3=>te σ2 H3 fun y H5=>b (i+1) (ys++[y]) σ2 H5)
  (hd:∀ys σ H,b n ys σ H->∀p,H p=none->Q (.ref p) (upd H p<|.lst ys)):UW src (RZ lo n) g Ig te Q σ H :=
 Kv b c hz hl (fun i ys σ H e p=>by rw[Gk];exact hs i ys σ H e p) hd
end
mutual
def Dt (K:Ca)(H:Hp):Er->V->Prop
 | .none,v=>v=.non
 | .bool b,v=>v=.bl b
 | .int i,v=>v=.int i
 | .str x,v=>v=.str x
 | .list ds,v=>∃a c,v=.ref a/\yx K H a c/\zy K H ds c
 | .tuple ds,v=>∃a c,v=.ref a/\xg K H a c/\zy K H ds c
 | .dict _,_=>False
def zy (K:Ca)(H:Hp):Df->Dj->Prop
 |[],xs=>xs=[]
 |d::ds,xs=>∃x r,xs=x::r/\Dt K H d x/\zy K H ds r
end
theorem zx.yd {K:Ca}(e:zx H H')(h:xg K H a xs):xg K H' a xs:=by
 rcases h with(h|⟨o,h⟩)|h
 ·exact .inl (.inl<|e _ _ h)
 ·exact .inl (.inr ⟨o,e _ _ h⟩)
 ·exact .inr h
mutual
theorem Dt.same {K:Ca}(e:zx H H'):∀(d:Er) (v:V),Dt K H d v->Dt K H' d v
 | .none,_,h=>h
 | .bool _,_,h=>h
 | .int _,_,h=>h
 | .str _,_,h=>h
 | .list ds,_,⟨a,xs,h1,h2,h3⟩=>⟨a,xs,h1,e.seq h2,zy.same e ds xs h3⟩
 | .tuple ds,_,⟨a,xs,h1,h2,h3⟩=>⟨a,xs,h1,e.yd h2,zy.same e ds xs h3⟩
 | .dict _,_,h=>h
theorem zy.same {K:Ca}(e:zx H H'):∀(ds:Df) (xs:Dj),zy K H ds xs->zy K H' ds xs
 |[],_,h=>h
 |d::ds,_,⟨x,r,h1,h2,h3⟩=>⟨x,r,h1,Dt.same e d x h2,zy.same e ds r h3⟩
end
theorem zy.length {K:Ca}:∀{ds:Df} {xs:Dj},zy K H ds xs->xs.length=ds.length
 |[],_,h=>by cases(show _=[] from h);rfl
 |d::ds,_,⟨x,r,h1,h2,h3⟩=>by rw[h1,Zn,Zn,zy.length h3]
theorem zy.append {K:Ca}:∀{ds es:Df} {xs ys:Dj},zy K H ds xs->zy K H es ys->zy K H (ds++es) (xs++ys)
 |[],_,_,_,h,h'=>by cases(show _=[] from h);exact h'
 |d::ds,_,_,_,⟨x,r,h1,h2,h3⟩,h'=>⟨x,r++_,by rw[h1];rfl,h2,zy.append h3 h'⟩
theorem zy.get {K:Ca}:∀{ds:Df} {xs:Dj} {i:Nat} {x:V},zy K H ds xs->xs[i]?=some x->∃d,ds[i]?=some d/\Dt K H d x
 |[],_,_,_,h,e=>by cases(show _=[] from h);simp at e
 |d::ds,_,0,_,⟨x,r,h1,h2,h3⟩,e=>by rw[h1]at e;simp at e;subst e;exact⟨d,rfl,h2⟩
 |d::ds,_,i+1,_,⟨x,r,h1,h2,h3⟩,e=>by
  rw[h1]at e;obtain⟨b,c,f⟩:=zy.get (i:=i) h3 (by simpa using e);exact⟨b,by simpa using c,f⟩
theorem zy.strs {K:Ca}:∀(ls:Da),zy K H (ls.map Lv) (ls.map V.str)
 |[]=>rfl
 |x::ls=>⟨.str x,ls.map V.str,rfl,rfl,zy.strs ls⟩
theorem zy.ur {K:Ca}:∀{ls:Da} {xs:Dj},zy K H (ls.map Lv) xs->xs=ls.map V.str
 |[],_,h=>h
 |x::ls,_,⟨v,r,h1,b,h3⟩=>by
  have b:v=V.str x:=b;rw[h1,b,zy.ur h3];rfl
section
variable {X:Cx}{Do:De}{σ:St}{H:Hp}{s:Em}
mutual
theorem Dt.yw (I:Inv X Do σ H s):∀(d:Er) (v:V) (u:Ei),Dt X.K H d v->yq v u->∃as,Reads s.heap u d as
 | .none,_,u,h,r=>by
  cases(show _=V.non from h);cases(show u=EI from r);exact⟨_,.none⟩
 | .bool b,_,u,h,r=>by
  cases(show _=V.bl b from h);cases(show u=L7 b from r);exact⟨_,.bool b⟩
 | .int i,_,u,h,r=>by
  cases(show _=V.int i from h);obtain⟨t,e⟩:=(show∃t,u=Mx i t from r);cases e;exact⟨_,.int i t⟩
 | .str x,_,u,h,r=>by
  cases(show _=V.str x from h);obtain⟨t,e⟩:=(show∃t,u=Ma x t from r);cases e;exact⟨_,.str x t⟩
 | .list ds,_,u,⟨a,xs,h1,h2,h3⟩,r=>by
  subst h1;cases(show u=Ez a from r);obtain⟨f,g,⟨o,n,e,c,_,d⟩,_⟩:=I.list h2;obtain⟨as,q⟩:=zy.yw I ds xs f h3 g;exact⟨_,.list e c d<|by simpa using q⟩
 | .tuple ds,_,u,⟨a,xs,h1,h2,h3⟩,r=>by
  subst h1;cases(show u=Ez a from r);obtain⟨f,g,⟨o,e,c,n,d⟩,_⟩:=I.tuple h2;obtain⟨as,q⟩:=zy.yw I ds xs f h3 g;exact⟨_,.tuple e c d<|by simpa using q⟩
 | .dict _,_,_,h,_=>EL h
theorem zy.yw (I:Inv X Do σ H s):∀(ds:Df) (xs:Dj) (us:Db),zy X.K H ds xs->yr xs us->∃as,LN s.heap us ds as
 |[],_,us,h,r=>by
  cases(show _=[] from h);cases r;exact⟨_,.nil⟩
 |d::ds,_,us,⟨x,rr,h1,h2,h3⟩,r=>by
  subst h1;cases r with
  |cons r1 r2 =>
   obtain⟨as,b⟩:=Dt.yw I d x _ h2 r1;obtain⟨bs,c⟩:=zy.yw I ds rr _ h3 r2;exact⟨_,.cons b c⟩
end
end
section
variable {X:Cx}
def ci (K:Ca):R2:=fun x y H Q=>∃d e,Dt K H d x/\Dt K H e y/\ER d=true/\ER e=true/\Q (.bl<|EH d e) H
def WG (K:Ca):R2:=fun x y H Q=>∃d e,Dt K H d x/\Dt K H e y/\ER d=true/\ER e=true/\Q (.bl<|!EH d e) H
theorem CW (i:X.A.units+64<Lc):Ct X (EZ .Eq) (ci X.K):=by
 intro p s t H x y v u Q I n o h;obtain⟨d,e,b,c,f,g,q⟩:=h;obtain⟨r,j⟩:=Dt.yw I d x v b n;obtain⟨bs,l⟩:=Dt.yw I e y u c o;exact SeqAt.compareEq_shaped j l f g i ⟨.bl _,H,I,rfl,q⟩
theorem kH (i:X.A.units+64<Lc):Ct X (EZ .NotEq) (WG X.K):=by
 intro p s t H x y v u Q I n o h;obtain⟨d,e,b,c,f,g,q⟩:=h;obtain⟨r,j⟩:=Dt.yw I d x v b n;obtain⟨bs,l⟩:=Dt.yw I e y u c o;exact SeqAt.compareNe_shaped j l f g i ⟨.bl _,H,I,rfl,q⟩
theorem k8:∀{ys:Da} {us:Db},yr (ys.map V.str) us->StrsAre us ys
 |[],us,r=>by rw[Vh]at r;cases r;exact .nil
 |y::ys,us,r=>by
  rw[Zv]at r;cases r with
  |cons r1 r2 =>
   obtain⟨t,e⟩:=r1;subst e;exact .cons y t<|k8 r2
theorem GO:∀{us:Db} {ys:Da},StrsAre us ys->yr (ys.map V.str) us
 |_,_,.nil=>.nil
 |_,_,.cons y t r=>.cons ⟨t,rfl⟩<|GO r
def rJoin (K:Ca):V->Dj->Hp->VK->Prop:=fun x d H Q=>∃b p c,x=.str b/\d=[.ref p]/\(yx K H p (c.map V.str)\/xg K H p (c.map V.str))/\(c.map (·.length)).sum+c.length*b.length<=16777216/\Q (.str<|Lw b c) H
theorem CU:R3 X "str.join" (rJoin X.K):=by
 intro n s z H x w v o Q I i f h;obtain⟨j,p,y,rfl,rfl,b,e,q⟩:=h;obtain⟨t,rfl⟩:=i;obtain⟨u,rfl,g⟩:=wW f;cases g
 rcases b with b|b
 ·obtain⟨c,r,d,_⟩:=I.list b;exact join_list d.isList (by simpa using k8 r) e fun l k=>⟨.str _,H,I.tok _,⟨_,rfl⟩,q⟩
 ·obtain⟨c,r,d,_⟩:=I.tuple b;exact join_tuple d (by simpa using k8 r) e fun l k=>⟨.str _,H,I.tok _,⟨_,rfl⟩,q⟩
theorem Xp {b:Ei}{lo:Option Int}(h:MG b lo):∃o:Option<|Int×Tok,b=partValue o/\lo=o.map (·.1):=by
 cases h with
 |none=>exact⟨none,rfl,rfl⟩
 |int i t=>exact⟨some (i,t),rfl,rfl⟩
def cy:V->Option Int->Option Int->Hp->VK->Prop:=fun x c b H Q=>∃z,x=.str z/\z.length<=sizeLine/\Q (.str<|Txt.slice z c b) H
theorem RJ:Kl X cy:=by
 intro j s A H x v w y o n p Q I i b f g h;obtain⟨z,rfl,c,q⟩:=h;obtain⟨t,rfl⟩:=i;obtain⟨d,rfl,rfl⟩:=Xp f;obtain⟨e,rfl,rfl⟩:=Xp g;refine⟨"str",_,F.slot_str_getitem.lookup,Vc _ _ _,wpAny_getItem_str_slice (l:=d) (u:=e) (st:=none) ?_ rfl<|post_val_or_str ⟨ZL (Txt.slice_le z _ _) c,fun r k=>⟨.str _,H,I.tok _,⟨_,rfl⟩,q⟩⟩⟩;exact b
end
section
variable {X:Cx}{Do:De}{σ:St}{H:Hp}{s:Em}{h':EB}
theorem Inv.rJ {t':Nat}{ch:Dd}(I:Inv X Do σ H s)(g:∀b∈ch,XH X Do H b)(k:∀b o,b∉ch->s.heap.get? b=some o->h'.get? b=some o)(th:∀b∈ch,∃o,h'.get? b=some o):Inv X Do σ H { s with heap:=h',toks:=t' }:=by
 have f:∀b u,H b=some u->b∉ch:=fun b u e z=>by rw[(g b z).1]at e;cases e
 refine I.step (g':=s.gens) (d':=s.drawn) (ch:=ch) (fun b t=>?_) (fun b o _ _ d e _=>k b o d e) (fun b o _ _ d e _=>⟨o.slots,k b o d e⟩) (fun _ _ _ _ n=>n)
  (fun b o d e=>⟨o,k b o d e⟩) (fun _ _ e=>e) (fun _ _ _ e=>e) (fun b y e=>⟨#[],by rw[e];simp⟩) (fun m w=>?_) (fun b u e=>?_) I.bare
 ·obtain⟨_,j,_,l,p,f5⟩:=g b t;exact⟨l,j,p,f5⟩
 ·obtain⟨o,i,h,x,r⟩:=w;exact⟨o,i,h,k _ o (fun z=>(g _ z).2.1 rfl) x,r⟩
 ·refine(I.hok b u e).stay (fun c v d q=>k c v ?_ q) (fun _ q=>q) fun _ _ q=>q
  rcases d with z|z
  ·rw[z];exact f b u e
  ·exact f c _ z
theorem Un.nQ {D:Ej}(u:Un fs ex H H1 h h1)(g:h.get? D=none)(f:H1 D=none):Un fs ex H (upd H1 D o) h h1 where
 keep:=u.keep
 slot:=u.slot
 free:=fun b d q n j=>by
  have i:b≠D:=fun z=>by rw[z,g]at q;cases q
  rw[zG i];exact u.free b d q n j
 there:=u.there
 tups:=fun b c q=>by rw[zG<|zQ (u.tups b c q) f];exact u.tups b c q
 wg:=fun b d c q=>by rw[zG<|zQ (u.wg b d c q) f];exact u.wg b d c q
 vz:=fun b l q=>by
  obtain⟨m,e⟩:=u.vz b l q;exact⟨m,by rw[zG<|zQ e f];exact e⟩
theorem Inv.nH {T:Ej}{o:HO}(I:Inv X Do σ H s)(n:H T=none)(f:X.s₀.heap.objs.size<=T)(g:T≠X.env.locals)(h:∀x c,X.env.cells.lookup x=some c->c≠T)(i:∀p∈X.pn++Do,p.1≠T)
  (new:yp X.prog X.w (upd H T o) s.heap T o):Inv X Do σ (upd H T o) s:=by
 refine⟨I.ok,I.os,I.bare,I.base.nQ (VZ f) n,I.loc,I.cell,?_,fun x c e=>?_,fun p b=>?_,I.hok.adopt n new,I.len⟩
 ·rw[zG<|EK g];exact I.free
 ·rw[zG<|h x c e];exact I.wQ x c e
 ·obtain⟨e,j,ne,l,d⟩:=I.pin p b;exact⟨e,by rw[zG<|i p b];exact j,ne,l,d⟩
end
def af (x:Str):It:=⟨fun i _=>i<x.length,fun i H v b=>b=H/\∃c,x.cps[i]?=some c/\v=.str ⟨#[c]⟩,fun i _=>i=x.length⟩
theorem Gd {P:Ek}{w:Eo}{K:Ca}{S:EN}{it:Ej}{x:Str}{j:Nat->EB->Prop}(D:∀A:EF,A.handled=none->Walks P w A it [it] [it] x.cps.size (SignAt x) j)
  (Z:∀i h,j i h->∃o,h.get? it=some o/\∀v,o.data≠.cell v) (f:∀(A:EF) (i:Nat) (s:Em) (Q:Ei->Dh) (E:Ei->Dh),j i s.heap->Q (.ref it) s->El (Ep P w) A (pyIter<|.ref it) Q E s) :
  Turn P w K S (af x) [it] it j where
 mem:=by simp
 obj:=fun i h st b d=>by
  have e:b=it:=by simpa using d
  subst e;exact Z i h st
 keep:=fun i h g st k=>(D {} rfl).frame i h g st k
 item:=by
  intro X C L B F i n s R H E I l st J;subst C L B;obtain⟨q,r,Y,t,y,f5⟩:=l it (by simp);refine(D X.A<|I.ok.hd F).item i s _ _ J st fun v g O hv N M=>?_;obtain⟨c,u,G,rfl⟩:=hv;have U:Inv X n R H { s with heap:=g,toks:=O }:=I.turned (fun b o d e=>M b o (by simpa using d) e) q r t y f5;refine⟨_,rfl,?_⟩;have z:∃T p,Inv X n R p { s with heap:=g,toks:=O }/\yq T (.str ⟨#[c]⟩ u)/\(af x).oZ i H T p/\j (i+1) g/\∀b∈[it],p b=none :=
   ⟨.str ⟨#[c]⟩,H,U,⟨u,rfl⟩,⟨rfl,c,G,rfl⟩,N,fun b d=>(l b d).1⟩
  unfold L6;cases S<;>exact Q7 z
 done:=by
  intro X C L B F i n s R H E I l st J;subst C L B;obtain⟨q,r,Y,t,y,f5⟩:=l it (by simp);exact(D X.A<|I.ok.hd F).done s _ _ (by have e:i=x.length:=J;subst e;exact st) fun g O M=>⟨rfl,I.turned (fun b o d e=>M b o (by simpa using d) e) q r t y f5⟩
 self:=f
section
variable {X:Cx}{tg:EN}
def bW (c:TE):TI:=fun d H R=>c d H fun x b=>∃z,x=.str z/\R (af z) b
theorem K5 (w:PE X e te):PI X tg e (bW te):=by
 intro u s C H R I h;refine Cf (w u s C H _ I h) fun v c ⟨x,f,d,B,y⟩=>?_;obtain⟨z,e,q⟩:=y;subst e;obtain⟨t,rfl⟩:=B;have p:f c.heap.objs.size=none:=d.hok.fresh<|Zd _;cases r:z.cps.all (·<128)
 ·refine wpAny_pyIter_wide r ?_;refine⟨c.heap.objs.size,[c.heap.objs.size],fun i h=>h.IsStrIter c.heap.objs.size "str_iterator" z t i,_,f,rfl,d.kept (t':=c.toks) fun b o e=>Q8 _ e,Gd (fun A g=>Walks.strWide g _ z t) (fun i h ⟨o,n,_,hd⟩=>⟨o,n,fun v z=>by rw[hd]at z;cases z⟩)<|fun _ _ _ _ _ st j=>wpAny_pyIter_striter_wide st j,⟨_,Zk _ rfl,rfl,rfl⟩,fun b l=>?_,q⟩
  have e:b=c.heap.objs.size:=by simpa using l
  subst e;exact d.tL (Zd _) p
 ·refine wpAny_pyIter_ascii r ?_;refine⟨c.heap.objs.size,[c.heap.objs.size],fun i h=>h.IsStrIter c.heap.objs.size "str_ascii_iterator" z t i,_,f,rfl,d.kept (t':=c.toks) fun b o e=>Q8 _ e,Gd (fun A g=>Walks.strAscii g _ z t) (fun i h ⟨o,n,_,hd⟩=>⟨o,n,fun v z=>by rw[hd]at z;cases z⟩)<|fun _ _ _ _ _ st j=>wpAny_pyIter_striter_ascii st j,⟨_,Zk _ rfl,rfl,rfl⟩,fun b l=>?_,q⟩
  have e:b=c.heap.objs.size:=by simpa using l
  subst e;exact d.tL (Zd _) p
end
abbrev N5 (J:It)(g:TG)(tb:TS)(D:Ends)(σ:St)(H:Hp):Prop :=
 ∃W:Nat->Nat->St->Hp->Prop,(∃m,W 0 m σ H)/\∀i m σ H,W i m σ H ->
  (J.stop i H/\D.nx σ H)\/(J.go i H/\∃N:St->Hp->Prop,(∀σ' H',N σ' H'->∃m',m'<m/\W (i+1) m' σ' H')/\∀x H',J.oZ i H x H'->g x σ H' fun σ2 H2=>tb { D with nx:=N,ct:=N,bk:=D.nx } σ2 H2)
theorem Nl {J:It}{g:TG}{j:TS}{D:Ends}{b:St}{H:Hp}(n:Nat)(c:Nat->St->Hp->Prop)(l:c 0 b H)(h:∀b H,c n b H->J.stop n H)(f:∀i b H,i<n->c i b H->J.go i H)
  (hs:∀i b H,i<n->c i b H->∀x H',J.oZ i H x H'->g x b H' fun σ2 H2=>j { D with nx:=c<|i+1,ct:=c<|i+1,bk:=D.nx } σ2 H2) (hd:∀b H,c n b H->D.nx b H):N5 J g j D b H:=by
 refine⟨fun i m b H=>m=n-i/\i<=n/\c i b H,⟨n,by simp,ZD _,l⟩,?_⟩;rintro i m b H ⟨rfl,r,p⟩
 by_cases d:i<n
 ·exact .inr ⟨f i b H d p,c<|i+1,fun q H' o=>⟨n-(i+1),by lia,rfl,d,o⟩,fun x H' y=>hs i b H d p x H' y⟩
 ·have e:i=n:=by lia
  subst e;exact .inl ⟨h b H p,hd b H p⟩
theorem Sj {x:Str}{g:TG}{h:TS}{D:Ends}{b:St}{H:Hp}(d:Nat->St->Hp->Prop)(l:d 0 b H)
  (hs:∀i c b H,x.cps[i]?=some c->d i b H->g (.str ⟨#[c]⟩) b H fun σ2 H2=>h { D with nx:=d<|i+1,ct:=d<|i+1,bk:=D.nx } σ2 H2) (hd:∀b H,d x.length b H->D.nx b H):N5 (af x) g h D b H :=
 Nl x.length d l (fun _ _ _=>rfl) (fun _ _ _ f _=>f) (fun i b H f p v o y=>by
  obtain⟨e,c,n,j⟩:=y;subst e j;exact hs i c b _ n p) hd
def bM (K:Ca)(a:Ej):It :=
 ⟨fun i H=>∃b x,yx K H a b/\b[i]?=some x,fun i H v c=>∃T x,H T=none/\v=.ref T/\c=upd H T (.tup [.int i,x])/\∀b,yx K H a b->b[i]?=some x,fun i H=>∃b,yx K H a b/\b.length<=i⟩
theorem OQ {P:Ek}{w:Eo}{K:Ca}{DU:List EN} {x1}{D8:Pos}(a e it:Ej)(j:e≠it) :
  Turn P w K (.Tuple DU x1 D8) (bM K a) [e,it] e (fun i h=>(∃old,IsEnum h e it i old)/\h.IsListIter it a i) where
 mem:=by simp
 obj:=fun i h st b c=>by
  obtain⟨⟨old,Z⟩,o,s2,s3,s4⟩:=st
  rcases Zh.mp c with z|z
  ·subst z;exact⟨_,Z,fun v z=>by cases z⟩
  ·have z:b=it:=by simpa using z
   subst z;exact⟨o,s2,fun v z=>by rw[s4]at z;cases z⟩
 keep:=fun i h h' st k=>by
  obtain⟨⟨old,Z⟩,s2⟩:=st;exact⟨⟨old,k e (by simp) _ Z⟩,s2.at fun o q=>k it (by simp) o q⟩
 item:=by
  intro X L Q J hc i D s σ H E I l st O;subst L Q J;obtain⟨xs,x,B,R⟩:=O;obtain⟨S,Y,p,hz⟩:=I.list B;obtain⟨u,hu,ru⟩:=Y.get R;obtain⟨⟨old,d⟩,f⟩:=st;have fe:=l e (by simp);have fi:=l it (by simp);have M:H s.heap.objs.size=none:=I.hok.fresh<|Zd _;have y:e<s.heap.objs.size:=Zl d;have T:it<s.heap.objs.size:=by obtain⟨o,t,_⟩:=f;exact Zl t
  refine wpAny_pyNext_enum_item d f p.isList (x:=u) (by simpa using hu) j fun h' U g tup sz kp=>?_;refine⟨_,rfl,wpAny_letOwnedTupleGo_enum U fun n en C=>?_⟩;have F:∃old,IsEnum n e it ((i+1:Nat):Int) old:=⟨u,by push_cast;exact en⟩;have A:n.get? s.heap.objs.size=some { cls:=.type "tuple",data:=.seq #[.int i s.toks,u] }:=(C.2 _<|YO y).trans tup;have I1:Inv X D σ H { s with heap:=n,toks:=s.toks+1 }:=I.rJ (ch:=[e,it]) l (fun b o c q=>by
   have b1:b≠e:=fun z=>c (by simp[z]);have b2:b≠it:=fun z=>c (by simp[z]);exact(C.2 b b1).trans (kp b o b1 b2 q)) (fun b c=>by
   rcases Zh.mp c with z|z
   ·subst z;exact⟨_,en⟩
   ·have z:b=it:=by simpa using z
    subst z;obtain⟨o,t,_⟩:=g;exact⟨o,(C.2 b<|EK j).trans t⟩)
  have G:=I.tL (Zd _) M;have new:yp X.prog X.w (upd H s.heap.objs.size<|.tup [.int i,x]) n s.heap.objs.size (.tup [.int i,x]) :=
   ⟨by show 2<=sizeLine;decide,[.int i s.toks,u],.cons ⟨_,rfl⟩<|.cons ru .nil,⟨_,A,rfl,_,rfl,rfl⟩⟩
  have I2:Inv X D σ (upd H s.heap.objs.size<|.tup [.int i,x]) { s with heap:=n,toks:=s.toks+1 } :=
   I1.nH M (ZL I.sz<|Zd _) G.2.1 G.2.2.2.2.1 G.2.2.2.2.2 new
  refine⟨.ref s.heap.objs.size,_,I2,rfl,⟨_,x,M,rfl,rfl,fun ys hy=>by rw[I.rZ hy B];exact R⟩,⟨F,?_⟩,fun b c=>?_⟩
  ·obtain⟨o,t,r⟩:=g;exact⟨o,(C.2 it<|EK j).trans t,r⟩
  ·have N:b<s.heap.objs.size:=by
    rcases Zh.mp c with z|z
    ·subst z;exact y
    ·have z:b=it:=by simpa using z
     subst z;exact T
   rw[zG<|Zu N];exact(l b c).1
 done:=by
  intro X L Q J hc i D s σ H E I l st O;subst L Q J;obtain⟨xs,B,R⟩:=O;obtain⟨S,Y,p,hz⟩:=I.list B;obtain⟨⟨old,d⟩,f⟩:=st;obtain⟨f0,f1,f2,f3,f4,f5⟩:=l it (by simp);have hl:=Y.length;exact wpAny_pyNext_enum_end (I.ok.hd hc) d f p.isList (by simp;lia) fun h' eb=>⟨rfl,I.turned (t':=s.toks) (fun b o c q=>eb b o c q) f0 f1 f3 f4 f5⟩
 self:=fun _ _ _ _ _ st h=>wpAny_pyIter_enum st.1.choose_spec h
section
variable {X:Cx}{DU:List EN}{x1:Nat}{D8:Pos}
def au (K:Ca)(c:TA):TI:=fun f H R=>c f H fun d b=>∃a,d=[.ref a]/\(∃e,yx K b a e)/\R (bM K a) b
theorem SO {a:EN}{p pos:Pos}(t:Gl X "enumerate")(v:X.mg "enumerate"=none)(o:PA X [a] ta)(hs:Ey [a] X.env=[(false,E8 a X.env)]:=by rfl):PI X (.Tuple DU x1 D8) (.Call (.Name "enumerate" p) [a] [] pos) (au X.K ta):=by
 intro i s E H R I h;refine Call_<|kD I t v boot_enumerate<|Y1 (Cf (o pos i s E H _ I h) fun L c ⟨M,f,d,C,B⟩=>?_) hs rfl;obtain⟨j,e,⟨N,w⟩,q⟩:=B;subst e;obtain⟨u,rfl,D⟩:=wW C;cases D;obtain⟨y,J,A,G⟩:=d.list w;refine call_enumerate_list A.isList fun F g x sz kp=>wpAny_pyIter_enum g ?_;have n:f (c.heap.objs.size+1)=none:=d.hok.fresh<|Jg _;have l:f c.heap.objs.size=none:=d.hok.fresh<|Zd _;refine⟨c.heap.objs.size+1,[c.heap.objs.size+1,c.heap.objs.size],_,_,f,rfl,d.kept (t':=c.toks) kp,OQ j _ _<|YO<|Jq _,⟨⟨_,g⟩,x⟩,fun b r=>?_,q⟩
 rcases Zh.mp r with z|z
 ·subst z;exact d.tL (Jg _) n
 ·have z:b=c.heap.objs.size:=by simpa using z
  subst z;exact d.tL (Zd _) l
theorem Pq {K:Ca}{xs:Dj}{g:TG}{e:TS}{D:Ends}{b:St}{H:Hp}(c:Nat->St->Hp->Prop)(j:c 0 b H)(hl:∀i b H,i<=xs.length->c i b H->yx K H a xs)
  (hs:∀i x T b H,xs[i]?=some x->c i b H->H T=none->g (.ref T) b (upd H T<|.tup [.int i,x]) fun σ2 H2=>e { D with nx:=c<|i+1,ct:=c<|i+1,bk:=D.nx } σ2 H2) (hd:∀b H,c xs.length b H->D.nx b H):N5 (bM K a) g e D b H :=
 Nl xs.length c j (fun b H p=>⟨xs,hl _ b H (Zd _) p,Zd _⟩) (fun i b H d p=>⟨xs,xs[i],hl i b H (Yu d) p,by simp[d]⟩) (fun i b H d p v o y=>by
  obtain⟨T,x,l,h,f,n⟩:=y;subst h f;exact hs i x T b H (n xs<|hl i b H (Yu d) p) p l) hd
def TD (K:Ca):V->Option Int->Option Int->Hp->VK->Prop:=fun x e d H Q=>∃a b,x=.ref a/\xg K H a b/\∀v c,(v=.ref a/\c=H/\UA b e d=b)\/(∃p,H p=none/\v=.ref p/\c=upd H p (.tup<|UA b e d))->Q v c
end
namespace AxT
variable {prog:Ek}{w:Eo}{A:EF}{E:Ei->Dh}{s:Em}
open HT
theorem uq {t i:Ej}{Dn:Array Ei}{l p:Ei}{lo d:Option Int}{Q:Ei->Dh}(b:IsTup s.heap t Dn)(hs:s.heap.IsSliceOf i l p .none)(pl:MG l lo)(r:MG p d)
  (j:wO Dn.size 0 lo=0/\wO Dn.size Dn.size d=Dn.size) (h:Q (.ref t) s):El (Ep prog w) A (Mu (.ref t)<|.ref i) Q E s:=by
 obtain⟨os,g,f,q⟩:=id hs;have e:s.TypeIs (.ref i) "slice":=⟨os,g,f⟩;unfold Mu
 try with_reducible refine ZW ?_
 first|refine Q4 (Q7 ?_)|skip
 refine Q4 (wpAny_sequenceKey b.typeIs (by decide) ?_);refine Q4<|YY (name:=EX "__getitem__") b.typeIs Y9<|Ys Y9 b.typeIs entry_tuple_getitem ?_<|args_tuple_getitem _ _
 show El _ _ (LW (.ref t)>>=_) _ _ s;refine Q4<|tupleItemsOf_ b ?_;refine Q4<|JS e ?_;rw[Zt<|by decide];refine Q4<|jA hs pl r ?_;have c:(((wO Dn.size 0 lo:Nat):Int)==0&&(1:Int)==1&&(wO Dn.size Dn.size d-wO Dn.size 0 lo)==Dn.size)=true:=by
  rw[j.1,j.2];simp
 show El _ _ (if(((wO Dn.size 0 lo:Nat):Int)==0&&(1:Int)==1&&(wO Dn.size Dn.size d-wO Dn.size 0 lo)==Dn.size)=true then _ else _) _ _ s;rw[Zt c];obtain⟨o,v,u,n,hd⟩:=id b;refine Q4 (m:=Builtin.Tuple.tupleIsExact _) ?_;unfold Builtin.Tuple.tupleIsExact;refine Q4<|JS b.typeIs<|Q7 ?_;rw[Zt<|by decide];exact Q4<|JH<|Q7 ⟨_,rfl,Q7 h⟩
end AxT
section
variable {X:Cx}
theorem mZ:Kl X (TD X.K):=by
 intro y s D H x v B C f g A Q I w l n p h;obtain⟨a,d,rfl,t,q⟩:=h;cases w;obtain⟨c,r,j,u⟩:=I.tuple t;have i:c.toArray.size=d.length:=by rw[Zp];exact r.length.symm
 refine⟨"tuple",_,Y9.lookup,j.typeIs,?_⟩
 by_cases e:HT.wO c.toArray.size 0 f=0/\HT.wO c.toArray.size c.toArray.size g=c.toArray.size
 ·refine AxT.uq j l n p e ⟨.ref a,H,I,rfl,q _ _<|.inl ⟨rfl,rfl,?_⟩⟩;rw[i]at e;unfold UA;rw[e.1,e.2];simp
 ·refine HT.tY j l n p e ?_ (by rwa[i]);rw[i];refine⟨.ref s.heap.objs.size,_,I.laid (t':=s.toks) (o:=.tup<|UA d f g) (fun b z q=>Q8 _ q) (Zd _) ?_,rfl,q _ _<|.inr ⟨_,I.hok.fresh<|Zd _,rfl,rfl⟩⟩;exact⟨ZL (Xz d f g) u,_,(r.drop<|HT.wO d.length 0 f).take<|HT.wO d.length d.length g-HT.wO d.length 0 f,TupAt.new _ _⟩
structure wV (P:Ek)(w:Eo)(K:Ca)(mg:Str->Dc)(base:EB)(k:Nat)(x:Str)(ps:Da)(sp:Sp):Prop where
 ex:∃(f:Ej) (fd:Et),yu P w K mg base Ck k f fd ps sp/\mg x=some (.ref f)/\E4 K (.ref f)=true/\wU K fd ps []
theorem zI {e:EN}{es:List EN}{p pos:Pos}(C:wV X.prog X.w X.K X.mg X.base k x ps sp)(n:xu k X.A)(d:PA X (e::es) t)(i:Gl X x:=by rfl)
  (b:(x==("__debug__":Str))=false:=by decide) (h:Ey (e::es) X.env=(false,E8 e X.env)::Ey es X.env:=by rfl) (c:(Lh pos<|Ey es X.env).any (·.1)=false:=by rfl) :
  PE X (.Call (.Name x p) (e::es) [] pos) (TK sp [] E0 t):=by
 obtain⟨f,o,F,l,j,g⟩:=C.ex;exact SH F n i l j g .nil NF d b h c
theorem wV.mk' {K:Ca}{st:EW}(F:wX K x qual st f fd)(G:yu P w K mg base Ck k f fd ps sp)(c:mg x=some (.ref f))
  (b:wU K fd ps []):wV P w K mg base k x ps sp:=⟨f,fd,G,c,F.kp,b⟩
def KD (P:Ek)(w:Eo)(K:Ca)(a:Ej)(Dm:Dl):Prop:=∀h:EB,K.In h->∃b,KV Dm b/\h.DictOf (za P w) a b
def bh (P:Ek)(w:Eo)(K:Ca)(f ty:TE):TE:=fun c H Q=>f c H fun x d=>ty c d fun y e=>∃a b k v,x=.ref a/\y=kV k/\KD P w K a b/\Us b k=some v/\Q v e
theorem SI {pos:Pos}(t:PE X o td)(r:PE X i ty)(hs:R4 i):PE X (.Subscript o i pos) (bh X.prog X.w X.K td ty):=by
 intro d s g H Q I h;refine Fh PySem.F.slot_dict_getitem.lookup hs<|Cf (t d s g H _ I h) fun u E ⟨x,j,p,C,A⟩=>Cf (r d E g j _ p A) fun L M ⟨y,n,e,D,a,J,k,v,ex,q,kd,l,B⟩=>?_;subst ex q;obtain rfl:u=Ez a:=C;obtain⟨G,b,f⟩:=kd _ e.vq;obtain⟨N,z,c⟩:=wu.some_of (v:=v) (o:=Mv G k) (by rw[←l];exact b.val k);exact⟨f.typeIs,wpAny_getItem_of (vR D) f.mapOf z ⟨v,n,e.tok _,c,B⟩⟩
end
theorem yp.there (x:yp P w H h a o):∃ob,h.get? a=some ob:=by
 cases o with
 |lst xs=>obtain⟨_,_,_,_,e⟩:=x;exact⟨_,e⟩
 |tup xs=>obtain⟨_,_,_,ob,e,_⟩:=x;exact⟨_,e⟩
 |dK Dm=>obtain⟨_,_,_,_,ob,_,_,e,_⟩:=x;exact⟨_,e⟩
 |dT Dm=>obtain⟨_,_,_,_,ob,_,_,e,_⟩:=x;exact⟨_,e⟩
 |set S n=>obtain⟨ob,_,_,_,e,_⟩:=x;exact⟨_,e⟩
 |ins C dx fs=>obtain⟨_,_,_,e,_⟩:=x;exact⟨_,e⟩
 |own y=>exact x
 |xd fs=>obtain⟨_,⟨_,_,_,e,_⟩,_⟩:=x;exact⟨_,e⟩
 |rng lo hi=>obtain⟨_,_,_,e⟩:=x;exact⟨_,e⟩
 |frz ob u=>obtain⟨e,_⟩:=x;exact⟨_,e⟩
 |tbl ps=>exact⟨_,(show h.get? a=some _ from x)⟩
 |met f y=>exact⟨_,(show h.get? a=some _ from x)⟩
 |ext φ=>obtain⟨_,e,_⟩:=x;exact e
def ctx0 (vs:Array Ei):Prop:=vs[2]?=some .none
theorem U6:GN ctx0:=fun b v h=>by
 show(b.setIfInBounds 1 v)[2]?=some .none;rwa[Array.getElem?_setIfInBounds_ne<|by decide]
def ExcAt (h:EB)(a T:Ej)(cls:Ei):Prop :=
 ∃b c d e,h.get? a=some b/\(b.cls=cls/\ctx0 c)/\b.data=.fields c/\c[1]?=some (.ref T)/\T≠a/\h.get? T=some d/\d.data=.fields e/\e[3]?=some .none
def CC (P:Ek)(w:Eo):RX:=fun outer H s E e c=>∃a T cls b,e=.ref a/\c.os=s.os/\ME c.gens/\Un (frs outer) [] H b s.heap c.heap/\vf P w b c.heap /\
 s.heap.get? a=none/\s.heap.get? T=none/\b a=none/\b T=none/\ExcAt c.heap a T cls/\E cls none b
section
variable {X:Cx}{Do:De}{σ:St}{H:Hp}{s:Em}
theorem Inv.none_of (I:Inv X Do σ H s){a:Ej}(e:s.heap.get? a=none):H a=none:=by
 cases q:H a with
 |none=>rfl
 |some u =>
  obtain⟨b,z⟩:=(I.hok a u q).there;rw[e]at z;cases z
theorem Inv.v7 (I:Inv X Do σ H s)(b:X.ex=[]){a:Ej}(e:s.heap.get? a=none):X.s₀.heap.get? a=none:=by
 cases q:X.s₀.heap.get? a with
 |none=>rfl
 |some o =>
  obtain⟨c,z⟩:=I.base.there a o q (by rw[b];simp);rw[e]at z;cases z
abbrev US (h:EB)(as:Dd)(l:List Env):Heap:=PySem.W.hideAll h<|as++frs l
theorem j0 {h:EB}{base:EB}{l:List Env}(f:h.FunFrames base l):h.FunFrames (US h as l) l :=
 PySem.W.funFrames_hide f fun env d b c=>ZA _<|JP.mpr ⟨env,d,c⟩
theorem jQ:(US h as l).StaysIn h:=fun _ _ q=>PySem.W.of_hideAll _ q
theorem Fa (i:X.stack=X.env::X.outer)(J:X.env.frame=some X.env.locals)(l:X.ex=[])(I:Inv X Do σ H s){e:Ej}{cls:Ei}{args:Db}{h':EB}(p:Heap.MadeExcOf s.heap h' e cls args){E:XK}(q:E cls none H)
  {Ex:Ei->Dh}:El (Ep X.prog X.w) X.A (leaving X.env<|.ref e) (fun _ s''=>CC X.prog X.w X.outer X.H₀ X.s₀ E (.ref e) s'') Ex { s with heap:=h' }:=by
 have N:=j0 (as:=[]) I.stack;have S:X.A.frames=some (X.env::X.outer):=by rw[I.ok.frames,i]
 obtain⟨t,Y,ab,ht⟩:=p.there;have fresh:∀b,s.heap.get? b=none->(US s.heap [] X.stack).get? b=none:=fun b d=>by
  cases Z:(US s.heap [] X.stack).get? b with
  |none=>rfl
  |some B=>have:=jQ b B Z;rw[d]at this;cases this
 rw[i]at N;refine F3 (base:=US s.heap [] X.stack) (q:=ctx0) U6 S ((by rw[i];exact N:s.heap.FunFrames (US s.heap [] X.stack) (X.env::X.outer)).of_keeps fun b o d _=>⟨o,p.keeps b o d,rfl⟩) J Y (fun b o d=>p.keeps b o<|jQ b o d) (fresh e p.new) rfl rfl rfl fun G k1 k2 L k4=>?_;obtain⟨oe,vs,T,oT,ts,t1,t2,t3,t4,t5,t6,Q,R,t9⟩:=L;have stk:∀b∈frs X.stack,H b=none:=I.tU;have kp:∀b o,s.heap.get? b=some o->b∉frs X.stack->G.get? b=some o:=fun b o e d=>k1 b o (Jm _ e<|by simpa using d);have D:∀b o,s.heap.get? b=some o->b∈frs X.stack->∃D,G.get? b=some { o with slots:=D }:=fun b o e d=>by
  obtain⟨_,B,g,hd⟩:=I.stack.mem d;rw[e]at g;cases g;exact k4 b o (p.keeps b o e) hd
 have nL:∀b o,X.s₀.heap.get? b=some o->b≠X.env.locals:=fun b o e=>Zu<|ZC (Zl e) I.ok.above;have j:∀b,b∉X.ex:=fun b=>by rw[l];simp
 have P:s.heap.get? T=none:=by
  cases qT:s.heap.get? T with
  |none=>rfl
  |some o =>
   exfalso
   by_cases O:T∈frs X.stack
   ·have K:G.FunFrames (US s.heap [] X.stack) X.stack:=by have z:=k2;rw[←i]at z;exact z
    obtain⟨_,B,g,hd⟩:=K.mem O;rw[Q]at g;cases g;exact hd _ R
   ·have z:(US s.heap [] X.stack).get? T=some o:=Jm _ qT (by simpa using O);rw[t5]at z;cases z
 refine⟨e,T,cls,H,rfl,I.os,I.bare,⟨fun b o f n d _=>?_,fun b o f n d _=>?_,fun b o f n _=>I.base.free b o f n<|j b,fun b o f _=>?_,I.base.tups,I.base.wg,I.base.vz⟩,fun b u f=>?_,I.v7 l p.new,I.v7 l P,I.none_of p.new,I.none_of P,⟨oe,vs,oT,ts,t1,t2,t3,t4,t6,Q,R,t9⟩,q⟩
 ·refine kp b o (I.base.keep b o f n d<|j b) fun z=>?_
  rcases Zh.mp (I.tM b z) with r|r
  ·exact nL b o f r
  ·exact d r
 ·obtain⟨M,x⟩:=I.base.slot b o f n d<|j b
  by_cases h:b∈frs X.stack
  ·obtain⟨C,F⟩:=D b _ x h;exact⟨C,F⟩
  ·exact⟨M,kp b _ x h⟩
 ·obtain⟨B,x⟩:=I.base.there b o f<|j b
  by_cases h:b∈frs X.stack
  ·obtain⟨C,F⟩:=D b _ x h;exact⟨_,F⟩
  ·exact⟨B,kp b _ x h⟩
 ·refine(I.hok b u f).stay (fun c v U r=>kp c v r fun z=>?_) (fun _ r=>r) fun _ _ r=>r;have h:=stk c z
  rcases U with y|y
  ·rw[y,f]at h;cases h
  ·rw[y]at h;cases h
end
theorem Oh {K:Ca}{h:EB}{C:Ej}{d:Db}{b:String}(X:K.In h)(q:Lg K C d b=true) :
  ∃bm N nm q bs hdct sn sub ab col dd k0 k1 k2 k3 k5 mN,h.get? C=some (excClassObj nm q C N bs bm hdct sn sub ab col dd k0 k1 k2 k3 k5 b)/\h.Ns N mN/\mN "__init__"=none/\OwnTail h d bm:=by
 unfold Lg at q
 split at q
 ·rename_i dd o j r
  split at q
  ·rename_i u bm k0 k1 k2 k3 n k5 g i;simp only[Zi,Jl,Um]at q;obtain⟨⟨⟨⟨⟨rfl,rfl⟩,c⟩,s⟩,hok⟩,e⟩:=q;obtain⟨nm,bs,mro,ns,t,hd,sn,sub,ab,col,p⟩:=o;dsimp only at g c hok e;subst g c;have f:j=#[k0,k1,k2,k3,some<|.builtin n,k5]:=by
    obtain⟨l⟩:=j;simp only at i;rw[i]
   subst f;exact⟨bm,ns,nm,t,bs,hd,sn,sub,ab,col,dd,k0,k1,k2,k3,k5,_,X _ _ r,.of_isNs<|PySem.W.isNs_of_in X hok,PySem.W.nsMap_none_of_in X hok e,PySem.W.tail_of_in X s⟩
  ·cases q
 ·cases q
abbrev U4:Db:=[.type "ValueError",.type "Exception",.type "BaseException",.type "object"]
def Throws (X:Cx)(R:St->Hp->Ei->Prop):Prop:=∀(f:De) (d:St) (H:Hp) (s:Em) (e:Ej) (cls:Ei) (b:Db) (c:EB),Inv X f d H s->Heap.MadeExcOf s.heap c e cls b->R d H cls->X.xe (.ref e) { s with heap:=c }
def WV (C:Ej)(R:St->Hp->Ei->Prop)(t:TA):TS:=fun _ b H=>t b H fun d c=>d.length<=sizeLine/\R b c (.ref C)
section
variable {X:Cx}
theorem xR {C:Ej}{c:EN}{b:List EN}{M g pos:Pos}(E:X.calm=true)(L:Throws X R)(G:Gl X x)(J:X.mg x=some (.ref C))(j:Lg X.K C U4 "ValueError.__new__"=true)(B:PA X (c::b) t)
  (p:Ey (c::b) X.env=(false,E8 c X.env)::Ey b X.env:=by rfl) (u:(Lh g<|Ey b X.env).any (·.1)=false:=by rfl) (hd:(x==("__debug__":Str))=false:=by decide) :
  PS X (.Raise (some<|.Call (.Name x M) (c::b) [] g) none pos) (WV C R t):=by
 intro o s r H D I h;obtain⟨Q,N,nm,q,bs,hdct,sn,sub,ab,col,dd,k0,k1,k2,k3,k5,mN,z,A,n,T⟩:=Oh I.ok.mod.mW j;refine wpAny_Raise_call_subU (C:=C) (nm:=nm) (q:=q) (N:=N) (bs:=bs) (bm:=Q) (hdct:=hdct) (sn:=sn) (sub:=sub) (ab:=ab) (col:=col) (dd:=dd) (k0:=k0) (k1:=k1) (k2:=k2) (k3:=k3) (k5:=k5)
  F.excBase_ValueError (by decide +kernel) F.excBase_ValueError (mN:=mN) (T.hasType F.excBase_ValueError.hasBase) (I.ok.hd E) (by rw[p];show(false||(Lh g<|Ey b X.env).any (·.1))=false;rw[u];rfl) n (jY I G J ⟨rfl,?_⟩ hd)
 have d:=B g o s r H _ I h;rw[p]at d ⊢;exact Ly (Yg d (fun U f ⟨Y,v,i,P,S,O⟩=>⟨rfl,by rw[←P.length];exact S,i.bk _ _ z,A.keeps i.bk,T.keeps i.bk,fun w e l=>L o r v f e _ _ w i l O⟩) fun _ _ y=>y)
theorem yV {P:Ek}{w:Eo}{K:Ca}{mg:Str->Dc}{base:EB}{N:Da}{qual:Str}{scope:LV}{f:Ej}{b:Ei}{A:EF}{outer:List Env}{s:Em}{H:Hp}{E:XK} :
  Throws (Xf (CC P w) P w K mg base N qual scope f b A outer s H E) (fun _ H' cls=>E cls none H') :=
 fun _ _ _ _ _ _ _ _ I c q=>Fa rfl rfl rfl I c q
end
def Raises (X:Cx)(R:St->Hp->Ei->Prop):Prop:=∀(d:De) (c:St) (H:Hp) (s:Em) (e:Ei) (b:Em),Inv X d c H s->CC X.prog X.w X.stack H s (fun cls _ f=>R c f cls) e b->X.xe e b
def WO (sp:Sp)(R:St->Hp->Ei->Prop)(t:TA):TE:=fun b H Q=>t b H fun e d=>sp e d Q<|fun cls _ c=>R b c cls
section
variable {X:Cx}{k:Nat}{f:Ej}{fd:Et}{ps:Da}{sp:Sp}{x:Str}{p pos:Pos}{e:EN}{es:List EN}{t:TA}{R:St->Hp->Ei->Prop}
theorem NW {g:De}{d:St}{H:Hp}{s:Em}{Q:VK}{us:Db}{vs:Dj}(F:yu X.prog X.w X.K X.mg X.base (CC X.prog X.w) k f fd ps sp)(j:xu k X.A)(i:wU X.K fd ps [])(l:Raises X R)
  (I:Inv X g d H s) (r:yr vs us) (h:sp vs H Q<|fun cls _ H'=>R d H' cls):El (Ep X.prog X.w) X.A (call (.ref f) us) (EP X g d Q) X.xe s:=by
 have hl:us.length=ps.length:=by rw[←r.length];exact F.len _ _ _ _ h
 have b:=i s us I.vq (by simpa using hl);rw[ZG]at b;refine VQ<|YW (F.run X.A X.stack s H ⟨us,[]⟩ us vs Q _ j I.env0 b r h) fun r n c=>?_;cases r with
 |error e=>exact l g d H s e n I c
 |ok fl =>
  cases fl with
  |ret u=>exact I.after c
  |next=>exact EL c
  |brk=>exact EL c
  |cont=>exact EL c
structure uh (P:Ek)(w:Eo)(K:Ca)(mg:Str->Dc)(base:EB)(k:Nat)(x:Str)(ps:Da)(sp:Sp):Prop where
 ex:∃(f:Ej) (fd:Et),yu P w K mg base (CC P w) k f fd ps sp/\mg x=some (.ref f)/\E4 K (.ref f)=true/\wU K fd ps []
theorem yO (C:uh X.prog X.w X.K X.mg X.base k x ps sp)(v:xu k X.A)(y:Raises X R)(i:PA X (e::es) t)(n:Gl X x:=by rfl)
  (b:(x==("__debug__":Str))=false:=by decide) (l:Ey (e::es) X.env=(false,E8 e X.env)::Ey es X.env:=by rfl) (c:(Lh pos<|Ey es X.env).any (·.1)=false:=by rfl) :
  PE X (.Call (.Name x p) (e::es) [] pos) (WO sp R t):=by
 obtain⟨f,fd,F,u,o,j⟩:=C.ex;intro g s z H Q I h;refine Jc<|jY I n u ?_ b;refine JR (h₀:=X.base) I.ok.mod.mW o (Cf (i pos g s z H _ I h) fun E D ⟨G,B,d,r,q⟩=>⟨d.vq,?_⟩) l c;exact NW F v j y d r q
end
def W3 (X:Cx)(d:De)(H:Hp)(b:Ej):Prop :=
 H b=none/\X.s₀.heap.get? b=none/\b≠X.env.locals/\(∀x c,X.env.cells.lookup x=some c->c≠b)/\∀p∈X.pn++d,p.1≠b
section
variable {X:Cx}{Do D2:De}{σ:St}{H:Hp}{s:Em}{h':EB}{R:St->Hp->Ei->Prop}
theorem Inv.lW (I:Inv X Do σ H s)(f:X.ex=[]){H':Hp}{b:Ej}(e:s.heap.get? b=none)(n:H' b=none):W3 X Do H' b:=by
 refine⟨n,I.v7 f e,fun z=>?_,fun x c q z=>?_,fun p g z=>?_⟩
 ·obtain⟨m,⟨o,_,_,d,_⟩,_⟩:=I.loc;rw[←z,e]at d;cases d
 ·obtain⟨v,o,d,_⟩:=I.cell x c q;rw[z,e]at d;cases d
 ·have d:=(I.pin p g).1;rw[z,e]at d;cases d
theorem Inv.land {ch:Dd}(I:Inv X Do σ H s)(j:∀b∈ch,W3 X Do H b)(k1:(US s.heap ch X.stack).StaysIn h')(k2:s.heap.UpToSlots h')(R:Nat):Inv X Do σ H { s with heap:=h',toks:=R }:=by
 have kp:∀b o,s.heap.get? b=some o->b∉ch->b∉frs X.stack->h'.get? b=some o:=fun b o e t g=>k1 b o (Jm _ e (by
  intro z
  rcases Zy.mp z with z|z
  ·exact t z
  ·exact g z))
 have any:∀b o,s.heap.get? b=some o->b∉ch->∃F,h'.get? b=some { o with slots:=F }:=fun b o e t=>by
  by_cases g:b∈frs X.stack
  ·obtain⟨_,Q,B,hd⟩:=I.stack.mem g;rw[e]at B;cases B;exact k2 b o e hd
  ·exact⟨o.slots,kp b o e t g⟩
 have D:∀b,b≠X.env.locals->b∉X.fs->b∉frs X.stack:=fun b L M z=>(Zh.mp<|I.tM b z).elim L M;have P:∀b o,X.s₀.heap.get? b=some o->b≠X.env.locals:=fun b o e=>Zu<|ZC (Zl e) I.ok.above;have q:∀b o,X.s₀.heap.get? b=some o->b∉ch:=fun b o e z=>by rw[(j b z).2.1]at e;cases e
 have f:∀c v,s.heap.IsCell c v->h'.IsCell c v:=fun c v ⟨o,O,hd⟩=>by
  obtain⟨F,e⟩:=k2 c o O fun S z=>by rw[hd]at z;cases z
  exact⟨_,e,hd⟩
 refine⟨I.ok,I.os,I.bare,⟨fun b o e n g C=>?_,fun b o e n g C=>?_,I.base.free,fun b o e C=>?_,I.base.tups,I.base.wg,I.base.vz⟩,?_,fun x c e=>?_,I.free,I.wQ,fun p G=>?_,fun b u e=>?_,I.len⟩
 ·exact kp b o (I.base.keep b o e n g C) (q b o e) (D b (P b o e) g)
 ·obtain⟨F,w⟩:=I.base.slot b o e n g C;obtain⟨E,A⟩:=any b _ w<|q b o e;exact⟨E,A⟩
 ·obtain⟨Q,w⟩:=I.base.there b o e C;obtain⟨E,A⟩:=any b _ w<|q b o e;exact⟨_,A⟩
 ·obtain⟨m,N,hl⟩:=I.loc;refine⟨m,k2.ns N,fun i x v w A K=>?_⟩;obtain⟨u,r,l⟩:=hl i x v w A K;refine⟨u,r,?_⟩
  rcases l with l|⟨k,c,e,z⟩
  ·exact .inl l
  ·exact .inr ⟨k,c,e,f c _ z⟩
 ·obtain⟨v,z⟩:=I.cell x c e;exact⟨v,f c v z⟩
 ·obtain⟨e,n,ne,J,d⟩:=I.pin p G;exact⟨kp _ _ e (fun z=>(j _ z).2.2.2.2 p G rfl) (D _ ne J),n,ne,J,d⟩
 ·refine(I.hok b u e).stay (fun c v t r=>kp c v r (fun z=>?_) fun z=>?_) (fun _ r=>r) fun _ _ r=>r
  ·have h:=(j c z).1
   rcases t with y|y
   ·rw[y,e]at h;cases h
   ·rw[y]at h;cases h
  ·have h:=I.tU c z
   rcases t with y|y
   ·rw[y,e]at h;cases h
   ·rw[y]at h;cases h
theorem Inv.pq (I:Inv X Do σ H s)(f:W3 X Do H T)(new:yp X.prog X.w (upd H T o) s.heap T o):Inv X Do σ (upd H T o) s:=by
 obtain⟨n,g,h,i,j⟩:=f;refine⟨I.ok,I.os,I.bare,I.base.nQ g n,I.loc,I.cell,?_,fun x c e=>?_,fun p b=>?_,I.hok.adopt n new,I.len⟩
 ·rw[zG<|EK h];exact I.free
 ·rw[zG<|i x c e];exact I.wQ x c e
 ·obtain⟨e,l,ne,q,d⟩:=I.pin p b;exact⟨e,by rw[zG<|j p b];exact l,ne,q,d⟩
def Cx.nM (X:Cx)(Do:De)(R:St->Hp->Ei->Prop):Cx :=
 { X with pn:=X.pn++Do,xe:=fun e b=>∃a T cls σ H,e=.ref a/\Inv X Do σ H b/\W3 X Do H a/\W3 X Do H T/\ExcAt b.heap a T cls/\R σ H cls }
theorem Inv.into (I:Inv X Do σ H s)(R:St->Hp->Ei->Prop):Inv (X.nM Do R) [] σ H s :=
 ⟨⟨I.ok.mod,I.ok.kind,I.ok.glob,I.ok.blt,I.ok.above,I.ok.inj,I.ok.has,I.ok.cab,I.ok.hd,I.ok.frames,I.ok.stk,I.ok.mC,I.ok.bs,I.ok.oY,I.ok.qj,I.ok.qu,I.ok.uz,I.ok.nJ⟩,I.os,I.bare,I.base,I.loc,I.cell,I.free,I.wQ,fun p b=>I.pin p (by
  have b:p∈(X.pn++Do)++[]:=b;simpa using b),I.hok,I.len⟩
theorem Inv.rP (I:Inv (X.nM Do R) D2 σ H s):Inv X Do σ H s :=
 ⟨⟨I.ok.mod,I.ok.kind,I.ok.glob,I.ok.blt,I.ok.above,I.ok.inj,I.ok.has,I.ok.cab,I.ok.hd,I.ok.frames,I.ok.stk,I.ok.mC,I.ok.bs,I.ok.oY,I.ok.qj,I.ok.qu,I.ok.uz,I.ok.nJ⟩,I.os,I.bare,I.base,I.loc,I.cell,I.free,I.wQ,fun p b=>I.pin p<|ZZ _ b,I.hok,I.len⟩
theorem SP.rP (h:SP (X.nM Do R) D2 D f s'):SP X Do D f s':=by
 cases f with
 |next=>obtain⟨b,c,I,q⟩:=h;exact⟨b,c,I.rP,q⟩
 |brk=>obtain⟨b,c,I,q⟩:=h;exact⟨b,c,I.rP,q⟩
 |cont=>obtain⟨b,c,I,q⟩:=h;exact⟨b,c,I.rP,q⟩
 |ret u=>obtain⟨v,b,c,I,r,q⟩:=h;exact⟨v,b,c,I.rP,r,q⟩
theorem HK (c:X.ex=[]):Raises (X.nM Do R) R:=by
 intro D2 σ H s e p I l;obtain⟨a,T,cls,f,rfl,os,bare,un,hok,o,n,j,i,h,q⟩:=l;have d:Inv X Do σ H s:=I.rP;have g:Inv X Do σ f p:=d.call' (ch:=[]) os un hok bare fun b z=>absurd z (by simp);exact⟨a,T,cls,σ,f,rfl,g,d.lW c o j,d.lW c n i,h,q⟩
def Cx.rG (X:Cx)(e:Ei):Cx:={ X with A:=X.A.mark<|some e,calm:=false,xe:=fun _ _=>False }
theorem Inv.mark (I:Inv X Do σ H s)(e:Ei):Inv (X.rG e) Do σ H s :=
 ⟨⟨I.ok.mod,I.ok.kind,I.ok.glob,I.ok.blt,I.ok.above,I.ok.inj,I.ok.has,I.ok.cab,fun z=>(by cases z),I.ok.frames,I.ok.stk,I.ok.mC,I.ok.bs,I.ok.oY,I.ok.qj,I.ok.qu,I.ok.uz,I.ok.nJ⟩,I.os,I.bare,I.base,I.loc,I.cell,I.free,I.wQ,I.pin,I.hok,I.len⟩
theorem Inv.unmark {e:Ei}(ok:X.Ok)(I:Inv (X.rG e) Do σ H s):Inv X Do σ H s :=
 ⟨ok,I.os,I.bare,I.base,I.loc,I.cell,I.free,I.wQ,I.pin,I.hok,I.len⟩
end
def XF (a:Ej)(cls:Ei):HO:=.ext fun h=>∃o b,h.get? a=some o/\o.cls=cls/\o.data=.fields b/\ctx0 b
section
variable {P:Ek}{w:Eo}{K:Ca}{mg:Str->Dc}{base:EB}
theorem wX.qi {st:EW}{k:Nat}{sp:Sp}(F:wX K x qual st f fd)(S:zu N ps<|zF st)
  (d:∀(cdv:Ei) (A:EF) (outer:List Env) (s:Em) (H:Hp) (vs:Dj) (Q:VK) (E:XK),xu k (A.deeper<|Mr qual (zF st) s.heap.objs.size f cdv)->sp vs H Q E -> ∃t,tG (Xf (CC P w) P w K mg base N qual (zF st) f cdv A outer s H E) (xD st) t/\t { nx:=fun _ H'=>Q .non H',rt:=Q } (start N vs) H)(len:∀vs H Q E,sp vs H Q E->vs.length=ps.length:=by intro _ _ _ _ h;first|(cases h;subst_vars;rfl)|repeat first|(obtain⟨rfl,_⟩:=h;rfl)|obtain⟨_,h⟩:=h):yu P w K mg base (CC P w) (k+1) f fd ps sp:=by
 obtain⟨n,o,kV,e,pm,l,cdv,ct,j,rfl,i,b⟩:=F.ex;refine Pp i b S len fun A outer s H vs Q E g c=>?_;obtain⟨t,h,q⟩:=d cdv A outer s H vs Q E g c;exact⟨t,h,q⟩
end
section
variable {X:Cx}{a:EN}{ta:TE}{K:Ca}
def cM (K:Ca)(ta:TE):TT:=fun c H Q=>ta c H fun x b=>∃k,TY K x b k/\Q k b
theorem zZ (c:PE X a ta)(d:∀whole,isTrue a X.env whole=(do let v ←whole;standAt a.pos;holding [v] (truthy v)):=by intro _;rfl)(b:X.K=K:=by rfl):PT X a (cM K ta):=by
 subst b;exact Rw c d
end
end L2
namespace An
open PySem L2
abbrev cs (x:Str):List Nat:=x.cps.toList
theorem wY (h:cs x=cs y):x=y:=by
 obtain⟨a⟩:=x;obtain⟨b⟩:=y;have:a=b:=by simpa using h
 rw[this]
theorem zp (x y:Str):cs (x++y)=cs x++cs y:=by
 show(x.cps++y.cps).toList=_;simp
theorem zm (x:Str):x.length=(cs x).length:=by simp[Str.length]
theorem yg (x y:Str):(x++y).length=x.length+y.length:=by rw[zm,zm,zm,zp,Ze]
theorem uD:∀xs:Da,cs (MC "" xs)=xs.flatMap cs
 |[]=>rfl
 |[x]=>by show cs x=_;simp
 |x::y::r=>by
  show cs (x++""++MC "" (y::r))=_;have:cs ("":Str)=[]:=by decide +kernel
  rw[zp,zp,uD (y::r),this,ZG];simp
theorem jN:∀(a b:Da),E6 (a.map .str) (b.map .str)=decide (a=b)
 |[],[]=>rfl
 |[],_::_=>rfl
 |_::_,[]=>rfl
 |x::a,y::b=>by
  show((x==y)&&E6 (a.map .str) (b.map .str))=_;rw[jN a b,Yq];simp
structure Ok (n:Nat)(x:Str):Prop where
 len:x.length<=n
 ok:Es x=true
theorem yM (x:Str):Es x=true↔∀c∈cs x,c<1114112:=by
 unfold Es;rw[←Array.all_toList,ZI];simp
theorem uV:∀ls:Da,(∀p∈ls,Es p=true)->Ev (ls.map .str)=true/\EG (ls.map .str)=0
 |[],_=>⟨rfl,rfl⟩
 |x::ls,h=>by
  obtain⟨b,c⟩:=uV ls fun p d=>h p<|Q9 _ d;refine⟨?_,?_⟩
  ·show(Es x&&Ev (ls.map .str))=true;rw[h x Zc,b];rfl
  ·show max 0 (EG<|ls.map .str)=0;rw[c];rfl
theorem qR {ls:Da}(h:∀p∈ls,Es p=true):ER (.list<|ls.map .str)=true/\ER (.tuple<|ls.map .str)=true:=by
 obtain⟨b,c⟩:=uV ls h;refine⟨?_,?_⟩
 ·show(Ev (ls.map .str)&&decide (EG (ls.map .str)+1<=64))=true;rw[b,c];rfl
 ·show(Ev (ls.map .str)&&decide (EG (ls.map .str)+1<=64))=true;rw[b,c];rfl
theorem zz {H:Hp}{l:Ej}(h:H l=none):zx H (upd H l o):=fun b u e=>by rwa[zG<|zQ e h]
theorem zx.tB {l:Ej}(e:zx H H2)(n:H l=none):zx H (upd H2 l o):=fun b u q=>by rw[zG<|zQ q n];exact e b u q
theorem zr {n:Nat}(h:n<=16777216):n<=sizeLine:=by rwa[Ym]
theorem yI {n:Nat}(h:n<16777216):n<sizeLine:=by rwa[Ym]
theorem Fw {α:Type}(x:α)(r:List α):CD (x::r) 0=some x:=xL (j:=0) rfl
theorem Ur (n:Nat)(h:n<=16777216:=by decide):n<=sizeLine:=zr h
theorem Py {c A B:Prop} [Decidable c](hc:¬c)(h:B):if decide c=true then A else B:=by
 rw[Zo hc];exact Ut h
theorem MS {n:Nat}:∀(ys:Da),(∀y∈ys,y.length<=n)->(ys.map (·.length)).sum<=ys.length*n
 |[],_=>by simp
 |y::ys,h=>by
  have c:=MS ys fun z b=>h z<|Q9 _ b;have d:=h y Zc;rw[Zv,Jp,Zn,Nat.succ_mul];lia
theorem xE {α:Type}{p:α->Prop}{l:List α}{x:α}(h:∀y∈l,p y)(c:p x):∀y∈l++[x],p y:=fun y b=>by
 rcases Zy.mp b with z|z
 ·exact h y z
 ·rwa[Q6.mp z]
theorem at_of {α:Type}{xs:List α}{i:Int}(c:0<=i)(d:i<xs.length):∃x,xs[i.toNat]?=some x/\CD xs i=some x:=by
 obtain⟨j,rfl⟩:=YK c;have b:j<xs.length:=by lia
 exact⟨xs[j],by simp[b],xL<|by simp[b]⟩
theorem Kp {α:Type}{f:α->V}{xs:List α}{i:Int}(c:0<=i)(d:i<xs.length):∃x,xs[i.toNat]?=some x/\CD (xs.map f) i=some (f x):=by
 obtain⟨j,rfl⟩:=YK c;have b:j<xs.length:=by lia
 refine⟨xs[j],by simp[b],xL ?_⟩;rw[Zj,Zb b];rfl
theorem Pa {i:Int}(b:0<=i):UA xs none (some i)=xs.take i.toNat:=by
 obtain⟨j,rfl⟩:=YK b;unfold UA;rw[HT.qg,HT.sX,Ud];show xs.take (min j xs.length-0)=xs.take j
 by_cases h:j<=xs.length
 ·rw[Nat.min_eq_left h];rfl
 ·rw[Nat.min_eq_right<|by lia,Nat.sub_zero,ZF,YR<|by lia]
theorem Gi {i:Int}(b:0<=i):UA xs (some i) none=xs.drop i.toNat:=by
 obtain⟨j,rfl⟩:=YK b;unfold UA;rw[HT.qg,HT.sX];show(xs.drop<|min j xs.length).take (xs.length-min j xs.length)=xs.drop j
 by_cases h:j<=xs.length
 ·rw[Nat.min_eq_left h];exact YR (by rw[Yz];lia)
 ·rw[Nat.min_eq_right<|by lia,List.drop_eq_nil_of_le<|Zd _,List.drop_eq_nil_of_le<|by lia];simp
theorem FY {A B:Prop}(h:B):if(!true)=true then A else B:=by
 show if false=true then A else B;exact Ut h
theorem Pz {A B:Prop}(h:A):if(!false)=true then A else B:=by
 show if true=true then A else B;exact Uv h
def one (c:Nat):Str:=⟨#[c]⟩
theorem FK:∀l:List Nat,cs (Lw ""<|l.map one)=l:=by
 intro l;have b:Lw "" (l.map one)=MC "" (l.map one):=Ll _ _;rw[b,uD,List.flatMap_map]
 induction l with
 |nil=>rfl
 |cons c l ih =>
  rw[JF];show[c]++_=_;rw[ih<|Ll _ _];rfl
theorem Kb:∀l:List Nat,((l.map one).map (·.length)).sum=l.length
 |[]=>rfl
 |c::l=>by
  rw[Zv,Zv,Jp,Kb l,Zn];show 1+l.length=_;lia
end An
namespace AxT
open PySem PySem.Spec PyProof.Rows PySem.SeqAt
open AutoSeq1 (wpAny_loadPart')
end AxT
namespace AxR
open PySem PySem.Spec PyProof.Rows
open AutoSeq1 (wpAny_loadPart')
end AxR
namespace L2
open PySem PySem.Spec PyProof.Rows
section
variable {X:Cx}{tg:EN}
theorem boot_reversed:LL "reversed"=some (.type "reversed"):=by decide +kernel
end
section
variable {X:Cx}{K:Ca}
def cn:R2:=fun x y H Q=>∃i j:Str,x=.str i/\y=.str j/\Q (.bl<|!decide (j.cps.toList<i.cps.toList)) H
theorem IU:Ct X (EZ .LtE) cn:=by
 intro d s f H x y v u Q I b c h;obtain⟨i,j,rfl,rfl,q⟩:=h;obtain⟨t,rfl⟩:=b;obtain⟨e,rfl⟩:=c;exact P.le_str ⟨.bl _,H,I,rfl,q⟩
theorem Fm:∀{bs:List Bool} {us:Db},yr (bs.map V.bl) us->us=bs.map L7
 |[],us,h=>by cases h;rfl
 |b::bs,us,h=>by
  cases h with
  |cons r1 r2=>rw[Fm r2];cases r1;rfl
def b9 (K:Ca):Dj->Hp->VK->Prop:=fun b H Q=>∃(a:Ej) (bs:List Bool),b=[.ref a]/\yx K H a (bs.map V.bl)/\Q (.bl<|bs.all id) H
theorem kC (p:X.calm=true)(n:X.K=K:=by rfl):xf X (.builtin "all") (b9 K):=by
 subst n;intro z s M H L J Q I r h;obtain⟨a,bs,rfl,o,q⟩:=h;obtain⟨u,rfl,x⟩:=wW r;cases x;obtain⟨c,y,w,E⟩:=I.list o;have g:=Fm y;have hl:=w.isList;have f:a<s.heap.objs.size:=by obtain⟨_,e,_⟩:=hl;exact Zl e
 refine call_all_walk<|J5 hl ?_;refine⟨s.heap.objs.size,[s.heap.objs.size,a],[s.heap.objs.size],c.toArray.size,_,_,fun i=>(bs[i]?).getD true,rfl,Walks.list (A:=X.A.in1) (I.ok.hd p) _ a (Zu f) c.toArray,⟨⟨_,Zk _ rfl,rfl,rfl⟩,hl.push _⟩,fun i v F C B d j=>?_,fun D G t=>?_⟩
 ·have d:c[i]?=some v:=by simpa using d
  rw[g,Zj]at d;cases e:bs[i]? with
  |none=>rw[e]at d;cases d
  |some b =>
   rw[e]at d;have d:L7 b=v:=Option.some.inj d;subst d;simp only[e,VT]at j;exact Y2 j
 ·have l:c.length=bs.length:=by rw[g,Q5]
  have e:((EC c.toArray.size).all fun i=>(bs[i]?).getD true)=bs.all id:=by
   rw[Zp,l];exact PyProof.Rows.LSm.range_all bs
  rw[e];exact⟨.bl _,H,I.kept<|PyProof.Rows.LSm.kept_iter t,rfl,q⟩
end
mutual
def Dw (K:Ca)(H:Hp):Er->V->Prop
 | .none,v=>v=.non
 | .bool b,v=>v=.bl b
 | .int i,v=>v=.int i
 | .str x,v=>v=.str x
 | .list ds,v=>∃a c,v=.ref a/\yx K H a c/\wR K H ds c
 | .tuple ds,v=>∃a c,v=.ref a/\xg K H a c/\wR K H ds c
 | .dict _,v=>∃a d,v=.ref a/\H a=some (.dK d)
def wR (K:Ca)(H:Hp):Df->Dj->Prop
 |[],xs=>xs=[]
 |d::ds,xs=>∃x r,xs=x::r/\Dw K H d x/\wR K H ds r
end
mutual
theorem Dw.same {K:Ca}(e:zx H H'):∀(d:Er) (v:V),Dw K H d v->Dw K H' d v
 | .none,_,h=>h
 | .bool _,_,h=>h
 | .int _,_,h=>h
 | .str _,_,h=>h
 | .list ds,_,⟨a,xs,h1,h2,h3⟩=>⟨a,xs,h1,e.seq h2,wR.same e ds xs h3⟩
 | .tuple ds,_,⟨a,xs,h1,h2,h3⟩=>⟨a,xs,h1,e.yd h2,wR.same e ds xs h3⟩
 | .dict _,_,⟨a,Dm,h1,h2⟩=>⟨a,Dm,h1,e _ _ h2⟩
theorem wR.same {K:Ca}(e:zx H H'):∀(ds:Df) (xs:Dj),wR K H ds xs->wR K H' ds xs
 |[],_,h=>h
 |d::ds,_,⟨x,r,h1,h2,h3⟩=>⟨x,r,h1,Dw.same e d x h2,wR.same e ds r h3⟩
end
mutual
theorem Dt.dw {K:Ca}:∀{d:Er} {v:V},Dt K H d v->Dw K H d v
 | .none,_,h=>h
 | .bool _,_,h=>h
 | .int _,_,h=>h
 | .str _,_,h=>h
 | .list ds,_,⟨a,xs,h1,h2,h3⟩=>⟨a,xs,h1,h2,zy.dw h3⟩
 | .tuple ds,_,⟨a,xs,h1,h2,h3⟩=>⟨a,xs,h1,h2,zy.dw h3⟩
 | .dict _,_,h=>h.elim
theorem zy.dw {K:Ca}:∀{ds:Df} {xs:Dj},zy K H ds xs->wR K H ds xs
 |[],_,h=>h
 |d::ds,_,⟨x,r,h1,h2,h3⟩=>⟨x,r,h1,Dt.dw h2,zy.dw h3⟩
end
theorem wR.length {K:Ca}:∀{ds:Df} {xs:Dj},wR K H ds xs->xs.length=ds.length
 |[],_,h=>by rw[show _=[] from h];rfl
 |d::ds,_,⟨x,r,h1,h2,h3⟩=>by rw[h1,Zn,Zn,wR.length h3]
theorem wR.get {K:Ca}:∀{ds:Df} {xs:Dj} {i:Nat} {x:V},wR K H ds xs->xs[i]?=some x->∃d,ds[i]?=some d/\Dw K H d x
 |[],_,i,x,h,e=>by rw[show _=[] from h]at e;cases e
 |d::ds,_,0,x,⟨x',r,h1,h2,h3⟩,e=>by
  rw[h1]at e;cases e;exact⟨d,rfl,h2⟩
 |d::ds,_,i+1,x,⟨x',r,h1,h2,h3⟩,e=>by
  rw[h1]at e;obtain⟨b,c,f⟩:=wR.get (i:=i) h3 (by simpa using e);exact⟨b,by simpa using c,f⟩
theorem wR.at {K:Ca}{i:Nat}{d:Er}(h:wR K H ds xs)(e:ds[i]?=some d):∃x,xs[i]?=some x/\Dw K H d x:=by
 have c:i<xs.length:=by rw[h.length];exact(Zq.mp e).1
 obtain⟨f,b,q⟩:=h.get<|Zb c;rw[e]at b;cases b;exact⟨_,Zb c,q⟩
def U1:Er->String
 | .none=>"NoneType"
 | .bool _=>"bool"
 | .int _=>"int"
 | .str _=>"str"
 | .list _=>"list"
 | .tuple _=>"tuple"
 | .dict _=>"dict"
section
variable {X:Cx}{Do:De}{σ:St}{H:Hp}{s:Em}{A:EF}{E:Ei->Dh}{Q:Ei->Dh}{c:Ei}{b:Bool}{K:Ca}
theorem Ov (I:Inv X Do σ H s)(f:yq x u)(hd:Dw X.K H d x)(e:LF X.K (.type<|U1 d) c=some b)(h:∀tk,Q (.bool b) { s with toks:=tk }) :
  El (Ep X.prog X.w) A (call (.builtin "isinstance") [u,c]) Q E s:=by
 cases d with
 |none=>cases(show x=_ from hd);exact jJ I f .non e h
 |bool y=>cases(show x=_ from hd);exact jJ I f (.bl y) e h
 |int i=>cases(show x=_ from hd);exact jJ I f (.int i) e h
 |str y=>cases(show x=_ from hd);exact jJ I f (.str y) e h
 |dict Dm=>obtain⟨a,v,rfl,r⟩:=hd;exact jJ I f (.dK r) e h
 |list ds =>
  obtain⟨a,t,rfl,l,_⟩:=hd;cases(show u=Ez a from f);obtain⟨q,_,⟨o,n,g,j,_⟩,_⟩:=I.list l;exact Yr Uj I.vq ⟨o,g,j⟩ e (fun z=>nomatch z) h
 |tuple ds =>
  obtain⟨a,t,rfl,l,_⟩:=hd;cases(show u=Ez a from f);obtain⟨q,_,p,_⟩:=I.tuple l;obtain⟨o,g,j,_⟩:=p;exact Yr PySem.W.kitx_tuple I.vq ⟨o,g,j⟩ e (fun z=>nomatch z) h
def aW (K:Ca):Dj->Hp->VK->Prop:=fun c H Q=>∃y T d b,c=[y,.ty T]/\Dw K H d y/\LF K (.type<|U1 d) (.type T)=some b/\Q (.bl b) H
theorem z6 (e:X.K=K:=by rfl):xf X (.builtin "isinstance") (aW K):=by
 subst e;intro Do s σ H n l Q I r h;obtain⟨y,T,d,b,rfl,hd,f,q⟩:=h;obtain⟨u,i,rfl,g,c⟩:=vals2 r;cases(show i=E3 T from c);exact Ov I g hd f fun j=>⟨.bl b,H,I.tok _,rfl,q⟩
end
section
variable {src:List (Option Nat)}{g:TG}{te:TE}{Q:VK}{σ:St}{H:Hp}
theorem GP {x:Str}(b:Nat->Dj->St->Hp->Prop)(f:b 0 [] (UE src σ) H)(hz:x.length<=sizeLine)(hl:∀i ys σ H,i<=x.length->b i ys σ H->ys.length<=i)
  (hs:∀i c ys σ H,x.cps[i]?=some c->b i ys σ H->g (.str ⟨#[c]⟩) σ H fun σ2 H3=>te σ2 H3 fun y H5=>b (i+1) (ys++[y]) σ2 H5)
  (hd:∀ys σ H,b x.length ys σ H->∀p,H p=none->Q (.ref p) (upd H p<|.lst ys)):UW src (af x) g Ig te Q σ H :=
 Iy x.length b f hz hl (fun _ _ _ _=>rfl) (fun _ _ _ _ d _=>d)
  (fun i ys σ H d p l j y=>by
   obtain⟨e,c,h,rfl⟩:=y;subst e;rw[Gk];exact hs i c ys σ _ h p) hd
end
section
variable {X:Cx}{K:Ca}{a b c d:EN}{ta tb tc td:TE}{pos:Pos}
def aV (K:Ca)(tup c:Bool):R2:=fun x y H Q=>∃(d:Er) (b:Df),Dt K H d x/\Dt K H (if tup then .tuple b else .list b) y/\Ev b=true/\d.canLay0=true/\d.depth<=60/\Q (.bl<|c !=b.any fun y=>EH y d) H
theorem K3 (z:X.A.units+64<Lc)(g:X.K=K:=by rfl):Ct X (EZ .In) (aV K false false):=by
 subst g;intro p s B H x y v u Q I l n h;obtain⟨d,o,b,c,e,f,t,q⟩:=h;obtain⟨r,i⟩:=Dt.yw I d x v b l;obtain⟨bs,j⟩:=Dt.yw I _ y u c n;have w:min (EG o) d.depth<=d.depth:=Nat.min_le_right _ _;exact SeqAt.in_list_reads j i e f (by lia) ⟨.bl _,H,I,rfl,by simpa using q⟩
end
def Kj (K:Ca)(a:Ej)(n:Nat):It :=
 ⟨fun i H=>∃b,yx K H a b/\b.length=n/\i<n,fun i H v c=>c=H/\∀b,yx K H a b->b[n-1-i]?=some v,fun i _=>i=n⟩
theorem OT {P:Ek}{w:Eo}{K:Ca}{tg:EN}(a it:Ej)(n:Nat) :
  Turn P w K tg (Kj K a n) [it] it (fun i h=>i<=n/\h.IsRevIter it a ((n:Int)-1-(i:Int))) where
 mem:=by simp
 obj:=fun i h st b d=>by
  have e:b=it:=by simpa using d
  subst e;obtain⟨_,o,Z,_,hd⟩:=st;exact⟨_,Z,fun v z=>by rw[hd]at z;cases z⟩
 keep:=fun i h j st k=>⟨st.1,st.2.at fun o e=>k it (by simp) _ e⟩
 item:=by
  intro X B G A L i J s Q H E I l st g;subst B G A;obtain⟨O,M,hl,Y⟩:=g;obtain⟨ab,rv,p,hz⟩:=I.list M;have N:O[n-1-i]?=some (O[n-1-i]'(by lia)):=Zb (by lia);obtain⟨u,hu,ru⟩:=rv.get N;obtain⟨q,r,U,t,y,f5⟩:=l it (by simp);have c:=st.2;have e:(n:Int)-1-(i:Int)=((n-1-i:Nat):Int):=by lia
  rw[e]at c;refine wpAny_pyNext_rev_item c p.isList (x:=u) (by simpa using hu) fun j f sb=>?_;have R:Inv X J Q H { s with heap:=j,toks:=s.toks }:=I.turned (fun b o d e=>(sb.2 b d).trans e) q r t y f5;have S:((n-1-i:Nat):Int)-1=(n:Int)-1-((i+1:Nat):Int):=by lia
  rw[S]at f;obtain⟨o',F,C,D⟩:=id f;exact⟨u,rfl,FW (s:={ s with heap:=j,toks:=s.toks }) (n:="list_reverseiterator") F C D (by decide) ⟨_,H,R,ru,⟨rfl,fun ys hy=>by rw[I.rZ hy M];exact N⟩,⟨Y,f⟩,fun b d=>(l b d).1⟩⟩
 done:=by
  intro X B G A L i J s Q H E I l st g;subst B G A;have g:i=n:=g;subst g;obtain⟨q,r,U,t,y,f5⟩:=l it (by simp);have c:=st.2;have e:(i:Int)-1-(i:Int)=-1:=by lia
  rw[e]at c;exact wpAny_pyNext_rev_end (I.ok.hd L) c fun j T=>⟨rfl,I.turned (t':=s.toks) (fun b o d e=>T b o d e) q r t y f5⟩
 self:=fun _ _ _ _ _ st h=>wpAny_pyIter_revIter st.2 h
section
variable {X:Cx}{tg:EN}
def az (K:Ca)(d:TA):TI:=fun f H R=>d f H fun e b=>∃a c,e=[.ref a]/\yx K b a c/\R (Kj K a c.length) b
theorem SQ {a:EN}{p pos:Pos}(t:Gl X "reversed")(v:X.mg "reversed"=none)(n:PA X [a] ta)(hs:Ey [a] X.env=[(false,E8 a X.env)]:=by rfl):PI X tg (.Call (.Name "reversed" p) [a] [] pos) (az X.K ta):=by
 intro j s D H R I h;refine Call_<|kD I t v boot_reversed<|Y1 (Cf (n pos j s D H _ I h) fun F d ⟨G,l,f,A,z⟩=>?_) hs rfl;obtain⟨g,i,e,w,q⟩:=z;subst e;obtain⟨u,rfl,B⟩:=wW A;cases B;obtain⟨c,C,y,E⟩:=f.list w;have hl:c.toArray.size=i.length:=by rw[Zp];exact C.length.symm
 have x:(d.heap.push<|revObj g<|(c.toArray.size:Int)-1).IsRevIter d.heap.objs.size g ((c.toArray.size:Int)-1):=⟨_,Zk _ rfl,rfl,rfl⟩;refine call_reversed_list y.isList<|wpAny_pyIter_revIter x ?_;refine⟨d.heap.objs.size,[d.heap.objs.size],_,_,l,rfl,f.kept (t':=d.toks) fun b o e=>Q8 _ e,OT g _ i.length,⟨ZD _,?_⟩,fun b r=>?_,q⟩
 ·have e:(i.length:Int)-1-((0:Nat):Int)=(c.toArray.size:Int)-1:=by rw[hl];lia
  rwa[e]
 ·have e:b=d.heap.objs.size:=by simpa using r
  subst e;exact f.tL (Zd _)<|f.hok.fresh<|Zd _
end
section
variable {X:Cx}{Do:De}{σ:St}{H:Hp}{s:Em}
theorem Gy (t:X.stack=X.env::X.outer)(P:X.env.frame=some X.env.locals)(C:X.ex=[])(I:Inv X Do σ H s){a T:Ej}{cls:Ei}(na:X.s₀.heap.get? a=none)(nT:X.s₀.heap.get? T=none)(O:H a=none)(hT:H T=none)(ea:ExcAt s.heap a T cls){E:XK}(q:E cls none H)
  {Ex:Ei->Dh}:El (Ep X.prog X.w) X.A (leaving X.env<|.ref a) (fun _ s''=>CC X.prog X.w X.outer X.H₀ X.s₀ E (.ref a) s'') Ex s:=by
 have fr:=j0 (as:=[a,T]) I.stack;have hA:X.A.frames=some (X.env::X.outer):=by rw[I.ok.frames,t]
 have D:∀b,b=a\/b=T->(US s.heap [a,T] X.stack).get? b=none:=fun b i=>by
  cases F:(US s.heap [a,T] X.stack).get? b with
  |none=>rfl
  |some o =>
   exfalso;have z:=Vb ([a,T]++frs X.stack) (h:=s.heap) (b:=b) (ZZ _<|by simpa using i);rw[z]at F;cases F
 obtain⟨oe,vs,oT,ts,t1,t2,t3,t4,t6,t7,t8,t9⟩:=ea;have tw:OZ ctx0 s.heap (US s.heap [a,T] X.stack) a cls .none:=⟨oe,vs,T,oT,ts,t1,t2,t3,t4,D T<|.inr rfl,t6,t7,t8,t9⟩;refine KO (base:=US s.heap [a,T] X.stack) U6 hA (by rwa[←t]) P tw jQ (D a<|.inl rfl) fun N k1 k2 L k4=>?_;obtain⟨ab,al,f,U,aj,u1,u2,u3,u4,u5,u6,u7,u8,u9⟩:=L;have stk:∀b∈frs X.stack,H b=none:=I.tU;have kp:∀b o,s.heap.get? b=some o->b≠a->b≠T->b∉frs X.stack->N.get? b=some o:=fun b o e h3 h4 i=>k1 b o (Jm _ e (by
  intro z
  rcases Zy.mp z with z|z
  ·have z:b=a\/b=T:=by simpa using z
   exact z.elim h3 h4
  ·exact i z))
 have K:∀b o,s.heap.get? b=some o->b∈frs X.stack->∃K,N.get? b=some { o with slots:=K }:=fun b o e i=>by
  obtain⟨_,S,g,hd⟩:=I.stack.mem i;rw[e]at g;cases g;exact k4 b o e hd
 have nL:∀b o,X.s₀.heap.get? b=some o->b≠X.env.locals:=fun b o e=>Zu<|ZC (Zl e) I.ok.above;have l:∀b,b∉X.ex:=fun b=>by rw[C];simp
 have R:∀b o,X.s₀.heap.get? b=some o->b≠a:=fun b o e z=>by rw[z,na]at e;cases e
 have x:∀b o,X.s₀.heap.get? b=some o->b≠T:=fun b o e z=>by rw[z,nT]at e;cases e
 have G:f=T\/s.heap.get? f=none:=by
  by_cases F:f=T
  ·exact .inl F
  ·refine .inr ?_;cases qT:s.heap.get? f with
   |none=>rfl
   |some o =>
    exfalso
    by_cases hf:f∈frs X.stack
    ·have Q:N.FunFrames (US s.heap [a,T] X.stack) X.stack:=by have z:=k2;rw[←t]at z;exact z
     obtain⟨_,S,g,hd⟩:=Q.mem hf;rw[u7]at g;cases g;exact hd _ u8
    ·have z:(US s.heap [a,T] X.stack).get? f=some o:=Jm _ qT (by
      intro z
      rcases Zy.mp z with z|z
      ·have z:f=a\/f=T:=by simpa using z
       exact z.elim u6 F
      ·exact hf z)
     rw[u5]at z;cases z
 have Y:X.s₀.heap.get? f=none:=G.elim (fun z=>by rwa[z]) fun z=>I.v7 C z;have Z:H f=none:=G.elim (fun z=>by rwa[z]) fun z=>I.none_of z;refine⟨a,f,cls,H,rfl,I.os,I.bare,⟨fun b o d n i _=>?_,fun b o d n i _=>?_,fun b o d n _=>I.base.free b o d n<|l b,fun b o d _=>?_,I.base.tups,I.base.wg,I.base.vz⟩,fun b u d=>?_,na,Y,O,Z,⟨ab,al,U,aj,u1,u2,u3,u4,u6,u7,u8,u9⟩,q⟩
 ·refine kp b o (I.base.keep b o d n i<|l b) (R b o d) (x b o d) fun z=>?_
  rcases Zh.mp (I.tM b z) with r|r
  ·exact nL b o d r
  ·exact i r
 ·obtain⟨ai,B⟩:=I.base.slot b o d n i<|l b
  by_cases j:b∈frs X.stack
  ·obtain⟨J,M⟩:=K b _ B j;exact⟨J,M⟩
  ·exact⟨ai,kp b _ B (R b o d) (x b o d) j⟩
 ·obtain⟨S,B⟩:=I.base.there b o d<|l b
  by_cases j:b∈frs X.stack
  ·obtain⟨J,M⟩:=K b _ B j;exact⟨_,M⟩
  ·exact⟨S,kp b _ B (R b o d) (x b o d) j⟩
 ·have off:∀c,(c=b\/H c=some (.own b))->H c≠none:=fun c p z=>by
   rcases p with y|y
   ·rw[y,d]at z;cases z
   ·rw[y]at z;cases z
  refine(I.hok b u d).stay (fun c v p r=>kp c v r (fun z=>?_) (fun z=>?_) fun z=>?_) (fun _ r=>r) fun _ _ r=>r
  ·rw[z]at p
   rcases p with y|y
   ·rw[←y,O]at d;cases d
   ·rw[O]at y;cases y
  ·rw[z]at p
   rcases p with y|y
   ·rw[←y,hT]at d;cases d
   ·rw[hT]at y;cases y
  ·have j:=stk c z
   rcases p with y|y
   ·rw[y,d]at j;cases j
   ·rw[y]at j;cases j
end
theorem yK {P:Ek}{w:Eo}{K:Ca}{mg:Str->Dc}{base:EB}{N:Da}{qual:Str}{scope:LV}{f:Ej}{d:Ei}{A:EF}{outer:List Env}{s:Em}{H:Hp}{E:XK} :
  Raises (Xf (CC P w) P w K mg base N qual scope f d A outer s H E) (fun _ H' cls=>E cls none H'):=by
 intro o u p t e r I j;obtain⟨a,T,cls,H',rfl,os,bare,un,hok,n,l,i,h,g,q⟩:=j;have c:=I.call' (ch:=[]) os un hok bare fun b z=>absurd z (by simp);exact Gy rfl rfl rfl c (I.v7 rfl n) (I.v7 rfl l) i h g q
theorem uh.mk' {K:Ca}{st:EW}(F:wX K x qual st f fd)(G:yu P w K mg base (CC P w) k f fd ps sp)(c:mg x=some (.ref f))
  (b:wU K fd ps []):uh P w K mg base k x ps sp:=⟨f,fd,G,c,F.kp,b⟩
instance:DecidableEq PyData:=fun a b=>decidable_of_iff _<|same_iff (a:=a) (b:=b)
mutual
def UR:Er->Bool
 | .str x=>Es x
 | .tuple ds=>yW ds
 | .none=>true
 |_=>false
def yW:Df->Bool
 |[]=>true
 |d::ds=>UR d&&yW ds
end
mutual
def IS:Er->Nat
 | .tuple ds=>xY ds+1
 |_=>0
def xY:Df->Nat
 |[]=>0
 |d::ds=>max (IS d)<|xY ds
end
mutual
def rH (h:EB):Er->Ei->Prop
 | .str x,v=>∃t,v=.str x t
 | .tuple ds,v=>∃a o b n,v=.ref a/\h.get? a=some o/\o.cls=.type "tuple"/\o.data=.seq b n/\wM h ds b.toList
 | .none,v=>v=.none
 |_,_=>False
def wM (h:EB):Df->Db->Prop
 |[],vs=>vs=[]
 |d::ds,vs=>∃v r,vs=v::r/\rH h d v/\wM h ds r
end
mutual
def UU (w:Eo):Er->Int
 | .str x=>hashStr w x
 | .tuple ds=>reduceHash<|E2<|vK w ds
 | .none=>reduceHash 0xFCA86420
 |_=>0
def vK (w:Eo):Df->List Int
 |[]=>[]
 |d::ds=>UU w d::vK w ds
end
mutual
def GU:Er->Nat
 | .tuple ds=>yZ ds+1
 |_=>1
def yZ:Df->Nat
 |[]=>0
 |d::ds=>GU d+yZ ds
end
theorem Gr (w:Eo):∀ds,vK w ds=ds.map (UU w)
 |[]=>rfl
 |d::ds=>by rw[vK,Gr w ds];rfl
theorem Xw:∀(a b:Df),yZ (a++b)=yZ a+yZ b
 |[],b=>by simp[yZ]
 |d::a,b=>by
  show GU d+yZ (a++b)=(GU d+yZ a)+yZ b;rw[Xw a b];lia
mutual
theorem rH.yw:∀(d:Er) (v:Ei),rH h d v->∃as,Reads h v d as
 | .str x,_,⟨t,e⟩=>by subst e;exact⟨_,.str x t⟩
 | .tuple ds,_,⟨a,o,vs,n,e,h1,h2,h3,h4⟩=>by
  subst e;obtain⟨as,q⟩:=wM.yw ds vs.toList h4;exact⟨_,.tuple h1 h2 h3 q⟩
 | .none,_,e=>by cases(show _=EI from e);exact⟨_,.none⟩
 | .bool _,_,q=>q.elim
 | .int _,_,q=>q.elim
 | .list _,_,q=>q.elim
 | .dict _,_,q=>q.elim
theorem wM.yw:∀(ds:Df) (vs:Db),wM h ds vs->∃as,LN h vs ds as
 |[],vs,e=>by cases(show vs=[] from e);exact⟨_,.nil⟩
 |d::ds,_,⟨v,r,e,h1,h2⟩=>by
  subst e;obtain⟨as,q⟩:=rH.yw d v h1;obtain⟨bs,b⟩:=wM.yw ds r h2;exact⟨_,.cons q b⟩
end
mutual
theorem rH.inj:∀(d e:Er) (v:Ei),rH h d v->rH h e v->d=e
 | .str x,e,v,⟨t,h1⟩,h2=>by
  subst h1;cases e with
  |str y=>obtain⟨g,q⟩:=h2;cases q;rfl
  |tuple ds=>obtain⟨a,o,b,n,q,_⟩:=h2;cases q
  |none=>cases(show _=EI from h2)
  |bool _=>exact h2.elim
  |int _=>exact h2.elim
  |list _=>exact h2.elim
  |dict _=>exact h2.elim
 | .tuple ds,e,v,⟨a,o,b,n,h1,h3,h4,h5,h6⟩,h2=>by
  subst h1;cases e with
  |str y=>obtain⟨g,q⟩:=h2;cases q
  |tuple es =>
   obtain⟨l,r,j,p,q,c,s,f,i⟩:=h2;cases q;rw[h3]at c;cases c;rw[h5]at f;cases f;rw[wM.inj ds es b.toList h6 i]
  |none=>cases(show _=EI from h2)
  |bool _=>exact h2.elim
  |int _=>exact h2.elim
  |list _=>exact h2.elim
  |dict _=>exact h2.elim
 | .none,e,v,h1,h2=>by
  cases(show v=EI from h1);cases e with
  |str y=>obtain⟨g,q⟩:=h2;cases q
  |tuple es=>obtain⟨a,o,b,n,q,_⟩:=h2;cases q
  |none=>rfl
  |bool _=>exact h2.elim
  |int _=>exact h2.elim
  |list _=>exact h2.elim
  |dict _=>exact h2.elim
 | .bool _,_,_,q,_=>q.elim
 | .int _,_,_,q,_=>q.elim
 | .list _,_,_,q,_=>q.elim
 | .dict _,_,_,q,_=>q.elim
theorem wM.inj:∀(ds es:Df) (vs:Db),wM h ds vs->wM h es vs->ds=es
 |[],[],_,_,_=>rfl
 |[],e::es,vs,h1,⟨v,r,q,_⟩=>by rw[show vs=[] from h1]at q;cases q
 |d::ds,[],vs,⟨v,r,q,_⟩,h2=>by rw[show vs=[] from h2]at q;cases q
 |d::ds,e::es,_,⟨v,r,h1,h3,h4⟩,⟨v',r',q1,q3,q4⟩=>by
  subst h1;injection q1 with b c;subst b c;rw[rH.inj d e v h3 q3,wM.inj ds es r h4 q4]
end
mutual
theorem rH.keeps {h h':EB}{dd:Ej}{c:Obj}{es:Array Ml}{ep:Nat}(b:h.get? dd=some c)(hd:c.data=.dict es ep)(hs:ES dd h h'):∀(d:Er) (v:Ei),rH h d v->rH h' d v
 | .str x,_,q=>q
 | .tuple ds,_,⟨a,o,vs,n,e,h1,h2,h3,h4⟩=>by
  have ne:a≠dd:=fun z=>by
   subst z;rw[h1]at b;cases b;rw[h3]at hd;cases hd
  exact⟨a,o,vs,n,e,(hs.2 a ne).trans h1,h2,h3,wM.keeps b hd hs ds vs.toList h4⟩
 | .none,_,q=>q
 | .bool _,_,q=>q.elim
 | .int _,_,q=>q.elim
 | .list _,_,q=>q.elim
 | .dict _,_,q=>q.elim
theorem wM.keeps {h h':EB}{dd:Ej}{c:Obj}{es:Array Ml}{ep:Nat}(b:h.get? dd=some c)(hd:c.data=.dict es ep)(hs:ES dd h h'):∀(ds:Df) (vs:Db),wM h ds vs->wM h' ds vs
 |[],_,q=>q
 |d::ds,_,⟨v,r,e,h1,h2⟩=>⟨v,r,e,rH.keeps b hd hs d v h1,wM.keeps b hd hs ds r h2⟩
end
section
variable {prog:Ek}{w:Eo}
def CH (prog:Ek)(w:Eo)(d:Er):Prop:=∀(A:EF) (E:Ei->Dh) (s:Em) (v:Ei) (Q:Int->Dh),A.units+IS d<Lc->rH s.heap d v->Q (UU w d) { s with toks:=s.toks+GU d }->El (Ep prog w) A (pyHash v) Q E s
theorem CM:∀{ds:Df} {d:Er},d∈ds->IS d<=xY ds
 |[],_,h=>nomatch h
 |e::ds,d,h=>by
  show IS d<=max (IS e) (xY ds)
  rcases Zh.mp h with rfl|h
  ·lia
  ·have:=CM h;lia
theorem KH {g:Df}(N:∀d∈g,CH prog w d):CH prog w (.tuple g):=by
 intro A E s v Q L j h;obtain⟨a,o,O,n,rfl,z,I,hd,K⟩:=j;have t:A.units<cLine:=by lia
 have l:s.TypeIs (.ref a) "tuple":=⟨o,z,I⟩;have M:A.units+(xY g+1)<cLine:=L;unfold pyHash
 first|unfold pyHashByItsType|skip
 first|refine Q4 (wpAny_cRoomFor_or (.inr t) ?_)|skip
 refine Q4<|J0 l F.slot_tuple_hash.lookup ?_;show El _ _ (if(some (Value.builtin "tuple.__hash__")==some EI)=true then _ else _) Q E s;rw[Zs (by rw[beq_builtin_none];exact ZH)];refine Q4<|J0 l F.slot_tuple_hash.lookup ?_;show El _ _ (callSpecialIfBoundUnlessNone? (.ref a) "__hash__" _>>=_) Q E s;refine Q4<|wpAny_callSpecialIfBoundUnlessNone?_slot l F.slot_tuple_hash<|Ys F.slot_tuple_hash l F.entry_tuple_hash ?_<|F.args_tuple_hash_1 _;show El _ _ (LW (.ref a)>>=_) _ _ s;refine Q4<|Ue z hd ?_;refine Q4 ?_;rw[←Vs];refine Vi _
  (fun f (b:Array Int) u=>∃done left,g=done++left/\wM s.heap left f/\b.toList=done.map (UU w)/\u={ s with toks:=s.toks+yZ done })
  _ ?_ ?_ _ _ ⟨[],g,rfl,K,rfl,by simp[yZ]⟩
 ·rintro x f b u ⟨done,left,e,hl,q,rfl⟩;cases left with
  |nil=>cases(show x::f=[] from hl)
  |cons d left =>
   obtain⟨v,r,p,G,H⟩:=hl;injection p with C D;subst C D;have y:d∈g:=by rw[e];simp
   have J:=CM y;have B:∃c i,g=c++i/\wM s.heap i f/\(b.push<|UU w d).toList=c.map (UU w)/\({ s with toks:=s.toks+yZ done+GU d }:Em)={ s with toks:=s.toks+yZ c } :=
    ⟨done++[d],left,by simp[e],H,by simp[q],by rw[Xw];simp[yZ,Nat.add_assoc]⟩
   refine Q4 (N d y A.in1 _ _ _ _ (by show A.units+1+IS d<Lc;lia) G ?_)
   first
    |exact Q7 B
    |exact Q4 (Q7<|Q7 B)
 ·rintro b u ⟨done,left,e,hl,q,rfl⟩;cases left with
  |cons d left=>obtain⟨v,r,p,_⟩:=hl;cases p
  |nil =>
   rw[ZG]at e;subst e;show El _ _ (retInt<|E2 b.toList) _ _ _;rw[q];have h:Q (reduceHash<|E2<|vK w g) { s with toks:=s.toks+(yZ g+1) }:=h;rw[Gr]at h;refine wpAny_ret_mkInt ?_;show El _ _ (if(decide (-(2:Int) ^ 63<=E2 (g.map<|UU w))&&decide (E2 (g.map<|UU w)<2 ^ 63))=true then _ else _) Q E _;unfold reduceHash at h
   by_cases j:(decide (-(2:Int) ^ 63<=E2 (g.map<|UU w))&&decide (E2 (g.map<|UU w)<2 ^ 63))=true
   ·rw[Zt j];rw[Zt j]at h;exact Q7 (by simpa[Nat.add_assoc] using h)
   ·rw[Zs j];rw[Zs j]at h;exact Q4 (JH<|Q7<|by simpa[Nat.add_assoc] using h)
mutual
theorem Nn:∀d:Er,CH prog w d
 | .str x=>fun A E s v Q _ b h=>by
  obtain⟨t,rfl⟩:=b;exact(strKind prog w).pyHash (k:=x) (by show Ld x (.str x t)=true;simp[Ld]) h
 | .tuple ds=>KH<|FX ds
 | .none=>fun A E s v Q c b h=>by
  cases(show v=EI from b);exact PySem.W.pyHash_slot (T:="NoneType") rfl F.slot_NoneType_hash F.entry_NoneType_hash (F.args_NoneType_hash_1 _) (beq_builtin_none _) (.inr<|by lia)<|Q4<|Q7<|Q4<|wpAny_mkInt<|Q7 ⟨_,_,rfl,h⟩
 | .bool _=>fun _ _ _ _ _ _ b _=>b.elim
 | .int _=>fun _ _ _ _ _ _ b _=>b.elim
 | .list _=>fun _ _ _ _ _ _ b _=>b.elim
 | .dict _=>fun _ _ _ _ _ _ b _=>b.elim
theorem FX:∀ds:Df,∀d∈ds,CH prog w d
 |[],_,h=>nomatch h
 |e::ds,d,h=>(Zh.mp h).elim (fun z=>z▸Nn e)<|FX ds d
end
mutual
theorem Ni:∀(d e:Er),UR d=true->UR e=true->EH d e=decide (d=e)
 | .str x,.str y,_,_=>by
  show(x==y)=_;rw[Yq];simp
 | .str _,.tuple _,_,_=>by rw[Zo<|by simp];rfl
 | .tuple _,.str _,_,_=>by rw[Zo<|by simp];rfl
 | .tuple ds,.tuple es,h1,h2=>by
  show E6 ds es=_;rw[FP ds es h1 h2];exact Vj.mpr (by simp)
 | .none,.none,_,_=>rfl
 | .none,.str _,_,_=>by rw[Zo<|by simp];rfl
 | .none,.tuple _,_,_=>by rw[Zo<|by simp];rfl
 | .none,.bool _,_,h=>by cases h
 | .none,.int _,_,h=>by cases h
 | .none,.list _,_,h=>by cases h
 | .none,.dict _,_,h=>by cases h
 | .bool _,_,h,_=>by cases h
 | .int _,_,h,_=>by cases h
 | .list _,_,h,_=>by cases h
 | .dict _,_,h,_=>by cases h
 | .str _,.none,_,_=>by rw[Zo<|by simp];rfl
 | .str _,.bool _,_,h=>by cases h
 | .str _,.int _,_,h=>by cases h
 | .str _,.list _,_,h=>by cases h
 | .str _,.dict _,_,h=>by cases h
 | .tuple _,.none,_,_=>by rw[Zo<|by simp];rfl
 | .tuple _,.bool _,_,h=>by cases h
 | .tuple _,.int _,_,h=>by cases h
 | .tuple _,.list _,_,h=>by cases h
 | .tuple _,.dict _,_,h=>by cases h
theorem FP:∀(ds es:Df),yW ds=true->yW es=true->E6 ds es=decide (ds=es)
 |[],[],_,_=>rfl
 |[],_::_,_,_=>rfl
 |_::_,[],_,_=>rfl
 |d::ds,e::es,b,c=>by
  have b:(UR d&&yW ds)=true:=b;have c:(UR e&&yW es)=true:=c;rw[Zi]at b c;show(EH d e&&E6 ds es)=_;rw[Ni d e b.1 c.1,FP ds es b.2 c.2,←Bool.decide_and];exact Vj.mpr (by simp)
end
mutual
theorem B7:∀d:Er,UR d=true->d.canLay0=true/\d.depth<=IS d
 | .str x,h=>⟨h,Zd _⟩
 | .tuple ds,h=>by
  obtain⟨b,c⟩:=Kf ds h;refine⟨b,?_⟩;show EG ds+1<=xY ds+1;lia
 | .none,_=>⟨rfl,Zd _⟩
 | .bool _,h=>by cases h
 | .int _,h=>by cases h
 | .list _,h=>by cases h
 | .dict _,h=>by cases h
theorem Kf:∀ds:Df,yW ds=true->Ev ds=true/\EG ds<=xY ds
 |[],_=>⟨rfl,Zd _⟩
 |d::ds,h=>by
  have h:(UR d&&yW ds)=true:=h;rw[Zi]at h;obtain⟨b,e⟩:=B7 d h.1;obtain⟨c,f⟩:=Kf ds h.2;refine⟨?_,?_⟩
  ·show(d.canLay0&&Ev ds)=true;rw[b,c];rfl
  ·show max d.depth (EG ds)<=max (IS d) (xY ds);lia
end
def XW (prog:Ek)(w:Eo)(d:Er):Prop:=∀(A:EF) (E:Ei->Dh) (s:Em) (v:Ei) (n:Nat) (Q:Bool->Dh),IS d<=n->rH s.heap d v->Q true s->El (Ep prog w) A (eqIsQuiet n v) Q E s
theorem HJ {c:Df}(I:∀d∈c,XW prog w d):XW prog w (.tuple c):=by
 intro A E s v n Q p g h;obtain⟨a,o,t,m,rfl,q,D,hd,H⟩:=g;have j:s.TypeIs (.ref a) "tuple":=⟨o,q,D⟩;have p:xY c+1<=n:=p;obtain⟨n,rfl⟩:∃k,n=k+1:=⟨n-1,by lia⟩;unfold eqIsQuiet;refine Q4<|J0 j F.slot_tuple_eq.lookup ?_;show El _ _ (isInstance (.ref a) (.type "tuple")>>=_) _ _ s;refine Q4<|Y0 j isSubtype_tuple_tuple ?_;simp only[Vm,ZU,Js];refine Q4<|wpAny_seqItems q hd ?_;refine Q4 ?_;show El _ _ (forIn t _ _) _ _ s;rw[←Vs];refine Vi _ (fun b r i=>r.1=none/\i=s/\∃left,(∀d∈left,d∈c)/\wM s.heap left b) _ ?_ ?_ _ _ ⟨rfl,rfl,c,fun _ z=>z,H⟩
 ·rintro v b r i ⟨g,rfl,left,l,hl⟩;cases left with
  |nil=>cases(show v::b=[] from hl)
  |cons d left =>
   obtain⟨M,J,y,B,C⟩:=hl;injection y with u x;subst u x;have f:=l d Zc;have:=CM f;refine Q4 (I d f A _ i _ n _ (by lia) B ?_);simp only[Vm,ZU,Js];exact Q7 ⟨rfl,rfl,left,fun e G=>l e<|Q9 _ G,C⟩
 ·rintro⟨K,L⟩ i ⟨g,rfl,_⟩;simp only at g;subst g;exact Q7 h
mutual
theorem HI:∀d:Er,XW prog w d
 | .str x=>fun A E s v n Q _ b h=>by
  obtain⟨t,rfl⟩:=b;rw[eqIsQuiet_byValue _<|by rfl];exact Q7 h
 | .tuple ds=>HJ<|Bs ds
 | .none=>fun A E s v n Q _ b h=>by
  cases(show v=EI from b);rw[eqIsQuiet_byValue _<|by rfl];exact Q7 h
 | .bool _=>fun _ _ _ _ _ _ _ b _=>b.elim
 | .int _=>fun _ _ _ _ _ _ _ b _=>b.elim
 | .list _=>fun _ _ _ _ _ _ _ b _=>b.elim
 | .dict _=>fun _ _ _ _ _ _ _ b _=>b.elim
theorem Bs:∀ds:Df,∀d∈ds,XW prog w d
 |[],_,h=>nomatch h
 |e::ds,d,h=>(Zh.mp h).elim (fun z=>z▸HI e)<|Bs ds d
end
def yL (prog:Ek)(w:Eo):HeapKind prog w Er where
 is:=fun h d a=>rH h d (.ref a)/\UR d=true/\IS d<=6
 hash:=UU w
 draws:=GU
 room:=fun A=>A.units+8<Lc
 inj:=fun c g=>rH.inj _ _ _ c.1 g.1
 keeps:=fun x j hd l=>⟨rH.keeps j hd l _ _ x.1,x.2⟩
 pyHash:=fun n f h=>Nn _ _ _ _ _ _ (by have:=f.2.2;lia) f.1 h
 eqBool:=fun{A E s x y a b Q} n c g h=>by
  obtain⟨i,q⟩:=rH.yw _ _ c.1;obtain⟨bs,r⟩:=rH.yw _ _ g.1;obtain⟨o,t⟩:=B7 _ c.2.1;obtain⟨p,u⟩:=B7 _ g.2.1;have e:=SeqAt.eqAt_reads x y A s _ _ i bs q r o p (by have:=c.2.2;lia);rw[Ni _ _ c.2.1 g.2.1]at e;exact e prog w E Q h
 quiet:=fun f h=>HI _ _ _ _ _ _ _ (by have:=f.2.2;lia) f.1 h
end
def Gs (d:Ej)(es:List Ml):HO:=.ext fun h=>∃o b,h.get? d=some o/\o.ExactDict/\o.data=.dict es.toArray b/\(d==EV)=false
theorem NN {h:EB}{d:Ej}{es:List Ml}{o:Obj}{ep:Nat}(c:h.get? d=some o)(f:o.ExactDict)(g:o.data=.dict es.toArray ep)(i:(d==EV)=false):yp P w H h d (Gs d es) :=
 ⟨⟨o,ep,c,f,g,i⟩,⟨o,c⟩,fun _ _ ⟨e,b,j,l⟩ k=>⟨e,b,k e j,l⟩⟩
mutual
theorem Dt.other {K:Ca}(n:∀xs,¬Rd H d (.tup xs)):∀(k:Er) (v:V),UR k=true->Dt K H k v->Dt K (upd H d o) k v
 | .str x,_,_,h=>h
 | .tuple ds,_,t,⟨a,xs,h1,b,h3⟩=>by
  refine⟨a,xs,h1,?_,zy.other n ds xs t h3⟩
  rcases b with b|b
  ·have ne:a≠d:=fun z=>n xs<|z▸b
   left
   unfold Rd;rwa[zG ne]
  ·exact .inr b
 | .none,_,_,h=>h
 | .bool _,_,t,_=>by cases t
 | .int _,_,t,_=>by cases t
 | .list _,_,t,_=>by cases t
 | .dict _,_,t,_=>by cases t
theorem zy.other {K:Ca}(n:∀xs,¬Rd H d (.tup xs)):∀(ks:Df) (vs:Dj),yW ks=true->zy K H ks vs->zy K (upd H d o) ks vs
 |[],_,_,h=>h
 |k::ks,_,t,⟨x,r,h1,h2,h3⟩=>by
  have t:(UR k&&yW ks)=true:=t;rw[Zi]at t;exact⟨x,r,h1,Dt.other n k x t.1 h2,zy.other n ks r t.2 h3⟩
end
section
variable {X:Cx}{Do:De}{σ:St}{H:Hp}{s:Em}
mutual
theorem Dt.lX (I:Inv X Do σ H s):∀(d:Er) (v:V) (u:Ei),UR d=true->Dt X.K H d v->yq v u->rH s.heap d u
 | .str x,_,u,_,h,r=>by
  cases(show _=V.str x from h);exact r
 | .tuple ds,_,u,t,⟨a,xs,h1,h2,h3⟩,r=>by
  subst h1;cases(show u=Ez a from r);obtain⟨b,f,⟨o,e,c,n,d⟩,_⟩:=I.tuple h2;exact⟨a,o,b.toArray,n,rfl,e,c,d,by simpa using zy.lX I ds xs b t h3 f⟩
 | .none,_,u,_,h,r=>by cases(show _=V.non from h);exact r
 | .bool _,_,_,t,_,_=>by cases t
 | .int _,_,_,t,_,_=>by cases t
 | .list _,_,_,t,_,_=>by cases t
 | .dict _,_,_,t,_,_=>by cases t
theorem zy.lX (I:Inv X Do σ H s):∀(ds:Df) (xs:Dj) (us:Db),yW ds=true->zy X.K H ds xs->yr xs us->wM s.heap ds us
 |[],_,us,_,h,r=>by
  cases(show _=[] from h);cases r;exact rfl
 |d::ds,_,us,t,⟨x,r,h1,h2,h3⟩,rv=>by
  have t:(UR d&&yW ds)=true:=t;rw[Zi]at t;subst h1;cases rv with
  |cons r1 r2=>exact⟨_,_,rfl,Dt.lX I d x _ t.1 h2 r1,zy.lX I ds r _ t.2 h3 r2⟩
end
def Xd (k:Er):Prop:=UR k=true/\IS k<=6
def wL (K:Ca)(H:Hp)(p:Er×V)(q:Er×Ej×Ei):Prop:=p.1=q.1/\Dt K H p.1 (.ref q.2.1)/\yq p.2 q.2.2
def pG (P:Ek)(w:Eo)(K:Ca)(H:Hp)(d:Ej)(ps:List<|Er×V):Prop :=
 ps.length<=10000/\(∀p∈ps,Xd p.1)/\(ps.map (·.1)).Nodup/\∃b:List<|Er×Ej×Ei,H d=some (Gs d<|b.map<|L8<|yL P w)/\Lp (wL K H) ps b
theorem wL.keys {K:Ca}:∀{ps:List (Er×V)} {xs:List (Er×Ej×Ei)},Lp (wL K H) ps xs->xs.map (·.1)=ps.map (·.1)
 |_,_,.nil=>rfl
 |_,_,.cons r t=>by rw[Zv,Zv,wL.keys t,r.1]
theorem wL.at {K:Ca}{k:Er}:∀{ps:List (Er×V)} {xs:List (Er×Ej×Ei)},Lp (wL K H) ps xs->(atKey xs k=none/\Us ps k=none)\/∃p v,atKey xs k=some p/\Us ps k=some v/\yq v p.2
 |_,_,.nil=>.inl ⟨rfl,rfl⟩
 |p::ps,q::xs,.cons r t=>by
  unfold atKey Us;rw[YN,YN];have e:p.1=q.1:=r.1
  by_cases h:q.1=k
  ·rw[Zf h,Zf<|show p.1=k by rwa[e]];exact .inr ⟨q.2,p.2,rfl,rfl,r.2.2⟩
  ·rw[Zo h,Zo<|show¬p.1=k by rwa[e]];exact wL.at t
theorem wL.is (I:Inv X Do σ H s):∀{ps:List (Er×V)} {xs:List (Er×Ej×Ei)},(∀p∈ps,Xd p.1)->Lp (wL X.K H) ps xs->∀x∈xs,(yL X.prog X.w).is s.heap x.1 x.2.1
 |_,_,_,.nil,x,h=>nomatch h
 |p::ps,q::xs,hk,.cons r t,x,h=>by
  rcases Zh.mp h with rfl|h
  ·obtain⟨b,d⟩:=hk p Zc;rw[←r.1];exact⟨Dt.lX I _ _ _ b r.2.1 rfl,b,d⟩
  ·exact wL.is I (fun p c=>hk p<|Q9 _ c) t x h
theorem pG.heap (I:Inv X Do σ H s)(T:pG X.prog X.w X.K H d ps):∃xs,H d=some (Gs d<|xs.map<|L8<|yL X.prog X.w)/\Lp (wL X.K H) ps xs/\s.heap.DictOfH (yL X.prog X.w) d xs/\(d==EV)=false:=by
 obtain⟨hl,i,nd,xs,e,r⟩:=T;obtain⟨⟨o,b,c,f,g,h⟩,_⟩:(∃o b,s.heap.get? d=some o/\o.ExactDict/\o.data=.dict (xs.map<|L8<|yL X.prog X.w).toArray b/\(d==EV)=false)/\_:=I.hok d _ e;exact⟨xs,e,r,⟨o,_,b,c,f,g,by simp,wL.is I i r,by rw[wL.keys r];exact nd⟩,h⟩
theorem RE {A:EF}(b:A.units+64<Lc)(prog:Ek)(w:Eo):(yL prog w).room A.in1:=by
 show A.units+1+8<Lc;lia
theorem key_is (I:Inv X Do σ H s){k:Er}{a:Ej}(b:Xd k)(h:Dt X.K H k<|.ref a):(yL X.prog X.w).is s.heap k a:=⟨Dt.lX I _ _ _ b.1 h rfl,b⟩
end
section
variable {X:Cx}{K:Ca}
def ck (P:Ek)(w:Eo)(K:Ca):R2:=fun y x H Q=>∃a d b k,y=.ref a/\x=.ref d/\pG P w K H d b/\Xd k/\Dt K H k (.ref a)/\Q (.bl (Us b k).isSome) H
theorem Wt (f:X.A.units+64<Lc):Ct X (EZ .In) (ck X.prog X.w X.K):=by
 intro j s o H y x v u Q I i g h;obtain⟨a,d,l,k,rfl,rfl,T,e,c,q⟩:=h;cases i;cases g;obtain⟨n,_,r,b,hd⟩:=T.heap I;refine wpAny_in_heap (RE f _ _) (key_is I e c) hd b ⟨.bl _,H,I.tok _,?_,q⟩
 rcases wL.at (k:=k) r with⟨e1,e2⟩|⟨p,v,e1,e2,_⟩
 ·rw[e1,e2];rfl
 ·rw[e1,e2];rfl
def bq (P:Ek)(w:Eo)(K:Ca)(g ty:TE):TE:=fun e H Q=>g e H fun x f=>ty e f fun y b=>∃a d c k v,x=.ref d/\y=.ref a/\pG P w K b d c/\Xd k/\Dt K b k (.ref a)/\Us c k=some v/\Q v b
theorem SM {pos:Pos}(D:X.A.units+64<Lc)(C:PE X o td)(z:PE X i ty)(hs:R4 i):PE X (.Subscript o i pos) (bq X.prog X.w X.K td ty):=by
 intro c s g H Q I h;refine Fh PySem.F.slot_dict_getitem.lookup hs<|Cf (C c s g H _ I h) fun u N ⟨x,j,n,L,G⟩=>Cf (z c N g j _ n G) fun E P ⟨y,l,b,M,a,d,O,k,v,ex,q,T,B,t,f,J⟩=>?_;subst ex q;obtain rfl:u=Ez d:=L;obtain rfl:E=Ez a:=M;obtain⟨R,_,r,e,hd⟩:=T.heap b;refine⟨e.typeIs,?_⟩
 rcases wL.at (k:=k) r with⟨e1,e2⟩|⟨p,v',e1,e2,rv⟩
 ·rw[f]at e2;cases e2
 ·rw[f]at e2;cases e2;exact wpAny_getItem_heap (RE D _ _) (key_is b B t) e e1 ⟨v,l,b.tok _,rv,J⟩
def aZ (P:Ek)(w:Eo)(K:Ca)(i ty j:TE):TS:=fun D c H=>j c H fun v f=>i c f fun x g=>ty c g fun y b=>∃a d e k,x=.ref d/\y=.ref a/\pG P w K b d e/\e.length<10000/\Xd k/\Dt K b k (.ref a) /\
 ∀o,pG P w K (upd b d o) d (ye e k v)->(∃h,o=Gs d h)->D.nx c (upd b d o)
theorem kY {α b:Type}{F:α->b->Prop}:∀{l l':List α} {m m':List b},Lp F l m->Lp F l' m'->Lp F (l++l') (m++m')
 |_,_,_,_,.nil,h=>h
 |_,_,_,_,.cons r t,h=>.cons r<|kY t h
theorem wL.repl {K:Ca}{k:Er}(b:yq v u):∀{ps:List (Er×V)} {xs:List (Er×Ej×Ei)},Lp (wL K H) ps xs->Lp (wL K H) (ps.map fun p=>if p.1=k then(p.1,v) else p) (xs.map<|putAt k u)
 |_,_,.nil=>.nil
 |p::ps,q::xs,.cons r t=>by
  rw[Zv,Zv];refine .cons ?_<|wL.repl b t;have e:p.1=q.1:=r.1;unfold putAt
  by_cases h:q.1=k
  ·rw[Zt h,Zt<|show p.1=k by rwa[e]];exact⟨r.1,r.2.1,b⟩
  ·rw[Zs h,Zs<|show¬p.1=k by rwa[e]];exact r
theorem wL.put {K:Ca}{a:Ej}{ps:List (Er×V)}{xs:List (Er×Ej×Ei)}(r:Lp (wL K H) ps xs)(g:Dt K H k<|.ref a)(f:yq v u):Lp (wL K H) (ye ps k v) (storedH xs k a u):=by
 have e:(ps.any fun b=>decide (b.1=k))=(atKey xs k).isSome:=by
  rcases wL.at (k:=k) r with⟨e1,e2⟩|⟨p,v',e1,e2,_⟩
  ·rw[e1];refine Yd.mpr fun z=>?_;obtain⟨b,d,c⟩:=Yc.mp z;exact IZ e2<|Za.mpr ⟨b,d,Zr c⟩
  ·obtain⟨b,d,c⟩:=Za.mp<|uI e2;rw[e1,Yc.mpr ⟨b,d,Zf c⟩];rfl
 unfold ye storedH;rw[e]
 split
 ·exact wL.repl f r
 ·exact kY r (.cons ⟨rfl,g,f⟩ .nil)
theorem Ry {ps:List (Er×V)}(h:∀p∈ps,Xd p.1)(d:Xd k):∀p∈ye ps k v,Xd p.1:=by
 unfold ye
 split
 ·intro p b;obtain⟨q,c,rfl⟩:=Za.mp b
  split
  ·exact h q c
  ·exact h q c
 ·intro p b
  rcases Zy.mp b with b|b
  ·exact h p b
  ·rwa[Q6.mp b]
theorem SW {ps:List (Er×V)}(h:(ps.map (·.1)).Nodup):((ye ps k v).map (·.1)).Nodup:=by
 unfold ye
 split
 ·have e:(ps.map fun b=>if b.1=k then(b.1,v) else b).map (·.1)=ps.map (·.1):=by
   rw[ZB];refine Yp fun p _=>?_;show(if p.1=k then(p.1,v) else p).1=p.1
   split<;>rfl
  rwa[e]
 ·rename_i c;rw[Zg];refine jL h fun z=>c ?_;obtain⟨p,d,e⟩:=Za.mp z;exact Yc.mpr ⟨p,d,Zf e⟩
theorem SR {pos F:Pos}(hu:X.A.units+64<Lc)(ho:PE X o td)(hi:PE X i ty)(hv:PE X value tv)(hs:Mz value (some<|.Subscript o i F) pos.line X.env=Lo false) :
  PS X (.Assign [.Subscript o i F] value pos) (aZ X.prog X.w X.K td ty tv):=by
 intro n s l H D I h;refine wpAny_Assign_Subscript (Cf (hv n s l H _ I h) fun r s1 ⟨v,M,O,rv,q1⟩=>Cf (ho n s1 l M _ O q1) fun u s2 ⟨x,N,P,rx,q2⟩=>Cf (hi n s2 l N _ P q2) fun iv s3 ⟨y,f,q,ry,a,d,c,k,ex,U,T,hl,C,J,q3⟩=>?_) hs;subst ex U;obtain rfl:u=Ez d:=rx;obtain rfl:iv=Ez a:=ry;obtain⟨b,e,j,R,hd⟩:=T.heap q;have hz:b.length<=sizeLine:=by rw[←Paired.length j];exact An.zr (by lia)
 refine wpAny_setItem_heap (hsz:=hz) (RE hu _ _) (key_is q C J) R fun h' t E=>?_;obtain⟨L,es,S,G,Y,Z,g4,_,_⟩:=t;have B:L.data=.dict ((storedH b k a r).map<|L8<|yL X.prog X.w).toArray S:=by rw[Z,←g4]
 have mu:TV (f d):=by rw[e];exact Ls
 have Q:=XX (t':=s3.toks+(yL X.prog X.w).draws k) q mu E ⟨L,G⟩<|NN (H:=upd f d<|Gs d<|(storedH b k a r).map<|L8<|yL X.prog X.w) G Y B hd;have nt:∀b,¬Rd f d (.tup b):=fun ys z=>by
  rcases z with z|⟨o',z⟩
  ·rw[e]at z;cases z
  ·rw[e]at z;cases z
 refine⟨l,_,Q,q3 _ ⟨?_,Ry T.2.1 C,SW T.2.2.1,storedH b k a r,zC,?_⟩ ⟨_,rfl⟩⟩
 ·have:=qI c k v;lia
 ·have r2:Lp (wL X.K<|upd f d<|Gs d<|(storedH b k a r).map<|L8<|yL X.prog X.w) c b:=by
   have key:∀{c:List (Er×V)} {b:List (Er×Ej×Ei)},(∀p∈c,Xd p.1)->Lp (wL X.K f) c b->∀o,Lp (wL X.K<|upd f d o) c b:=by
    intro c b g r
    induction r with
    |nil=>intro _;exact .nil
    |cons r1 _ ih=>intro o;exact .cons ⟨r1.1,Dt.other nt _ _ (g _ Zc).1 r1.2.1,r1.2.2⟩<|ih (fun p hp=>g p<|Q9 _ hp) o
   exact key T.2.1 j _
  exact wL.put r2 (Dt.other nt _ _ C.1 J) rv
theorem Rn {pos:Pos}:PE X (.Dict [] [] pos) (fun _ H Q=>∀p o,H p=none->pG X.prog X.w X.K (upd H p o) p []->(∃es,o=Gs p es)->Q (.ref p) (upd H p o)):=by
 intro d s e H Q I h;have c:H s.heap.objs.size=none:=I.hok.fresh<|Zd _;have b:(s.heap.objs.size==EV)=false:=YH.mpr<|EK<|Zu I.big;exact wpAny_Dict_empty ⟨.ref s.heap.objs.size,_,I.laid (a:=s.heap.objs.size) (o:=Gs s.heap.objs.size []) (t':=s.toks) (fun _ _ q=>Q8 _ q) (Zd _)<|NN (ep:=0) (Zk _ rfl) ⟨rfl,rfl,rfl⟩ rfl b,rfl,h _ _ c ⟨ZD _,fun _ z=>(nomatch z),YM,[],zC,.nil⟩ ⟨_,rfl⟩⟩
end
structure Met (P:Ek)(w:Eo)(K:Ca)(mg:Str->Dc)(base:EB)(C:Ej)(k:Nat)(m:Str)(ps:Da)(sp:Sp):Prop where
 ex:∃(f:Ej) (fd:Et),yu P w K mg base Ck k f fd ps sp/\Meth K C m f/\wU K fd ps []
structure sZ (P:Ek)(w:Eo)(K:Ca)(mg:Str->Dc)(base:EB)(C:Ej)(k:Nat)(m:Str)(ps:Da)(sp:Sp):Prop where
 ex:∃(f:Ej) (fd:Et),yu P w K mg base (CC P w) k f fd ps sp/\Meth K C m f/\wU K fd ps []
def WU (C:Ej)(m:Str)(sp:Sp)(R:St->Hp->Ei->Prop)(g:TE)(t:TA):TE:=fun b H Q=>g b H fun x c=>∃a f fs,x=.ref a/\c a=some (.ins C f fs)/\fs.lookup m=none /\
 t b c fun h e=>sp (x::h) e Q<|fun cls _ d=>R b d cls
section
variable {X:Cx}{C:Ej}{k:Nat}{m:Str}{ps:Da}{sp:Sp}{o e:EN}{es:List EN}{ta:TE}{t:TA}{Dr pos:Pos}{R:St->Hp->Ei->Prop}
theorem XL {pl:Sem Bool}(i:PE X o ta)(c:Cls X.K C)(M:Met X.prog X.w X.K X.mg X.base C k m ps sp)(l:xu k X.A)(g:PA X (e::es) t)
  (d:Ey (e::es) X.env=(false,E8 e X.env)::Ey es X.env:=by rfl) (b:(Lh pos<|Ey es X.env).any (·.1)=false:=by rfl)
  (n:E8 (.Call (.Attribute o m Dr) (e::es) [] pos) X.env=(do
   let ov ←E8 o X.env
   standAt Dr.atName
   let (f,first) ←holding [ov] (MA ov m pl)
   callWith pos f first (Lh pos<|Ey (e::es) X.env) (Mn pos<|LK [] X.env)):=by rfl) :
  PE X (.Call (.Attribute o m Dr) (e::es) [] pos) (N0 C m sp [] E0 ta t):=by
 obtain⟨f,p,F,j,h⟩:=M.ex;exact SL (pl:=pl) i c j F l h .nil NF g d b n
theorem Ro {pl:Sem Bool}(d:PE X o ta)(c:Cls X.K C)(M:Met X.prog X.w X.K X.mg X.base C k m ps sp)(g:xu k X.A)
  (h:E8 (.Call (.Attribute o m Dr) [] [] pos) X.env=(do
   let ov ←E8 o X.env
   standAt Dr.atName
   let (f,first) ←holding [ov] (MA ov m pl)
   callWith pos f first (Lh pos<|Ey [] X.env) (Mn pos<|LK [] X.env)):=by rfl) :
  PE X (.Call (.Attribute o m Dr) [] [] pos) (N0 C m sp [] E0 ta UN):=by
 obtain⟨f,i,F,e,b⟩:=M.ex;exact Rp (pl:=pl) d c e F g b .nil NF h
theorem qB {pl:Sem Bool}(D:PE X o ta)(c:Cls X.K C)(M:sZ X.prog X.w X.K X.mg X.base C k m ps sp)(E:xu k X.A)(J:Raises X R)(z:PA X (e::es) t)
  (d:Ey (e::es) X.env=(false,E8 e X.env)::Ey es X.env:=by rfl) (b:(Lh pos<|Ey es X.env).any (·.1)=false:=by rfl)
  (G:E8 (.Call (.Attribute o m Dr) (e::es) [] pos) X.env=(do
   let ov ←E8 o X.env
   standAt Dr.atName
   let (f,first) ←holding [ov] (MA ov m pl)
   callWith pos f first (Lh pos<|Ey (e::es) X.env) (Mn pos<|LK [] X.env)):=by rfl) :
  PE X (.Call (.Attribute o m Dr) (e::es) [] pos) (WU C m sp R ta t):=by
 obtain⟨f,T,F,n,B⟩:=M.ex;intro g s p H Q I h;refine VH (pl:=pl) (Cf (D g s p H _ I h) fun u O ⟨x,v,i,N,a,S,fs,ex,y,l,q⟩=>?_) G;subst ex;obtain rfl:u=Ez a:=N;refine uH i y c n l ?_;refine JR (first:=[.ref a]) (h₀:=X.base) I.ok.mod.mW n.kp (Cf (z pos g O p v _ i q) fun us U ⟨vs,P,j,r,L⟩=>⟨j.vq,?_⟩) d b;exact NW (us:=.ref a::us) (vs:=.ref a::vs) F E B J j (.cons rfl r) L
end
structure jo (P:Ek)(w:Eo)(K:Ca)(mg:Str->Dc)(base:EB)(C:Ej)(k:Nat)(x:Str)(ps:Da)(sp:Sp):Prop where
 ex:∃(f:Ej) (fd:Et),yu P w K mg base Ck k f fd ps sp/\Mk K C f/\wU K fd ps []/\mg x=some (.ref C)
theorem SJ {X:Cx}{e:EN}{es:List EN}{p pos:Pos}(M:jo X.prog X.w X.K X.mg X.base C k x ps sp)(l:xu (k+1) X.A)(d:PA X (e::es) t)(i:Gl X x:=by rfl)
  (b:(x==("__debug__":Str))=false:=by decide) (h:Ey (e::es) X.env=(false,E8 e X.env)::Ey es X.env:=by rfl) (c:(Lh pos<|Ey es X.env).any (·.1)=false:=by rfl) :
  PE X (.Call (.Name x p) (e::es) [] pos) (TM C sp [] E0 t):=by
 obtain⟨f,o,F,j,g,n⟩:=M.ex;exact SK j F l i n g .nil NF d b h c
theorem CK (x:Str)(i j:Nat):An.cs (Lm x i j)=((An.cs x).take j).drop i:=by
 show(x.cps.extract i j).toList=_;rw[Array.toList_extract,List.extract_eq_drop_take,List.drop_take]
theorem XG (x:Str)(c i:Nat)(t u:Tok)(r:List Nat)(d:E7 x ⟨#[c]⟩ 0 x.length 1=i::r)(hz:x.length<=100000):Meets (Builtin.«str.partition» ⟨[.str x t,.str ⟨#[c]⟩ u],[]⟩)
  (fun _ R s=>R (.ok<|.ret<|.ref s.heap.objs.size) { s with heap:=s.heap.push { cls:=.type "tuple",data:=.seq #[.str (Lm x 0 i) s.toks,.str ⟨#[c]⟩ u,.str (Lm x (i+1) x.length)<|s.toks+1] },toks:=s.toks+1+1 }) :=
 .of_wp fun prog w A R s h=>by
  obtain⟨b,e⟩:=partition_tree x ⟨#[c]⟩ t u;rw[e,Zs<|show¬((⟨#[c]⟩:Str).length==0)=true from(by show¬(1==0)=true;decide),d];have f:(Lm x 0 i).length<=sizeLine:=by
   rw[An.zm,CK,Yz,Zx];refine An.zr ?_;rw[←An.zm];lia
  have g:(Lm x (i+(⟨#[c]⟩:Str).length) x.length).length<=sizeLine:=by
   rw[An.zm,CK,Yz,Zx];refine An.zr ?_;rw[←An.zm];lia
  refine Q4<|wpAny_mkStr ?_ f;refine Q4<|wpAny_mkStr ?_ g;refine Q4 (Uf ?_ (by show 3<=sizeLine;decide));exact Q7 ⟨_,rfl,h⟩
section
variable {X:Cx}
def TC:V->Dj->Hp->VK->Prop:=fun x b H Q=>∃(u v:Str) (c:Nat),x=.str (u++⟨#[c]⟩++v)/\b=[.str ⟨#[c]⟩]/\c∉An.cs u/\(u++⟨#[c]⟩++v).length<=100000/\∀p,H p=none->Q (.ref p) (upd H p<|.tup [.str u,.str ⟨#[c]⟩,.str v])
theorem uQ:R3 X "str.partition" TC:=by
 intro A s D H x C v B Q I y u h;obtain⟨a,b,c,rfl,rfl,n,p,q⟩:=h;obtain⟨t,rfl⟩:=y;obtain⟨w,rfl,t',rfl⟩:=wW u;have d:An.cs (a++⟨#[c]⟩++b)=An.cs a++c::An.cs b:=by
  rw[An.zp,An.zp];show An.cs a++[c]++An.cs b=_;simp
 have e:(An.cs<|a++⟨#[c]⟩++b)[(An.cs a).length]?=some c:=by rw[d];simp
 have i:∃r,E7 (a++⟨#[c]⟩++b) ⟨#[c]⟩ 0 (a++⟨#[c]⟩++b).length 1=(An.cs a).length::r:=by
  rcases StrLaws.occ_head_from (a++⟨#[c]⟩++b) ⟨#[c]⟩ 0 1 (Zd 1) with⟨h0,f⟩|⟨k,r,h0,hlo,hk,f⟩
  ·exact absurd ((Mh _ c _).mpr e) (f _<|ZD _)
  ·have g:=(Mh _ c k).mp hk;have g:(An.cs<|a++⟨#[c]⟩++b)[k]?=some c:=g
   rcases Uo k (An.cs a).length with z|z|z
   ·rw[d,ZS z]at g;exact absurd (Zm g) n
   ·exact⟨r,by rw[h0,z]⟩
   ·exact absurd ((Mh _ c _).mpr e) (f _ (ZD _) z)
 obtain⟨r,i⟩:=i;refine VS F.slot_str_partition (Vc s _ t) F.entry_str_partition (F.args_str_partition_2 _ _) (XG _ c _ t t' r i p) ?_;have j:Lm (a++⟨#[c]⟩++b) 0 (An.cs a).length=a:=An.wY (by rw[CK,d,Ud,List.take_left]);have l:Lm (a++⟨#[c]⟩++b) ((An.cs a).length+1) (a++⟨#[c]⟩++b).length=b:=An.wY (by
  rw[CK,An.zm,ZF,d];rw[show An.cs a++c::An.cs b=(An.cs a++[c])++An.cs b by simp];rw[show(An.cs a).length+1=(An.cs a++[c]).length by simp];exact List.drop_left)
 rw[j,l];have f:H s.heap.objs.size=none:=I.hok.fresh<|Zd _;refine⟨.ref s.heap.objs.size,_,I.laid (t':=s.toks+1+1) (a:=s.heap.objs.size) (o:=.tup [.str a,.str ⟨#[c]⟩,.str b]) (fun _ _ q=>Q8 _ q) (Zd _) ?_,rfl,q _ f⟩;exact⟨by show 3<=sizeLine;decide,_,.cons ⟨_,rfl⟩<|.cons ⟨_,rfl⟩<|.cons ⟨_,rfl⟩ .nil,⟨_,Zk _ rfl,rfl,_,rfl,rfl⟩⟩
def UD (n:Nat):Str:=EX<|L4 ((n:Nat):Int)
theorem Oa:xf X (.type "int") (fun xs H Q=>∃n:Nat,xs=[.str<|UD n]/\n<10000000000/\Q (.int n) H):=by
 intro b s e H xs d Q I r h;obtain⟨n,rfl,c,q⟩:=h;obtain⟨u,rfl,t,rfl⟩:=wW r;exact PySem.W.KIN.call_num (by lia) (by lia) ⟨.int n,H,I.tok _,⟨_,rfl⟩,q⟩
def tF3 (e:TE)(y:Str)(f:TE):TE:=fun b H Q=>e b H fun v c=>∃x:Str,v=.str x/\x.length<=100000/\y.length<=1000/\f b c fun u d=>∃n:Nat,u=.int n/\n<1000000/\Q (.str<|x++y++UD n) d
theorem aR {y:Str}{k:Nat}{C i D pos:Pos}(A:PE X e1 t1)(B:PE X e2 t2):PE X (.JoinedStr [.FormattedValue e1 (-1) none C,.Constant (.str y) k i,.FormattedValue e2 (-1) none D] pos) (tF3 t1 y t2):=by
 intro c s d H Q I h;refine JoinedStr_many<|joinParts_cons<|FormattedValue_plain<|Cf (A c s d H _ I h) fun v P ⟨Z,f,p,F,x,ex,xl,yl,E⟩=>?_;subst ex;obtain⟨t,rfl⟩:=F;refine formatField_str (fun S M=>⟨?_,?_⟩) (An.zr<|by lia)
 ·show(Mj++x).length<=sizeLine;rw[An.yg];exact An.zr (by show 0+x.length<=_;lia)
 refine joinParts_cons<|Cf ((zq:PE X (.Constant (.str y) k i) _) c _ d f (fun v j=>v=.str y/\j=f) (p.tok M) ⟨rfl,rfl⟩) fun U K ⟨x2,l,q,G,e2,u⟩=>?_;subst e2 u;obtain⟨L,rfl⟩:=G;refine⟨?_,?_⟩
 ·show(Mj++x++y).length<=sizeLine;rw[An.yg,An.yg];exact An.zr (by show 0+x.length+y.length<=_;lia)
 refine joinParts_cons<|FormattedValue_plain<|Cf (B c K d l _ q E) fun Y R ⟨x3,o,r,J,n,w,N,O⟩=>?_;subst w;obtain⟨T,rfl⟩:=J;have b:((n:Int)).natAbs.log2<1920:=by
  rw[Ug]
  rcases JW n with z|z
  ·subst z;decide
  ·have:n.log2<20:=(Nat.log2_lt<|by lia).mpr (by lia);lia
 have g:(Mj++x++y++UD n).length<=sizeLine:=by
  rw[An.yg,An.yg,An.yg];have:=VU b;exact An.zr (by show 0+x.length+y.length+(UD n).length<=_;have e:(UD n).length<=1921:=this;lia)
 refine formatField_int_small b ⟨g,joinParts_nil ⟨.str _,o,r.tok _,⟨_,rfl⟩,?_⟩ g⟩;have e:Mj++x++y++(EX<|L4 (n:Int))=x++y++UD n:=An.wY (by
  rw[An.zp,An.zp,An.zp,An.zp,An.zp];rfl)
 rwa[e]
end
end L2
namespace An
open PySem L2
def UK (c:Nat):Bool:=decide (32<=c)&&decide (c<=126)&&decide (c≠37)
def UT (x:Str):Bool:=decide (x.length<=20)&&(cs x).all UK
def UO (c:Nat):Bool:=decide (97<=c)&&decide (c<=122)
def zV (x:Str):Bool:=decide (1<=x.length)&&decide (x.length<=8)&&(cs x).all UO
def U3:Er->Bool
 | .str x=>UT x
 |_=>false
def Xg:Er->Bool
 | .tuple ds=>ds.all U3
 |_=>false
def uR:Er->Bool
 | .str x=>zV x
 |_=>false
def BH:Er->Bool
 | .str _=>true
 |_=>false
def UY:Er->Bool
 | .tuple [l,n]=>uR l&&BH n
 |_=>false
mutual
def small:Er->Bool
 | .str x=>decide (x.length<=1000)
 | .list ds=>decide (ds.length<=1000)&&yF ds
 | .tuple ds=>decide (ds.length<=1000)&&yF ds
 |_=>true
def yF:Df->Bool
 |[]=>true
 |d::ds=>small d&&yF ds
end
theorem y7:∀{ds:Df} {i:Nat} {d:Er},yF ds=true->ds[i]?=some d->small d=true
 |[],_,_,_,h=>by cases h
 |e::ds,0,d,h,q=>by
  have h:(small e&&yF ds)=true:=h;have q:e=d:=Option.some.inj q;rw[Zi]at h;rw[←q];exact h.1
 |e::ds,i+1,d,h,q=>by
  have h:(small e&&yF ds)=true:=h;rw[Zi]at h;exact y7 h.2 (by simpa using q)
theorem qY {b:Df}(h:small (.tuple b)=true):b.length<=1000/\yF b=true:=by
 have h:(decide (b.length<=1000)&&yF b)=true:=h;rw[Zi]at h;exact⟨Zr h.1,h.2⟩
theorem P3 (a c:Nat):[a]<[c]↔a<c:=by
 rw[YI];constructor
 ·rintro(h|⟨_,h⟩)
  ·exact h
  ·exact absurd h (by simp)
 ·exact .inl
theorem CV {p q:Prop} [Decidable p] [Decidable q](h:¬p↔q):(!decide p)=decide q:=by
 by_cases b:p
 ·rw[Zf b,Zo<|fun z=>h.mpr z b];rfl
 ·rw[Zo b,Zf<|h.mp b];rfl
theorem PP (c a:Nat)(x:Str)(b:x.cps.toList=[a]):(!decide ((⟨#[c]⟩:Str).cps.toList<x.cps.toList))=decide (a<=c):=by
 rw[b];exact CV (by show¬[c]<[a]↔_;rw[P3];lia)
theorem one_le (c a:Nat)(x:Str)(b:x.cps.toList=[a]):(!decide (x.cps.toList<(⟨#[c]⟩:Str).cps.toList))=decide (c<=a):=by
 rw[b];exact CV (by show¬[a]<[c]↔_;rw[P3];lia)
def RN:Sp:=fun b H Q _=>∃c:Nat,b=[.str ⟨#[c]⟩]/\Q (.bl<|UK c) H
def RM (K:Ca):Sp:=fun c H Q _=>∃(d:Er) (v:V),c=[v]/\Dw K H d v/\small d=true/\∀b,zx H b->Q (.bl<|U3 d) b
def Fg (K:Ca):Sp:=fun c H Q _=>∃(d:Er) (v:V),c=[v]/\Dw K H d v/\small d=true/\∀b,zx H b->Q (.bl<|Xg d) b
def B9 (K:Ca):Sp:=fun c H Q _=>∃(d:Er) (v:V),c=[v]/\Dw K H d v/\small d=true/\∀b,zx H b->Q (.bl<|uR d) b
def TJ (K:Ca):Sp:=fun c H Q _=>∃(d:Er) (v:V),c=[v]/\Dw K H d v/\small d=true/\∀b,zx H b->Q (.bl<|UY d) b
theorem xB {α:Type}{l:List α}{f:α->Bool}{i:Nat}{c:α}(h:l[i]?=some c):(l.take<|i+1).map f=(l.take i).map f++[f c]:=by
 rw[YT,h,Zg];rfl
theorem O8 {x:Str}{i c:Nat}(h:x.cps[i]?=some c):(cs x)[i]?=some c:=by rw[←h];simp
theorem all_map (l:List α)(f:α->Bool):(l.map f).all id=l.all f:=by
 rw[List.all_map];rfl
mutual
def jX:Er->Bool
 | .list _=>false
 | .dict _=>false
 | .tuple ds=>y8 ds
 |_=>true
def y8:Df->Bool
 |[]=>true
 |d::ds=>jX d&&y8 ds
end
mutual
theorem Pk:∀d:Er,jX d=true->EH d d=true
 | .none,_=>rfl
 | .bool b,_=>by cases b<;>rfl
 | .int i,_=>by show(i==i)=true;exact VV i
 | .str x,_=>by show(x==x)=true;exact VV x
 | .list _,t=>by cases t
 | .tuple ds,t=>kR ds t
 | .dict _,t=>by cases t
theorem kR:∀ds:Df,y8 ds=true->E6 ds ds=true
 |[],_=>rfl
 |d::ds,t=>by
  have t:(jX d&&y8 ds)=true:=t;rw[Zi]at t;show(EH d d&&E6 ds ds)=true;rw[Pk d t.1,kR ds t.2];rfl
end
structure En where
 h:Str
 n:Nat
 d:Er
abbrev Di:=List En
def dot:Str:=⟨#[46]⟩
theorem Pg:(".":Str)=dot:=by decide +kernel
def En.nm (e:En):Str:=e.h++dot++UD e.n
def xq (S:Di)(h:Str):Option Nat:=S.foldl (fun b e=>if e.h=h then some (max (b.getD 0)<|e.n+1) else b) none
theorem Xq (S:Di)(e:En)(h:Str):xq (S++[e]) h=if e.h=h then some (max ((xq S h).getD 0)<|e.n+1) else xq S h:=by
 unfold xq;rw[Jj];rfl
structure nU (e:En):Prop where
 key:Xd e.d
 free:46∉cs e.h
 num:e.n<1000000
 hl:e.h.length<=100
structure ux (S:Di):Prop where
 ent:∀e∈S,nU e
 nd:(S.map (·.d)).Nodup
 nn:(S.map En.nm).Nodup
 len:S.length<=2000
theorem ux.nil:ux []:=⟨fun _ h=>(nomatch h),YM,YM,ZD _⟩
theorem ux.snoc (g:ux S)(h:nU e)(b:e.d∉S.map (·.d))(c:e.nm∉S.map En.nm)(f:S.length<2000):ux (S++[e]) :=
 ⟨xE g.ent h,by rw[Zg];exact jL g.nd b,by rw[Zg];exact jL g.nn c,by rw[Ze,YU];lia⟩
def Off (c:Dd)(H H':Hp):Prop:=∀b o,b∉c->H b=some o->H' b=some o
theorem Off.refl (b:Dd)(H:Hp):Off b H H:=fun _ _ _ h=>h
theorem Off.trans (a:Off fp H H1)(b:Off fp H1 H2):Off fp H H2:=fun c o n h=>b c o n<|a c o n h
theorem Off.of (s:zx H H'):Off fp H H':=fun b o _ h=>s b o h
theorem Off.upd {a:Ej}{o:HO}(h:Off fp H H')(m:a∈fp):Off fp H (L2.upd H' a o):=fun b u n e=>by
 have ne:b≠a:=fun z=>n (by rwa[z]);rw[zG ne];exact h b u n e
def Po (b c d:Ej):List (Str×V):=[("thing_by_name",.ref b),("name_by_thing",.ref c),("next_numbers",.ref d)]
def rK (H:Hp)(d:Dd):Prop:=∀b∈d,∃o,H b=some o/\(∀c,o≠.tup c)/\(∀c,o≠.lst c)/\∀u v,o≠.frz u v
structure xr (P:Ek)(w:Eo)(K:Ca)(C:Ej)(H:Hp)(a:Ej)(fp:Dd)(S:Di):Prop where
 good:ux S
 at_:∃(dx d1 d2 d3:Ej) (ts:Dd) (nx:Dl),fp=[a,dx,d1,d2,d3]/\(fp).Nodup/\H a=some (.ins C dx<|Po d1 d2 d3)/\H dx=some (.own a)/\ts.length=S.length /\
  H d1=some (.dK<|(S.zip ts).map fun e=>((Eu e.1.nm:Key),V.ref e.2))/\pG P w K H d2 (S.map fun e=>(e.d,V.str e.nm)) /\
  H d3=some (.dK nx)/\nx.length<=S.length/\(∀h,Us nx (Eu h:Key)=(xq S h).map fun n:Nat=>V.int (n:Int)) /\
  ∀(i:Nat) (e:En) (t:Ej),S[i]?=some e->ts[i]?=some t->Dt K H e.d (.ref t)
theorem Ih {H:Hp}{b:Ej}{o:HO}(h:H b=some o)(c:∀xs,o≠.tup xs)(d:∀u v,o≠.frz u v):∀xs,¬Rd H b (.tup xs):=fun xs z=>by
 rcases z with z|⟨u,z⟩
 ·rw[h]at z;exact c xs<|Option.some.inj z
 ·rw[h]at z;exact d u _<|Option.some.inj z
mutual
theorem Dt.off {K:Ca}{d:Dd}(n:∀b∈d,∀xs,¬Rd H b (.tup xs))(o:Off d H H'):∀(k:Er) (v:V),UR k=true->Dt K H k v->Dt K H' k v
 | .str x,_,_,h=>h
 | .tuple ds,_,t,⟨a,xs,h1,c,h3⟩=>by
  refine⟨a,xs,h1,?_,zy.off n o ds xs t h3⟩
  rcases c with c|c
  ·have ne:a∉d:=fun z=>n a z xs c
   rcases c with c|⟨u,c⟩
   ·exact .inl (.inl<|o a _ ne c)
   ·exact .inl (.inr ⟨u,o a _ ne c⟩)
  ·exact .inr c
 | .none,_,_,h=>h
 | .bool _,_,t,_=>by cases t
 | .int _,_,t,_=>by cases t
 | .list _,_,t,_=>by cases t
 | .dict _,_,t,_=>by cases t
theorem zy.off {K:Ca}{c:Dd}(n:∀b∈c,∀xs,¬Rd H b (.tup xs))(o:Off c H H'):∀(ks:Df) (vs:Dj),yW ks=true->zy K H ks vs->zy K H' ks vs
 |[],_,_,h=>h
 |k::ks,_,t,⟨x,r,h1,h2,h3⟩=>by
  have t:(UR k&&yW ks)=true:=t;rw[Zi]at t;exact⟨x,r,h1,Dt.off n o k x t.1 h2,zy.off n o ks r t.2 h3⟩
end
theorem pG.off {K:Ca}{f:Dd}{d:Ej}(n:∀b∈f,∀xs,¬Rd H b (.tup xs))(o:Off f H H')(e:H' d=H d)(T:pG P w K H d ps):pG P w K H' d ps:=by
 obtain⟨hl,g,nd,xs,h,r⟩:=T;refine⟨hl,g,nd,xs,by rw[e];exact h,?_⟩;have key:∀{ps:List (Er×V)} {xs:List (Er×Ej×Ei)},(∀p∈ps,Xd p.1)->Lp (wL K H) ps xs->Lp (wL K H') ps xs:=by
  intro ps xs c r
  induction r with
  |nil=>exact .nil
  |cons r1 _ ih=>exact .cons ⟨r1.1,Dt.off n o _ _ (c _ Zc).1 r1.2.1,r1.2.2⟩<|ih fun p i=>c p<|Q9 _ i
 exact key g r
theorem xr.off {K:Ca}{c gp:Dd}(n:∀b∈gp,∀xs,¬Rd H b (.tup xs))(o:Off gp H H')(s:∀b∈c,b∉gp)(h:xr P w K C H a c S):xr P w K C H' a c S:=by
 obtain⟨g,l,d,f,j,G,nx,rfl,nd,v,x,y,z,q,A,B,D,E⟩:=h;have k:∀b u,b∈[a,l,d,f,j]->H b=some u->H' b=some u:=fun b u m e=>o b u (s b m) e;obtain⟨xs,p,_⟩:=q.2.2.2;refine⟨g,l,d,f,j,G,nx,rfl,nd,k _ _ (by simp) v,k _ _ (by simp) x,y,k _ _ (by simp) z,pG.off n o ?_ q,k _ _ (by simp) A,B,D,fun i e t r F=>Dt.off n o _ _ (g.ent e<|Zm r).key.1<|E i e t r F⟩;rw[p];exact k _ _ (by simp) p
theorem xr.same {K:Ca}(s:zx H H')(h:xr P w K C H a fp S):xr P w K C H' a fp S :=
 h.off (gp:=[]) (fun b m=>(nomatch m)) (Off.of s) (fun b _=>by simp)
theorem xr.wG {K:Ca}(h:xr P w K C H a fp S):rK H fp:=by
 obtain⟨g,p,l,n,o,u,nx,rfl,nd,d,e,q,f,i,j,r,s,t⟩:=h;obtain⟨v,c,_⟩:=i.2.2.2;intro b m;simp only[Zh,YE,Vz]at m
 rcases m with rfl|rfl|rfl|rfl|rfl
 ·exact⟨_,d,fun _ z=>(nomatch z),fun _ z=>(nomatch z),fun _ _ z=>(nomatch z)⟩
 ·exact⟨_,e,fun _ z=>(nomatch z),fun _ z=>(nomatch z),fun _ _ z=>(nomatch z)⟩
 ·exact⟨_,f,fun _ z=>(nomatch z),fun _ z=>(nomatch z),fun _ _ z=>(nomatch z)⟩
 ·exact⟨_,c,fun _ z=>(nomatch z),fun _ z=>(nomatch z),fun _ _ z=>(nomatch z)⟩
 ·exact⟨_,j,fun _ z=>(nomatch z),fun _ z=>(nomatch z),fun _ _ z=>(nomatch z)⟩
theorem rK.tup (h:rK H fp):∀b∈fp,∀xs,¬Rd H b (.tup xs):=fun b m xs=>by
 obtain⟨o,e,n1,_,n2⟩:=h b m;exact Ih e n1 n2 xs
theorem uF {κ:Type} [DecidableEq κ]{Dm:List (κ×V)}{k:κ}{v:V}(h:k∉Dm.map (·.1)):ye Dm k v=Dm++[(k,v)]:=by
 unfold ye;rw[Zs];intro z;obtain⟨c,b,e⟩:=Yc.mp z;exact h<|Za.mpr ⟨c,b,Zr e⟩
theorem vJ {κ:Type} [DecidableEq κ]:∀{Dm:List (κ×V)} {k:κ} {v:V},(Dm.map (·.1)).Nodup->(k,v)∈Dm->Us Dm k=some v
 |[],_,_,_,h=>(nomatch h)
 |p::r,k,v,nd,h=>by
  rw[Zv,Z9]at nd;unfold Us;rw[YN]
  rcases Zh.mp h with e|h
  ·subst e;rw[Zf<|show((k,v):κ×V).1=k from rfl];rfl
  ·rw[Zo<|show¬p.1=k from fun z=>nd.1<|Za.mpr ⟨(k,v),h,z.symm⟩];exact vJ nd.2 h
theorem Ty (e:En):cs e.nm=cs e.h++46::cs (UD e.n):=by
 unfold En.nm;rw[zp,zp];show cs e.h++[46]++cs (UD e.n)=_;simp
theorem Rg (h:UD m=UD n):m=n:=by
 have b:cs (UD m)=cs (UD n):=by rw[h]
 have e:=VJ m;have f:=VJ n;have c:=PySem.W.KIN.val_back m;have d:=PySem.W.KIN.val_back n;rw[←e]at c;rw[←f]at d;have b:(EX<|L4 ((m:Nat):Int)).cps.toList=(EX<|L4 ((n:Nat):Int)).cps.toList:=b;rw[b]at c;exact c.symm.trans d
theorem NZ:∀{a b r s:List Nat},¬(46∈a)->¬(46∈b)->a++46::r=b++46::s->a=b/\r=s
 |[],[],r,s,_,_,h=>⟨rfl,by injection h⟩
 |[],y::b,r,s,_,hb,h=>by
  injection h with c d;exact absurd (by rw[←c];exact Zc) hb
 |x::a,[],r,s,ha,_,h=>by
  injection h with c d;exact absurd (by rw[c];exact Zc) ha
 |x::a,y::b,r,s,ha,hb,h=>by
  injection h with c d;obtain⟨e,f⟩:=NZ (fun z=>ha<|Q9 _ z) (fun z=>hb<|Q9 _ z) d;exact⟨by rw[c,e],f⟩
theorem Wq {e f:En}(d:46∉cs e.h)(g:46∉cs f.h)(h:e.nm=f.nm):e.h=f.h/\e.n=f.n:=by
 have:=congrArg cs h;rw[Ty,Ty]at this;obtain⟨b,c⟩:=NZ d g this;exact⟨wY b,Rg<|wY c⟩
theorem SB:∀{S:Di} {e:En},e∈S->e.n<(xq S e.h).getD 0:=by
 have key:∀(S:Di) (b:Option Nat) (h:Str),b.getD 0<=(S.foldl (fun b e=>if e.h=h then some (max (b.getD 0)<|e.n+1) else b) b).getD 0/\∀e∈S,e.h=h->e.n<(S.foldl (fun b e=>if e.h=h then some (max (b.getD 0)<|e.n+1) else b) b).getD 0:=by
  intro S
  induction S with
  |nil=>intro b h;exact⟨Zd _,fun e c=>(nomatch c)⟩
  |cons f S ih =>
   intro b h;rw[JD];obtain⟨g,i⟩:=ih (if f.h=h then some (max (b.getD 0)<|f.n+1) else b) h;have mono:b.getD 0<=(if f.h=h then some (max (b.getD 0)<|f.n+1) else b).getD 0:=by
    split
    ·exact Nat.le_max_left _ _
    ·exact Zd _
   refine⟨ZL mono g,fun e c d=>?_⟩
   rcases Zh.mp c with rfl|c
   ·rw[Zt d]at g ⊢;have:e.n+1<=(some<|max (b.getD 0)<|e.n+1).getD 0:=Nat.le_max_right _ _;lia
   ·exact i e c d
 intro S e c;exact(key S none e.h).2 e c rfl
theorem Rc (g:ux S){h:Str}{d:Er}(i:46∉cs h):(En.mk h ((xq S h).getD 0) d).nm∉S.map En.nm:=fun z=>by
 obtain⟨e,f,q⟩:=Za.mp z;obtain⟨b,c⟩:=Wq (g.ent e f).free i q;have:=SB f;have b:e.h=h:=b;have c:e.n=(xq S h).getD 0:=c;rw[b]at this;lia
def dig (n:Nat):Str:=EX<|L4 ((n:Nat):Int)
def enc (p:Str):List Nat:=cs (dig p.length)++58::cs p
inductive Th where
 |leaf (ls:Da)
 |tree (rows:Dg)
 |note (t:Str) (ps:Da) (w:Str)
def z8:Dg->Da
 |[]=>[]
 |r::rs=>r.1::r.2::z8 rs
theorem jD:∀(a b:Dg),z8 (a++b)=z8 a++z8 b
 |[],_=>rfl
 |(x,y)::a,b=>by
  show x::y::z8 (a++b)=x::y::(z8 a++z8 b);rw[jD a b]
def Th.word:Th->Str
 | .leaf _=>"leaf"|.tree _=>"tree"|.note _ _ _=>"note"
def Th.letter:Th->Str
 | .leaf _=>"L"|.tree _=>"T"|.note _ _ _=>"N"
def Th.parts:Th->Da
 | .leaf ls=>ls
 | .tree rows=>z8 rows
 | .note t ps w=>[t,dig ps.length]++ps++[w]
def counted (p:Str):Str:=dig p.length++":"++p
def more (x p:Str):Str:=x++dig p.length++":"++p
def Th.sp (t:Th):Str:=t.parts.foldl more t.letter
theorem FI:cs (":":Str)=[58]:=by decide +kernel
theorem Ky (p:Str):cs (counted p)=enc p:=by
 unfold counted enc;rw[zp,zp,FI];simp
theorem Sc (x p:Str):cs (more x p)=cs x++enc p:=by
 unfold more enc;rw[zp,zp,zp,FI];simp
theorem FJ:∀(ps:Da) (x:Str),cs (ps.foldl more x)=cs x++ps.flatMap enc
 |[],x=>by simp
 |p::ps,x=>by
  rw[JD,FJ ps,Sc,JF,Z7]
theorem ag (t:Th):cs t.sp=cs t.letter++t.parts.flatMap enc:=FJ _ _
theorem bb (t:Th):t.letter++Lw "" (t.parts.map counted)=t.sp:=by
 apply wY
 rw[zp,ag];have e:cs (Lw ""<|t.parts.map counted)=t.parts.flatMap enc:=by
  show cs (Builtin.Str.glued ""<|t.parts.map counted)=_;rw[Ll];rw[uD,List.flatMap_map]
  congr 1
  funext p
  exact Ky p
 rw[e]
theorem kX (t:Th):cs t.letter=[match t with|.leaf _=>76|.tree _=>84|.note _ _ _=>78]:=by
 cases t
 ·show cs ("L":Str)=[76]
  decide +kernel
 ·show cs ("T":Str)=[84]
  decide +kernel
 ·show cs ("N":Str)=[78]
  decide +kernel
def ak (n:Int)(c:Nat):Int:=(31*n+c) % 97
def dg (x:Str):Int:=(cs x).foldl ak 0
def zb (r:Str×Str):PyData:=.tuple [.str r.1,.str r.2]
def Th.dat:Th->Er
 | .leaf ls=>.tuple [.str "leaf",.tuple<|ls.map .str]
 | .tree rows=>.tuple [.str "tree",.tuple<|rows.map zb]
 | .note t ps w=>.tuple [.str "note",.str t,.tuple<|ps.map .str,.str w]
theorem FO:∀(a b:Dg),E6 (a.map zb) (b.map zb)=decide (a=b)
 |[],[]=>rfl
 |[],_::_=>rfl
 |_::_,[]=>rfl
 |(x,y)::a,(z,w)::b=>by
  show(((x==z)&&((y==w)&&true))&&E6 (a.map zb) (b.map zb))=_;rw[FO a b,Yq];simp[and_assoc]
theorem jM {x y:Str}{xs ys:Df}(h:(x==y)=false):EH (.tuple (.str x::xs)) (.tuple (.str y::ys))=false:=by
 show((x==y)&&E6 xs ys)=false;rw[h];rfl
theorem Nh (a b:Th):EH a.dat b.dat=true↔a=b:=by
 have c:(("leaf":Str)=="tree")=false:=by decide +kernel
 have d:(("leaf":Str)=="note")=false:=by decide +kernel
 have e:(("tree":Str)=="leaf")=false:=by decide +kernel
 have f:(("tree":Str)=="note")=false:=by decide +kernel
 have g:(("note":Str)=="leaf")=false:=by decide +kernel
 have h:(("note":Str)=="tree")=false:=by decide +kernel
 cases a with
 |leaf ls =>
  cases b with
  |leaf ms =>
   show((("leaf":Str)=="leaf")&&(E6 (ls.map .str) (ms.map .str)&&true))=true↔_;rw[jN];simp
  |tree _ =>
   exact VA (fun z=>absurd ((jM c).symm.trans z) ZH) (fun z=>by cases z)
  |note _ _ _ =>
   exact VA (fun z=>absurd ((jM d).symm.trans z) ZH) (fun z=>by cases z)
 |tree rs =>
  cases b with
  |leaf ms =>
   exact VA (fun z=>absurd ((jM e).symm.trans z) ZH) (fun z=>by cases z)
  |tree qs =>
   show((("tree":Str)=="tree")&&(E6 (rs.map zb) (qs.map zb)&&true))=true↔_;rw[FO];simp
  |note _ _ _ =>
   exact VA (fun z=>absurd ((jM f).symm.trans z) ZH) (fun z=>by cases z)
 |note t ps w =>
  cases b with
  |leaf ms =>
   exact VA (fun z=>absurd ((jM g).symm.trans z) ZH) (fun z=>by cases z)
  |tree qs =>
   exact VA (fun z=>absurd ((jM h).symm.trans z) ZH) (fun z=>by cases z)
  |note t' ps' w' =>
   show((("note":Str)=="note")&&((t==t')&&(E6 (ps.map .str) (ps'.map .str)&&((w==w')&&true))))=true↔_;rw[jN];simp
def Th.Good (t:Th):Prop:=t.parts.length<=1000/\∀p∈t.parts,Ok 1000 p
end An
namespace L2
open PySem PySem.Spec PyProof.Rows
section
variable {X:Cx}{Do:De}{σ:St}{H:Hp}{s:Em}{d:Ej}{Dm:Dl}
theorem xu.wB (r:xu k A):A.units+128<cLine:=by have:=r.un;lia
theorem Inv.freeze (I:Inv X Do σ H s)(e:H d=some (.dK Dm)):∃ob:Obj,Inv X Do σ (upd H d<|.frz ob<|.dK Dm) s:=by
 obtain⟨t,l,c,h,o,j,i,g,r,hd,n,p,f⟩:Dm.length<=sizeLine/\(d==EV)=false/\∃c,KV Dm c/\s.heap.DictOf (za X.prog X.w) d c:=I.hok d _ e;refine⟨o,?_⟩;have v:TV (H d):=by rw[e];trivial
 exact I.write (x:=d) (e:=d) (h':=s.heap) (t':=s.toks) v (.inl rfl) (fun b u _ q=>q) ⟨o,g⟩ ⟨g,t,l,c,h,o,j,i,g,r,hd,n,p,f⟩
theorem ML {k:Key}{u:Ei}(h:(za P w).is k u=true):yq (kV k) u:=by
 cases k with
 |inl i =>
  have h:Value.isInt i u=true:=h;cases u<;>simp[Value.isInt]at h;subst h;exact⟨_,rfl⟩
 |inr x =>
  obtain⟨t,rfl⟩:=Y6<|show Ld x u=true from h;exact⟨t,rfl⟩
theorem k6 {α b:Type}{F:α->b->Prop}:∀{l₁:List α} {l₂:List b} {i:Nat} {y:b},Lp F l₁ l₂->l₂[i]?=some y->∃x,l₁[i]?=some x/\F x y
 |_,_,_,_,.nil,h=>by cases h
 |_,_,0,_,.cons r _,h=>by cases h;exact⟨_,rfl,r⟩
 |_,_,i+1,_,.cons _ t,h=>by
  obtain⟨x,c,d⟩:=k6 (i:=i) t (by simpa using h);exact⟨x,by simpa using c,d⟩
theorem KF {g:Obj}(z:yp P w H h d<|.frz g<|.dK Dm):∃vs es ep,g.data=.dict es ep/\KV Dm vs/\h.DictAt (za P w) d vs ep/\(d==EV)=false/\Dm.length<=sizeLine:=by
 obtain⟨j,s,n,vs,i,o,b,e,l,r,c,p,q,f⟩:=z;rw[j]at l;cases l;exact⟨vs,b,e,c,i,⟨g,b,j,r,c,p,q,f⟩,n,s⟩
theorem XQ {e:Obj}{es:Array Ml}{ep:Nat}(hd:e.data=.dict es ep)(z:yp P w H h d<|.frz e<|.dK Dm):∃vs,KV Dm vs/\h.DictAt (za P w) d vs ep/\(d==EV)=false:=by
 obtain⟨vs,i,g,b,c,f,j,_⟩:=KF z;rw[hd]at b;cases b;exact⟨vs,c,f,j⟩
def bL (d:Ej)(Dm:Dl)(b:Obj):It where
 go:=fun i H=>H d=some (.frz b<|.dK Dm)/\i<Dm.length
 oZ:=fun i H x c=>c=H/\∃k v,Dm[i]?=some (k,v)/\x=kV k
 stop:=fun i H=>H d=some (.frz b<|.dK Dm)/\i=Dm.length
theorem OR {K:Ca}{Q:Obj}{es:Array Ml}{ep:Nat}(hd:Q.data=.dict es ep)(it:Ej):Turn P w K tg (bL d Dm Q) [it] it (fun i h=>h.IsKeyIter it d i Dm.length ep) where
 mem:=by simp
 obj:=fun i h st b j=>by
  have e:b=it:=by simpa using j
  subst e;obtain⟨o,e,c,t⟩:=st;exact⟨o,e,fun v z=>by rw[t]at z;cases z⟩
 keep:=fun i h p st k=>by
  obtain⟨o,e,c⟩:=st;exact⟨o,k it (by simp) o e,c⟩
 item:=by
  intro X D J C M i Do s σ H E I q st F;subst D J C;obtain⟨l,N⟩:=F;obtain⟨g,f,r,Z⟩:=XQ hd<|I.hok d _ l;have hl:Dm.length=g.length:=Paired.length f;rw[hl]at st;have O:g[i]?=some (g[i]'(by lia)):=Zb (by lia);obtain⟨u,x,U,y,A,f5⟩:=q it (by simp);refine wpAny_pyNext_dict_item (k:=(g[i]'(by lia)).1) (v:=(g[i]'(by lia)).2) st r O fun key p R n sb=>?_;have S:Inv X Do σ H { s with heap:=p }:=I.turned (t':=s.toks) (fun b o j e=>(sb.2 b j).trans e) u x y A f5;rw[←hl]at n;obtain⟨o,e,c,t⟩:=id n;have G:∃v,Dm[i]?=some ((g[i]'(by lia)).1,v):=by
   obtain⟨⟨k0,L⟩,Y,B,_⟩:=k6 f O;have B:k0=_:=B;subst B;exact⟨L,Y⟩
  obtain⟨L,G⟩:=G;exact⟨key,rfl,FW (s:={ s with heap:=p }) e c t (by decide) ⟨kV (g[i]'(by lia)).1,H,S,ML R,⟨rfl,_,L,G,rfl⟩,n,fun b j=>(q b j).1⟩⟩
 done:=by
  intro X D J C M i Do s σ H E I q st F;subst D J C;obtain⟨l,N⟩:=F;subst N;obtain⟨g,f,r,Z⟩:=XQ hd<|I.hok d _ l;have hl:Dm.length=g.length:=Paired.length f;obtain⟨u,x,U,y,A,f5⟩:=q it (by simp);rw[hl]at st;exact wpAny_pyNext_dict_end (I.ok.hd M) st r (Yf<|by lia) fun p T=>⟨rfl,I.turned (t':=s.toks) (fun b o j e=>T b o j e) u x y A f5⟩
 self:=fun _ _ _ _ _ st h=>wpAny_pyIter_keyiter st h
def bD (d:Ej)(Dm:Dl)(b:Obj):It where
 go:=fun i H=>H d=some (.frz b<|.dK Dm)/\i<Dm.length
 oZ:=fun i H x c=>∃T k v,Dm[i]?=some (k,v)/\H T=none/\x=.ref T/\c=upd H T (.tup [kV k,v])
 stop:=fun i H=>H d=some (.frz b<|.dK Dm)/\i=Dm.length
theorem MT {P:Ek}{w:Eo}{K:Ca}{DU:List EN} {x1}{D8:Pos}{Z:Obj}{es:Array Ml}{ep:Nat}(hd:Z.data=.dict es ep)(it:Ej) :
  Turn P w K (.Tuple DU x1 D8) (bD d Dm Z) [it] it (fun i h=>∃ok ov,IsItemIter h it d i Dm.length ep ok ov) where
 mem:=by simp
 obj:=fun i h st b c=>by
  have e:b=it:=by simpa using c
  subst e;obtain⟨ok,ov,e⟩:=st;exact⟨_,e,fun v z=>by cases z⟩
 keep:=fun i h R st k=>by
  obtain⟨ok,ov,e⟩:=st;exact⟨ok,ov,k it (by simp) _ e⟩
 item:=by
  intro X F L D S i Do s σ H E I y st J;subst F L D;obtain⟨g,T⟩:=J;obtain⟨t,f,A,hS⟩:=XQ hd<|I.hok d _ g;have hl:Dm.length=t.length:=Paired.length f;obtain⟨ok,ov,st⟩:=st;rw[hl]at st;obtain⟨⟨Y,u⟩,U⟩:∃p,t[i]?=some p:=⟨_,Zb<|show i<t.length by lia⟩;obtain⟨⟨j,r⟩,h0,C,N⟩:=k6 f U;have C:j=Y:=C;have N:yq r u:=N;have fi:=y it (by simp);have G:H s.heap.objs.size=none:=I.hok.fresh<|Zd _;have l:it<s.heap.objs.size:=Zl st;refine wpAny_pyNext_items_item (k:=Y) (v:=u) st A U fun key R DT M tup sz kp=>?_;refine⟨_,rfl,wpAny_letOwnedTupleGo_items M fun x Q sb=>?_⟩;have n:x.get? s.heap.objs.size=some { cls:=.type "tuple",data:=.seq #[key,u] }:=(sb.2 _<|YO l).trans tup;have I1:Inv X Do σ H { s with heap:=x }:=I.rJ (t':=s.toks) (ch:=[it]) y (fun b o c q=>by
   have O:b≠it:=fun z=>c (by simp[z]);exact(sb.2 b O).trans (kp b o O q)) (fun b c=>by
   have z:b=it:=by simpa using c
   subst z;exact⟨_,Q⟩)
  have B:=I.tL (Zd _) G;have new:yp X.prog X.w (upd H s.heap.objs.size<|.tup [kV j,r]) x s.heap.objs.size (.tup [kV j,r]) :=
   ⟨by show 2<=sizeLine;decide,[key,u],.cons (by rw[C];exact ML DT)<|.cons N .nil,⟨_,n,rfl,_,rfl,rfl⟩⟩
  have I2:Inv X Do σ (upd H s.heap.objs.size<|.tup [kV j,r]) { s with heap:=x } :=
   I1.nH G (ZL I.sz<|Zd _) B.2.1 B.2.2.2.2.1 B.2.2.2.2.2 new
  refine⟨.ref s.heap.objs.size,_,I2,rfl,⟨_,j,r,h0,G,rfl,rfl⟩,⟨key,u,by rw[hl];exact Q⟩,fun b c=>?_⟩;have z:b=it:=by simpa using c
  subst z;rw[zG<|Zu l];exact fi.1
 done:=by
  intro X F L D S i Do s σ H E I y st J;subst F L D;obtain⟨g,T⟩:=J;subst T;obtain⟨t,f,A,hS⟩:=XQ hd<|I.hok d _ g;have hl:Dm.length=t.length:=Paired.length f;obtain⟨f0,f1,f2,f3,f4,f5⟩:=y it (by simp);obtain⟨ok,ov,st⟩:=st;rw[hl]at st;exact wpAny_pyNext_items_end (I.ok.hd S) st A (Yf<|by lia) fun R eb=>⟨rfl,I.turned (t':=s.toks) (fun b o c e=>eb b o c e) f0 f1 f3 f4 f5⟩
 self:=fun _ _ _ _ _ st h=>by
  obtain⟨ok,ov,st⟩:=st;exact PySem.W.kcp_self st h
end
section
variable {X:Cx}{tg:EN}
def cF (t:TE):TE:=fun f H Q=>t f H fun v c=>∃d b,v=.ref d/\c d=some (.dK b)/\∀e,Q v<|upd c d<|.frz e<|.dK b
theorem U9 (h:PE X e t):PE X e (cF t):=by
 intro b s i H Q I q;refine Cf (h b s i H _ I q) fun v n ⟨x,l,c,r,d,j,ex,hd,q⟩=>?_;subst ex;obtain⟨g,f⟩:=c.freeze hd;exact⟨.ref d,_,f,r,q g⟩
def av (f:TE):TI:=fun g H R=>f g H fun v c=>∃d e b,v=.ref d/\c d=some (.frz e<|.dK b)/\R (bL d b e) c
theorem XR (hl:PE X l tl):PI X tg l (av tl):=by
 intro j s p H R I h;refine Cf (hl j s p H _ I h) fun v c ⟨x,w,g,r,d,E,t,ex,hd,q⟩=>?_;subst ex;cases r;obtain⟨n,D,A,f,i,z,B,_⟩:=KF<|g.hok d _ hd;have u:t.length=n.length:=Paired.length i;refine wpAny_pyIter_dict B z ?_;have y:Inv X j p w { c with heap:=c.heap.push { cls:=.type "dict_keyiterator",data:=.fields #[.ref d,.int 0 0,.int n.length 0,.int A 0] } }:=g.kept (t':=c.toks) fun b o e=>Q8 _ e;refine⟨c.heap.objs.size,[c.heap.objs.size],_,_,_,rfl,y,OR f _,?_,fun b C=>?_,q⟩
 ·exact⟨_,Zk _ rfl,rfl,by rw[u];rfl⟩
 ·have e:b=c.heap.objs.size:=by simpa using C
  subst e;exact g.tL (Zd _)<|g.hok.fresh<|Zd _
def Wf (f:TE):TI:=fun g H R=>f g H fun v c=>∃d e b,v=.ref d/\c d=some (.frz e<|.dK b)/\R (bD d b e) c
theorem IO {G:List EN}{D z y:Pos}(T:PE X o td)(C:LA o "items" X.env (E8 o X.env)=E8 o X.env:=by rfl)(E:(z.endLine==y.line)=true:=by rfl) :
  PI X (.Tuple G x1 D) (.Call (.Attribute o "items" z) [] [] y) (Wf td):=by
 intro u s B H R I h;refine wpAny_Call_method0_late C E<|Cf (T u s B H _ I h) fun v c ⟨x,L,A,r,d,Z,J,ex,hd,q⟩=>?_;subst ex;cases r;obtain⟨t,U,M,f,p,j,Q,_⟩:=KF<|A.hok d _ hd;have K:J.length=t.length:=Paired.length p;have i:=j.dictOf;obtain⟨n,N,O,P,Y⟩:=id j;refine⟨"dict","dict.items",F.plainAttrs_dict,Mi,F.type_dict_items,i.typeIs,fun b q=>by cases q;exact⟨n,O,P.2.1⟩,Li rfl<|PySem.evalArgs_none ?_⟩;refine JE Mi i.typeIs F.entry_dict_items (F.args_dict_items_1 _) (meets_dict_items (za X.prog X.w) d Q) ⟨⟨t,i⟩,?_⟩;have g:Inv X u B L { c with heap:=c.heap.push { cls:=.type "dict_items",data:=.fields #[.ref d] } }:=A.kept (t':=c.toks) fun b o e=>Q8 _ e;have l:(c.heap.push { cls:=.type "dict_items",data:=.fields #[.ref d] }).DictAt (za X.prog X.w) d t M:=j.at' fun o e=>Q8 _ e;refine wpAny_pyIter_items (v:=c.heap.objs.size) (d:=d) ⟨_,Zk _ rfl,rfl,rfl⟩ l ?_;refine⟨_,[_],_,_,_,rfl,g.kept (t':=c.toks) fun b o e=>Q8 _ e,MT f _,⟨_,_,by rw[K];exact Zk _ rfl⟩,fun b S=>?_,q⟩;have e:=Q6.mp S;subst e;exact g.tL (Zd _)<|g.hok.fresh<|Zd _
section
variable {d:Ej}{Dm:Dl}{ob:Obj}{g:TG}{tb:TS}{D:Ends}{σ:St}{H:Hp}
theorem uY (b:Nat->St->Hp->Prop)(h:b 0 σ H)(hl:∀i σ H,i<=Dm.length->b i σ H->H d=some (.frz ob<|.dK Dm))
  (hs:∀i k v σ H,Dm[i]?=some (k,v)->b i σ H->g (kV k) σ H fun σ2 H2=>tb { D with nx:=b<|i+1,ct:=b<|i+1,bk:=D.nx } σ2 H2) (hd:∀σ H,b Dm.length σ H->D.nx σ H):N5 (bL d Dm ob) g tb D σ H :=
 Nl Dm.length b h (fun σ H p=>⟨hl _ σ H (Zd _) p,rfl⟩) (fun i σ H c p=>⟨hl i σ H (Yu c) p,c⟩) (fun i σ H c p v l y=>by
  obtain⟨e,k,x,j,f⟩:=y;subst f e;exact hs i k x σ _ j p) hd
theorem Bu (b:Nat->St->Hp->Prop)(h:b 0 σ H)(hl:∀i σ H,i<=Dm.length->b i σ H->H d=some (.frz ob<|.dK Dm))
  (hs:∀i k v T σ H,Dm[i]?=some (k,v)->b i σ H->H T=none->g (.ref T) σ (upd H T<|.tup [kV k,v]) fun σ2 H2=>tb { D with nx:=b<|i+1,ct:=b<|i+1,bk:=D.nx } σ2 H2) (hd:∀σ H,b Dm.length σ H->D.nx σ H):N5 (bD d Dm ob) g tb D σ H :=
 Nl Dm.length b h (fun σ H p=>⟨hl _ σ H (Zd _) p,rfl⟩) (fun i σ H c p=>⟨hl i σ H (Yu c) p,c⟩) (fun i σ H c p v n y=>by
  obtain⟨T,k,x,l,j,f,e⟩:=y;subst f e;exact hs i k x T σ H l p j) hd
end
def cm:R2:=fun y x H Q=>∃a o,x=.ref a/\v9 H a y o/\Q (.bl o.isSome) H
theorem Rj (f:X.A.units+64<Lc):Ct X (EZ .In) cm:=by
 intro e s j H y x v u Q I d c h;obtain⟨a,o,rfl,g,q⟩:=h;cases c;exact bR (by lia) I g d fun i b=>⟨.bl _,H,b,rfl,q⟩
theorem So {H:Hp}{a:Ej}{b:Obj}{Dm:Dl}(e:H a=some (.frz b<|.dK Dm)):v9 H a (kV k) (Us Dm k):=.inl ⟨Dm,k,.inr ⟨b,e⟩,rfl,rfl⟩
theorem GS:∀{Dm:Dl} {vs:List (Key×Ei)} {us:Db},KV Dm vs->us.length=vs.length->(∀(j:Nat) (v:Ei),us[j]?=some v->∃k x,vs[j]?=some (k,x)/\(za P w).is k v=true)->yr (Dm.map fun kv=>kV kv.1) us
 |[],_,[],.nil,_,_=>.nil
 |[],_,_::_,.nil,hl,_=>by cases hl
 |_::_,_,[],.cons _ _,hl,_=>by cases hl
 |p::_,q::_,u::us,.cons r1 r2,hl,hm=>by
  obtain⟨k,x,e,d⟩:=hm 0 u rfl;have e:q=(k,x):=by simpa using e
  have b:p.1=k:=by rw[show p.1=q.1 from r1.1,e]
  refine .cons (by show yq (kV p.1) u;rw[b];exact ML d) (GS (P:=P) (w:=w) r2 (by simpa using hl) fun j v c=>?_);obtain⟨f,i,g,h⟩:=hm (j+1) v (by simpa using c);exact⟨f,i,by simpa using g,h⟩
inductive m8 (K:Ca)(H:Hp)(kb:Dl):Dl->Bool->Prop
 |nil:m8 K H kb [] true
 |miss {k:Key} {v:V} {r:Dl}:Us kb k=none->m8 K H kb ((k,v)::r) false
 |hit {k:Key} {v y:V} {d e:Er} {r:Dl} {b:Bool}:Us kb k=some y->Dt K H d v->Dt K H e y->ER d=true->ER e=true->m8 K H kb r b->m8 K H kb ((k,v)::r) (EH d e&&b)
end
section
variable {X:Cx}{K:Ca}
theorem Rk (z:X.A.units+64<Lc)(g:X.K=K:=by rfl):Ct X (EZ .NotIn) (aV K true true):=by
 subst g;intro p s B H x y v u Q I l n h;obtain⟨d,o,b,c,e,f,t,q⟩:=h;obtain⟨r,i⟩:=Dt.yw I d x v b l;obtain⟨bs,j⟩:=Dt.yw I _ y u c n;have w:min (EG o) d.depth<=d.depth:=Nat.min_le_right _ _;exact SeqAt.notIn_tuple_reads j i e f (by lia) ⟨.bl _,H,I,rfl,by simpa using q⟩
end
end L2
namespace An
open PySem L2
theorem II (x:Str):0<=dg x/\dg x<97:=by
 unfold dg;have:∀(l:List Nat) (n:Int),(0<=n/\n<97)->0<=l.foldl ak n/\l.foldl ak n<97:=by
  intro l
  induction l with
  |nil=>intro n h;exact h
  |cons c l ih =>
   intro n _;rw[JD];refine ih _ ?_;unfold ak;lia
 exact this _ 0 ⟨by decide,by decide⟩
theorem Rh (x:Str):EX (L4<|dg x)=UD (dg x).toNat:=by
 unfold UD;rw[Int.toNat_of_nonneg (II x).1]
theorem Ho {n:Nat}(h:n<97):(UD n).length<=10:=JJ (by lia) (by decide) (by
 have:n<10 ^ 9:=by lia
 lia)
theorem O9 (x:Str)(n:Nat):cs (Txt.slice x none<|some (n:Int))=(cs x).take n:=by
 by_cases h:n<=x.length
 ·have e:=Vg (V0 (x:=x) (j:=(n:Int)) (by lia)<|by lia);rw[e];show((x.cps.toList.drop (0:Int).toNat).take ((n:Int)-0).toNat).toArray.toList=_;simp[cs]
 ·have e:=Vg (V0 (x:=x) (j:=(x.length:Int)) (by lia)<|by lia);rw[PyProof.Rows.slice_to_beyond<|by lia,e];have hl:(cs x).length<=n:=by rw[←zm];lia
  rw[YR hl];show((x.cps.toList.drop (0:Int).toNat).take ((x.length:Int)-0).toNat).toArray.toList=_;have:((x.length:Int)-0).toNat=x.cps.toList.length:=by simp[Str.length]
  rw[this];show(x.cps.toList.take x.cps.toList.length)=cs x;rw[ZF]
theorem M7 (x:Str)(n:Nat)(h:n<=x.length):cs (Txt.slice x (some (n:Int)) none)=(cs x).drop n:=by
 have e:=Vg (PyProof.Rows.slice_closes_fromL (x:=x) (i:=(n:Int)) (b:=(x.length:Int)) (by lia) (by lia) rfl);rw[e];show((x.cps.toList.drop (n:Int).toNat).take ((x.length:Int)-n).toNat).toArray.toList=_;have:((x.length:Int)-n).toNat=(x.cps.toList.drop n).length:=by rw[Yz];simp[Str.length]
 rw[this];show(x.cps.toList.drop n).take (x.cps.toList.drop n).length=(cs x).drop n;rw[ZF]
theorem snoc_ind {α:Type}{p:List α->Prop}(h0:p [])(h1:∀l x,p l->p (l++[x]))(l:List α):p l:=by
 have:∀l:List α,p l.reverse:=by
  intro l
  induction l with
  |nil=>exact h0
  |cons x l ih=>rw[List.reverse_cons];exact h1 _ _ ih
 have:=this l.reverse
 rwa[List.reverse_reverse]at this
theorem ni (S:Di)(h:Str):(xq S h).getD 0=0\/∃e∈S,e.h=h/\e.n+1=(xq S h).getD 0:=by
 induction S using snoc_ind with
 |h0=>exact .inl rfl
 |h1 S e ih =>
  rw[Xq]
  by_cases q:e.h=h
  ·rw[Zt q];show max ((xq S h).getD 0) (e.n+1)=0\/_
   rcases Nat.le_total ((xq S h).getD 0) (e.n+1) with z|z
   ·exact .inr ⟨e,by simp,q,(Nat.max_eq_right z).symm⟩
   ·have d:max ((xq S h).getD 0) (e.n+1)=(xq S h).getD 0:=Nat.max_eq_left z
    rcases ih with i|⟨f,c,h1,b⟩
    ·exact .inl (d.trans i)
    ·exact .inr ⟨f,by simp[c],h1,b.trans d.symm⟩
  ·rw[Zs q]
   rcases ih with i|⟨f,c,h1,b⟩
   ·exact .inl i
   ·exact .inr ⟨f,by simp[c],h1,b⟩
theorem Ny {S:Di}(b:∀e∈S,e.n<S.length)(h:Str):(xq S h).getD 0<=S.length:=by
 rcases ni S h with i|⟨f,c,_,d⟩
 ·lia
 ·have:=b f c;lia
theorem Ri (n:Nat):Es (UD n)=true:=by
 rw[yM];intro c b;have b:c∈(EX<|L4 ((n:Nat):Int)).cps.toList:=b;rw[VJ]at b;obtain⟨d,hd,rfl⟩:=Za.mp b;show d.val.toNat<1114112
 rcases d.valid with h|⟨_,h⟩
 ·exact Nat.lt_trans h (by decide)
 ·exact h
theorem K1 {x y:Str}(d:Es x=true)(e:Es y=true):Es (x++y)=true:=by
 rw[yM]at *;intro c b;rw[zp,Zy]at b;exact b.elim (d c)<|e c
theorem O1 (xs:Da)(x:Str):(xs.map Lv).any (fun y=>EH y<|.str x)=decide (x∈xs):=by
 induction xs with
 |nil=>rfl
 |cons y xs ih =>
  show((y==x)||(xs.map Lv).any (fun y=>EH y<|.str x))=_;rw[ih,Yq,Vp,ZK,ZK,Zh,Jl];exact⟨fun h=>h.elim (fun z=>.inl z.symm) .inr,fun h=>h.elim (fun z=>.inl z.symm) .inr⟩
theorem Wp {S:Di}(nd:(S.map (·.d)).Nodup){e f:En}(j:e∈S)(l:f∈S)(h:e.d=f.d):e=f:=by
 induction S with
 |nil=>cases j
 |cons x S ih =>
  rw[Zv,Z9]at nd
  rcases Zh.mp j with i|c
  ·rcases Zh.mp l with g|b
   ·rw[i,g]
   ·exact absurd (Za.mpr ⟨f,b,by rw[←i];exact h.symm⟩) nd.1
  ·rcases Zh.mp l with g|b
   ·exact absurd (Za.mpr ⟨e,c,by rw[←g];exact h⟩) nd.1
   ·exact ih nd.2 c b
def Ex (H:Hp)(X:Dd):Prop:=∀c∈X,∃o,H c=some o
theorem Ex.not {c:Ej}(h:Ex H X)(n:H c=none):c∉X:=fun z=>by
 obtain⟨o,e⟩:=h c z;rw[n]at e;cases e
section
variable {P:Ek}{w:Eo}{K:Ca}{C:Ej}{H H' H0:Hp}{S:Di}
theorem xr.ex (h:xr P w K C H a fp S):Ex H fp:=fun c b=>by
 obtain⟨o,e,_⟩:=h.wG c b;exact⟨o,e⟩
end
def UB (t:Th):Str:=t.letter++UD (dg t.sp).toNat
def Gz (S:Di)(t:Th):En:=⟨UB t,(xq S<|UB t).getD 0,t.dat⟩
theorem Gx (t:Th):t.letter.length=1:=by rw[zm,kX];rfl
theorem F5 (t:Th):46∉cs t.letter:=by
 rw[kX];cases t
 ·show 46∉[76];decide
 ·show 46∉[84];decide
 ·show 46∉[78];decide
theorem jS (t:Th):46∉cs (UB t):=by
 unfold UB;rw[zp,Zy,not_or];exact⟨F5 t,fun h=>(PyProof.Rows.intText_free_46 _).mp h⟩
theorem kK (t:Th):(UB t).length<=100:=by
 unfold UB;have b:=Ho (n:=(dg t.sp).toNat) (by have:=II t.sp;lia);rw[yg,Gx];lia
theorem OB (t:Th):Es t.letter=true:=by
 rw[yM,kX];intro c b;rw[Q6.mp b];cases t
 ·show 76<1114112;decide
 ·show 84<1114112;decide
 ·show 78<1114112;decide
theorem Ge:∀{ls:Da},(∀l∈ls,Es l=true)->yW (ls.map .str)=true/\xY (ls.map .str)=0
 |[],_=>⟨rfl,rfl⟩
 |l::ls,h=>by
  obtain⟨b,c⟩:=Ge fun x d=>h x<|Q9 _ d;refine⟨?_,?_⟩
  ·show(Es l&&yW (ls.map .str))=true;rw[h l Zc,b];rfl
  ·show max 0 (xY<|ls.map .str)=0;rw[c];rfl
theorem Ke:∀{rs:Dg},(∀p∈z8 rs,Es p=true)->yW (rs.map zb)=true/\xY (rs.map zb)<=1
 |[],_=>⟨rfl,ZD _⟩
 |(x,y)::rs,h=>by
  obtain⟨b,d⟩:=Ke (rs:=rs) fun p c=>h p<|Q9 _<|Q9 _ c;refine⟨?_,?_⟩
  ·show((Es x&&(Es y&&true))&&yW (rs.map zb))=true;rw[h x Zc,h y<|Q9 _ Zc,b];rfl
  ·show max (max 0 (max 0 0)+1) (xY<|rs.map zb)<=1;lia
theorem BT {t:Th}(g:t.Good):Xd t.dat:=by
 have c:∀p∈t.parts,Es p=true:=fun p e=>(g.2 p e).ok;cases t with
 |leaf ls =>
  obtain⟨b,d⟩:=Ge (ls:=ls) c;refine⟨?_,?_⟩
  ·show(Es "leaf"&&(yW (ls.map .str)&&true))=true;rw[b];decide +kernel
  ·show max 0 (max (xY (ls.map .str)+1) 0)+1<=6;rw[d];decide
 |tree rs =>
  obtain⟨b,d⟩:=Ke (rs:=rs) c;refine⟨?_,?_⟩
  ·show(Es "tree"&&(yW (rs.map zb)&&true))=true;rw[b];decide +kernel
  ·show max 0 (max (xY (rs.map zb)+1) 0)+1<=6;lia
 |note x ps y =>
  have f:∀p∈ps,Es p=true:=fun p e=>c p (by show p∈[x,dig ps.length]++ps++[y];simp[e]);have h:Es x=true:=c x (by show x∈[x,dig ps.length]++ps++[y];simp);have i:Es y=true:=c y (by show y∈[x,dig ps.length]++ps++[y];simp);obtain⟨b,d⟩:=Ge f;refine⟨?_,?_⟩
  ·show(Es "note"&&(Es x&&(yW (ps.map .str)&&(Es y&&true))))=true;rw[b,h,i];decide +kernel
  ·show max 0 (max 0<|max (xY (ps.map .str)+1)<|max 0 0)+1<=6;rw[d];decide
theorem Se {a b:Th}(h:a.dat=b.dat):a=b:=(Nh a b).mp (by
 rw[h];exact(Nh b b).mpr rfl)
def BF (e:En):Prop:=∃t:Th,e.d=t.dat/\t.Good/\e.h=UB t
def N4 (e:En):Str:=match e.d with|.tuple (.str x::_)=>x|_=>""
theorem RW (t:Th)(h:Str)(n:Nat):N4 ⟨h,n,t.dat⟩=t.word:=by cases t<;>rfl
theorem uL {e:En}{t:Th}(h:e.d=t.dat):N4 e=t.word:=by
 obtain⟨a,b,c⟩:=e;have h:c=t.dat:=h;subst h;exact RW t a b
def yQ (S:Di)(x:Str)(b:Da):Bool:=S.any fun e=>decide (e.nm=x)&&decide (N4 e∈b)
def namesOk (S:Di):Th->Bool
 | .leaf _=>true
 | .tree rows=>rows.all fun r=>yQ S r.2 ["leaf","tree"]
 | .note t ps _=>yQ S t ["tree"]&&ps.all fun p=>yQ S p ["note"]
theorem Nm (g:ux S){e:En}(d:e∈S)(n:Da):yQ S e.nm n=decide (N4 e∈n):=by
 unfold yQ;rw[Yq,Yc,ZK];constructor
 ·rintro⟨f,o,h⟩;rw[Zi,ZK,ZK]at h;obtain⟨i,p,b⟩:=ZN.mp d;obtain⟨j,q,c⟩:=ZN.mp o;have:i=j:=by
   have l:=Jz.mp g.nn
   rcases Uo i j with z|z|z
   ·exact absurd (by rw[ZQ,ZQ,b,c];exact h.1.symm) (l i j (by rwa[Q5]) (by rwa[Q5]) z)
   ·exact z
   ·exact absurd (by rw[ZQ,ZQ,b,c];exact h.1) (l j i (by rwa[Q5]) (by rwa[Q5]) z)
  subst this;rw[←b,c];exact h.2
 ·intro h;exact⟨e,d,by rw[Zf rfl,Zf h];rfl⟩
theorem FU {S:Di}{x:Str}(h:x∉S.map En.nm)(c:Da):yQ S x c=false:=by
 unfold yQ;rw[J6];intro e b z;rw[Zi,ZK]at z;exact h<|Za.mpr ⟨e,b,z.1⟩
end An
namespace AxS
open PySem PySem.Spec PyProof.Rows
theorem XJ (t:La)(n:Nat):(t.orStandIn n).led=t.led/\(t.plain=false->(t.orStandIn n).plain=false):=by
 unfold SetTable.orStandIn
 split
 ·exact⟨rfl,id⟩
 ·exact⟨rfl,fun _=>rfl⟩
theorem BQ (t:La)(es:Array<|Int×Ei)(h:Int)(x:Ei):(layNew t es h x).2.1.led=t.led/\(t.plain=false->(layNew t es h x).2.1.plain=false):=by
 unfold layNew
 split
 ·rename_i slot b _;have m:=XJ (t.put slot).1 (SetTable.insertAt es (t.put slot).2 (h,x)).size;exact⟨m.1,m.2⟩
 ·exact⟨rfl,fun _=>rfl⟩
theorem KM {mask finger moves:Nat}{led plain:Bool}{hs:Array Int}{t:La}{o:Array Nat}(h:SetTable.laid mask finger moves led plain hs=some (t,o)):t.led=led/\t.plain=plain:=by
 unfold SetTable.laid at h;simp only[Option.bind_eq_bind,Option.bind_eq_some_iff,Option.pure_def,Option.some.injEq,Prod.mk.injEq]at h;obtain⟨_,_,h,_⟩:=h;rw[←h];exact⟨rfl,rfl⟩
theorem Ib (t:La)(es:Array<|Int×Ei)(n:Nat):(relayAll t es n).2.1.led=t.led/\(t.plain=false->(relayAll t es n).2.1.plain=false):=by
 unfold relayAll
 split
 ·rename_i d b c;have m:=KM c;dsimp only
  split
  ·exact⟨m.1,fun z=>m.2.trans z⟩
  ·exact⟨rfl,fun _=>rfl⟩
 ·exact⟨rfl,fun _=>rfl⟩
def keyOf (e:Int×Ei):Str:=match e.2 with
 | .str k _=>k
 |_=>""
def O0 (prog:Ek)(w:Eo)(es:Array<|Int×Ei)(t:La)(ks:Da):Prop :=
 Mw (strKind prog w) es.toList/\(es.toList.map keyOf).Perm ks/\es.size<Mc/\t.fits es.size=true/\t.led=!(w.params.followText "set-order")/\(es.size≠0->t.plain=false)
def yh (prog:Ek)(w:Eo)(h:EB)(a:Ej)(ks:Da):Prop:=∃o b c t,h.get? a=some o/\o.ExactSet/\o.data=.set b c t/\O0 prog w b t ks
section
variable {prog:Ek}{w:Eo}{A:EF}{E:Ei->Dh}{s:Em}
theorem yh.at {h':EB}(x:yh prog w h a ks)(e:∀o,h.get? a=some o->h'.get? a=some o):yh prog w h' a ks:=by
 obtain⟨o,c,b,t,d,r⟩:=x;exact⟨o,c,b,t,e _ d,r⟩
theorem key_is {es:Array (Int×Ei)}(h:Mw (strKind prog w) es.toList){e:Int×Ei}(g:e∈es.toList)(k:Str):(strKind prog w).is k e.2=true↔keyOf e=k:=by
 obtain⟨⟨d,b,_⟩,_⟩:=h e g;obtain⟨t,f⟩:=Y6 b;have c:keyOf e=d:=by unfold keyOf;rw[f]
 constructor
 ·intro z;rw[c];exact(strKind prog w).inj e.2 d k b z
 ·intro z;rwa[←z,c]
theorem Hh {es:Array (Int×Ei)}{ks:Da}(h:Mw (strKind prog w) es.toList)(p:(es.toList.map keyOf).Perm ks)(k:Str):k∈ks↔∃e∈es.toList,(strKind prog w).is k e.2=true:=by
 rw[←p.mem_iff,Za];exact⟨fun⟨e,b,z⟩=>⟨e,b,(key_is h b k).mpr z⟩,fun⟨e,b,z⟩=>⟨e,b,(key_is h b k).mp z⟩⟩
theorem IA {es:Array (Int×Ei)}{t:La}{ks:Da}(x:O0 prog w es t ks):es.size=ks.length:=by
 rw[←x.2.1.length_eq,Q5,Zw]
theorem MW {k:Str}{C:Tok}{Q:Bool->Dh}(hS:yh prog w s.heap a ks)(an:ks.length+1<Mc)
  (h:∀h' r,ES a s.heap h'->yh prog w h' a (if k∈ks then ks else ks++[k])->Q r { s with heap:=h' }) :
  El (Ep prog w) A (setAddHashed a (.str k C)<|hashStr w k) Q E s:=by
 obtain⟨o,y,U,t,N,D,hd,X⟩:=hS;have Dp:=IA X;obtain⟨l,S,hb,Y,n,al⟩:=X;have DT:(strKind prog w).is k (.str k C)=true:=by show Ld k (.str k C)=true;simp[Ld]
 have H:(Ma k C).scannable=true:=rfl;have hh:hashStr w k=(strKind prog w).hash k:=rfl;rw[hh];unfold setAddHashed setAddHashedIn;refine ZW<|Q4<|ZP N hd Y ?_;dsimp only;rw[byScan_of (knd:=strKind prog w) H hb l];simp only[↓reduceIte];unfold setAddByScan;refine Q4<|Q4<|JH<|Q4<|wpAny_setScan_of (knd:=strKind prog w) DT N hd Y l ?_;cases hr:List.findIdx? (fun e=>(strKind prog w).is k e.2) y.toList with
 |some j =>
  obtain⟨hj,aj,_⟩:=List.findIdx?_eq_some_iff_getElem.mp hr;have hk:k∈ks:=(Hh l S k).mpr ⟨y.toList[j],YF hj,aj⟩;have:=h s.heap false (Heap.SameBut.refl a s.heap) (by rw[Zt hk];exact⟨o,y,U,t,N,D,hd,l,S,hb,Y,n,al⟩);exact Q7<|Q7 this
 |none =>
  have hk:k∉ks:=fun z=>by
   obtain⟨e,he,q⟩:=(Hh l S k).mp z;have:=List.findIdx?_eq_none_iff.mp hr e he;rw[q]at this;cases this
  rw[Zs hk]at h;have K:∀(b:Bool) {u:Em} {T:Unit->Dh},T () u->El (Ep prog w) A (match b with|true=>rule "set.scan.the-table-gave-way"|false=>Lo ()) T E u:=by
   intro b u T hq;cases b
   ·exact Q7 hq
   ·exact JH hq
  have d:=layNew_perm t y ((strKind prog w).hash k)<|.str k C;have g:=layNew_fits t y ((strKind prog w).hash k)<|.str k C;have x:=BQ t y ((strKind prog w).hash k)<|.str k C;dsimp only;generalize layNew t y ((strKind prog w).hash k) (.str k C)=L at d g x ⊢;obtain⟨c,t1,wd,ap⟩:=L;dsimp only at d g x ⊢;rw[Array.toList_push]at d;have ax:c.size=y.size+1:=by rw[←Zw,d.length_eq,Ze,Zw];rfl
  have B:Mw (strKind prog w) c.toList:=(l.push DT H).perm d;have O:(c.toList.map keyOf).Perm (ks++[k]):=by
   refine(d.map keyOf).trans ?_;rw[Zg];exact S.append<|List.Perm.refl _
  have J:c.size<scanBound:=by lia
  refine Q4<|K _ ?_;have tail:∀(f:La),f.fits c.size=true->f.led=t.led->f.plain=false->El (Ep prog w) A (do
    storeSet a c f
    if(!wd&&f.tooFull)=true then do
      (match(relayAll f c<|LH c.size).2.2 with|true=>rule "set.scan.the-table-gave-way"|false=>Lo ())
      storeSet a (relayAll f c<|LH c.size).1 (relayAll f c<|LH c.size).2.1
      Lo (some true)
     else Lo (some true)) (fun r s'=>r=some true/\Q true s') E s:=by
   intro f Z M P;refine Q4<|J7 N hd ?_<|VB J;have R:=EM s.heap a<|LM c f;have G:(s.heap.update a<|LM c f).get? a=some { o with data:=.set c (U+1) f }:=by
    have:=Ye (LM c f) N (by rw[putSet_of c f hd];rfl);rw[putSet_of c f hd]at this;exact this
   split
   ·have p:=relayAll_perm f c<|LH c.size;have F:=relayAll_fits f c<|LH c.size;have v:=Ib f c<|LH c.size;generalize relayAll f c (LH c.size)=Rl at p F v ⊢;obtain⟨i,I,gv⟩:=Rl;dsimp only at p F v ⊢;have as:i.size=c.size:=by rw[←Zw,p.length_eq,Zw]
    refine Q4 (K _<|Q4<|J7 G rfl ?_<|VB<|by lia);have ab:((s.heap.update a<|LM c f).update a<|LM i I).get? a=some { o with data:=.set i (U+1+1) I }:=by
     have:=Ye (LM i I) G (by rw[putSet_of i I rfl];rfl);rw[putSet_of i I rfl]at this;exact this
    exact Q7 ⟨rfl,h _ true (R.trans<|EM _ a _) ⟨_,i,_,I,ab,D,rfl,B.perm p,((p.map keyOf)).trans O,by lia,F,v.1.trans<|M.trans n,fun _=>v.2 P⟩⟩
   ·exact Q7 ⟨rfl,h _ true R ⟨_,c,_,f,G,D,rfl,B,O,J,Z,M.trans n,fun _=>P⟩⟩
  split
  ·refine Q4 ?_;rw[hashByValue_scannable 8 H];refine Q7 ?_;refine Yg (tail { t1 with plain:=false } (SetTable.fits_plain_off g) x.1 rfl) (fun r s' q=>?_) fun _ _ z=>z;obtain⟨rfl,q⟩:=q;exact Q7 q
  ·rename_i ai;refine Q4<|Q7 ?_;simp only[↓reduceIte];refine Yg (tail t1 g x.1<|by simpa using ai) (fun r s' q=>?_) fun _ _ z=>z;obtain⟨rfl,q⟩:=q;exact Q7 q
def step (ks:Da)(k:Str):Da:=if k∈ks then ks else ks++[k]
def uniq (xs:Da):Da:=xs.foldl step []
theorem Bw (xs:Da)(k:Str):uniq (xs++[k])=step (uniq xs) k:=by unfold uniq;rw[Jj];rfl
theorem HY (ks:Da)(k:Str):(step ks k).length<=ks.length+1:=by unfold step;split<;>simp
theorem tV:∀(n:Nat) (xs:Da),xs.length=n->(uniq xs).length<=n
 | 0,xs,h=>by rw[Yn h];exact Zd _
 |n+1,xs,h=>by
  have b:xs≠[]:=fun z=>by rw[z]at h;cases h
  rw[←List.dropLast_concat_getLast b,Bw];have:=tV n xs.dropLast (by rw[List.length_dropLast];lia);have:=HY (uniq xs.dropLast)<|xs.getLast b;lia
theorem OW {xs:Da}{i:Nat}{k:Str}(h:xs[i]?=some k):uniq (xs.take<|i+1)=if k∈uniq (xs.take i) then uniq (xs.take i) else uniq (xs.take i)++[k]:=by
 have e:xs.take (i+1)=xs.take i++[k]:=by rw[YT,h];rfl
 rw[e,Bw];rfl
end
section
variable {prog:Ek}{w:Eo}{A:EF}{R:Result->Dh}{I:Ej}{fp wr:Dd}{G:Array GenState->Array GenState->Prop}{n:Nat}{P:Nat->Ei->Prop}{St:Nat->Dh}
theorem N2 (W:WalksS prog w A.in1 I fp wr G n P St)(S:Ej)(j:S∉fp)(xs:Da)(N:xs.length=n)(B:∀i v,P i v->∃k t,xs[i]?=some k/\v=.str k t)(p:n+1<Mc) :
  ∀(m i:Nat) (s:Em),n-i=m->i<=n->St i s->yh prog w s.heap S (uniq<|xs.take i) ->
   (∀s',Moved (S::wr) G s s'->yh prog w s'.heap S (uniq xs)->R (.ok<|.ret .none) s')->L1 (Ep prog w) A (.builtin "set.update.loop" ⟨[.ref S,.ref I],[]⟩) R s:=by
 have l:S∉wr:=fun h=>j<|W.sub _ h;have c:∀b∈wr,b∈S::wr:=fun b p=>Q9 _ p;intro m
 induction m with
 |zero =>
  intro i s M L d C D;have F:i=n:=by lia
  subst F;refine YB Vk ?_;rw[E1 Jn _];show El _ A.in1 (L9 (.ref I)>>=_) _ _ s;refine Q4<|W.done s _ _ d fun s' u=>?_;show El _ A.in1 (ret EI) _ _ s';rw[←N,ZF]at C;exact Q7<|D s' (u.mono c)<|C.at fun o e=>u.heap S _ l e
 |succ m ih =>
  intro i s M L d C D;have q:i<n:=by lia
  refine YB Vk ?_;rw[E1 Jn _];show El _ A.in1 (L9 (.ref I)>>=_) _ _ s;refine Q4<|W.item i s _ _ q d fun v s' K z u=>?_;obtain⟨k,t,H,rfl⟩:=B i v K;have E:=C.at (h':=s'.heap) fun o e=>u.heap S _ l e;show El _ A.in1 (holding [Ma k t] (setAdd S<|.str k t)>>=_) _ _ s';refine Q4<|ZW ?_;unfold setAdd;refine ZW ?_;refine Q4 ((strKind prog w).pyHash (k:=k) (by show Ld k (.str k t)=true;simp[Ld]) ?_);have hl:=tV _ (xs.take i) rfl;rw[Zx]at hl;refine MW (s:={ s' with toks:=s'.toks+1 }) E (by lia) fun h' r y g=>?_;rw[←OW H]at g;refine Q7 ⟨Je Jn _,ih (i+1) _ (by lia) q (W.frame _ s' _ _ z (Jg _) fun b p o e=>?_) g fun J x f=>?_⟩
  ·rw[y.2 b (fun h:b=S=>j<|by rwa[←h])];exact e
  ·refine D J (Moved.trans W.gtrans ((u.mono c).then_heap (Jg _) fun b o p e=>?_) x) f;rw[y.2 b (fun h:b=S=>p (by rw[h];exact Zc))];exact e
end
section
variable {prog:Ek}{w:Eo}{A:EF}{E:Ei->Dh}{s:Em}
def zN (w:Eo):Obj:={ cls:=.type "set",dict:=none,data:=.set #[] 0 (.fresh 0 0<|!(w.params.followText "set-order")) }
theorem IJ {h:EB}{a:Ej}{xs:Da}(e:h.get? a=some (zN w)):yh prog w h a (uniq<|xs.take 0) :=
 ⟨_,#[],0,_,e,⟨rfl,rfl,rfl⟩,rfl,fun _ z=>by simp at z,List.Perm.refl _,by decide,by rfl,rfl,fun z=>absurd rfl z⟩
theorem Fd (a:Ei){Q₁:Ei->Dh}(h:Q₁ (.ref s.heap.objs.size) { s with heap:=s.heap.push (zN w) }) :
  L1 (Ep prog w) A (.call (.builtin "set.__new__") ⟨[.type "set",a],[]⟩) (wants Q₁ E) s:=by
 refine V4 ?_;show El _ A.in1 (do checkBuiltinCall "set.__new__" ⟨[.type "set",a],[]⟩;again (.builtin "set.__new__" ⟨[.type "set",a],[]⟩)) _ _ s;refine Q4<|Vd (F.newCall_set_1 a)<|Q7 ⟨Je F.plain_set_new _,YB F.entry_set_new ?_⟩;rw[E1 F.plain_set_new _];unfold Builtin.«set.__new__» Builtin.Frozenset.newClass;have b:=sub_set_self;obtain⟨c,g,d,e,os⟩:=s;dsimp only
 wp_walk
 refine Jd<|Q7 ?_;dsimp only;simp only[newObj];refine Q4<|wpAny_alloc<|Q7 ?_;exact Q7 h
theorem sub_list_set:isSubtype (.type "list") (.type "set")=Lo false:=by rw[Jh];kernel_rfl
theorem sub_list_frozenset:isSubtype (.type "list") (.type "frozenset")=Lo false:=by rw[Jh];kernel_rfl
theorem sub_tuple_set:isSubtype (.type "tuple") (.type "set")=Lo false:=by rw[Jh];kernel_rfl
theorem sub_tuple_frozenset:isSubtype (.type "tuple") (.type "frozenset")=Lo false:=by rw[Jh];kernel_rfl
end
section
variable {M:Model}{A:EF}{E:Ei->Dh}{s:Em}
theorem Fn {src:Source}{n:Nat}{Q:Nat->Dh}(b:n≠0)(h:∀i,i<n->Q i { s with drawn:=s.drawn.bump src }):El M A (choose src n) Q E s :=
 fun c p _=>⟨b,h _<|Nat.mod_lt _<|Nat.pos_of_ne_zero b⟩
theorem IK {α:Type}{xs:List α}{i:Nat}{x:α}(h:xs[i]?=some x):(x::xs.eraseIdx i).Perm xs:=by
 induction xs generalizing i with
 |nil=>cases h
 |cons y ys ih =>
  cases i with
  |zero =>
   have h:y=x:=Option.some.inj h;subst h;exact List.Perm.refl _
  |succ i =>
   have h:ys[i]?=some x:=by simpa using h
   show(x::y::ys.eraseIdx i).Perm (y::ys);exact(List.Perm.swap y x _).trans (List.Perm.cons y<|ih h)
theorem jC {α:Type}:∀(n:Nat) (xs:List α) (s:Em) {Q:List α->Dh},xs.length<=n->(∀ys d,ys.Perm xs->Q ys { s with drawn:=d })->El M A (drawOrder n xs) Q E s
 | 0,xs,s,Q,hl,h=>by
  have e:xs=[]:=Yn (by lia);subst e;exact Q7<|h [] s.drawn<|List.Perm.refl _
 |n+1,[],s,Q,hl,h=>Q7<|h [] s.drawn<|List.Perm.refl _
 |n+1,x::xs,s,Q,hl,h=>by
  refine Q4 (Fn (by simp) fun i b=>?_);have c:(x::xs)[i]?=some ((x::xs)[i]):=Zb b;have f:=IK c;show El M A (match(x::xs)[i]? with|some x_1=>_|none=>_) Q E _;rw[c];refine Q4 (jC n _ _ (by rw[List.length_eraseIdx_of_lt b];simp at hl ⊢;lia) fun ys d g=>?_);exact Q7<|h _ d<|(List.Perm.cons _ g).trans f
theorem NI {α:Type}(next:Nat->Nat):∀(fuel k:Nat) (left:List α) (out:Array α),left.length=fuel->(pickOrder.go next fuel k left out).toList.Perm (out.toList++left)
 | 0,k,left,out,h=>by
  rw[Yn h,ZG];exact List.Perm.refl _
 |fuel+1,k,left,out,h=>by
  unfold pickOrder.go;have b:next k % left.length<left.length:=Nat.mod_lt _ (by lia);have c:left[next k % left.length]?=some (left[next k % left.length]):=Zb b;rw[c];refine(NI next fuel (k+1) _ _ (by rw[List.length_eraseIdx_of_lt b];lia)).trans ?_;rw[Array.toList_push,Z7];exact List.Perm.append_left _<|IK c
theorem kG {α:Type}(next:Nat->Nat)(xs:Array α):(Md next xs).toList.Perm xs.toList:=by
 have:=NI next xs.size 0 xs.toList #[] (by simp);simpa[Md] using this
end
section
variable {prog:Ek}{w:Eo}{A:EF}{E:Ei->Dh}{s:Em}
def byText (w:Eo):Bool:=w.params.followText "set-order"
theorem Go {a:Ej}{o:Obj}{es:Array (Int×Ei)}{ep:Nat}{t:La}{Q:Bool->Dh}(c:s.heap.get? a=some o)(hd:o.data=.set es ep t)(b:t.fits es.size=true)
  (h:Q (!byText w&&(!t.plain&&decide (es.size>1))) s):El (Ep prog w) A (setDrawn a) Q E s:=by
 unfold setDrawn MD;refine Q4<|ZP c hd b ?_;refine Q4<|Q4<|Jd<|Q7 ?_;exact Q7 h
theorem KA:entryFor table "set.__iter__"=some Builtin.«frozenset.__iter__» :=
 entryFor_alias (id':="frozenset.__iter__") (by kernel_rfl) (by first|rfl|decide +kernel|(unfold String.splitOn;simp +decide [String.splitOnAux])) (by decide +kernel) (by kernel_rfl)
theorem Ht:Manifest.owners.lookup (String.ofList ['r','o','t','a','r','e','t','i','_','t','e','s'].reverse)=some Manifest.sig_set_iterator:=by kernel_rfl
theorem slot_next:Slot "set_iterator" "__next__" "set_iterator.__next__" :=
 .of (owner:="set_iterator") (n:="__next__") (by rw[typeLookup_type,VL];kernel_rfl) (by decide +kernel) (by decide +kernel) (by decide +kernel)
  (by first|exact .inl (by decide +kernel)|exact .inr (by decide +kernel)) (by rw[Jh];kernel_rfl)
theorem entry_next:entryFor table "set_iterator.__next__"=some Builtin.«set_iterator.__next__»:=entryFor_of_tree (by kernel_rfl)
theorem args_next (a:Ei):argsOk "set_iterator.__next__" ⟨[a],[]⟩:=by
 unfold argsOk;rw[signature?_of (id:="set_iterator.__next__") (n:=['_','_','t','x','e','n','_','_']) (o:=['r','o','t','a','r','e','t','i','_','t','e','s']) (by kernel_rfl) Ht];kernel_rfl
theorem XE:Slot "set_iterator" "__iter__" "set_iterator.__iter__" :=
 .of (owner:="set_iterator") (n:="__iter__") (by rw[typeLookup_type,VL];kernel_rfl) (by decide +kernel) (by decide +kernel) (by decide +kernel)
  (by first|exact .inl (by decide +kernel)|exact .inr (by decide +kernel)) (by rw[Jh];kernel_rfl)
theorem Fv (a:Ei):argsOk "set_iterator.__iter__" ⟨[a],[]⟩:=by
 unfold argsOk;rw[signature?_of (id:="set_iterator.__iter__") (n:=['_','_','r','e','t','i','_','_']) (o:=['r','o','t','a','r','e','t','i','_','t','e','s']) (by kernel_rfl) Ht];kernel_rfl
theorem CO:entryFor table "set_iterator.__iter__"=some Builtin.«dict_keyiterator.__iter__» :=
 entryFor_alias (id':="dict_keyiterator.__iter__") (by kernel_rfl) (by first|rfl|decide +kernel|(unfold String.splitOn;simp +decide [String.splitOnAux])) (by decide +kernel) (by kernel_rfl)
def Np (first:Ei)(i:Int)(a:Ej)(n ep:Nat):Obj:={ cls:=.type "set_iterator",data:=.fields #[first,ET i,.ref a,ET n,ET ep] }
theorem PB {a:Ej}{o:Obj}{es:Array (Int×Ei)}{ep:Nat}{t:La}{Q:Ei->Dh}(b:s.heap.get? a=some o)(n:o.ExactSet)(hd:o.data=.set es ep t)(c:t.fits es.size=true)(hz:es.size<=1000)
  (j:(!byText w&&(!t.plain&&decide (es.size>1)))=false->Q (.ref s.heap.objs.size) { s with heap:=s.heap.push (Np (ET 0) 0 a es.size ep) })
  (l:(!byText w&&(!t.plain&&decide (es.size>1)))=true->∀(ps:List Nat) d tk,ps.Perm (EC es.size)->Q (.ref<|s.heap.objs.size+1) { s with heap:=(s.heap.push { cls:=.type "tuple",data:=.seq (ps.map fun i=>ET (i:Nat)).toArray }).push (Np (.ref s.heap.objs.size) 0 a es.size ep),drawn:=d,toks:=tk }) :
  El (Ep prog w) A (pyIter<|.ref a) Q E s:=by
 have g:s.TypeIs (.ref a) "set":=⟨o,b,n.1⟩;refine wpAny_pyIter_slot g PySem.F.slot_set_iter<|Ys PySem.F.slot_set_iter g KA ?_<|PySem.F.args_set_iter_1 _;unfold Builtin.«frozenset.__iter__»;refine Q4 (m:=Builtin.Frozenset.slot0 _ _)<|Vd (a:=a) rfl ?_;unfold Builtin.Frozenset.sizeOf;refine Q4<|Q4<|JK b hd c<|Q7 ?_;refine Q4<|Go b hd c ?_;cases q:(!byText w&&(!t.plain&&decide (es.size>1))) with
 |false =>
  rw[Zs<|by decide];refine Q4<|Q7<|Q4<|wpAny_setEpoch_of b hd c ?_;simp only[newFields];refine Q4<|Yb ?_;exact Q7 ⟨_,rfl,"set_iterator",_,⟨_,Zk _ rfl,rfl⟩,slot_next.lookup,j q⟩
 |true =>
  rw[Zt rfl];refine Q4 (jC es.size (EC es.size) s (by rw[Z8];exact Zd _) fun ps d h=>?_);have p:ps.length=es.size:=by rw[h.length_eq,Z8]
  simp only[newTuple];refine Q4<|Yb ?_ ?_
  ·have f:(s.heap.push { cls:=.type "tuple",data:=.seq (ps.map fun i=>ET (i:Nat)).toArray }).get? a=some o:=Q8 _ b;refine Q4<|wpAny_setEpoch_of (s:={ s with heap:=s.heap.push { cls:=.type "tuple",data:=.seq (ps.map fun i=>ET (i:Nat)).toArray },drawn:=d }) f hd c ?_;simp only[newFields];refine Q4<|Yb ?_;have e:(s.heap.push { cls:=.type "tuple",data:=.seq (ps.map fun i=>ET (i:Nat)).toArray }).objs.size=s.heap.objs.size+1:=YL _ _;refine Q7 ⟨_,rfl,"set_iterator",_,⟨_,Zk _ rfl,rfl⟩,slot_next.lookup,?_⟩;have:=l q ps d s.toks h;rw[←e]at this;exact this
  ·show(ps.map fun i=>ET (i:Nat)).toArray.size<=sizeLine;rw[Zp,Q5,p,Ym];lia
theorem qH {it:Ej}(h:s.heap.get? it=some (Np f i a n ep)):s.TypeIs (.ref it) "set_iterator":=⟨_,h,rfl⟩
theorem G1 {it a:Ej}{o:Obj}{es:Array (Int×Ei)}{ep:Nat}{t:La}{slot i D1:Nat}{x:Ei}{Q:Dc->Dh}(hit:s.heap.get? it=some (Np (ET slot) i a es.size ep))(g:a≠it)(j:s.heap.get? a=some o)(hd:o.data=.set es ep t)(e:t.fits es.size=true)
  (f:∀(A:EF) (E:Ei->Dh) (Q:Option (Ei×Nat)->Dh),Q (some (x,D1)) s->El (Ep prog w) A (setNext a slot i ep) Q E s)
  (h:∀h',h'.get? it=some (Np (ET D1) (i+1) a es.size ep)->ES it s.heap h'->Q (some x) { s with heap:=h' }):El (Ep prog w) A (L9<|.ref it) Q E s:=by
 unfold L9;refine Q4<|VW<|YY (name:=EX "__next__") (qH hit) slot_next<|Ys slot_next (qH hit) entry_next ?_<|args_next _
 unfold Builtin.«set_iterator.__next__»;refine Q4<|Vd (a:=(Ez it,[])) rfl ?_;refine Q4<|Uh hit rfl ?_;show El _ _ (setEntries a>>=_) _ _ s;refine Q4<|JK j hd e ?_;have c:(((es.size:Nat):Int) !=((es.size:Nat):Int))=false:=by simp
 rw[Zs (by rw[c];decide)];show El _ _ (setNext a slot i ep>>=_) _ _ s;refine Q4<|f _ _ _ ?_;show El _ _ (setField (.ref it) 0 (ET D1)>>=_) _ _ s;refine Q4 (Jf hit rfl (by simp) ?_);have b:=Ye (LP (·.setIfInBounds 0 (ET (D1:Nat)))) hit rfl;refine Q4 (Jf b rfl (by simp) ?_);have d:=Ye (LP (·.setIfInBounds 1 (ET<|(i:Int)+1))) b rfl;exact Q7 ⟨x,rfl,Q7<|h _ d<|(EM ..).trans<|EM ..⟩
theorem kA {it a:Ej}{o:Obj}{es:Array (Int×Ei)}{ep:Nat}{t:La}{slot i:Nat}{Q:Dc->Dh}(c:A.handled=none)(hit:s.heap.get? it=some (Np (ET slot) i a es.size ep))(g:s.heap.get? a=some o)(hd:o.data=.set es ep t)(e:t.fits es.size=true)
  (f:∀(A:EF) (E:Ei->Dh) (Q:Option (Ei×Nat)->Dh),Q none s->El (Ep prog w) A (setNext a slot i ep) Q E s)
  (h:∀h',Heap.ExtBut it s.heap h'->Q none { s with heap:=h' }):El (Ep prog w) A (L9<|.ref it) Q E s:=by
 unfold L9;refine Q4<|VW<|YY (name:=EX "__next__") (qH hit) slot_next<|Ys slot_next (qH hit) entry_next ?_<|args_next _
 unfold Builtin.«set_iterator.__next__»;refine Q4<|Vd (a:=(Ez it,[])) rfl ?_;refine Q4<|Uh hit rfl ?_;show El _ _ (setEntries a>>=_) _ _ s;refine Q4<|JK g hd e ?_;have d:(((es.size:Nat):Int) !=((es.size:Nat):Int))=false:=by simp
 rw[Zs (by rw[d];decide)];show El _ _ (setNext a slot i ep>>=_) _ _ s;refine Q4<|f _ _ _ ?_;show El _ _ (setField (.ref it) 2 .none>>=_) _ _ s;refine Q4 (Jf hit rfl (by simp) ?_);refine Q4 ?_;simp only[newExc,newTuple];refine Q4 (Yb ?_<|by size_fits);refine Q4 (m:=firstArgMember _ _) (Vd (a:=EI) (by first|rfl|(simp only[firstArgMember];rfl)) ?_);refine Yb ?_ (by size_fits);simp only[raiseNew];refine Q4<|wpAny_handled ?_
 first|rw[show A.in1.handled=none from c]|rw[c]
 refine Q4<|Q7<|wpAny_throw ?_;refine Q4<|Y0 (T:="StopIteration") (b:=true) ⟨_,Zk _ rfl,rfl⟩ isSubtype_stop ?_;refine Q7<|h _ ?_;refine((Heap.ExtBut.push ?_ _).push _);exact(EM ..).extBut
def Ti (ps:List Nat):Obj:={ cls:=.type "tuple",data:=.seq (ps.map fun i=>ET (i:Nat)).toArray }
theorem KY {it a u:Ej}{o:Obj}{es:Array (Int×Ei)}{ep:Nat}{t:La}{i p:Nat}{ps:List Nat}{e:Int×Ei}{Q:Dc->Dh}(hit:s.heap.get? it=some (Np (.ref u) i a es.size ep))(q:s.heap.get? u=some (Ti ps))(d:s.heap.get? a=some o)(hd:o.data=.set es ep t)(c:t.fits es.size=true)
  (n:ps[i]?=some p) (l:es[p]?=some e) (h:∀h',h'.get? it=some (Np (.ref u) (i+1) a es.size ep)->ES it s.heap h'->Q (some e.2) { s with heap:=h' }):El (Ep prog w) A (L9<|.ref it) Q E s:=by
 unfold L9;refine Q4<|VW<|YY (name:=EX "__next__") (qH hit) slot_next<|Ys slot_next (qH hit) entry_next ?_<|args_next _
 unfold Builtin.«set_iterator.__next__»;refine Q4<|Vd (a:=(Ez it,[])) rfl ?_;refine Q4<|Uh hit rfl ?_;show El _ _ (setEntries a>>=_) _ _ s;refine Q4<|JK d hd c ?_;have f:(((es.size:Nat):Int) !=((es.size:Nat):Int))=false:=by simp
 rw[Zs (by rw[f];decide)];show El _ _ (seqItems? (.ref u)>>=_) _ _ s;refine Q4<|wpAny_seqItems q rfl ?_;have b:(ps.map fun i=>ET ((i:Nat):Int)).toArray[i]?=some (ET (p:Nat)):=by
  rw[VM,Zj,n];rfl
 show El _ _ (match(ps.map fun i=>ET ((i:Nat):Int)).toArray[i]? with|some (.int place _)=>_|some _=>_|none=>_) _ _ s;rw[b];show El _ _ (setNextDrawn a p ep>>=_) _ _ s;unfold setNextDrawn;refine Q4<|Q4<|ZP d hd c ?_;have g:(ep !=ep)=false:=by simp
 dsimp only;rw[Zs (by rw[g];decide)];rw[l];refine Q7 ?_;show El _ _ (setField (.ref it) 1 (ET<|(i:Int)+1)>>=_) _ _ s;refine Q4 (Jf hit rfl (by simp) ?_);have j:=Ye (LP (·.setIfInBounds 1 (ET<|(i:Int)+1))) hit rfl;exact Q7 ⟨e.2,rfl,Q7<|h _ j<|EM ..⟩
theorem Iu {it a u:Ej}{o:Obj}{es:Array (Int×Ei)}{ep:Nat}{t:La}{i:Nat}{ps:List Nat}{Q:Dc->Dh}(d:A.handled=none)(hit:s.heap.get? it=some (Np (.ref u) i a es.size ep))(n:s.heap.get? u=some (Ti ps))(j:s.heap.get? a=some o)(hd:o.data=.set es ep t)(g:t.fits es.size=true)
  (l:ps[i]?=none) (h:∀h',Heap.ExtBut it s.heap h'->Q none { s with heap:=h' }):El (Ep prog w) A (L9<|.ref it) Q E s:=by
 unfold L9;refine Q4<|VW<|YY (name:=EX "__next__") (qH hit) slot_next<|Ys slot_next (qH hit) entry_next ?_<|args_next _
 unfold Builtin.«set_iterator.__next__»;refine Q4<|Vd (a:=(Ez it,[])) rfl ?_;refine Q4<|Uh hit rfl ?_;show El _ _ (setEntries a>>=_) _ _ s;refine Q4<|JK j hd g ?_;have e:(((es.size:Nat):Int) !=((es.size:Nat):Int))=false:=by simp
 rw[Zs (by rw[e];decide)];show El _ _ (seqItems? (.ref u)>>=_) _ _ s;refine Q4<|wpAny_seqItems n rfl ?_;have c:(ps.map fun i=>ET ((i:Nat):Int)).toArray[i]?=none:=by
  rw[VM,Zj,l];rfl
 show El _ _ (match(ps.map fun i=>ET ((i:Nat):Int)).toArray[i]? with|some (.int place _)=>_|some _=>_|none=>_) _ _ s;rw[c];show El _ _ (setField (.ref it) 0 (ET 0)>>=_) _ _ s;refine Q4 (Jf hit rfl (by simp) ?_);have f:=Ye (LP (·.setIfInBounds 0 (ET 0))) hit rfl;refine Q4 (Jf f rfl (by simp) ?_);refine Q4 ?_;simp only[newExc,newTuple];refine Q4 (Yb ?_<|by size_fits);refine Q4 (m:=firstArgMember _ _) (Vd (a:=EI) (by first|rfl|(simp only[firstArgMember];rfl)) ?_);refine Yb ?_ (by size_fits);simp only[raiseNew];refine Q4<|wpAny_handled ?_
 first|rw[show A.in1.handled=none from d]|rw[d]
 refine Q4<|Q7<|wpAny_throw ?_;refine Q4<|Y0 (T:="StopIteration") (b:=true) ⟨_,Zk _ rfl,rfl⟩ isSubtype_stop ?_;refine Q7<|h _ ?_;refine((Heap.ExtBut.push ?_ _).push _);exact((EM ..).trans<|EM ..).extBut
end
section
variable {prog:Ek}{w:Eo}{A:EF}{E:Ei->Dh}{s:Em}{a:Ej}{o:Obj}{es:Array (Int×Ei)}{ep:Nat}{t:La}
theorem uS {slot i:Nat}{Q:Option (Ei×Nat)->Dh}(g:byText w=true)(d:s.heap.get? a=some o)(hd:o.data=.set es ep t)(c:t.fits es.size=true)
  (h:Q (((Md (w.params.setOrder a ep) es)[i]?).map fun e=>(e.2,slot)) s):El (Ep prog w) A (setNext a slot i ep) Q E s:=by
 have b:(Setting.mk (Ep prog w).prog (Ep prog w).w.params).params.followText "set-order"=true:=g;unfold setNext MD;refine Q4<|ZP d hd c ?_;refine Q4<|Q4<|Jd<|Q7 ?_;dsimp only;rw[Zt b];have f:(ep !=ep)=false:=by simp
 rw[Zs (by rw[f];decide)];unfold setWalk MD;refine Q4<|Q4<|ZP d hd c ?_;refine Q4<|Q4<|Jd<|Q7 ?_;dsimp only;rw[Zt b];refine Q4<|Jd ?_;exact Q7<|Q7 h
theorem Xr {slot i:Nat}{Q:Option (Ei×Nat)->Dh}(e:byText w=false)(hl:t.led=true)(l:es.size<=1)(g:s.heap.get? a=some o)(hd:o.data=.set es ep t)(f:t.fits es.size=true)
  (h:Q (match es[Lj t.place slot]?,t.place[Lj t.place slot]? with|some (_,x),some j=>some (x,j+1)|_,_=>none) s):El (Ep prog w) A (setNext a slot i ep) Q E s:=by
 have b:(Setting.mk (Ep prog w).prog (Ep prog w).w.params).params.followText "set-order"=false:=e;have c:(!t.plain&&decide (es.size>1))=false:=by rw[Zo<|by lia,Jt]
 have d:(!t.led&&!es.isEmpty)=false:=by rw[hl];rfl
 unfold setNext MD;refine Q4<|ZP g hd f ?_;refine Q4<|Q4<|Jd<|Q7 ?_;dsimp only;rw[Zs (by rw[b];decide)];refine Q4<|Q7 ?_;show El _ _ (if(!t.plain&&decide (es.size>1))=true then _ else _) _ _ _;rw[Zs (by rw[c];decide)];refine Q4 ?_;show El _ _ (if(!t.led&&!es.isEmpty)=true then _ else _) _ _ _;rw[Zs (by rw[d];decide)];exact Q7<|Q7 h
theorem B6 {it:Ej}{Q:Ei->Dh}(hit:s.heap.get? it=some (Np f i a n ep))(h:Q (.ref it) s):El (Ep prog w) A (pyIter<|.ref it) Q E s:=by
 refine wpAny_pyIter_slot (qH hit) XE<|Ys XE (qH hit) CO ?_<|Fv _;show El _ _ (ret<|.ref it) _ _ s;exact Q7 ⟨_,rfl,"set_iterator",_,qH hit,slot_next.lookup,h⟩
theorem bz (z:A.handled=none)(I:Ej)(d:a≠I)(c:byText w=true)(hd:o.data=.set es ep t)(f:t.fits es.size=true) :
  Walks prog w A I [I,a] [I] es.size (fun i v=>((Md (w.params.setOrder a ep) es).toList.map (·.2))[i]?=some v) (fun i h=>h.get? I=some (Np (ET (0:Nat)) (i:Nat) a es.size ep)/\h.get? a=some o) where
 sub:=fun b c=>by simp at c;simp[c]
 frame:=fun _ _ _ st n=>⟨n I (by simp) _ st.1,n a (by simp) _ st.2⟩
 item:=fun i s Q E B st j=>by
  have hl:(Md (w.params.setOrder a ep) es).toList.length=es.size:=by rw[(kG _ es).length_eq,Zw]
  have l:(Md (w.params.setOrder a ep) es).toList[i]?=some ((Md (w.params.setOrder a ep) es).toList[i]'(by lia)):=Zb (by lia);generalize (Md (w.params.setOrder a ep) es).toList[i]'(by lia)=e at l;refine G1 (slot:=0) (D1:=0) (x:=e.2) st.1 d st.2 hd f (fun A E Q q=>uS c st.2 hd f ?_) fun g y r=>?_
  ·rwa[←Z0,l]
  ·exact j _ g s.toks (by rw[Zj,l];rfl) ⟨y,(r.2 a d).trans st.2⟩ fun b p c e=>(r.2 b<|by simpa using c).trans e
 done:=fun s Q E st j=>by
  have hl:(Md (w.params.setOrder a ep) es).toList.length=es.size:=by rw[(kG _ es).length_eq,Zw]
  refine kA (slot:=0) z st.1 st.2 hd f (fun A E Q q=>uS c st.2 hd f ?_) fun g u=>j g s.toks fun b p c e=>u b p (by simpa using c) e;rwa[←Z0,Yf<|by lia]
 self:=fun _ _ _ _ st h=>B6 st.1 h
theorem bB (L:A.handled=none)(I u:Ej)(x:a≠I)(y:u≠I)(ps:List Nat)(g:ps.Perm<|EC es.size)(hd:o.data=.set es ep t)(F:t.fits es.size=true) :
  Walks prog w A I [I,a,u] [I] es.size (fun i v=>(ps.filterMap fun p=>(es[p]?).map (·.2))[i]?=some v) (fun i h=>h.get? I=some (Np (.ref u) (i:Nat) a es.size ep)/\h.get? a=some o/\h.get? u=some (Ti ps)) where
 sub:=fun b c=>by simp at c;simp[c]
 frame:=fun _ _ _ st r=>⟨r I (by simp) _ st.1,r a (by simp) _ st.2.1,r u (by simp) _ st.2.2⟩
 item:=fun i s Q E N st n=>by
  have hl:ps.length=es.size:=by rw[g.length_eq,Z8]
  have f:ps[i]?=some (ps[i]'(by lia)):=Zb (by lia);have G:ps[i]'(by lia)<es.size:=YV.mp<|g.mem_iff.mp<|YF _;have D:es[ps[i]'(by lia)]?=some (es[ps[i]'(by lia)]'G):=ZT G;have all:ps.filterMap (fun p=>(es[p]?).map (·.2))=ps.map fun p=>(((es[p]?).map (·.2)).getD .none):=by
   have:∀d:List Nat,(∀q∈d,q<es.size)->d.filterMap (fun p=>(es[p]?).map (·.2))=d.map fun p=>(((es[p]?).map (·.2)).getD .none):=fun d=>by
    induction d with
    |nil=>intro _;rfl
    |cons q d ih =>
     intro j;have B:es[q]?=some (es[q]'(j q Zc)):=ZT _;rw[Y7,Zv,B];simp only[Yt,VT];rw[ih fun z M=>j z<|Q9 _ M]
   exact this ps fun q j=>YV.mp<|g.mem_iff.mp j
  refine KY st.1 st.2.2 st.2.1 hd F f D fun l K C=>?_;refine n _ l s.toks ?_ ⟨K,(C.2 a x).trans st.2.1,(C.2 u y).trans st.2.2⟩ fun b H c e=>(C.2 b<|by simpa using c).trans e;rw[all,Zj,f];simp only[Yt,D,VT]
 done:=fun s Q E st n=>by
  have hl:ps.length=es.size:=by rw[g.length_eq,Z8]
  exact Iu L st.1 st.2.2 st.2.1 hd F (Yf<|by lia) fun l J=>n l s.toks fun b H c e=>J b H (by simpa using c) e
 self:=fun _ _ _ _ st h=>B6 st.1 h
theorem Io (xs:Array Nat)(h:xs.size<=1):Lj xs 0=0:=by
 unfold Lj;have b:xs.size=0\/xs.size=1:=by lia
 rcases b with e|e
 ·rw[e];rfl
 ·rw[e];unfold SetTable.below.go;rw[Zt<|by decide];show(if xs.getD 0 0<0 then _ else _)=_;rw[Zs<|by lia];rfl
theorem N8 (xs:Array Nat)(h:xs.size=1):Lj xs (xs.getD 0 0+1)=1:=by
 unfold Lj;rw[h];unfold SetTable.below.go;rw[Zt<|by decide];show(if xs.getD 0 (xs.getD 0 0+1)<xs.getD 0 0+1 then _ else _)=_;have e:∀d,xs.getD 0 d=xs[0]'(by lia):=fun d=>by
  rw[ZE,ZT<|by lia];rfl
 rw[e,e,Zt<|by lia];rfl
def mV (t:La):Nat->Nat
 | 0=>0
 |_+1=>t.place.getD 0 0+1
theorem bA (H:A.handled=none)(I:Ej)(f:a≠I)(d:byText w=false)(hl:t.led=true)(g:es.size<=1)(hd:o.data=.set es ep t)(c:t.fits es.size=true) :
  Walks prog w A I [I,a] [I] es.size (fun i v=>(es.toList.map (·.2))[i]?=some v) (fun i h=>h.get? I=some (Np (ET ((mV t i:Nat):Int)) (i:Nat) a es.size ep)/\h.get? a=some o) where
 sub:=fun b d=>by simp at d;simp[d]
 frame:=fun _ _ _ st z=>⟨z I (by simp) _ st.1,z a (by simp) _ st.2⟩
 item:=fun i s Q E r st n=>by
  have J:i=0:=by lia
  subst J;have u:t.place.size=es.size:=by
   unfold Mm at c;rw[Zi]at c;exact Vg c.1
  have y:es[0]?=some (es[0]'r):=ZT r;have B:t.place[0]?=some (t.place[0]'(by lia)):=ZT (by lia);have p:t.place.getD 0 0=t.place[0]'(by lia):=by rw[ZE,B];rfl
  refine G1 (slot:=0) (D1:=t.place.getD 0 0+1) (x:=(es[0]'r).2) st.1 f st.2 hd c (fun A E Q q=>Xr d hl g st.2 hd c ?_) fun l g D=>?_
  ·rwa[Io _<|by lia,y,B,←p]
  ·refine n _ l s.toks ?_ ⟨g,(D.2 a f).trans st.2⟩ fun b C d e=>(D.2 b<|by simpa using d).trans e;rw[Zj,Z0,y];rfl
 done:=fun s Q E st n=>by
  have u:t.place.size=es.size:=by
   unfold Mm at c;rw[Zi]at c;exact Vg c.1
  refine kA (slot:=mV t es.size) H st.1 st.2 hd c (fun A E Q q=>Xr d hl g st.2 hd c ?_) fun l F=>n l s.toks fun b C d e=>F b C (by simpa using d) e;have G:es.size=0\/es.size=1:=by lia
  rcases G with e|e
  ·rw[e];show Q (match es[Lj t.place 0]?,t.place[Lj t.place 0]? with|some (_,x),some j=>some (x,j+1)|_,_=>none) s;rwa[Io _<|by lia,Y4<|by lia]
  ·rw[e];show Q (match es[Lj t.place<|t.place.getD 0 0+1]?,t.place[Lj t.place<|t.place.getD 0 0+1]? with|some (_,x),some j=>some (x,j+1)|_,_=>none) s;rwa[N8 _<|by lia,Y4<|by lia]
 self:=fun _ _ _ _ st h=>B6 st.1 h
end
def q8 (vs:Db)(b:Da):Prop:=vs.length=b.length/\∀(i:Nat) (v:Ei),vs[i]?=some v->∃k t,b[i]?=some k/\v=.str k t
section
variable {prog:Ek}{w:Eo}{A:EF}{E:Ei->Dh}{s:Em}{a:Ej}{ks:Da}
theorem Gb {l:List (Int×Ei)}(h:Mw (strKind prog w) l):q8 (l.map (·.2)) (l.map keyOf):=by
 refine⟨by rw[Q5,Q5],fun i v e=>?_⟩;rw[Zj]at e;cases q:l[i]? with
 |none=>rw[q]at e;cases e
 |some x =>
  rw[q]at e;have e:x.2=v:=Option.some.inj e;obtain⟨⟨k,c,_⟩,_⟩:=h x<|Zm q;obtain⟨t,b⟩:=Y6 c;exact⟨k,t,by rw[Zj,q];show some (keyOf x)=_;unfold keyOf;rw[b],by rw[←e];exact b⟩
theorem Tj {Q:Ei->Dh}(P:yh prog w s.heap a ks)(T:ks.length<=1000)(F:A.handled=none)
  (h:∀(I:Ej) (fp:Dd) (h':EB) d tk (vs:Db) (zs:Da) (St:Nat->EB->Prop),s.heap.objs.size<=I->(∀b∈fp,b=a\/s.heap.objs.size<=b)->(∀b o,s.heap.get? b=some o->h'.get? b=some o)->zs.Perm ks->q8 vs zs -> Walks prog w A I fp [I] ks.length (fun i v=>vs[i]?=some v) St->St 0 h'->Q (.ref I) { s with heap:=h',drawn:=d,toks:=tk }):El (Ep prog w) A (pyIter<|.ref a) Q E s:=by
 obtain⟨o,es,ep,t,x,S,hd,X⟩:=P;have g:=IA X;obtain⟨f,H,C,D,l,J⟩:=X;have n:a<s.heap.objs.size:=Zl x;have r:a≠s.heap.objs.size:=Zu n;refine PB x S hd D (by lia) (fun q=>?_)<|fun q B d tk y=>?_
 ·have kp:∀b u,s.heap.get? b=some u->(s.heap.push<|Np (ET 0) 0 a es.size ep).get? b=some u:=fun b u e=>Q8 _ e;have j:∀b∈[s.heap.objs.size,a],b=a\/s.heap.objs.size<=b:=fun b C=>by
   rcases Zh.mp C with z|z
   ·exact .inr (JQ z.symm)
   ·exact .inl (Q6.mp z)
  cases c:byText w with
  |true =>
   have W:=bz (prog:=prog) (A:=A) (es:=es) (ep:=ep) (t:=t) (o:=o) F s.heap.objs.size r c hd D;have L:=kG (w.params.setOrder a ep) es;rw[g]at W;exact h _ _ _ s.drawn s.toks _ _ _ (Zd _) j kp ((L.map keyOf).trans H) (Gb<|f.perm L) W ⟨by rw[←g];exact Zk _ rfl,Q8 _ x⟩
  |false =>
   have O:es.size<=1:=by
    rw[c]at q
    by_cases z:es.size>1
    ·rw[J<|by lia,Zf z]at q;cases q
    ·lia
   have hl:t.led=true:=by rw[l];show(!byText w)=true;rw[c];rfl
   have W:=bA (prog:=prog) (A:=A) (es:=es) (ep:=ep) (t:=t) (o:=o) F s.heap.objs.size r c hl O hd D;rw[g]at W;exact h _ _ _ s.drawn s.toks _ _ _ (Zd _) j kp H (Gb f) W ⟨by rw[←g];exact Zk _ rfl,Q8 _ x⟩
 ·have G:a≠s.heap.objs.size+1:=Zu<|Y3 n;have W:=bB (prog:=prog) (w:=w) (A:=A) (es:=es) (ep:=ep) (t:=t) (o:=o) (a:=a) F (s.heap.objs.size+1) s.heap.objs.size G (Zu<|Jq _) B y hd D;have K:(B.filterMap fun p=>es[p]?).Perm es.toList:=by
   refine(y.filterMap _).trans ?_;have e:=Vl es.toList;rw[Zw]at e;have M:(EC es.size).filterMap (fun p=>es[p]?)=(EC es.size).filterMap fun i=>es.toList[i]?:=by congr 1;funext p;exact(Z0 ..).symm
   rw[M,e]
  have R:(B.filterMap fun p=>(es[p]?).map (·.2))=(B.filterMap fun p=>es[p]?).map (·.2):=by rw[List.map_filterMap]
  rw[g]at W;rw[R]at W;have N:(s.heap.push<|Ti B).objs.size=s.heap.objs.size+1:=YL _ _;refine h _ _ _ d tk _ _ _ (Jg _) (fun b C=>?_) (fun b u e=>Q8 _<|Q8 _ e) ((K.map keyOf).trans H) (Gb<|f.perm K) W ⟨?_,Q8 _<|Q8 _ x,Q8 _<|Zk _ rfl⟩
  ·rcases Zh.mp C with z|z
   ·exact .inr (by rw[z];exact Jg _)
   ·rcases Zh.mp z with z|z
    ·exact .inl z
    ·exact .inr (JQ (Q6.mp z).symm)
  ·rw[←N,←g];exact Zk _ rfl
theorem Pw (e:s.TypeIs (.ref a) "set"){Q:Bool->Dh}(h:Q false s):El (Ep prog w) A (Builtin.List.listLengthHint<|.ref a) Q E s:=by
 unfold Builtin.List.listLengthHint;refine Q4<|J0 e PySem.F.slot_set_len.lookup ?_;generalize d:("set.__len__":String)=f;wp_delta;rw[show splitId f=some ("set","__len__") from by subst d;decide +kernel];subst d;refine Q4 (Y0 (T:="set") (b:=true) e (by rw[Jh];kernel_rfl) ?_);refine Yk (fun c=>absurd c<|by decide) (fun _=>?_);refine Yk (fun _=>?_) (fun c=>absurd (by decide +kernel) c);refine Q4<|JS e ?_;exact Q7 h
open PySem.Calls PyProof.V in
theorem OU {R:Result->Dh}(Z:A.handled=none)(x:yh prog w s.heap a ks)(hk:ks.length<=1000)(S:Ej)(p:S≠a)(res:Ei)(n:Nat)(K:s.heap.get? S=some { cls:=.type "list",data:=.seq #[] n })
  (Y:∀h' d tk DM c' (zs:Da),(∀b o,b≠S->s.heap.get? b=some o->h'.get? b=some o)->h'.get? S=some { cls:=.type "list",dict:=none,data:=.seq DM c',slots:=#[] }->zs.Perm ks->q8 DM.toList zs->R (.ok<|.ret res) { s with heap:=h',drawn:=d,toks:=tk }) :
  El (Ep prog w) A.in1 (LS (.ref S) (.ref a) res)
   (fun fin s'=>match fin with|.done f=>R (.ok f) s'|.again c'=>c'.quiet=true/\L1 (Ep prog w) A c' R s') (fun e s'=>R (.error e) s') s:=by
 have r:S<s.heap.objs.size:=Zl K;have ty:s.TypeIs (.ref a) "set":=by obtain⟨o,P,O,t,C,E,_⟩:=x;exact⟨o,C,E.1⟩
 unfold LS;refine Q4<|JS (T:="set") ty ?_;have U:Builtin.List.listSameRef (.ref S) (.ref a)=false:=by simp[Builtin.List.listSameRef,p]
 have nl:(E3 "set"==E3 "list")=false:=by decide
 have nt:(E3 "set"==E3 "tuple")=false:=by decide
 simp only[U,nl,nt,Bool.or_false,ZU,Js];refine Q4<|Tj (A:=A.in1) x hk Z fun I Q h' d tk M zs St X B kp hz tx W st=>?_;have H:LQ { s with heap:=h',drawn:=d,toks:=tk } (.ref a) "set":=by obtain⟨o,P,O,t,C,E,_⟩:=x;exact⟨o,kp _ _ C,E.1⟩
 refine Q4<|ZW<|Pw H ?_;have q:S∉Q:=fun z=>by
  rcases B S z with e|e
  ·exact p e
  ·exact YC _ (ZC r e)
 have c:=kp _ _ K;refine Yk (fun _=>?_) (fun z=>absurd (by decide) z);refine Q4<|JH ?_;refine Q4 ?_;show El _ _ (updateSeq S (·.push .none)>>=fun _=>updateSeq S (·.pop)) _ _ _;refine Q4<|wpAny_updateSeq c rfl ?_;have g:=Ye (EO (·.push EI)) c rfl;refine wpAny_updateSeq (hz:=by seq_fits) g rfl ?_;have j:=Ye (EO (·.pop)) g rfl;refine Q7 ⟨Je PySem.F.plain_extend_loop _,?_⟩;have u:∀b o,b≠S->h'.get? b=some o->((h'.update S (EO (·.push EI))).update S (EO (·.pop))).get? b=some o:=fun b o l e =>
  (YQ _ _<|EK l).trans ((YQ _ _<|EK l).trans e)
 have G:=W.frame 0 _ _ st fun b l o e=>u b o (fun z=>q<|z▸l) e;refine codeAny_extend_loopS W.toS (by rw[Ym];lia) S q res ks.length 0 _ #[] _ rfl (ZD _) G j (ItemsOf.nil _) fun s' DM c' L v J=>?_;rw[Moved.eq_with L];have D:DM.toList=M:=by
  have hl:DM.toList.length=M.length:=by rw[Zw,J.1,tx.1,hz.length_eq]
  refine VC fun i=>?_
  by_cases hi:i<DM.size
  ·have e:=ZT hi;rw[Z0,e];exact(J.2 i _ e).symm
  ·rw[Yf (by rw[Zw];lia),Yf (by rw[←hl,Zw];lia)]
 refine Y s'.heap d s'.toks DM c' zs (fun b o l e=>L.heap b o (fun h=>?_)<|u b o l<|kp b o e) v hz (by rwa[D])
 rcases Zh.mp h with N|h
 ·exact l N
 ·have y:b=I:=Q6.mp h;exact absurd (y▸Zl e)<|Nat.not_lt.mpr X
open PySem.Calls PyProof.V PySem.W in
theorem MX {R:Db->Dh}(G:A.handled=none)(B:yh prog w s.heap a ks)(i:ks.length<=1000)
  (h:∀(h':EB) d (tk:Nat) (vs:Db) (zs:Da),(∀b o,s.heap.get? b=some o->h'.get? b=some o)->zs.Perm ks->q8 vs zs->R vs { s with heap:=h',drawn:=d,toks:=tk }):El (Ep prog w) A (collect<|.ref a) R E s:=by
 have v:a<s.heap.objs.size:=by obtain⟨o,J,I,t,H,_⟩:=B;exact Zl H
 unfold collect;refine Q4<|wpAny_runValue<|YB entry_proto_collect' ?_;rw[E1 PySem.F.plain_proto_collect _];show El _ A.in1 (newList []>>=fun l=>again<|.builtin "list.__iadd__" ⟨[l,.ref a],[]⟩) _ _ s;refine Q4<|Yb ?_;refine Q7 ⟨Je PySem.F.plain_list_iadd _,YB entry_list_iadd' ?_⟩;rw[E1 PySem.F.plain_list_iadd _];have g:(s.heap.push { cls:=.type "list",data:=.seq ([]:Db).toArray }).get? s.heap.objs.size=some { cls:=.type "list",data:=.seq #[] }:=Zk _ rfl;show El _ A.in1 (LS (.ref s.heap.objs.size) (.ref a)<|.ref s.heap.objs.size) _ _ _;have key:=OU (prog:=prog) (w:=w) (A:=A) (a:=a) (ks:=ks) (s:={ s with heap:=s.heap.push { cls:=.type "list",data:=.seq ([]:Db).toArray } })
  (R:=fun(q:Result) (z:Em)=>∃(h':EB) (d:Drawn) (tk:Nat) (j:Array Ei) (n:Nat) (zs:Da),q=.ok (.ret<|.ref s.heap.objs.size)/\z={ s with heap:=h',drawn:=d,toks:=tk } /\ (∀b o,s.heap.get? b=some o->h'.get? b=some o)/\h'.get? s.heap.objs.size=some { cls:=.type "list",dict:=none,data:=.seq j n,slots:=#[] }/\zs.Perm ks/\q8 j.toList zs)
  G (B.at fun o e=>Q8 _ e) i s.heap.objs.size (YO v) (.ref s.heap.objs.size) 0 g
  (fun h' d tk j n zs i c p r=>⟨h',d,tk,j,n,zs,rfl,rfl,fun b o e=>i b o (Zu<|Zl e)<|Q8 _ e,c,p,r⟩)
 refine Yg key (fun u z x=>?_) fun e z x=>?_
 ·cases u with
  |done f =>
   obtain⟨h',d,tk,j,n,zs,e,rfl,i,c,p,r⟩:=x;cases e;show El _ A (load s.heap.objs.size>>=_) _ _ _;refine Q4<|wpAny_load c ?_;exact Q7<|h h' d tk _ zs i p r
  |again c₁ =>
   refine⟨x.1,YW x.2 fun q C y=>?_⟩;obtain⟨h',d,tk,j,n,zs,rfl,rfl,i,c,p,r⟩:=y;show El _ A (load s.heap.objs.size>>=_) _ _ _;refine Q4<|wpAny_load c ?_;exact Q7<|h h' d tk _ zs i p r
 ·obtain⟨_,_,_,_,_,_,D,_⟩:=x;cases D
end
section
variable {prog:Ek}{w:Eo}{A:EF}{E:Ei->Dh}{s:Em}
set_option maxHeartbeats 6400000 in
theorem call_set_list {l:Ej}{Dn:Array Ei}{xs:Da}{Q:Ei->Dh}(hh:A.handled=none)(hl:s.heap.IsList l Dn)(Dp:xs.length=Dn.size)(hi:∀(i:Nat) (v:Ei),Dn[i]?=some v->∃k t,xs[i]?=some k/\v=.str k t)(hb:Dn.size+1<Mc)
  (h:∀(h':EB) (tk:Nat),yh prog w h' s.heap.objs.size (uniq xs)->(∀b o,s.heap.get? b=some o->h'.get? b=some o)->Q (.ref s.heap.objs.size) { s with heap:=h',toks:=tk }):El (Ep prog w) A (call (.type "set") [.ref l]) Q E s:=by
 obtain⟨c,tl,Y⟩:=F.called_set.mro;have N:=F.called_set.made;have ai:=F.called_set.sub;have h1:=F.called_set.notType;have h2:=F.called_set.canCreate;have an:=F.typeCall_set_1<|.ref l;refine VQ<|V4 ?_;show El _ _ (callAny (.type "set") _) _ _ _;refine Q7 ⟨Code.quiet_builtin _<|by decide +kernel,YB F.entry_type_call ?_⟩;rw[Around.under_plain (VN "set" [.ref l] []) rfl]
 repeat (any_goals (first|assumption|wp_step))
 refine YW (Fd (.ref l) (E:=E) (Q₁:=fun obj f=>obj=.ref s.heap.objs.size/\f={ s with heap:=s.heap.push (zN w) }) ⟨rfl,rfl⟩) fun r f P=>?_;cases r with
 |error e=>exact P
 |ok fl =>
  cases fl with
  |ret obj =>
   obtain⟨rfl,rfl⟩:=P;have H:(s.heap.push<|zN w).get? s.heap.objs.size=some (zN w):=Zk _ rfl;have hT:LQ { s with heap:=s.heap.push (zN w) } (.ref s.heap.objs.size) "set":=⟨_,H,rfl⟩;have ap:=F.called_set.init.lookup;have al:=F.called_set.init.bind<|.ref s.heap.objs.size
   repeat (any_goals (first|assumption|wp_step))
   refine YW (V1 (R:=wants (fun r g=>r=.none/\∃h' tk,g={ s with heap:=h',toks:=tk }/\yh prog w h' s.heap.objs.size (uniq xs) /\ (∀b o,s.heap.get? b=some o->h'.get? b=some o)) E) F.called_set.init.plain F.entry_set_init (check_set_init_1 hT ?_)) fun B g d=>?_
   ·have n:(s.heap.push<|zN w).IsList l Dn:=hl.push _;obtain⟨ol,O,q,nl,u⟩:=id n;have y:l<s.heap.objs.size:=by obtain⟨_,e,_⟩:=hl;exact Zl e
    obtain⟨aj,T,S,D⟩:=ol;simp only at q u;subst q;subst u;have ab:=sub_list_set;have Z:=sub_list_frozenset;have as:(E3 "list"==E3 "dict")=false:=by decide
    unfold zN at H O;unfold Builtin.«set.__init__» noKeywords E5;generalize G:pyIter=PI;unfold zN
    wp_walk
    subst G;refine J5 n ?_;refine Q4<|wpAny_runValue ?_;have L:A.in1.in1.in1.handled=none:=by simp[hh]
    have z:l≠(s.heap.push<|zN w).objs.size:=by
     rw[YL];exact Zu<|Y3 y
    have I:s.heap.objs.size∉[(s.heap.push<|zN w).objs.size,l]:=by
     rw[YL];simp only[Zh,Q6,YE,Vz,not_or];exact⟨Zu<|Jq _,YO y⟩
    refine N2 ((Walks.list L _ l z Dn).toS) s.heap.objs.size I xs Dp hi hb (Dn.size-0) 0 _ (by lia) (ZD _)
     ⟨⟨_,Zk _ rfl,rfl,rfl⟩,(n.push _)⟩ ?hS0 ?hR
    case hS0 =>
     have x:((s.heap.push<|zN w).push { cls:=.type "list_iterator",data:=.fields #[.ref l,.int 0 0] }).get? s.heap.objs.size=some (zN w):=Q8 _ H;exact IJ x
    case hR =>
     intro s' C j;obtain⟨h',g',d',X,U⟩:=s';have eg:g'=s.gens:=C.gens;have ed:d'=s.drawn:=C.drawn;have eo:U=s.os:=C.os;subst eg;subst ed;subst eo;show El _ _ _ _ _ _;refine Q7 ?_;show El _ _ (ret EI) _ _ _;refine Q7 ⟨rfl,h',X,rfl,j,fun b o e=>?_⟩;have p:=Zl e;have J:b≠s.heap.objs.size:=Zu p;have K:b≠(s.heap.push<|zN w).objs.size:=by
      rw[YL];exact Zu<|Y3 p
     exact C.heap b o (by simp only[Zh,Q6,YE,Vz,not_or];exact⟨J,K⟩)<|Q8 _<|Q8 _ e
   ·cases B with
    |error e=>exact d
    |ok fl₂ =>
     cases fl₂ with
     |ret r =>
      obtain⟨rfl,h',tk,rfl,j,M⟩:=d
      repeat (any_goals (first|assumption|wp_step))
      exact h _ _ j M
     |_=>exact d.elim
  |_=>exact P.elim
set_option maxHeartbeats 6400000 in
theorem X7 {l:Ej}{Dn:Array Ei}{xs:Da}{Q:Ei->Dh}(hh:A.handled=none)(hl:s.heap.IsTuple l Dn)(Dp:xs.length=Dn.size)(hi:∀(i:Nat) (v:Ei),Dn[i]?=some v->∃k t,xs[i]?=some k/\v=.str k t)(hb:Dn.size+1<Mc)
  (h:∀(h':EB) (tk:Nat),yh prog w h' s.heap.objs.size (uniq xs)->(∀b o,s.heap.get? b=some o->h'.get? b=some o)->Q (.ref s.heap.objs.size) { s with heap:=h',toks:=tk }):El (Ep prog w) A (call (.type "set") [.ref l]) Q E s:=by
 obtain⟨c,tl,Y⟩:=F.called_set.mro;have N:=F.called_set.made;have ai:=F.called_set.sub;have h1:=F.called_set.notType;have h2:=F.called_set.canCreate;have an:=F.typeCall_set_1<|.ref l;refine VQ<|V4 ?_;show El _ _ (callAny (.type "set") _) _ _ _;refine Q7 ⟨Code.quiet_builtin _<|by decide +kernel,YB F.entry_type_call ?_⟩;rw[Around.under_plain (VN "set" [.ref l] []) rfl]
 repeat (any_goals (first|assumption|wp_step))
 refine YW (Fd (.ref l) (E:=E) (Q₁:=fun obj f=>obj=.ref s.heap.objs.size/\f={ s with heap:=s.heap.push (zN w) }) ⟨rfl,rfl⟩) fun r f P=>?_;cases r with
 |error e=>exact P
 |ok fl =>
  cases fl with
  |ret obj =>
   obtain⟨rfl,rfl⟩:=P;have H:(s.heap.push<|zN w).get? s.heap.objs.size=some (zN w):=Zk _ rfl;have hT:LQ { s with heap:=s.heap.push (zN w) } (.ref s.heap.objs.size) "set":=⟨_,H,rfl⟩;have ap:=F.called_set.init.lookup;have al:=F.called_set.init.bind<|.ref s.heap.objs.size
   repeat (any_goals (first|assumption|wp_step))
   refine YW (V1 (R:=wants (fun r g=>r=.none/\∃h' tk,g={ s with heap:=h',toks:=tk }/\yh prog w h' s.heap.objs.size (uniq xs) /\ (∀b o,s.heap.get? b=some o->h'.get? b=some o)) E) F.called_set.init.plain F.entry_set_init (check_set_init_1 hT ?_)) fun B g d=>?_
   ·have n:(s.heap.push<|zN w).IsTuple l Dn:=hl.push _;obtain⟨ol,O,q,nl,u⟩:=id n;have y:l<s.heap.objs.size:=by obtain⟨_,e,_⟩:=hl;exact Zl e
    obtain⟨aj,T,S,D⟩:=ol;simp only at q u;subst q;subst u;have ab:=sub_tuple_set;have Z:=sub_tuple_frozenset;have as:(E3 "tuple"==E3 "dict")=false:=by decide
    unfold zN at H O;unfold Builtin.«set.__init__» noKeywords E5;generalize G:pyIter=PI;unfold zN
    wp_walk
    subst G;refine Uc n ?_;refine Q4<|wpAny_runValue ?_;have L:A.in1.in1.in1.handled=none:=by simp[hh]
    have z:l≠(s.heap.push<|zN w).objs.size:=by
     rw[YL];exact Zu<|Y3 y
    have I:s.heap.objs.size∉[(s.heap.push<|zN w).objs.size,l]:=by
     rw[YL];simp only[Zh,Q6,YE,Vz,not_or];exact⟨Zu<|Jq _,YO y⟩
    refine N2 ((Walks.tuple L _ l z Dn).toS) s.heap.objs.size I xs Dp hi hb (Dn.size-0) 0 _ (by lia) (ZD _)
     ⟨⟨_,Zk _ rfl,rfl,rfl⟩,(n.push _)⟩ ?hS0 ?hR
    case hS0 =>
     have x:((s.heap.push<|zN w).push { cls:=.type "tuple_iterator",data:=.fields #[.ref l,.int 0 0] }).get? s.heap.objs.size=some (zN w):=Q8 _ H;exact IJ x
    case hR =>
     intro s' C j;obtain⟨h',g',d',X,U⟩:=s';have eg:g'=s.gens:=C.gens;have ed:d'=s.drawn:=C.drawn;have eo:U=s.os:=C.os;subst eg;subst ed;subst eo;show El _ _ _ _ _ _;refine Q7 ?_;show El _ _ (ret EI) _ _ _;refine Q7 ⟨rfl,h',X,rfl,j,fun b o e=>?_⟩;have p:=Zl e;have J:b≠s.heap.objs.size:=Zu p;have K:b≠(s.heap.push<|zN w).objs.size:=by
      rw[YL];exact Zu<|Y3 p
     exact C.heap b o (by simp only[Zh,Q6,YE,Vz,not_or];exact⟨J,K⟩)<|Q8 _<|Q8 _ e
   ·cases B with
    |error e=>exact d
    |ok fl₂ =>
     cases fl₂ with
     |ret r =>
      obtain⟨rfl,h',tk,rfl,j,M⟩:=d
      repeat (any_goals (first|assumption|wp_step))
      exact h _ _ j M
     |_=>exact d.elim
  |_=>exact P.elim
end
end AxS
namespace L2
open PySem PySem.Spec PyProof.Rows AxS
def UQ (P:Ek)(w:Eo)(a:Ej)(ks:Da):HO:=.ext fun h=>yh P w h a ks
theorem Fj (x:yh P w h a ks):yp P w H h a (UQ P w a ks):=by
 obtain⟨o,d,c,t,b,r⟩:=id x;exact⟨x,⟨o,b⟩,fun f g z k=>yh.at z fun o e=>k o e⟩
theorem X9 (x:yp P w H h a<|UQ P w a ks):yh P w h a ks:=x.1
section
variable {X:Cx}{K:Ca}
theorem Inv.drew {d:Drawn}(I:Inv X Do σ H s):Inv X Do σ H { s with drawn:=d } :=
 ⟨I.ok,I.os,I.bare,I.base,I.loc,I.cell,I.free,I.wQ,I.pin,I.hok,I.len⟩
theorem ur:∀{vs:Db} {zs:Da},q8 vs zs->StrsAre vs zs
 |[],[],_=>.nil
 |[],_::_,h=>by cases h.1
 |_::_,[],h=>by cases h.1
 |v::vs,z::zs,h=>by
  obtain⟨k,t,e,rfl⟩:=h.2 0 v rfl;have e:z=k:=Option.some.inj e;subst e;exact .cons _ _ (ur ⟨by have:=h.1;simpa using this,fun i v e=>by
   obtain⟨k,t,b,c⟩:=h.2 (i+1) v (by simpa using e);exact⟨k,t,by simpa using b,c⟩⟩)
def RB (P:Ek)(w:Eo):Dj->Hp->VK->Prop:=fun d H Q=>∃(a:Ej) (b:Da),d=[.ref a]/\H a=some (UQ P w a b)/\b.length<64/\∀l c,H l=none->c.Perm b->sortedS c=true->Q (.ref l) (upd H l<|.lst<|c.map V.str)
theorem jF (Y:X.calm=true):xf X (.builtin "sorted") (RB X.prog X.w):=by
 intro K s σ H xs us Q I r h;obtain⟨a,ks,rfl,T,R,q⟩:=h;obtain⟨u,rfl,ru⟩:=wW r;cases ru;have S:=X9<|I.hok a _ T;refine Calls.call_function_entry kind_sorted plain_sorted entry_sorted (args_sorted1 _) ?_;unfold Builtin.«sorted»;refine Q4 (m:=checkCount "sorted" 1 1 _)<|Q7 ?_;refine Q4 (MX (A:=X.A.in1) (I.ok.hd Y) S (by lia) fun f d y c zs n p F=>?_);have g:=ur F;have U:c.length<64:=by rwa[F.1,p.length_eq]
 have DD:64<=sizeLine:=by rw[Ym];decide
 refine Q4 (VX ?_<|by lia);have i:(f.push<|EQ "list" c.toArray 0).get? f.objs.size=some (EQ "list" c.toArray 0):=Zk _ rfl;refine Q4 (ZW<|Ys slot_list_sort ⟨_,i,rfl⟩ entry_list_sort (list_sort_treeK strKind_oneLt i g.keysOf (fun G J E e=>keyKind_strs<|by rwa[←e]) (by lia) fun l L M=>⟨_,rfl,?_⟩) (args_list_sort _));obtain⟨j,N,B,O⟩:=sorted_out_str g L M;refine Q7 ⟨_,rfl,?_⟩;obtain⟨e,Z⟩:=sortedHeap_at (out:=(arrOf l).map (·.2)) i;have nl:=GO N;have z:Inv X K σ H { s with heap:=f,drawn:=d,toks:=y }:=(I.kept (t':=y) n).drew (d:=d);have v:∀b x,f.get? b=some x->(sortedHeap (f.push<|EQ "list" c.toArray 0) f.objs.size c ((arrOf l).map (·.2))).get? b=some x:=fun b x D=>by
  have C:b<f.objs.size:=Zl D;rw[sortedHeap_old (Zu C) (by rw[YL];exact Y3 C)];exact Q8 _ D
 have P:H f.objs.size=none:=z.hok.fresh<|Zd _;have t:(j.map V.str).length<=sizeLine:=by
  have:=B.length_eq;have:=p.length_eq;rw[Q5];lia
 exact⟨.ref f.objs.size,_,z.laid (o:=.lst<|j.map V.str) (t':=y) v (Zd _) ⟨t,_,e,nl,Z⟩,rfl,q _ j P (B.trans p) O⟩
def cw (K:Ca)(P:Ek)(w:Eo):Dj->Hp->VK->Prop:=fun c H Q=>∃(a:Ej) (b:Da),c=[.ref a]/\(yx K H a (b.map V.str)\/xg K H a (b.map V.str))/\b.length<=1000/\∀p,H p=none->Q (.ref p) (upd H p<|UQ P w p<|uniq b)
theorem Ii {ls:Da}(r:yr (ls.map V.str) us):q8 us ls:=by
 refine⟨by rw[←r.length,Q5],fun i v e=>?_⟩;have b:i<ls.length:=by have:=(Zq.mp e).1;rw[←r.length,Q5]at this;exact this
 obtain⟨u,c,d⟩:=r.get (show(ls.map V.str)[i]?=some (V.str ls[i]) by rw[Zj,Zb b];rfl);rw[c]at e;cases e;obtain⟨t,rfl⟩:=d;exact⟨_,t,Zb b,rfl⟩
theorem FC (t:X.calm=true)(B:X.K=K:=by rfl):xf X (.type "set") (cw K X.prog X.w):=by
 subst B;intro A s D H F E Q I r h;obtain⟨a,y,rfl,f,hl,q⟩:=h;obtain⟨u,rfl,C⟩:=wW r;cases C;have d:∀(g:EB) (p:Nat),yh X.prog X.w g s.heap.objs.size (uniq y)->(∀b o,s.heap.get? b=some o->g.get? b=some o)->EP X A D Q (.ref s.heap.objs.size) { s with heap:=g,toks:=p }:=fun g p x k =>
  ⟨.ref s.heap.objs.size,_,I.laid (o:=UQ X.prog X.w s.heap.objs.size<|uniq y) (t':=p) k (Zd _)<|Fj x,rfl,q _<|I.hok.fresh<|Zd _⟩
 have z:Mc=4096:=rfl
 rcases f with f|f
 ·obtain⟨j,n,l,_⟩:=I.list f;have c:=Ii n;exact call_set_list (I.ok.hd t) l.isList (by rw[Zp];exact c.1.symm) (fun i v e=>c.2 i v<|by simpa using e) (by rw[Zp,c.1,z];lia) d
 ·obtain⟨j,n,l,_⟩:=I.tuple f;have c:=Ii n;exact X7 (I.ok.hd t) l (by rw[Zp];exact c.1.symm) (fun i v e=>c.2 i v<|by simpa using e) (by rw[Zp,c.1,z];lia) d
end
end L2
namespace An
open PySem PySem.Spec PyProof.Rows L2
def pW (a b:Str):Prop:=¬b.cps.toList<a.cps.toList
theorem Oz (d:pW a b)(e:pW b c):pW a c:=by
 have d:a.cps.toList<=b.cps.toList:=Ve.mp d;have e:b.cps.toList<=c.cps.toList:=Ve.mp e;exact Ve.mpr<|List.le_trans d e
theorem Ic (c:pW a b)(d:pW b a):a=b:=by
 have e:a.cps.toList=b.cps.toList:=List.le_antisymm (Ve.mp c)<|Ve.mp d;exact wY e
theorem Bo:∀(l:Da) (p:Str),risingS p l=true->(p::l).Pairwise pW
 |[],p,_=>JL _ _
 |x::r,p,h=>by
  have h:(!ltCps x.cps.toList p.cps.toList&&risingS x r)=true:=h;rw[Zi,ltCps_eq]at h;have c:pW p x:=fun z=>by rw[Zf z]at h;exact absurd h.1 (by decide)
  have d:=Bo r x h.2;refine Ui.mpr ⟨fun y b=>?_,d⟩
  rcases Zh.mp b with rfl|b
  ·exact c
  ·exact Oz c ((Ui.mp d).1 y b)
theorem Xa:∀{l:Da},sortedS l=true->l.Pairwise pW
 |[],_=>List.Pairwise.nil
 |x::r,h=>Bo r x h
def UG:Da->Bool
 |[]=>true
 |x::r=>r.all (fun y=>decide (x.cps.toList<y.cps.toList))&&UG r
theorem tQ:∀{l:Da},UG l=true↔l.Pairwise pW/\l.Nodup
 |[]=>⟨fun _=>⟨List.Pairwise.nil,YM⟩,fun _=>rfl⟩
 |x::r=>by
  show(r.all _&&UG r)=true↔_;rw[Zi,tQ,ZI,Ui,Z9];constructor
  ·rintro⟨b,d,e⟩;refine⟨⟨fun y c=>?_,d⟩,fun z=>?_,e⟩
   ·have:=Zr<|b y c;exact fun z=>JM _<|List.lt_trans this z
   ·exact JM _ (Zr<|b x z)
  ·rintro⟨⟨b,d⟩,e,f⟩;refine⟨fun y c=>Zf ?_,d,f⟩
   by_cases z:x.cps.toList<y.cps.toList
   ·exact z
   ·have:=Ic (b y c) z;exact absurd (this▸c) e
theorem uM {ks:Da}{k:Str}(h:ks.Nodup):(AxS.step ks k).Nodup:=by
 unfold AxS.step
 split
 ·exact h
 ·rename_i z;rw[Y5];exact⟨h,by simp,fun a c b d=>by rw[Q6.mp d];exact fun e=>z<|e▸c⟩
theorem Gm:∀(xs ks:Da),ks.Nodup->(xs.foldl AxS.step ks).Nodup
 |[],ks,h=>h
 |x::xs,ks,h=>Gm xs _<|uM h
theorem fold_all:∀(xs ks:Da),(ks++xs).Nodup->xs.foldl AxS.step ks=ks++xs
 |[],ks,_=>by rw[ZG];rfl
 |x::xs,ks,h=>by
  have e:AxS.step ks x=ks++[x]:=by
   unfold AxS.step;rw[Zs];intro z;exact(Y5.mp h).2.2 x z x Zc rfl
  rw[JD,e,fold_all xs (ks++[x])<|by rwa[Z7],Z7];rfl
theorem MY (xs:Da):(AxS.uniq xs).Nodup:=Gm xs [] YM
theorem OV {xs:Da}(h:xs.Nodup):AxS.uniq xs=xs:=fold_all xs [] h
theorem FT:∀(xs ks:Da) {x:Str},x∈xs.foldl AxS.step ks->x∈ks\/x∈xs
 |[],ks,x,h=>.inl h
 |y::xs,ks,x,h=>by
  rcases FT xs _ h with z|z
  ·unfold AxS.step at z
   split at z
   ·exact .inl z
   ·rcases Zy.mp z with z|z
    ·exact .inl z
    ·exact .inr (Zh.mpr<|.inl<|Q6.mp z)
  ·exact .inr (Q9 _ z)
theorem Kg {xs:Da}{x:Str}(h:x∈AxS.uniq xs):x∈xs:=(FT xs [] h).elim (fun z=>nomatch z) id
theorem IT {xs d:Da}(c:d.Perm<|AxS.uniq xs)(hs:sortedS d=true):decide (xs=d)=UG xs:=by
 rw[Yq,ZK,tQ];constructor
 ·intro e;subst e;exact⟨Xa hs,c.nodup_iff.mpr<|MY _⟩
 ·rintro⟨f,g⟩;rw[OV g]at c;exact(Vn (fun a b _ _=>Ic) (Xa hs) f c).symm
end An
namespace PySem.SeqAt
open MeetsSeq PyProof.Rows
end PySem.SeqAt
namespace PySem.W
open PySem PySem.Spec PySem.Calls PyProof.Rows Builtin Builtin.ObjectAttr Builtin.Getset_descriptor
end PySem.W
namespace L2
open PySem PySem.Spec PyProof.Rows
section
variable {X:Cx}
def SX:V->Dj->Hp->VK->Prop:=fun x c H Q=>∃a b:Str,x=.str a/\c=[.str b]/\Q (.bl<|Txt.startswith a b) H
theorem qZ:R3 X "str.startswith" SX:=by
 intro f s j H x i v g Q I d c h;obtain⟨a,b,rfl,rfl,q⟩:=h;obtain⟨t,rfl⟩:=d;obtain⟨u,rfl,e,rfl⟩:=wW c;exact call_gives F.slot_str_startswith (Vc s a t) F.entry_str_startswith (F.args_str_startswith_2 _ _) (gives_str_startswith a b t e) ⟨.bl _,H,I,rfl,q⟩
theorem kM:∀{l:List (Str×Tok)} {ys:Da},l.map (·.1)=ys->yr (ys.map V.str) (strValues l)
 |[],_,h=>by rw[←h];exact .nil
 |p::l,_,h=>by
  rw[←h];exact .cons ⟨p.2,rfl⟩<|kM rfl
def WI:V->Dj->Hp->VK->Prop:=fun x b H Q=>∃(a:Str) (c:Nat),x=.str a/\b=[.str ⟨#[c]⟩]/\a.length<=100000/\∀l,H l=none->Q (.ref l) (upd H l<|.lst<|(LI a ⟨#[c]⟩).map V.str)
theorem Hl:R3 X "str.split" WI:=by
 intro n s y H x w v r Q I j i h;obtain⟨a,c,rfl,rfl,o,q⟩:=h;obtain⟨t,rfl⟩:=j;obtain⟨u,rfl,t',rfl⟩:=wW i;have g:a.length<=sizeLine:=An.zr (by lia);have f:((⟨#[c]⟩:Str).length==0)=false:=rfl;have p:(LC a (E7 a ⟨#[c]⟩ 0 a.length<|a.length+1) (⟨#[c]⟩:Str).length).length<=200000:=by
  unfold LC;have:=StrLaws.occ_length_le a ⟨#[c]⟩ 0 a.length<|a.length+1;simp only[Q5,List.length_zip,Zn,Ze,JC];lia
 cases b:(decide (a.length<(⟨#[c]⟩:Str).length)||decide (Builtin.Str.strKind a<Builtin.Str.strKind ⟨#[c]⟩))
 ·cases d:(E7 a ⟨#[c]⟩ 0 a.length<|a.length+1).isEmpty
  ·have e:LI a ⟨#[c]⟩=LC a (E7 a ⟨#[c]⟩ 0 a.length<|a.length+1) (⟨#[c]⟩:Str).length:=(Zs<|V8 b).trans<|Zs<|V8 d;refine VS F.slot_str_split (Vc s a t) F.entry_str_split (F.args_str_split_2 _ _) (meets_str_split_sep a ⟨#[c]⟩ t t' b f d g<|An.zr<|by lia) ?_;rw[strsFrom_eq];refine⟨.ref _,_,I.oO (kM<|numbered_texts _ _) (by rw[Q5];exact An.zr<|by lia),rfl,?_⟩;rw[←e];exact q _ I.fresh
  ·have e:LI a ⟨#[c]⟩=[a]:=(Zs<|V8 b).trans<|Zt d;rw[e]at q;refine VS F.slot_str_split (Vc s a t) F.entry_str_split (F.args_str_split_2 _ _) (meets_str_split_not_found a ⟨#[c]⟩ t t' b f d) ?_;exact⟨.ref _,_,I.oO (t':=s.toks) (kM (l:=[(a,t)]) rfl) (by show 1<=sizeLine;decide),rfl,q _ I.fresh⟩
 ·have e:LI a ⟨#[c]⟩=[a]:=Zt b;rw[e]at q;refine VS F.slot_str_split (Vc s a t) F.entry_str_split (F.args_str_split_2 _ _) (meets_str_split_cannot_occur a ⟨#[c]⟩ t t' b) ?_;exact⟨.ref _,_,I.oO (t':=s.toks) (kM (l:=[(a,t)]) rfl) (by show 1<=sizeLine;decide),rfl,q _ I.fresh⟩
def ce (K:Ca):Dj->Hp->VK->Prop:=fun b H Q=>∃(a:Ej) (bs:List Bool),b=[.ref a]/\yx K H a (bs.map V.bl)/\Q (.bl<|bs.any id) H
theorem O4 {K:Ca}(p:X.calm=true)(n:X.K=K:=by rfl):xf X (.builtin "any") (ce K):=by
 subst n;intro z s M H L J Q I r h;obtain⟨a,bs,rfl,o,q⟩:=h;obtain⟨u,rfl,x⟩:=wW r;cases x;obtain⟨c,y,w,E⟩:=I.list o;have g:=Fm y;have hl:=w.isList;have f:a<s.heap.objs.size:=by obtain⟨_,e,_⟩:=hl;exact Zl e
 refine call_any_walk<|J5 hl ?_;refine⟨s.heap.objs.size,[s.heap.objs.size,a],[s.heap.objs.size],c.toArray.size,_,_,fun i=>(bs[i]?).getD false,rfl,Walks.list (A:=X.A.in1) (I.ok.hd p) _ a (Zu f) c.toArray,⟨⟨_,Zk _ rfl,rfl,rfl⟩,hl.push _⟩,fun i v F C B d j=>?_,fun D G t=>?_⟩
 ·have d:c[i]?=some v:=by simpa using d
  rw[g,Zj]at d;cases e:bs[i]? with
  |none=>rw[e]at d;cases d
  |some b =>
   rw[e]at d;have d:L7 b=v:=Option.some.inj d;subst d;simp only[e,VT]at j;exact Y2 j
 ·have l:c.length=bs.length:=by rw[g,Q5]
  have e:((EC c.toArray.size).any fun i=>(bs[i]?).getD false)=bs.any id:=by
   rw[Zp,l];exact PyProof.Rows.LSm.range_any bs
  rw[e];exact⟨.bl _,H,I.kept<|PyProof.Rows.LSm.kept_iter t,rfl,q⟩
theorem P9 {K:Ca}(b:X.K=K:=by rfl):R3 X "str.join" (rJoin K):=by
 subst b;exact CU
theorem Wx {K:Ca}{e:EN}{es:List EN}{name:Str}{f b:Pos}{T id:String}(q:PlainAttrs T)(slot:Slot T name id)(d:typeOf (.builtin id)=Lo (.type "method_descriptor"))(n:R3 X id r)(p:PE X o to)(l:PA X (e::es) t)
  (g:LA o name X.env (E8 o X.env)=E8 o X.env:=by rfl)
  (c:((Lh b<|Ey (e::es) X.env).all (fun x=>!x.1)&&(Mn b<|LK [] X.env).all (fun x=>x.1.isSome) && decide ((e::es).length+([]:List Keyword).length+(if([]:List Keyword).isEmpty then 0 else 1)<30))=true:=by rfl)
  (h:(f.endLine==b.line)=true:=by rfl) (hs:Ey (e::es) X.env=(false,E8 e X.env)::Ey es X.env:=by rfl) (i:(Lh b<|Ey es X.env).any (·.1)=false:=by rfl) (j:X.K=K:=by rfl) :
  PE X (.Call (.Attribute o name f) (e::es) [] b) (cQ K T r to t):=by
 subst j;exact qV q slot d n p l g c h hs i
end
end L2
namespace An
open PySem L2
def WN:Str:=⟨#[47]⟩
theorem Xm:("/":Str)=WN:=by decide +kernel
def jn:List (List Nat)->List Nat
 |[]=>[]
 |[x]=>x
 |x::y::r=>x++47::jn (y::r)
def Cw:List Nat->List (List Nat)
 |[]=>[[]]
 |c::r=>if c=47 then[]::Cw r else match Cw r with
  |[]=>[[c]]
  |p::ps=>(c::p)::ps
theorem Xh:∀l,Cw l≠[]
 |[]=>by simp[Cw]
 |c::r=>by
  unfold Cw
  split
  ·simp
  ·split<;>simp
theorem XS {x:List Nat}{r:List (List Nat)}(h:r≠[]):jn (x::r)=x++47::jn r:=by
 cases r with
 |nil=>exact absurd rfl h
 |cons y r=>rfl
theorem Gv:∀l,jn (Cw l)=l
 |[]=>rfl
 |c::r=>by
  have b:=Gv r;unfold Cw
  split
  ·rename_i e;rw[XS<|Xh r,b,e];rfl
  ·cases q:Cw r with
   |nil=>exact absurd q<|Xh r
   |cons p ps =>
    rw[q]at b;cases ps with
    |nil=>show c::p=_;rw[show p=r from b]
    |cons y ps =>
     show(c::p)++47::jn (y::ps)=_;rw[←b];rfl
theorem BO:∀(a b:List Nat),Cw (a++47::b)=Cw a++Cw b
 |[],b=>by
  show(if 47=47 then[]::Cw b else _)=[[]]++Cw b;rw[Zt rfl];rfl
 |c::a,b=>by
  have d:=BO a b;show Cw (c::(a++47::b))=_;rw[Cw,Cw,d]
  split
  ·rfl
  ·cases q:Cw a with
   |nil=>exact absurd q<|Xh a
   |cons p ps=>rfl
theorem Gg:∀{p:List Nat},47∉p->Cw p=[p]
 |[],_=>rfl
 |c::p,h=>by
  have b:=Gg (p:=p) fun z=>h<|Q9 _ z;unfold Cw;rw[Zs<|fun z=>h (by rw[z];exact Zc),b]
theorem MR:∀{ps:List (List Nat)},ps≠[]->(∀p∈ps,47∉p)->Cw (jn ps)=ps
 |[],h,_=>absurd rfl h
 |[p],_,h=>Gg<|h p Zc
 |p::q::r,_,h=>by
  rw[XS<|by simp,BO,Gg<|h p Zc,MR (ps:=q::r) (by simp) fun x b=>h x<|Q9 _ b];rfl
theorem KK:∀{a b:List (List Nat)},a≠[]->b≠[]->jn (a++b)=jn a++47::jn b
 |[],_,h,_=>absurd rfl h
 |[x],b,_,hb=>XS hb
 |x::y::r,b,_,hb=>by
  show x++47::jn ((y::r)++b)=(x++47::jn (y::r))++47::jn b;rw[KK (a:=y::r) (by simp) hb];simp
theorem PH:∀{ps:List (List Nat)} {p:List Nat},p∈ps->p.length<=(jn ps).length
 |[],_,h=>by cases h
 |[x],p,h=>by rw[Q6.mp h];exact Zd _
 |x::y::r,p,h=>by
  show _<=(x++47::jn (y::r)).length;rw[Ze,Zn]
  rcases Zh.mp h with rfl|h
  ·lia
  ·have:=PH h;lia
theorem PF:∀{ps:List (List Nat)},ps.length<=(jn ps).length+1
 |[]=>by simp
 |[x]=>by simp
 |x::y::r=>by
  show _<=(x++47::jn (y::r)).length+1;have:=PF (ps:=y::r);have b:(x++47::jn (y::r)).length=x.length+((jn (y::r)).length+1):=by rw[Ze,Zn]
  have c:(x::y::r).length=(y::r).length+1:=Zn;lia
theorem Rm {l p:List Nat}:(∃t,l=p++47::t)↔∃i,i+1<(Cw l).length/\p=jn ((Cw l).take<|i+1):=by
 constructor
 ·rintro⟨t,rfl⟩;rw[BO];have b:0<(Cw p).length:=Jo.mpr<|Xh p;have c:0<(Cw t).length:=Jo.mpr<|Xh t;refine⟨(Cw p).length-1,by rw[Ze];lia,?_⟩;rw[show(Cw p).length-1+1=(Cw p).length by lia,List.take_left,Gv]
 ·rintro⟨i,d,rfl⟩;refine⟨jn<|(Cw l).drop<|i+1,?_⟩;rw[←KK,YJ,Gv]
  ·intro z;have:=congrArg List.length z;rw[Zx,JC]at this;lia
  ·intro z;have:=congrArg List.length z;rw[Yz,JC]at this;lia
def ac (l:List Nat):Str:=⟨l.toArray⟩
theorem oF (l:List Nat):cs (ac l)=l:=by simp[ac,cs]
theorem mj (x:Str):ac (cs x)=x:=wY<|oF _
theorem qD:∀ys:Da,cs (Lw "/" ys)=jn (ys.map cs):=by
 intro ys;have e:Lw "/" ys=MC "/" ys:=Ll "/" ys;rw[e];clear e
 induction ys with
 |nil=>rfl
 |cons x r ih =>
  cases r with
  |nil=>rfl
  |cons y r =>
   show cs (x++"/"++MC "/" (y::r))=cs x++47::jn ((y::r).map cs);have:cs ("/":Str)=[47]:=by decide +kernel
   rw[zp,zp,ih,this];simp
theorem RO (x:Str):LI x "/"=(Cw<|cs x).map ac:=by
 have c:cs (MC "/"<|LI x "/")=cs x:=by rw[StrLaws.join_split]
 have e:Lw "/" (LI x "/")=MC "/" (LI x "/"):=Ll "/" _;rw[←e,qD]at c;have b:LI x "/"≠[]:=by
  unfold LI
  split
  ·simp
  ·split
   ·simp
   ·unfold LC;intro z;have:=congrArg List.length z;simp at this
 have d:=MR (ps:=(LI x "/").map cs) (by simpa using b) (fun p g=>by
  obtain⟨y,f,rfl⟩:=Za.mp g;rw[Xm]at f;exact StrLaws.split_free x 47 y f)
 rw[c]at d;rw[d,ZB];have:(ac∘cs)=(id:Str->Str):=funext mj;rw[this,Uq]
def Uw (x:Str):Da:=LI x "/"
theorem j3 (x:Str):(Uw x).map cs=Cw (cs x):=by
 unfold Uw;rw[RO,ZB];have:(cs∘ac)=(id:List Nat->List Nat):=funext oF;rw[this,Uq]
theorem F2 {y:Str}(h:y∈Uw x):y.length<=x.length:=by
 rw[zm,zm,←Gv (cs x),←j3];exact PH<|List.mem_map_of_mem h
theorem IP (x:Str):(Uw x).length<=x.length+1:=by
 have:=PF (ps:=Cw<|cs x);rw[Gv,←j3,Q5]at this;rwa[zm]
theorem PL (x:Str):0<(Uw x).length:=by
 have:=Jo.mpr<|Xh<|cs x;rw[←j3,Q5]at this;exact this
theorem kN {ys:Da}(h:ys≠[])(f:∀y∈ys,47∉cs y):Uw (Lw "/" ys)=ys:=by
 have:(Uw<|Lw "/" ys).map cs=ys.map cs:=by
  rw[j3,qD,MR<|by simpa using h];intro p g;obtain⟨y,i,rfl⟩:=Za.mp g;exact f y i
 have inj:∀{a b:Da},a.map cs=b.map cs->a=b:=by
  intro a
  induction a with
  |nil =>
   intro b e;cases b with
   |nil=>rfl
   |cons _ _=>cases e
  |cons x a ih =>
   intro b e;cases b with
   |nil=>cases e
   |cons y b =>
    rw[Zv,Zv]at e;injection e with c d;rw[wY c,ih d]
 exact inj this
def Hw (x:Str):Bool:=decide ((Uw x).length<=4)&&(Uw x).all zV
def BE:Er->Bool
 | .str x=>Hw x
 |_=>false
theorem x6 (h:zV y=true):47∉cs y:=by
 unfold zV at h;rw[Zi]at h;intro z;exact absurd (ZI.mp h.2 47 z) (by decide)
theorem OK {ys:Da}(b:ys≠[])(c:ys.length<=4)(h:∀y∈ys,zV y=true):Hw (Lw "/" ys)=true:=by
 unfold Hw;rw[kN b fun y d=>x6<|h y d,Zf c,ZI.mpr h];rfl
def GJ (x:Str):Da:=(EC<|(Uw x).length-1).map fun i=>Lw "/"<|(Uw x).take<|i+1
def Uy (p q:Str):Bool:=Txt.startswith q<|p++"/"
theorem NE:Uy p q=true↔∃t,cs q=cs p++47::t:=by
 unfold Uy Txt.startswith;rw[StrLaws.subAt_eq,Ud,JX,Zi,ZM,Jl];have e:(p++"/":Str).cps.toList=cs p++[47]:=by
  have:cs ("/":Str)=[47]:=by decide +kernel
  show cs (p++"/")=_;rw[zp,this]
 have b:(p++"/":Str).length=(cs p).length+1:=by
  rw[zm];show(cs<|p++"/").length=_;rw[show cs (p++"/")=cs p++[47] from e,Ze];rfl
 rw[e,b];constructor
 ·rintro⟨d,c⟩;refine⟨(cs q).drop<|(cs p).length+1,?_⟩;have:=YJ ((cs p).length+1)<|cs q;rw[c,Z7]at this;exact this.symm
 ·rintro⟨t,h⟩;rw[zm,h];refine⟨by simp,?_⟩;show(cs q).take _=_;rw[h];rw[show cs p++47::t=(cs p++[47])++t by simp];rw[List.take_left'<|by simp]
theorem sI {p:Str}:p∈GJ q↔Uy p q=true:=by
 rw[NE,Rm];unfold GJ;rw[Za];have hl:(Cw<|cs q).length=(Uw q).length:=by rw[←j3,Q5]
 constructor
 ·rintro⟨i,b,rfl⟩;have:=YV.mp b;refine⟨i,by lia,?_⟩;rw[qD,VY,j3]
 ·rintro⟨i,b,h⟩;refine⟨i,YV.mpr<|by lia,wY ?_⟩;rw[qD,VY,j3,h]
theorem Hr (p t:Str):Uy p (p++"/"++t)=true:=by
 rw[NE];refine⟨cs t,?_⟩;have:cs ("/":Str)=[47]:=by decide +kernel
 rw[zp,zp,this];simp
abbrev Fi:=Da×Da
abbrev Dk:=List Fi
def Cd (ls:Da):Str:=Lw "/" ls
structure xj (S:Di):Prop where
 good:ux S
 th:∀e∈S,BF e
 num:∀e∈S,e.n<S.length
def At (S:Di)(x:Str)(t:Th):Prop:=∃e∈S,e.nm=x/\e.d=t.dat
section
variable {S T:Di}{x y:Str}{t u:Th}
theorem Re (g:(S.map En.nm).Nodup){e f:En}(b:e∈S)(c:f∈S)(h:e.nm=f.nm):e=f:=by
 obtain⟨i,d,rfl⟩:=ZN.mp b;obtain⟨j,l,rfl⟩:=ZN.mp c;have:=(YX (h₀:=by simpa using d) (h₁:=by simpa using l) g).mp (by rwa[ZQ,ZQ]);subst this;rfl
theorem At.thing (g:xj S)(h:At S x t)(k:At S x u):t=u:=by
 obtain⟨e,c,rfl,hd⟩:=h;obtain⟨f,d,fn,b⟩:=k;have:=Re g.good.nn d c fn;subst this;exact Se<|hd.symm.trans b
theorem At.name (g:xj S)(h:At S x t)(k:At S y t):x=y:=by
 obtain⟨e,c,rfl,hd⟩:=h;obtain⟨f,d,rfl,b⟩:=k;rw[Wp g.good.nd c d<|hd.trans b.symm]
theorem At.more (h:At S x t):At (S++T) x t:=let ⟨e,he,a⟩:=h;⟨e,ZZ _ he,a⟩
theorem At.mem (h:At S x t):x∈S.map En.nm:=let ⟨e,he,a,_⟩:=h;Za.mpr ⟨e,he,a⟩
end
noncomputable def CG (S:Di)(x:Str):Option Th:=open Classical in if h:∃t,At S x t then some (choose h) else none
theorem jK (g:xj S)(h:At S x t):CG S x=some t:=by
 unfold CG;have ex:∃t,At S x t:=⟨t,h⟩;rw[dif_pos ex];exact congrArg some<|At.thing g (J3 ex) h
noncomputable def yw:Nat->Di->Str->Dk
 | 0,_,_=>[]
 |d+1,S,x=>match CG S x with
  |some (.leaf ls)=>[([],ls)]
  |some (.tree rows)=>rows.flatMap fun r=>(yw d S r.2).map fun f=>(r.1::f.1,f.2)
  |_=>[]
theorem xO {ls:Da}{d:Nat}(g:xj S)(h:At S x<|.leaf ls):yw (d+1) S x=[([],ls)]:=by
 show(match CG S x with|some (.leaf ls)=>[([],ls)]|some (.tree rows)=>_|_=>_)=_;rw[jK g h]
theorem x5 {rows:Dg}{d:Nat}(g:xj S)(h:At S x<|.tree rows):yw (d+1) S x=rows.flatMap fun r=>(yw d S r.2).map fun f=>(r.1::f.1,f.2):=by
 show(match CG S x with|some (.leaf ls)=>[([],ls)]|some (.tree rows)=>_|_=>_)=_;rw[jK g h]
def Cz (a b:Str):Prop:=cs a<cs b
def Tree:Nat->Di->Str->Prop
 | 0,_,_=>False
 |d+1,S,x=>(∃b,At S x<|.leaf b)\/∃rows,At S x (.tree rows)/\(rows.map (·.1)).Pairwise Cz/\∀r∈rows,zV r.1=true/\Tree d S r.2/\yw d S r.2≠[]
theorem Tree.more {S T:Di}(g:xj<|S++T)(b:xj S):∀{d:Nat} {x:Str},Tree d S x->Tree d (S++T) x/\yw d (S++T) x=yw d S x
 | 0,_,h=>absurd h<|fun z=>z
 |d+1,x,h=>by
  rcases h with⟨ls,h⟩|⟨rows,h,so,hr⟩
  ·exact⟨.inl ⟨ls,h.more⟩,by rw[xO g h.more,xO b h]⟩
  ·have c:∀r∈rows,Tree d (S++T) r.2/\yw d (S++T) r.2=yw d S r.2:=fun r m=>Tree.more g b (hr r m).2.1;refine⟨.inr ⟨rows,h.more,so,fun r m=>⟨(hr r m).1,(c r m).1,by rw[(c r m).2];exact(hr r m).2.2⟩⟩,?_⟩;rw[x5 g h.more,x5 b h];rw[JN,JN]
   congr 1
   exact Yp fun r m=>by rw[(c r m).2]
theorem Tree.mem (h:Tree d S x):x∈S.map En.nm:=by
 cases d with
 |zero=>exact absurd h<|fun z=>z
 |succ d =>
  rcases h with⟨ls,h⟩|⟨rows,h,_⟩
  ·exact h.mem
  ·exact h.mem
theorem P1:∀{a b:List Nat} (s t:List Nat),(∀c∈b,47<c)->(s=[]\/∃r,s=47::r)->a<b->a++s<b++t
 |[],[],_,_,_,_,h=>absurd h<|JM _
 |[],c::b,s,t,hb,hs,_=>by
  rcases hs with rfl|⟨r,rfl⟩
  ·exact List.nil_lt_cons _ _
  ·exact YI.mpr (.inl<|hb c<|Zc ..)
 |_::_,[],_,_,_,_,h=>absurd h<|List.not_lt_nil _
 |x::a,y::b,s,t,hb,hs,h=>by
  rcases YI.mp h with d|⟨e,d⟩
  ·exact YI.mpr (.inl d)
  ·exact YI.mpr (.inr ⟨e,P1 s t (fun c f=>hb c<|Q9 _ f) hs d⟩)
theorem xQ (l:Str){p:Da}(h:p≠[]):cs (Cd (l::p))=cs l++47::cs (Cd p):=by
 unfold Cd;rw[qD,qD,Zv,XS<|by simpa using h]
theorem qX (l:Str):cs (Cd [l])=cs l:=by
 unfold Cd;rw[qD];rfl
theorem HC (l:Str)(p:Da):∃s,cs (Cd (l::p))=cs l++s/\(s=[]\/∃r,s=47::r):=by
 by_cases h:p=[]
 ·subst h;exact⟨[],by rw[qX,ZG],.inl rfl⟩
 ·exact⟨_,xQ l h,.inr ⟨_,rfl⟩⟩
theorem PJ (h:zV l=true):∀c∈cs l,47<c:=fun c b=>by
 unfold zV at h;rw[Zi]at h;have:=ZI.mp h.2 c b;unfold UO at this;rw[Zi,ZM]at this;lia
theorem Rx (p q:Da)(c:zV m=true)(h:Cz l m):Cz (Cd (l::p)) (Cd (m::q)):=by
 obtain⟨s,e,d⟩:=HC l p;obtain⟨t,b,_⟩:=HC m q;unfold Cz;rw[e,b];exact P1 s t (PJ c) d h
theorem Kn:∀(a:List Nat) {s t:List Nat},s<t->a++s<a++t
 |[],_,_,h=>h
 |x::a,_,_,h=>YI.mpr<|.inr ⟨rfl,Kn a h⟩
theorem MH {l:Str}{p q:Da}(b:p≠[])(c:q≠[])(h:Cz (Cd p)<|Cd q):Cz (Cd (l::p)) (Cd (l::q)):=by
 unfold Cz;rw[xQ l b,xQ l c];exact Kn _<|YI.mpr<|.inr ⟨rfl,h⟩
theorem Tree.rise (g:xj S):∀{d:Nat} {x:Str},Tree d S x->(yw d S x).Pairwise (fun f h=>Cz (Cd f.1)<|Cd h.1)/\((∃ls,yw d S x=[([],ls)])\/∀f∈yw d S x,f.1≠[])
 | 0,_,h=>absurd h<|fun z=>z
 |d+1,x,h=>by
  rcases h with⟨ls,h⟩|⟨rows,h,so,hr⟩
  ·rw[xO g h];exact⟨JL _ _,.inl ⟨ls,rfl⟩⟩
  ·rw[x5 g h];refine⟨?_,.inr fun f e=>?_⟩
   ·rw[JN,List.pairwise_flatten];refine⟨fun l hl=>?_,?_⟩
    ·obtain⟨r,j,rfl⟩:=Za.mp hl;obtain⟨q,c⟩:=Tree.rise g (hr r j).2.1;rw[Yv]
     rcases c with⟨ls,c⟩|c
     ·rw[c];exact JL _ _
     ·exact q.imp_of_mem fun{a b} n i z=>MH (c a n) (c b i) z
    ·rw[Yv];rw[Yv]at so;refine so.imp_of_mem fun{a b} n i z f e k p=>?_;obtain⟨o,_,rfl⟩:=Za.mp e;obtain⟨s,_,rfl⟩:=Za.mp p;exact Rx _ _ (hr b i).1 z
   ·obtain⟨r,_,e⟩:=YG.mp e;obtain⟨o,_,rfl⟩:=Za.mp e;exact ZR _ _
theorem Sz (h:Cz a b)(k:Cz b a):False:=List.lt_asymm h k
theorem Hd (h:Cz a b):a≠b:=fun z=>by subst z;exact JM _ h
noncomputable def Co (S:Di)(t:Th):List En×Str:=open Classical in if h:∃x,At S x t then(S,choose h) else(S++[Gz S t],(Gz S t).nm)
section
variable {S T:Di}{x:Str}{t:Th}
theorem NK (g:xj S)(h:At S x t):Co S t=(S,x):=by
 unfold Co;have ex:∃x,At S x t:=⟨x,h⟩;rw[dif_pos ex];exact congrArg (Prod.mk S)<|At.name g (J3 ex) h
theorem HH (h:∀e∈S,e.d≠t.dat):Co S t=(S++[Gz S t],(Gz S t).nm):=by
 unfold Co;rw[dif_neg];rintro⟨x,e,b,_,hd⟩;exact h e b hd
theorem Wa {e:En}(h:e.h=UB t)(d:e.n<1000000):Ok 1000 e.nm:=by
 refine⟨?_,?_⟩
 ·have b:=kK t;have c:(UD e.n).length<=10:=JJ (by lia) (by decide) (by
   have:e.n<10 ^ 9:=by lia
   lia)
  unfold En.nm;rw[yg,yg,h];have:dot.length=1:=rfl;lia
 ·unfold En.nm;rw[h];exact K1 (K1 (K1 (OB t)<|Ri _)<|by decide +kernel)<|Ri _
theorem xj.nm (g:xj S){e:En}(b:e∈S):Ok 1000 e.nm:=by
 obtain⟨t,_,_,h⟩:=g.th e b;exact Wa h (g.good.ent e b).num
theorem xj.snoc (g:xj S)(c:t.Good)(l:S.length<2000)(h:∀e∈S,e.d≠t.dat):xj (S++[Gz S t]):=by
 have f:=Ny g.num<|UB t;refine⟨g.good.snoc ⟨BT c,jS t,?_,kK t⟩ (fun z=>?_) (Rc g.good<|jS t) l,fun e b=>?_,fun e b=>?_⟩
 ·show(xq S<|UB t).getD 0<1000000;lia
 ·obtain⟨e,b,hd⟩:=Za.mp z;exact h e b hd
 ·rcases Zy.mp b with z|z
  ·exact g.th e z
  ·rw[Q6.mp z];exact⟨t,rfl,c,rfl⟩
 ·rw[Ze,YU]
  rcases Zy.mp b with z|z
  ·have:=g.num e z;lia
  ·rw[Q6.mp z];show(xq S<|UB t).getD 0<_;lia
theorem NL (g:xj S)(c:t.Good)(l:S.length<2000):xj (Co S t).1/\At (Co S t).1 (Co S t).2 t/\(Co S t).1.length<=S.length+1/\∃T,(Co S t).1=S++T/\∀e∈T,e.nm=(Co S t).2:=by
 by_cases z:∃x,At S x t
 ·obtain⟨x,h⟩:=z;rw[NK g h];exact⟨g,h,Jg _,[],(ZG _).symm,fun e b=>(nomatch b)⟩
 ·have h:∀e∈S,e.d≠t.dat:=fun e b hd=>z ⟨e.nm,e,b,rfl,hd⟩;rw[HH h];exact⟨g.snoc c l h,⟨_,ZA _<|Q6.mpr rfl,rfl,rfl⟩,by rw[Ze];exact Zd _,[Gz S t],rfl,fun e b=>by rw[Q6.mp b]⟩
end
noncomputable def met:Nat->Di->Str->Da
 | 0,_,_=>[]
 |d+1,S,x=>x::match CG S x with
  |some (.tree rows)=>rows.flatMap fun r=>met d S r.2
  |_=>[]
theorem vC {ls:Da}{d:Nat}(g:xj S)(h:At S x<|.leaf ls):met (d+1) S x=[x]:=by
 show x::(match CG S x with|some (.tree rows)=>_|_=>_)=_;rw[jK g h]
theorem j7 {rows:Dg}{d:Nat}(g:xj S)(h:At S x<|.tree rows):met (d+1) S x=x::rows.flatMap fun r=>met d S r.2:=by
 show x::(match CG S x with|some (.tree rows)=>_|_=>_)=_;rw[jK g h]
theorem P8 {x:Str}{d:Nat}:x∈met (d+1) S x:=Zc ..
theorem Tree.rR {S T:Di}(g:xj<|S++T)(b:xj S):∀{d:Nat} {x:Str},Tree d S x->met d (S++T) x=met d S x
 | 0,_,h=>absurd h<|fun z=>z
 |d+1,x,h=>by
  rcases h with⟨ls,h⟩|⟨rows,h,so,hr⟩
  ·rw[vC g h.more,vC b h]
  ·rw[j7 g h.more,j7 b h,JN,JN]
   congr 2
   exact Yp fun r m=>Tree.rR g b (hr r m).2.1
def aa (a b:Str×Str):Bool:=!decide (cs b.1<cs a.1)
def UC (rows:Dg):Dg:=rows.mergeSort aa
theorem vX:aa a b=true↔cs a.1<=cs b.1:=by
 unfold aa;rw[Um,Vw];exact Ve
theorem HW (rows:Dg):(UC rows).Pairwise (fun a b=>aa a b=true) :=
 List.pairwise_mergeSort (le:=aa) (fun a b c d e=>vX.mpr<|List.le_trans (vX.mp d)<|vX.mp e) (fun a b=>by
  rw[Vp,vX (a:=a) (b:=b),vX (a:=b) (b:=a)];exact List.le_total _ _) rows
theorem y6 (rows:Dg):(UC rows).Perm rows:=List.mergeSort_perm rows aa
theorem IX {rows:Dg}(nd:(rows.map (·.1)).Nodup):((UC rows).map (·.1)).Pairwise Cz:=by
 have c:((UC rows).map (·.1)).Nodup:=((y6 rows).map _).nodup_iff.mpr nd;have d:((UC rows).map (·.1)).Pairwise (fun a b=>cs a<=cs b):=Yv.mpr<|(HW rows).imp fun{a b} h=>vX.mp h;exact(d.and<|ZO.mp c).imp fun{a b} h=>by
  by_cases z:cs a<cs b
  ·exact z
  ·exact absurd (wY<|List.le_antisymm h.1<|Ve.mp z) h.2
theorem RK {rows f:Dg}(nd:(rows.map (·.1)).Nodup)(p:f.Perm rows)(q:f.Pairwise<|fun a b=>cs a.1<=cs b.1):f=UC rows:=by
 refine Vn (le:=fun a b=>cs a.1<=cs b.1) (fun a b c d g l=>?_) q ((HW rows).imp fun{a b} h=>vX.mp h) (p.trans (y6 rows).symm);have e:=wY<|List.le_antisymm g l;have c:=p.mem_iff.mp c;have d:=(y6 rows).mem_iff.mp d;obtain⟨i,n,rfl⟩:=ZN.mp c;obtain⟨j,o,rfl⟩:=ZN.mp d;have:=(YX (h₀:=by simpa using n) (h₁:=by simpa using o) nd).mp (by rwa[ZQ,ZQ]);subst this;rfl
theorem Xk {α c:Type}{f:α->c}{l:List α}(h:(l.map f).Nodup):l.Nodup:=by
 rw[ZO]at h ⊢;rw[Yv]at h;exact h.imp fun{a b} n e=>n (by rw[e])
def UI (ls:Da):Prop:=ls.length<=63/\∀l∈ls,UT l=true
structure zf (d:Nat)(fs:Dk):Prop where
 wK:∀f∈fs,f.1≠[]/\f.1.length<=d/\(∀l∈f.1,zV l=true)/\UI f.2
 nd:(fs.map (·.1)).Nodup
 pre:∀f∈fs,∀k∈fs,∀t,k.1=f.1++t->t=[]
def Cj (fs:Dk):List (Str×Da):=fs.filterMap fun f=>match f.1 with
 |[a]=>some (a,f.2)
 |_=>none
def U2 (l:Str)(f:Fi):Option Fi:=match f.1 with
 |a::b::r=>if a=l then some (b::r,f.2) else none
 |_=>none
def sub (fs:Dk)(l:Str):Dk:=fs.filterMap<|U2 l
def qE (L:Da)(p:Str):Da:=if p∈L then L else L++[p]
def Cl (fs:Dk):Da:=fs.foldl (fun L f=>match f.1 with
 |a::_::_=>qE L a
 |_=>L) []
theorem KW {q:Str}:q∈qE L p↔q∈L\/q=p:=by
 unfold qE
 split
 ·rename_i h;exact⟨.inl,fun z=>z.elim id<|fun z=>z▸h⟩
 ·rw[Zy,Q6]
theorem N6 {L:Da}(h:L.Nodup):(qE L p).Nodup:=by
 unfold qE
 split
 ·exact h
 ·rename_i z;exact jL h z
theorem jP (fs:Dk)(f:Fi):Cl (fs++[f])=match f.1 with
 |a::_::_=>qE (Cl fs) a
 |_=>Cl fs:=by
 unfold Cl;rw[Jj];rfl
theorem xC (fs:Dk):(Cl fs).Nodup/\∀l,l∈Cl fs↔∃f∈fs,∃b r,f.1=l::b::r:=by
 induction fs using snoc_ind with
 |h0=>exact⟨YM,fun l=>⟨fun h=>(nomatch h),fun⟨f,d,_⟩=>(nomatch d)⟩⟩
 |h1 fs f ih =>
  rw[jP];have old:∀l,(∃k∈fs++[f],∃b r,k.1=l::b::r)↔(∃k∈fs,∃b r,k.1=l::b::r)\/∃b r,f.1=l::b::r:=fun l=>by
   constructor
   ·rintro⟨k,c,z⟩
    rcases Zy.mp c with q|q
    ·exact .inl ⟨k,q,z⟩
    ·rw[Q6.mp q]at z;exact .inr z
   ·rintro(⟨k,c,z⟩|z)
    ·exact⟨k,ZZ _ c,z⟩
    ·exact⟨f,ZA _<|Q6.mpr rfl,z⟩
  match e:f.1 with
  |[]=>exact⟨ih.1,fun l=>by rw[old,ih.2,e];exact⟨.inl,fun z=>z.elim id fun⟨b,r,z⟩=>(nomatch z)⟩⟩
  |[a]=>exact⟨ih.1,fun l=>by rw[old,ih.2,e];exact⟨.inl,fun z=>z.elim id fun⟨b,r,z⟩=>(nomatch z)⟩⟩
  |a::b::r =>
   refine⟨N6 ih.1,fun l=>?_⟩;show l∈qE (Cl fs) a↔_;rw[KW,ih.2,old,e];exact or_congr Iff.rfl ⟨fun z=>⟨b,r,by rw[z]⟩,fun⟨_,_,z⟩=>(List.cons.inj z).1.symm⟩
theorem wD {k:Fi}:k∈sub fs l↔k.1≠[]/\(l::k.1,k.2)∈fs:=by
 unfold sub;rw[JP];constructor
 ·rintro⟨f,c,e⟩;unfold U2 at e
  split at e
  ·rename_i a b r q
   split at e
   ·rename_i z;subst z;cases e;refine⟨ZR _ _,?_⟩;have:f=(a::b::r,f.2):=Mo q rfl;rwa[←this]
   ·cases e
  ·cases e
 ·rintro⟨d,c⟩;refine⟨_,c,?_⟩;cases q:k.1 with
  |nil=>exact absurd q d
  |cons b r =>
   unfold U2;show(if l=l then some ((b::r,k.2):Fi) else none)=some k;rw[Zt rfl]
   congr 1
   exact Mo q.symm rfl
theorem wF {a:Str}{ls:Da}:(a,ls)∈Cj fs↔([a],ls)∈fs:=by
 unfold Cj;rw[JP];constructor
 ·rintro⟨f,c,e⟩
  split at e
  ·rename_i b q;cases e;have:f=([a],f.2):=Mo q rfl;rwa[←this]
  ·cases e
 ·intro h;exact⟨_,h,rfl⟩
theorem zf.sub {d:Nat}(h:zf (d+1) fs)(l:Str):zf d (sub fs l):=by
 refine⟨fun k g=>?_,?_,fun k g m s t e=>?_⟩
 ·obtain⟨j,c⟩:=wD.mp g;obtain⟨_,i,n,o⟩:=h.wK _ c;have i:k.1.length+1<=d+1:=i;exact⟨j,by lia,fun z u=>n z<|Q9 _ u,o⟩
 ·have:((An.sub fs l).map fun k=>l::k.1).Sublist (fs.map (·.1)):=by
   unfold An.sub;have:∀fs:Dk,((fs.filterMap<|U2 l).map fun k=>l::k.1).Sublist (fs.map (·.1)):=by
    intro fs
    induction fs with
    |nil=>exact List.Sublist.slnil
    |cons f fs ih =>
     rw[Y7,Zv];cases q:U2 l f with
     |none=>exact ih.cons _
     |some k =>
      show((l::k.1)::_).Sublist _;have e:l::k.1=f.1:=by
       unfold U2 at q
       split at q
       ·rename_i a b r e
        split at q
        ·rename_i z;subst z;cases q;exact e.symm
        ·cases q
       ·cases q
      rw[e];exact ih.cons₂ _
   exact this fs
  have:=this.nodup h.nd;have e:((An.sub fs l).map fun k=>l::k.1)=((An.sub fs l).map (·.1)).map (List.cons l):=by rw[ZB];rfl
  rw[e]at this;exact Xk this
 ·obtain⟨_,c⟩:=wD.mp g;obtain⟨_,p⟩:=wD.mp s;exact h.pre _ c _ p t (by show l::m.1=l::k.1++t;rw[e];rfl)
noncomputable def Cb (a:List En×Dg)(f:Str×Da):List En×Dg:=((Co a.1<|.leaf f.2).1,a.2++[(f.1,(Co a.1<|.leaf f.2).2)])
noncomputable def Uu:Nat->Di->Dk->List En×Str
 | 0,S,_=>(S,"")
 |d+1,S,fs =>
  let b:=(Cl fs).foldl (fun a l=>((Uu d a.1<|sub fs l).1,a.2++[(l,(Uu d a.1<|sub fs l).2)])) ((Cj fs).foldl Cb (S,[]))
  Co b.1 (.tree<|UC b.2)
structure Fo (d:Nat)(S0 S:Di)(rows:Dg)(ps:List<|Str×Dk):Prop where
 ok:xj S
 new:∃T,S=S0++T/\∀e∈T,∃r∈rows,e.nm∈met d S r.2
 wK:rows.map (·.1)=ps.map (·.1)
 rd:∀(i:Nat) (r:Str×Str) (p:Str×Dk),rows[i]?=some r->ps[i]?=some p->Tree d S r.2/\∀f,f∈yw d S r.2↔f∈p.2
theorem Fo.nil (g:xj S):Fo d S S [] []:=⟨g,⟨[],(ZG _).symm,fun e b=>(nomatch b)⟩,rfl,fun i r p h=>(nomatch h)⟩
theorem Fo.len (h:Fo d S0 S rows ps):rows.length=ps.length:=by
 have:=congrArg List.length h.wK;rw[Q5,Q5]at this;exact this
theorem Fo.step {T:Di}(h:Fo d S0 S rows ps){l n:Str}{g:Dk}(ok:xj<|S++T)(new:∀e∈T,e.nm∈met d (S++T) n)(A:Tree d (S++T) n)(rd:∀f,f∈yw d (S++T) n↔f∈g):Fo d S0 (S++T) (rows++[(l,n)]) (ps++[(l,g)]):=by
 obtain⟨s,u,v⟩:=h.new;refine⟨ok,⟨s++T,by rw[←Z7,←u],fun e w=>?_⟩,by rw[Zg,Zg,h.wK];rfl,fun i r p b c=>?_⟩
 ·rcases Zy.mp w with z|z
  ·obtain⟨r,j,m⟩:=v e z;obtain⟨i,b⟩:=Yl.mp j;have hl:=(Zq.mp b).1;obtain⟨t,_⟩:=h.rd i r _ b (Zb<|by rwa[←h.len]);exact⟨r,ZZ _ j,by rw[t.rR ok h.ok];exact m⟩
  ·exact⟨(l,n),ZA _<|Q6.mpr rfl,new e z⟩
 ·by_cases z:i<rows.length
  ·rw[ZS z]at b;rw[ZS<|by rwa[←h.len]]at c;obtain⟨t,k⟩:=h.rd i r p b c;obtain⟨y,x⟩:=t.more ok h.ok;exact⟨y,by rw[x];exact k⟩
  ·rw[ZX<|by lia]at b;rw[ZX (by rw[←h.len];lia)]at c;have o:i-rows.length=0:=by
    rcases JW (i-rows.length) with q|q
    ·exact q
    ·rw[JA.mpr (by show 1<=_;lia)]at b;cases b
   rw[o]at b;rw[←h.len,o]at c;cases b;cases c;exact⟨A,rd⟩
theorem wA:∀rs:Dg,(z8 rs).length=2*rs.length
 |[]=>rfl
 |r::rs=>by
  show(z8 rs).length+1+1=2*(rs.length+1);rw[wA rs];lia
theorem Hg:∀{rs:Dg} {p:Str},p∈z8 rs->∃r∈rs,p=r.1\/p=r.2
 |r::rs,p,h=>by
  rcases Zh.mp h with q|h
  ·exact⟨r,Zc ..,.inl q⟩
  ·rcases Zh.mp h with q|h
   ·exact⟨r,Zc ..,.inr q⟩
   ·obtain⟨s,b,q⟩:=Hg h;exact⟨s,Q9 _ b,q⟩
structure vV (d:Nat)(S:Di)(fs:Dk)(q:List En×Str):Prop where
 ok:xj q.1
 new:∃T,q.1=S++T/\∀e∈T,e.nm∈met d q.1 q.2
 tree:Tree d q.1 q.2
 rd:∀f,f∈yw d q.1 q.2↔f∈fs
 node:∃rows,At q.1 q.2<|.tree rows
theorem kW (h:zV x=true):Ok 1000 x:=by
 unfold zV at h;rw[Zi,Zi,ZM,ZM]at h;refine⟨by lia,?_⟩;rw[yM];intro c b;have:=ZI.mp h.2 c b;unfold UO at this;simp only[Zi,ZM]at this;lia
theorem Tg (g:xj S){rows:Dg}(hl:rows.length<=63)(h:∀r∈rows,zV r.1=true/\r.2∈S.map En.nm):(Th.tree rows).Good:=by
 refine⟨by show(z8 rows).length<=1000;rw[wA];lia,fun p i=>?_⟩;obtain⟨r,j,q⟩:=Hg i;obtain⟨c,d⟩:=h r j
 rcases q with q|q
 ·rw[q];exact kW c
 ·obtain⟨e,f,b⟩:=Za.mp d;rw[q,←b];exact g.nm f
theorem Fo.put (h:Fo d S0 S rows ps)(hl:rows.length<=63)(nd:(ps.map (·.1)).Nodup)(lb:∀p∈ps,zV p.1=true/\p.2≠[])(ls:S.length<2000):vV (d+1) S0 (ps.flatMap fun p=>p.2.map fun f=>(p.1::f.1,f.2)) (Co S<|.tree<|UC rows)/\(Co S<|.tree<|UC rows).1.length<=S.length+1:=by
 have at_:∀r∈rows,∃p∈ps,r.1=p.1/\Tree d S r.2/\∀f,f∈yw d S r.2↔f∈p.2:=fun r b=>by
  obtain⟨i,q⟩:=Yl.mp b;have hl:=(Zq.mp q).1;have c:=Zb (l:=ps) (i:=i) (by rwa[←h.len]);have e:=congrArg (fun l=>l[i]?) h.wK;simp only[Zj,q,c,Yt]at e;exact⟨_,YF _,Option.some.inj e,h.rd i r _ q c⟩
 have F:∀p∈ps,∃r∈rows,r.1=p.1/\Tree d S r.2/\∀f,f∈yw d S r.2↔f∈p.2:=fun p w=>by
  obtain⟨i,c⟩:=Yl.mp w;have hl:=(Zq.mp c).1;have q:=Zb (l:=rows) (i:=i) (by rwa[h.len]);have e:=congrArg (fun l=>l[i]?) h.wK;simp only[Zj,q,c,Yt]at e;exact⟨_,YF _,Option.some.inj e,h.rd i _ p q c⟩
 have s:∀{r},r∈UC rows↔r∈rows:=(y6 rows).mem_iff;have A:(Th.tree<|UC rows).Good:=Tg h.ok (by rwa[(y6 rows).length_eq]) fun r b=>by
  obtain⟨p,c,e,t,_⟩:=at_ r<|s.mp b;exact⟨by rw[e];exact(lb p c).1,t.mem⟩
 obtain⟨ok,g,E,T,n,C⟩:=NL h.ok A ls;refine⟨?_,E⟩;have ne:∀r∈rows,yw d S r.2≠[]:=fun r b=>by
  obtain⟨p,c,e,t,k⟩:=at_ r b;intro z;refine(lb p c).2 (JO.mpr fun f o=>?_);rw[←k,z]at o;cases o
 rw[n]at ok g;have u:∀r∈rows,Tree d (S++T) r.2/\yw d (S++T) r.2=yw d S r.2:=fun r b=>by
  obtain⟨p,c,e,t,k⟩:=at_ r b;exact t.more ok h.ok
 obtain⟨x,y,B⟩:=h.new;refine⟨by rw[n];exact ok,⟨x++T,by rw[n,y,Z7],fun e D=>?_⟩,?_,fun f=>?_,⟨_,by rw[n];exact g⟩⟩
 ·rw[n,j7 ok g]
  rcases Zy.mp D with z|z
  ·obtain⟨r,b,m⟩:=B e z;obtain⟨p,c,_,t,_⟩:=at_ r b;exact Q9 _ (YG.mpr ⟨r,s.mpr b,by rw[t.rR ok h.ok];exact m⟩)
  ·rw[C e z];exact Zc ..
 ·rw[n];refine .inr ⟨_,g,IX<|by rwa[h.wK],fun r b=>?_⟩;have b:=s.mp b;obtain⟨p,c,e,t,_⟩:=at_ r b;exact⟨by rw[e];exact(lb p c).1,(u r b).1,by rw[(u r b).2];exact ne r b⟩
 ·rw[n,x5 ok g,YG,YG];constructor
  ·rintro⟨r,b,o⟩;have b:=s.mp b;obtain⟨p,c,e,t,k⟩:=at_ r b;obtain⟨v,j,rfl⟩:=Za.mp o;rw[(u r b).2,k]at j;exact⟨p,c,Za.mpr ⟨v,j,by rw[e]⟩⟩
  ·rintro⟨p,c,o⟩;obtain⟨r,b,e,t,k⟩:=F p c;obtain⟨v,j,rfl⟩:=Za.mp o;exact⟨r,s.mpr b,Za.mpr ⟨v,by rw[(u r b).2,k];exact j,by rw[e]⟩⟩
def wt (fs:Dk):Nat:=(fs.map fun f=>f.1.length).sum
theorem MZ (a b:Dk):wt (a++b)=wt a+wt b:=by
 unfold wt;rw[Zg,V5]
theorem F6 (h:UT x=true):Ok 1000 x:=by
 unfold UT at h;rw[Zi,ZM]at h;refine⟨by lia,?_⟩;rw[yM];intro c b;have:=ZI.mp h.2 c b;unfold UK at this;simp only[Zi,ZM]at this;lia
theorem Nu (h:UI ls):(Th.leaf ls).Good:=⟨by show ls.length<=1000;have:=h.1;lia,fun p b=>F6<|h.2 p b⟩
theorem XT {d:Nat}:∀(vs:List<|Str×Da) {S:Di} {rows:Dg} {ps:List (Str×Dk)},Fo (d+1) S0 S rows ps->(∀v∈vs,UI v.2)->S.length+vs.length<=2000 ->
  Fo (d+1) S0 (vs.foldl Cb (S,rows)).1 (vs.foldl Cb (S,rows)).2 (ps++vs.map fun v=>(v.1,[([],v.2)]))/\(vs.foldl Cb (S,rows)).1.length<=S.length+vs.length
 |[],S,rows,ps,h,_,_=>⟨by rw[Vh,ZG];exact h,Zd _⟩
 |v::vs,S,rows,ps,h,hv,hl=>by
  have hl:S.length+(vs.length+1)<=2000:=hl;obtain⟨ok,b,p,T,g,c⟩:=NL h.ok (Nu<|hv v<|Zc ..) (by lia);rw[JD];show Fo (d+1) S0 (vs.foldl Cb<|Cb (S,rows) v).1 (vs.foldl Cb<|Cb (S,rows) v).2 _/\(vs.foldl Cb<|Cb (S,rows) v).1.length<=S.length+(vs.length+1);have e:Cb (S,rows) v=((Co S<|.leaf v.2).1,rows++[(v.1,(Co S<|.leaf v.2).2)]):=rfl;rw[e,Zv,show ps++(v.1,[(([],v.2):Fi)])::vs.map (fun v=>(v.1,[(([],v.2):Fi)]))=(ps++[(v.1,[(([],v.2):Fi)])])++vs.map (fun v=>(v.1,[(([],v.2):Fi)])) by simp];have st:Fo (d+1) S0 (Co S<|.leaf v.2).1 (rows++[(v.1,(Co S<|.leaf v.2).2)]) (ps++[(v.1,[(([],v.2):Fi)])]):=by
   generalize (Co S<|.leaf v.2).2=n at b c ⊢;rw[g]at ok b ⊢;exact h.step ok (fun e j=>by rw[c e j];exact P8) (.inl ⟨_,b⟩) (fun f=>by rw[xO ok b])
  obtain⟨i,o⟩:=XT vs st (fun w l=>hv w<|Q9 _ l) (by lia);exact⟨i,by lia⟩
noncomputable def Ci (d:Nat)(fs:Dk)(a:List En×Dg)(l:Str):List En×Dg:=((Uu d a.1<|sub fs l).1,a.2++[(l,(Uu d a.1<|sub fs l).2)])
theorem NJ (d:Nat)(S:Di)(fs:Dk):Uu (d+1) S fs=Co ((Cl fs).foldl (Ci d fs)<|(Cj fs).foldl Cb (S,[])).1 (.tree<|UC ((Cl fs).foldl (Ci d fs)<|(Cj fs).foldl Cb (S,[])).2):=rfl
theorem KB {b:Di}:∀(ls:Da) (H:∀l∈ls,∀S,xj S->S.length+1+wt (sub fs l)<=2000->vV e S (sub fs l) (Uu d S<|sub fs l)/\(Uu d S<|sub fs l).1.length<=S.length+1+wt (sub fs l)) {S:Di} {rows:Dg} {ps:List (Str×Dk)},
  Fo e b S rows ps->S.length+(ls.map fun l=>1+wt (sub fs l)).sum<=2000 ->
  Fo e b (ls.foldl (Ci d fs) (S,rows)).1 (ls.foldl (Ci d fs) (S,rows)).2 (ps++ls.map fun l=>(l,sub fs l))/\(ls.foldl (Ci d fs) (S,rows)).1.length<=S.length+(ls.map fun l=>1+wt (sub fs l)).sum
 |[],_,S,rows,ps,h,_=>⟨by rw[Vh,ZG];exact h,Zd _⟩
 |l::ls,H,S,rows,ps,h,hl=>by
  rw[Zv,Jp]at hl;obtain⟨p,r⟩:=H l (Zc ..) S h.ok (by lia);rw[JD,Zv,Zv,Jp];have g:Ci d fs (S,rows) l=((Uu d S<|sub fs l).1,rows++[(l,(Uu d S<|sub fs l).2)]):=rfl;rw[g,show ps++(l,sub fs l)::ls.map (fun l=>(l,sub fs l))=(ps++[(l,sub fs l)])++ls.map (fun l=>(l,sub fs l)) by simp];obtain⟨ok,⟨T,i,c⟩,f,rd,_⟩:=p;have st:Fo e b (Uu d S<|sub fs l).1 (rows++[(l,(Uu d S<|sub fs l).2)]) (ps++[(l,sub fs l)]):=by
   generalize (Uu d S<|sub fs l).2=n at c f rd ⊢;rw[i]at ok c f rd ⊢;exact h.step ok c f rd
  obtain⟨j,q⟩:=KB ls (fun w o=>H w<|Q9 _ o) st (by lia);exact⟨j,by lia⟩
theorem Ka {g g':Str->Nat}{a:Str}{c:Nat}(h:∀l,l≠a->g' l=g l)(b:g' a<=g a+c):∀{L:Da},L.Nodup->(L.map g').sum<=(L.map g).sum+c
 |[],_=>ZD _
 |l::L,nd=>by
  rw[Z9]at nd;rw[Zv,Zv,Jp,Jp]
  by_cases z:l=a
  ·subst z;have:L.map g'=L.map g:=Yp fun m d=>h m fun q=>nd.1<|q▸d;rw[this];lia
  ·have:=Ka h b nd.2;rw[h l z];lia
theorem sub_snoc (fs:Dk)(f:Fi)(l:Str):sub (fs++[f]) l=sub fs l++(U2 l f).toList:=by
 unfold sub;rw[List.filterMap_append]
 congr 1
theorem RS {f:Fi}(h:f.1=[]):U2 l f=none:=by unfold U2;rw[h]
theorem HZ {f:Fi}{a:Str}(h:f.1=[a]):U2 l f=none:=by unfold U2;rw[h]
theorem uZ {f:Fi}{a b:Str}{r:Da}(h:f.1=a::b::r):U2 l f=if a=l then some (b::r,f.2) else none:=by unfold U2;rw[h]
theorem vA (fs:Dk)(f:Fi):Cj (fs++[f])=Cj fs++(match f.1 with|[a]=>[(a,f.2)]|_=>[]):=by
 unfold Cj;rw[List.filterMap_append]
 congr 1
 rw[Y7]
 match f.1 with
 |[]=>rfl
 |[a]=>rfl
 |a::b::r=>rfl
theorem many (fs:Dk):(Cj fs).length+((Cl fs).map fun l=>1+wt (sub fs l)).sum<=wt fs:=by
 induction fs using snoc_ind with
 |h0=>exact Zd _
 |h1 fs f ih =>
  have same:(∀l,U2 l f=none)->∀l,sub (fs++[f]) l=sub fs l:=fun h l=>by rw[sub_snoc,h l];exact ZG _
  rw[MZ,vA,jP,Ze];have s:wt [f]=f.1.length:=by unfold wt;simp
  rw[s]
  match e:f.1 with
  |[] =>
   have:=same fun l=>RS e;rw[show(fun l=>1+wt (sub (fs++[f]) l))=fun l=>1+wt (sub fs l) from funext fun l=>by rw[this l]];show(Cj fs).length+0+((Cl fs).map fun l=>1+wt (sub fs l)).sum<=wt fs+0;lia
  |[a] =>
   have:=same fun l=>HZ e;rw[show(fun l=>1+wt (sub (fs++[f]) l))=fun l=>1+wt (sub fs l) from funext fun l=>by rw[this l]];show(Cj fs).length+1+((Cl fs).map fun l=>1+wt (sub fs l)).sum<=wt fs+1;lia
  |a::b::r =>
   show(Cj fs).length+0+((qE (Cl fs) a).map fun l=>1+wt (sub (fs++[f]) l)).sum<=wt fs+(r.length+1+1);have i:∀l,l≠a->1+wt (sub (fs++[f]) l)=1+wt (sub fs l):=fun l hl=>by
    rw[sub_snoc,uZ e,Zs<|EK hl];show 1+wt (sub fs l++[])=_;rw[ZG]
   have j:1+wt (sub (fs++[f]) a)=1+wt (sub fs a)+(r.length+1):=by
    rw[sub_snoc,uZ e,Zt rfl];show 1+wt (sub fs a++[(b::r,f.2)])=_;rw[MZ];show 1+(wt (sub fs a)+((b::r).length+0))=_;rw[Zn];lia
   have bump:=Ka (g:=fun l=>1+wt (sub fs l)) (g':=fun l=>1+wt (sub (fs++[f]) l)) (a:=a) (c:=r.length+1) i (JQ j) (xC fs).1;unfold qE
   split
   ·lia
   ·rename_i z;rw[Zg,V5];have p:sub fs a=[]:=JO.mpr fun k o=>by
     obtain⟨h0,n⟩:=wD.mp o;refine z<|((xC fs).2 a).mpr ⟨_,n,?_⟩;cases q:k.1 with
     |nil=>exact absurd q h0
     |cons b r=>exact⟨b,r,rfl⟩
    have d:(Cl fs).map (fun l=>1+wt (sub (fs++[f]) l))=(Cl fs).map (fun l=>1+wt (sub fs l)):=Yp fun l hl=>i l fun q=>z<|q▸hl;rw[d];show(Cj fs).length+0+(((Cl fs).map fun l=>1+wt (sub fs l)).sum+((1+wt (sub (fs++[f]) a))+0))<=_;rw[j,p];show _+(_+(1+0+(r.length+1)+0))<=_;lia
def pieces (fs:Dk):List (Str×Dk):=(Cj fs).map (fun v=>(v.1,[([],v.2)]))++(Cl fs).map fun l=>(l,sub fs l)
theorem K6 (g:zf d fs)(f:Fi):f∈((pieces fs).flatMap fun p=>p.2.map fun k=>(p.1::k.1,k.2))↔f∈fs:=by
 rw[YG];constructor
 ·rintro⟨p,n,c⟩;obtain⟨k,i,rfl⟩:=Za.mp c
  rcases Zy.mp n with z|z
  ·obtain⟨v,o,rfl⟩:=Za.mp z;rw[Q6.mp i];exact wF.mp o
  ·obtain⟨l,hl,rfl⟩:=Za.mp z;exact(wD.mp i).2
 ·intro c;obtain⟨j,_⟩:=g.wK f c
  match e:f.1 with
  |[]=>exact absurd e j
  |[a] =>
   have h:f=([a],f.2):=Mo e rfl;exact⟨(a,[([],f.2)]),ZZ _<|Za.mpr ⟨(a,f.2),wF.mpr<|h▸c,rfl⟩,Za.mpr ⟨([],f.2),Q6.mpr rfl,h.symm⟩⟩
  |a::b::r =>
   have h:f=(a::b::r,f.2):=Mo e rfl;exact⟨(a,sub fs a),ZA _<|Za.mpr ⟨a,((xC fs).2 a).mpr ⟨f,c,b,r,e⟩,rfl⟩,Za.mpr ⟨(b::r,f.2),wD.mpr ⟨ZR _ _,h▸c⟩,h.symm⟩⟩
theorem P5 {fs:Dk}(nd:(fs.map (·.1)).Nodup):((Cj fs).map (·.1)).Nodup:=by
 have:((Cj fs).map fun v=>[v.1]).Sublist (fs.map (·.1)):=by
  unfold Cj
  induction fs with
  |nil=>exact List.Sublist.slnil
  |cons f fs ih =>
   rw[Zv,Z9]at nd;rw[Y7,Zv]
   match e:f.1 with
   |[]=>exact(ih nd.2).cons _
   |[a]=>exact(ih nd.2).cons₂ _
   |a::b::r=>exact(ih nd.2).cons _
 have:=this.nodup nd;have e:((Cj fs).map fun v=>[v.1])=((Cj fs).map (·.1)).map fun a=>[a]:=by rw[ZB];rfl
 rw[e]at this;exact Xk this
theorem U8 (g:zf d fs):((pieces fs).map (·.1)).Nodup:=by
 unfold pieces;rw[Zg,ZB,ZB,Y5];refine⟨P5 g.nd,by rw[show((fun p:Str×Dk=>p.1)∘fun l=>(l,sub fs l))=id from rfl,Uq];exact(xC fs).1,fun a i b j z=>?_⟩;subst z;obtain⟨v,c,e⟩:=Za.mp i;obtain⟨l,hl,rfl⟩:=Za.mp j;have e:v.1=l:=e;obtain⟨f,n,b,r,h⟩:=((xC fs).2 l).mp hl;have c:([v.1],v.2)∈fs:=wF.mp c;have:=g.pre _ c f n (b::r) (by rw[h,e];rfl);cases this
theorem GZ (g:zf d fs):∀p∈pieces fs,zV p.1=true/\p.2≠[]:=fun p h=>by
 rcases Zy.mp h with z|z
 ·obtain⟨v,i,rfl⟩:=Za.mp z;exact⟨(g.wK _<|wF.mp i).2.2.1 _<|Q6.mpr rfl,ZR _ _⟩
 ·obtain⟨l,hl,rfl⟩:=Za.mp z;obtain⟨f,e,b,r,c⟩:=((xC fs).2 l).mp hl;refine⟨(g.wK f e).2.2.1 _ (by rw[c];exact Zc ..),List.ne_nil_of_mem (a:=(b::r,f.2))<|wD.mpr ⟨ZR _ _,?_⟩⟩;have:f=(l::b::r,f.2):=Mo c rfl;exact this▸e
theorem sub_len:(sub fs l).length<=fs.length:=List.length_filterMap_le _ _
theorem qQ (fs:Dk):(Cj fs).length+(Cl fs).length<=fs.length:=by
 induction fs using snoc_ind with
 |h0=>exact Zd _
 |h1 fs f ih =>
  rw[vA,jP,Ze,Ze]
  match e:f.1 with
  |[]=>show(Cj fs).length+0+(Cl fs).length<=fs.length+1;lia
  |[a]=>show(Cj fs).length+1+(Cl fs).length<=fs.length+1;lia
  |a::b::r =>
   show _+0+(qE (Cl fs) a).length<=_+1;unfold qE
   split
   ·lia
   ·rw[Ze];show _+0+(_+1)<=_+1;lia
theorem HF {d e:Nat}(ok:xj S)(g:zf n fs)(hl:fs.length<=63)(hs:S.length+1+wt fs<=2000)
  (H:∀l∈Cl fs,∀S,xj S->S.length+1+wt (sub fs l)<=2000->vV (e+1) S (sub fs l) (Uu d S<|sub fs l)/\(Uu d S<|sub fs l).1.length<=S.length+1+wt (sub fs l)) :
  vV (e+2) S fs (Uu (d+1) S fs)/\(Uu (d+1) S fs).1.length<=S.length+1+wt fs:=by
 have u:=many fs;have r:=qQ fs;obtain⟨o,t⟩:=XT (d:=e) (Cj fs) (Fo.nil ok) (fun v p=>(g.wK _<|wF.mp p).2.2.2) (by lia);have b:=KB (Cl fs) H (S:=((Cj fs).foldl Cb (S,[])).1) (rows:=((Cj fs).foldl Cb (S,[])).2) o (by lia);obtain⟨c,i⟩:=b;rw[NJ];rw[V6]at c;have j:pieces fs=(Cj fs).map (fun v=>(v.1,[(([],v.2):Fi)]))++(Cl fs).map fun l=>(l,sub fs l):=rfl;rw[←j]at c;have c:Fo (e+1) S ((Cl fs).foldl (Ci d fs)<|(Cj fs).foldl Cb (S,[])).1 ((Cl fs).foldl (Ci d fs)<|(Cj fs).foldl Cb (S,[])).2 (pieces fs):=c;have i:((Cl fs).foldl (Ci d fs)<|(Cj fs).foldl Cb (S,[])).1.length<=_:=i;generalize (Cl fs).foldl (Ci d fs) ((Cj fs).foldl Cb (S,[]))=q at c i ⊢;have s:q.2.length<=63:=by
  rw[c.len,j,Ze,Q5,Q5];lia
 obtain⟨h,r⟩:=c.put s (U8 g) (GZ g) (by lia);exact⟨⟨h.ok,h.new,h.tree,fun f=>by rw[h.rd,K6 g],h.node⟩,by lia⟩
theorem B3:∀(d:Nat) {S:Di} {fs:Dk},xj S->zf (d+1) fs->fs.length<=63->S.length+1+wt fs<=2000->vV (d+2) S fs (Uu (d+1) S fs)/\(Uu (d+1) S fs).1.length<=S.length+1+wt fs
 | 0,S,fs,ok,g,hl,hs=>HF ok g hl hs fun l hl=>by
  obtain⟨f,i,b,r,h⟩:=((xC fs).2 l).mp hl;have:=(g.wK f i).2.1;rw[h,Zn,Zn]at this;lia
 |d+1,S,fs,ok,g,hl,hs=>HF ok g hl hs fun l _ j e c=>B3 d e (g.sub l) (ZL sub_len hl) c
end An
namespace AxK
structure TO (β:Type) where
 lt:β->β->Bool
 jz:∀a b,lt a b=true->lt b a=false
 lH:∀a b c,lt b a=false->lt c b=false->lt c a=false
 lV:∀a b,lt a b=false->lt b a=false->a=b
section
variable {β γ:Type}{O:TO β}
def TO.le (O:TO β)(a b:β):Prop:=O.lt b a=false
theorem TO.refl (O:TO β)(a:β):O.le a a:=by
 show O.lt a a=false;cases h:O.lt a a with
 |false=>rfl
 |true=>exact h.symm.trans<|O.jz a a h
theorem TO.of_lt {a b:β}(h:O.lt a b=true):O.le a b:=O.jz a b h
theorem TO.trans {a b c:β}(d:O.le a b)(e:O.le b c):O.le a c:=O.lH a b c d e
def TO.nat:TO Nat:=⟨fun a b=>decide (a<b),fun a b h=>by have:=Zr h;exact Zo<|by lia,fun a b c d e=>by
 have:=Ju d;have:=Ju e;exact Zo<|by lia,fun a b d e=>by
 have:=Ju d;have:=Ju e;lia⟩
def yG (O:TO β):List β->List β->Bool
 |[],[]=>false
 |[],_::_=>true
 |_::_,[]=>false
 |a::as,b::bs=>O.lt a b||(!O.lt b a&&yG O as bs)
theorem F8 (O:TO β):∀a b:List β,yG O a b=true->yG O b a=false
 |[],[],h=>nomatch h
 |[],_::_,_=>rfl
 |_::_,[],h=>nomatch h
 |a::as,b::bs,h=>by
  unfold yG at h ⊢;cases c:O.lt a b with
  |true =>
   rw[O.jz _ _ c];simp
  |false =>
   rw[c]at h;have h:O.lt b a=false/\yG O as bs=true:=by simpa using h
   rw[h.1,F8 O as bs h.2];rfl
theorem F7 (O:TO β):∀a b:List β,yG O a b=false->yG O b a=false->a=b
 |[],[],_,_=>rfl
 |[],_::_,h,_=>nomatch h
 |_::_,[],_,h=>nomatch h
 |a::as,b::bs,c,d=>by
  unfold yG at c d;have c:=JG.mp c;have d:=JG.mp d;have e:=O.lV _ _ c.1 d.1;have f:yG O as bs=false:=by have:=c.2;rw[d.1]at this;simpa using this
  have g:yG O bs as=false:=by have:=d.2;rw[c.1]at this;simpa using this
  rw[e,F7 O as bs f g]
theorem Hc (O:TO β):∀a b c:List β,yG O b a=false->yG O c b=false->yG O c a=false
 |[],[],c,_,h=>h
 |[],_::_,[],_,_=>rfl
 |[],_::_,_::_,_,_=>rfl
 |_::_,[],c,h,_=>nomatch h
 |_::_,_::_,[],_,h=>nomatch h
 |a::as,b::bs,c::cs,d,e=>by
  unfold yG at d e ⊢;have d:=JG.mp d;have e:=JG.mp e;rw[O.lH _ _ _ d.1 e.1,Bool.false_or];cases q:O.lt a c with
  |true=>rfl
  |false =>
   have f:a=c:=O.lV _ _ q<|O.lH _ _ _ d.1 e.1;have g:O.lt a b=false:=by rw[f];exact e.1
   have i:O.lt b c=false:=by rw[←f];exact d.1
   have j:yG O bs as=false:=by have:=d.2;rw[g]at this;simpa using this
   have l:yG O cs bs=false:=by have:=e.2;rw[i]at this;simpa using this
   rw[Hc O as bs cs j l];rfl
def TO.list (O:TO β):TO (List β):=⟨yG O,F8 O,Hc O,F7 O⟩
def TO.by_ (O:TO β)(f:γ->β)(h:∀a b,f a=f b->a=b):TO γ:=⟨fun a b=>O.lt (f a)<|f b,fun a b=>O.jz _ _,fun a b c=>O.lH _ _ _,fun a b d e=>h a b<|O.lV _ _ d e⟩
end
open PySem PySem.W PyProof.Rows
def run {b:Type}(lt:Nat->Nat->Bool):KasT b->b
 | .ret a=>a
 | .ask i j k=>run lt<|k<|lt i j
theorem run_bind {b c:Type}{f:b->KasT c}:∀t:KasT b,run lt (t.bind f)=run lt (f<|run lt t)
 | .ret _=>rfl
 | .ask i j k=>run_bind<|k<|lt i j
section
variable {β:Type}{O:TO β}{key:Nat->β}
def kn (key:Nat->β)(p:Array Nat)(i:Nat):β:=key<|p.getD i 0
def Up (O:TO β)(key:Nat->β)(p:Array Nat)(n:Nat):Prop:=∀i j,i<=j->j<n->O.le (kn key p i) (kn key p j)
def Down (O:TO β)(key:Nat->β)(p:Array Nat)(n:Nat):Prop:=∀i j,i<=j->j<n->O.le (kn key p j) (kn key p i)
theorem FZ {p q:Array Nat}{i j:Nat}(h:p[i]?=q[j]?):kn key p i=kn key q j:=by
 unfold kn;rw[ZE,ZE,h]
theorem Up.snoc {n:Nat}(c:1<=n)(h:Up O key p n)(hl:O.le (kn key p<|n-1)<|kn key p n):Up O key p (n+1):=fun i j b d=>by
 by_cases z:j<n
 ·exact h i j b z
 ·have z:j=n:=by lia
  subst z
  by_cases z:i=j
  ·subst z;exact O.refl _
  ·exact TO.trans (h i (j-1) (by lia)<|by lia) hl
theorem Down.snoc {n:Nat}(c:1<=n)(h:Down O key p n)(hl:O.le (kn key p n)<|kn key p<|n-1):Down O key p (n+1):=fun i j b d=>by
 by_cases z:j<n
 ·exact h i j b z
 ·have z:j=n:=by lia
  subst z
  by_cases z:i=j
  ·subst z;exact O.refl _
  ·exact TO.trans hl (h i (j-1) (by lia)<|by lia)
theorem one_up (p:Array Nat):Up O key p 1:=fun i j b c=>by
 have:i=j:=by lia
 subst this;exact O.refl _
theorem Ko:∀(f n:Nat),1<=n->Up O key p n->∃m,run (fun i j=>O.lt (key i)<|key j) (kas_asc p f n)=m/\n<=m/\m<=n+f/\Up O key p m/\(m=n+f\/O.lt (kn key p m) (kn key p<|m-1)=true)
 | 0,n,_,h=>⟨n,rfl,Zd _,Zd _,h,.inl rfl⟩
 |f+1,n,h1,h=>by
  unfold kas_asc;show∃m,run _ (if O.lt (kn key p n) (kn key p<|n-1)=true then KasT.ret n else kas_asc p f (n+1))=m/\_;cases q:O.lt (kn key p n) (kn key p<|n-1) with
  |true=>exact⟨n,by rw[Zt rfl];rfl,Zd _,by lia,h,.inr q⟩
  |false =>
   rw[Zs<|by decide];obtain⟨m,e,a,b,c,d⟩:=Ko f (n+1) (by lia)<|h.snoc h1 q;exact⟨m,e,by lia,by lia,c,d.imp (fun z=>by lia) id⟩
theorem MM {p:Array Nat}{i j:Nat}(b:j<=p.size)(k:Nat):kn key (kas_rev p i j) k=if i<=k/\k<j then kn key p (i+j-1-k) else kn key p k:=by
 have e:=getElem?_mirror_all (i:=i) b k;unfold kas_rev
 by_cases z:i<=k/\k<j
 ·rw[Zt z]at e ⊢;exact FZ e
 ·rw[Zs z]at e ⊢;exact FZ e
theorem IQ {p:Array Nat}{i j:Nat}(b:j<=p.size)(h:∀k,i<=k->k<j->kn key p k=kn key p (j-1))(k:Nat):kn key (kas_rev p i j) k=kn key p k:=by
 rw[MM b]
 split
 ·rw[h _ (by lia)<|by lia,h k (by lia)<|by lia]
 ·rfl
theorem xF (p:Array Nat)(i j:Nat):(kas_rev p i j).Perm p:=mirror_perm _ _ _ _
theorem Down.oE (h:Down O key p n)(e:∀k,kn key q k=kn key p k):Down O key q n:=fun i j b c=>by
 rw[e,e];exact h i j b c
def Flat (key:Nat->β)(p:Array Nat)(n q:Nat):Prop:=q+1<=n/\∀i,n-(q+1)<=i->i<n->kn key p i=kn key p (n-1)
theorem Ip {n:Nat}(h:1<=n):Flat key p n 0:=⟨h,fun i b c=>by
 have:i=n-1:=by lia
 rw[this]⟩
theorem X3:∀(f:Nat) (p:Array Nat) (n q:Nat),1<=n->n+f<=p.size->Down O key p n->Flat key p n q ->
  ∃p' n' q',run (fun i j=>O.lt (key i)<|key j) (kas_desc f p n q)=(p',n',q')/\p'.Perm p/\n<=n'/\n'<=n+f/\Down O key p' n'/\Flat key p' n' q'
 | 0,p,n,q,_,_,h,hq=>⟨p,n,q,rfl,Array.Perm.refl _,Zd _,Zd _,h,hq⟩
 |f+1,p,n,q,h1,hz,h,hq=>by
  unfold kas_desc;show∃p' n' q',run (fun i j=>O.lt (key i)<|key j) (if O.lt (kn key p n) (kn key p<|n-1)=true then(if q>0 then kas_desc f (kas_rev p (n-(q+1)) n) (n+1) 0 else kas_desc f p (n+1) 0)
   else .ask (p.getD (n-1) 0) (p.getD n 0) fun d=>if d=true then .ret (p,n,q) else kas_desc f p (n+1) (q+1))=(p',n',q')/\_
  cases c:O.lt (kn key p n) (kn key p<|n-1) with
  |true =>
   rw[Zt rfl];have hd:=h.snoc h1<|TO.of_lt c
   by_cases z:q>0
   ·rw[Zt z];have o:=IQ (key:=key) (p:=p) (i:=n-(q+1)) (j:=n) (by lia) hq.2;obtain⟨p',n',q',e,a,b,d,g,k⟩:=X3 f (kas_rev p (n-(q+1)) n) (n+1) 0 (by lia) (by rw[(xF p _ _).size_eq];lia) (hd.oE o) (Ip<|by lia);exact⟨p',n',q',e,a.trans<|xF _ _ _,by lia,by lia,g,k⟩
   ·rw[Zs z];obtain⟨p',n',q',e,a,b,d,g,k⟩:=X3 f p (n+1) 0 (by lia) (by lia) hd (Ip<|by lia);exact⟨p',n',q',e,a,by lia,by lia,g,k⟩
  |false =>
   rw[Zs<|by decide];show∃p' n' q',run (fun i j=>O.lt (key i)<|key j) (if O.lt (kn key p<|n-1) (kn key p n)=true then KasT.ret (p,n,q) else kas_desc f p (n+1) (q+1))=(p',n',q')/\_;cases d:O.lt (kn key p<|n-1) (kn key p n) with
   |true=>exact⟨p,n,q,by rw[Zt rfl];rfl,Array.Perm.refl _,Zd _,by lia,h,hq⟩
   |false =>
    rw[Zs<|by decide];have eq:kn key p n=kn key p (n-1):=O.lV _ _ c d;have o:Flat key p (n+1) (q+1):=⟨by have:=hq.1;lia,fun i r s=>by
     rw[show n+1-1=n by lia]
     by_cases z:i=n
     ·rw[z]
     ·rw[eq];exact hq.2 i (by lia)<|by lia⟩
    obtain⟨p',n',q',e,a,b,g,k,l⟩:=X3 f p (n+1) (q+1) (by lia) (by lia) (h.snoc h1 d) o;exact⟨p',n',q',e,a,by lia,by lia,k,l⟩
theorem Kc {p:Array Nat}{n Ds:Nat}(d:1<=n)(o:n<=Ds)(hz:Ds<=p.size)(h:Down O key p n) :
  ∃m p',run (fun i j=>O.lt (key i)<|key j) (kas_tail3 n Ds p)=(m,p')/\p'.Perm p/\1<=m/\m<=Ds/\Up O key p' m:=by
 have g:Up O key (kas_rev p 0 n) n:=fun i j f l=>by
  rw[MM<|by lia,MM<|by lia,Zt<|by lia,Zt<|by lia];exact h _ _ (by lia) (by lia)
 obtain⟨m,e,a,b,c,_⟩:=Ko (Ds-n) n d g;refine⟨m,kas_rev p 0 n,?_,xF _ _ _,by lia,by lia,c⟩;unfold kas_tail3;rw[run_bind,e];rfl
theorem Xy {p:Array Nat}{n Ds:Nat}(x:n+1<=Ds)(hz:Ds<=p.size)(h:Down O key p<|n+1) :
  ∃m p',run (fun i j=>O.lt (key i)<|key j) (kas_descPart n Ds p)=(m,p')/\p'.Perm p/\1<=m/\m<=Ds/\Up O key p' m:=by
 obtain⟨p',g,l,e,a,b,c,d,v⟩:=X3 (Ds-(n+1)) p (n+1) 0 (by lia) (by lia) h (Ip<|by lia);have u:Ds<=p'.size:=by rwa[a.size_eq]
 unfold kas_descPart;rw[run_bind,e];show∃m f,run _ (if l>0 then kas_tail3 g Ds (kas_rev p' (g-(l+1)) g) else kas_tail3 g Ds p')=(m,f)/\_
 by_cases z:l>0
 ·rw[Zt z];have w:=IQ (key:=key) (p:=p') (i:=g-(l+1)) (j:=g) (by lia) v.2;obtain⟨m,f,t,o,q,r,s⟩:=Kc (Ds:=Ds) (by lia) (by lia) (by rwa[(xF p' _ _).size_eq]) (d.oE w);exact⟨m,f,t,(o.trans<|xF _ _ _).trans a,q,r,s⟩
 ·rw[Zs z];obtain⟨m,f,t,o,q,r,s⟩:=Kc (Ds:=Ds) (by lia) (by lia) u d;exact⟨m,f,t,o.trans a,q,r,s⟩
theorem O7 {p:Array Nat}{Ds:Nat}(A:1<=Ds)(hz:Ds<=p.size) :
  ∃m p',run (fun i j=>O.lt (key i)<|key j) (kas_count Ds p)=(m,p')/\p'.Perm p/\1<=m/\m<=Ds/\Up O key p' m:=by
 obtain⟨n,e,a,b,c,d⟩:=Ko (O:=O) (key:=key) (p:=p) (Ds-1) 1 (Zd _)<|one_up p;unfold kas_count;rw[run_bind,e]
 by_cases z:n=Ds
 ·rw[Zt<|by simpa using z];exact⟨n,p,rfl,Array.Perm.refl _,a,by lia,c⟩
 rw[Zs<|by simpa using z];have h:O.lt (kn key p n) (kn key p<|n-1)=true:=d.resolve_left (by lia)
 by_cases g:n>1
 ·rw[Zt g];show∃m p',run _ (if O.lt (kn key p 0) (kn key p<|n-1)=true then KasT.ret (n,p) else kas_descPart n Ds (kas_rev p 0 n))=(m,p')/\_;cases q:O.lt (kn key p 0) (kn key p<|n-1) with
  |true =>
   rw[Zt rfl];exact⟨n,p,rfl,Array.Perm.refl _,a,by lia,c⟩
  |false =>
   rw[Zs<|by decide];have f:∀k,0<=k->k<n->kn key p k=kn key p (n-1):=fun k _ y =>
    O.lV _ _ (TO.trans q<|c 0 k (by lia) y) (c k (n-1) (by lia)<|by lia)
   have x:=IQ (key:=key) (p:=p) (i:=0) (j:=n) (by lia) f;have v:Down O key p n:=fun i j l o=>by
    rw[f i (by lia)<|by lia,f j (by lia) o];exact O.refl _
   obtain⟨m,p',w,r,s,t,u⟩:=Xy (O:=O) (key:=key) (p:=kas_rev p 0 n) (n:=n) (Ds:=Ds) (by lia) (by rwa[(xF p _ _).size_eq]) ((v.snoc a<|TO.of_lt h).oE x);exact⟨m,p',w,r.trans<|xF _ _ _,s,t,u⟩
 ·rw[Zs g];have g:n=1:=by lia
  subst g;exact Xy (by lia) hz (Down.snoc (Zd _) (fun i j l o=>by
   have:i=j:=by lia
   subst this;exact O.refl _)<|TO.of_lt h)
theorem Gc (hs:Up O key p k):∀(f l r:Nat),l<=r->r<=k->r-l<=f->(∀i,i<l->O.le (kn key p i) (kn key p k))->(∀i,r<=i->i<k->O.lt (kn key p k) (kn key p i)=true) ->
  ∃m,run (fun i j=>O.lt (key i)<|key j) (kas_place p k f l r)=m/\m<=k/\(∀i,i<m->O.le (kn key p i) (kn key p k))/\(∀i,m<=i->i<k->O.lt (kn key p k) (kn key p i)=true)
 | 0,l,r,h1,h2,h3,h4,h5=>⟨l,rfl,by lia,h4,fun i c b=>h5 i (by lia) b⟩
 |f+1,l,r,h1,h2,h3,h4,h5=>by
  unfold kas_place
  by_cases z:l≥r
  ·rw[Zt z];exact⟨l,rfl,by lia,h4,fun i c b=>h5 i (by lia) b⟩
  rw[Zs z];show∃m,run _ (if O.lt (kn key p k) (kn key p<|(l+r) / 2)=true then kas_place p k f l ((l+r) / 2) else kas_place p k f ((l+r) / 2+1) r)=m/\_;cases q:O.lt (kn key p k) (kn key p<|(l+r) / 2) with
  |true =>
   rw[Zt rfl];refine Gc hs f l ((l+r) / 2) (by lia) (by lia) (by lia) h4 fun i c b=>?_;cases w:O.lt (kn key p k) (kn key p i) with
   |true=>rfl
   |false =>
    have:=O.lH _ _ _ (hs _ _ c b) w;rw[q]at this;exact this.symm
  |false =>
   rw[Zs<|by decide];exact Gc hs f ((l+r) / 2+1) r (by lia) (by lia) (by lia) (fun i c=>TO.trans (hs i ((l+r) / 2) (by lia)<|by lia) q) h5
theorem Ba {p:Array Nat}{k l:Nat}(b:k<p.size)(hl:l<=k)(i:Nat):kn key (bubble p k<|k-l) i=if i=l then kn key p k else if l<i/\i<=k then kn key p (i-1) else kn key p i:=by
 have e:=getElem?_bubble b (k-l) (by lia) i;rw[show k-(k-l)=l by lia]at e
 by_cases z:i=l
 ·rw[Zt z]at e ⊢;exact FZ e
 ·rw[Zs z]at e ⊢
  by_cases z:l<i/\i<=k
  ·rw[Zt z]at e ⊢;exact FZ e
  ·rw[Zs z]at e ⊢;exact FZ e
theorem O3:∀(f:Nat) (p:Array Nat) (k:Nat),k+f<=p.size->Up O key p k->∃p',run (fun i j=>O.lt (key i)<|key j) (kas_bin f p k)=p'/\p'.Perm p/\Up O key p' (k+f)
 | 0,p,k,_,h=>⟨p,rfl,Array.Perm.refl _,h⟩
 |f+1,p,k,hz,h=>by
  obtain⟨m,e,a,b,c⟩:=Gc h k 0 k (by lia) (Zd _) (by lia) (fun i q=>by lia) (fun i s t=>by lia);have o:Up O key (bubble p k<|k-m) (k+1):=fun i j n r=>by
   rw[Ba (by lia) a,Ba (by lia) a]
   repeat' split
   all_goals first
    |(exfalso;lia)
    |exact O.refl _
    |exact b _ (by lia)
    |exact TO.of_lt (c _ (by lia)<|by lia)
    |exact h _ _ (by lia) (by lia)
  obtain⟨p',l,d,g⟩:=O3 f (bubble p k<|k-m) (k+1) (by rw[bubble_size];lia) o;unfold kas_bin;rw[run_bind,e];exact⟨p',l,d.trans<|bubble_perm _ _ _,by rw[show k+(f+1)=k+1+f by lia];exact g⟩
theorem NX {n:Nat}(q:1<=n):∃p',run (fun i j=>O.lt (key i)<|key j) (kas_sort n)=p'/\p'.Perm (EY<|EC n)/\Up O key p' n:=by
 have h:(EY<|EC n).size=n:=by simp
 obtain⟨m,p',e,a,b,c,d⟩:=O7 (O:=O) (key:=key) (p:=EY<|EC n) (Ds:=n) q<|JQ h.symm;unfold kas_sort;rw[run_bind,e];show∃f,run _ (if m<n then kas_bin (n-max m 1) p' (max m 1) else KasT.ret p')=f/\_;have em:max m 1=m:=by lia
 rw[em]
 by_cases z:m<n
 ·rw[Zt z];obtain⟨f,o,l,g⟩:=O3 (n-m) p' m (by rw[a.size_eq,h];lia) d;exact⟨f,o,l.trans a,by rw[show m+(n-m)=n by lia]at g;exact g⟩
 ·rw[Zs z];have z:m=n:=by lia
  rw[z]at d;exact⟨p',rfl,a,d⟩
end
def Asks (n:Nat){c:Type}(R:c->Prop):KasT c->Prop
 | .ret a=>R a
 | .ask i j k=>i<n/\j<n/\∀b,Asks n R<|k b
theorem Asks.bind {c g:Type}{R:c->Prop}{d:g->Prop}{f:c->KasT g}(e:∀a,R a->Asks n d (f a)):∀{t:KasT c},Asks n R t->Asks n d (t.bind f)
 | .ret a,h=>e a h
 | .ask i j k,h=>⟨h.1,h.2.1,fun b=>Asks.bind e<|h.2.2 b⟩
theorem Asks.wp {n:Nat}{c:Type}{R:c->Prop}{b:Nat->Nat->(Bool->Dh)->Dh}{lt:Nat->Nat->Bool}{s:Em}(d:∀i j,i<n->j<n->∀C:Bool->Dh,C (lt i j) s->b i j C s){Q:c->Dh} :
  ∀{t:KasT c},Asks n R t->Q (run lt t) s->t.kasWp b Q s
 | .ret _,_,q=>q
 | .ask i j k,h,q=>d i j h.1 h.2.1 _<|Asks.wp d (h.2.2 _) q
def Bd (n:Nat)(p:Array Nat):Prop:=∀i:Nat,p.getD i 0<n
theorem Bd.perm {q:Array Nat}(h:Bd n p)(e:q.Perm p):Bd n q:=fun i=>by
 rw[ZE]
 rcases VD i q.size with z|z
 ·rw[VE q i z];have d:q[i]∈p:=e.mem_iff.mp<|Array.getElem_mem z;obtain⟨j,c,b⟩:=Array.getElem_of_mem d;have:=h j;rw[ZE,VE p j c,b]at this;exact this
 ·rw[Y4 z];have:=h p.size;rw[ZE,Y4<|Zd _]at this;exact this
theorem IG (h:Bd n p):∀f m:Nat,Asks n (fun _=>True) (kas_asc p f m)
 | 0,m=>trivial
 | f+1,m=>⟨h _,h _,fun c=>by
  show Asks n _ (if c=true then KasT.ret m else kas_asc p f (m+1))
  split
  ·trivial
  ·exact IG h f (m+1)⟩
theorem kU:∀(f:Nat) (p:Array Nat) (m q:Nat),Bd n p->Asks n (fun r=>Bd n r.1) (kas_desc f p m q)
 | 0,p,m,q,h=>h
 | f+1,p,m,q,h=>⟨h _,h _,fun c=>by
  cases c with
  |true =>
   show Asks n _ (if q>0 then kas_desc f (kas_rev p (m-(q+1)) m) (m+1) 0 else kas_desc f p (m+1) 0)
   split
   ·exact kU f _ _ _ (h.perm<|xF _ _ _)
   ·exact kU f _ _ _ h
  |false =>
   refine⟨h _,h _,fun d=>?_⟩;cases d with
   |true=>exact h
   |false=>exact kU f _ _ _ h⟩
theorem IN {m r:Nat}(h:Bd n p):Asks n (fun r=>Bd n r.2) (kas_tail3 m r p):=by
 have b:Bd n (kas_rev p 0 m):=h.perm<|xF _ _ _;unfold kas_tail3;refine Asks.bind (fun a _=>?_)<|IG b _ _;exact b
theorem kJ {m r:Nat}(h:Bd n p):Asks n (fun r=>Bd n r.2) (kas_descPart m r p):=by
 refine Asks.bind (fun a b=>?_)<|kU _ _ _ _ h;show Asks n _ (if a.2.2>0 then _ else _)
 split
 ·exact IN (Bd.perm b<|xF _ _ _)
 ·exact IN b
theorem Kx {r:Nat}(h:Bd n p):Asks n (fun r=>Bd n r.2) (kas_count r p):=by
 refine Asks.bind (fun a _=>?_)<|IG h _ _;show Asks n _ (if(a==r)=true then _ else _)
 split
 ·exact h
 ·split
  ·refine⟨h _,h _,fun c=>?_⟩;cases c with
   |true=>exact h
   |false=>exact kJ<|h.perm<|xF _ _ _
  ·exact kJ h
theorem uA {k:Nat}(h:Bd n p):∀f l r:Nat,Asks n (fun _=>True) (kas_place p k f l r)
 | 0,l,r=>trivial
 |f+1,l,r=>by
  unfold kas_place
  split
  ·trivial
  ·refine⟨h _,h _,fun c=>?_⟩;cases c with
   |true=>exact uA h f _ _
   |false=>exact uA h f _ _
theorem Fy:∀(f:Nat) (p:Array Nat) (k:Nat),Bd n p->Asks n (fun r=>Bd n r) (kas_bin f p k)
 | 0,p,k,h=>h
 |f+1,p,k,h=>Asks.bind (fun l _=>Fy f _ _<|h.perm<|bubble_perm _ _ _) (uA h _ _ _)
theorem Be {n:Nat}(c:1<=n):Asks n (fun r=>Bd n r) (kas_sort n):=by
 have h:Bd n (EY<|EC n):=fun i=>by
  rw[ZE,VM]
  rcases VD i n with z|z
  ·rwa[V9 z]
  ·rw[Yf<|by rwa[Z8]];exact c
 refine Asks.bind (fun a b=>?_)<|Kx h;show Asks n _ (if a.1<n then _ else _)
 split
 ·exact Fy _ _ _ b
 ·exact b
end AxK
namespace L2
open PySem PyProof.Rows
mutual
def W4:Er->Er->Bool->Prop
 | .int a,.int b,r=>r=decide (a<b)
 | .str a,.str b,r=>r=decide (a.cps.toList<b.cps.toList)
 | .tuple xs,.tuple ys,r=>Tn xs ys r
 |_,_,_=>False
def Tn:Df->Df->Bool->Prop
 |[],ys,r=>r=decide (0<ys.length)
 |_::_,[],r=>r=false
 |x::xs,y::ys,r=>(EH x y=true/\Tn xs ys r)\/(EH x y=false/\W4 x y r)
end
section
variable {prog:Ek}{w:Eo}
def M0 (prog:Ek)(w:Eo)(A:EF)(r:Bool)(b:Bool)(s:Em):List (Ei×Ei)->Prop
 |[]=>b=r
 |p::l=>(∀(Q:Bool->Dh) (E:Ei->Dh),Q true s->El (Ep prog w) A (eqBool p.1 p.2) Q E s)/\M0 prog w A r b s l \/
  (∀(Q:Bool->Dh) (E:Ei->Dh),Q false s->El (Ep prog w) A (eqBool p.1 p.2) Q E s) /\
  (∀(Q:Ei->Dh) (E:Ei->Dh),Q (.bool r) s->El (Ep prog w) A (Me .Lt p.1 p.2) Q E s)
theorem GC {A:EF}{E:Ei->Dh}{s:Em}{a b:Ej}{t g:Obj}{xs ys:Array Ei}{y z:Nat}{r:Bool}{P:Fin->Dh}
  (q:s.heap.get? a=some t) (o:t.data=.seq xs y) (f:s.heap.get? b=some g) (n:g.cls=.type "tuple") (p:g.data=.seq ys z)
  (x:M0 prog w A r (decide (xs.size<ys.size)) s (xs.toList.zip ys.toList)) (h:P (.done<|.ret<|.bool r) s) :
  El (Ep prog w) A (Builtin.«tuple.__lt__» ⟨[.ref a,.ref b],[]⟩) P E s:=by
 have j:s.TypeIs (.ref b) "tuple":=⟨g,f,n⟩;show El _ _ (isInstance (.ref b) (.type "tuple")>>=_) _ _ s;refine Q4<|Y0 j isSubtype_tuple_tuple ?_;simp only[Vm,ZU,Js];refine Q4<|Ue q o<|Q4<|Ue f p<|Q4 ?_;refine Vi _ (fun d c i=>c.1=none/\i=s/\M0 prog w A r (decide (xs.size<ys.size)) s d) _ ?_ ?_ _ _ ⟨rfl,rfl,x⟩
 ·rintro⟨u,v⟩ d c i ⟨l,rfl,e⟩
  rcases e with⟨h1,h2⟩|⟨h1,h2⟩
  ·refine Q4 (h1 _ _ ?_);simp only[Vm,ZU,Js];exact Q7 ⟨rfl,rfl,h2⟩
  ·refine Q4 (h1 _ _ ?_);simp only[Bool.not_false,if_true];refine Q4<|JH<|Q4<|h2 _ _<|Q4<|Q7<|Q7 ?_;exact Q7 h
 ·rintro⟨B,C⟩ i ⟨l,rfl,e⟩;simp only at l;subst l;refine Q7 ?_;have e:decide (xs.size<ys.size)=r:=e;show P (.done<|.ret<|.bool<|decide (xs.size<ys.size)) i;rwa[e]
def OY (prog:Ek)(w:Eo)(d:Er):Prop:=∀(e:Er) (r:Bool) (A:EF) (s:Em) (a b:Ei) (c bs:Dd),Reads s.heap a d c->Reads s.heap b e bs->d.canLay0=true->e.canLay0=true->A.units+min d.depth e.depth<Lc->W4 d e r ->
  ∀(Q:Ei->Dh) (E:Ei->Dh),Q (.bool r) s->El (Ep prog w) A (Me .Lt a b) Q E s
def Fs (prog:Ek)(w:Eo)(xs:Df):Prop:=∀(b:Df) (r:Bool) (A:EF) (s:Em) (d c:Db) (e bs:Dd),LN s.heap d xs e->LN s.heap c b bs->Ev xs=true->Ev b=true->A.units+min (EG xs) (EG b)<Lc->Tn xs b r ->
  ∀k:Nat,M0 prog w A r (decide (k+d.length<k+c.length)) s (d.zip c)
theorem OD (i:Int):OY prog w (.int i):=by
 intro e r A s a b f bs c d _ _ _ h Q E q;cases e with
 |int j =>
  cases c;cases d;cases(show r=_ from h);exact(lt_int q:El _ _ (EZ .Lt _ _) _ _ _)
 |_=>exact EL h
theorem OE (i:Str):OY prog w (.str i):=by
 intro e r A s a b f bs c d _ _ _ h Q E q;cases e with
 |str j =>
  cases c;cases d;cases(show r=_ from h);exact(lt_str q:El _ _ (EZ .Lt _ _) _ _ _)
 |_=>exact EL h
theorem OF (i:Fs prog w xs):OY prog w (.tuple xs):=by
 intro e r A s a b n bs j l f g d h Q E q;cases e with
 |tuple ys =>
  cases j with
  |tuple h1 h2 h3 h4 =>
   cases l with
   |tuple k1 k2 k3 k4 =>
    have c:=i ys r A.in1 s _ _ _ _ h4 k4 f g (SeqAt.room_in d) h 0;rw[JX,JX,Zw,Zw]at c;exact J8 (op:=.Lt) ⟨_,h1,h2⟩ ⟨_,k1,k2⟩ F.slot_tuple_lt
     (Ys F.slot_tuple_lt ⟨_,h1,h2⟩ F.entry_tuple_lt (GC h1 h3 k1 k2 k3 (r:=r) c ⟨_,rfl,(fun e=>nomatch e),q⟩)<|F.args_tuple_lt_2 _ _) (SeqAt.room_here d)
 |_=>exact EL h
theorem SA:Fs prog w []:=by
 intro f r A s i b g bs c d _ _ _ h k;cases c;have e:b.length=f.length:=SeqAt.ReadsAll.length _ _ _ d;rw[List.zip_nil_left];show decide (k+0<k+b.length)=r;rw[show r=_ from h,e];exact Vj.mpr (by lia)
theorem P4 (p:OY prog w x)(t:Fs prog w xs):Fs prog w (x::xs):=by
 intro f r A s j i C bs n o z B l h k;cases f with
 |nil =>
  cases o;cases n;rw[List.zip_nil_right];show decide (k+_<k+0)=r;rw[show r=_ from h];exact Zo (by lia)
 |cons y f =>
  have b:x.canLay0=true/\Ev xs=true:=by simpa[Ev] using z
  have c:y.canLay0=true/\Ev f=true:=by simpa[Ev] using B
  have d:A.units+min x.depth y.depth<cLine:=SeqAt.room_head l;have g:A.units+min (EG xs) (EG f)<cLine:=SeqAt.room_tail l;cases n with
  | @cons v j _ _ _ _ p1 p2 =>
   cases o with
   | @cons u i _ _ _ _ q1 q2 =>
    rw[List.zip_cons_cons];have h:(EH x y=true/\Tn xs f r)\/(EH x y=false/\W4 x y r):=h
    rcases h with⟨e,h⟩|⟨e,h⟩
    ·refine .inl ⟨fun Q E q=>LX prog w A E s _ _ _ _ _ _ Q p1 q1 b.1 c.1 d<|by rwa[e],?_⟩;have D:=t f r A s _ _ _ _ p2 q2 b.2 c.2 g h<|k+1;rwa[Zn,Zn,show k+(j.length+1)=k+1+j.length by lia,show k+(i.length+1)=k+1+i.length by lia]
    ·exact .inr ⟨fun Q E q=>LX prog w A E s _ _ _ _ _ _ Q p1 q1 b.1 c.1 d<|by rwa[e],fun Q E q=>p y r A s _ _ _ _ p1 q1 b.1 c.1 d h Q E q⟩
mutual
theorem PZ:∀d:Er,OY prog w d
 | .int i=>OD i
 | .str i=>OE i
 | .tuple xs=>OF<|P0 xs
 | .none=>fun e r A s a b c bs f g _ _ _ h=>EL h
 | .bool _=>fun e r A s a b c bs f g _ _ _ h=>EL h
 | .list _=>fun e r A s a b c bs f g _ _ _ h=>EL h
 | .dict _=>fun e r A s a b c bs f g _ _ _ h=>EL h
theorem P0:∀xs:Df,Fs prog w xs
 |[]=>SA
 |x::xs=>P4 (PZ x)<|P0 xs
end
end
end L2
namespace L2
open PySem PySem.Spec PyProof.Rows PySem.W AxK
section
variable {prog:Ek}{w:Eo}{A:EF}{E:Ei->Dh}{s:Em}
theorem MQ {a:Ej}{vs:Db}{n:Nat}{κ:SortKind}{lt:Nat->Nat->Bool}{P:PySem.Fin->Dh}(x:s.heap.get? a=some (EQ "list" vs.toArray n))(y:vs.length<64)
  (M:2<=vs.length->∀s1:Em,(∀b o,b≠a->s.heap.get? b=some o->s1.heap.get? b=some o)->(∀(Q:SortKind->Dh) (E':Ei->Dh),Q κ s1->El (Ep prog w) A (keyKind' vs.toArray) Q E' s1) /\ ∀i j,i<vs.length->j<vs.length->∀C:Bool->Dh,C (lt i j) s1->kas_ask prog w A κ vs i j C s1)
  (h:∀p:Array Nat,(vs.length<2/\p=EY (EC vs.length))\/(2<=vs.length/\p=run lt (kas_sort vs.length))->P (.done<|.ret .none) { s with heap:=sortedHeap s.heap a vs (EY<|p.toList.map fun i=>vs.getD i EI) }) :
  El (Ep prog w) A (Builtin.«list.sort» ⟨[.ref a],[]⟩) P E s:=by
 have T:a<s.heap.objs.size:=Zl x;have S:=EM s.heap a<|EO fun _=>(#[]:Array Ei);obtain⟨n1,t⟩:∃H,(s.heap.update a<|EO fun _=>(#[]:Array Ei)).get? a=some (EQ "list" #[] H):=⟨_,get?_update_seq x fun _=>#[]⟩;have d:(((s.heap.update a<|EO fun _=>(#[]:Array Ei)).push (EQ "tuple" vs.toArray 0)).push (EQ "list" #[] 0)).get? a=some (EQ "list" #[] n1):=Q8 _<|Q8 _ t;have keep:∀b o,b≠a->s.heap.get? b=some o->(((s.heap.update a<|EO fun _=>(#[]:Array Ei)).push (EQ "tuple" vs.toArray 0)).push (EQ "list" #[] 0)).get? b=some o:=fun b o K q =>
  Q8 _ (Q8 _<|by rwa[Ua _ _ _ _ K])
 have c:vs.toArray.size=vs.length:=by simp
 rw[list_sort_plain];refine Q4 (listItems_at x rfl<|Q4<|J2 x rfl (Q4<|seqEpoch_at t rfl<|Q4<|Uf (Q4<|VX (ZW ?_)<|ZD _) (by show vs.length<=_;rw[Ym];lia)) (by rw[Zp,Ym];lia)<|ZD _);show El (Ep prog w) A _ P E { s with heap:=((s.heap.update a<|EO fun _=>#[]).push<|EQ "tuple" vs.toArray 0).push (EQ "list" #[] 0) };dsimp only
 by_cases J:vs.length<2
 ·have r:=h (EY<|EC vs.length)<|.inl ⟨J,rfl⟩;have I:(EY<|(EY<|EC vs.length).toList.map fun i=>vs.getD i EI)=(vs.toArray.zip vs.toArray).map (·.2):=by
   have e:=kas_range<|vs.toArray.zip vs.toArray;rw[show(vs.toArray.zip vs.toArray).size=vs.length by simp]at e;exact(kat_snds (ks:=vs) (vs:=vs) (st:=SortSt.mk' general' (vs.toArray.zip vs.toArray) #[] 7 none) rfl e.symm).symm
  rw[I]at r;rw[Zt<|by rwa[c],Zt<|by rwa[c]];refine Q4<|Q7 ?_;rw[StateT.run_pure];refine Q4<|Q7 ?_;dsimp only;refine Q4 (seqEpoch_at d rfl<|Q4<|J2 d rfl ?_ (ZD _) (by rw[VF,Array.size_zip,c,Nat.min_self,Ym];lia));simp only[bne_self_eq_false,ZU,Js];exact Q7 r
 ·have l:2<=vs.length:=by lia
  rw[Zs<|by rwa[c],Zs<|by rwa[c]];obtain⟨O,R⟩:=M l { s with heap:=((s.heap.update a<|EO fun _=>(#[]:Array Ei)).push (EQ "tuple" vs.toArray 0)).push (EQ "list" #[] 0) } keep;refine Q4<|O _ _ ?_;have g:(kas_sort vs.length).kasWp (kas_ask prog w A κ vs) (fun p v=>p=run lt (kas_sort vs.length)/\v={ s with heap:=((s.heap.update a<|EO fun _=>(#[]:Array Ei)).push (EQ "tuple" vs.toArray 0)).push (EQ "list" #[] 0) })
    { s with heap:=((s.heap.update a<|EO fun _=>(#[]:Array Ei)).push (EQ "tuple" vs.toArray 0)).push (EQ "list" #[] 0) }:=(Be<|by lia).wp R ⟨rfl,rfl⟩
  refine Q4 (Yg (kat_run (Q:=fun f v=>arrOf f=(run lt<|kas_sort vs.length).map (kas_item<|vs.toArray.zip vs.toArray)/\failedOf f=none/\(run lt<|kas_sort vs.length).size=vs.length/\v={ s with heap:=((s.heap.update a<|EO fun _=>(#[]:Array Ei)).push (EQ "tuple" vs.toArray 0)).push (EQ "list" #[] 0) }) rfl l y (fun U f v B D F G=>by obtain⟨rfl,rfl⟩:=G;exact⟨D,F,B,rfl⟩) g) ?_ fun _ _ e=>e)
  rintro⟨⟨⟩,f⟩ v ⟨z,L,N,rfl⟩;dsimp only;have u:=kat_snds rfl z;rw[u];refine Q4 (seqEpoch_at d rfl<|Q4<|J2 d rfl ?_ (ZD _) (by rw[Zp,Q5,Zw,N,Ym];lia));rw[L];simp only[bne_self_eq_false,ZU,Js];exact Q7<|h _<|.inr ⟨l,rfl⟩
def IY (T:String):Er->Prop
 | .tuple (.int _::_)=>T="int"
 | .tuple (.str _::_)=>T="str"
 | .tuple (.tuple _::_)=>T="tuple"
 |_=>False
def TU (h h':EB)(d:Er):Prop:=∀(v:Ei) (b:Dd),d.canLay0=true->Reads h v d b->Reads h' v d b
def R0 (h h':EB)(b:Df):Prop:=∀(d:Db) (c:Dd),Ev b=true->LN h d b c->LN h' d b c
mutual
theorem MK {h h':EB}(k:∀b o,h.get? b=some o->h'.get? b=some o):∀d:Er,TU h h' d
 | .none=>fun v c _ r=>by cases r;exact .none
 | .bool _=>fun v c _ r=>by cases r;exact .bool _
 | .int _=>fun v c _ r=>by cases r;exact .int _ _
 | .str _=>fun v c _ r=>by cases r;exact .str _ _
 | .list xs=>fun v c l r=>by
  have e:=x4 k xs;cases r with
  |list h1 h2 h3 h4=>exact .list (k _ _ h1) h2 h3<|e _ _ l h4
 | .tuple xs=>fun v c l r=>by
  have e:=x4 k xs;cases r with
  |tuple h1 h2 h3 h4=>exact .tuple (k _ _ h1) h2 h3<|e _ _ l h4
 | .dict Dm=>fun v c l r=>nomatch l
theorem x4 {h h':EB}(k:∀b o,h.get? b=some o->h'.get? b=some o):∀ds:Df,R0 h h' ds
 |[]=>fun g c _ r=>by cases r;exact .nil
 |d::ds=>fun g c l r=>by
  have e:=MK k d;have f:=x4 k ds;have l:d.canLay0=true/\Ev ds=true:=by simpa[Ev] using l
  cases r with
  |cons h1 h2=>exact .cons (e _ _ l.1 h1)<|f _ _ l.2 h2
end
theorem By {h:EB}:∀{ds:Df} {us:Db} {as:Dd},LN h us ds as->(∀d∈ds,IY T d)->∃fs:Db,fs.length=ds.length/\KatTups h us fs/\∀v∈fs,(T="int"/\∃i t,v=.int i t)\/(T="str"/\∃i t,v=.str i t)\/(T="tuple"/\∃a o,v=.ref a/\h.get? a=some o/\o.cls=.type "tuple")
 |[],_,_,r,_=>by
  cases r;exact⟨[],rfl,KatTups.nil,fun v b=>(nomatch b)⟩
 |d::ds,_,_,r,hf=>by
  cases r with
  |cons r1 r2 =>
   obtain⟨fs,e,f,g⟩:=By r2 fun x j=>hf x<|Q9 _ j;have hd:=hf d<|Zc ..;unfold IY at hd
   split at hd
   all_goals first
    |exact hd.elim
    | (cases r1 with
     |tuple h1 h2 h3 h4 =>
      rename_i c nx;cases q:c.toList with
      |nil=>rw[q]at h4;cases h4
      |cons v0 vr =>
       rw[q]at h4;have p:c[0]?=some v0:=by rw[←Z0,q];rfl
       cases h4 with
       |cons g1 g2 =>
        refine⟨v0::fs,by rw[Zn,Zn,e],KatTups.cons h1 h2 h3 p f,fun v b=>?_⟩
        rcases Zh.mp b with rfl|b
        ·cases g1
         first
          |exact .inl ⟨hd,_,_,rfl⟩
          |exact .inr (.inl ⟨hd,_,_,rfl⟩)
          |(rename_i l n s u;exact .inr<|.inr ⟨hd,_,_,rfl,l,n⟩)
        ·exact g v b)
theorem Sv {b:Df}{us:Db}{as:Dd}(r:LN s.heap us b as)(f:∀d∈b,IY T d)(j:0<b.length){Q:SortKind->Dh}(q:Q (tuples'<|E3 T !=E3 "tuple") s) :
  El (Ep prog w) A (keyKind' us.toArray) Q E s:=by
 obtain⟨fs,h,c,e⟩:=By r f;refine kat_kind c (by lia) (T:=.type T) (fun v g=>?_) (by simp) q
 rcases e v g with⟨rfl,i,t,rfl⟩|⟨rfl,i,t,rfl⟩|⟨rfl,a,o,rfl,ho,hc⟩
 ·exact .now
 ·exact .now
 ·rw[←hc];exact(Looks.ld ho).andThen .now
def TW (x y:Er):Prop:=(∃i j,x=.int i/\y=.int j)\/(∃i j,x=.str i/\y=.str j)
theorem Wm {b:Bool}{Q:Bool->Dh}{r:Bool}(q:Q r s)(xs:Df):∀(ys:Df) (vs us:Db) (as bs:Dd) (i k:Nat),LN s.heap vs xs as->LN s.heap us ys bs->Ev xs=true->Ev ys=true->A.units+min (EG xs) (EG ys)<Lc ->
  Tn xs ys r->(b=true->i=0->∀x xs' y ys',xs=x::xs'->ys=y::ys'->TW x y)->KatLex prog w A b (decide (k+vs.length<k+us.length)) Q (vs.zip us) i s:=by
 induction xs with
 |nil =>
  intro ys vs us as bs i k j l _ _ _ h _;cases j;have e:us.length=ys.length:=SeqAt.ReadsAll.length _ _ _ l;rw[List.zip_nil_left];show Q (decide (k+0<k+us.length)) s;rw[show decide (k+0<k+us.length)=r by rw[show r=_ from h,e];exact Vj.mpr<|by lia];exact q
 |cons x xs t =>
  intro ys vs us as bs i k j l C D p h B;cases ys with
  |nil =>
   cases l;cases j with
   | @cons v vs _ _ _ _ p1 p2 =>
    rw[List.zip_nil_right];show Q (decide (k+(vs.length+1)<k+0)) s;rw[show decide (k+(vs.length+1)<k+0)=r by rw[show r=_ from h];exact Zo<|by lia];exact q
  |cons y ys =>
   have d:x.canLay0=true/\Ev xs=true:=by simpa[Ev] using C
   have f:y.canLay0=true/\Ev ys=true:=by simpa[Ev] using D
   have g:A.units+min x.depth y.depth<cLine:=SeqAt.room_head p;have n:A.units+min (EG xs) (EG ys)<cLine:=SeqAt.room_tail p;cases j with
   | @cons v vs _ _ _ _ p1 p2 =>
    cases l with
    | @cons u us _ _ _ _ q1 q2 =>
     rw[List.zip_cons_cons];refine kat_cons ?_;have h:(EH x y=true/\Tn xs ys r)\/(EH x y=false/\W4 x y r):=h
     rcases h with⟨e,h⟩|⟨e,h⟩
     ·refine LX prog w A _ s _ _ _ _ _ _ _ p1 q1 d.1 f.1 g ?_;rw[e];refine kat_yes ?_;have t:=t ys vs us _ _ (i+1) (k+1) p2 q2 d.2 f.2 n h (fun _ z=>by lia);rwa[Zn,Zn,show k+(vs.length+1)=k+1+vs.length by lia,show k+(us.length+1)=k+1+us.length by lia]
     ·refine LX prog w A _ s _ _ _ _ _ _ _ p1 q1 d.1 f.1 g ?_;rw[e];refine kat_no ?_;cases c:(b&&i==0) with
      |true =>
       have o:b=true/\i=0:=by simpa using c
       rcases B o.1 o.2 x xs y ys rfl rfl with⟨i1,j1,rfl,rfl⟩|⟨i1,j1,rfl,rfl⟩
       ·cases p1;cases q1;refine kat_lt_int ?_;rwa[←(show r=_ from h)]
       ·cases p1;cases q1;refine kas_lt_str ?_;rwa[←(show r=_ from h)]
      |false=>exact kat_one _ _<|PZ x y r A s _ _ _ _ p1 q1 d.1 f.1 g h _ _ q
theorem Ox {d e:Er}{u v:Ei}{as bs:Dd}{C:Bool->Dh}(p:Reads s.heap u d as)(q:Reads s.heap v e bs)(g:IY T d)(f:IY T e)(ld:d.canLay0=true)(le:e.canLay0=true)(o:A.units+min d.depth e.depth<Lc)(h:W4 d e r)(c:C r s) :
  El (Ep prog w) A (keyLt' (tuples'<|E3 T !=E3 "tuple") u v) C (fun _ _=>False) s:=by
 cases d with
 |tuple xs =>
  cases e with
  |tuple ys =>
   cases p with
   |tuple h1 h2 h3 h4 =>
    cases q with
    |tuple k1 k2 k3 k4 =>
     refine kat_lt h1 h3 k1 k3 ?_;have:=Wm (prog:=prog) (w:=w) (A:=A) (b:=(E3 T !=E3 "tuple")) c xs ys _ _ _ _ 0 0 h4 k4 ld le (by
      have i:(PyData.tuple xs).depth=EG xs+1:=rfl;have j:(PyData.tuple ys).depth=EG ys+1:=rfl;rw[i,j]at o;lia) h (fun n _ x t y z ex l=>by
      subst ex l;unfold IY at g f
      split at g
      ·rename_i e;cases e
       split at f
       ·rename_i e;cases e;exact .inl ⟨_,_,rfl,rfl⟩
       ·rw[g]at f;exact absurd f (by decide)
       ·rw[g]at f;exact absurd f (by decide)
       ·exact f.elim
      ·rename_i e;cases e
       split at f
       ·rw[g]at f;exact absurd f (by decide)
       ·rename_i e;cases e;exact .inr ⟨_,_,rfl,rfl⟩
       ·rw[g]at f;exact absurd f (by decide)
       ·exact f.elim
      ·subst g;simp at n
      ·exact g.elim)
     simpa using this
  |_=>exact f.elim
 |_=>exact g.elim
end
section
variable {X:Cx}{K:Ca}
theorem Xj:∀{vs:Dj} {us:Db},yr vs us->∀(p:List Nat),(∀i∈p,i<vs.length)->yr (p.map fun i=>vs.getD i .non) (p.map fun i=>us.getD i EI)
 |vs,us,r,[],_=>.nil
 |vs,us,r,i::p,h=>by
  refine .cons ?_<|Xj r p fun j d=>h j<|Q9 _ d;have c:=h i<|Zc ..;have go:∀{vs:Dj} {us:Db} (i:Nat),yr vs us->i<vs.length->yq (vs.getD i .non) (us.getD i EI):=fun{vs us} i r c=>by
   induction i generalizing vs us with
   |zero =>
    cases r with
    |nil=>exact absurd c<|Vq _
    |cons a b=>exact a
   |succ i ih =>
    cases r with
    |nil=>exact absurd c<|Vq _
    |cons a b=>exact ih b (by simpa using c)
  exact go i r c
theorem Ng (h:zy K H ds vs):∀(p:List Nat),(∀i∈p,i<vs.length)->zy K H (p.map fun i=>ds.getD i .none) (p.map fun i=>vs.getD i .non)
 |[],_=>rfl
 |i::p,hp=>by
  have b:=hp i<|Zc ..;obtain⟨d,c,f⟩:=h.get<|Zb b;refine⟨vs.getD i .non,_,rfl,?_,Ng h p fun j e=>hp j<|Q9 _ e⟩;show Dt K H (ds.getD i .none) (vs.getD i .non);rwa[ZY,ZY,c,Zb b]
theorem Xi {h:EB}:∀{ds:Df} {us:Db} {as:Dd} (i:Nat),LN h us ds as->i<ds.length->∃bs,Reads h (us.getD i EI) (ds.getD i .none) bs
 |[],_,_,i,_,hi=>absurd hi<|Vq _
 |d::ds,_,_,0,r,_=>by
  cases r with
  |cons r1 r2=>exact⟨_,r1⟩
 |d::ds,_,_,i+1,r,hi=>by
  cases r with
  |cons r1 r2=>exact Xi i r2 (by simpa using hi)
theorem Rs {b:Type}{l:List b}{z:b}:(EC l.length).map (fun i=>l.getD i z)=l:=by
 apply VC
 intro i;rw[Zj]
 rcases VD i l.length with q|q
 ·rw[V9 q,Zb q];simp[ZY,Zb q]
 ·rw[Yf<|by rwa[Z8],Yf q];rfl
end
end L2
namespace AxS
open PySem PySem.Spec PyProof.Rows
def f5 (N i:Nat):Nat:=(i*5+1) % N
def OJ (N:Nat):Nat->Nat->Nat
 | 0,i=>i
 |k+1,i=>OJ N k<|f5 N i
theorem XU (N:Nat):∀(a b i:Nat),OJ N (a+b) i=OJ N b (OJ N a i)
 | 0,b,i=>by rw[JX];rfl
 |a+1,b,i=>by
  rw[show a+1+b=(a+b)+1 by lia];show OJ N (a+b) (f5 N i)=OJ N b (OJ N a<|f5 N i);exact XU N a b<|f5 N i
def Ww (N:Nat):Nat->Nat->List Nat
 | 0,_=>[]
 |n+1,i=>i::Ww N n (f5 N i)
theorem Hq:∀{n i s:Nat},s∈Ww N n i->∃k,k<n/\OJ N k i=s
 |n+1,i,s,h=>by
  rcases Zh.mp h with rfl|h
  ·exact⟨0,by lia,rfl⟩
  ·obtain⟨k,b,e⟩:=Hq h;exact⟨k+1,by lia,e⟩
structure Full (N:Nat):Prop where
 all:∀s,s<N->∃k,k<N/\OJ N k 0=s
 per:OJ N N 0=0
theorem uN {N:Nat}(b:(EC N).all (fun s=>(Ww N N 0).contains s)=true)(c:OJ N N 0=0):Full N:=⟨fun s d=>by
 have:=ZI.mp b s<|YV.mpr d;exact Hq<|List.contains_iff_mem.mp this,c⟩
theorem Tu:Full 8:=uN (by decide +kernel) (by decide +kernel)
theorem Wc:Full 16:=uN (by decide +kernel) (by decide +kernel)
theorem Wd:Full 32:=uN (by decide +kernel) (by decide +kernel)
theorem We:Full 64:=uN (by decide +kernel) (by decide +kernel)
theorem Sm:Full 128:=uN (by decide +kernel) (by decide +kernel)
theorem Sn:Full 256:=uN (by decide +kernel) (by decide +kernel)
theorem Full.any (h:Full N){i s:Nat}(e:i<N)(hs:s<N):∃k,k<N/\OJ N k i=s:=by
 obtain⟨a,f,c⟩:=h.all i e;obtain⟨b,g,d⟩:=h.all s hs
 by_cases z:a<=b
 ·refine⟨b-a,by lia,?_⟩;rw[←c,←XU,show a+(b-a)=b by lia,d]
 ·refine⟨N-a+b,by lia,?_⟩;rw[←c,←XU,show a+(N-a+b)=N+b by lia,XU,h.per,d]
section
variable {mask:Nat}{owner:Array (Option Nat)}
theorem BP {i k:Nat}(h:((EC<|LO mask i+1-i).find? fun k=>(owner.getD (i+k)<|some 0).isNone)=some k):owner.getD (i+k) (some 0)=none:=by
 have:=J1 h;exact Option.isNone_iff_eq_none.mp this
theorem GY {i:Nat}(h:((EC<|LO mask i+1-i).find? fun k=>(owner.getD (i+k)<|some 0).isNone)=none):owner.getD i (some 0)≠none:=by
 have:=Vt.mp h 0 (YV.mpr (by unfold LO;split<;>lia));intro z;rw[Nat.add_zero,z]at this;exact this rfl
theorem Om:∀(n fuel i:Nat),(∃k,k<=n/\owner.getD (OJ (mask+1) k i) (some 0)=none)->n<fuel->∃j,SetTable.layClean.free mask owner fuel i 0=some j/\owner.getD j (some 0)=none:=by
 intro n
 induction n with
 |zero =>
  intro fuel i ⟨k,c,e⟩ b;have:k=0:=by lia
  subst this;obtain⟨f,rfl⟩:∃f,fuel=f+1:=⟨fuel-1,by lia⟩;unfold SetTable.layClean.free;cases q:(EC<|LO mask i+1-i).find? fun k=>(owner.getD (i+k)<|some 0).isNone with
  |some k=>exact⟨_,rfl,BP q⟩
  |none=>exact absurd e<|GY q
 |succ n ih =>
  intro fuel i ⟨k,c,e⟩ b;obtain⟨f,rfl⟩:∃f,fuel=f+1:=⟨fuel-1,by lia⟩;unfold SetTable.layClean.free;cases q:(EC<|LO mask i+1-i).find? fun k=>(owner.getD (i+k)<|some 0).isNone with
  |some k=>exact⟨_,rfl,BP q⟩
  |none =>
   cases k with
   |zero=>exact absurd e<|GY q
   |succ k =>
    exact ih f _ ⟨k,by lia,e⟩ (by lia)
theorem Ol (F:Full<|mask+1)(g:∃s,s<mask+1/\owner.getD s (some 0)=none):∀(m fuel i p:Nat),p<32 ^ m->m+(mask+1)<=fuel->i<mask+1->∃j,SetTable.layClean.free mask owner fuel i p=some j/\owner.getD j (some 0)=none:=by
 obtain⟨s,l,d⟩:=g;intro m
 induction m with
 |zero =>
  intro fuel i p c h b;have:p=0:=by lia
  subst this;obtain⟨k,n,e⟩:=F.any b l;exact Om mask fuel i ⟨k,by lia,by rw[e];exact d⟩ (by lia)
 |succ m ih =>
  intro fuel i p c h b;obtain⟨f,rfl⟩:∃f,fuel=f+1:=⟨fuel-1,by lia⟩;unfold SetTable.layClean.free;cases q:(EC<|LO mask i+1-i).find? fun k=>(owner.getD (i+k)<|some 0).isNone with
  |some k=>exact⟨_,rfl,BP q⟩
  |none =>
   refine ih f _ _ ?_ (by lia) (Nat.mod_lt _<|by lia);rw[Nat.pow_succ]at c;exact Nat.div_lt_of_lt_mul (by lia)
end
theorem Sa (h:Int):LD h<32 ^ 13:=by
 unfold LD;have b:0<=h % (2 ^ 64:Int):=Vr _ (by decide);have c:h % (2 ^ 64:Int)<2 ^ 64:=JY _ (by decide);have:(2 ^ 64:Int)<(32 ^ 13:Nat):=by decide
 lia
theorem HV {k:Nat}:∀{l:List (Option Nat)} {j:Nat},l[j]?=some none->((l.set j (some k)).filterMap id).Perm (k::l.filterMap id)
 |x::l,0,h=>by
  have:x=none:=Option.some.inj h;subst this;exact List.Perm.refl _
 |x::l,j+1,h=>by
  have b:=HV (k:=k) (l:=l) (j:=j) h;rw[List.set_cons_succ];cases x with
  |none=>exact b
  |some y =>
   show(y::(l.set j (some k)).filterMap id).Perm (k::y::l.filterMap id);exact(b.cons y).trans (List.Perm.swap ..)
theorem XB:∀{l:List (Option Nat)},(l.filterMap id).length<l.length->∃j,j<l.length/\l[j]?=some none
 |[],h=>absurd h<|Vq _
 |none::l,_=>⟨0,by simp,rfl⟩
 |some x::l,h=>by
  have h:(l.filterMap id).length+1<l.length+1:=h;obtain⟨j,b,e⟩:=XB (l:=l) (by lia);exact⟨j+1,by simp;lia,e⟩
structure Laid (N k:Nat)(owner:Array<|Option Nat):Prop where
 sz:owner.size=N
 pm:(owner.toList.filterMap id).Perm<|EC k
theorem X0 {mask:Nat}(F:Full<|mask+1):∀(hs:List Int) (owner:Array<|Option Nat) (k:Nat),Laid (mask+1) k owner->k+hs.length<=mask->∃owner',Laid (mask+1) (k+hs.length) owner' /\
  (hs.foldl (fun acc h=>do
   let (owner,k) ←acc
   let j ←SetTable.layClean.free mask owner (SetTable.turns mask) (LD h % (mask+1)) (LD h)
   Lo (owner.setIfInBounds j<|some k,k+1)) (some (owner,k)):Option<|Array (Option Nat)×Nat)=some (owner',k+hs.length):=by
 intro hs
 induction hs with
 |nil=>intro owner k L _;exact⟨owner,L,rfl⟩
 |cons h hs ih =>
  intro owner k L p;rw[Zn]at p;have r:=L.pm.length_eq;rw[Z8]at r;have t:owner.toList.length=mask+1:=by rw[Zw];exact L.sz
  obtain⟨s,q,e⟩:=XB (l:=owner.toList) (by lia);have d:owner.getD s (some 0)=none:=by
   rw[Z0]at e;rw[ZE,e];rfl
  obtain⟨j,o,b⟩:=Ol (owner:=owner) F ⟨s,by lia,d⟩ 13 (SetTable.turns mask) (LD h % (mask+1)) (LD h) (Sa h) (by unfold SetTable.turns;lia) (Nat.mod_lt _<|by lia);have f:j<owner.size:=by
   rcases VD j owner.size with z|z
   ·exact z
   ·rw[ZE,Y4 z]at b;cases b
  have g:Laid (mask+1) (k+1) (owner.setIfInBounds j<|some k):=by
   refine⟨by rw[Array.size_setIfInBounds];exact L.sz,?_⟩;rw[Array.toList_setIfInBounds];have c:owner.toList[j]?=some none:=by
    rw[Z0,ZT f];rw[ZE,ZT f]at b;exact congrArg some b
   refine(HV c).trans ((L.pm.cons k).trans ?_);rw[List.range_succ];exact(List.perm_append_singleton k<|EC k).symm
  obtain⟨owner',i,n⟩:=ih (owner.setIfInBounds j<|some k) (k+1) g (by lia);refine⟨owner',by rw[Zn,show k+(hs.length+1)=k+1+hs.length by lia];exact i,?_⟩;rw[JD,Zn,show k+(hs.length+1)=k+1+hs.length by lia,←n]
  congr 1
  show(do
   let j ←SetTable.layClean.free mask owner (SetTable.turns mask) (LD h % (mask+1)) (LD h)
   Lo (owner.setIfInBounds j<|some k,k+1):Option<|Array (Option Nat)×Nat)=_
  rw[o];rfl
theorem PR (owner:Array<|Option Nat):∀n,n=owner.size->((EC n).filterMap fun j=>(owner.getD j none).map (j,·)).map (·.2)=owner.toList.filterMap id:=by
 intro n b;have e:owner.toList=(EC n).map fun j=>owner.getD j none:=by
  apply VC
  intro i;rw[Z0,Zj]
  by_cases z:i<n
  ·rw[V9 z,ZT<|by lia,Yt,ZE,ZT<|by lia];rfl
  ·rw[Yf (by simp;lia),Y4<|by lia];rfl
 rw[e,List.filterMap_map,List.map_filterMap]
 congr 1
 funext j
 show((owner.getD j none).map (j,·)).map (·.2)=id (owner.getD j none);cases owner.getD j none<;>rfl
theorem Nt {mask finger moves:Nat}{led plain:Bool}{hs:Array Int}(F:Full<|mask+1)(i:hs.size<=mask):∃t order,SetTable.laid mask finger moves led plain hs=some (t,order)/\order.toList.Perm (EC hs.size)/\t.place.size=hs.size/\t.dummies=#[]/\t.mask=mask/\t.led=led/\t.plain=plain:=by
 have d:Laid (mask+1) 0 (Array.replicate (mask+1) none):=by
  refine⟨Array.size_replicate,?_⟩;rw[Array.toList_replicate];have:∀n,(List.replicate n (none:Option Nat)).filterMap id=[]:=fun n=>by
   induction n with
   |zero=>rfl
   |succ n ih=>rwa[List.replicate_succ]
  rw[this];exact List.Perm.refl _
 obtain⟨b,L,e⟩:=X0 F hs.toList _ 0 d (by rw[Zw];lia);rw[JX,Zw]at L e;have f:SetTable.layClean mask hs=some b:=by
  unfold SetTable.layClean;rw[←Array.foldl_toList];exact congrArg (Option.map (·.1)) e
 have h:=PR b (mask+1) L.sz.symm;have c:=L.pm;rw[←h]at c;have g:=c.length_eq;rw[Q5,Z8]at g;refine⟨_,_,by unfold SetTable.laid;rw[f];rfl,by simpa using c,?_,rfl,rfl,rfl,rfl⟩;show(List.map _ _).toArray.size=_;rwa[Zp,Q5]
theorem Gj {n:Nat}(h:n<256):Full (ED n)/\n<ED n:=by
 have go:∀n,n<256->(ED n=8\/ED n=16\/ED n=32\/ED n=64\/ED n=128\/ED n=256)/\n<ED n:=by decide +kernel
 obtain⟨b,c⟩:=go n h;refine⟨?_,c⟩
 rcases b with e|e|e|e|e|e<;>rw[e]
 ·exact Tu
 ·exact Wc
 ·exact Wd
 ·exact We
 ·exact Sm
 ·exact Sn
theorem Ga {es:Array (Int×Ei)}{b:Array Nat}(h:b.toList.Perm<|EC es.size):(b.filterMap (es[·]?)).toList.Perm es.toList/\(b.filterMap (es[·]?)).size=es.size:=by
 have c:(b.filterMap (es[·]?)).toList.Perm es.toList:=by
  rw[Array.toList_filterMap];refine(h.filterMap _).trans ?_;have e:=Vl es.toList;rw[Zw]at e;have d:(EC es.size).filterMap (fun p=>es[p]?)=(EC es.size).filterMap fun i=>es.toList[i]?:=by congr 1;funext p;exact(Z0 ..).symm
  rw[d,e]
 exact⟨c,by rw[←Zw,c.length_eq,Zw]⟩
section
variable {prog:Ek}{w:Eo}{A:EF}{E:Ei->Dh}{s:Em}
theorem RC {a:Ej}{o:Obj}{es:Array (Int×Ei)}{ep n:Nat}{t:La}{Q:Unit->Dh}(f:s.heap.get? a=some o)(hd:o.data=.set es ep t)(p:t.fits es.size=true)(e:n<256)(l:es.size<=n)
  (h:∀es' t',es'.toList.Perm es.toList->t'.fits es'.size=true->t'.led=t.led->t'.plain=t.plain->t'.dummies=#[]->t'.mask=ED n-1->Q () { s with heap:=s.heap.update a (LM es' t') }):El (Ep prog w) A (setRelay a n) Q E s:=by
 obtain⟨F,q⟩:=Gj e;have r:ED n-1+1=ED n:=by lia
 obtain⟨t',b,i,pm,g,d,mk,le,v⟩:=Nt (mask:=ED n-1) (finger:=t.finger) (moves:=t.movedTo<|ED n-1) (led:=t.led) (plain:=t.plain) (hs:=es.map (·.1)) (by rw[r];exact F) (by rw[VF];lia);rw[VF]at pm g;obtain⟨u,c⟩:=Ga pm;have x:¬ED n>sizeLine:=by
  have:∀n,n<256->ED n<=256:=by decide +kernel
  have:=this n e;rw[Ym];lia
 unfold setRelay;refine Q4<|ZP f hd p ?_;dsimp only;rw[Zs x];have j:t.relaid (es.map (·.1)) n=some (t',b):=i;rw[j];refine Q4 ?_;wp_delta;dsimp only;rw[Zs (by rw[c];simp)];refine Q7 ?_;refine J7 f hd (h _ t' u (by unfold Mm SetTable.fill;rw[g,d,c,mk];simp;lia) le v d mk) ?_;rw[Ym,c];lia
theorem DE {h:EB}{a:Ej}{o:Obj}{es b:Array (Int×Ei)}{ep:Nat}{t t':La}(c:h.get? a=some o)(hd:o.data=.set es ep t):(h.update a<|LM b t').get? a=some { o with data:=.set b (ep+1) t' }:=by
 have:=Ye (LM b t') c (by rw[putSet_of b t' hd];rfl);rw[putSet_of b t' hd]at this;exact this
theorem Xn {Q:Bool->Dh}(h:Q (byText w) s):El (Ep prog w) A MD Q E s:=by
 unfold MD;exact Q4<|Jd<|Q7 h
theorem NR {a:Ej}{o:Obj}{es:Array (Int×Ei)}{ep n:Nat}{t:La}{Q:Unit->Dh}(c:s.heap.get? a=some o)(hd:o.data=.set es ep t)(b:t.fits es.size=true)(g:(es.size+n)*2<256)
  (e:t.roomFor n=none->Q () s)
  (f:∀es' t',es'.toList.Perm es.toList->t'.fits es'.size=true->t'.led=t.led->t'.plain=t.plain->t'.dummies=#[]->t'.mask=ED ((es.size+n)*2)-1->Q () { s with heap:=s.heap.update a (LM es' t') }):El (Ep prog w) A (setRoomFor a n) Q E s:=by
 unfold setRoomFor;refine Q4<|ZP c hd b ?_;have h:t.place.size=es.size:=by
  unfold Mm at b;have:=(Bool.and_eq_true_iff.mp b).1;exact Jl.mp this
 dsimp only;cases q:t.roomFor n with
 |none=>exact Q7<|e q
 |some wanted =>
  have d:wanted=(es.size+n)*2:=by
   unfold SetTable.roomFor at q
   split at q
   ·cases q;rw[h]
   ·cases q
  subst d;exact RC c hd b g (by lia) f
theorem RF {a:Ej}{o:Obj}{es:Array (Int×Ei)}{ep n:Nat}{t:La}{Q:Unit->Dh}(b:s.heap.get? a=some o)(d:o.ExactSet)(hd:o.data=.set es ep t)(c:t.fits es.size=true)(i:(es.size+n)*2<256)
  (h:∀(h1:EB) (o':Obj) (es':Array<|Int×Ei) (ep':Nat) (t':La),ES a s.heap h1->h1.get? a=some o'->o'.ExactSet->o'.data=.set es' ep' t'->es'.toList.Perm es.toList->t'.fits es'.size=true->t'.led=t.led->t'.plain=t.plain->Q () { s with heap:=h1 }):El (Ep prog w) A (setRoomFor a n) Q E s :=
 NR b hd c i (fun _=>h s.heap o es ep t (Heap.SameBut.refl a s.heap) b d hd (List.Perm.refl _) c rfl rfl) fun es' t' pm e f g _ _=>h _ _ es' (ep+1) t' (EM s.heap a _) (DE b hd) d rfl pm e f g
theorem Tk {a b:Ej}{o K:Obj}{es g:Array (Int×Ei)}{ep p:Nat}{t B:La}{Q:Array (Int×Ei)->Dh}(I:s.heap.get? a=some o)(hd:o.data=.set es ep t)(G:t.fits es.size=true)(i:Mw (strKind prog w) es.toList)(hl:t.led=!byText w)(N:t.plain=false)
  (y:s.heap.get? b=some K) (u:K.data=.set g p B) (v:B.fits g.size=true) (P:Mw (strKind prog w) g.toList) (H:B.led=!byText w) (J:B.plain=false)
  (h:∀W d,W.toList.Perm es.toList->Q W { s with drawn:=d }):El (Ep prog w) A (setWalkUnseen a [b]<|some b) Q E s:=by
 have j:∀{es:Array (Int×Ei)},Mw (strKind prog w) es.toList->∀e∈es.toList,∀r,e.2≠.ref r:=fun{es} i e F r z=>by
  have:=(i e F).2;rw[z]at this;cases this
 have wk:(byText w=true\/es.size<=1)->El (Ep prog w) A (setWalk a) Q E s:=fun c=>by
  unfold setWalk;refine Q4<|ZP I hd G ?_;dsimp only;refine Q4<|Xn ?_;cases q:byText w with
  |true =>
   simp only[↓reduceIte];exact Q4<|Jd<|Q7<|h _ s.drawn<|kG _ _
  |false =>
   have c1:es.size<=1:=c.resolve_left (by rw[q];decide);simp only[ZU,↓reduceIte];refine Yk (fun z=>?_)<|fun _=>?_
   ·exfalso;have z:(!t.plain&&decide (es.size>1))=true:=z;rw[Zo<|by lia,Jt]at z;cases z
   ·refine Q4 ?_;wp_delta;rw[hl,q];refine Yk (fun z=>?_)<|fun _=>?_
    ·exfalso;have z:(!(!false)&&decide (es.size>1))=true:=z;cases z
    ·exact Q7 (Q7<|h es s.drawn<|List.Perm.refl _)
 unfold setWalkUnseen;refine Q4<|ZP I hd G ?_;dsimp only;refine Q4<|Xn ?_;refine Yk (fun z=>?_)<|fun z=>?_
 ·refine wk ?_;rw[N,Jt,Bool.or_false,Vp]at z;exact z.imp id Zr
 ·refine Q4 ?_;have quiet:∀(l:Dd),(∀c∈l,∃o es ep t,s.heap.get? c=some o/\o.data=.set es ep t/\t.fits es.size=true/\Mw (strKind prog w) es.toList)->∀{D:Bool->Dh},D true s->El (Ep prog w) A (setsQuiet l) D E s:=fun l hl D X=>by
   unfold setsQuiet;refine Q4 ?_;refine Vi _ (fun f q C=>C=s/\q=(none,())/\∀c∈f,∃o es ep t,s.heap.get? c=some o/\o.data=.set es ep t/\t.fits es.size=true/\Mw (strKind prog w) es.toList) _ ?_ ?_ l _ ⟨rfl,rfl,hl⟩
   ·rintro c f q C ⟨rfl,rfl,n⟩;obtain⟨o,es,ep,t,R,S,T,U⟩:=n c<|Zc ..;refine Q4 ?_;unfold setEntries;refine Q4<|ZP R S T<|Q7 ?_;refine Q4 ?_;refine MeetsSeq2.wpAny_forIn_array _ (fun f q M=>M=C/\q=(none,())/\∀e∈f,∀r,e.2≠.ref r) _ ?_ ?_ _ _ ⟨rfl,rfl,j U⟩
    ·rintro⟨Y,x⟩ L q2 M ⟨rfl,rfl,O⟩;have Z:=O (Y,x)<|Zc ..;cases x with
     |ref r=>exact absurd rfl<|Z r
     |_=>exact Q7 ⟨rfl,rfl,fun e F=>O e<|Q9 _ F⟩
    ·rintro q2 M ⟨rfl,rfl,_⟩;exact Q7 ⟨rfl,rfl,fun d hd=>n d<|Q9 _ hd⟩
   ·rintro q C ⟨rfl,rfl,_⟩;exact Q7 X
  refine quiet [a,b] (fun c n=>?_) ?_
  ·rcases Zh.mp n with rfl|n
   ·exact⟨o,es,ep,t,I,hd,G,i⟩
   ·rw[Q6.mp n];exact⟨K,g,p,B,y,u,v,P⟩
  ·simp only[Vm,ZU,↓reduceIte];refine Q4<|JH ?_;refine Q4<|ZP y u v ?_;dsimp only;refine Yk (fun z=>?_)<|fun _=>?_
   ·exfalso;rw[hl,H,N,J]at z;cases q:byText w<;>rw[q]at z<;>cases z
   ·exact Q7 (h es s.drawn<|List.Perm.refl _)
theorem RP {x:Str}:x∈step ks k↔x∈ks\/x=k:=by
 unfold step
 split
 ·rename_i h;exact⟨.inl,fun z=>z.elim id fun e=>by rw[e];exact h⟩
 ·rw[Zy,Q6]
theorem uM {ks:Da}(h:ks.Nodup):(step ks k).Nodup:=by
 unfold step
 split
 ·exact h
 ·rename_i n;refine Y5.mpr ⟨h,Z9.mpr ⟨by simp,YM⟩,fun x c y b e=>n ?_⟩;rw[Q6]at b;rwa[←b,←e]
theorem BK {t:La}{n:Nat}(b:t.fits n=true):t.place.size=n:=Jl.mp (Bool.and_eq_true_iff.mp b).1
structure Both (ks1 ks2 ks:Da):Prop where
 mem:∀x,x∈ks↔x∈ks1\/x∈ks2
 nd:ks1.Nodup->ks2.Nodup->ks.Nodup
 len:ks.length<=ks1.length+ks2.length
theorem RV {i:Sem Unit}{Q:Unit->Dh}(hS:yh prog w s.heap a ks1)(hO:yh prog w s.heap b ks2)(ne:a≠b)(n1:ks1≠[])(hb:(ks1.length+ks2.length)*2<256)
  (hE:∀(s':Em) (Q':Unit->Dh),s'.heap.get? b=s.heap.get? b->Q' () s'->El (Ep prog w) A i Q' E s')
  (h:∀h' d ks',ES a s.heap h'->yh prog w h' a ks'->Both ks1 ks2 ks'->Q () { s with heap:=h',drawn:=d }):El (Ep prog w) A (setMerge a b i) Q E s:=by
 obtain⟨o,es,ep,t,ho,hx,hd,X⟩:=id hS;obtain⟨o2,L,ax,t2,aj,a1,C,X2⟩:=id hO;have hl:=IA X;have a0:=IA X2;obtain⟨ai,hp,ay,hf,p,S⟩:=X;obtain⟨Eg,R,as,D,G,T⟩:=X2;have k0:0<ks1.length:=Jo.mpr n1;unfold setMerge;refine Yk (fun z=>absurd (Jl.mp z) ne) (fun _=>?_);refine Q4<|ZP aj C D ?_;dsimp only;refine Yk (fun z=>?_)<|fun z=>?_
 ·have e:L.size=0:=by simpa[Array.isEmpty] using z
  have e:ks2=[]:=Yn (by lia);subst e;exact Q7 (h s.heap s.drawn ks1 (Heap.SameBut.refl a s.heap) hS ⟨fun x=>by simp,fun n _=>n,by lia⟩)
 ·have e2:L.size≠0:=fun e=>z (by simpa[Array.isEmpty] using e);refine Q4 (RF ho hx hd hf (by lia) fun M o' K ab t' U H al B pm f O q=>?_);have a3:K.size=es.size:=by rw[←Zw,pm.length_eq,Zw]
  have P:M.get? b=some o2:=by rwa[U.2 b ne.symm]
  refine Q4<|ZP (s:={ s with heap:=M }) H B f ?_;dsimp only;have rd:t'.road t2=.oneByOne:=by
   unfold SetTable.road SetTable.fill;rw[BK f];exact Zt (bne_iff_ne.mpr<|by lia)
  rw[rd];dsimp only;have l:=ai.perm pm;refine Q4 (Tk (s:={ s with heap:=M }) P C D Eg G (T e2) H B f l (O.trans p) (q.trans<|S<|by lia) fun W d wp=>?_);have an:yh prog w M a ks1:=⟨o',K,ab,t',H,al,B,l,(pm.map keyOf).trans hp,by lia,f,O.trans p,fun _=>q.trans<|S<|by lia⟩;have N:=Eg.perm wp;have wl:W.toList.length=ks2.length:=by rwa[wp.length_eq,Zw]
  refine Q4 ?_;refine MeetsSeq2.wpAny_forIn_array _ (fun c _ s2=>∃(done:List<|Int×Ei) (v:EB) (I:Da),W.toList=done++c/\s2={ s with heap:=v,drawn:=d }/\ES a s.heap v/\yh prog w v a I/\Both ks1 (done.map keyOf) I) _ ?_ ?_ W _ ⟨[],M,ks1,rfl,rfl,U,an,fun x=>by simp,fun n _=>n,by simp⟩
  ·rintro⟨J,x⟩ c _ s2 ⟨done,v,I,j,rfl,g,tx,u⟩;have mem:(J,x)∈W.toList:=by rw[j];exact ZA _<|Zc ..
   obtain⟨⟨k,hk,F⟩,_⟩:=N (J,x) mem;obtain⟨tk,et⟩:=Y6<|show Ld k x=true from hk;have F:J=hashStr w k:=F;have ek:keyOf (J,x)=k:=by unfold keyOf;rw[et]
   dsimp only;rw[et,F];have dl:done.length+c.length+1=ks2.length:=by
    rw[j,Ze,Zn]at wl;lia
   have kl:=u.len;rw[Q5]at kl;have a2:Mc=4096:=rfl;refine Q4 (ZW<|MW (s:={ s with heap:=v,drawn:=d }) tx (by lia) fun Z r Y ap=>?_);have e3:Z.get? b=s.heap.get? b:=(Y.2 b ne.symm).trans<|g.2 b ne.symm;refine Q4<|hE _ _ e3 ?_;refine Q4 (ZP (s:={ s with heap:=Z,drawn:=d }) (show Z.get? b=some o2 by rwa[e3]) C D ?_);refine Yk (fun z=>absurd z<|by simp) (fun _=>?_);refine Q7 ⟨done++[(J,x)],Z,step I k,by rw[j,Z7];rfl,rfl,g.trans Y,ap,fun y=>?_,fun n m=>uM<|u.nd n (by rw[Zg]at m;exact(Y5.mp m).1),?_⟩
   ·rw[RP,u.mem,Zg,Zy];show _↔y∈ks1\/y∈done.map keyOf\/y∈[keyOf (J,x)];rw[ek,Q6,or_assoc]
   ·have:=HY I k;rw[Q5,Ze,YU];lia
  ·rintro _ s2 ⟨done,v,I,j,rfl,g,tx,u⟩;rw[ZG]at j;refine Q7 (h v d I g tx ⟨fun x=>?_,fun n m=>u.nd n (by rw[←j];exact((wp.map keyOf).trans R).nodup_iff.mpr m),?_⟩)
   ·rw[u.mem,←j];have pk:(W.toList.map keyOf).Perm ks2:=(wp.map keyOf).trans R;rw[pk.mem_iff]
   ·have:=u.len;rw[Q5,←j,wl]at this;exact this
theorem IL {a:Ej}{n:Nat}{Q:Unit->Dh}(c:s.heap.get? a=some (zN w))(l:n*2<256)
  (h:∀(h1:EB) (o':Obj) (ep':Nat) (t':La),ES a s.heap h1->h1.get? a=some o'->o'.ExactSet->o'.data=.set #[] ep' t'->t'.fits 0=true->t'.led=!byText w->t'.plain=true->t'.dummies=#[]->Full (t'.mask+1)->n<=t'.mask->Q () { s with heap:=h1 }):El (Ep prog w) A (setRoomFor a n) Q E s:=by
 refine NR (es:=#[]) c rfl rfl (by show(0+n)*2<256;lia) (fun z=>?_) fun b t' pm e f g i f5=>?_
 ·refine h s.heap _ 0 _ (Heap.SameBut.refl a s.heap) c ⟨rfl,rfl,rfl⟩ rfl rfl rfl rfl rfl Tu ?_;unfold SetTable.roomFor at z
  split at z
  ·cases z
  ·rename_i q;have q:¬(0+n)*5≥7*3:=q;show n<=7;lia
 ·have d:b=#[]:=by
   have:=pm.length_eq;rw[Zw]at this;exact Array.eq_empty_of_size_eq_zero this
  subst d;have f5:t'.mask=ED (n*2)-1:=by
   rw[f5];show ED ((0+n)*2)-1=_;rw[JX]
  obtain⟨F,j⟩:=Gj l;refine h _ _ 1 t' (EM s.heap a _) (DE c rfl) ⟨rfl,rfl,rfl⟩ rfl e f g i ?_ (by lia);rw[f5,show ED (n*2)-1+1=ED (n*2) by lia];exact F
theorem N1 {a:Ej}{q:Sem Unit}{Q:Unit->Dh}(D:s.heap.get? a=some (zN w))(X:yh prog w s.heap b ks2)(ne:a≠b)(hb:ks2.length*2<256)
  (h:∀h',ES a s.heap h'->(ks2=[]->h'.get? a=some (zN w))->yh prog w h' a ks2->Q () { s with heap:=h' }):El (Ep prog w) A (setMerge a b q) Q E s:=by
 obtain⟨o2,i,T,p,J,Z,G,M⟩:=id X;have I:=IA M;obtain⟨L,v,c,t,o,n⟩:=M;unfold setMerge;refine Yk (fun z=>absurd (Jl.mp z) ne) (fun _=>?_);refine Q4<|ZP J G t ?_;dsimp only;refine Yk (fun z=>?_)<|fun z=>?_
 ·have e:i.size=0:=by simpa[Array.isEmpty] using z
  have e:ks2=[]:=Yn (by lia);subst e;exact Q7<|h s.heap (Heap.SameBut.refl a s.heap) (fun _=>D)<|IJ (xs:=[]) D
 ·have B:i.size≠0:=fun e=>z (by simpa[Array.isEmpty] using e);have n2:ks2≠[]:=fun e=>B (by rw[I,e];rfl);refine Q4 (IL D (by lia) fun C o' S l y g x f r u Y H F hn=>?_);refine Q4<|ZP (s:={ s with heap:=C }) g f r ?_;dsimp only;have U:l.fill=0:=by unfold SetTable.fill;rw[BK r,H];rfl
  have d:p.led=!byText w:=o;cases rd:l.road p with
  |oneByOne =>
   exfalso;unfold SetTable.road at rd;rw[U]at rd;rw[Zs<|by simp]at rd
   split at rd<;>cases rd
  |slotForSlot =>
   refine J7 (s:={ s with heap:=C }) g f ?_<|VB c;refine h _ (y.trans<|EM _ a _) (fun z=>absurd z n2) ⟨_,i,_,_,DE g f,x,rfl,L,v,c,t,?_,fun _=>?_⟩
   ·show(l.led&&p.led)=!byText w;rw[u,d,Bool.and_self]
   ·show(l.plain&&p.plain)=false;rw[n B,Jt]
  |clean =>
   obtain⟨t3,K,R,pm,O,P,mk,le,pl⟩:=Nt (mask:=l.mask) (finger:=l.finger) (moves:=l.moves) (led:=l.led&&p.led) (plain:=l.plain&&p.plain) (hs:=i.map (·.1)) F (by rw[VF];lia);rw[VF]at pm O;obtain⟨N,j⟩:=Ga pm;dsimp only;rw[R];refine Q4 ?_;wp_delta;dsimp only;rw[Zs (by rw[j];simp)];refine Q7 ?_;refine J7 (s:={ s with heap:=C }) g f ?_ (by rw[j];exact VB c);refine h _ (y.trans<|EM _ a _) (fun z=>absurd z n2) ⟨_,_,_,t3,DE g f,x,rfl,L.perm N,(N.map keyOf).trans v,by rw[j];exact c,?_,?_,fun _=>?_⟩
   ·unfold Mm SetTable.fill;rw[O,P,j,mk];simp;lia
   ·rw[le,u,d,Bool.and_self];rfl
   ·rw[pl,n B,Jt]
theorem Pj:entryFor table "set.__or__"=some Builtin.«frozenset.__or__» :=
 entryFor_alias (id':="frozenset.__or__") (by kernel_rfl) (by first|rfl|decide +kernel|(unfold String.splitOn;simp +decide [String.splitOnAux])) (by decide +kernel) (by kernel_rfl)
theorem vD {h:EB}{s:Em}(x:yh prog w s.heap a ks):s.TypeIs (.ref a) "set":=by
 obtain⟨o,e,d,t,b,c,_⟩:=x;exact⟨o,b,c.1⟩
theorem CI {a:Ej}{Q:Bool->Dh}(b:s.TypeIs (.ref a) "set")(h:Q true s):El (Ep prog w) A (E9<|.ref a) Q E s:=by
 unfold E9;show El _ _ (isInstance (.ref a) (.type "set")>>=_) _ _ _;refine Q4<|Y0 b sub_set_self ?_;exact Q7 h
theorem bx {Q:Ei->Dh}(B:yh prog w s.heap a ks1)(n:yh prog w s.heap b ks2)(ne:a≠b)(R:(ks1.length+ks2.length)*2<256)
  (h:∀h' d ks',(∀x o,s.heap.get? x=some o->h'.get? x=some o)->yh prog w h' s.heap.objs.size ks'->Both ks1 ks2 ks'->Q (.ref s.heap.objs.size) { s with heap:=h',drawn:=d }) :
  El (Ep prog w) A (call (.builtin "set.__or__") [.ref a,.ref b]) Q E s:=by
 have i:=vD (h:=s.heap) B;have C:=vD (h:=s.heap) n;refine Ys PySem.F.slot_set_or i Pj ?_<|PySem.F.args_set_or_2 _ _;unfold Builtin.«frozenset.__or__»;wp_delta;refine Q4 ?_;show El _ _ (Lo (Ez a,Ez b)) _ _ _;refine Q7 ?_;dsimp only;refine Q4 ?_;show El _ _ (E9 (.ref a)>>=_) _ _ _;refine Q4<|CI i ?_;show El _ _ (E9<|.ref b) _ _ _;refine CI C ?_;simp only[Vm,ZU,↓reduceIte];refine Q4<|Q7 ?_;refine Q4 ?_;wp_delta;refine Q4 ?_;unfold Builtin.Frozenset.copyOf Builtin.Frozenset.baseOf newSet;refine Q4<|Q4<|Y0 i sub_set_self<|Q7 ?_;simp only[↓reduceIte];refine Q4<|Q4<|Xn ?_;simp only[newObj];refine Q4<|wpAny_alloc<|Q7 ?_;have P:(s.heap.push<|zN w).get? s.heap.objs.size=some (zN w):=Zk _ rfl;have kp:∀x o,s.heap.get? x=some o->(s.heap.push<|zN w).get? x=some o:=fun x o e=>Q8 _ e;have T:a<s.heap.objs.size:=by obtain⟨o,_,_,_,e,_⟩:=B;exact Zl e
 have lb:b<s.heap.objs.size:=by obtain⟨o,_,_,_,e,_⟩:=n;exact Zl e
 refine Q4<|Q7 ?_;refine Q4 ?_;refine N1 (s:={ s with heap:=s.heap.push (zN w) }) P (B.at (kp a)) (YO T) (by lia) fun g G lW H=>?_;have c:∀x o,s.heap.get? x=some o->g.get? x=some o:=fun x o e=>(G.2 x<|Zu<|Zl e).trans<|kp x o e;refine Q7 ?_;rw[Zt<|by simpa using fun z=>ne z.symm];refine Q4<|Q7 ?_;refine Q4<|ZW ?_;unfold E5;have t:LQ { s with heap:=g } (.ref b) "set":=vD (h:=g)<|n.at (c b);refine Q4<|CI (s:={ s with heap:=g }) t ?_;simp only[↓reduceIte];refine Q4<|Q7 ?_;unfold Builtin.Frozenset.merge;obtain⟨U,O,N,t2,D,S,u,L⟩:=id<|n.at (c b);have v:=L.2.2.2.1;refine Q4 ?_;unfold setEpoch;refine Q4<|ZP (s:={ s with heap:=g }) D u v<|Q7 ?_;have J:s.heap.objs.size≠b:=YO lb;have r:∀(f:EB) (d:Drawn) (p:Da),ES s.heap.objs.size g f->yh prog w f s.heap.objs.size p->Both ks1 ks2 p->Q (.ref s.heap.objs.size) { s with heap:=f,drawn:=d }:=fun f d p X Y y =>
  h f d p (fun x o e=>(X.2 x<|Zu<|Zl e).trans<|c x o e) Y y
 by_cases I:ks1=[]
 ·subst I;refine N1 (s:={ s with heap:=g }) (lW rfl) (n.at (c b)) J (by lia) fun f j _ l=>?_;exact Q7 (Q7 ⟨_,rfl,r f s.drawn ks2 j l ⟨fun x=>by simp,fun _ m=>m,by lia⟩⟩)
 ·refine RV (s:={ s with heap:=g }) H (n.at (c b)) J I R (fun K Z M q=>?_) fun f d p j l y=>?_
  ·unfold Builtin.Frozenset.unchanged setEpoch;refine Q4 (Q4<|ZP (s:=K) (show K.heap.get? b=some U by rwa[M]) u v<|Q7 ?_);refine Yk (fun z=>absurd z<|by simp) (fun _=>Q7 q)
  ·exact Q7 (Q7 ⟨_,rfl,r f d p j l y⟩)
end
end AxS
namespace L2
open PySem PySem.Spec PyProof.Rows AxS
section
variable {X:Cx}
def cv (P:Ek)(w:Eo):R2:=fun x y H Q=>∃(a b:Ej) (c d:Da),x=.ref a/\y=.ref b/\H a=some (UQ P w a c)/\H b=some (UQ P w b d)/\a≠b/\(c.length+d.length)*2<256/\∀p e,H p=none->Both c d e->Q (.ref p) (upd H p<|UQ P w p e)
theorem Wu:Ct X (Mf .BitOr) (cv X.prog X.w):=by
 intro B s D H x y v u Q I r t h;obtain⟨a,b,l,p,rfl,rfl,i,j,ne,n,q⟩:=h;cases r;cases t;have f:=X9<|I.hok a _ i;have e:=X9<|I.hok b _ j;refine wpAny_binaryOp_same (op:=.BitOr) (vD (h:=s.heap) f) (vD (h:=s.heap) e) PySem.F.fills_set_or PySem.F.slot_set_or<|bx f e ne n fun C d c k A g=>⟨fun z=>(nomatch z),?_⟩;exact⟨.ref s.heap.objs.size,_,(I.laid (o:=UQ X.prog X.w s.heap.objs.size c) (t':=s.toks) k (Zd _)<|Fj A).drew (d:=d),rfl,q _ c (I.hok.fresh<|Zd _) g⟩
end
section
variable {X:Cx}{Do:De}{σ:St}{H:Hp}{s:Em}{d:Ej}{Dm:Dl}
theorem Bq (I:Inv X Do σ H s)(e:Rd H d<|.dK Dm):∃vs ep,KV Dm vs/\s.heap.DictAt (za X.prog X.w) d vs ep/\(d==EV)=false/\Dm.length<=sizeLine:=by
 obtain⟨z,hd,vs,f,o,g,ep,i,l,b,h,j,c⟩:=vQ I.hok e;exact⟨vs,ep,f,⟨o,g,i,l,b,h,j,c⟩,hd,z⟩
theorem IC {α c:Type}{F G:α->c->Prop}(h:∀a b,F a b->G a b){l:List α}{m:List c}(r:Lp F l m):Lp G l m:=Paired.mQ r h
theorem yp.oX {t:Obj}{x:HO}(hd:H d=some (.frz t x)){y:HO}(ok:yp P w H h b u):yp P w (upd H d y) h b u:=by
 have keep:∀{c:Ej} {z:HO},H c=some z->(∀o v,z≠.frz o v)->upd H d y c=some z:=fun{c z} e n=>by
  rw[zG fun q=>by rw[q,hd]at e;exact n _ _ (Option.some.inj e).symm];exact e
 induction u generalizing b with
 |lst g=>exact ok
 |tup g=>exact ok
 |dK Dm=>exact ok
 |dT Dm =>
  obtain⟨i,j,g,s,l⟩:=ok;exact⟨i,j,g,IC (fun p q r=>⟨r.1,keep r.2.1 (fun o v z=>(nomatch z)),r.2.2⟩) s,l⟩
 |set S n=>exact ok
 |ins C dx fs=>exact⟨keep ok.1 (fun o v z=>(nomatch z)),ok.2⟩
 |own x=>exact ok
 |xd fs=>exact ok
 |rng lo hi=>exact ok
 |frz o u ih=>exact⟨ok.1,ih ok.2⟩
 |tbl ps=>exact ok
 |met f x=>exact ok
 |ext φ=>exact ok
theorem Inv.oX {w:Obj}(I:Inv X Do σ H s)(hd:H d=some (.frz w<|.dK Dm))(t:∀o u,X.H₀ d≠some (.frz o u)):Inv X Do σ (upd H d<|.dK Dm) s:=by
 have ne:∀{b:Ej},H b=none->b≠d:=fun{b} e z=>by rw[z,hd]at e;cases e
 have nt:∀{b:Ej} {z:HO},H b=some z->(∀o v,z≠.frz o v)->b≠d:=fun{b z} e n q=>by rw[q,hd]at e;exact n _ _ (Option.some.inj e).symm
 refine⟨I.ok,I.os,I.bare,⟨I.base.keep,I.base.slot,fun b o f j l=>?_,I.base.there,fun b A f=>?_,fun b o u f=>?_,fun b y f=>?_⟩,I.loc,I.cell,?_,fun x c f=>?_,fun p r=>?_,fun b u f=>?_,I.len⟩
 ·have:=I.base.free b o f j l;rwa[zG<|ne this]
 ·have:=I.base.tups b A f;rwa[zG<|nt this fun o v z=>(nomatch z)]
 ·have:=I.base.wg b o u f;rw[zG fun z=>t o u<|by rwa[←z]];exact this
 ·obtain⟨more,this⟩:=I.base.vz b y f;exact⟨more,by rw[zG<|nt this fun o v z=>(nomatch z)];exact this⟩
 ·rw[zG<|ne I.free];exact I.free
 ·have:=I.wQ x c f;rwa[zG<|ne this]
 ·obtain⟨h,g,i⟩:=I.pin p r;exact⟨h,by rw[zG<|ne g];exact g,i⟩
 ·by_cases z:b=d
  ·rw[z,zC]at f;cases f;rw[z];exact(I.hok d _ hd).2
  ·rw[zG z]at f;exact(I.hok b u f).oX hd
end
section
variable {X:Cx}{tg:EN}
def WF:Dj->Hp->VK->Prop:=fun d H Q=>∃a b,d=[.ref a]/\Rd H a (.dK b)/\∀l,H l=none->Q (.ref l) (upd H l<|.lst<|b.map fun c=>kV c.1)
theorem Ks (y:X.calm=true):xf X (.type "list") WF:=by
 intro D s J H G F Q I r h;obtain⟨a,f,rfl,x,q⟩:=h;obtain⟨u,rfl,A⟩:=wW r;cases A;obtain⟨n,ep,d,o,t,z⟩:=Bq I x;have E:f.length=n.length:=Paired.length d;refine PySem.W.kdl_call (PySem.W.kdl_dict (knd:=za X.prog X.w) (kvs:=n) (ep:=ep) t) (I.ok.hd y) o (by lia) fun p C b c g hl l=>?_;have B:yr (f.map fun i=>kV i.1) b.toList:=GS d (by rw[Zw];exact l.1) fun j v e=>l.2 j v (by rwa[←Z0]);exact⟨.ref s.heap.objs.size,_,I.laid (t':=C) g (Zd _)<|show yp X.prog X.w _ p _ (.lst<|f.map fun i=>kV i.1) from⟨by rw[Q5];exact z,b.toList,c,B,hl⟩,rfl,q _<|I.hok.fresh<|Zd _⟩
def WD:Dj->Hp->VK->Prop:=fun c H Q=>∃a b,c=[.ref a]/\Rd H a (.dK b)/\∀l,H l=none->Q (.ref l) (upd H l<|.dK b)
theorem qO:xf X (.type "dict") WD:=by
 intro g s n H l j Q I r h;obtain⟨a,f,rfl,c,q⟩:=h;obtain⟨u,rfl,e⟩:=wW r;cases e;exact Pb I c fun p i d b=>⟨.ref p,_,b,rfl,q p d⟩
def UZ (b:Key×V):Str:=match b.1 with
 | .inr x=>x
 | .inl _=>""
def TN (Dm:Dl):Prop:=∀b∈Dm,b.1=.inr (UZ b)
def putAll (Dm more:Dl):Dl:=more.foldl (fun b c=>ye b c.1 c.2) Dm
theorem KV.putAll:∀{more:Dl} {um:List (Key×Ei)} {Dm:Dl} {vs:List (Key×Ei)},KV Dm vs->KV more um->KV (putAll Dm more) (merged vs um)
 |[],_,_,_,r,.nil=>r
 |p::more,q::um,Dm,vs,r,.cons h t=>by
  have e:p.1=q.1:=h.1;have:=KV.putAll (Dm:=ye Dm p.1 p.2) (vs:=stored vs q.1 q.2) (by rw[←e];exact r.put p.1 h.2) t;exact this
theorem j8:∀(more Dm:Dl),(putAll Dm more).length<=Dm.length+more.length
 |[],Dm=>Zd _
 |p::more,Dm=>by
  have:=j8 more<|ye Dm p.1 p.2;have:=qI Dm p.1 p.2;show(putAll (ye Dm p.1 p.2) more).length<=_;rw[Zn];lia
end
end L2
namespace An10
end An10
namespace An12
open PySem L2 An An10
end An12
namespace AnJ
section
variable {α:Type}
inductive Pt (α:Type) where
 |same (ls:List α)
 |clash (b m y:List α)
end
open An10
open AxK
open PySem L2 An An12
def yd (ls:Da):PyData:=.tuple<|ls.map .str
theorem Pl (l m:Da):EH (yd l) (yd m)=decide (l=m):=by
 show E6 (l.map .str) (m.map .str)=_;exact jN l m
def nR (ls:Da):Prop:=∀l∈ls,Es l=true
theorem PM (h:nR ls):(yd ls).canLay0=true/\(yd ls).depth<=1:=by
 obtain⟨a,b⟩:=uV ls h;refine⟨a,?_⟩;show EG (ls.map .str)+1<=1;rw[b];lia
theorem X0 {e:Type}{f:e->Er}{n:Nat}:∀{l:List e},(∀x∈l,(f x).canLay0=true/\(f x).depth<=n)->Ev (l.map f)=true/\EG (l.map f)<=n
 |[],_=>⟨rfl,ZD _⟩
 |x::l,h=>by
  obtain⟨a,b⟩:=X0 fun y g=>h y<|Q9 _ g;obtain⟨c,d⟩:=h x<|Zc ..;constructor
  ·show((f x).canLay0&&Ev (l.map f))=true;rw[a,c];rfl
  ·show max (f x).depth (EG<|l.map f)<=n;lia
theorem G0 {d:Er}(h:d.canLay0=true)(n:d.depth<=60):ER d=true:=by
 unfold ER;rw[h,Zf<|by lia];rfl
theorem tE {c:Type}{f:c->Er}{n:Nat}(d:n<=50){l:List c}(h:∀x∈l,(f x).canLay0=true/\(f x).depth<=n):ER (.list<|l.map f)=true:=by
 obtain⟨a,b⟩:=X0 h;exact G0 a (by show EG (l.map f)+1<=60;lia)
theorem Nv:∀a b:List Nat,decide (a<b)=yG TO.nat a b
 |[],[]=>by decide
 |[],_::_=>by simp[yG]
 |_::_,[]=>by simp[yG]
 |a::as,b::bs=>by
  have d:=Nv as bs;unfold yG;rw[←d,Yq,ZK,YI];show _↔(decide (a<b)||(!decide (b<a)&&decide (as<bs)))=true;rw[Vp,Zi,ZK,ZK,Um,Vw];constructor
  ·rintro(h|⟨h,c⟩)
   ·exact .inl h
   ·exact .inr ⟨by lia,c⟩
  ·rintro(h|⟨h,c⟩)
   ·exact .inl h
   ·by_cases z:a<b
    ·exact .inl z
    ·exact .inr ⟨by lia,c⟩
def wI:TO Str:=TO.by_ (TO.list TO.nat) cs fun a b h=>wY h
theorem sU (a b:Str):wI.lt a b=decide (a.cps.toList<b.cps.toList):=(Nv _ _).symm
theorem pB:∀a b:Da,Tn (a.map .str) (b.map .str) ((TO.list wI).lt a b)
 |[],[]=>by
  show false=decide (0<0);rfl
 |[],_::_=>by
  show true=decide (0<_);simp
 |_::_,[]=>rfl
 |x::a,y::b=>by
  show((x==y)=true/\Tn (a.map .str) (b.map .str) (yG wI (x::a) (y::b)))\/((x==y)=false/\yG wI (x::a) (y::b)=decide (x.cps.toList<y.cps.toList))
  by_cases e:x=y
  ·subst e;refine .inl ⟨by simp,?_⟩;unfold yG;have:wI.lt x x=false:=wI.refl x;rw[this];exact pB a b
  ·refine .inr ⟨by simpa using e,?_⟩;unfold yG;rw[←sU];cases q:wI.lt x y with
   |true=>rfl
   |false =>
    cases c:wI.lt y x with
    |true=>rfl
    |false=>exact absurd (wI.lV _ _ q c) e
end AnJ
namespace L2
open PySem PySem.Spec PyProof.Rows PySem.W AxK An
def lays:Hp->List (Ej×Dj)->Hp
 |H,[]=>H
 |H,p::r=>lays (upd H p.1<|.tup p.2) r
theorem j5:∀{l:List (Ej×Dj)} {H:Hp} {b:Ej},b∉l.map (·.1)->lays H l b=H b
 |[],_,_,_=>rfl
 |p::r,H,b,h=>by
  rw[Zv,Zh,not_or]at h;show lays (upd H p.1<|.tup p.2) r b=_;rw[j5 h.2,zG h.1]
theorem CS:∀{l:List (Ej×Dj)} {H:Hp} {p:Ej×Dj},(l.map (·.1)).Nodup->p∈l->lays H l p.1=some (.tup p.2)
 |q::r,H,p,nd,h=>by
  rw[Zv,Z9]at nd;show lays (upd H q.1<|.tup q.2) r p.1=_
  rcases Zh.mp h with rfl|h
  ·rw[j5 nd.1,zC]
  ·exact CS nd.2 h
theorem oN:∀{l:List (Ej×Dj)} {H:Hp} {b:Ej} {o:HO},(l.map (·.1)).Nodup->lays H l b=some o->H b=some o\/∃xs,(b,xs)∈l/\o=.tup xs:=fun{l H b o} nd h=>by
 by_cases z:b∈l.map (·.1)
 ·obtain⟨p,c,rfl⟩:=Za.mp z;rw[CS nd c]at h;exact .inr ⟨p.2,c,(Option.some.inj h).symm⟩
 ·rw[j5 z]at h;exact .inl h
theorem Bg {l:List (Ej×Dj)}{H:Hp}(f:∀p∈l,H p.1=none):zx H (lays H l):=fun b o e=>by
 rw[j5]
 ·exact e
 ·intro z;obtain⟨p,c,rfl⟩:=Za.mp z;rw[f p c]at e;cases e
section
variable {X:Cx}{Do:De}{σ:St}{H:Hp}{s:Em}{h':EB}{K:Ca}
theorem Inv.lays {t':Nat}(I:Inv X Do σ H s){l:List (Ej×Dj)}(nd:(l.map (·.1)).Nodup)(k:∀b u,s.heap.get? b=some u->h'.get? b=some u)(g:∀p∈l,s.heap.objs.size<=p.1)(new:∀p∈l,yp X.prog X.w (lays H l) h' p.1<|.tup p.2) :
  Inv X Do σ (lays H l) { s with heap:=h',toks:=t' }:=by
 have h:∀p∈l,H p.1=none:=fun p m=>I.hok.fresh<|g p m;have d:=Bg h;have nx:∀b u,s.heap.get? b=some u->b∉l.map (·.1):=fun b u q z=>by
  obtain⟨p,m,rfl⟩:=Za.mp z;exact absurd (Zl q)<|Nat.not_lt.mpr<|g p m
 refine I.un ⟨fun b u q _ _ _=>k b u q,fun b u q _ _ _=>⟨u.slots,k b u q⟩,fun b u q n _=>by rw[j5<|nx b u q];exact n,fun b u q _=>⟨u,k b u q⟩,fun b f q=>d _ _ q,fun b u f q=>d _ _ q,fun b i q=>⟨#[],by rw[d _ _ q];simp⟩⟩ fun b u e=>?_
 rcases oN nd e with z|⟨f,m,rfl⟩
 ·exact(I.hok b u z).stay (fun c v _ q=>k c v q) (fun c q=>d _ _ q) fun c f q=>d _ _ q
 ·exact new _ m
theorem Im:∀{ps:Dg},(∀p∈ps,Es p.1=true/\Es p.2=true)->Ev (ps.map An.zb)=true
 |[],_=>rfl
 |p::ps,h=>by
  obtain⟨b,c⟩:=h p<|Zc ..;show(((Es p.1)&&((Es p.2)&&true))&&Ev (ps.map An.zb))=true;rw[b,c,Im fun q d=>h q<|Q9 _ d];rfl
def GE:Er->Da
 | .tuple xs=>xs.map fun d=>match d with
  | .str x=>x
  |_=>""
 |_=>[]
theorem ID {ps:Dg}{i:Nat}(h:i<ps.length):(ps.map An.zb).getD i .none=An.zb (ps.getD i ("","")):=by
 rw[ZY,ZY,Zj,Zb h];rfl
theorem WL {a b:Str×Str}(h:(TO.list AnJ.wI).le (GE<|An.zb a)<|GE<|An.zb b):cs a.1<=cs b.1:=by
 have h:yG AnJ.wI [b.1,b.2] [a.1,a.2]=false:=h;have h:(AnJ.wI.lt b.1 a.1||(!AnJ.wI.lt a.1 b.1&&yG AnJ.wI [b.2] [a.2]))=false:=h;rw[JG,AnJ.sU,Vw]at h;exact Ve.mp h.1
def WW (K:Ca)(i:TE):TE:=fun σ H Q=>i σ H fun v f=>∃(d:Ej) (e:Dg),v=.ref d/\Rd f d (.dK<|e.map fun p=>((.inr p.1:Key),V.str p.2))/\e.length<64/\(∀p∈e,Es p.1=true/\Es p.2=true) /\
 ∀(l:Ej) (g:Dg) (h:Dj) (c:Hp),g.Perm e->(g.Pairwise fun a b=>cs a.1<=cs b.1)->zx f c->f l=none->c l=some (.lst h)->zy K c (g.map An.zb) h->Q (.ref l) c
theorem Rq {p Dr Dq pos:Pos}(hc:X.calm=true)(hu:X.A.units+64<Lc)(hg:Gl X x)(hm:X.mg x=none)(hv:LL x=some (.builtin "sorted"))(ho:PE X o td)
  (D0:LA o "items" X.env (E8 o X.env)=E8 o X.env:=by rfl) (DD:(Dr.endLine==Dq.line)=true:=by rfl) (hn:x≠"__name__":=by decide) (a6:(x==("__debug__":Str))=false:=by decide)
  (he:Ey [.Call (.Attribute o "items" Dr) [] [] Dq] X.env=(false,E8 (.Call (.Attribute o "items" Dr) [] [] Dq) X.env)::Ey [] X.env:=by rfl) (a9:(Lh pos<|Ey [] X.env).any (·.1)=false:=by rfl) (hK:X.K=K:=by rfl) :
  PE X (.Call (.Name x p) [.Call (.Attribute o "items" Dr) [] [] Dq] [] pos) (WW K td):=by
 subst hK;intro Do s σ H Q I h;refine Jc<|kD I hg hm hv ?_ hn a6;refine VR ?_ he a9;rw[he];show El _ _ (spliced ((false,E8 (.Call (.Attribute o "items" Dr) [] [] Dq) X.env)::Lh pos (Ey [] X.env))) _ _ s;refine Lu ?_;refine wpAny_Call_method0_late D0 DD<|Cf (ho Do s σ H _ I h) fun v B ⟨x,J,I1,r,d,f,ex,hd,a4,hok,q⟩=>?_;subst ex;cases r;obtain⟨vs,ep,Y,da,hS,bi⟩:=Bq I1 hd;have dO:=da.dictOf;obtain⟨bm,bo,h1,h2,h3⟩:=id da;refine⟨"dict","dict.items",F.plainAttrs_dict,Mi,F.type_dict_items,dO.typeIs,fun b q=>by cases q;exact⟨bm,h1,h2.2.1⟩,Li rfl<|PySem.evalArgs_none ?_⟩;refine JE Mi dO.typeIs F.entry_dict_items (F.args_dict_items_1 _) (meets_dict_items (za X.prog X.w) d hS) ⟨⟨vs,dO⟩,?_⟩;refine LR ?_;have I2:Inv X Do σ J { B with heap:=B.heap.push { cls:=.type "dict_items",data:=.fields #[.ref d] } }:=I1.kept (t':=B.toks) fun b o e=>Q8 _ e;have ai:(B.heap.push { cls:=.type "dict_items",data:=.fields #[.ref d] }).DictAt (za X.prog X.w) d vs ep:=da.at' fun o e=>Q8 _ e;have ay:(B.heap.push { cls:=.type "dict_items",data:=.fields #[.ref d] }).IsItemsView B.heap.objs.size d:=⟨_,Zk _ rfl,rfl,rfl⟩;have Dp:(f.map fun p=>((.inr p.1:Key),V.str p.2)).length=vs.length:=Paired.length Y;rw[Q5]at Dp;have DD:64<=sizeLine:=by rw[Ym];decide
 refine Calls.call_function_entry kind_sorted plain_sorted entry_sorted (args_sorted1 _) ?_;unfold Builtin.«sorted»;refine Q4 (m:=checkCount "sorted" 1 1 _)<|Q7 ?_;refine Q4 (kdx_collect (A:=X.A.in1) (knd:=za X.prog X.w) (I.ok.hd hc) ay ai (by lia) fun h' tk l ap hl R=>?_);have N:∀b o,(B.heap.push { cls:=.type "dict_items",data:=.fields #[.ref d] }).get? b=some o->h'.get? b=some o:=ap;generalize B.heap.push { cls:=.type "dict_items",data:=.fields #[.ref d] }=h0 at I2 R N;clear ai ay ap;have ln:l.length=f.length:=by rw[hl,←Dp]
 have a0:l.Nodup:=ZO.mpr<|R.rise.imp fun{a b} z=>Zu z;have z1:((l.zip f).map fun(q:Ej×(Str×Str))=>(q.1,[V.str q.2.1,V.str q.2.2])).map (·.1)=l:=by
  rw[ZB];exact List.map_fst_zip (by lia)
 have I3:Inv X Do σ (lays J<|(l.zip f).map fun(q:Ej×(Str×Str))=>(q.1,[V.str q.2.1,V.str q.2.2])) { B with heap:=h',toks:=tk }:=by
  refine Inv.lays (s:={ B with heap:=h0 }) I2 (by rwa[z1]) N (fun p y=>?_)<|fun p y=>?_
  ·obtain⟨c,D,rfl⟩:=Za.mp y;exact Yu<|R.above _ (JZ D).1
  ·obtain⟨c,D,rfl⟩:=Za.mp y;obtain⟨j,u⟩:=Yl.mp D;rw[Jy]at u;obtain⟨key,k,x,e1,hk,e2⟩:=R.pairs j _ u.1;obtain⟨p,L,P,rx⟩:=k6 Y e1;rw[Zj,u.2]at L;have L:=(Option.some.inj L).symm;subst L;have P:(Eu c.2.1:Key)=k:=P;rw[←P]at hk;obtain⟨t,et⟩:=Y6<|show Ld c.2.1 key=true from hk;exact⟨by show 2<=_;lia,[key,x],.cons ⟨t,et⟩<|.cons rx .nil,_,e2,rfl,0,rfl,rfl⟩
 have sm:zx J (lays J<|(l.zip f).map fun(q:Ej×(Str×Str))=>(q.1,[V.str q.2.1,V.str q.2.2])):=Bg fun p y=>by
  obtain⟨c,D,rfl⟩:=Za.mp y;exact I2.hok.fresh<|Yu<|R.above _ (JZ D).1
 have E:zy X.K (lays J<|(l.zip f).map fun(q:Ej×(Str×Str))=>(q.1,[V.str q.2.1,V.str q.2.2])) (f.map An.zb) (l.map V.ref):=by
  have at_:∀(j:Nat) (a:Ej) (p:Str×Str),l[j]?=some a->f[j]?=some p->lays J ((l.zip f).map fun(q:Ej×(Str×Str))=>(q.1,[V.str q.2.1,V.str q.2.2])) a=some (.tup [V.str p.1,V.str p.2]):=fun j a p ha y =>
   CS (p:=(a,[V.str p.1,V.str p.2])) (by rwa[z1]) (Za.mpr ⟨(a,p),Zm (i:=j)<|Jy.mpr ⟨ha,y⟩,rfl⟩)
  generalize lays J ((l.zip f).map fun(q:Ej×(Str×Str))=>(q.1,[V.str q.2.1,V.str q.2.2]))=Hs at at_;clear I3 sm z1 a0 R hl hok q hd Y a4 Dp bi
  induction l generalizing f with
  |nil =>
   cases f with
   |nil=>rfl
   |cons p f=>cases ln
  |cons a l ih =>
   cases f with
   |nil=>cases ln
   |cons p f =>
    have h0:=at_ 0 a p rfl rfl;exact⟨.ref a,l.map V.ref,rfl,⟨a,[V.str p.1,V.str p.2],rfl,xg.of h0,_,_,rfl,rfl,_,_,rfl,rfl,rfl⟩,ih f (by simpa using ln) fun j b q' hb bd=>at_ (j+1) b q' hb bd⟩
 generalize lays J ((l.zip f).map fun(q:Ej×(Str×Str))=>(q.1,[V.str q.2.1,V.str q.2.2]))=Hs at I3 sm E;have rv:yr (l.map V.ref) (l.map Ez):=by
  clear R hl a0 ln z1 E I3
  induction l with
  |nil=>exact .nil
  |cons a l ih=>exact .cons rfl ih
 obtain⟨ab,rd⟩:=zy.yw I3 _ _ _ E rv;have rd:LN h' (l.map Ez) (f.map An.zb) ab:=rd;have bl:Ev (f.map An.zb)=true:=Im hok;have l1:(l.map V.ref).length=(f.map An.zb).length:=by rwa[Q5,Q5]
 have l2:(l.map Ez).length=(f.map An.zb).length:=by rwa[Q5,Q5]
 have l3:(f.map An.zb).length<64:=by rwa[Q5]
 have S:∀d∈f.map An.zb,IY "str" d/\d.canLay0=true/\d.depth<=60:=fun d hd=>by
  obtain⟨p,y,rfl⟩:=Za.mp hd;obtain⟨h1,h2⟩:=hok p y;refine⟨rfl,?_,by show max 0 (max 0 0)+1<=60;decide⟩;show(Es p.1&&(Es p.2&&true))=true;rw[h1,h2];rfl
 have a8:∀d∈f.map An.zb,∀e∈f.map An.zb,W4 d e ((TO.list AnJ.wI).lt (GE d)<|GE e):=fun d hd e he=>by
  obtain⟨p,y,rfl⟩:=Za.mp hd;obtain⟨p',bt,rfl⟩:=Za.mp he;exact AnJ.pB [p.1,p.2] [p'.1,p'.2]
 generalize l.map Ez=g at rd rv l2;generalize l.map V.ref=Z at rv E l1;refine Q4 (VX ?_ (by rw[l2];lia));have M:(h'.push<|EQ "list" g.toArray 0).get? h'.objs.size=some (EQ "list" g.toArray 0):=Zk _ rfl;have kp:∀b o,h'.get? b=some o->(h'.push<|EQ "list" g.toArray 0).get? b=some o:=fun b o z=>Q8 _ z;show El _ _ _ _ _ { B with heap:=h'.push<|EQ "list" g.toArray 0,toks:=tk };generalize h'.push (EQ "list" g.toArray 0)=al at M kp;refine Q4<|ZW<|Ys slot_list_sort ⟨_,M,rfl⟩ entry_list_sort ?body<|args_list_sort _;refine MQ (s:={ B with heap:=al,toks:=tk }) (κ:=tuples'<|E3 "str" !=E3 "tuple") (lt:=fun i j=>(TO.list AnJ.wI).lt (GE<|(f.map An.zb).getD i .none)<|GE<|(f.map An.zb).getD j .none) M (by lia) (fun h2 s2 k1=>?_) fun p y=>⟨_,rfl,Q7 ⟨_,rfl,?_⟩⟩
 ·have U:LN s2.heap g (f.map An.zb) ab:=x4 (fun b o z=>k1 b o (Zu<|Zl z)<|kp b o z) _ _ _ bl rd;refine⟨fun Q' E' z=>Sv U (fun d a5=>(S d a5).1) (by lia) z,fun i j G u C c=>?_⟩;obtain⟨b1,r1⟩:=Xi i U (by lia);obtain⟨b2,r2⟩:=Xi j U (by lia);have m:∀k,k<g.length->(f.map An.zb).getD k .none∈f.map An.zb:=fun k hk=>by
   rw[ZY,Zb<|by lia];exact YF _
  have d1:=S _<|m i G;have d2:=S _<|m j u;exact Ox r1 r2 d1.1 d2.1 d1.2.1 d2.2.1 (by show X.A.units+1+1+_<_;lia) (a8 _ (m i G) _<|m j u) c
 ·have pp:p.Perm (EY<|EC g.length)/\Up (TO.list AnJ.wI) (fun i=>GE<|(f.map An.zb).getD i .none) p g.length:=by
   rcases y with⟨n2,rfl⟩|⟨n2,rfl⟩
   ·refine⟨Array.Perm.refl _,fun(i j:Nat) (an:i<=j) (u:j<g.length)=>?_⟩;have:i=j:=by lia
    subst this;exact(TO.list AnJ.wI).refl _
   ·obtain⟨p',e,a1,a2⟩:=NX (O:=TO.list AnJ.wI) (key:=fun i=>GE<|(f.map An.zb).getD i .none) (n:=g.length) (by lia);rw[e];exact⟨a1,a2⟩
  obtain⟨pp,up⟩:=pp;have T:p.toList.Perm (EC g.length):=by simpa using Array.perm_iff_toList_perm.mp pp
  have pm:∀i∈p.toList,i<Z.length:=fun i G=>by
   have:=YV.mp<|T.mem_iff.mp G;lia
  obtain⟨e,a7⟩:=sortedHeap_at (out:=EY<|p.toList.map fun i=>g.getD i EI) M;have nl:=Xj rv p.toList pm;have bj:∀b ob,h'.get? b=some ob->(sortedHeap al h'.objs.size g<|EY<|p.toList.map fun i=>g.getD i EI).get? b=some ob:=fun b ob q1=>by
   have hb:b<h'.objs.size:=Zl q1;rw[sortedHeap_old (Zu hb)<|Zl<|kp b ob q1];exact kp b ob q1
  have ax:p.toList.length=g.length:=by rw[T.length_eq,Z8]
  have aj:Hs h'.objs.size=none:=I3.hok.fresh<|Zd _;have lW:J h'.objs.size=none:=sm.free aj;have a3:=zz (o:=.lst<|p.toList.map fun i=>Z.getD i .non) aj;refine⟨.ref h'.objs.size,_,I3.laid (o:=.lst<|p.toList.map fun i=>Z.getD i .non) (t':=tk) bj (Zd _) ⟨by rw[Q5,ax,Ym];lia,_,e,nl,a7⟩,rfl,q _ (p.toList.map fun i=>f.getD i ("","")) _ _ ?_ ?_ (sm.trans a3) lW zC ?_⟩
  ·have:=T.map fun i=>f.getD i ("","");rw[show g.length=f.length by rw[l2,Q5],Rs]at this;exact this
  ·rw[Jz];intro i j G u an;rw[ZQ,ZQ];have:=up i j (Yu an) (by rw[Q5,ax]at u;exact u);unfold kn at this;rw[Q5,Zw]at G u;rw[ZE,ZE,VE p i G,VE p j u]at this;have pi:p[i]<f.length:=by
    have:=pm p[i] (by rw[←Vf G];exact YF _);rw[l1,Q5]at this;exact this
   have pj:p[j]<f.length:=by
    have:=pm p[j] (by rw[←Vf u];exact YF _);rw[l1,Q5]at this;exact this
   rw[Vf G,Vf u];have this:(TO.list AnJ.wI).le (GE<|(f.map An.zb).getD p[i] .none) (GE<|(f.map An.zb).getD p[j] .none):=by simpa using this
   rw[ID pi,ID pj]at this;exact WL this
  ·have:=zy.same a3 _ _<|Ng E p.toList pm;rw[show(p.toList.map fun i=>(f.map An.zb).getD i .none)=(p.toList.map fun i=>f.getD i ("","")).map An.zb by
    rw[ZB];refine Yp fun i G=>ID ?_;have:=pm i G;rw[l1,Q5]at this;exact this]at this
   exact this
end
section
variable {X:Cx}
def WZ (H₀:Hp)(t:TS):TS:=fun D g H=>t { D with nx:=fun b e=>∃d f c,e d=some (.frz f<|.dK c)/\(∀o u,H₀ d≠some (.frz o u))/\D.nx b (upd e d<|.dK c) } g H
theorem XZ {st:EW}(h:PS X st t):PS X st (WZ X.H₀ t):=by
 intro c s i H D I q;refine Cf (h c s i H _ I q) fun f o z=>?_;cases f with
 |next =>
  obtain⟨b,l,e,d,n,j,hd,g,q⟩:=z;exact⟨b,_,e.oX hd g,q⟩
 |ret v=>exact z
 |brk=>exact z
 |cont=>exact z
def aX (K:Ca):Dj->Hp->VK->Prop:=fun d H Q=>∃a T c b,d=[.ref a,.ty T]/\Rd H a (.dK c)/\LF K (.type "dict") (.type T)=some b/\Q (.bl b) H
theorem jG {K:Ca}(e:X.K=K:=by rfl):xf X (.builtin "isinstance") (aX K):=by
 subst e;intro o s A H y w Q I r h;obtain⟨a,T,n,b,rfl,f,g,q⟩:=h;obtain⟨u,l,rfl,j,c⟩:=vals2 r;cases(show l=E3 T from c);cases j;obtain⟨x,p,i,d,t,_⟩:=Bq I f;exact Yr Uk I.vq d.dictOf.typeIs g (fun z=>nomatch z) fun v=>⟨.bl b,H,I.tok _,rfl,q⟩
end
end L2
namespace An14
open PySem L2 An
seal L2.PS L2.tG L2.PE L2.PT L2.PW L2.PA L2.PG L2.oM L2.PI L2.oK L2.PC
abbrev wX0 (K)(x)(st)(f)(fd):=wX K x x st f fd
def top (i:Nat):Stmt:=PySem.Challenge.pw_annals_k14_whole_changes.main.body.getD i<|.Pass ⟨0,0,0,0⟩
def kinds:List String:=["NoneType","bool","int","str","list","tuple","dict"]
def xM:Dl:=[(Eu "leaf",.str "L"),(Eu "tree",.str "T"),(Eu "note",.str "N")]
theorem KP (t:Th):Us xM (Eu t.word:Key)=some (.str t.letter):=by
 cases t
 ·show Us xM (Eu "leaf":Key)=some (.str "L")
  decide +kernel
 ·show Us xM (Eu "tree":Key)=some (.str "T")
  decide +kernel
 ·show Us xM (Eu "note":Key)=some (.str "N")
  decide +kernel
section
variable {K:Ca}{H:Hp}
theorem BY {ls:Da}{v:V}(h:Dt K H (Th.leaf ls).dat v):∃a b,v=.ref a/\xg K H a [.str "leaf",.ref b]/\xg K H b (ls.map V.str):=by
 obtain⟨a,o,rfl,f,j,l,rfl,c,n,i,rfl,⟨b,p,rfl,e,g⟩,d⟩:=h;have c:j=.str "leaf":=c;have d:i=[]:=d;subst c d;rw[zy.ur g]at e;exact⟨a,b,rfl,f,e⟩
theorem BR {rs:Dg}{v:V}(h:Dt K H (Th.tree rs).dat v):∃a b,v=.ref a/\xg K H a [.str "tree",.ref b]/\Dt K H (.tuple<|rs.map zb) (.ref b):=by
 obtain⟨a,p,rfl,f,j,n,rfl,c,o,i,rfl,⟨b,l,rfl,e,g⟩,d⟩:=h;have c:j=.str "tree":=c;have d:i=[]:=d;subst c d;exact⟨a,b,rfl,f,b,l,rfl,e,g⟩
theorem NB {t:Str}{ps:Da}{w:Str}{v:V}(h:Dt K H (Th.note t ps w).dat v):∃a b,v=.ref a/\xg K H a [.str "note",.str t,.ref b,.str w]/\xg K H b (ps.map V.str):=by
 obtain⟨a,x,rfl,i,n,q,rfl,c,o,r,rfl,d,u,s,rfl,⟨b,y,rfl,g,j⟩,p,l,rfl,e,f⟩:=h;have c:n=.str "note":=c;have d:o=.str t:=d;have e:p=.str w:=e;have f:l=[]:=f;subst c d e f;rw[zy.ur j]at g;exact⟨a,b,rfl,i,g⟩
theorem uW {t:Th}(h:Dt K H t.dat v):∃a r,v=.ref a/\xg K H a (.str t.word::r):=by
 cases t with
 |leaf ls=>obtain⟨a,b,e,c,_⟩:=BY h;exact⟨a,_,e,c⟩
 |tree rs=>obtain⟨a,b,e,c,_⟩:=BR h;exact⟨a,_,e,c⟩
 |note t ps w=>obtain⟨a,b,e,c,_⟩:=NB h;exact⟨a,_,e,c⟩
theorem WJ (h:Dt K H (zb r) v):∃a,v=.ref a/\xg K H a [.str r.1,.str r.2]:=by
 obtain⟨a,l,rfl,e,g,j,rfl,b,i,f,rfl,c,d⟩:=h;have b:g=.str r.1:=b;have c:i=.str r.2:=c;have d:f=[]:=d;subst b c d;exact⟨a,rfl,e⟩
theorem HU {rs:Dg}{i:Nat}{x:V}(h:zy K H (rs.map zb) xs)(e:xs[i]?=some x):∃r a,rs[i]?=some r/\x=.ref a/\xg K H a [.str r.1,.str r.2]:=by
 obtain⟨d,b,c⟩:=h.get e;rw[Zj]at b;cases q:rs[i]? with
 |none=>rw[q]at b;cases b
 |some r =>
  rw[q]at b;have b:zb r=d:=Option.some.inj b;subst b;obtain⟨a,f,g⟩:=WJ c;exact⟨r,a,rfl,f,g⟩
end
def IB (K:Ca):Sp:=fun b H Q _=>∃v t,b=[v]/\Dt K H (Th.dat t) v/\Q (.str t.letter) H
def Xx (K:Ca):Sp:=fun c H Q _=>∃v b,c=[v]/\Dt K H (.tuple<|b.map zb) v/\b.length<=1000/\∀l,H l=none->Q (.ref l) (upd H l<|.lst<|(z8 b).map V.str)
def NY (K:Ca):Sp:=fun c H Q _=>∃v t,c=[v]/\Dt K H (Th.dat t) v/\t.Good/\∀l b,zx H b->H l=none->b l=some (.lst<|t.parts.map V.str)->Q (.ref l) b
def GW:Sp:=fun b H Q _=>∃x,b=[.str x]/\x.length<=1000/\Q (.str<|counted x) H
def Bx (K:Ca):Sp:=fun c H Q _=>∃v t,c=[v]/\Dt K H (Th.dat t) v/\t.Good/\∀b,zx H b->Q (.str t.sp) b
def HX (K:Ca):Sp:=fun c H Q _=>∃v t,c=[v]/\Dt K H (Th.dat t) v/\t.Good/\∀b,zx H b->Q (.int<|dg t.sp) b
structure Txt (P:Ek)(w:Eo)(K:Ca)(mg:Str->Dc)(t1 t2 t3 t4 t5 t6 t7:Tok)(aL aC aN aT aA b1 b2:Ej):Prop where
 len:mg "len"=none
 all:mg "all"=none
 ord:mg "ord"=none
 isinstance:mg "isinstance"=none
 str:mg "str"=none
 set:mg "set"=none
 sorted:mg "sorted"=none
 tuple:mg "tuple"=none
 list:mg "list"=none
 max:mg "max"=none
 int:mg "int"=none
 bool:mg "bool"=none
 range:mg "range"=none
 dict:mg "dict"=none
 any:mg "any"=none
 enumerate:mg "enumerate"=none
 reversed:mg "reversed"=none
 rE:mg "LONGEST_LINE"=some (.int 20 t1)
 rN:mg "LONGEST_LABEL"=some (.int 8 t2)
 m5:mg "MOST_PARENTS"=some (.int 2 t3)
 PERCENT:mg "PERCENT"=some (.int 37 t4)
 qw:mg "MOST_LABELS"=some (.int 4 t7)
 rM:mg "DIGEST_FACTOR"=some (.int 31 t5)
 rF:mg "DIGEST_BOUND"=some (.int 97 t6)
 LETTERS:mg "LETTERS"=some (.ref aL)
 pJ:mg "NoName"=some (.ref aN)
 m9:mg "NoThing"=some (.ref aT)
 mR:mg "AnnalsError"=some (.ref aA)
 pH:mg "NoFit"=some (.ref b1)
 tR:mg "BadFiles"=some (.ref b2)
 lJ:mg "Shelf"=some (.ref aC)
 rB:Lg K aN U4 "ValueError.__new__"=true
 nu:Lg K aT U4 "ValueError.__new__"=true
 pX:Lg K b1 U4 "ValueError.__new__"=true
 lO:Ln K (.ref b1) (.ref b1)=some true
 lq:Ln K (.ref b2) (.ref b1)=some false
 lQ:Ln K (.ref b2) (.ref b2)=some true
 tH:Lg K b2 U4 "ValueError.__new__"=true
 kd:KD P w K aL xM
 cls:Cls K aC
 n1:vZ K aC "thing_by_name"
 n2:vZ K aC "name_by_thing"
 n3:vZ K aC "next_numbers"
 kit:∀a∈kinds,∀b∈kinds,LF K (.type a) (.type b)=some (a==b||(a=="bool"&&b=="int"))
theorem Ra (d:Er):U1 d∈kinds:=by cases d<;>simp[U1,kinds]
def cO:Er->Str
 | .str x=>x
 |_=>""
def Hv:Er->Bool
 | .tuple ds=>ds.all BH&&(decide (ds.length<=2)&&decide ((AxS.uniq<|ds.map cO).length=ds.length))
 |_=>false
inductive pI (K:Ca)(vs:Dj)(H:Hp)(Q:VK)(e3:XK):Prop
 |mk (d:Er) (v:V) (h0:vs=[v]) (h1:Dw K H d v) (h2:small d=true) (h3:∀H',zx H H'->Q (.bl<|Hv d) H'):pI K vs H Q e3
def UV:Er->Str
 | .tuple (.str l::_)=>l
 |_=>""
def HS:Er->Bool
 | .tuple ds=>ds.all UY&&UG (ds.map UV)
 |_=>false
inductive pO (K:Ca)(vs:Dj)(H:Hp)(Q:VK)(e3:XK):Prop
 |mk (d:Er) (v:V) (h0:vs=[v]) (h1:Dw K H d v) (h2:small d=true) (h3:(∀ds,d=.tuple ds->ds.length<=63)) (h4:∀H',zx H H'->Q (.bl<|HS d) H'):pO K vs H Q e3
theorem NS {K:Ca}(h:Dw K H d v)(r:UY d=true):∃(t:Ej) (y:V),v=.ref t/\xg K H t [.str<|UV d,y]/\zV (UV d)=true:=by
 match d,r with
 | .tuple [l,n],r =>
  have r:(uR l&&BH n)=true:=r;rw[Zi]at r;obtain⟨t,p,rfl,c,g,o,rfl,b,i,f,rfl,j,e⟩:=h;have e:f=[]:=e;subst e;cases l with
  |str x=>cases(show g=_ from b);exact⟨t,i,rfl,c,r.1⟩
  |none=>cases r.1
  |bool _=>cases r.1
  |int _=>cases r.1
  |list _=>cases r.1
  |tuple _=>cases r.1
  |dict _=>cases r.1
theorem BG (h:zV x=true):Es x=true:=by
 unfold zV at h;rw[Zi]at h;rw[yM];intro c b;have:=ZI.mp h.2 c b;unfold UO at this;rw[Zi]at this;have:=Zr this.2;lia
def N7 (b:Df)(i:Nat):PyData:=(b[i]?).getD .none
def UJ (word:Str)(b:Df):Bool:=decide (word="leaf")&&(decide (b.length=1)&&Xg (N7 b 0))
def UL (word:Str)(b:Df):Bool:=decide (word="tree")&&(decide (b.length=1)&&HS (N7 b 0))
inductive rT (K:Ca)(b:Str->Df->Bool)(vs:Dj)(H:Hp)(Q:VK)(e3:XK):Prop
 |mk (word:Str) (a:Ej) (ds:Df) (xs:Dj) (h0:vs=[.str word,.ref a]) (h1:xg K H a xs) (h2:wR K H ds xs) (h3:yF ds=true) (h4:ds.length<=63) (h5:(∀e∈ds,∀es,e=.tuple es->es.length<=63)) (h6:∀H',zx H H'->Q (.bl<|b word ds) H'):rT K b vs H Q e3
def NA (word:Str)(b:Df):Bool:=decide (word="note")&&(decide (b.length=3)&&(BH (N7 b 0)&&(Hv (N7 b 1)&&U3 (N7 b 2))))
def RU:Er->Bool
 | .tuple (.str word::ds)=>UJ word ds||(UL word ds||NA word ds)
 |_=>false
def narrow (d:Er):Prop:=∀b,d=.tuple b->b.length<=63/\∀e∈b,∀c,e=.tuple c->c.length<=63
inductive sJ (K:Ca)(vs:Dj)(H:Hp)(Q:VK)(e3:XK):Prop
 |mk (word:Str) (ds:Df) (v:V) (h0:vs=[v]) (h1:Dw K H (.tuple (.str word::ds)) v) (h2:small (.tuple (.str word::ds))=true) (h3:narrow<|.tuple (.str word::ds)) (h4:(UJ word ds=true\/UL word ds=true)) (h5:∀H',zx H H'->Q (.bl true) H'):sJ K vs H Q e3
theorem Sd {K:Ca}{H':Hp}{lo:Option Int}{v:V}(hs:xg K H a xs)(h:(v=.ref a/\H'=H/\UA xs lo hi=xs)\/(∃p,H p=none/\v=.ref p/\H'=upd H p (.tup<|UA xs lo hi))) :
  ∃p:Ej,v=.ref p/\zx H H'/\xg K H' p (UA xs lo hi):=by
 rcases h with⟨rfl,rfl,e2⟩|⟨p,np,rfl,rfl⟩
 ·exact⟨a,rfl,zx.refl _,by rw[e2];exact hs⟩
 ·exact⟨p,rfl,zz np,xg.of zC⟩
inductive pU (K:Ca)(aT:Ej)(vs:Dj)(H:Hp)(Q:VK)(e3:XK):Prop
 |mk (word:Str) (ds:Df) (v:V) (h0:vs=[v]) (h1:Dw K H (.tuple (.str word::ds)) v) (h2:small (.tuple (.str word::ds))=true) (h3:narrow<|.tuple (.str word::ds)) (h4:(UJ word ds=true\/UL word ds=true)) (h5:∀H',zx H H'->Q v H'):pU K aT vs H Q e3
inductive uv (e0:Dj)(e1:Hp)(e2:VK)(e3:XK):Prop
 |mk  (h0:False):uv e0 e1 e2 e3
theorem never {K:Ca}:yu P w K mg base Ck k f fd ps uv :=
 ⟨fun _ _ _ _ ⟨h⟩=>h.elim,fun _ _ _ _ _ _ _ _ _ _ _ _ _ ⟨h⟩=>h.elim⟩
def IM (S:Di):Er->Bool
 | .str x=>decide (x∈S.map En.nm)
 |_=>false
inductive qy (P:Ek)(w:Eo)(K:Ca)(C:Ej)(vs:Dj)(H:Hp)(Q:VK)(e3:XK):Prop
 |mk (a:Ej) (fp:Dd) (S:Di) (e:En) (t:Ej) (h0:vs=[.ref a,.str e.nm,.ref t]) (h1:xr P w K C H a fp S) (h2:nU e) (h3:Dt K H e.d<|.ref t) (h4:e.d∉S.map (·.d)) (h5:e.nm∉S.map En.nm) (h6:S.length<2000) (h7:∀H',Off fp H H'->xr P w K C H' a fp (S++[e])->Q .non H'):qy P w K C vs H Q e3
def ar (Dm:Dl):Er->Bool
 | .str x=>(Us Dm (Eu x:Key)).isSome
 |_=>false
inductive oH (K:Ca)(vs:Dj)(H:Hp)(Q:VK)(e3:XK):Prop
 |mk (d1:Ej) (Dm:Dl) (d:Er) (v:V) (h0:vs=[.ref d1,v]) (h1:H d1=some (.dK Dm)) (h2:Dw K H d v) (h3:Q (.bl<|ar Dm d) H):oH K vs H Q e3
inductive ug (P:Ek)(w:Eo)(K:Ca)(C aN:Ej)(vs:Dj)(H:Hp)(Q:VK)(E:XK):Prop
 |mk (a:Ej) (fp:Dd) (S:Di) (d:Er) (v:V) (h0:vs=[.ref a,v]) (h1:xr P w K C H a fp S) (h2:Dw K H d v) (h3:(IM S d=true->Q .non H)) (h4:(IM S d=false->E (.ref aN) none H)):ug P w K C aN vs H Q E
inductive pC (P:Ek)(w:Eo)(K:Ca)(C:Ej)(vs:Dj)(H:Hp)(Q:VK)(e3:XK):Prop
 |mk (a:Ej) (fp:Dd) (S:Di) (d:Er) (v:V) (h0:vs=[.ref a,v]) (h1:xr P w K C H a fp S) (h2:Dw K H d v) (h3:Q (.bl<|IM S d) H):pC P w K C vs H Q e3
inductive vY (P:Ek)(w:Eo)(K:Ca)(C aN:Ej)(vs:Dj)(H:Hp)(Q:VK)(E:XK):Prop
 |mk (a:Ej) (fp:Dd) (S:Di) (d:Er) (v:V) (h0:vs=[.ref a,v]) (h1:xr P w K C H a fp S) (h2:Dw K H d v) (h3:(∀e∈S,d=.str e.nm->∀t,Dt K H e.d (.ref t)->Q (.ref t) H)) (h4:(IM S d=false->E (.ref aN) none H)):vY P w K C aN vs H Q E
inductive rC (P:Ek)(w:Eo)(K:Ca)(C:Ej)(vs:Dj)(H:Hp)(Q:VK)(e3:XK):Prop
 |mk (a f:Ej) (fp:Dd) (S:Di) (x:Str) (ws:Da) (h0:vs=[.ref a,.str x,.ref f]) (h1:xr P w K C H a fp S) (h2:(∀e∈S,BF e)) (h3:xg K H f<|ws.map V.str) (h4:(∀y∈ws,Es y=true)) (h5:yQ S x ws=true) (h6:Q .non H):rC P w K C vs H Q e3
inductive rD (P:Ek)(w:Eo)(K:Ca)(C:Ej)(vs:Dj)(H:Hp)(Q:VK)(e3:XK):Prop
 |mk (a:Ej) (fp:Dd) (S:Di) (t:Th) (v:V) (h0:vs=[.ref a,v]) (h1:xr P w K C H a fp S) (h2:(∀e∈S,BF e)) (h3:Dt K H t.dat v) (h4:t.word≠"note") (h5:namesOk S t=true) (h6:∀H',zx H H'->Q .non H'):rD P w K C vs H Q e3
def TX (P:Ek)(w:Eo)(K:Ca)(C:Ej)(H:Hp)(a:Ej)(f:Dd)(S:Di)(t:Th)(c:Hp)(b:Di)(e:En):Prop :=
 Off f H c/\xr P w K C c a f b/\e∈b/\e.d=t.dat/\(b=S\/(b=S++[e]/\e=Gz S t/\t.dat∉S.map (·.d)))
inductive tD (P:Ek)(w:Eo)(K:Ca)(C:Ej)(vs:Dj)(H:Hp)(Q:VK)(e3:XK):Prop
 |mk (a:Ej) (fp:Dd) (S:Di) (t:Th) (v:V) (word:Str) (ds:Df) (h0:vs=[.ref a,v]) (h1:xr P w K C H a fp S) (h2:(∀e∈S,BF e)) (h3:Dt K H t.dat v) (h4:t.dat=.tuple (.str word::ds)) (h5:small t.dat=true) (h6:narrow t.dat) (h7:(UJ word ds=true\/UL word ds=true)) (h8:t.Good) (h9:S.length<2000) (h10:(∀h,(xq S h).getD 0<1000000)) (h11:t.word≠"note") (h12:namesOk S t=true) (h13:∀H2 S' e,TX P w K C H a fp S t H2 S' e->Q (.str e.nm) H2):tD P w K C vs H Q e3
inductive pR (P:Ek)(w:Eo)(K:Ca)(C:Ej)(vs:Dj)(H:Hp)(Q:VK)(e3:XK):Prop
 |mk (x dx:Ej) (h0:vs=[.ref x,.non]) (h1:H x=some (.ins C dx [])) (h2:H dx=some (.own x)) (h3:dx≠x) (h4:∀fp H',(∀c∈fp,c=x\/c=dx\/H c=none)->Off [x] H H'->xr P w K C H' x fp []->Q .non H'):pR P w K C vs H Q e3
section
variable {P:Ek}{w:Eo}{K:Ca}{mg:Str->Dc}{base:EB}{t1 t2 t3 t4 t5 t6 t7:Tok}{aL aC aN aT aA b1 b2:Ej}(T:Txt P w K mg t1 t2 t3 t4 t5 t6 t7 aL aC aN aT aA b1 b2)
theorem Txt.is {T:String}(t:Txt P w K mg t1 t2 t3 t4 t5 t6 t7 aL aC aN aT aA b1 b2)(b:T∈kinds):LF K (.type<|U1 d) (.type T)=some (U1 d==T||(U1 d=="bool"&&T=="int")):=t.kit _ (Ra d) _ b
namespace Aa
abbrev st:Stmt:=top 14
theorem sc:zu ["sign"] ["sign"] (zF st):=Cn
include T in
theorem ok (F:wX0 K "is_sign" st f fd):yu P w K mg base Ck 1 f fd ["sign"] RN:=by
 refine F.ok sc fun _ _ _ _ H i Q E g h=>?_;obtain⟨c,rfl,k⟩:=h;refine⟨_,(zE<|zM<|xU (Id IU IU zq (pv 0) zq)<|qP<|yT aQ (zO FB (by rfl) T.ord PyProof.Rows.boot_ord<|zA (pv 0) zB) (jZ (v:=.int 37) rfl T.PERCENT ⟨_,rfl⟩)<|zW _),?_⟩;refine⟨_,rfl,_,_,rfl,rfl,_,rfl,?_⟩;rw[PP c 32 " "<|by decide +kernel];refine Ux (fun b=>?_)<|fun b=>?_
 ·refine⟨_,_,rfl,rfl,_,rfl,?_⟩;rw[one_le c 126 "~"<|by decide +kernel];refine Ux (fun d=>?_)<|fun d=>?_
  ·refine⟨_,rfl,_,rfl,rfl,rfl,?_⟩;have e:UK c=!decide (V.int (((⟨#[c]⟩:Str).cps.getD 0 0:Nat):Int)=V.int 37):=by
    unfold UK;rw[b,d];show decide (c≠37)=!decide (V.int (c:Int)=V.int 37);rw[eq_comm];exact CV ⟨fun h z=>h (by rw[z];rfl),fun h z=>h (by injection z with z;lia)⟩
   rw[e]at k;exact k
  ·have e:UK c=false:=by
    unfold UK;rw[b,Yd.mpr d];rfl
   rw[e]at k;exact k
 ·have e:UK c=false:=by
   unfold UK;rw[Yd.mpr b];rfl
  rw[e]at k;exact⟨_,rfl,k⟩
end Aa
namespace Ab
abbrev st:Stmt:=top 15
theorem sc:zu ["thing"] ["thing"] (zF st):=Cn
include T in
theorem ok (F:wX0 K "is_line" st f fd)(q:wV P w K mg base 1 "is_sign" ["sign"] RN):yu P w K mg base Ck 2 f fd ["thing"] (RM K):=by
 refine F.ok sc fun _ _ _ _ H A Q E s h=>?_;obtain⟨d,v,rfl,hd,u,k⟩:=h;refine⟨_,(zE<|zM<|xU (zO (z6 (K:=K)) (by rfl) T.isinstance ZJ<|zA (pv 0)<|zA (xI (v:=.ty "str") rfl T.str Yx rfl) zB)<|xU (yT ND (zO qK (by rfl) T.len Yw<|zA (pv 0) zB) (jZ (v:=.int 20) rfl T.rE ⟨_,rfl⟩)<|zW _)<|qP<|zO (kC rfl) (by rfl) T.all Jx<|zA (xN (sc:=zF st) (N:=["thing"]) (N':=["sign"]) (src:=[none]) .a rfl rfl rfl (K5<|pv 0) (fun _ _ _ _=>(zL (i:=0) (show(["sign"]:Da).Nodup by decide +kernel) rfl (EJ rfl))) (fun _ _ _ _=>xS) (fun _ _ _ _=>(zI q s.m<|zA (pv 0) zB))) zB),?_⟩;refine⟨_,rfl,_,_,d,_,rfl,hd,T.is<|by simp[kinds],_,rfl,?_⟩;cases d with
 |str x =>
  cases(show v=_ from hd);have B:x.length<=1000:=Zr u;refine Uv ⟨_,rfl,x,rfl,zr<|by lia,_,_,rfl,rfl,_,rfl,Ux (fun g=>?_)<|fun g=>?_⟩
  ·have g:x.length<=20:=by have:=Zr g;lia
   refine⟨_,rfl,_,rfl,GP (fun i l n j=>∃o,n=[o]/\j=H/\l=(((cs x).take i).map UK).map V.bl) ⟨none,rfl,rfl,rfl⟩ (zr<|by lia) ?_ ?_ ?_⟩
   ·rintro i l n j y ⟨o,rfl,rfl,rfl⟩;rw[Q5,Q5,Zx];lia
   ·rintro i c l n j r ⟨o,rfl,rfl,rfl⟩;refine⟨_,rfl,c,rfl,_,rfl,rfl,?_⟩;rw[xB<|O8 r,Zg];rfl
   ·rintro l n j ⟨o,rfl,rfl,rfl⟩ p t;refine⟨p,_,rfl,yx.of zC,?_⟩;rw[zm,ZF,all_map];have e:U3 (.str x)=(cs x).all UK:=by
     show(decide (x.length<=20)&&(cs x).all UK)=_;rw[Zf g];rfl
    rw[e]at k;exact k _<|zz t
  ·have e:U3 (.str x)=false:=by
    show(decide (x.length<=20)&&(cs x).all UK)=_;rw[Zo<|fun z=>g<|Zf<|by lia];rfl
   rw[e]at k;exact k _<|zx.refl _
 |none=>exact Ut<|k _<|zx.refl _
 |bool b=>exact Ut<|k _<|zx.refl _
 |int i=>exact Ut<|k _<|zx.refl _
 |list ds=>exact Ut<|k _<|zx.refl _
 |tuple ds=>exact Ut<|k _<|zx.refl _
 |dict Dm=>exact Ut<|k _<|zx.refl _
end Ab
namespace Ac
abbrev st:Stmt:=top 16
theorem sc:zu ["thing"] ["thing"] (zF st):=Cn
include T in
theorem ok (F:wX0 K "is_lines" st f fd)(r:wV P w K mg base 2 "is_line" ["thing"]<|RM K):yu P w K mg base Ck 3 f fd ["thing"] (Fg K):=by
 refine F.ok sc fun _ _ _ _ H G Q E u h=>?_;obtain⟨d,v,rfl,hd,A,k⟩:=h;refine⟨_,(zE<|zM<|xU (zO (z6 (K:=K)) (by rfl) T.isinstance ZJ<|zA (pv 0)<|zA (xI (v:=.ty "tuple") rfl T.tuple Jk rfl) zB)<|qP<|zO (kC rfl) (by rfl) T.all Jx<|zA (xN (sc:=zF st) (N:=["thing"]) (N':=["line"]) (src:=[none]) .a rfl rfl rfl (jW<|pv 0) (fun _ _ _ _=>(zL (i:=0) (show(["line"]:Da).Nodup by decide +kernel) rfl (EJ rfl))) (fun _ _ _ _=>xS) (fun _ _ _ _=>(zI r u.m<|zA (pv 0) zB))) zB),?_⟩;refine⟨_,rfl,_,_,d,_,rfl,hd,T.is<|by simp[kinds],_,rfl,?_⟩;cases d with
 |tuple ds =>
  obtain⟨a,xs,rfl,n,l⟩:=hd;obtain⟨D,sa⟩:=qY A;have q:=l.length;refine Uv ⟨_,rfl,a,rfl,⟨_,n⟩,jH (K:=K) (a:=a) (xs:=xs) (fun i g j e=>∃o,j=[o]/\zx H e/\g=((ds.take i).map U3).map V.bl) ⟨none,rfl,zx.refl _,rfl⟩ (zr<|by lia) ?_ ?_ ?_⟩
  ·rintro i g j e C ⟨o,rfl,c,rfl⟩;refine⟨c.yd n,?_⟩;rw[Q5,Q5,Zx];lia
  ·rintro i x g j e y ⟨o,rfl,c,rfl⟩;obtain⟨d,hd,s⟩:=l.get y;refine⟨_,rfl,d,x,rfl,s.same c,y7 sa hd,fun B t=>⟨_,rfl,c.trans t,?_⟩⟩;rw[xB hd,Zg];rfl
  ·rintro g j e ⟨o,rfl,c,rfl⟩ p z;refine⟨p,_,rfl,yx.of zC,?_⟩;rw[q,ZF,all_map];exact k _<|c.trans<|zz z
 |none=>exact Ut<|k _<|zx.refl _
 |bool b=>exact Ut<|k _<|zx.refl _
 |int i=>exact Ut<|k _<|zx.refl _
 |list ds=>exact Ut<|k _<|zx.refl _
 |str x=>exact Ut<|k _<|zx.refl _
 |dict Dm=>exact Ut<|k _<|zx.refl _
end Ac
namespace Ad
abbrev st:Stmt:=top 17
theorem sc:zu ["thing"] ["thing"] (zF st):=Cn
include T in
theorem ok (F:wX0 K "is_label" st f fd):yu P w K mg base Ck 1 f fd ["thing"] (B9 K):=by
 refine F.ok sc fun _ _ _ _ H B Q E A h=>?_;obtain⟨d,v,rfl,hd,u,k⟩:=h;refine⟨_,(zD (yC (qF<|zZ (K:=K)<|zO (z6 (K:=K)) (by rfl) T.isinstance ZJ<|zA (pv 0)<|zA (xI (v:=.ty "str") rfl T.str Yx rfl) zB) (zE<|zM j2) zS)<|zE<|zM<|xU (Id ND ND zH (zO qK (by rfl) T.len Yw<|zA (pv 0) zB)<|jZ (v:=.int 8) rfl T.rN ⟨_,rfl⟩)<|qP<|zO (kC rfl) (by rfl) T.all Jx<|zA (xN (sc:=zF st) (N:=["thing"]) (N':=["sign"]) (src:=[none]) .a rfl rfl rfl (K5<|pv 0) (fun _ _ _ _=>(zL (i:=0) (show(["sign"]:Da).Nodup by decide +kernel) rfl (EJ rfl))) (fun _ _ _ _=>xS) (fun _ _ _ _=>(Id IU IU zq (pv 0) zq))) zB),?_⟩
 refine⟨_,rfl,_,_,d,_,rfl,hd,T.is<|by simp[kinds],_,rfl,?_⟩;cases d with
 |str x =>
  cases(show v=_ from hd);have C:x.length<=1000:=Zr u;refine Ut ?_;refine⟨_,rfl,x,rfl,zr<|by lia,_,_,rfl,rfl,_,rfl,Ux (fun g=>?_)<|fun g=>?_⟩
  ·refine⟨_,_,rfl,rfl,_,rfl,Ux (fun j=>?_)<|fun j=>?_⟩
   ·have g:1<=x.length:=by have:=Zr g;lia
    have j:x.length<=8:=by have:=Zr j;lia
    refine⟨_,rfl,_,rfl,GP (fun i n q l=>∃o,q=[o]/\l=H/\n=(((cs x).take i).map UO).map V.bl) ⟨none,rfl,rfl,rfl⟩ (zr<|by lia) ?_ ?_ ?_⟩
    ·rintro i n q l y ⟨o,rfl,rfl,rfl⟩;rw[Q5,Q5,Zx];lia
    ·rintro i c n q l s ⟨o,rfl,rfl,rfl⟩;rw[xB<|O8 s,Zg];refine⟨_,rfl,_,_,rfl,rfl,_,rfl,?_⟩;rw[PP c 97 "a"<|by decide +kernel];refine Ux (fun r=>?_)<|fun r=>?_
     ·refine⟨_,_,rfl,rfl,?_⟩;rw[one_le c 122 "z"<|by decide +kernel];have e:UO c=decide (c<=122):=by unfold UO;rw[r];rfl
      rw[e];exact⟨_,rfl,rfl,rfl⟩
     ·have e:UO c=false:=by unfold UO;rw[Yd.mpr r];rfl
      rw[e];exact⟨_,rfl,rfl,rfl⟩
    ·rintro n q l ⟨o,rfl,rfl,rfl⟩ p t;refine⟨p,_,rfl,yx.of zC,?_⟩;rw[zm,ZF,all_map];have e:uR (.str x)=(cs x).all UO:=by
      show(decide (1<=x.length)&&decide (x.length<=8)&&(cs x).all UO)=_;rw[Zf g,Zf j];rfl
     rw[e]at k;exact k _<|zz t
   ·have e:uR (.str x)=false:=by
     show(decide (1<=x.length)&&decide (x.length<=8)&&(cs x).all UO)=_;rw[Zo (p:=x.length<=8)<|fun z=>j<|Zf<|by lia,Jt];rfl
    rw[e]at k;exact k _<|zx.refl _
  ·have e:uR (.str x)=false:=by
    show(decide (1<=x.length)&&decide (x.length<=8)&&(cs x).all UO)=_;rw[Zo (p:=1<=x.length)<|fun z=>g<|Zf<|by lia];rfl
   rw[e]at k;exact⟨_,rfl,k _<|zx.refl _⟩
 |none=>exact Uv<|k _<|zx.refl _
 |bool b=>exact Uv<|k _<|zx.refl _
 |int i=>exact Uv<|k _<|zx.refl _
 |list ds=>exact Uv<|k _<|zx.refl _
 |tuple ds=>exact Uv<|k _<|zx.refl _
 |dict Dm=>exact Uv<|k _<|zx.refl _
end Ad
namespace Ae
abbrev st:Stmt:=top 18
theorem sc:zu ["thing"] ["thing"] (zF st):=Cn
include T in
theorem ok (F:wX0 K "is_row" st f fd)(s:wV P w K mg base 1 "is_label" ["thing"]<|B9 K):yu P w K mg base Ck 2 f fd ["thing"] (TJ K):=by
 refine F.ok sc fun _ _ _ _ H C Q E t h=>?_;obtain⟨d,v,rfl,hd,u,k⟩:=h;refine⟨_,(zE<|zM<|xU (zO (z6 (K:=K)) (by rfl) T.isinstance ZJ<|zA (pv 0)<|zA (xI (v:=.ty "tuple") rfl T.tuple Jk rfl) zB)<|xU (yT qJ (zO z9 (by rfl) T.len Yw<|zA (pv 0) zB) zH<|zW _)<|xU (zI s t.m<|zA (zR (yt:Cg _<|wZ K) (pv 0) zH) zB)<|qP<|zO (z6 (K:=K)) (by rfl) T.isinstance ZJ<|zA (zR (yt:Cg _<|wZ K) (pv 0) zH)<|zA (xI (v:=.ty "str") rfl T.str Yx rfl) zB),?_⟩;refine⟨_,rfl,_,_,d,_,rfl,hd,T.is<|by simp[kinds],_,rfl,?_⟩;cases d with
 |tuple ds =>
  obtain⟨a,y,rfl,p,r⟩:=hd;obtain⟨B,sa⟩:=qY u;have q:=r.length;refine Uv ⟨_,rfl,a,_,rfl,.inr p,rfl,_,rfl,Ux (fun c=>?_)<|fun c=>?_⟩
  ·have c:y.length=2:=by have:=Zr c;injection this with z;lia
   match ds,r,q,sa,k with
   |[l,n],⟨x0,r0,e0,d0,x1,r1,e1,d1,j⟩,_,sa,k =>
    have j:r1=[]:=j;subst j e1 e0;refine⟨_,rfl,a,_,_,_,rfl,rfl,p,rfl,l,_,rfl,d0,y7 (i:=0) sa rfl,fun A g=>⟨_,rfl,Ux (fun o=>?_)<|fun o=>?_⟩⟩
    ·refine⟨_,rfl,a,_,_,_,rfl,rfl,g.yd p,rfl,_,_,n,_,rfl,d1.same g,T.is<|by simp[kinds],?_⟩;have e:UY (.tuple [l,n])=(U1 n=="str"||(U1 n=="bool"&&"str"=="int")):=by
      show(uR l&&BH n)=_;rw[o];cases n<;>rfl
     rw[e]at k;exact k _ g
    ·have e:UY (.tuple [l,n])=false:=by
      show(uR l&&BH n)=_;rw[Yd.mpr o];rfl
     rw[e]at k;exact k _ g
   |[],_,hl,_,_=>exact absurd (hl.symm.trans c) (by simp)
   |[_],_,hl,_,_=>exact absurd (hl.symm.trans c) (by simp)
   |_::_::_::_,_,hl,_,_=>exact absurd (hl.symm.trans c) (by simp)
  ·have e:UY (.tuple ds)=false:=by
    match ds,q with
    |[_,_],hl=>exact absurd (Zf (by rw[hl];rfl)) c
    |[],_=>rfl
    |[_],_=>rfl
    |_::_::_::_,_=>rfl
   rw[e]at k;exact k _<|zx.refl _
 |none=>exact Ut<|k _<|zx.refl _
 |bool b=>exact Ut<|k _<|zx.refl _
 |int i=>exact Ut<|k _<|zx.refl _
 |list ds=>exact Ut<|k _<|zx.refl _
 |str x=>exact Ut<|k _<|zx.refl _
 |dict Dm=>exact Ut<|k _<|zx.refl _
end Ae
namespace Af
end Af
namespace Ag
abbrev st:Stmt:=top 19
theorem sc:zu ["thing","labels"] ["thing"] (zF st):=Cn
include T in
theorem ok (F:wX0 K "is_rows" st f fd)(Z:wV P w K mg base 2 "is_row" ["thing"]<|TJ K):yu P w K mg base Ck 3 f fd ["thing"] (pO K):=by
 refine F.ok sc fun _ _ _ _ H vs Q E X h=>?_;obtain⟨d,v,rfl,hd,sm,B,k⟩:=h;refine⟨_,(zD (yC (PW.pt<|vL (qF<|zZ (K:=K)<|zO (z6 (K:=K)) (by rfl) T.isinstance ZJ<|zA (pv 0)<|zA (xI (v:=.ty "tuple") rfl T.tuple Jk rfl) zB)<|uP<|qF<|zZ (K:=K)<|zO (kC rfl) (by rfl) T.all Jx<|zA (xN (sc:=zF st) (N:=["thing","labels"]) (N':=["row"]) (src:=[none]) .a rfl rfl rfl (jW<|pv 0) (fun _ _ _ _=>(zL (i:=0) (show(["row"]:Da).Nodup by decide +kernel) rfl (EJ rfl))) (fun _ _ _ _=>xS) (fun _ _ _ _=>(zI Z X.m<|zA (pv 0) zB))) zB) (zE<|zM j2) zS) (zD (vN (sc:=zF st) (N:=["thing","labels"]) (N':=["row"]) (src:=[none]) .a rfl rfl rfl (jW<|pv 0) (fun _ _ _ _=>(zL (i:=0) (show(["row"]:Da).Nodup by decide +kernel) rfl (EJ rfl))) (fun _ _ _ _=>xS) (fun _ _ _ _=>(zR (yt:Cg _<|wZ K) (pv 0) zH)) sc.nd rfl (EJ rfl) (k:=1)) (zE<|zM<|yT (CW X.units) (pv 1) (zO (jF rfl) (by rfl) T.sorted JI<|zA (zY (FC (K:=K) rfl) (by rfl) T.set J4 (zA (pv 1) zB)) zB) (zW _)))),?_⟩
 refine⟨_,rfl,_,_,d,_,rfl,hd,T.is<|by simp[kinds],_,rfl,?_⟩;cases d with
 |tuple ds =>
  have B:=B ds rfl;obtain⟨a,xs,rfl,D,J⟩:=hd;obtain⟨sl,sa⟩:=qY sm;have S:=J.length;refine Ut ⟨_,rfl,a,rfl,⟨_,D⟩,jH (K:=K) (a:=a) (xs:=xs) (fun i g n c=>∃o,n=[o]/\zx H c/\g=((ds.take i).map UY).map V.bl) ⟨none,rfl,zx.refl _,rfl⟩ (zr<|by lia) ?_ ?_ ?_⟩
  ·rintro i g n c hi ⟨o,rfl,A,rfl⟩;refine⟨A.yd D,?_⟩;rw[Q5,Q5,Zx];lia
  ·rintro i x g n c r ⟨o,rfl,A,rfl⟩;obtain⟨d,hd,I⟩:=J.get r;refine⟨_,rfl,d,x,rfl,I.same A,y7 sa hd,fun H3 e3=>⟨_,rfl,A.trans e3,?_⟩⟩;rw[xB hd,Zg];rfl
  ·rintro g n c ⟨o,rfl,A,rfl⟩ p np;refine⟨p,_,rfl,yx.of zC,?_⟩;rw[S,ZF,all_map];have u:=A.trans<|zz (o:=.lst<|(ds.map UY).map V.bl) np;cases q:ds.all UY with
   |false =>
    have e:HS (.tuple ds)=false:=by show(ds.all UY&&_)=false;rw[q];rfl
    rw[e]at k;exact⟨_,rfl,Uv<|k _ u⟩
   |true =>
    refine⟨_,rfl,Ut ?_⟩;show Te _ _ _ _ (upd c p<|.lst<|(ds.map UY).map V.bl);generalize upd c p (.lst<|(ds.map UY).map V.bl)=G at u;have C:=wR.same u _ _ J;refine⟨_,rfl,a,rfl,⟨_,u.yd D⟩,jH (K:=K) (a:=a) (xs:=xs) (fun i g n c=>∃o,n=[o]/\c=G/\g=((ds.take i).map UV).map V.str) ⟨none,rfl,rfl,rfl⟩ (zr<|by lia) ?_ ?_ ?_⟩
    ·rintro i g n c hi ⟨o,rfl,rfl,rfl⟩;refine⟨u.yd D,?_⟩;rw[Q5,Q5,Zx];lia
    ·rintro i x g n c r ⟨o,rfl,rfl,rfl⟩;obtain⟨d,hd,I⟩:=C.get r;obtain⟨t,y,rfl,ht,_⟩:=NS I<|ZI.mp q d<|Zm hd;refine⟨_,rfl,t,_,_,_,rfl,rfl,ht,rfl,_,rfl,rfl,?_⟩;have e1:ds.take (i+1)=ds.take i++[d]:=by rw[YT,hd];rfl
     rw[e1,Zg,Zg];rfl
    ·rintro g n c ⟨o,rfl,rfl,rfl⟩ l nl;rw[S,ZF];have v1:=zz (o:=.lst<|(ds.map UV).map V.str) nl;have ul:=AxS.tV _ (ds.map UV) rfl;rw[Q5]at ul;refine⟨_,rfl,_,rfl,l,ds.map UV,rfl,.inl<|yx.of zC,by rw[Q5];lia,fun R n2=>?_⟩;have Y:=v1.trans<|zz (o:=UQ P w R<|AxS.uniq<|ds.map UV) n2;refine⟨R,_,rfl,zC,by lia,fun l3 s n3 U M=>?_⟩;have v3:=Y.trans<|zz (o:=.lst<|s.map V.str) n3;have nR:∀x∈ds.map UV,Es x=true:=fun x r=>by
      obtain⟨d,hd,rfl⟩:=Za.mp r;obtain⟨j,hj⟩:=List.getElem?_of_mem hd;obtain⟨z,hz,dz⟩:=C.at hj;obtain⟨_,_,_,_,hl⟩:=NS dz<|ZI.mp q d hd;exact BG hl
     have O:∀x∈s,Es x=true:=fun x r=>nR x<|Kg<|U.mem_iff.mp r;have ab:=(Y.trans<|zz (o:=.lst<|s.map V.str) n3);have L:=(((zz (o:=UQ P w R<|AxS.uniq<|ds.map UV) n2).trans<|zz (o:=.lst<|s.map V.str) n3)) _ _<|zC (H:=c) (a:=l) (o:=.lst<|(ds.map UV).map V.str);refine⟨.list<|(ds.map UV).map .str,.list<|s.map .str,⟨l,_,rfl,yx.of L,zy.strs _⟩,⟨l3,_,rfl,yx.of zC,zy.strs _⟩,(qR nR).1,(qR O).1,?_⟩;have ev:EH (.list<|(ds.map UV).map .str) (.list<|s.map .str)=decide (ds.map UV=s):=jN _ _;rw[ev,IT U M];have e:HS (.tuple ds)=UG (ds.map UV):=by show(ds.all UY&&_)=_;rw[q];rfl
     rw[e]at k;exact k _<|u.trans v3
 |none=>exact Uv<|k _<|zx.refl _
 |bool b=>exact Uv<|k _<|zx.refl _
 |int i=>exact Uv<|k _<|zx.refl _
 |list ds=>exact Uv<|k _<|zx.refl _
 |str x=>exact Uv<|k _<|zx.refl _
 |dict Dm=>exact Uv<|k _<|zx.refl _
end Ag
namespace Ah
abbrev st:Stmt:=top 21
theorem sc:zu ["word","parts"] ["word","parts"] (zF st):=Cn
include T in
theorem ok (F:wX0 K "is_leaf" st f fd)(o:wV P w K mg base 3 "is_lines" ["thing"]<|Fg K):yu P w K mg base Ck 4 f fd ["word","parts"] (rT K UJ):=by
 refine F.ok sc fun _ _ _ _ H B Q E t h=>?_;obtain⟨word,a,b,y,rfl,l,i,sa,q,s,k⟩:=h;refine⟨_,(zE<|zM<|xU (yT qJ (pv 0) zq<|zW _)<|xU (yT qJ (zO z9 (by rfl) T.len Yw<|zA (pv 1) zB) zH<|zW _)<|qP<|zI o t.m<|zA (zR (yt:Cg _<|wZ K) (pv 1) zH) zB),?_⟩;have n:=i.length;refine⟨_,rfl,rfl,_,rfl,Ux (fun c=>?_)<|fun c=>?_⟩
 ·have c:V.str word=V.str "leaf":=Zr c;have c:word="leaf":=by injection c
  refine⟨_,rfl,a,_,rfl,.inr l,rfl,_,rfl,Ux (fun g=>?_)<|fun g=>?_⟩
  ·have g:y.length=1:=by have:=Zr g;injection this with z;lia
   have d:b[0]?=some (N7 b 0):=by
    have:b[0]?=some (b[0]'(by lia)):=Zb _;unfold N7;rw[this];rfl
   obtain⟨x,u,r⟩:=i.at d;refine⟨_,rfl,a,_,_,_,rfl,rfl,l,xL (j:=0) u,N7 b 0,_,rfl,r,y7 sa d,fun A v=>?_⟩;have e:UJ word b=Xg (N7 b 0):=by
    unfold UJ;rw[Zf c,Zf<|show b.length=1 by lia];rfl
   rw[e]at k;exact k _ v
  ·have e:UJ word b=false:=by
    unfold UJ;rw[Zo (p:=b.length=1)<|fun z=>g<|Zf (by rw[n,z];rfl),Vx,Jt]
   rw[e]at k;exact k _<|zx.refl _
 ·have e:UJ word b=false:=by
   unfold UJ;rw[Zo (p:=word="leaf")<|fun z=>c<|Zf<|by rw[z],Vx]
  rw[e]at k;exact k _<|zx.refl _
end Ah
namespace Ai
abbrev st:Stmt:=top 22
theorem sc:zu ["word","parts"] ["word","parts"] (zF st):=Cn
include T in
theorem ok (F:wX0 K "is_tree" st f fd)(q:wV P w K mg base 3 "is_rows" ["thing"]<|pO K):yu P w K mg base Ck 4 f fd ["word","parts"] (rT K UL):=by
 refine F.ok sc fun _ _ _ _ H D Q E v h=>?_;obtain⟨word,a,b,B,rfl,n,l,sa,r,i,k⟩:=h;refine⟨_,(zE<|zM<|xU (yT qJ (pv 0) zq<|zW _)<|xU (yT qJ (zO z9 (by rfl) T.len Yw<|zA (pv 1) zB) zH<|zW _)<|qP<|zI q v.m<|zA (zR (yt:Cg _<|wZ K) (pv 1) zH) zB),?_⟩;have o:=l.length;refine⟨_,rfl,rfl,_,rfl,Ux (fun c=>?_)<|fun c=>?_⟩
 ·have c:V.str word=V.str "tree":=Zr c;have c:word="tree":=by injection c
  refine⟨_,rfl,a,_,rfl,.inr n,rfl,_,rfl,Ux (fun g=>?_)<|fun g=>?_⟩
  ·have g:B.length=1:=by have:=Zr g;injection this with z;lia
   have d:b[0]?=some (N7 b 0):=by
    have:b[0]?=some (b[0]'(by lia)):=Zb _;unfold N7;rw[this];rfl
   obtain⟨x,y,s⟩:=l.at d;refine⟨_,rfl,a,_,_,_,rfl,rfl,n,xL (j:=0) y,N7 b 0,_,rfl,s,y7 sa d,fun t u=>i _ (Zm d) t u,fun C A=>?_⟩;have e:UL word b=HS (N7 b 0):=by
    unfold UL;rw[Zf c,Zf<|show b.length=1 by lia];rfl
   rw[e]at k;exact k _ A
  ·have e:UL word b=false:=by
    unfold UL;rw[Zo (p:=b.length=1)<|fun z=>g<|Zf (by rw[o,z];rfl),Vx,Jt]
   rw[e]at k;exact k _<|zx.refl _
 ·have e:UL word b=false:=by
   unfold UL;rw[Zo (p:=word="tree")<|fun z=>c<|Zf<|by rw[z],Vx]
  rw[e]at k;exact k _<|zx.refl _
end Ai
namespace Aj
abbrev st:Stmt:=top 23
include T in
theorem ok (F:wX0 K "is_note" st f fd):yu P w K mg base Ck 3 f fd ["word","parts"] uv:=never
end Aj
namespace Ak
abbrev st:Stmt:=top 24
theorem sc:zu ["thing","word","parts"] ["thing"] (zF st):=Cn
include T in
theorem ok (F:wX0 K "is_thing" st f fd)(C:wV P w K mg base 4 "is_leaf" ["word","parts"]<|rT K UJ)(D:wV P w K mg base 4 "is_tree" ["word","parts"]<|rT K UL)(G:wV P w K mg base 3 "is_note" ["word","parts"] uv) :
  yu P w K mg base Ck 5 f fd ["thing"] (sJ K):=by
 refine F.ok sc fun _ _ _ _ H Y Q E t h=>?_;obtain⟨word,b,v,rfl,hd,O,u,lt,k⟩:=h;refine⟨_,(zD (yC (PW.pt<|vL (qF<|zZ (K:=K)<|zO (z6 (K:=K)) (by rfl) T.isinstance ZJ<|zA (pv 0)<|zA (xI (v:=.ty "tuple") rfl T.tuple Jk rfl) zB)<|vL (zU qJ (zO z9 (by rfl) T.len Yw<|zA (pv 0) zB) zH<|zW _)<|uP<|qF<|zZ (K:=K)<|zO (z6 (K:=K)) (by rfl) T.isinstance ZJ<|zA (zR (yt:Cg _<|wZ K) (pv 0) zH)<|zA (xI (v:=.ty "str") rfl T.str Yx rfl) zB) (zE<|zM j2) zS)<|zD (Cm (i:=1) sc.nd<|zR (yt:Cg _<|wZ K) (pv 0) zH)<|zD (Cm (i:=2) sc.nd<|yR (mZ:Kl _<|TD K) (pv 0) (xG zH) xW)<|zE<|zM<|Tz (zI C t.m<|zA (pv 1)<|zA (pv 2) zB)<|Tz (zI D t.m<|zA (pv 1)<|zA (pv 2) zB)<|qP<|zI G t.m<|zA (pv 1)<|zA (pv 2) zB),?_⟩
 obtain⟨n1,n2⟩:=u _ rfl;obtain⟨a,Z,rfl,l,I⟩:=id hd;obtain⟨X,sa⟩:=qY O;obtain⟨R,r,rfl,c,g⟩:=I;refine⟨_,rfl,_,_,_,_,rfl,hd,T.is<|by simp[kinds],_,rfl,Ut ?_⟩;refine⟨_,rfl,a,_,rfl,.inr l,rfl,_,rfl,Py (fun z=>by injection z with z;simp at z;lia) ?_⟩;refine⟨_,rfl,a,_,_,_,rfl,rfl,l,xL (j:=0) rfl,_,_,.str word,_,rfl,c,T.is<|by simp[kinds],_,rfl,Ut ?_⟩;cases(show R=_ from c);refine⟨_,rfl,a,_,_,_,rfl,rfl,l,xL (j:=0) rfl,?_⟩;refine⟨_,rfl,_,rfl,a,_,rfl,l,fun v B L=>?_⟩;obtain⟨q,rfl,x,d⟩:=Sd l L;rw[Gi<|by decide]at d;have d:xg K B q r:=d;have s:yF b=true:=by
  have sa:(small (.str word)&&yF b)=true:=sa;rw[Zi]at sa;exact sa.2
 have n:b.length<=63:=by have:=n1;simp at this;lia
 have o:∀e∈b,∀A,e=.tuple A->A.length<=63:=fun e J=>n2 e<|Q9 _ J;refine⟨_,rfl,_,rfl,word,q,b,r,rfl,d,wR.same x _ _ g,s,n,o,fun S y=>⟨_,rfl,?_⟩⟩;cases M:UJ word b with
 |true=>exact Uv<|k _<|x.trans y
 |false =>
  have p:=x.trans y;refine Ut ⟨_,rfl,_,rfl,word,q,b,r,rfl,y.yd d,wR.same p _ _ g,s,n,o,fun U N=>⟨_,rfl,?_⟩⟩;rw[lt.resolve_left (fun z=>by rw[M]at z;cases z)];exact Uv<|k _<|p.trans N
end Ak
namespace Al
abbrev st:Stmt:=top 25
theorem sc:zu ["thing"] ["thing"] (zF st):=Cn
include T in
theorem ok (F:wX0 K "need_thing" st f fd)(c:wV P w K mg base 5 "is_thing" ["thing"]<|sJ K):yu P w K mg base (CC P w) 6 f fd ["thing"] (pU K aT):=by
 refine F.qi sc fun _ _ _ _ H l Q E e h=>?_;obtain⟨word,d,v,rfl,hd,i,b,lt,k⟩:=h;refine⟨_,(zD (yC (qF<|zZ (K:=K)<|zI c e.m<|zA (pv 0) zB) (zE<|xR rfl yV rfl T.m9 T.nu<|zA zq zB) zS)<|zE<|zM<|pv 0),?_⟩
 exact⟨_,rfl,word,d,v,rfl,hd,i,b,lt,fun j g=>⟨_,rfl,Ut ⟨_,rfl,k _ g⟩⟩⟩
end Al
namespace Am
abbrev st:Stmt:=top 26
theorem sc:zu ["thing"] ["thing"] (zF st):=Cn
include T in
theorem ok (F:wX0 K "letter_of" st f fd):yu P w K mg base Ck 1 f fd ["thing"] (IB K):=by
 refine F.ok sc fun _ _ _ _ H d Q E c h=>?_;obtain⟨v,t,rfl,hd,k⟩:=h;refine⟨_,(zE<|zM<|SI (jZ (v:=.ref aL) rfl T.LETTERS rfl) (zR (yt:Cg _<|wZ K) (pv 0) zH)<|fun _ _=>rfl),?_⟩;obtain⟨a,r,rfl,b⟩:=uW hd;exact⟨_,rfl,a,_,_,_,rfl,rfl,b,Fw _ _,_,_,Eu t.word,_,rfl,rfl,T.kd,KP t,k⟩
end Am
namespace Ao
abbrev st:Stmt:=top 27
theorem sc:zu ["rows","parts","label","name"] ["rows"] (zF st):=Cn
theorem wA:∀rs:Dg,(z8 rs).length=2*rs.length
 |[]=>rfl
 |r::rs=>by
  show(z8 rs).length+2=2*(rs.length+1);rw[wA rs];lia
include T in
theorem ok (F:wX0 K "tree_parts" st f fd):yu P w K mg base Ck 1 f fd ["rows"] (Xx K):=by
 refine F.ok sc fun _ _ _ _ H D Q E C h=>?_;obtain⟨v,c,rfl,hd,hl,k⟩:=h;obtain⟨a,xs,rfl,q,s⟩:=hd;have o:xs.length=c.length:=by rw[s.length,Q5]
 refine⟨_,(zD (Cm (i:=1) sc.nd<|y9 zB)<|zD (yU PassesOwn.never rfl (jW<|pv 0) (jT rfl<|zX (zL (i:=2) sc.nd rfl<|EJ rfl)<|zX (zL (i:=3) sc.nd rfl<|EJ rfl) xX)<|zD (yD<|qV Yo Yi Yj xA (pv 1)<|zA (pv 2) zB)<|zE<|yD<|qV Yo Yi Yj xA (pv 1)<|zA (pv 3) zB)<|zE<|zM<|pv 1),?_⟩
 refine⟨ZD _,fun l j=>?_⟩;refine⟨_,rfl,a,rfl,⟨_,(zz j).yd q⟩,B5 (K:=K) (a:=a) (xs:=xs) (fun i n g=>∃(x y:Option V),n=[some<|.ref a,some<|.ref l,x,y]/\g=upd H l (.lst<|(z8<|c.take i).map V.str)) ⟨none,none,rfl,rfl⟩ (fun i n g _ ⟨_,_,_,e⟩=>by rw[e];exact(zz j).yd q) ?_ ?_⟩
 ·rintro i x n g u ⟨A,B,rfl,rfl⟩;obtain⟨r,b,p,rfl,t⟩:=HU s u;have z:i<c.length:=(Zq.mp p).1;have d:((z8<|c.take i).map V.str).length<=2000:=by
   rw[Q5,wA,Zx];lia
  refine⟨b,_,rfl,(zz j).yd t,rfl,_,_,rfl,_,_,rfl,rfl,?_⟩;refine⟨_,rfl,.inl ⟨rfl,_,yx.of zC⟩,_,rfl,l,_,_,rfl,rfl,zC,JV d (by rw[Ym];decide),?_⟩;refine⟨_,rfl,.inl ⟨rfl,_,yx.of zC⟩,_,rfl,l,_,_,rfl,rfl,zC,?_,?_⟩
  ·rw[Ze,YU];exact JV (Nat.succ_le_succ d) (by rw[Ym];decide)
  ·refine⟨_,_,rfl,?_⟩;rw[vM,vM]
   congr 2
   rw[YT,p];show _=(z8<|c.take i++[r]).map V.str;rw[jD,Zg];show _=(z8<|c.take i).map V.str++[V.str r.1,V.str r.2];rw[Z7];rfl
 ·rintro n g ⟨A,B,rfl,rfl⟩;refine⟨_,rfl,?_⟩;rw[o,ZF];exact k l j
end Ao
theorem aE {c A B:Prop} [Decidable c](hc:c)(h:A):if decide c=true then A else B:=by
 rw[Zf hc];exact Uv h
theorem Py {c A B:Prop} [Decidable c](hc:¬c)(h:B):if decide c=true then A else B:=by
 rw[Zo hc];exact Ut h
theorem Nf {n:Nat}(h:n<=100000):(dig n).length<=10:=JJ (by lia) (by decide) (by
 have:(10:Int) ^ 10=10000000000:=by decide
 rw[this];lia)
theorem Br {n:Nat}(h:n<=1900):((n:Int)).natAbs.log2<1920:=by
 rw[Ug];exact JV (Nat.log2_le_self n) (by lia)
theorem Oq {rs:Dg}(g:(Th.tree rs).Good):rs.length<=1000:=by
 have h:=g.1;have e:(z8 rs).length<=1000:=h;rw[Ao.wA]at e;lia
theorem Op {x:Str}{ps:Da}{w:Str}(g:(Th.note x ps w).Good):ps.length<=1000:=by
 have h:=g.1;have e:([x,dig ps.length]++ps++[w]).length<=1000:=h;simp at e;lia
namespace Ap
abbrev st:Stmt:=top 28
theorem sc:zu ["thing","parents"] ["thing"] (zF st):=Cn
include T in
theorem ok (F:wX0 K "parts_of" st f fd)(D:wV P w K mg base 1 "tree_parts" ["rows"]<|Xx K):yu P w K mg base Ck 2 f fd ["thing"] (NY K):=by
 refine F.ok sc fun _ _ _ _ H M Q E G h=>?_;obtain⟨v,t,rfl,hd,g,k⟩:=h;refine⟨_,(zD (yC (zU qJ (zR (yt:Cg _<|wZ K) (pv 0) zH) zq<|zW _) (zE<|zM<|zY xT (by rfl) T.list YS<|zA (zR (yt:Cg _<|wZ K) (pv 0) zH) zB) zS)<|zD (yC (zU qJ (zR (yt:Cg _<|wZ K) (pv 0) zH) zq<|zW _) (zE<|zM<|zI D G.m<|zA (zR (yt:Cg _<|wZ K) (pv 0) zH) zB) zS)<|zD (Cm (i:=1) sc.nd<|zR (yt:Cg _<|wZ K) (pv 0) zH)<|zE<|zM<|zP jV (zP jV (y9<|zA (zR (yt:Cg _<|wZ K) (pv 0) zH)<|zA (zY jB (by rfl) T.str Yx<|zA (zO z9 (by rfl) T.len Yw<|zA (pv 1) zB) zB) zB)<|zY xT (by rfl) T.list YS<|zA (pv 1) zB)<|y9<|zA (zR (yt:Cg _<|wZ K) (pv 0) zH) zB),?_⟩
 cases t with
 |leaf ls =>
  obtain⟨a,b,rfl,c,d⟩:=BY hd;refine⟨_,rfl,a,_,_,_,rfl,rfl,c,rfl,rfl,_,rfl,aE rfl ?_⟩;exact⟨_,rfl,a,_,_,_,rfl,rfl,c,rfl,b,_,rfl,.inr d,fun l e=>k l _ (zz e) e zC⟩
 |tree rs =>
  obtain⟨a,b,rfl,c,d⟩:=BR hd;refine⟨_,rfl,a,_,_,_,rfl,rfl,c,rfl,rfl,_,rfl,Py (by decide +kernel) ?_⟩;refine⟨_,rfl,a,_,_,_,rfl,rfl,c,rfl,rfl,_,rfl,aE rfl ?_⟩;exact⟨_,rfl,a,_,_,_,rfl,rfl,c,rfl,_,rs,rfl,d,Oq g,fun l e=>k l _ (zz e) e zC⟩
 |note x ps y =>
  obtain⟨a,b,rfl,c,d⟩:=NB hd;have L:=Op g;refine⟨_,rfl,a,_,_,_,rfl,rfl,c,rfl,rfl,_,rfl,Py (by decide +kernel) ?_⟩;refine⟨_,rfl,a,_,_,_,rfl,rfl,c,rfl,rfl,_,rfl,Py (by decide +kernel) ?_⟩;refine⟨_,rfl,a,_,_,_,rfl,rfl,c,rfl,?_⟩;refine⟨_,rfl,a,_,_,_,rfl,rfl,c,rfl,_,rfl,b,_,rfl,.inr d,_,rfl,?_,Ur 2,fun p n1=>?_⟩
  ·rw[Q5];exact Br (by lia)
  have A:=zz (o:=.lst [V.str x,V.str<|EX<|L4 (((ps.map V.str).length:Nat):Int)]) n1;refine⟨_,rfl,b,_,rfl,.inr<|A.yd d,fun q n2=>?_⟩;have J:=A.trans<|zz (o:=.lst<|ps.map V.str) n2;have j:p≠q:=zQ zC n2;refine⟨p,q,_,_,rfl,rfl,(by rw[zG j];exact zC),zC,(by rw[Q5];exact zr (by simp only[Zn,JC];lia)),fun r n3=>?_⟩;have B:=J.trans<|zz (o:=.lst<|[V.str x,V.str<|EX<|L4 (((ps.map V.str).length:Nat):Int)]++ps.map V.str) n3;refine⟨_,rfl,a,_,_,_,rfl,rfl,B.yd c,rfl,Ur 1,fun s u=>?_⟩;have C:=B.trans<|zz (o:=.lst [V.str y]) u;have n:r≠s:=zQ zC u;refine⟨r,s,_,_,rfl,rfl,(by rw[zG n];exact zC),zC,?_,fun I z=>?_⟩
  ·rw[Ze,Q5];exact zr (by simp only[Zn,JC];lia)
  ·refine k I _ (C.trans<|zz z) (C.free z) ?_;rw[zC]
   congr 2
   show _=([x,dig ps.length]++ps++[y]).map V.str;rw[Zg,Zg];show([V.str x,V.str<|EX<|L4 (((ps.map V.str).length:Nat):Int)]++ps.map V.str)++[V.str y]=_;rw[Q5];rfl
end Ap
namespace Aq
abbrev st:Stmt:=top 29
theorem sc:zu ["part"] ["part"] (zF st):=Cn
include T in
theorem ok (F:wX0 K "counted" st f fd):yu P w K mg base Ck 1 f fd ["part"] GW:=by
 refine F.ok sc fun _ _ _ _ H g Q E e h=>?_;obtain⟨x,rfl,hl,k⟩:=h;refine⟨_,(zE<|zM<|zP zK (zP zK (zY jB (by rfl) T.str Yx<|zA (zO qK (by rfl) T.len Yw<|zA (pv 0) zB) zB) zq)<|pv 0),?_⟩;have d:=Nf (n:=x.length) (by lia);have c:(""++":":String).length=1:=by decide
 have b:(":":Str).length=1:=by decide +kernel
 refine⟨_,rfl,x,rfl,zr<|by lia,_,rfl,Br<|by lia,_,_,rfl,rfl,zr (by rw[b];exact ZL (Nat.add_le_add_right d 1)<|by decide),_,rfl,_,_,rfl,rfl,zr ?_,k⟩;show(dig x.length++":").length+x.length<=_;rw[yg,b];lia
end Aq
namespace Ar
abbrev st:Stmt:=top 30
theorem sc:zu ["thing"] ["thing"] (zF st):=Cn
theorem F4 {x:Str}(h:x.length<=1000):(counted x).length<=1011:=by
 have d:=Nf (n:=x.length) (by lia);have b:(":":Str).length=1:=by decide +kernel
 show(dig x.length++":"++x).length<=_;rw[yg,yg,b];lia
include T in
theorem ok (F:wX0 K "spelled" st f fd)(A:wV P w K mg base 1 "letter_of" ["thing"]<|IB K)(s:wV P w K mg base 2 "parts_of" ["thing"]<|NY K)
  (u:wV P w K mg base 1 "counted" ["part"] GW):yu P w K mg base Ck 3 f fd ["thing"] (Bx K):=by
 refine F.ok sc fun _ _ _ _ H Y Q E n h=>?_;obtain⟨v,t,rfl,hd,g,k⟩:=h;refine⟨_,(zE<|zM<|zP zK (zI A n.m<|zA (pv 0) zB)<|qV Yh VO VP CU zq<|zA (xN (sc:=zF st) (N:=["thing"]) (N':=["part"]) (src:=[none]) .a rfl rfl rfl (xJ<|zI s n.m<|zA (pv 0) zB) (fun _ _ _ _=>(zL (i:=0) (show(["part"]:Da).Nodup by decide +kernel) rfl (EJ rfl))) (fun _ _ _ _=>xS) (fun _ _ _ _=>(zI u n.m<|zA (pv 0) zB))) zB),?_⟩;refine⟨_,rfl,v,t,rfl,hd,rfl,_,rfl,v,t,rfl,hd,g,fun l r M X hl=>?_⟩;have R:(t.parts.map V.str).length<=1000:=by rw[Q5];exact g.1
 refine⟨l,rfl,⟨_,yx.of hl⟩,xK (K:=K) (a:=l) (xs:=t.parts.map V.str) (fun i d j c=>∃x,j=[x]/\c=r/\d=((t.parts.take i).map counted).map V.str) ⟨none,rfl,rfl,rfl⟩ (zr<|by lia) (fun i d j c b ⟨x,_,e,D⟩=>⟨by rw[e];exact yx.of hl,?_⟩) ?_ ?_⟩
 ·rw[D,Q5,Q5,Zx];exact Nat.min_le_left _ _
 ·rintro i x d j c b ⟨O,rfl,rfl,rfl⟩;rw[Zj]at b;cases q:t.parts[i]? with
  |none=>rw[q]at b;cases b
  |some p =>
   rw[q]at b;have b:V.str p=x:=Option.some.inj b;subst b;have G:=g.2 p<|Zm q;refine⟨_,rfl,p,rfl,G.len,_,rfl,rfl,?_⟩;rw[YT,q,Zg,Zg];rfl
 ·rintro d j c ⟨O,rfl,rfl,rfl⟩ p L;have e:(t.parts.take (t.parts.map V.str).length)=t.parts:=by rw[Q5,ZF]
  rw[e];have b1:∀y∈t.parts.map counted,y.length<=1011:=fun y I=>by
   obtain⟨z,J,rfl⟩:=Za.mp I;exact F4 (g.2 z J).len
  have b2:=MS _ b1;have B:(t.parts.map counted).length<=1000:=by rw[Q5];exact g.1
  have S:(t.parts.map counted).length*1011<=1011000:=V2 1011 B;have o:("":Str).length=0:=by decide +kernel
  have U:t.letter.length=1:=by rw[zm,kX];rfl
  refine⟨_,p,t.parts.map counted,rfl,rfl,.inl<|yx.of zC,by rw[o];lia,_,_,rfl,rfl,?_,?_⟩
  ·have:=StrLaws.join_length_le ""<|t.parts.map counted;have C:Lw "" (t.parts.map counted)=MC "" (t.parts.map counted):=Ll _ _;rw[C];rw[o]at this;exact zr (by lia)
  ·rw[bb];exact k _<|M.trans<|zz L
end Ar
namespace As
abbrev st:Stmt:=top 31
theorem sc:zu ["thing","number","sign"] ["thing"] (zF st):=Cn
include T in
theorem ok (F:wX0 K "digest" st f fd)(l:wV P w K mg base 3 "spelled" ["thing"]<|Bx K):yu P w K mg base Ck 4 f fd ["thing"] (HX K):=by
 refine F.ok sc fun _ _ _ _ H q Q E o h=>?_;obtain⟨v,t,rfl,hd,g,k⟩:=h;refine⟨_,(zD (Cm (i:=1) sc.nd zH)<|zD (yU PassesOwn.never rfl (K5<|zI l o.m<|zA (pv 0) zB) (zL (i:=2) sc.nd rfl<|EJ rfl)<|zE<|Cm (i:=1) sc.nd<|zP yS (zP xH (zP Iz (jZ (v:=.int 31) rfl T.rM ⟨_,rfl⟩)<|pv 1)<|zO FB (by rfl) T.ord PyProof.Rows.boot_ord<|zA (pv 2) zB)<|jZ (v:=.int 97) rfl T.rF ⟨_,rfl⟩)<|zE<|zM<|pv 1),?_⟩
 refine⟨_,rfl,v,t,rfl,hd,g,fun j p=>⟨_,rfl,Sj (fun i e b=>∃x,e=[some v,some<|.int<|((cs t.sp).take i).foldl ak 0,x]/\b=j) ⟨none,rfl,rfl⟩ ?_ ?_⟩⟩
 ·rintro i c e b n ⟨x,rfl,rfl⟩;refine⟨_,rfl,_,_,rfl,rfl,.inl ⟨by decide,by decide⟩,_,rfl,_,rfl,rfl,_,_,rfl,rfl,_,_,rfl,rfl,(by show(0:Int)<97;decide),some<|.str ⟨#[c]⟩,?_,rfl⟩;have d:(cs t.sp)[i]?=some c:=by rw[←n];simp
  rw[YT,d,Jj];rfl
 ·rintro e b ⟨x,rfl,rfl⟩;refine⟨_,rfl,?_⟩;rw[zm,ZF];exact k _ p
end As
namespace Au
abbrev st:Stmt:=inClass (top 58) 7
include T in
theorem ok (F:wX K "names" "Shelf.names" st f fd):yu P w K mg base Ck 1 f fd ["self"] uv:=never
end Au
namespace Av
abbrev st:Stmt:=inClass (top 58) 1
theorem sc:zu ["self","name","thing","halves","head"] ["self","name","thing"] (zF st):=Cn
include T in
theorem ok (F:wX K "take" "Shelf.take" st f fd):yu P w K mg base Ck 1 f fd ["self","name","thing"] (qy P w K aC):=by
 refine F.ok sc fun _ _ _ _ H vs Q E hr h=>?_;obtain⟨a,fp,S,e,t,rfl,sh,u,ht,hd,hn,hl,k⟩:=h;have hu:=No hr;refine⟨_,(zD (Cm (i:=3) sc.nd<|qV Yh PySem.F.slot_str_partition PySem.F.type_str_partition uQ (pv 1)<|zA zq zB)<|zD (Cm (i:=4) sc.nd<|zR (yt:Cg _<|wZ K) (pv 3) zH)<|zD (xV hu (kT (pv 0) rfl) (pv 4) (zO (Ob rfl) (by rfl) T.max PyProof.Rows.boot_max<|zA (X4 hu (kT (pv 0) rfl) (pv 4) zH ⟨rfl,rfl,rfl,rfl⟩)<|zA (zP xH (zY Oa (by rfl) T.int PyProof.Rows.boot_int<|zA (zR (yt:Cg _<|wZ K) (pv 3) zH) zB) zH) zB) rfl)<|zD (xV hu (kT (pv 0) rfl) (pv 1) (pv 2) rfl)<|zE<|SR hr.units (kT (pv 0) rfl) (pv 2) (pv 1) rfl),?_⟩
 obtain⟨g,r,c,l,b,j,nx,rfl,nd,h1,h2,h3,h4,h5,h6,h7,h8,h9⟩:=id sh;have wG:=sh.wG.tup;have nl:(UD e.n).length<=2000:=by
  have U:((e.n:Int)).natAbs.log2<1920:=by
   have:=u.num;rw[Ug]
   rcases JW e.n with z|z
   ·rw[z];decide
   ·have:e.n.log2<20:=(Nat.log2_lt<|by lia).mpr (by lia);lia
  have:=VU U;have G:(UD e.n).length<=1921:=this;lia
 have a1:e.nm.length<=100000:=by
  have:=u.hl;have e1:dot.length=1:=rfl;unfold En.nm;rw[yg,yg,e1];lia
 simp only[Z9,Zh,YE,Vz,not_or,YM,and_true,not_false_eq_true]at nd;obtain⟨⟨a0,X,Y,Z⟩,⟨ab,ai,aj⟩,⟨y,A⟩,B⟩:=nd;refine⟨_,rfl,rfl,e.h,UD e.n,46,rfl,by rw[Pg];rfl,u.free,a1,fun p np=>?_⟩;have D:=zz (o:=.tup [V.str e.h,V.str ⟨#[46]⟩,V.str<|UD e.n]) np;have hp:xg K (upd H p<|.tup [V.str e.h,V.str ⟨#[46]⟩,V.str<|UD e.n]) p [V.str e.h,V.str ⟨#[46]⟩,V.str<|UD e.n]:=xg.of zC;show Te _ _ _ _ (upd H p<|.tup [V.str e.h,V.str ⟨#[46]⟩,V.str<|UD e.n]);generalize upd H p (.tup [V.str e.h,V.str ⟨#[46]⟩,V.str<|UD e.n])=s at D hp;have g1:=D _ _ h1;have g4:=D _ _ h4;have g6:=D _ _ h6;refine⟨_,rfl,p,_,_,_,rfl,rfl,hp,rfl,?_⟩;refine⟨_,rfl,a,aC,r,_,_,rfl,g1,T.cls,T.n3,rfl,b,rfl,.inl ⟨_,.inl g6⟩,_,rfl,_,v9.k (k:=(Eu e.h:Key)) g6,?_⟩;obtain⟨m,em,en⟩:∃m:Nat,(Us nx (Eu e.h:Key)).getD (V.int 0)=V.int (m:Int)/\m=(xq S e.h).getD 0:=by
  rw[h8];cases xq S e.h with
  |none=>exact⟨0,rfl,rfl⟩
  |some m=>exact⟨m,rfl,rfl⟩
 rw[em];refine⟨_,rfl,p,_,_,_,rfl,rfl,hp,rfl,e.n,rfl,by have:=u.num;lia,_,_,rfl,rfl,_,_,rfl,?_⟩;have I:(if(e.n:Int)+1>(m:Int) then(e.n:Int)+1 else(m:Int))=((max m (e.n+1):Nat):Int):=by
  split<;>lia
 rw[I];have a2:nx.length<2000:=by lia
 refine⟨_,rfl,a,aC,r,_,_,rfl,g1,T.cls,T.n3,rfl,_,rfl,b,_,rfl,vy.k (k:=(Eu e.h:Key)) g6<|yI<|by lia,?_⟩;have o1:Off [a,r,c,l,b] H (upd s b<|.dK<|ye nx (Eu e.h:Key)<|V.int ((max m (e.n+1):Nat):Int)):=(Off.of D).upd (by simp);have J:upd s b (.dK<|ye nx (Eu e.h:Key)<|V.int ((max m (e.n+1):Nat):Int)) a=some (.ins aC r<|Po c l b):=by rwa[zG Z]
 have M:upd s b (.dK<|ye nx (Eu e.h:Key)<|V.int ((max m (e.n+1):Nat):Int)) c=some (.dK<|(S.zip j).map fun e=>((Eu e.1.nm:Key),V.ref e.2)):=by rwa[zG A]
 have ap:upd s b (.dK<|ye nx (Eu e.h:Key)<|V.int ((max m (e.n+1):Nat):Int)) b=some (.dK<|ye nx (Eu e.h:Key)<|V.int ((max m (e.n+1):Nat):Int)):=zC;have al:upd s b (.dK<|ye nx (Eu e.h:Key)<|V.int ((max m (e.n+1):Nat):Int)) r=some (.own a):=by rw[zG aj];exact D _ _ h2
 obtain⟨a3,e5,_⟩:=h5.2.2.2;have an:upd s b (.dK<|ye nx (Eu e.h:Key)<|V.int ((max m (e.n+1):Nat):Int)) l=H l:=by rw[zG B,e5];exact D _ _ e5
 show Te _ _ _ _ (upd s b<|.dK<|ye nx (Eu e.h:Key)<|V.int ((max m (e.n+1):Nat):Int));generalize upd s b (.dK<|ye nx (Eu e.h:Key)<|V.int ((max m (e.n+1):Nat):Int))=v at o1 J M ap al an;have zl:((S.zip j).map fun e=>((Eu e.1.nm:Key),V.ref e.2)).length<=2000:=by rw[Q5,List.length_zip];lia
 refine⟨_,rfl,_,rfl,a,aC,r,_,_,rfl,J,T.cls,T.n1,rfl,_,rfl,c,_,rfl,vy.k (k:=(Eu e.nm:Key)) M<|yI<|by lia,?_⟩;have ek:((S.zip j).map fun e=>((Eu e.1.nm:Key),V.ref e.2)).map (·.1)=S.map fun e=>(Eu e.nm:Key):=by
  rw[ZB];have:(S.zip j).map (·.1)=S:=List.map_fst_zip (by lia)
  conv=>rhs;rw[←this]
  rw[ZB];rfl
 have hk:(Eu e.nm:Key)∉((S.zip j).map fun e=>((Eu e.1.nm:Key),V.ref e.2)).map (·.1):=fun z=>by
  rw[ek]at z;obtain⟨G,as,q⟩:=Za.mp z;exact hn<|Za.mpr ⟨G,as,Sum.inr.inj q⟩
 rw[uF hk];have o2:Off [a,r,c,l,b] H (upd v c<|.dK<|(S.zip j).map (fun e=>((Eu e.1.nm:Key),V.ref e.2))++[(Eu e.nm,V.ref t)]):=o1.upd (by simp);have x:upd v c (.dK<|(S.zip j).map (fun e=>((Eu e.1.nm:Key),V.ref e.2))++[(Eu e.nm,V.ref t)]) a=some (.ins aC r<|Po c l b):=by rwa[zG X]
 have L:upd v c (.dK<|(S.zip j).map (fun e=>((Eu e.1.nm:Key),V.ref e.2))++[(Eu e.nm,V.ref t)]) r=some (.own a):=by rwa[zG ab]
 have N:upd v c (.dK<|(S.zip j).map (fun e=>((Eu e.1.nm:Key),V.ref e.2))++[(Eu e.nm,V.ref t)]) c=some (.dK<|(S.zip j).map (fun e=>((Eu e.1.nm:Key),V.ref e.2))++[(Eu e.nm,V.ref t)]):=zC;have O:upd v c (.dK<|(S.zip j).map (fun e=>((Eu e.1.nm:Key),V.ref e.2))++[(Eu e.nm,V.ref t)]) l=H l:=by rwa[zG<|EK y]
 have R:upd v c (.dK<|(S.zip j).map (fun e=>((Eu e.1.nm:Key),V.ref e.2))++[(Eu e.nm,V.ref t)]) b=some (.dK<|ye nx (Eu e.h:Key)<|V.int ((max m (e.n+1):Nat):Int)):=by rwa[zG<|EK A]
 generalize upd v c (.dK<|(S.zip j).map (fun e=>((Eu e.1.nm:Key),V.ref e.2))++[(Eu e.nm,V.ref t)])=H3 at o2 x L N O R;have T3:pG P w K H3 l (S.map fun e=>(e.d,V.str e.nm)):=pG.off wG o2 O h5;have ay:Dt K H3 e.d (.ref t):=Dt.off wG o2 _ _ u.key.1 ht;refine⟨_,rfl,_,rfl,a,aC,r,_,_,rfl,x,T.cls,T.n2,rfl,_,rfl,t,l,_,e.d,rfl,rfl,T3,by rw[Q5];lia,u.key,ay,fun o T4 ⟨es,eo⟩=>?_⟩;have ax:e.d∉(S.map fun e=>(e.d,V.str e.nm)).map (·.1):=by rwa[ZB]
 rw[uF ax]at T4;have o3:Off [a,r,c,l,b] H (upd H3 l o):=o2.upd (by simp);refine k _ o3 ⟨g.snoc u hd hn<|by lia,r,c,l,b,j++[t],_,rfl,by simp[a0,X,Y,Z,ab,ai,aj,y,A,B],by rw[zG Y];exact x,by rw[zG ai];exact L,by rw[Ze,Ze,h3];rfl,?_,?_,by rw[zG<|EK B];exact R,?_,?_,?_⟩
 ·rw[zG y,N,List.zip_append h3.symm,Zg];rfl
 ·rw[Zg];exact T4
 ·have:=qI nx (Eu e.h:Key)<|V.int ((max m (e.n+1):Nat):Int);rw[Ze,YU];lia
 ·intro h;rw[Ki,Xq]
  by_cases q:e.h=h
  ·rw[Zt<|by rw[q],Zt q,←q,←en];rfl
  ·rw[Zs<|fun z=>q (Sum.inr.inj z).symm,Zs q];exact h8 h
 ·intro i G t' C q2
  rcases Uo i S.length with z|z|z
  ·rw[ZS z]at C;rw[ZS<|by lia]at q2;exact Dt.off wG o3 _ _ (g.ent G<|Zm C).key.1<|h9 i G t' C q2
  ·subst z;rw[ZX<|Zd _,Nat.sub_self]at C;rw[ZX<|by lia,h3,Nat.sub_self]at q2;cases C;cases q2;exact Dt.off wG o3 _ _ u.key.1 ht
  ·rw[Yf (by rw[Ze,YU];lia)]at C;cases C
end Av
theorem Nr {S:Di}{b:Dd}(h:b.length=S.length):((S.zip b).map fun e=>((Eu e.1.nm:Key),V.ref e.2)).map (·.1)=S.map fun e=>(Eu e.nm:Key):=by
 rw[ZB];have:(S.zip b).map (·.1)=S:=List.map_fst_zip (by lia)
 conv=>rhs;rw[←this]
 rw[ZB];rfl
theorem Ss {S:Di}{d:Dd}(h:d.length=S.length)(x:Str):(Us ((S.zip d).map fun e=>((Eu e.1.nm:Key),V.ref e.2)) (Eu x:Key)).isSome=decide (x∈S.map En.nm):=by
 have f:=Nr h;rw[Yq,ZK];constructor
 ·intro z;obtain⟨v,c⟩:=YD.mp z;have:=uI c;rw[f]at this;obtain⟨e,b,q⟩:=Za.mp this;exact Za.mpr ⟨e,b,Sum.inr.inj q⟩
 ·intro z;obtain⟨e,b,q⟩:=Za.mp z;cases c:Us ((S.zip d).map fun e=>((Eu e.1.nm:Key),V.ref e.2)) (Eu x:Key) with
  |some v=>rfl
  |none =>
   refine absurd ?_<|IZ c;rw[f];exact Za.mpr ⟨e,b,by rw[q]⟩
theorem T1 {c:Dd}(g:ux S)(h:c.length=S.length){i:Nat}{e:En}{t:Ej}(j:S[i]?=some e)(l:c[i]?=some t):Us ((S.zip c).map fun e=>((Eu e.1.nm:Key),V.ref e.2)) (Eu e.nm:Key)=some (V.ref t):=by
 have d:(((S.zip c).map fun e=>((Eu e.1.nm:Key),V.ref e.2)).map (·.1)).Nodup:=by
  rw[Nr h];have:=LU (S:=fun a b:Key=>a≠b) (fun x=>(Eu x:Key)) (fun a b h z=>h<|Sum.inr.inj z) g.nn;rw[ZB]at this;exact this
 have f:((Eu e.nm:Key),V.ref t)∈(S.zip c).map fun e=>((Eu e.1.nm:Key),V.ref e.2) :=
  Za.mpr ⟨(e,t),Zm (i:=i) (by rw[Jy];exact⟨j,l⟩),rfl⟩
 exact vJ d f
namespace Aw
abbrev st:Stmt:=top 55
theorem sc:zu ["table","thing"] ["table","thing"] (zF st):=Cn
include T in
theorem ok (F:wX0 K "is_key" st f fd):yu P w K mg base Ck 1 f fd ["table","thing"] (oH K):=by
 refine F.ok sc fun _ _ _ _ H l Q E j h=>?_;obtain⟨e,c,d,v,rfl,g,hd,k⟩:=h;refine⟨_,(zE<|zM<|xU (zO (z6 (K:=K)) (by rfl) T.isinstance ZJ<|zA (pv 1)<|zA (xI (v:=.ty "str") rfl T.str Yx rfl) zB)<|qP<|yT (Rj j.units) (pv 1) (pv 0)<|by with_unfolding_all rfl),?_⟩;refine⟨_,rfl,_,_,d,_,rfl,hd,T.is<|by simp[kinds],_,rfl,?_⟩;cases d with
 |str x =>
  cases(show v=_ from hd);exact Uv ⟨_,rfl,_,rfl,e,_,rfl,v9.k (k:=(Eu x:Key)) g,k⟩
 |none=>exact Ut k
 |bool b=>exact Ut k
 |int i=>exact Ut k
 |list ds=>exact Ut k
 |tuple ds=>exact Ut k
 |dict c=>exact Ut k
end Aw
theorem Sr {S:Di}{c:Dd}(h:c.length=S.length)(d:Er):ar ((S.zip c).map fun e=>((Eu e.1.nm:Key),V.ref e.2)) d=IM S d:=by
 cases d with
 |str x=>exact Ss h x
 |none=>rfl
 |bool b=>rfl
 |int i=>rfl
 |list ds=>rfl
 |tuple ds=>rfl
 |dict Dm=>rfl
namespace Ax
abbrev st:Stmt:=inClass (top 58) 5
theorem sc:zu ["self","name"] ["self","name"] (zF st):=Cn
include T in
theorem ok (F:wX K "has" "Shelf.has" st f fd)(b:wV P w K mg base 1 "is_key" ["table","thing"]<|oH K):yu P w K mg base Ck 2 f fd ["self","name"] (pC P w K aC):=by
 refine F.ok sc fun _ _ _ _ H B Q E n h=>?_;obtain⟨a,r,S,d,v,rfl,o,hd,k⟩:=h;refine⟨_,(zE<|zM<|zI b n.m<|zA (kT (pv 0) rfl)<|zA (pv 1) zB),?_⟩;obtain⟨g,e,c,p,q,A,nx,rfl,nd,i,s,j,l,t,u,x,y,z⟩:=o;refine⟨_,rfl,a,aC,e,_,_,rfl,i,T.cls,T.n1,rfl,_,rfl,c,_,d,v,rfl,l,hd,?_⟩;rwa[Sr j d]
end Ax
namespace Ay
abbrev st:Stmt:=top 56
theorem sc:zu ["store","name"] ["store","name"] (zF st):=Cn
include T in
theorem ok (F:wX0 K "need_name" st f fd)(c:Met P w K mg base aC 2 "has" ["self","name"]<|pC P w K aC):yu P w K mg base (CC P w) 3 f fd ["store","name"] (ug P w K aC aN):=by
 refine F.qi sc fun _ _ _ _ H I Q E l h=>?_;obtain⟨a,t,S,d,v,rfl,b,hd,n,o⟩:=h;refine⟨_,(zE<|yC (qF<|zZ (K:=K)<|XL (pv 0) T.cls c l.m<|zA (pv 1) zB) (zE<|xR rfl yV rfl T.pJ T.rB<|zA zq zB) zS),?_⟩
 obtain⟨g,e,p,r,s,G,nx,i,nd,j,u,x,y,z,A,B,C,D⟩:=id b;refine⟨_,rfl,a,e,_,rfl,j,rfl,_,rfl,a,_,S,d,v,rfl,b,hd,_,rfl,?_⟩;cases q:IM S d with
 |false=>exact Uv ⟨Ur 1,o q⟩
 |true=>exact Ut<|n q
end Ay
namespace Az
abbrev st:Stmt:=inClass (top 58) 6
theorem sc:zu ["self","name"] ["self","name"] (zF st):=Cn
include T in
theorem ok (F:wX K "thing" "Shelf.thing" st f fd)(s:uh P w K mg base 3 "need_name" ["store","name"]<|ug P w K aC aN):yu P w K mg base (CC P w) 4 f fd ["self","name"] (vY P w K aC aN):=by
 refine F.qi sc fun _ _ _ _ H vs Q E n h=>?_;obtain⟨a,R,S,d,v,rfl,r,hd,L,M⟩:=h;have I:=No n;refine⟨_,(zD (yD<|yO s n.m yK<|zA (pv 0)<|zA (pv 1) zB)<|zE<|zM<|NG I (kT (pv 0) rfl) (pv 1)<|fun _ _=>rfl),?_⟩
 obtain⟨g,u,t,N,O,j,nx,y,nd,A,U,B,C,X,Y,Z,h8,D⟩:=id r;refine⟨_,rfl,_,rfl,a,_,S,d,v,rfl,r,hd,fun q=>?_,M⟩;cases d with
 |str x =>
  cases(show v=_ from hd);have q:x∈S.map En.nm:=Zr q;obtain⟨e,l,rfl⟩:=Za.mp q;obtain⟨i,G,z⟩:=ZN.mp l;have c:i<j.length:=by lia
  have o:S[i]?=some e:=by rw[Zb G,z]
  have p:j[i]?=some j[i]:=Zb c;have J:=T1 g B o p;exact⟨_,rfl,a,aC,u,_,_,rfl,A,T.cls,T.n1,rfl,_,rfl,t,_,rfl,by rw[←J];exact v9.k (k:=(Eu e.nm:Key)) C,L e l rfl _<|D i e _ o p⟩
 |none=>cases q
 |bool b=>cases q
 |int i=>cases q
 |list ds=>cases q
 |tuple ds=>cases q
 |dict Dm=>cases q
end Az
namespace AA
abbrev st:Stmt:=inClass (top 58) 4
theorem sc:zu ["self","name","forms"] ["self","name","forms"] (zF st):=Cn
include T in
theorem ok (F:wX K "need_form" "Shelf.need_form" st f fd)(u:sZ P w K mg base aC 4 "thing" ["self","name"]<|vY P w K aC aN):yu P w K mg base (CC P w) 5 f fd ["self","name","forms"] (rC P w K aC):=by
 refine F.qi sc fun _ _ _ _ H R Q E p h=>?_;obtain⟨a,A,M,S,x,b,rfl,s,th,D,l,j,k⟩:=h;refine⟨_,(zE<|yC (zU (Rk (K:=K) p.units) (zR (yt:Cg _<|wZ K) (qB (pv 0) T.cls u p.m yK<|zA (pv 1) zB) zH) (pv 2)<|by with_unfolding_all rfl) (zE<|xR rfl yV rfl T.pJ T.rB<|zA zq zB) zS),?_⟩
 obtain⟨g,v,I,J,L,O,nx,z,nd,B,_⟩:=id s;refine⟨_,rfl,a,v,_,rfl,B,rfl,_,rfl,a,_,S,.str x,.str x,rfl,s,rfl,fun e o ex t q=>?_,fun no=>?_⟩
 ·have ex:x=e.nm:=by injection ex
  obtain⟨d,n,N,_⟩:=th e o;rw[n]at q;obtain⟨c,r,y,C⟩:=uW q;cases y;have G:=uL n;have i:=Nm g o b;rw[←ex,G]at i;refine⟨t,_,_,_,rfl,rfl,C,Fw _ _,_,rfl,.str d.word,b.map .str,rfl,⟨A,_,rfl,D,zy.strs b⟩,(uV b l).1,?_,(show 0<=60 by decide),!decide (d.word∈b),?_,?_⟩
  ·cases d
   ·show Es "leaf"=true;decide +kernel
   ·show Es "tree"=true;decide +kernel
   ·show Es "note"=true;decide +kernel
  ·rw[O1];cases decide (d.word∈b)<;>rfl
  ·rw[j]at i;rw[←i];exact Ut k
 ·have no:x∉S.map En.nm:=Ju no;rw[FU no b]at j;cases j
end AA
theorem aG:∀y∈(["leaf","tree"]:Da),Es y=true:=fun y b=>by
 rcases Zh.mp b with rfl|b
 ·decide +kernel
 ·rw[Q6.mp b];decide +kernel
namespace AB
abbrev st:Stmt:=inClass (top 58) 3
theorem sc:zu ["self","thing","row","parent"] ["self","thing"] (zF st):=Cn
include T in
theorem ok (F:wX K "need_names" "Shelf.need_names" st f fd)(D:sZ P w K mg base aC 5 "need_form" ["self","name","forms"]<|rC P w K aC):yu P w K mg base (CC P w) 6 f fd ["self","thing"] (rD P w K aC):=by
 refine F.qi sc fun _ A _ _ H vs Q E G h=>?_;obtain⟨a,U,S,t,v,rfl,M,th,hd,nn,j,k⟩:=h;refine⟨_,(vF (yC (zU qJ (zR (yt:Cg _<|wZ K) (pv 1) zH) zq<|zW _) (zE<|yU Lz rfl (jW<|zR (yt:Cg _<|wZ K) (pv 1) zH) (zL (i:=2) sc.nd rfl<|EJ rfl)<|zE<|yD<|qB (pv 0) T.cls D G.m yK<|zA (zR (yt:Cg _<|wZ K) (pv 2) zH)<|zA (yH<|zA zq<|zA zq zB) zB) zS)<|zE<|yC (zU qJ (zR (yt:Cg _<|wZ K) (pv 1) zH) zq<|zW _) (zD (yD<|qB (pv 0) T.cls D G.m yK<|zA (zR (yt:Cg _<|wZ K) (pv 1) zH)<|zA (yH<|zA zq zB) zB)<|zE<|yU Lz rfl (jW<|zR (yt:Cg _<|wZ K) (pv 1) zH) (zL (i:=3) sc.nd rfl<|EJ rfl)<|zE<|yD<|qB (pv 0) T.cls D G.m yK<|zA (pv 3)<|zA (yH<|zA zq zB) zB) zS),?_⟩
 obtain⟨g,N,d1,d2,d3,ts,nx,O,nd,X,_⟩:=id M;cases t with
 |leaf ls =>
  obtain⟨p,b,rfl,l,J⟩:=BY hd;refine⟨fun d s=>d=[some<|.ref a,some<|.ref p,none,none]/\s=H,⟨_,rfl,p,_,_,_,rfl,rfl,l,rfl,rfl,false,congrArg V.bl<|by decide +kernel,Ut (A:=False) ⟨rfl,rfl⟩⟩,?_⟩;rintro d s ⟨rfl,rfl⟩;exact⟨_,rfl,p,_,_,_,rfl,rfl,l,rfl,rfl,false,congrArg V.bl<|by decide +kernel,Ut (A:=False)<|k _<|zx.refl _⟩
 |tree rs =>
  obtain⟨p,b,rfl,l,J⟩:=BR hd;obtain⟨b',xs,e,u,hx⟩:=J;cases e;have j:(rs.all fun r=>yQ S r.2 ["leaf","tree"])=true:=j;refine⟨fun d s=>∃o,d=[some<|.ref a,some<|.ref p,o,none]/\zx H s,?_,?_⟩
  ·refine⟨_,rfl,p,_,_,_,rfl,rfl,l,rfl,rfl,true,congrArg V.bl<|Zf rfl,Uv (B:=False) ?_⟩;refine⟨_,rfl,p,_,_,_,rfl,rfl,l,rfl,b,rfl,⟨_,u⟩,B5 (K:=K) (a:=b) (xs:=xs) (fun i I C=>∃o,I=[some<|.ref a,some<|.ref p,o,none]/\zx H C) ⟨none,rfl,zx.refl _⟩ (fun i I C _ ⟨_,_,e⟩=>e.yd u) ?_ fun _ _ z=>z⟩;rintro i x I C Z ⟨o,rfl,n⟩;obtain⟨r,c,R,rfl,Y⟩:=HU hx Z;refine⟨_,rfl,a,N,_,rfl,n _ _ X,rfl,_,rfl,c,_,_,_,rfl,rfl,n.yd Y,rfl,Ur 2,fun q nq=>?_⟩;have L:=n.trans<|zz (o:=.tup [V.str "leaf",V.str "tree"]) nq;exact⟨a,q,U,S,r.2,["leaf","tree"],rfl,M.same L,th,xg.of zC,aG,ZI.mp j r<|Zm R,_,rfl,L⟩
  ·rintro d s ⟨o,rfl,n⟩;exact⟨_,rfl,p,_,_,_,rfl,rfl,n.yd l,rfl,rfl,false,congrArg V.bl<|by decide +kernel,Ut (A:=False)<|k _ n⟩
 |note x ps y=>exact absurd rfl nn
end AB
theorem yA:Raises X (fun _ _ _=>False):=by
 intro c f H s e d I b;obtain⟨_,_,_,_,_,_,_,_,_,_,_,_,_,_,q⟩:=b;exact q.elim
namespace AC
abbrev st:Stmt:=inClass (top 58) 2
theorem sc:zu ["self","thing","head","number","name"] ["self","thing"] (zF st):=Cn
include T in
theorem ok (F:wX K "put" "Shelf.put" st f fd)(QM:uh P w K mg base 6 "need_thing" ["thing"]<|pU K aT)(QN:sZ P w K mg base aC 6 "need_names" ["self","thing"]<|rD P w K aC)
  (Qm:wV P w K mg base 1 "letter_of" ["thing"]<|IB K) (QO:wV P w K mg base 4 "digest" ["thing"]<|HX K) (Qp:Met P w K mg base aC 1 "take" ["self","name","thing"]<|qy P w K aC):yu P w K mg base (CC P w) 7 f fd ["self","thing"] (tD P w K aC):=by
 refine F.qi sc fun _ A _ _ H vs Q E j h=>?_;obtain⟨a,fp,S,t,v,word,ds,rfl,sh,th,hd,et,sm,G,lt,gt,hl,hn,nn,ab,k3⟩:=h;have hu:=No j;refine⟨_,(zD (yD<|yO QM j.m yK<|zA (pv 1) zB)<|zD (yD<|qB (pv 0) T.cls QN j.m yK<|zA (pv 1) zB)<|zD (yC (zU (Wt j.units) (pv 1) (kT (pv 0) rfl)<|by with_unfolding_all rfl) (zE<|zM<|SM j.units (kT (pv 0) rfl) (pv 1)<|fun _ _=>rfl) zS)<|zD (Cm (i:=2) sc.nd<|zP zK (zI Qm j.m<|zA (pv 1) zB)<|zY jB (by rfl) T.str Yx<|zA (zI QO j.m<|zA (pv 1) zB) zB)<|zD (Cm (i:=3) sc.nd<|X4 hu (kT (pv 0) rfl) (pv 2) zH ⟨rfl,rfl,rfl,rfl⟩)<|zD (Cm (i:=4) sc.nd<|aR (pv 2)<|pv 3)<|zD (yD<|XL (pv 0) T.cls Qp j.m<|zA (pv 4)<|zA (pv 1) zB)<|zE<|zM<|pv 4),?_⟩
 rw[et]at sm G;refine⟨_,rfl,word,ds,v,rfl,et▸Dt.dw hd,sm,G,lt,fun H1 s1=>?_⟩;obtain⟨x,ev⟩:∃t,v=.ref t:=by
  obtain⟨c,r,e,_⟩:=uW hd;exact⟨c,e⟩
 subst ev;have g:=sh.same s1;have o:=Dt.same s1 _ _ hd;obtain⟨R,s,d1,N,d3,ts,nx,y,nd,l,U,h3,h4,M,X,h7,Y,h9⟩:=id g;refine⟨_,rfl,a,s,_,rfl,l,rfl,_,rfl,a,fp,S,t,.ref x,rfl,g,th,o,nn,ab,fun H2 s2=>?_⟩;have I:=s1.trans s2;have q:=g.same s2;have b:=Dt.same s2 _ _ o;clear g U h3 h4 M X h7 Y h9 l o y nd;obtain⟨R,s,d1,N,d3,ts,nx,y,nd,l,U,h3,h4,M,X,h7,Y,h9⟩:=id q;have kt:=BT gt;refine⟨_,rfl,_,rfl,a,aC,s,_,_,rfl,l,T.cls,T.n2,rfl,x,N,_,t.dat,rfl,rfl,M,kt,b,_,rfl,?_⟩;cases hv:Us (S.map fun e=>(e.d,V.str e.nm)) t.dat with
 |some u =>
  obtain⟨p,hp,e⟩:=Za.mp<|uI hv;obtain⟨L,B,rfl⟩:=Za.mp hp;have e:L.d=t.dat:=e;have Z:Us (S.map fun e=>(e.d,V.str e.nm)) t.dat=some (V.str L.nm):=vJ (by rw[ZB];exact R.nd) (Za.mpr ⟨L,B,by rw[e]⟩);exact Uv ⟨_,rfl,a,aC,s,_,_,rfl,l,T.cls,T.n2,rfl,_,rfl,x,N,_,t.dat,_,rfl,rfl,M,kt,b,Z,k3 _ S L ⟨Off.of I,q,B,e,.inl rfl⟩⟩
 |none =>
  have C:t.dat∉S.map (·.d):=fun z=>by
   have:=IZ hv;rw[ZB]at this;exact this z
  refine Ut (A:=False) ?_;have db:=II t.sp;have D:=hn<|UB t;refine⟨_,rfl,.ref x,t,rfl,b,_,rfl,.ref x,t,rfl,b,gt,fun H3 J=>⟨_,rfl,?_,_,_,rfl,rfl,?_,?_⟩⟩
  ·have hz:(dg t.sp).natAbs<97:=by lia
   rcases JW (dg t.sp).natAbs with z|z
   ·rw[z];decide
   ·have:(dg t.sp).natAbs.log2<7:=(Nat.log2_lt<|by lia).mpr (by lia);lia
  ·rw[Rh];have l:=Ho (n:=(dg t.sp).toNat) (by lia);have U:=Gx t;exact zr (by lia)
  rw[Rh];show IV 2 (V.str<|UB t) _ H3 _;have ai:=q.same J;have g1:=J _ _ l;have g6:=J _ _ X;refine⟨_,rfl,a,aC,s,_,_,rfl,g1,T.cls,T.n3,rfl,d3,rfl,.inl ⟨_,.inl g6⟩,_,rfl,_,v9.k (k:=(Eu (UB t):Key)) g6,?_⟩;have em:(Us nx (Eu (UB t):Key)).getD (V.int 0)=V.int (((xq S<|UB t).getD 0:Nat):Int):=by
   rw[Y];cases xq S (UB t) with
   |none=>rfl
   |some m=>rfl
  rw[em];have dl:(".":Str).length=1:=by decide +kernel
  refine⟨_,rfl,_,rfl,by have:=kK t;lia,by rw[dl];decide,_,rfl,_,rfl,D,?_⟩;have O:UB t++"."++UD ((xq S<|UB t).getD 0)=(Gz S t).nm:=by unfold En.nm Gz;rw[Pg]
  rw[O];refine⟨_,rfl,a,s,_,rfl,g1,rfl,_,rfl,_,rfl,a,fp,S,Gz S t,x,rfl,ai,⟨kt,jS t,D,kK t⟩,Dt.same J _ _ b,C,Rc R<|jS t,hl,fun H4 o4 aj=>?_⟩;exact⟨_,rfl,k3 _ _ _ ⟨(Off.of<|I.trans J).trans o4,aj,by simp,rfl,.inr ⟨rfl,rfl,C⟩⟩⟩
end AC
namespace AD
abbrev st:Stmt:=inClass (top 58) 0
theorem sc:zu ["self","base","name"] ["self","base"] (zF st):=Cn
include T in
theorem ok (F:wX K "__init__" "Shelf.__init__" st f fd)(QP:Met P w K mg base aC 1 "names" ["self"] uv)(Qp:Met P w K mg base aC 1 "take" ["self","name","thing"]<|qy P w K aC)
  (Qa:sZ P w K mg base aC 4 "thing" ["self","name"]<|vY P w K aC aN):yu P w K mg base Ck 5 f fd ["self","base"] (pR P w K aC):=by
 refine F.ok sc fun _ A _ _ H vs Q E U h=>?_;obtain⟨x,j,rfl,hx,B,ne,k⟩:=h;refine⟨_,(zD (K8 (pv 0) qM rfl)<|zD (K8 (pv 0) Rn rfl)<|zD (K8 (pv 0) qM rfl)<|zE<|yC (zU SG (pv 1) uO<|zW _) (zE<|yU PassesOwn.never rfl (xJ<|Ro (pv 1) T.cls QP U.m) (zL (i:=2) sc.nd rfl<|EJ rfl)<|zE<|yD<|XL (pv 0) T.cls Qp U.m<|zA (pv 2)<|zA (qB (pv 1) T.cls Qa U.m yA<|zA (pv 2) zB) zB) zS),?_⟩
 refine fun d n1=>⟨_,rfl,x,aC,j,_,rfl,(zz n1) _ _ hx,T.cls,T.n1,by decide,?_⟩;have q:x≠d:=zQ hx n1;have I:j≠d:=zQ B n1;refine fun b o2 n2 T2 e2=>?_;obtain⟨es,rfl⟩:=e2;have X:b≠x/\b≠d/\H b=none:=by
  refine⟨fun z=>?_,fun z=>?_,?_⟩
  ·rw[z,zC]at n2;cases n2
  ·rw[z,zG<|EK q,zC]at n2;cases n2
  ·have C:b≠x:=fun z=>by rw[z,zC]at n2;cases n2
   have N:b≠d:=fun z=>by rw[z,zG<|EK q,zC]at n2;cases n2
   rw[zG C,zG N]at n2;exact n2
 obtain⟨l,s,u⟩:=X;have J:j≠b:=zQ B u;refine⟨_,rfl,x,aC,j,[("thing_by_name",V.ref d)],rfl,by rw[zG<|EK l,zC];rfl,T.cls,T.n2,(show 1<1000 by decide),?_⟩;refine fun g n3=>?_;have Y:g≠x/\g≠b/\g≠d/\H g=none:=by
  have C:g≠x:=fun z=>by rw[z,zC]at n3;cases n3
  have N:g≠b:=fun z=>by rw[z,zG l,zC]at n3;cases n3
  have a3:g≠d:=fun z=>by rw[z,zG<|EK q,zG<|EK s,zG<|EK q,zC]at n3;cases n3
  refine⟨C,N,a3,?_⟩;rw[zG C,zG N,zG C,zG a3]at n3;exact n3
 obtain⟨y,G,D,v⟩:=Y;have L:j≠g:=zQ B v;refine⟨_,rfl,x,aC,j,[("thing_by_name",V.ref d),("name_by_thing",V.ref b)],rfl,by rw[zG<|EK y,zC];rfl,T.cls,T.n3,(show 2<1000 by decide),?_⟩;obtain⟨n,p⟩:∃n,n=upd (upd (upd (upd (upd (upd H d<|.dK []) x<|.ins aC j<|Uu "thing_by_name" (V.ref d) []) b<|Gs b es) x<|.ins aC j<|Uu "name_by_thing" (V.ref b) [("thing_by_name",V.ref d)]) g<|.dK []) x (.ins aC j<|Uu "next_numbers" (V.ref g) [("thing_by_name",V.ref d),("name_by_thing",V.ref b)]):=⟨_,rfl⟩;have q0:n x=some (.ins aC j<|Po d b g):=by rw[p,zC];rfl
 have q1:n d=some (.dK []):=by rw[p,zG<|EK q,zG<|EK D,zG<|EK q,zG<|EK s,zG<|EK q,zC]
 have q2:n b=some (Gs b es):=by rw[p,zG l,zG<|EK G,zG l,zC]
 have q3:n g=some (.dK []):=by rw[p,zG y,zC]
 have qx:n j=some (.own x):=by rwa[p,zG ne,zG L,zG ne,zG J,zG ne,zG I]
 have Z:Off [x] H n:=fun c o O e=>by
  have R:c≠x:=fun z=>O (by rw[z];exact Zc);rwa[p,zG R,zG<|zQ e v,zG R,zG<|zQ e u,zG R,zG<|zQ e n1]
 have S:∀c∈[x,j,d,b,g],c=x\/c=j\/H c=none:=fun c O=>by
  simp only[Zh,YE,Vz]at O
  rcases O with rfl|rfl|rfl|rfl|rfl
  ·exact .inl rfl
  ·exact .inr (.inl rfl)
  ·exact .inr (.inr n1)
  ·exact .inr (.inr u)
  ·exact .inr (.inr v)
 have ai:xr P w K aC n x [x,j,d,b,g] []:=by
  obtain⟨_,_,_,xs,M,r⟩:=T2;cases r;rw[zC]at M;have ab:n b=some (Gs b<|List.map (L8<|yL P w) []):=q2.trans M;exact⟨ux.nil,j,d,b,g,[],[],rfl,by simp[EK ne,q,EK l,EK y,I,J,L,EK s,EK D,EK G],q0,qx,rfl,q1,⟨ZD _,fun _ z=>(nomatch z),YM,[],ab,.nil⟩,q3,ZD _,fun h=>rfl,fun i e t z=>by cases z⟩
 rw[←p];clear p;exact⟨_,rfl,rfl,false,congrArg V.bl (by rw[Zf rfl];rfl),Ut (A:=False)<|k _ _ S Z ai⟩
end AD
end
end An14
namespace An
open PySem L2 AnJ
theorem vB (h:UI ls):UR (yd ls)=true:=(BT<|Nu h).1 |> fun z=>by
 have z:(UR (.str "leaf")&&(UR (yd ls)&&true))=true:=z;rw[Zi,Zi]at z;exact z.2.1
structure yc (K:Ca)(H:Hp)(fs:Dk)(Dm:Dl):Prop where
 keys:Dm.map (·.1)=fs.map fun f=>(.inr (Cd f.1):Key)
 val:∀(i:Nat) (f:Fi) (kv:Key×V),fs[i]?=some f->Dm[i]?=some kv->Dt K H (yd f.2) kv.2/\UI f.2
section
variable {K:Ca}{H H':Hp}{fs:Dk}{Dm:Dl}
theorem yc.nil:yc K H [] []:=⟨rfl,fun i f b h=>(nomatch h)⟩
theorem yc.len (h:yc K H fs Dm):Dm.length=fs.length:=by
 have:=congrArg List.length h.keys;rw[Q5,Q5]at this;exact this
theorem yc.same (h:yc K H fs Dm)(e:zx H H'):yc K H' fs Dm:=⟨h.keys,fun i f c a b=>⟨Dt.same e _ _ (h.val i f c a b).1,(h.val i f c a b).2⟩⟩
theorem yc.off {X:Dd}(h:yc K H fs Dm)(n:∀b∈X,∀xs,¬Rd H b (.tup xs))(o:Off X H H'):yc K H' fs Dm:=⟨h.keys,fun i f c a b=>⟨Dt.off n o _ _ (vB (h.val i f c a b).2) (h.val i f c a b).1,(h.val i f c a b).2⟩⟩
theorem yc.get (h:yc K H fs Dm){i:Nat}{k:Key}{v:V}(e:Dm[i]?=some (k,v)):∃f,fs[i]?=some f/\k=.inr (Cd f.1)/\Dt K H (yd f.2) v/\UI f.2:=by
 have hl:=(Zq.mp e).1;have c:=Zb (l:=fs) (i:=i) (by rwa[←h.len]);have d:=congrArg (fun l=>l[i]?) h.keys;simp only[Zj,e,c,Yt]at d;obtain⟨a,b⟩:=h.val i _ _ c e;exact⟨_,c,Option.some.inj d,a,b⟩
theorem yc.snoc (h:yc K H fs Dm){f:Fi}{v:V}(d:Dt K H (yd f.2) v)(hl:UI f.2):yc K H (fs++[f]) (Dm++[(.inr<|Cd f.1,v)]):=by
 refine⟨by rw[Zg,Zg,h.keys];rfl,fun i g e a b=>?_⟩
 by_cases z:i<fs.length
 ·rw[ZS z]at a;rw[ZS<|by rwa[h.len]]at b;exact h.val i g e a b
 ·rw[ZX<|by lia]at a;rw[ZX (by rw[h.len];lia)]at b;have c:i-fs.length=0:=by
   rcases JW (i-fs.length) with q|q
   ·exact q
   ·rw[JA.mpr (by show 1<=_;lia)]at a;cases a
  rw[c]at a;rw[h.len,c]at b;cases a;cases b;exact⟨d,hl⟩
end
theorem vH {d:Nat}{a b:Da}(h:a≠[])(i:b≠[])(j:∀l∈a,zV l=true)(lb:∀l∈b,zV l=true)(e:Cd a=Cd b):a=b:=by
 have f:=kN h fun y c=>x6<|j y c;have g:=kN i fun y c=>x6<|lb y c;unfold Cd at e;rw[←f,←g,e]
def Cp (rows:Dg):Dl:=rows.map fun p=>((.inr p.1:Key),V.str p.2)
theorem kZ (rows:Dg):(Cp rows).map (·.1)=rows.map fun p=>(.inr p.1:Key):=by unfold Cp;rw[ZB];rfl
theorem NP {rows:Dg}{l n:Str}(h:l∉rows.map (·.1)):ye (Cp rows) (.inr l) (.str n)=Cp (rows++[(l,n)]):=by
 rw[uF]
 ·unfold Cp;rw[Zg];rfl
 ·rw[kZ];intro z;obtain⟨p,b,e⟩:=Za.mp z;cases e;exact h<|Za.mpr ⟨p,b,rfl⟩
def Cq (b:List<|Str×Ej):Dl:=b.map fun p=>((.inr p.1:Key),V.ref p.2)
theorem FQ (b:List<|Str×Ej):(Cq b).map (·.1)=b.map fun p=>(.inr p.1:Key):=by unfold Cq;rw[ZB];rfl
theorem Wb {c:List (Str×Ej)}(nd:(c.map (·.1)).Nodup):((Cq c).map (·.1)).Nodup:=by
 rw[FQ];have:(c.map fun p=>(.inr p.1:Key))=(c.map (·.1)).map Sum.inr:=by rw[ZB];rfl
 rw[this];exact LU _ (fun a b n e=>by cases e;exact n rfl) nd
theorem k7 {b:List (Str×Ej)}(nd:(b.map (·.1)).Nodup){p:Str×Ej}(h:p∈b):Us (Cq b) (.inr p.1)=some (.ref p.2):=vJ (Wb nd)<|Za.mpr ⟨p,h,rfl⟩
theorem Pn {b:List (Str×Ej)}{l:Str}(h:l∉b.map (·.1)):Us (Cq b) (.inr l)=none:=by
 cases e:Us (Cq b) (.inr l) with
 |none=>rfl
 |some v =>
  have:=uI e;rw[FQ]at this;obtain⟨p,c,z⟩:=Za.mp this;cases z;exact absurd (Za.mpr ⟨p,c,rfl⟩) h
theorem FR {c:List (Str×Ej)}{l:Str}{b:Ej}(h:l∉c.map (·.1)):ye (Cq c) (.inr l) (.ref b)=Cq (c++[(l,b)]):=by
 rw[HG _<|Pn h];unfold Cq;rw[Zg];rfl
theorem FS {b:List (Str×Ej)}(nd:(b.map (·.1)).Nodup){p:Str×Ej}(h:p∈b):ye (Cq b) (.inr p.1) (.ref p.2)=Cq b:=by
 unfold ye;rw[Zt (by rw[xZ,k7 nd h];rfl)];unfold Cq;rw[ZB];refine Yp fun q d=>?_;show(if(.inr q.1:Key)=.inr p.1 then((.inr q.1:Key),V.ref p.2) else(.inr q.1,V.ref q.2))=(.inr q.1,V.ref q.2)
 split
 ·rename_i e;have e:q.1=p.1:=Sum.inr.inj e;have:V.ref q.2=V.ref p.2:=by
   have c:=k7 nd d;rw[e,k7 nd h]at c;exact(Option.some.inj c).symm
  rw[this]
 ·rfl
structure wH (K:Ca)(H1 H:Hp)(fs:Dk)(fa:List<|Str×Ej):Prop where
 wK:fa.map (·.1)=Cl fs
 nd:(fa.map (·.2)).Nodup
 new:∀p∈fa,H1 p.2=none
 at_:∀p∈fa,∃Dm,H p.2=some (.dK Dm)/\yc K H (sub fs p.1) Dm
section
variable {K:Ca}{H1 H H':Hp}{fs:Dk}{fa:List (Str×Ej)}
theorem wH.nil:wH K H1 H [] []:=⟨rfl,YM,fun p h=>(nomatch h),fun p h=>(nomatch h)⟩
theorem wH.off {X:Dd}(h:wH K H1 H fs fa)(ex:∀c∈X,∃o,H1 c=some o)(n:∀b∈X,∀xs,¬Rd H b (.tup xs))(o:Off X H H'):wH K H1 H' fs fa:=⟨h.wK,h.nd,h.new,fun p d=>by
 obtain⟨f,a,b⟩:=h.at_ p d;refine⟨f,o _ _ (fun z=>?_) a,b.off n o⟩;obtain⟨q,e⟩:=ex _ z;rw[h.new p d]at e;cases e⟩
theorem wH.same (h:wH K H1 H fs fa)(e:zx H H'):wH K H1 H' fs fa:=⟨h.wK,h.nd,h.new,fun p d=>by
 obtain⟨c,a,b⟩:=h.at_ p d;exact⟨c,e _ _ a,b.same e⟩⟩
theorem wH.one (h:wH K H1 H fs fa){f:Fi}{a:Str}(e:f.1=[a]):wH K H1 H (fs++[f]) fa:=⟨by rw[jP,e];exact h.wK,h.nd,h.new,fun p c=>by
 rw[sub_snoc,HZ e];show∃b,_/\yc K H (sub fs p.1++[]) b;rw[ZG];exact h.at_ p c⟩
theorem wH.sY (h:wH K H1 H fs fa):(fa.map (·.1)).Nodup:=by rw[h.wK];exact(xC fs).1
theorem yN {c:Ej}:Off [c] H (upd H c o):=(Off.refl _ _).upd<|Q6.mpr rfl
theorem yB {c:Ej}{Dm:Dl}(h:H c=some (.dK Dm)):∀b∈[c],∀xs,¬Rd H b (.tup xs):=fun b d xs=>by
 rw[Q6.mp d];exact Ih h (fun _ z=>(nomatch z)) (fun _ _ z=>(nomatch z)) xs
theorem wH.old (h:wH K H1 H fs fa){p:Str×Ej}(d:p∈fa){Dm:Dl}(B:H p.2=some (.dK Dm))(w:yc K H (sub fs p.1) Dm){f:Fi}{b:Str}{r:Da}(e:f.1=p.1::b::r){v:V}(C:Dt K H (yd f.2) v)(hl:UI f.2) :
  wH K H1 (upd H p.2<|.dK<|Dm++[(.inr<|Cd (b::r),v)]) (fs++[f]) fa:=by
 have nt:=yB B;have o:Off [p.2] H (upd H p.2<|.dK<|Dm++[((.inr (Cd (b::r)):Key),v)]):=yN;have inl:p.1∈Cl fs:=by rw[←h.wK];exact Za.mpr ⟨p,d,rfl⟩
 refine⟨?_,h.nd,h.new,fun q g=>?_⟩
 ·rw[jP,e];show _=qE (Cl fs) p.1;unfold qE;rw[Zt inl];exact h.wK
 ·rw[sub_snoc,uZ e]
  by_cases z:p.1=q.1
  ·rw[Zt z];have eq:p.2=q.2:=by
    have n:=k7 h.sY g;rw[←z,k7 h.sY d]at n;injection (Option.some.inj n)
   refine⟨_,by rw[←eq];exact zC,?_⟩;rw[←z];exact(w.off nt o).snoc (f:=(b::r,f.2)) (Dt.off nt o _ _ (vB hl) C) hl
  ·rw[Zs z];obtain⟨s,t,u⟩:=h.at_ q g;have ne:q.2≠p.2:=fun y=>by
    obtain⟨i,x,l⟩:=ZN.mp d;obtain⟨j,A,c⟩:=ZN.mp g;have:=(YX (h₀:=by simpa using x) (h₁:=by simpa using A) h.nd).mp (by rw[ZQ,ZQ,l,c];exact y.symm);subst this;rw[l]at c;exact z (by rw[c])
   refine⟨s,by rw[zG ne];exact t,?_⟩;show yc K _ (sub fs q.1++[]) s;rw[ZG];exact u.off nt o
theorem wH.mO (h:wH K H1 H fs fa){l b:Str}{r:Da}(g:l∉Cl fs){c:Ej}(t:H c=some (.dK []))(n1:H1 c=none)(j:∀p∈fa,p.2≠c){f:Fi}(e:f.1=l::b::r){v:V}(x:Dt K H (yd f.2) v)(hl:UI f.2) :
  wH K H1 (upd H c<|.dK [(.inr<|Cd (b::r),v)]) (fs++[f]) (fa++[(l,c)]):=by
 have nt:=yB t;have o:Off [c] H (upd H c<|.dK [((.inr (Cd (b::r)):Key),v)]):=yN;have A:sub fs l=[]:=JO.mpr fun k w=>by
  obtain⟨s,u⟩:=wD.mp w;refine g<|((xC fs).2 l).mpr ⟨_,u,?_⟩;cases q:k.1 with
  |nil=>exact absurd q s
  |cons b r=>exact⟨b,r,rfl⟩
 refine⟨?_,?_,fun p d=>?_,fun p d=>?_⟩
 ·rw[jP,e,Zg,h.wK];show _=qE (Cl fs) l;unfold qE;rw[Zs g];rfl
 ·rw[Zg];refine jL h.nd fun z=>?_;obtain⟨p,d,n⟩:=Za.mp z;exact j p d n
 ·rcases Zy.mp d with z|z
  ·exact h.new p z
  ·rwa[Q6.mp z]
 ·rw[sub_snoc,uZ e]
  rcases Zy.mp d with z|z
  ·have ne:l≠p.1:=fun y=>g (by rw[y,←h.wK];exact Za.mpr ⟨p,z,rfl⟩);rw[Zs ne];obtain⟨i,a,b⟩:=h.at_ p z;refine⟨i,by rw[zG<|j p z];exact a,?_⟩;show yc K _ (sub fs p.1++[]) i;rw[ZG];exact b.off nt o
  ·rw[Q6.mp z,Zt rfl,A];exact⟨_,zC,yc.snoc (fs:=[]) yc.nil (f:=(b::r,f.2)) (Dt.off nt o _ _ (vB hl) x) hl⟩
end
end An
namespace An14
open PySem L2 An
seal L2.PS L2.tG L2.PE L2.PT L2.PW L2.PA L2.PG L2.oM L2.PI L2.oK L2.PC
inductive pM (K:Ca)(vs:Dj)(H:Hp)(Q:VK)(e3:XK):Prop
 |mk (d:Er) (v:V) (h0:vs=[v]) (h1:Dw K H d v) (h2:small d=true) (h3:∀H',zx H H'->Q (.bl<|BE d) H'):pM K vs H Q e3
inductive nF (K:Ca)(aP:Ej)(vs:Dj)(H:Hp)(Q:VK)(E:XK):Prop
 |mk (d:Er) (v:V) (h0:vs=[v]) (h1:Dw K H d v) (h2:small d=true) (h3:(∀x,d=.str x->Hw x=true->∀p H',zx H H'->yx K H' p ((Uw x).map V.str)->Q (.ref p) H')) (h4:(BE d=false->∀H',zx H H'->E (.ref aP) none H')):nF K aP vs H Q E
inductive p8 (K:Ca)(vs:Dj)(H:Hp)(Q:VK)(e3:XK):Prop
 |mk (x:Str) (h0:vs=[.str x]) (h1:x.length<=1000) (h2:∀p H',zx H H'->yx K H' p ((GJ x).map V.str)->Q (.ref p) H'):p8 K vs H Q e3
inductive pL (K:Ca)(vs:Dj)(H:Hp)(Q:VK)(e3:XK):Prop
 |mk (d e:Er) (v u:V) (h0:vs=[v,u]) (h1:Dw K H d v) (h2:Dw K H e u) (h3:small d=true) (h4:small e=true) (h5:∀H',zx H H'->Q (.bl<|BE d&&Xg e) H'):pL K vs H Q e3
theorem S7:[V.str "/"]=[V.str ⟨#[47]⟩]:=by rw[Xm];rfl
theorem PK (x:Str):PySem.Txt.split x ⟨#[47]⟩=Uw x:=by unfold Uw;rw[Xm];rfl
theorem pZ:UT x=true↔x.length<=20/\(cs x).all UK=true:=by
 unfold UT;rw[Zi,ZM]
theorem vo:zV x=true↔1<=x.length/\x.length<=8/\(cs x).all UO=true:=by
 unfold zV;rw[Zi,Zi,ZM,ZM,and_assoc]
def CP (t:Th):Prop:=t.Good/\RU t.dat=true/\small t.dat=true/\narrow t.dat
theorem BW (h:UT x=true):Ok 1000 x:=by
 obtain⟨e,b⟩:=pZ.mp h;refine⟨by lia,?_⟩;rw[yM];intro c d;have:=ZI.mp b c d;unfold UK at this;simp only[Zi,ZM]at this;lia
theorem F1 (h:zV x=true):Ok 1000 x:=⟨by have:=(vo.mp h).2.1;lia,BG h⟩
theorem uK:∀{ls:Da},(∀l∈ls,l.length<=1000)->yF (ls.map .str)=true
 |[],_=>rfl
 |l::ls,h=>by
  show(decide (l.length<=1000)&&yF (ls.map .str))=true;rw[Zf<|h l Zc,uK fun x b=>h x<|Q9 _ b];rfl
theorem Ij:∀{rs:Dg},(∀r∈rs,r.1.length<=1000/\r.2.length<=1000)->yF (rs.map zb)=true
 |[],_=>rfl
 |r::rs,h=>by
  obtain⟨b,c⟩:=h r Zc;show((decide (2<=1000)&&(decide (r.1.length<=1000)&&(decide (r.2.length<=1000)&&true)))&&yF (rs.map zb))=true;rw[Zf b,Zf c,Ij fun x d=>h x<|Q9 _ d];rfl
theorem Oo {ls:Da}(h:∀l∈ls,UT l=true)(hl:ls.length<=63):CP (.leaf ls):=by
 have d:∀l∈ls,l.length<=1000:=fun l hl=>(BW<|h l hl).len;refine⟨⟨by show ls.length<=1000;lia,fun p g=>BW<|h p g⟩,?_,?_,fun c e=>?_⟩
 ·show((decide (("leaf":Str)="leaf")&&(decide (1=1)&&((ls.map Lv).all U3)))||_)=true;have:(ls.map Lv).all U3=true:=by rwa[List.all_map,ZI]
  rw[this,Zf rfl];rfl
 ·show(decide (2<=1000)&&(decide (("leaf":Str).length<=1000)&&((decide ((ls.map Lv).length<=1000)&&yF (ls.map .str))&&true)))=true;rw[uK d,Q5,Zf<|show ls.length<=1000 by lia,Zf<|show("leaf":Str).length<=1000 by decide +kernel];rfl
 ·have e:[Lv "leaf",.tuple<|ls.map .str]=c:=by injection e
  subst e;refine⟨by show 2<=63;decide,fun e f i b=>?_⟩
  rcases Zh.mp f with q|q
  ·rw[q]at b;cases b
  ·rw[Q6.mp q]at b;cases b;rwa[Q5]
theorem Os {rs:Dg}(h:∀r∈rs,zV r.1=true/\Ok 1000 r.2)(c:UG (rs.map (·.1))=true)(hl:rs.length<=63):CP (.tree rs):=by
 have j:∀rs:Dg,(∀r∈rs,zV r.1=true/\Ok 1000 r.2)->∀p∈z8 rs,Ok 1000 p:=by
  intro rs
  induction rs with
  |nil=>intro _ p b;cases b
  |cons r rs ih =>
   intro h p b
   rcases Zh.mp b with q|b
   ·rw[q];exact F1 (h r Zc).1
   ·rcases Zh.mp b with q|b
    ·rw[q];exact(h r Zc).2
    ·exact ih (fun x n=>h x<|Q9 _ n) p b
 refine⟨⟨?_,j rs h⟩,?_,?_,fun f e=>?_⟩
 ·show(z8 rs).length<=1000;rw[Ao.wA];lia
 ·show((decide (("tree":Str)="leaf")&&(decide (1=1)&&Xg (.tuple<|rs.map zb)))||((decide (("tree":Str)="tree")&&(decide (1=1)&&((rs.map zb).all UY&&UG ((rs.map zb).map UV))))||_))=true;have g:(rs.map zb).all UY=true:=by
   rw[List.all_map,ZI];intro r c;show(zV r.1&&true)=true;rw[(h r c).1];rfl
  have i:(rs.map zb).map UV=rs.map (·.1):=by rw[ZB];rfl
  rw[g,i,c,Zo<|show¬("tree":Str)="leaf" by decide +kernel,Zf<|show("tree":Str)="tree" from rfl];rfl
 ·show(decide (2<=1000)&&(decide (("tree":Str).length<=1000)&&((decide ((rs.map zb).length<=1000)&&yF (rs.map zb))&&true)))=true;rw[Ij fun r c=>⟨(F1 (h r c).1).len,(h r c).2.len⟩,Q5,Zf<|show rs.length<=1000 by lia,Zf<|show("tree":Str).length<=1000 by decide +kernel];rfl
 ·have e:[Lv "tree",.tuple<|rs.map zb]=f:=by injection e
  subst e;refine⟨by show 2<=63;decide,fun e l o d=>?_⟩
  rcases Zh.mp l with q|q
  ·rw[q]at d;cases d
  ·rw[Q6.mp q]at d;cases d;rwa[Q5]
theorem NO {l:Da}(h:l.Pairwise Cz):UG l=true:=tQ.mpr ⟨h.imp fun{a b} z q=>List.lt_asymm z q,ZO.mpr<|h.imp fun{a b} z=>Hd z⟩
theorem Sk (h:yQ S x ws=true):x∈S.map En.nm:=by
 unfold yQ at h;obtain⟨e,b,q⟩:=Yc.mp h;rw[Zi,ZM]at q;exact Za.mpr ⟨e,b,q.1⟩
theorem Oi {ls:Da}(h:At S x<|.leaf ls):yQ S x ["leaf","tree"]=true:=by
 obtain⟨e,b,rfl,hd⟩:=h;refine Yc.mpr ⟨e,b,?_⟩;rw[Zi,ZK,ZK,uL hd];exact⟨rfl,Zc ..⟩
theorem Oj {rows:Dg}(h:At S x<|.tree rows):yQ S x ["leaf","tree"]=true:=by
 obtain⟨e,b,rfl,hd⟩:=h;refine Yc.mpr ⟨e,b,?_⟩;rw[Zi,ZK,ZK,uL hd];exact⟨rfl,Q9 _<|Zc ..⟩
theorem Sl (h:Tree d S x):yQ S x ["leaf","tree"]=true:=by
 cases d with
 |zero=>exact absurd h<|fun z=>z
 |succ d =>
  rcases h with⟨ls,h⟩|⟨rows,h,_⟩
  ·exact Oi h
  ·exact Oj h
theorem aF {t:Th}(g:RU t.dat=true)(nn:t.word≠"note"):∃word ds,t.dat=.tuple (.str word::ds)/\(UJ word ds=true\/UL word ds=true):=by
 have go:∀{word:Str} {ds:Df},word≠"note"->(UJ word ds||(UL word ds||NA word ds))=true->UJ word ds=true\/UL word ds=true:=fun{word ds} n h=>by
  have:NA word ds=false:=by unfold NA;rw[Zo n];rfl
  rw[this,Bool.or_false,Vp]at h;exact h
 cases t with
 |leaf ls=>exact⟨_,_,rfl,go nn g⟩
 |tree rs=>exact⟨_,_,rfl,go nn g⟩
 |note x ps y=>exact absurd rfl nn
theorem TB {K:Ca}{Q:VK}{E:XK}(z:xr P w K C H a fp S)(ok:xj S)(g:CP t)(nn:t.word≠"note")(d:namesOk S t=true)(l:S.length<2000)(s:Dt K H t.dat v)
  (k:∀H2,Off fp H H2->xr P w K C H2 a fp (Co S t).1->Q (.str (Co S t).2) H2):tD P w K C [.ref a,v] H Q E:=by
 obtain⟨word,n,p,lt⟩:=aF g.2.1 nn;refine⟨a,fp,S,t,v,word,n,rfl,z,ok.th,s,p,g.2.2.1,g.2.2.2,lt,g.1,l,fun h=>by have:=Ny ok.num h;lia,nn,d,fun H2 A i u=>?_⟩
 ·skip
  obtain⟨of,b,c,o,q⟩:=u
  rcases q with q|⟨q,j,y⟩
  ·rw[q]at c b;have f:=NK ok (x:=i.nm) ⟨i,c,rfl,o⟩;rw[f]at k;exact k H2 of b
  ·have f:=HH (S:=S) (t:=t) fun e r hd=>y<|Za.mpr ⟨e,r,hd⟩;rw[f]at k;rw[j]at q;rw[q]at b;rw[j];exact k H2 of b
inductive ut (P:Ek)(w:Eo)(K:Ca)(C:Ej)(vs:Dj)(H:Hp)(Q:VK)(e3:XK):Prop
 |mk (a d:Ej) (fp:Dd) (S:Di) (rows:Dg) (h0:vs=[.ref a,.ref d]) (h1:xr P w K C H a fp S) (h2:xj S) (h3:Rd H d<|.dK<|Cp rows) (h4:(rows.map (·.1)).Nodup) (h5:(∀r∈rows,zV r.1=true/\yQ S r.2 ["leaf","tree"]=true)) (h6:rows.length<=63) (h7:S.length<2000) (h8:∀H',Off fp H H'->xr P w K C H' a fp (Co S<|.tree<|UC rows).1->Q (.str (Co S<|.tree<|UC rows).2) H'):ut P w K C vs H Q e3
section
variable {P:Ek}{w:Eo}{K:Ca}{mg:Str->Dc}{base:EB}{t1 t2 t3 t4 t5 t6 t7:Tok}{aL aC aN aT aA b1 b2:Ej}(T:Txt P w K mg t1 t2 t3 t4 t5 t6 t7 aL aC aN aT aA b1 b2)
theorem BS (h:xr P w K C H a fp S):∃dx d1 d2 d3,H a=some (.ins C dx<|Po d1 d2 d3):=by
 obtain⟨_,dx,d1,d2,d3,_,_,_,_,b,_⟩:=h;exact⟨dx,d1,d2,d3,b⟩
namespace AE
abbrev st:Stmt:=top 34
theorem sc:zu ["thing","labels"] ["thing"] (zF st):=Cn
include T in
theorem ok (F:wX0 K "is_path" st f fd)(t:wV P w K mg base 1 "is_label" ["thing"]<|B9 K):yu P w K mg base Ck 2 f fd ["thing"] (pM K):=by
 refine F.ok sc fun _ _ _ _ H M Q E A h=>?_;obtain⟨d,v,rfl,hd,G,k⟩:=h;refine⟨_,(zD (yC (qF<|zZ (K:=K)<|zO (z6 (K:=K)) (by rfl) T.isinstance ZJ<|zA (pv 0)<|zA (xI (v:=.ty "str") rfl T.str Yx rfl) zB) (zE<|zM j2) zS)<|zD (Cm (i:=1) sc.nd<|qV Yh PySem.F.slot_str_split PySem.F.type_str_split Hl (pv 0)<|zA zq zB)<|zE<|zM<|xU (yT ND (zO z9 (by rfl) T.len Yw<|zA (pv 1) zB) (jZ (v:=.int 4) rfl T.qw ⟨_,rfl⟩)<|zW _)<|qP<|zO (kC rfl) (by rfl) T.all Jx<|zA (xN (sc:=zF st) (N:=["thing","labels"]) (N':=["label"]) (src:=[none]) .a rfl rfl rfl (xJ<|pv 1) (fun _ _ _ _=>(zL (i:=0) (show(["label"]:Da).Nodup by decide +kernel) rfl (EJ rfl))) (fun _ _ _ _=>xS) (fun _ _ _ _=>(zI t A.m<|zA (pv 0) zB))) zB),?_⟩
 refine⟨_,rfl,_,_,d,_,rfl,hd,T.is<|by simp[kinds],_,rfl,?_⟩;cases d with
 |str x =>
  cases(show v=_ from hd);have O:x.length<=1000:=Zr G;have J:=IP x;refine Ut ⟨_,rfl,rfl,x,47,rfl,S7,by lia,fun l B=>?_⟩;rw[PK];have u:=zz (o:=.lst<|(Uw x).map V.str) B;refine⟨_,rfl,l,_,rfl,.inl<|yx.of zC,_,_,rfl,rfl,_,rfl,Ux (fun j=>?_)<|fun j=>?_⟩
  ·have j:(Uw x).length<=4:=by have:=Zr j;rw[Q5]at this;lia
   refine⟨_,rfl,l,rfl,⟨_,yx.of zC⟩,xK (K:=K) (a:=l) (xs:=(Uw x).map V.str) (fun i r s n=>∃o,s=[o]/\zx (upd H l<|.lst<|(Uw x).map V.str) n/\r=(((Uw x).take i).map zV).map V.bl) ⟨none,rfl,zx.refl _,rfl⟩ (zr (by rw[Q5];lia)) ?_ ?_ ?_⟩
   ·rintro i r s n L ⟨o,rfl,g,rfl⟩;refine⟨yx.of<|g _ _ zC,?_⟩;rw[Q5,Q5,Zx];lia
   ·rintro i y r s n c ⟨o,rfl,g,rfl⟩;rw[Zj]at c;cases q:(Uw x)[i]? with
    |none=>rw[q]at c;cases c
    |some z =>
     rw[q]at c;have c:V.str z=y:=Option.some.inj c;subst c;have R:=F2<|Zm q;refine⟨_,rfl,.str z,_,rfl,rfl,Zf<|by lia,fun I D=>⟨_,rfl,g.trans D,?_⟩⟩;rw[xB q,Zg];rfl
   ·rintro r s n ⟨o,rfl,g,rfl⟩ p C;refine⟨p,_,rfl,yx.of zC,?_⟩;rw[Q5,ZF,all_map];have e:BE (.str x)=(Uw x).all zV:=by
     show(decide ((Uw x).length<=4)&&(Uw x).all zV)=_;rw[Zf j];rfl
    rw[e]at k;exact k _<|(u.trans g).trans<|zz C
  ·have e:BE (.str x)=false:=by
    show(decide ((Uw x).length<=4)&&(Uw x).all zV)=_;rw[Zo (p:=(Uw x).length<=4)<|fun z=>j<|Zf (by rw[Q5];lia)];rfl
   rw[e]at k;exact k _ u
 |none=>exact Uv<|k _<|zx.refl _
 |bool b=>exact Uv<|k _<|zx.refl _
 |int i=>exact Uv<|k _<|zx.refl _
 |list ds=>exact Uv<|k _<|zx.refl _
 |tuple ds=>exact Uv<|k _<|zx.refl _
 |dict Dm=>exact Uv<|k _<|zx.refl _
end AE
namespace AF
abbrev st:Stmt:=top 35
theorem sc:zu ["path","labels"] ["path"] (zF st):=Cn
include T in
theorem ok (F:wX0 K "folders_of" st f fd):yu P w K mg base Ck 1 f fd ["path"] (p8 K):=by
 refine F.ok sc fun _ _ _ _ H I Q E G h=>?_;obtain⟨x,rfl,J,k⟩:=h;refine⟨_,(zD (Cm (i:=1) sc.nd<|qV Yh PySem.F.slot_str_split PySem.F.type_str_split Hl (pv 0)<|zA zq zB)<|zE<|zM<|xN (sc:=zF st) (N:=["path","labels"]) (N':=["count","labels"]) (src:=[none,some 1]) .a rfl rfl rfl (OL rfl T.range<|zA zH<|zA (zO z9 (by rfl) T.len Yw<|zA (pv 1) zB) zB) (fun _ _ _ _=>(zL (i:=0) (show(["count","labels"]:Da).Nodup by decide +kernel) rfl (EJ rfl))) (fun _ _ _ _=>xS) (fun _ _ _ _=>(Wx (K:=K) Yh VO VP (P9 (K:=K)) zq<|zA (yR (wJ:Kl _<|Ia K) (pv 1) xW<|xG<|pv 0) zB))),?_⟩
 have A:=IP x;have B:=PL x;have j:("/":Str).length=1:=by decide +kernel
 refine⟨_,rfl,rfl,x,47,rfl,S7,by lia,fun l z=>?_⟩;rw[PK];have u:=zz (o:=.lst<|(Uw x).map V.str) z;refine⟨_,rfl,l,_,rfl,.inl<|yx.of zC,1,(((Uw x).map V.str).length:Int),rfl,⟨by decide,by decide,by lia,by rw[Q5];lia⟩,?_⟩;have q:((((Uw x).map V.str).length:Int)-1).toNat=(Uw x).length-1:=by rw[Q5];lia
 rw[q];refine XA (fun i d e c=>∃o,e=[o,some<|.ref l]/\zx (upd H l<|.lst<|(Uw x).map V.str) c/\d=((EC i).map fun i=>PySem.Txt.join "/"<|(Uw x).take<|i+1).map V.str) ⟨none,rfl,zx.refl _,rfl⟩ (zr<|by lia) ?_ ?_ ?_
 ·rintro i d e c t ⟨o,rfl,b,rfl⟩;rw[Q5,Q5,Z8];exact Zd _
 ·rintro i d e c t ⟨o,rfl,b,rfl⟩;refine⟨rfl,_,rfl,_,rfl,_,rfl,l,_,rfl,yx.of<|b _ _ zC,fun p g=>?_⟩;have r:UA ((Uw x).map V.str) none (some<|1+(i:Int))=((Uw x).take<|i+1).map V.str:=by
   rw[Pa<|by lia,VY]
   congr 1
   lia
  rw[r];refine⟨"/",p,(Uw x).take<|i+1,rfl,rfl,.inl<|yx.of zC,?_,_,rfl,b.trans<|zz g,?_⟩
  ·have C:=MS (n:=1000) ((Uw x).take<|i+1) (fun y v=>by have:=F2<|Ji v;lia);have s:((Uw x).take<|i+1).length<=1001:=by rw[Zx];lia
   have D:((Uw x).take<|i+1).length*1000<=1001*1000:=V2 _ s;refine zr ?_;rw[j];lia
  ·rw[List.range_succ,Zg,Zg];rfl
 ·rintro d e c ⟨o,rfl,b,rfl⟩ p g;exact k p _ ((u.trans b).trans<|zz g)<|yx.of zC
end AF
namespace AG
abbrev st:Stmt:=top 36
theorem sc:zu ["path","lines"] ["path","lines"] (zF st):=Cn
include T in
theorem ok (F:wX0 K "is_file" st f fd)(i:wV P w K mg base 2 "is_path" ["thing"]<|pM K)(j:wV P w K mg base 3 "is_lines" ["thing"]<|Fg K):yu P w K mg base Ck 4 f fd ["path","lines"] (pL K):=by
 refine F.ok sc fun _ _ _ _ H s Q E g h=>?_;obtain⟨d,e,v,u,rfl,hd,l,o,p,k⟩:=h;refine⟨_,(zE<|zM<|xU (zI i g.m<|zA (pv 0) zB)<|qP<|zI j g.m<|zA (pv 1) zB),?_⟩;refine⟨_,rfl,d,v,rfl,hd,o,fun q c=>⟨_,rfl,Ux (fun b=>?_)<|fun b=>?_⟩⟩
 ·rw[b,Bool.true_and]at k;exact⟨_,rfl,e,u,rfl,Dw.same c _ _ l,p,fun r n=>k _<|c.trans n⟩
 ·have b:=Yd.mpr b;rw[b]at k;exact k _ c
end AG
namespace AH
abbrev st:Stmt:=top 42
theorem sc:zu ["shelf","rows"] ["shelf","rows"] (zF st):=Cn
include T in
theorem ok (F:wX0 K "put_rows" st f fd)(J:sZ P w K mg base aC 7 "put" ["self","thing"]<|tD P w K aC):yu P w K mg base Ck 8 f fd ["shelf","rows"] (ut P w K aC):=by
 refine F.ok sc fun _ _ _ _ H vs Q E B h=>?_;obtain⟨a,d,fp,S,rows,rfl,D,ok,hd,nd,i,rl,Y,k⟩:=h;refine⟨_,(zE<|zM<|qB (pv 0) T.cls J B.m yA<|zA (yH<|zA zq<|zA (zY GI (by rfl) T.tuple Jk<|zA (Rq (K:=K) rfl B.units (by rfl) T.sorted JI<|pv 1) zB) zB) zB),?_⟩;obtain⟨R,i1,i2,i3,t⟩:=BS D;have j:∀r∈rows,zV r.1=true/\Ok 1000 r.2:=fun r m=>by
  obtain⟨e,O,M⟩:=Za.mp<|Sk (i r m).2;exact⟨(i r m).1,by rw[←M];exact ok.nm O⟩
 refine⟨_,rfl,a,R,_,rfl,t,rfl,_,rfl,d,rows,rfl,hd,by lia,fun p A=>⟨(kW (j p A).1).ok,(j p A).2.ok⟩,fun l ss s z pm so Z nl hl dt=>?_⟩;have N:=RK nd pm so;subst N;refine⟨l,_,rfl,.inl ⟨yx.of hl,fun n n2=>?_⟩⟩;have G:=zz (o:=.tup s) n2;refine⟨Ur 2,fun q U=>?_⟩;have y:=zz (o:=.tup [V.str "tree",V.ref n]) U;have c:=(Z.trans G).trans y;have L:Dt K (upd (upd z n<|.tup s) q<|.tup [V.str "tree",V.ref n]) (Th.tree<|UC rows).dat (.ref q):=⟨q,_,rfl,xg.of zC,_,_,rfl,rfl,_,_,rfl,⟨n,s,rfl,xg.of<|y _ _ zC,zy.same (G.trans y) _ _ dt⟩,rfl⟩;have C:∀{r},r∈UC rows↔r∈rows:=(y6 rows).mem_iff;have g:CP (.tree<|UC rows):=Os (fun r m=>j r<|C.mp m) (NO<|IX nd) (by rwa[(y6 rows).length_eq]);have u:namesOk S (.tree<|UC rows)=true:=ZI.mpr fun r m=>(i r<|C.mp m).2;delta UN;dsimp only;show tD P w K aC [V.ref a,V.ref q] (upd (upd z n<|.tup s) q<|.tup [V.str "tree",V.ref n]) _ _;exact TB (D.same c) ok g (by show("tree":Str)≠"note";decide +kernel) u Y L fun I v x=>k I (fun b o X e=>v b o X<|c _ _ e) x
end AH
end
end An14
namespace An
open PySem L2
theorem Tl (fs:Dk)(i:Nat):wt (fs.take i)<=wt fs:=by
 have:=MZ (fs.take i)<|fs.drop i;rw[YJ]at this;lia
theorem P6 {fs:Dk}{i:Nat}{v:Str×Da}(h:v∈Cj (fs.take i)):v∈Cj fs:=by
 obtain⟨a,b⟩:=v;exact wF.mpr<|Ji<|wF.mp h
theorem aH (ok:xj S)(g:zf n fs)(hs:S.length+1+wt fs<=2000)(i:Nat) :
  xj ((Cj<|fs.take i).foldl Cb (S,[])).1/\((Cj<|fs.take i).foldl Cb (S,[])).1.length<2000/\((Cj<|fs.take i).foldl Cb (S,[])).2.map (·.1)=(Cj<|fs.take i).map (·.1):=by
 have f:=many<|fs.take i;have h:=Tl fs i;obtain⟨b,e⟩:=XT (d:=0) (Cj<|fs.take i) (Fo.nil ok) (fun v c=>(g.wK _<|wF.mp<|P6 c).2.2.2) (by lia);refine⟨b.ok,by lia,?_⟩;rw[b.wK,V6,ZB];rfl
theorem Tr {d:Nat}(ok:xj S)(g:zf (d+1) fs)(hl:fs.length<=63)(hs:S.length+1+wt fs<=2000)(ls c:Da)(e:ls++c=Cl fs) :
  Fo (d+1) S (ls.foldl (Ci d fs)<|(Cj fs).foldl Cb (S,[])).1 (ls.foldl (Ci d fs)<|(Cj fs).foldl Cb (S,[])).2 ((Cj fs).map (fun v=>(v.1,[(([],v.2):Fi)]))++ls.map fun l=>(l,sub fs l)) /\
  (ls.foldl (Ci d fs)<|(Cj fs).foldl Cb (S,[])).1.length+(c.map fun l=>1+wt (sub fs l)).sum<=S.length+wt fs:=by
 have t:=many fs;rw[←e,Zg,V5]at t;obtain⟨n,x⟩:=XT (d:=d) (Cj fs) (Fo.nil ok) (fun v u=>(g.wK _<|wF.mp u).2.2.2) (by lia);rw[V6]at n;have H:∀l∈ls,∀S,xj S->S.length+1+wt (sub fs l)<=2000->vV (d+1) S (sub fs l) (Uu d S<|sub fs l)/\(Uu d S<|sub fs l).1.length<=S.length+1+wt (sub fs l):=fun l h w j i=>by
  cases d with
  |zero =>
   obtain⟨f,s,b,r,q⟩:=((xC fs).2 l).mp (by rw[←e];exact ZZ _ h);have:=(g.wK f s).2.1;rw[q,Zn,Zn]at this;lia
  |succ d=>exact B3 d j (g.sub l) (ZL sub_len hl) i
 obtain⟨p,o⟩:=KB ls H (S:=((Cj fs).foldl Cb (S,[])).1) (rows:=((Cj fs).foldl Cb (S,[])).2) n (by lia);refine⟨p,?_⟩;have o:(ls.foldl (Ci d fs)<|(Cj fs).foldl Cb (S,[])).1.length<=_:=o;lia
theorem bT {d:Nat}(ok:xj S)(g:zf (d+1) fs)(hl:fs.length<=63)(hs:S.length+1+wt fs<=2000){j:Nat}{l:Str}(e:(Cl fs)[j]?=some l) :
  xj (((Cl fs).take j).foldl (Ci d fs)<|(Cj fs).foldl Cb (S,[])).1/\(((Cl fs).take j).foldl (Ci d fs)<|(Cj fs).foldl Cb (S,[])).1.length+1+wt (sub fs l)<=2000 /\
  (((Cl fs).take j).foldl (Ci d fs)<|(Cj fs).foldl Cb (S,[])).2.map (·.1)=(Cj fs).map (·.1)++(Cl fs).take j:=by
 obtain⟨b,c⟩:=Tr ok g hl hs ((Cl fs).take j) ((Cl fs).drop j)<|YJ _ _;have hd:(Cl fs).drop j=l::(Cl fs).drop (j+1):=by
  have:=(Zq.mp e);rw[←this.2];exact JB this.1
 rw[hd,Zv,Jp]at c;refine⟨b.ok,by lia,?_⟩;rw[b.wK,Zg,ZB,ZB]
 congr 1
 exact Uq _
theorem aq {d:Nat}(ok:xj S)(g:zf (d+1) fs)(hl:fs.length<=63)(hs:S.length+1+wt fs<=2000){q:List En×Dg}(e:q=(Cl fs).foldl (Ci d fs) ((Cj fs).foldl Cb (S,[]))) :
  xj q.1/\q.1.length<2000/\(q.2.map (·.1)).Nodup/\(∀r∈q.2,zV r.1=true/\∃e,Tree e q.1 r.2)/\q.2.length<=63:=by
 subst e;obtain⟨b,f⟩:=Tr ok g hl hs (Cl fs) []<|ZG _;have b:Fo (d+1) S _ _ (pieces fs):=b;have f:_+0<=S.length+wt fs:=f;have o:=qQ fs;refine⟨b.ok,by lia,by rw[b.wK];exact U8 g,fun r j=>?_,?_⟩
 ·obtain⟨i,c⟩:=Yl.mp j;have n:=(Zq.mp c).1;have h:=Zb (l:=pieces fs) (i:=i) (by rwa[←b.len]);have e:=congrArg (fun l=>l[i]?) b.wK;simp only[Zj,c,h,Yt]at e;exact⟨by rw[Option.some.inj e];exact(GZ g _<|YF _).1,d+1,(b.rd i r _ c h).1⟩
 ·rw[b.len];unfold pieces;rw[Ze,Q5,Q5];lia
theorem HE (l:Str):Cd [l]=l:=wY<|qX l
theorem SV (l b:Str)(r:Da):Cd (l::b::r)=l++⟨#[47]⟩++Cd (b::r):=wY (by
 rw[xQ l<|ZR _ _,zp,zp];show _=cs l++[47]++_;simp)
theorem WC (l b:Str)(r:Da):l≠Cd (l::b::r):=fun z=>by
 have:=congrArg (fun x=>(cs x).length) z;simp only[xQ l<|ZR b r,Ze,Zn]at this;lia
theorem XV:∀{p:Da},(∀l∈p,zV l=true)->(cs<|Cd p).length<=9*p.length
 |[],_=>by
  show(cs<|Lw "/" []).length<=0;rw[qD];exact Zd _
 |[l],h=>by
  have:=h l<|Q6.mpr rfl;rw[qX];unfold zV at this;rw[Zi,Zi,ZM,ZM,zm]at this;show _<=9;lia
 |l::b::r,h=>by
  have c:=h l<|Zc ..;have e:=XV (p:=b::r) fun x d=>h x<|Q9 _ d;rw[xQ l<|ZR _ _,Ze,Zn];unfold zV at c;rw[Zi,Zi,ZM,ZM,zm]at c;rw[Zn]at e ⊢;rw[Zn];lia
theorem Ta (g:zf n fs){i:Nat}{f:Fi}{l b:Str}{r:Da}(p:fs[i]?=some f)(e:f.1=l::b::r):(.inr (Cd (b::r)):Key)∉(sub (fs.take i) l).map fun k=>(.inr (Cd k.1):Key):=fun z=>by
 obtain⟨k,h,q⟩:=Za.mp z;have q:Cd k.1=Cd (b::r):=Sum.inr.inj q;obtain⟨w,h⟩:=wD.mp h;have A:=(g.wK _<|Ji h).2.2.1;have y:=(g.wK _<|Zm p).2.2.1;have q:=vH (d:=0) w (ZR _ _) (fun x o=>A x<|Q9 _ o) (fun x o=>y x (by rw[e];exact Q9 _ o)) q;obtain⟨j,c⟩:=Yl.mp h;rw[List.getElem?_take]at c
 split at c
 ·rename_i D;have u:(fs.map (·.1))[j]?=some f.1:=by rw[Zj,c];show some (l::k.1)=_;rw[q,e]
  have v:(fs.map (·.1))[i]?=some f.1:=by rw[Zj,p];rfl
  obtain⟨B,s⟩:=Zq.mp u;obtain⟨C,t⟩:=Zq.mp v;have:=(YX g.nd).mp<|s.trans t.symm;lia
 ·cases c
end An
namespace L2
open PySem PySem.Spec PyProof.Rows
theorem Hf (x:Str)(c:Nat)(t u:Tok)(d:E7 x ⟨#[c]⟩ 0 x.length 1=[]):Meets (Builtin.«str.partition» ⟨[.str x t,.str ⟨#[c]⟩ u],[]⟩)
  (fun _ R s=>R (.ok<|.ret<|.ref s.heap.objs.size) { s with heap:=s.heap.push { cls:=.type "tuple",data:=.seq #[.str x t,.str Mj s.toks,.str Mj s.toks] },toks:=s.toks+1 }) :=
 .of_wp fun prog w A R s h=>by
  obtain⟨b,e⟩:=partition_tree x ⟨#[c]⟩ t u;rw[e,Zs<|show¬((⟨#[c]⟩:Str).length==0)=true from(by show¬(1==0)=true;decide),d];refine Q4<|JH ?_;refine Q4<|wpAny_mkStr ?_<|ZD _;refine Q4 (Uf ?_ (by show 3<=sizeLine;decide));exact Q7 ⟨_,rfl,h⟩
section
variable {X:Cx}
def Rz:V->Dj->Hp->VK->Prop:=fun x b H Q=>∃(u:Str) (c:Nat),x=.str u/\b=[.str ⟨#[c]⟩]/\c∉An.cs u/\∀p,H p=none->Q (.ref p) (upd H p<|.tup [.str u,.str "",.str ""])
def WH:V->Dj->Hp->VK->Prop:=fun x b H Q=>TC x b H Q\/Rz x b H Q
theorem GA:R3 X "str.partition" Rz:=by
 intro j s p H x n v l Q I i g h;obtain⟨a,c,rfl,rfl,e,q⟩:=h;obtain⟨t,rfl⟩:=i;obtain⟨w,rfl,t',rfl⟩:=wW g;have f:E7 a ⟨#[c]⟩ 0 a.length 1=[]:=by
  rcases StrLaws.occ_head_from a ⟨#[c]⟩ 0 1 (Zd 1) with⟨h0,d⟩|⟨k,r,h0,hlo,hk,d⟩
  ·exact h0
  ·have b:=(Mh _ c k).mp hk;have b:(An.cs a)[k]?=some c:=b;exact absurd (Zm b) e
 refine VS F.slot_str_partition (Vc s _ t) F.entry_str_partition (F.args_str_partition_2 _ _) (Hf _ c t t' f) ?_;have d:H s.heap.objs.size=none:=I.hok.fresh<|Zd _;refine⟨.ref s.heap.objs.size,_,I.laid (t':=s.toks+1) (a:=s.heap.objs.size) (o:=.tup [.str a,.str "",.str ""]) (fun _ _ q=>Q8 _ q) (Zd _) ?_,rfl,q _ d⟩;exact⟨by show 3<=sizeLine;decide,_,.cons ⟨_,rfl⟩<|.cons ⟨_,rfl⟩<|.cons ⟨_,rfl⟩ .nil,⟨_,Zk _ rfl,rfl,_,rfl,rfl⟩⟩
theorem GG:R3 X "str.partition" WH:=by
 intro b s g H x f v e Q I d c h
 rcases h with h|h
 ·exact uQ b s g H x f v e Q I d c h
 ·exact GA b s g H x f v e Q I d c h
end
end L2
namespace An14
open PySem L2 An
seal L2.PS L2.tG L2.PE L2.PT L2.PW L2.PA L2.PG L2.oM L2.PI L2.oK L2.PC
def Ie (P:Ek)(w:Eo)(K:Ca)(C:Ej):Nat->Sp
 | 0=>fun _ _ _ _=>False
 |d+1=>fun g H Q _=>∃(a c:Ej) (b:Dd) (S:Di) (fs:Dk) (f:Dl),g=[.ref a,.ref c]/\xr P w K C H a b S/\xj S/\H c=some (.dK f)/\c∉b/\yc K H fs f/\zf (d+1) fs/\fs.length<=63/\S.length+1+wt fs<=2000 /\
  ∀e,Off b H e->xr P w K C e a b (Uu (d+1) S fs).1->Q (.str (Uu (d+1) S fs).2) e
theorem yo {α:Type}{l:List α}{i:Nat}{x:α}(h:l[i]?=some x):l.take (i+1)=l.take i++[x]:=by rw[YT,h];rfl
theorem Gf {g:TG}{f:TS}{D:Ends}{b:St}{H:Hp}{d:Ej}{e:Obj}{Dm:Dl}(c:Nat->St->Hp->Prop)(j:c 0 b H)(hl:∀i b H,i<=Dm.length->c i b H->H d=some (.frz e<|.dK Dm))
  (hs:∀i k v T b H,Dm[i]?=some (k,v)->c i b H->H T=none->∀D':Ends,(∀b H,c (i+1) b H->D'.nx b H)->g (.ref T) b (upd H T<|.tup [kV k,v]) fun σ2 H2=>f D' σ2 H2) (hd:∀b H,c Dm.length b H->D.nx b H):N5 (bD d Dm e) g f D b H :=
 Bu c j hl (fun i k v T b H h p n=>hs i k v T b H h p n _ fun _ _ h=>h) hd
section
variable {P:Ek}{w:Eo}{K:Ca}{mg:Str->Dc}{base:EB}{t1 t2 t3 t4 t5 t6 t7:Tok}{aL aC aN aT aA b1 b2:Ej}
namespace AI
abbrev st:Stmt:=top 44
theorem sc:zu ["shelf","files","rows","folders","path","lines","parts","label","beneath"] ["shelf","files"] (zF st):=Cn
theorem step {L d:Nat}(F:wX0 K "put_files" st f fd)(T:Txt P w K mg t1 t2 t3 t4 t5 t6 t7 aL aC aN aT aA b1 b2)(Qc:sZ P w K mg base aC 7 "put" ["self","thing"]<|tD P w K aC)(Qg:wV P w K mg base 8 "put_rows" ["shelf","rows"]<|ut P w K aC)(hL:8<=L)(hd:d<=100)(Qq:wV P w K mg base L "put_files" ["shelf","files"]<|Ie P w K aC d):yu P w K mg base Ck (L+1) f fd ["shelf","files"] (Ie P w K aC<|d+1):=by
 refine F.ok sc fun _ _ _ _ H vs Q E hr h=>?_;obtain⟨a,c,A,S,fs,Dm,rfl,sh,ok,hc,dc,ff,gf,fl,sl,k⟩:=h;have hu:=No hr;refine⟨_,(zD (Cm (i:=2) sc.nd qM)<|zD (Cm (i:=3) sc.nd qM)<|zD (XZ<|yU PassesOwn.never rfl (IO<|U9<|pv 1) (jT rfl<|zX (zL (i:=4) sc.nd rfl<|EJ rfl)<|zX (zL (i:=5) sc.nd rfl<|EJ rfl) xX)<|zD (Cm (i:=6) sc.nd<|qV Yh PySem.F.slot_str_partition PySem.F.type_str_partition GG (pv 4)<|zA zq zB)<|zD (Cm (i:=7) sc.nd<|zR (yt:Cg _<|wZ K) (pv 6) zH)<|zE<|yC (zU qJ (pv 7) (pv 4)<|zW _) (zE<|xV hu (pv 2) (pv 7) (qB (pv 0) T.cls Qc (hr.mono<|by lia) yA<|zA (yH<|zA zq<|zA (pv 5) zB) zB) rfl)<|zD (Cm (i:=8) sc.nd<|X4 hu (pv 3) (pv 7) qM ⟨rfl,rfl,rfl,rfl⟩)<|zD (xV hu (pv 8) (zR (yt:Cg _<|wZ K) (pv 6) zH) (pv 5) rfl)<|zE<|xV hu (pv 3) (pv 7) (pv 8) rfl)<|zD (XZ<|yU PassesOwn.never rfl (IO<|U9<|pv 3) (jT rfl<|zX (zL (i:=7) sc.nd rfl<|EJ rfl)<|zX (zL (i:=8) sc.nd rfl<|EJ rfl) xX)<|zE<|xV hu (pv 2) (pv 7) (zI Qq (hr.mono<|by lia)<|zA (pv 0)<|zA (pv 8) zB) rfl)<|zE<|zM<|zI Qg (hr.mono<|by lia)<|zA (pv 0)<|zA (pv 2) zB),?_⟩
 refine fun g dr=>?_;have u1:=zz (o:=.dK []) dr;refine fun n dd=>?_;have u2:=zz (o:=.dK []) dd;have sb:=u1.trans u2;have d1:upd (upd H g (.dK [])) n (.dK []) g=some (.dK<|Cp []):=u2 _ _ zC;have dy:upd (upd H g (.dK [])) n (.dK []) n=some (.dK<|Cq []):=zC;have ds:=sh.same sb;have co:=sb _ _ hc;have di:=ff.same sb;have bi:H g=none:=dr;have as:H n=none:=u1.free dd;have rf:g≠n:=zQ (zC (H:=H) (a:=g) (o:=.dK [])) dd;generalize upd (upd H g (.dK [])) n (.dK [])=Hb at sb d1 dy ds co di ⊢;have cr:c≠g:=zQ hc bi;have cf:c≠n:=zQ hc as;refine⟨_,rfl,c,Dm,rfl,co,fun ob=>?_⟩;have bm:upd Hb c (.frz ob<|.dK Dm) c=some (.frz ob<|.dK Dm):=zC;have nz:∀{b:Ej},b≠c->upd Hb c (.frz ob<|.dK Dm) b=Hb b:=fun{b} z=>zG z;have oz:Off [c] Hb (upd Hb c<|.frz ob<|.dK Dm):=yN;have b4:xr P w K aC (upd Hb c<|.frz ob<|.dK Dm) a A S:=ds.off (yB co) oz fun b M z=>dc<|Q6.mp z▸M;have dj:=di.off (yB co) oz;have b0:upd Hb c (.frz ob<|.dK Dm) g=some (.dK<|Cp []):=by rwa[nz<|EK cr]
 have a7:upd Hb c (.frz ob<|.dK Dm) n=some (.dK<|Cq []):=by rwa[nz<|EK cf]
 have dk:∀{b:Ej},upd Hb c (.frz ob<|.dK Dm) b=none->Hb b=none/\b≠c:=fun{b} z=>by
  have ne:b≠c:=fun q=>by rw[q,zC]at z;cases z
  rw[nz ne]at z;exact⟨z,ne⟩
 generalize upd Hb c (.frz ob<|.dK Dm)=H1 at bm nz oz b4 dj b0 a7 dk ⊢;have dh:∀b∈g::n::A,∃o,H1 b=some o:=fun b M=>by
  rcases Zh.mp M with z|M
  ·rw[z];exact⟨_,b0⟩
  ·rcases Zh.mp M with z|M
   ·rw[z];exact⟨_,a7⟩
   ·exact b4.ex b M
 have cx:g∉A:=fun z=>by
  obtain⟨o,e⟩:=sh.ex _ z;rw[bi]at e;cases e
 have bj:n∉A:=fun z=>by
  obtain⟨o,e⟩:=sh.ex _ z;rw[as]at e;cases e
 have cX:c∉g::n::A:=fun z=>by
  rcases Zh.mp z with z|z
  ·exact cr z
  ·rcases Zh.mp z with z|z
   ·exact cf z
   ·exact dc z
 have kl:Dm.length=fs.length:=ff.len;have d3:∀b∈g::n::A,∀xs,¬Rd H1 b (.tup xs):=fun b M=>by
  rcases Zh.mp M with z|M
  ·exact yB b0 b (Q6.mpr z)
  ·rcases Zh.mp M with z|M
   ·exact yB a7 b (Q6.mpr z)
   ·exact b4.wG.tup b M
 refine⟨c,ob,Dm,rfl,bm,Gf (fun i σ t=>∃o4 o5 o6 o7 o8 s,σ=[some<|.ref a,some<|.ref c,some<|.ref g,some<|.ref n,o4,o5,o6,o7,o8]/\xr P w K aC t a A ((Cj<|fs.take i).foldl Cb (S,[])).1/\t g=some (.dK<|Cp ((Cj<|fs.take i).foldl Cb (S,[])).2)/\t n=some (.dK<|Cq s)/\wH K H1 t (fs.take i) s/\Off (g::n::A) H1 t) ⟨none,none,none,none,none,[],rfl,b4,b0,a7,wH.nil,Off.refl _ _⟩ (fun i σ t hi h=>?_) ?_ ?_⟩
 ·obtain⟨_,_,_,_,_,_,_,_,_,_,_,o⟩:=h;exact o _ _ cX bm
 ·rintro i kk v T0 σ t hi ⟨o4,o5,o6,o7,o8,s,rfl,N,Z,an,Fl,G⟩ nT D' hD;obtain⟨f,c7,rfl,dv,a1⟩:=dj.get hi;obtain⟨ch,cd,b3⟩:=aH ok gf sl i;have cb:=yo c7;have dl:=gf.wK f<|Zm c7;have df:Dt K t (AnJ.yd f.2) v:=Dt.off d3 G _ _ (vB a1) dv;have uT:=zz (o:=.tup [kV<|.inr<|Cd f.1,v]) nT;refine⟨T0,_,rfl,xg.of zC,rfl,_,_,rfl,_,_,rfl,rfl,?_⟩;have bd:=N.same uT;have bo:=uT _ _ Z;have ax:=uT _ _ an;have a4:=Fl.same uT;have a9:=G.trans<|Off.of uT;have c1:=Dt.same uT _ _ df;generalize upd t T0 (.tup [kV<|.inr<|Cd f.1,v])=H2 at bd bo ax a4 a9 c1 ⊢;clear N Z an Fl G df nT uT;have go:∀{Y:Hp},zx H2 Y->xr P w K aC Y a A ((Cj<|fs.take i).foldl Cb (S,[])).1/\Y g=some (.dK<|Cp ((Cj<|fs.take i).foldl Cb (S,[])).2)/\Y n=some (.dK<|Cq s)/\wH K H1 Y (fs.take i) s/\Off (g::n::A) H1 Y/\Dt K Y (AnJ.yd f.2) v:=fun{Y} e=>⟨bd.same e,e _ _ bo,e _ _ ax,a4.same e,a9.trans<|Off.of e,Dt.same e _ _ c1⟩;have a6:∀{Y:Hp} {b:Ej},xr P w K aC Y a A ((Cj<|fs.take i).foldl Cb (S,[])).1->Y g=some (.dK<|Cp ((Cj<|fs.take i).foldl Cb (S,[])).2)->Y n=some (.dK<|Cq s)->Off (g::n::A) H1 Y->Y b=none->H1 b=none:=fun{Y b} h1 h2 h3 o z=>by
   cases q:H1 b with
   |none=>rfl
   |some x =>
    by_cases m:b∈g::n::A
    ·rcases Zh.mp m with y|m
     ·rw[y,h2]at z;cases z
     ·rcases Zh.mp m with y|m
      ·rw[y,h3]at z;cases z
      ·obtain⟨o',e'⟩:=h1.ex b m;rw[e']at z;cases z
    ·rw[o b x m q]at z;cases z
  have ql:((Cj<|fs.take i).foldl Cb (S,[])).2.length<=63:=by
   have:=congrArg List.length b3;rw[Q5,Q5]at this;have h2:=qQ<|fs.take i;rw[Zx]at h2;lia
  match e1:f.1,dl with
  |[],gl=>exact absurd rfl gl.1
  |[l],gl =>
   have ep:Cd [l]=l:=HE l;rw[ep];have da:zV l=true:=gl.2.2.1 l<|Q6.mpr rfl;refine⟨_,rfl,rfl,.inr ⟨l,47,rfl,S7,x6 da,fun p np=>?_⟩⟩;have up:=zz (o:=.tup [V.str l,V.str "",V.str ""]) np;obtain⟨O,ab,C,J,al,a5⟩:=go up;refine⟨_,rfl,p,_,_,_,rfl,rfl,xg.of zC,rfl,?_⟩;refine⟨_,rfl,_,rfl,rfl,true,?_,Uv ?_⟩
   ·show V.bl (decide (V.str l=V.str l))=V.bl true;rw[Zf rfl]
   generalize upd H2 p (.tup [V.str l,V.str "",V.str ""])=Y at O ab C J al a5 ⊢;obtain⟨ix,i1,i2,i3,dz⟩:=BS O;refine⟨_,rfl,a,ix,_,rfl,dz,rfl,_,rfl,Ur 2,fun p4 n4=>?_⟩;have v4:=zz (o:=.tup [V.str "leaf",v]) n4;obtain⟨vp,ea,rfl,vt,vd⟩:=id a5;have d0:Dt K (upd Y p4<|.tup [V.str "leaf",V.ref vp]) (Th.leaf f.2).dat (.ref p4):=⟨p4,_,rfl,xg.of zC,_,_,rfl,rfl,_,_,rfl,Dt.same v4 _ _ a5,rfl⟩;have a3:=O.same v4;have a8:=v4 _ _ ab;have ay:=v4 _ _ C;have U:=J.same v4;have ap:=al.trans<|Off.of v4;delta UN;dsimp only;show tD P w K aC [V.ref a,V.ref p4] (upd Y p4<|.tup [V.str "leaf",V.ref vp]) _ _;generalize upd Y p4 (.tup [V.str "leaf",V.ref vp])=H4 at d0 a3 a8 ay U ap ⊢;have el:Cj (fs.take<|i+1)=Cj (fs.take i)++[(l,f.2)]:=by rw[cb,vA,e1]
   have ef:(Cj<|fs.take<|i+1).foldl Cb (S,[])=Cb ((Cj<|fs.take i).foldl Cb (S,[])) (l,f.2):=by rw[el,Jj];rfl
   have nl:l∉((Cj<|fs.take i).foldl Cb (S,[])).2.map (·.1):=fun z=>by
    rw[b3]at z;have nd:=P5 (fs:=fs.take<|i+1) (by rw[VY];exact gf.nd.sublist<|List.take_sublist _ _);rw[el,Zg,Y5]at nd;exact nd.2.2 l z l (Q6.mpr rfl) rfl
   have de:=U.one (f:=f) e1;rw[←cb]at de;clear a6 go b3;generalize (Cj<|fs.take i).foldl Cb (S,[])=q at a3 a8 ch cd ef nl ql;refine TB a3 ch (Oo a1.2 a1.1) (by show("leaf":Str)≠"note";decide +kernel) rfl cd d0 fun H5 I R=>?_;have ai:H5 g=_:=I _ _ cx a8;have D:H5 n=_:=I _ _ bj ay;have B:=de.off (X:=A) (fun c hc=>dh c<|Q9 _<|Q9 _ hc) a3.wG.tup I;have a2:Off (g::n::A) H1 H5:=fun b o nb e=>I b o (fun z=>nb<|Q9 _<|Q9 _ z) (ap b o nb e);refine⟨_,rfl,_,rfl,g,_,rfl,vy.k (k:=.inr l) ai<|yI (by unfold Cp;rw[Q5];lia),hD _ _ ⟨_,_,_,_,_,s,rfl,?_,?_,?_,?_,?_⟩⟩
   ·rw[ef];exact R.off (yB ai) yN fun b M z=>cx<|Q6.mp z▸M
   ·rw[ef,zC,NP nl];rfl
   ·rwa[zG<|EK rf]
   ·exact B.off (X:=[g]) (fun c hc=>by rw[Q6.mp hc];exact⟨_,b0⟩) (yB ai) yN
   ·exact a2.upd (Zc ..)
  |l::b::r,gl =>
   have ep:Cd (l::b::r)=l++⟨#[47]⟩++Cd (b::r):=SV l b r;have da:zV l=true:=gl.2.2.1 l<|Zc ..;have pl:(Cd (l::b::r)).length<=100000:=by
    have:=XV gl.2.2.1;have h4:=gl.2.1;rw[zm];lia
   have el:Cj (fs.take<|i+1)=Cj (fs.take i):=by rw[cb,vA,e1];exact ZG _
   have d9:=Ta gf c7 e1;refine⟨_,rfl,rfl,.inl ⟨l,Cd (b::r),47,by rw[ep];rfl,S7,x6 da,by rw[←ep];exact pl,fun p np=>?_⟩⟩;have up:=zz (o:=.tup [V.str l,V.str ⟨#[47]⟩,V.str<|Cd (b::r)]) np;obtain⟨O,ab,C,J,al,a5⟩:=go up;have c8:upd H2 p (.tup [V.str l,V.str ⟨#[47]⟩,V.str<|Cd (b::r)]) p=some (.tup [V.str l,V.str ⟨#[47]⟩,V.str<|Cd (b::r)]):=zC;refine⟨_,rfl,p,_,_,_,rfl,rfl,xg.of zC,rfl,?_⟩;refine⟨_,rfl,_,rfl,rfl,false,?_,Ut ?_⟩
   ·show V.bl (decide (V.str l=V.str (Cd (l::b::r))))=V.bl false;rw[Zo fun z=>WC l b r<|by injection z]
   generalize upd H2 p (.tup [V.str l,V.str ⟨#[47]⟩,V.str<|Cd (b::r)])=Y at O ab C J al a5 c8 ⊢;refine⟨_,rfl,n,rfl,.inl ⟨_,.inl C⟩,_,rfl,fun e ne=>?_⟩;have ue:=zz (o:=.dK []) ne;have c3:H1 e=none:=a6 O ab C al ne;have a3:=O.same ue;have a8:=ue _ _ ab;have ay:=ue _ _ C;have U:=J.same ue;have ap:=al.trans<|Off.of ue;have c2:=Dt.same ue _ _ a5;have c9:=ue _ _ c8;have cp:upd Y e (.dK []) e=some (.dK []):=zC;have d2:∀q∈s,q.2≠e:=fun q hq z=>by
    obtain⟨kq,dp,_⟩:=J.at_ q hq;rw[z,ne]at dp;cases dp
   generalize upd Y e (.dK [])=H4 at a3 a8 ay U ap c2 c9 cp ⊢;clear bd bo ax a4 a9 c1 go a6 O ab C J al a5 c8 up np;have db:s.map (·.1)=Cl (fs.take i):=U.wK;have c5:s.length<=63:=by
    have:=congrArg List.length db;rw[Q5]at this;have h2:=qQ<|fs.take i;rw[Zx]at h2;lia
   have dq:∀{x:Ej},H1 x=none->x∉g::n::A:=fun{x} hx z=>by
    obtain⟨o',e'⟩:=dh x z;rw[hx]at e';cases e'
   by_cases inl:l∈Cl (fs.take i)
   ·have cu:l∈s.map (·.1):=by rwa[db]
    obtain⟨pr,a0,c4⟩:=Za.mp cu;obtain⟨cl,pb⟩:=pr;have c4:cl=l:=c4;subst c4;have vv:=k7 U.sY a0;refine⟨_,v9.k (k:=.inr cl) ay,?_⟩;rw[vv];obtain⟨kb,M,fb⟩:=U.at_ _ a0;have M:H4 pb=some (.dK kb):=M;have fb:yc K H4 (sub (fs.take i) cl) kb:=fb;have nb:H1 pb=none:=U.new _ a0;have d8:kb.length<=63:=by
     have:=fb.len;have h2:=sub_len (fs:=fs.take i) (l:=cl);rw[Zx]at h2;lia
    refine⟨_,rfl,_,rfl,_,rfl,p,_,_,_,rfl,rfl,xg.of c9,rfl,pb,_,rfl,vy.k (k:=.inr<|Cd (b::r)) M<|yI<|by lia,?_⟩;have pn:ye kb (.inr<|Cd (b::r)) v=kb++[(.inr<|Cd (b::r),v)]:=uF (by rwa[fb.keys]);rw[pn];have B:=U.old a0 M fb e1 c2 a1;rw[←cb]at B;have bX:=dq nb;have ca:g≠pb:=fun z=>bX (by rw[←z];exact Zc ..);have b5:n≠pb:=fun z=>bX (by rw[←z];exact Q9 _<|Zc ..);have b6:pb∉A:=fun z=>bX<|Q9 _<|Q9 _ z;have I:Off (g::n::A) H1 (upd H4 pb<|.dK<|kb++[((.inr (Cd (b::r)):Key),v)]):=fun x o nx ex=>by
     rw[zG (fun z=>by rw[z,nb]at ex;cases ex)];exact ap x o nx ex
    have R:=a3.off (yB M) (yN (o:=.dK<|kb++[((.inr (Cd (b::r)):Key),v)])) fun x hx z=>b6 (by rwa[←Q6.mp z]);have ai:=(zG (o:=.dK<|kb++[((.inr (Cd (b::r)):Key),v)]) ca).trans a8;have D:=(zG (o:=.dK<|kb++[((.inr (Cd (b::r)):Key),v)]) b5).trans ay;generalize upd H4 pb (.dK<|kb++[((.inr (Cd (b::r)):Key),v)])=H5 at B I R ai D ⊢;refine⟨_,rfl,_,rfl,_,rfl,n,_,rfl,vy.k (k:=.inr cl) D<|yI (by unfold Cq;rw[Q5];lia),hD _ _ ⟨_,_,_,_,_,s,rfl,?_,?_,?_,?_,?_⟩⟩
    ·rw[el];exact R.off (yB D) yN fun x hx z=>bj<|Q6.mp z▸hx
    ·rwa[el,zG rf]
    ·rw[zC];exact congrArg (fun z=>some<|HO.dK z) (FS U.sY a0)
    ·exact B.off (X:=[n]) (fun c hc=>by rw[Q6.mp hc];exact⟨_,a7⟩) (yB D) yN
    ·exact I.upd (Q9 _<|Zc ..)
   ·have cu:l∉s.map (·.1):=by rwa[db]
    have vv:=Pn cu;refine⟨_,v9.k (k:=.inr l) ay,?_⟩;rw[vv];refine⟨_,rfl,_,rfl,_,rfl,p,_,_,_,rfl,rfl,xg.of c9,rfl,e,_,rfl,vy.k (k:=.inr<|Cd (b::r)) cp<|yI (by show 0<16777216;decide),?_⟩;have bX:=dq c3;have ca:g≠e:=fun z=>bX (by rw[←z];exact Zc ..);have b5:n≠e:=fun z=>bX (by rw[←z];exact Q9 _<|Zc ..);have b6:e∉A:=fun z=>bX<|Q9 _<|Q9 _ z;have pn:ye ([]:Dl) (.inr<|Cd (b::r)) v=[(.inr<|Cd (b::r),v)]:=rfl;rw[pn];have B:=U.mO inl cp c3 d2 e1 c2 a1;rw[←cb]at B;have I:Off (g::n::A) H1 (upd H4 e<|.dK [((.inr (Cd (b::r)):Key),v)]):=fun x o nx ex=>by
     rw[zG (fun z=>by rw[z,c3]at ex;cases ex)];exact ap x o nx ex
    have R:=a3.off (yB cp) (yN (o:=.dK [((.inr (Cd (b::r)):Key),v)])) fun x hx z=>b6 (by rwa[←Q6.mp z]);have ai:=(zG (o:=.dK [((.inr (Cd (b::r)):Key),v)]) ca).trans a8;have D:=(zG (o:=.dK [((.inr (Cd (b::r)):Key),v)]) b5).trans ay;generalize upd H4 e (.dK [((.inr (Cd (b::r)):Key),v)])=H5 at B I R ai D ⊢;refine⟨_,rfl,_,rfl,_,rfl,n,_,rfl,vy.k (k:=.inr l) D<|yI (by unfold Cq;rw[Q5];lia),hD _ _ ⟨_,_,_,_,_,s++[(l,e)],rfl,?_,?_,?_,?_,?_⟩⟩
    ·rw[el];exact R.off (yB D) yN fun x hx z=>bj<|Q6.mp z▸hx
    ·rwa[el,zG rf]
    ·rw[zC];exact congrArg (fun z=>some<|HO.dK z) (FR cu)
    ·exact B.off (X:=[n]) (fun c hc=>by rw[Q6.mp hc];exact⟨_,a7⟩) (yB D) yN
    ·exact I.upd (Q9 _<|Zc ..)
 ·rintro σ t ⟨o4,o5,o6,o7,o8,s,rfl,N,Z,an,Fl,G⟩;rw[kl,ZF]at N Z Fl;refine⟨c,ob,Dm,G _ _ cX bm,fun o u z=>?_,?_⟩
  ·have z:H c=some (.frz o u):=z;rw[hc]at z;cases z
  have dm:=G _ _ cX bm;have cc:∀x∈[c],∀xs,¬Rd t x (.tup xs):=fun x hx xs z=>by
   rw[Q6.mp hx]at z
   rcases z with z|⟨o,z⟩<;>rw[dm]at z<;>cases z
  have oc:Off [c] t (upd t c<|.dK Dm):=yN;have bd:xr P w K aC (upd t c<|.dK Dm) a A ((Cj fs).foldl Cb (S,[])).1:=N.off cc oc fun x hx z=>dc<|Q6.mp z▸hx;have bo:upd t c (.dK Dm) g=some (.dK<|Cp ((Cj fs).foldl Cb (S,[])).2):=by rwa[zG<|EK cr]
  have ax:upd t c (.dK Dm) n=some (.dK<|Cq s):=by rwa[zG<|EK cf]
  have a4:wH K H1 (upd t c<|.dK Dm) fs s:=Fl.off (X:=[c]) (fun x hx=>by rw[Q6.mp hx];exact⟨_,bm⟩) cc oc;have a9:Off A H (upd t c<|.dK Dm):=fun x o nx ex=>by
   by_cases z:x=c
   ·rw[z,zC];rw[z,hc]at ex;exact ex
   ·rw[zG z];refine G x o (fun q=>?_) (by rw[nz z];exact sb _ _ ex)
    rcases Zh.mp q with q|q
    ·rw[q,bi]at ex;cases ex
    ·rcases Zh.mp q with q|q
     ·rw[q,as]at ex;cases ex
     ·exact nx q
  generalize upd t c (.dK Dm)=H2 at bd bo ax a4 a9 ⊢;clear N Z an Fl G dm cc oc;refine⟨_,rfl,n,Cq s,rfl,ax,fun aj=>?_⟩;have al:Off [n] H2 (upd H2 n<|.frz aj<|.dK<|Cq s):=yN;have C:upd H2 n (.frz aj<|.dK<|Cq s) n=some (.frz aj<|.dK<|Cq s):=zC;have O:xr P w K aC (upd H2 n<|.frz aj<|.dK<|Cq s) a A ((Cj fs).foldl Cb (S,[])).1:=bd.off (yB ax) al fun x hx z=>bj<|Q6.mp z▸hx;have ab:upd H2 n (.frz aj<|.dK<|Cq s) g=some (.dK<|Cp ((Cj fs).foldl Cb (S,[])).2):=by rwa[zG rf]
  have J:wH K H1 (upd H2 n<|.frz aj<|.dK<|Cq s) fs s:=a4.off (X:=[n]) (fun x hx=>by rw[Q6.mp hx];exact⟨_,a7⟩) (yB ax) al;have ap:Off A H (upd H2 n<|.frz aj<|.dK<|Cq s):=fun x o nx ex=>by
   rw[zG (fun z=>by rw[z,as]at ex;cases ex)];exact a9 x o nx ex
  generalize upd H2 n (.frz aj<|.dK<|Cq s)=Y at al C O ab J ap ⊢;have c5:s.map (·.1)=Cl fs:=J.wK;have c6:(Cq s).length=(Cl fs).length:=by rw[←c5,Q5];unfold Cq;rw[Q5]
  have d6:(Cj fs).length+(Cl fs).length<=63:=by have:=qQ fs;lia
  refine⟨n,aj,Cq s,rfl,C,Gf (fun j σ t=>∃o4 o5 o6 o7 o8,σ=[some<|.ref a,some<|.ref c,some<|.ref g,some<|.ref n,o4,o5,o6,o7,o8]/\xr P w K aC t a A (((Cl fs).take j).foldl (Ci d fs)<|(Cj fs).foldl Cb (S,[])).1/\t g=some (.dK<|Cp (((Cl fs).take j).foldl (Ci d fs)<|(Cj fs).foldl Cb (S,[])).2)/\t n=some (.frz aj<|.dK<|Cq s)/\wH K H1 t fs s/\Off A H t) ⟨o4,o5,o6,o7,o8,rfl,O,ab,C,J,ap⟩ (fun j σ t hj h=>?_) ?_ ?_⟩
  ·obtain⟨_,_,_,_,_,_,_,_,hf,_⟩:=h;exact hf
  ·clear O ab C J ap bd bo ax a4 a9;rintro j kk v T0 σ t hj ⟨o4,o5,o6,o7,o8,rfl,N,Z,an,Fl,G⟩ nT D' hD;unfold Cq at hj;rw[Zj]at hj;obtain⟨pr,dn,hj⟩:=Zz.mp hj;obtain⟨l,b⟩:=pr;have hj:((.inr l:Key),V.ref b)=(kk,v):=hj;cases hj;have a0:=Zm dn;have ct:(Cl fs)[j]?=some l:=by rw[←c5,Zj,dn];rfl
   obtain⟨ch,cd,b3⟩:=bT ok gf fl sl ct;have uT:=zz (o:=.tup [V.str l,V.ref b]) nT;refine⟨T0,_,rfl,xg.of zC,rfl,_,_,rfl,_,_,rfl,rfl,?_⟩;have R:=N.same uT;have ai:=uT _ _ Z;have D:=uT _ _ an;have B:=Fl.same uT;have I:=G.trans<|Off.of uT;show TH _ _ _ _ _ (upd t T0<|.tup [V.str l,V.ref b]);generalize upd t T0 (.tup [V.str l,V.ref b])=H5 at R ai D B I ⊢;clear N Z an Fl G uT nT;obtain⟨kb,M,fb⟩:=B.at_ _ a0;have M:H5 b=some (.dK kb):=M;have fb:yc K H5 (sub fs l) kb:=fb;have nb:H1 b=none:=B.new _ a0;have dx:b∉A:=fun z=>by
    obtain⟨o',e'⟩:=b4.ex b z;rw[nb]at e';cases e'
   cases d with
   |zero =>
    obtain⟨f,hf,b,r,ef⟩:=((xC fs).2 l).mp<|Zm ct;have:=(gf.wK f hf).2.1;rw[ef,Zn,Zn]at this;lia
   |succ d =>
    have el:(Cl fs).take (j+1)=(Cl fs).take j++[l]:=yo ct;have ef:((Cl fs).take<|j+1).foldl (Ci (d+1) fs) ((Cj fs).foldl Cb (S,[]))=Ci (d+1) fs (((Cl fs).take j).foldl (Ci (d+1) fs)<|(Cj fs).foldl Cb (S,[])) l:=by rw[el,Jj];rfl
    have nl:l∉(((Cl fs).take j).foldl (Ci (d+1) fs)<|(Cj fs).foldl Cb (S,[])).2.map (·.1):=fun z=>by
     rw[b3]at z;have nd:=U8 gf;have e0:(pieces fs).map (·.1)=(Cj fs).map (·.1)++Cl fs:=by
      unfold pieces;rw[Zg,ZB,ZB]
      congr 1
      exact Uq _
     rw[e0,←YJ j (Cl fs),←Z7,Y5]at nd;have hd:(Cl fs).drop j=l::(Cl fs).drop (j+1):=by
      have:=(Zq.mp ct);rw[←this.2];exact JB this.1
     exact nd.2.2 l z l (by rw[hd];exact Zc ..) rfl
    have ql:(((Cl fs).take j).foldl (Ci (d+1) fs)<|(Cj fs).foldl Cb (S,[])).2.length<=63:=by
     have:=congrArg List.length b3;rw[Q5,Ze,Q5,Zx]at this;lia
    generalize ((Cl fs).take j).foldl (Ci (d+1) fs) ((Cj fs).foldl Cb (S,[]))=q at R ai ch cd ef nl ql;refine⟨_,rfl,_,rfl,a,b,A,q.1,sub fs l,kb,rfl,R,ch,M,dx,fb,gf.sub l,ZL sub_len fl,cd,fun H6 a2 c0=>?_⟩;have bt:H6 g=_:=a2 _ _ cx ai;have d7:H6 n=_:=a2 _ _ bj D;have du:=B.off (X:=A) (fun c hc=>b4.ex c hc) R.wG.tup a2;refine⟨_,rfl,_,rfl,g,_,rfl,vy.k (k:=.inr l) bt<|yI (by unfold Cp;rw[Q5];lia),hD _ _ ⟨_,_,_,_,_,rfl,?_,?_,?_,?_,?_⟩⟩
    ·rw[ef];exact c0.off (yB bt) yN fun x hx z=>cx<|Q6.mp z▸hx
    ·rw[ef,zC,NP nl];rfl
    ·rwa[zG<|EK rf]
    ·exact du.off (X:=[g]) (fun c hc=>by rw[Q6.mp hc];exact⟨_,b0⟩) (yB bt) yN
    ·intro x o nx ex;rw[zG (fun z=>by rw[z,bi]at ex;cases ex)];exact a2 x o nx<|I x o nx ex
  ·rintro σ t ⟨o4,o5,o6,o7,o8,rfl,N,Z,an,Fl,G⟩;rw[c6,ZF]at N Z;refine⟨n,aj,Cq s,an,fun o u z=>?_,?_⟩
   ·have z:H n=some (.frz o u):=z;rw[as]at z;cases z
   have cc:∀x∈[n],∀xs,¬Rd t x (.tup xs):=fun x hx xs z=>by
    rw[Q6.mp hx]at z
    rcases z with z|⟨o,z⟩<;>rw[an]at z<;>cases z
   have c0:=N.off cc (yN (o:=.dK<|Cq s)) fun x hx z=>bj<|Q6.mp z▸hx;have bt:=(zG (o:=.dK<|Cq s) rf).trans Z;have a2:Off A H (upd t n<|.dK<|Cq s):=fun x o nx ex=>by
    rw[zG (fun z=>by rw[z,as]at ex;cases ex)];exact G x o nx ex
   have fe:=aq ok gf fl sl (q:=(Cl fs).foldl (Ci d fs)<|(Cj fs).foldl Cb (S,[])) rfl;have pf:=NJ d S fs;rw[pf]at k;generalize (Cl fs).foldl (Ci d fs) ((Cj fs).foldl Cb (S,[]))=q at c0 bt fe k;obtain⟨g1,g2,g3,g4,g5⟩:=fe;exact⟨_,rfl,_,rfl,a,g,A,q.1,q.2,rfl,c0,g1,.inl bt,g3,fun r hr=>⟨(g4 r hr).1,let ⟨e,te⟩:=(g4 r hr).2;Sl te⟩,g5,g2,fun H7 d4 d5=>k H7 (a2.trans d4) d5⟩
end AI
end
end An14
namespace AnJ
open AxK
open PySem L2 An An10 An12
end AnJ
namespace L2
open PySem PySem.Spec PyProof.Rows
section
variable {prog:Ek}{w:Eo}{A:EF}{s:Em}
def nW (prog:Ek)(w:Eo)(A:EF)(s:Em)(u v:Ei):Prop:=∀(E:Ei->Dh) (Q:Bool->Dh),Q true s->El (Ep prog w) A (eqBool u v) Q E s
theorem nW.self (u:Ei):nW prog w A s u u:=fun E Q q=>SeqAt.EqAt.same u prog w E Q q
theorem nW.refs {p q:Ej}(ne:p≠q)(h:∀(E:Ei->Dh) (Q:Ei->Dh),Q (.bool true) s->El (Ep prog w) A (Me .Eq (.ref p)<|.ref q) Q E s):nW prog w A s (.ref p) (.ref q):=fun E Q k=>by
 unfold eqBool;refine ZW<|Yk (fun z=>?_) fun _=>Q4<|h E _<|Y2 k;have:=Vg z;injection this with this;exact absurd this ne
theorem Xv {p q:Ej}{us vs:Array Ei}{n m code:Nat}{r t:Option Ej}{z B:Array Dc}{R:Result->Dh}(l:code=2\/code=3)(b:s.heap.get? p=some { cls:=.type "list",dict:=r,data:=.seq us n,slots:=z })(c:s.heap.get? q=some { cls:=.type "list",dict:=t,data:=.seq vs m,slots:=B })(sz:us.size=vs.size)
  (o:∀j (h1:j<us.size) (h2:j<vs.size),nW prog w A.in1 s us[j] vs[j]) (k:R (.ok<|.ret<|.bool<|code==2) s) :
  ∀(left i:Nat),us.size-i=left->L1 (Ep prog w) A (.builtin "list.__eq__.loop" ⟨[.ref p,.ref q,ET i,ET code],[]⟩) R s:=by
 intro left
 induction left with
 |zero =>
  intro i y;refine YB MeetsSeq3.entry_eq_loop ?_;rw[E1 Lf _];obtain⟨x,g,d,C,os⟩:=s;have e:us[((i:Nat):Int).toNat]?=none:=by simp;lia
  have f:vs[((i:Nat):Int).toNat]?=none:=by simp;lia
  have u:(us.size==vs.size)=true:=by rw[sz];exact VV _
  have v:(us.size !=vs.size)=false:=by rw[sz];simp
  rcases l with rfl|rfl
  ·wp_walk using EA b,EA c
   rw[e,f]
   wp_walk using EA b,EA c
   show R (.ok<|.ret<|.bool<|us.size==vs.size) _;rwa[u]
  ·wp_walk using EA b,EA c
   rw[e,f]
   wp_walk using EA b,EA c
   show R (.ok<|.ret<|.bool<|us.size !=vs.size) _;rwa[v]
 |succ left ih =>
  intro i y;have h1:i<us.size:=by lia
  have h2:i<vs.size:=by lia
  have step:=ih (i+1) (by lia);refine YB MeetsSeq3.entry_eq_loop ?_;rw[E1 Lf _];obtain⟨x,g,d,C,os⟩:=s;have e:us[((i:Nat):Int).toNat]?=some us[i]:=by simp[h1]
  have f:vs[((i:Nat):Int).toNat]?=some vs[i]:=by simp[h2]
  have h:((i:Int)+1)=((i+1:Nat):Int):=by push_cast;rfl
  have one:=o i h1 h2
  rcases l with rfl|rfl
  ·wp_walk using EA b,EA c
   rw[e,f];refine Q4<|one _ _ ?_
   wp_walk
   rw[h];exact⟨Je Lf _,step⟩
  ·wp_walk using EA b,EA c
   rw[e,f];refine Q4<|one _ _ ?_
   wp_walk
   rw[h];exact⟨Je Lf _,step⟩
theorem KQ {p q:Ej}{us vs:Array Ei}{n m:Nat}{f h:Option Ej}{i l:Array Dc}(sz:us.size=vs.size) :
  MeetsIn prog w (Builtin.«list.__eq__» ⟨[.ref p,.ref q],[]⟩) (fun A R s=>s.heap.get? p=some { cls:=.type "list",dict:=f,data:=.seq us n,slots:=i }/\s.heap.get? q=some { cls:=.type "list",dict:=h,data:=.seq vs m,slots:=l }/\(∀j (h1:j<us.size) (h2:j<vs.size),nW prog w A.in1 s us[j] vs[j])/\R (.ok<|.ret<|.bool true) s):=by
 intro A R s ⟨b,c,e,k⟩;have o:=Xv (code:=2) (.inl rfl) b c sz e k _ 0 rfl;obtain⟨r,g,d,t,os⟩:=s;have sub:=AutoSeq1.sub_list_list;have ne:¬(us.size !=vs.size)=true:=by simp[sz]
 wp_walk using EA b,EA c
 exact⟨Je Lf _,o⟩
theorem F9 {p q:Ej}{us vs:Array Ei}{n m:Nat}{f h:Option Ej}{i l:Array Dc}(sz:us.size=vs.size) :
  MeetsIn prog w (Builtin.«list.__ne__» ⟨[.ref p,.ref q],[]⟩) (fun A R s=>s.heap.get? p=some { cls:=.type "list",dict:=f,data:=.seq us n,slots:=i }/\s.heap.get? q=some { cls:=.type "list",dict:=h,data:=.seq vs m,slots:=l }/\(∀j (h1:j<us.size) (h2:j<vs.size),nW prog w A.in1 s us[j] vs[j])/\R (.ok<|.ret<|.bool false) s):=by
 intro A R s ⟨b,c,e,k⟩;have o:=Xv (code:=3) (.inr rfl) b c sz e k _ 0 rfl;obtain⟨r,g,d,t,os⟩:=s;have sub:=AutoSeq1.sub_list_list;have ne:¬(us.size !=vs.size)=true:=by simp[sz]
 wp_walk using EA b,EA c
 exact⟨Je Lf _,o⟩
structure lU (prog:Ek)(w:Eo)(A:EF)(s:Em)(u v:Ei):Prop where
 eq:nW prog w A s u v
 rc:∀(E:Ei->Dh) (Q:Ei->Dh),Q (.bool true) s->El (Ep prog w) A (Me .Eq u v) Q E s
 ne:∀(E:Ei->Dh) (Q:Ei->Dh),Q (.bool false) s->El (Ep prog w) A (Me .NotEq u v) Q E s
theorem lU.of {p q:Ej}(rc:∀(E:Ei->Dh) (Q:Ei->Dh),Q (.bool true) s->El (Ep prog w) A (Me .Eq (.ref p)<|.ref q) Q E s)(ne:∀(E:Ei->Dh) (Q:Ei->Dh),Q (.bool false) s->El (Ep prog w) A (Me .NotEq (.ref p)<|.ref q) Q E s):lU prog w A s (.ref p) (.ref q):=by
 refine⟨?_,rc,ne⟩
 by_cases z:p=q
 ·subst z;exact nW.self _
 ·exact nW.refs z rc
theorem lU.lists {p q:Ej}{us vs:Array Ei}(r:s.heap.IsList p us)(t:s.heap.IsList q vs)(sz:us.size=vs.size)(i:A.units<Lc)(h:∀j (h1:j<us.size) (h2:j<vs.size),nW prog w A.in1 s us[j] vs[j]):lU prog w A s (.ref p) (.ref q):=by
 obtain⟨⟨u,x,l,B⟩,b,d,n,f⟩:=id r;obtain⟨⟨v,y,o,C⟩,c,e,m,g⟩:=id t;simp only at d f e g;subst d f e g;exact .of (fun E Q k=>J8 (op:=.Eq) ⟨_,b,rfl⟩ ⟨_,c,rfl⟩ F.slot_list_eq (JE F.slot_list_eq ⟨_,b,rfl⟩ F.entry_list_eq (F.args_list_eq_2 _ _) (KQ sz) ⟨b,c,h,⟨fun z=>(nomatch z),k⟩⟩) i)
  fun E Q k=>J8 (op:=.NotEq) ⟨_,b,rfl⟩ ⟨_,c,rfl⟩ F.slot_list_ne (JE F.slot_list_ne ⟨_,b,rfl⟩ F.entry_list_ne (F.args_list_ne_2 _ _) (F9 sz) ⟨b,c,h,⟨fun z=>(nomatch z),k⟩⟩) i
end
def rO (K:Ca)(n:Nat)(H:Hp)(x y:V):Prop:=∀(X:Cx) (b:De) (c:St) (s:Em) (A:EF),X.K=K->Inv X b c H s->A.units+n<Lc->∀u v,yq x u->yq y v->lU X.prog X.w A s u v
theorem rO.more {K:Ca}{m:Nat}(h:rO K n H x y)(l:n<=m):rO K m H x y:=fun X b e s A k I f u v c d=>h X b e s A k I (by lia) u v c d
theorem rO.data {K:Ca}(l:Dt K H d x)(n:Dt K H e y)(b:ER d=true)(i:ER e=true)(q:EH d e=true):rO K 64 H x y:=fun X r t s A k I f u v o p=>by
 subst k;obtain⟨j,g⟩:=Dt.yw I d x u l o;obtain⟨bs,h⟩:=Dt.yw I e y v n p;refine⟨fun E Q c=>?_,fun E Q c=>SeqAt.compareEq_shaped g h b i f<|by rwa[q],fun E Q c=>SeqAt.compareNe_shaped g h b i f<|by rwa[q]⟩;have:=SeqAt.eqAt_reads d e A s u v j bs g h (SeqAt.canLay_of_shaped b) (SeqAt.canLay_of_shaped i)<|SeqAt.room_of_shaped b f;rw[q]at this;exact this _ _ E Q c
theorem N3 (r:yr xs us){i:Nat}(h:i<us.length):∃x,xs[i]?=some x/\yq x us[i]:=by
 have c:i<xs.length:=by rwa[r.length]
 obtain⟨u,b,d⟩:=r.get<|Zb c;rw[Zb h]at b;cases b;exact⟨_,Zb c,d⟩
theorem rO.lst {K:Ca}(o:yx K H a xs)(p:yx K H b ys)(hl:xs.length=ys.length)(h:∀(i:Nat) (x y:V),xs[i]?=some x->ys[i]?=some y->rO K n H x y):rO K (n+1) H (.ref a) (.ref b):=fun X g C s A k I D u v q r=>by
 subst k;cases q;cases r;obtain⟨F,e,z,_⟩:=I.list o;obtain⟨G,f,B,_⟩:=I.list p;have E:=e.length;have lb:=f.length;refine lU.lists z.isList B.isList (by rw[Zp,Zp];lia) (by lia) fun j c d=>?_;rw[Zp]at c d;obtain⟨x,ex,t⟩:=N3 e c;obtain⟨y,l,w⟩:=N3 f d;exact(h j x y ex l X g C s A.in1 rfl I (by show A.units+1+n<Lc;lia) _ _ t w).eq
def To (K:Ca)(H:Hp)(f c:Dl):Prop:=∀b∈c,∃y d e,Us f b.1=some y/\Dt K H d b.2/\Dt K H e y/\ER d=true/\ER e=true/\EH d e=true
theorem Nq {A:EF}(I:Inv X Do σ H s)(i:A.in1.units+64<Lc){j:Dl}{g:List (Key×Ei)}(n:KV j g) :
  ∀{ka:Dl} {ua:List (Key×Ei)},KV ka ua->To X.K H j ka->PySem.W.KeqHits A.in1 s g ua true
 |[],_,.nil,_=>.nil
 |p::ka,q::ua,.cons r1 r2,h=>by
  obtain⟨y,d,e,u,o,r,C,D,B⟩:=h p<|Zc ..;have t:p.1=q.1:=r1.1;have b:=n.val p.1;rw[u]at b;cases c:Mv g p.1 with
  |none=>rw[c]at b;exact b.elim
  |some v =>
   rw[c]at b;obtain⟨E,x⟩:=Dt.yw I _ _ _ o r1.2;obtain⟨bs,z⟩:=Dt.yw I _ _ _ r b;have l:=PySem.W.keq_at (A:=A) x z C D i;rw[B]at l;exact PySem.W.KeqHits.hit (k:=q.1) (v:=q.2) (t▸c) l<|Nq I i n r2 fun w f=>h w<|Q9 _ f
theorem rO.dic {K:Ca}{d e:Dl}(r:Rd H a<|.dK d)(t:Rd H b<|.dK e)(hl:d.length=e.length)(h:To K H e d):rO K 65 H (.ref a) (.ref b):=fun X y F s A k I C u v w x=>by
 subst k;cases w;cases x;obtain⟨f,z,n,i,sa,_⟩:=Bq I r;obtain⟨g,B,o,j,p,_⟩:=Bq I t;have D:d.length=f.length:=Paired.length n;have lb:e.length=g.length:=Paired.length o;have c:=Nq (A:=A) I (by show A.units+1+64<Lc;lia) o n h;have l:(f.length==g.length&&true)=true:=by rw[show f.length=g.length by lia,VV];rfl
 exact .of (fun E Q q=>PySem.W.keq_eq sa p i.dictOf j.dictOf (by lia) (fun _=>c)<|by rwa[l]) fun E Q q=>PySem.W.keq_ne sa p i.dictOf j.dictOf (by lia) (fun _=>c) (by rwa[l])
section
variable {X:Cx}
def cj (K:Ca)(n:Nat):R2:=fun x y H Q=>rO K n H x y/\Q (.bl true) H
def cq (K:Ca)(n:Nat):R2:=fun x y H Q=>rO K n H x y/\Q (.bl false) H
theorem K2 (f:X.A.units+128<Lc):Ct X (EZ .Eq) (cj X.K 100):=by
 intro b s e H x y v u Q I c d h;exact(h.1 X b e s X.A rfl I (by lia) v u c d).rc _ _ ⟨.bl true,H,I,rfl,h.2⟩
theorem B2 (f:X.A.units+128<Lc):Ct X (EZ .NotEq) (cq X.K 100):=by
 intro b s e H x y v u Q I c d h;exact(h.1 X b e s X.A rfl I (by lia) v u c d).ne _ _ ⟨.bl false,H,I,rfl,h.2⟩
end
end L2
namespace AxS
open PySem PySem.Spec PyProof.Rows
section
variable {prog:Ek}{w:Eo}{A:EF}{E:Ei->Dh}{s:Em}
theorem sub_dict_set:isSubtype (.type "dict") (.type "set")=Lo false:=by rw[Jh];kernel_rfl
theorem sub_dict_frozenset:isSubtype (.type "dict") (.type "frozenset")=Lo false:=by rw[Jh];kernel_rfl
theorem Wr {d:Ej}{Q:Bool->Dh}(b:s.TypeIs (.ref d) "dict")(h:Q false s):El (Ep prog w) A (E9<|.ref d) Q E s:=by
 unfold E9;show El _ _ (isInstance (.ref d) (.type "set")>>=_) _ _ _;refine Q4<|Y0 b sub_dict_set ?_;show El _ _ (isInstance (.ref d)<|.type "frozenset") _ _ _;exact Y0 b sub_dict_frozenset h
theorem On {P d:Ej}{vs:List (L2.Key×Ei)}{ks:Da}{nm:String}{Q:Unit->Dh}(hP:s.heap.get? P=some (zN w))(H:s.heap.DictOf (L2.za prog w) d vs)(hS:(d==EV)=false)(ne:P≠d)(hn:vs.length*2<256)(I:vs.map (·.1)=ks.map Eu)
  (h:∀h',ES P s.heap h'->yh prog w h' P ks->Q () { s with heap:=h' }):El (Ep prog w) A (E5 nm P<|.ref d) Q E s:=by
 obtain⟨o,c,ep,ho,hx,hd,hk,hp,as⟩:=id H;have Dp:vs.length=c.size:=by rw[←hp.length];exact Zw.symm
 have an:ks.length=vs.length:=by have:=congrArg List.length I;rw[Q5,Q5]at this;exact this.symm
 have nd:ks.Nodup:=by
  have z:(ks.map<|Eu (α:=Int)).Nodup:=by rwa[←I]
  exact(List.Pairwise.of_map _ (fun a b (q:Eu a≠Eu b) e=>q<|by rw[e]) z)
 unfold E5;refine Q4<|Wr H.typeIs ?_;simp only[ZU,↓reduceIte];refine Q4<|JS H.typeIs ?_;rw[Zt<|by decide];refine Q4<|JH ?_;refine Q4<|Q7 ?_;rw[Zs (show¬(d==EV)=true by rw[hS];exact ZH)];refine Q4<|wpAny_dictEpoch ho hd ?_;refine Q4<|wpAny_dictEntries ho hd ?_;refine Q4 (IL hP (by lia) fun M o' K t' B U X N O T ax al F ap=>?_);have ai:yh prog w M P (ks.take 0):=⟨o',#[],K,t',U,X,N,fun e he=>by simp at he,by rw[List.take_zero];exact List.Perm.refl _,by decide,O,T,fun z=>absurd rfl z⟩;have t:∀{f:EB},ES P s.heap f->f.get? d=some o:=fun{f} sb=>by rwa[sb.2 d ne.symm]
 refine Q4<|wpAny_dictEntries (s:={ s with heap:=M }) (t B) hd ?_;refine Q4 ?_;rw[Std.Legacy.Range.forIn_eq_forIn_range'];simp only[Std.Legacy.Range.size,Nat.sub_zero,Nat.add_sub_cancel,Nat.div_one];refine Vi _ (fun p _ Z=>∃(f:EB) (i:Nat),Z={ s with heap:=f }/\p=List.range' i (c.size-i)/\i<=c.size/\ES P s.heap f/\yh prog w f P (ks.take i)) _ ?_ ?_ _ _ ⟨M,0,rfl,by simp,ZD _,B,ai⟩
 ·rintro x p _ Z ⟨f,i,rfl,u,hi,n,D⟩;have g:i<c.size:=by
   rcases VD i c.size with z|z
   ·exact z
   ·rw[Nat.sub_eq_zero_of_le z]at u;cases u
  have L:c.size-i=(c.size-(i+1))+1:=by lia
  rw[L,List.range'_succ]at u;injection u with r1 r2;subst r1;refine Q4<|wpAny_dictEntries (s:={ s with heap:=f }) (t n) hd ?_;rw[ZT g];have hv:x<vs.length:=by lia
  have y:x<ks.length:=by lia
  obtain⟨G,_⟩:=hp.get? (i:=x) (e:=c[x]) (k:=vs[x].1) (v:=vs[x].2) (by rw[Z0];exact ZT g)<|Zb hv;obtain⟨k',S,C⟩:=hk c[x] (Array.getElem_mem g);have J:k'=vs[x].1:=(L2.za prog w).inj _ _ _ S G;have ex:vs[x].1=.inr ks[x]:=by
   have:=congrArg (fun l=>l[x]?) I;rw[Zj,Zj,Zb hv,Zb y]at this;exact Option.some.inj this
  rw[J,ex]at C;rw[ex]at G;obtain⟨tk,et⟩:=Y6<|show Ld ks[x] c[x].key=true from G;have C:c[x].hash=hashStr w ks[x]:=C;dsimp only;rw[et,C];have tl:(ks.take x).length=x:=by rw[Zx];lia
  have ay:Mc=4096:=rfl;refine Q4 (ZW<|MW (s:={ s with heap:=f }) D (by lia) fun h3 r ab aj=>?_);have e3:=n.trans ab;refine Q4<|wpAny_dictEpoch (s:={ s with heap:=h3 }) (t e3) hd ?_;refine Yk (fun z=>absurd z<|by simp) (fun _=>?_);refine Q7 ⟨h3,x+1,rfl,r2,g,e3,?_⟩;have Y:ks[x]∉ks.take x:=fun z=>by
   obtain⟨j,hj,ej⟩:=ZN.mp z;rw[List.getElem_take]at ej;have:=(YX nd).mp ej;rw[tl]at hj;lia
  rw[Zs Y]at aj;rwa[YT,Zb y]
 ·rintro _ Z ⟨f,i,rfl,u,hi,n,D⟩;have R:i=c.size:=by
   rcases VD i c.size with z|z
   ·rw[show c.size-i=(c.size-(i+1))+1 by lia,List.range'_succ]at u;cases u
   ·lia
  rw[R,YR<|by lia]at D;exact Q7<|h f n D
set_option maxHeartbeats 6400000 in
theorem GK {d:Ej}{vs:List (L2.Key×Ei)}{ks:Da}{Q:Ei->Dh}(C:s.heap.DictOf (L2.za prog w) d vs)(u:(d==EV)=false)(M:vs.length*2<256)(H:vs.map (·.1)=ks.map Eu)
  (h:∀(h':EB) (tk:Nat),yh prog w h' s.heap.objs.size ks->(∀b o,s.heap.get? b=some o->h'.get? b=some o)->Q (.ref s.heap.objs.size) { s with heap:=h',toks:=tk }):El (Ep prog w) A (call (.type "set") [.ref d]) Q E s:=by
 obtain⟨c,Y,D⟩:=F.called_set.mro;have x:=F.called_set.made;have G:=F.called_set.sub;have P:=F.called_set.notType;have S:=F.called_set.canCreate;have K:=F.typeCall_set_1<|.ref d;refine VQ<|V4 ?_;show El _ _ (callAny (.type "set") _) _ _ _;refine Q7 ⟨Code.quiet_builtin _<|by decide +kernel,YB F.entry_type_call ?_⟩;rw[Around.under_plain (VN "set" [.ref d] []) rfl]
 repeat (any_goals (first|assumption|wp_step))
 refine YW (Fd (.ref d) (E:=E) (Q₁:=fun obj i=>obj=.ref s.heap.objs.size/\i={ s with heap:=s.heap.push (zN w) }) ⟨rfl,rfl⟩) fun r i y=>?_;cases r with
 |error e=>exact y
 |ok fl =>
  cases fl with
  |ret obj =>
   obtain⟨rfl,rfl⟩:=y;have q:(s.heap.push<|zN w).get? s.heap.objs.size=some (zN w):=Zk _ rfl;have I:LQ { s with heap:=s.heap.push (zN w) } (.ref s.heap.objs.size) "set":=⟨_,q,rfl⟩;have L:=F.called_set.init.lookup;have J:=F.called_set.init.bind<|.ref s.heap.objs.size
   repeat (any_goals (first|assumption|wp_step))
   refine YW (V1 (R:=wants (fun r f=>r=.none/\∃h' tk,f={ s with heap:=h',toks:=tk }/\yh prog w h' s.heap.objs.size ks /\ (∀b o,s.heap.get? b=some o->h'.get? b=some o)) E) F.called_set.init.plain F.entry_set_init (check_set_init_1 I ?_)) fun j f g=>?_
   ·have n:d<s.heap.objs.size:=by obtain⟨_,_,_,e,_⟩:=C;exact Zl e
    have l:(s.heap.push<|zN w).DictOf (L2.za prog w) d vs:=C.push _;have p:=On (A:=A.in1.in1) (E:=fun e N=>(wants (fun r f=>r=.none/\∃h' tk,f={ s with heap:=h',toks:=tk }/\yh prog w h' s.heap.objs.size ks/\(∀b o,s.heap.get? b=some o->h'.get? b=some o)) E) (.error e) N) (s:={ s with heap:=s.heap.push (zN w) }) (nm:="set.__init__") (Q:=fun _ f=>∃h',f={ s with heap:=h' }/\yh prog w h' s.heap.objs.size ks/\(∀b o,s.heap.get? b=some o->h'.get? b=some o)) q l u (YO n) M H (fun h' O B=>⟨h',rfl,B,fun b o e=>(O.2 b<|Zu<|Zl e).trans<|Q8 _ e⟩);unfold zN at q;unfold Builtin.«set.__init__» noKeywords;generalize T:E5=U at p ⊢;unfold zN at p ⊢
    wp_walk
    exact Yg p (fun _ X ⟨h',e,B,kp⟩=>by subst e;exact Q7 ⟨rfl,h',s.toks,rfl,B,kp⟩) fun _ _ z=>z
   ·cases j with
    |error e=>exact g
    |ok fl₂ =>
     cases fl₂ with
     |ret r =>
      obtain⟨rfl,h',tk,rfl,t,v⟩:=g
      repeat (any_goals (first|assumption|wp_step))
      exact h _ _ t v
     |_=>exact g.elim
  |_=>exact y.elim
end
end AxS
namespace L2
open PySem PySem.Spec PyProof.Rows AxS
section
variable {X:Cx}
def aY (P:Ek)(w:Eo):Dj->Hp->VK->Prop:=fun c H Q=>∃a b,c=[.ref a]/\Rd H a (.dK b)/\TN b/\b.length*2<256/\∀p,H p=none->Q (.ref p) (upd H p<|UQ P w p<|b.map UZ)
theorem Bm:xf X (.type "set") (aY X.prog X.w):=by
 intro C s J H G F Q I r h;obtain⟨a,c,rfl,i,f,v,q⟩:=h;obtain⟨u,rfl,z⟩:=wW r;cases z;obtain⟨j,D,b,g,t,x⟩:=Bq I i;have l:c.length=j.length:=Paired.length b;have n:j.map (·.1)=(c.map UZ).map Sum.inr:=by
  clear q i x v g l;unfold KV at b
  induction b with
  |nil=>rfl
  | @cons p q ps qs r _ ih =>
   rw[Zv,Zv,Zv,ih fun y d=>f y<|Q9 _ d,←f p (Zc ..)];have e:p.1=q.1:=r.1;rw[e]
 exact GK g.dictOf t (by lia) n fun E A B kp=>⟨.ref s.heap.objs.size,_,I.laid (o:=UQ X.prog X.w s.heap.objs.size<|c.map UZ) (t':=A) kp (Zd _)<|Fj B,rfl,q _<|I.hok.fresh<|Zd _⟩
end
end L2
namespace AxS
open PySem PySem.Spec PyProof.Rows
section
variable {prog:Ek}{w:Eo}{A:EF}{E:Ei->Dh}{s:Em}
theorem qW:plainId "dict.update.loop"=true:=by decide +kernel
theorem XC:entryFor table "dict.update.loop"=some Builtin.«dict.update.loop»:=entryFor_of_fast (by kernel_rfl)
def tZ (prog:Ek)(w:Eo)(h:EB)(Dn:Array Ei)(Dm:List<|L2.Key×Ei):Prop:=Dm.length=Dn.size/\∀(i:Nat) (v:Ei),Dn[i]?=some v->∃(T:Ej) (k:L2.Key) (key x:Ei),v=.ref T/\h.IsTuple T #[key,x]/\(L2.za prog w).is k key=true/\Dm[i]?=some (k,x)
theorem tZ.at {h':EB}(p:tZ prog w h Dn Dm)(e:∀T o,(∃xs,h.IsTuple T xs)->h.get? T=some o->h'.get? T=some o):tZ prog w h' Dn Dm:=by
 refine⟨p.1,fun i v g=>?_⟩;obtain⟨T,k,key,x,c,b,d,j⟩:=p.2 i v g;obtain⟨o,f,r⟩:=id b;exact⟨T,k,key,x,c,⟨o,e T o ⟨_,b⟩ f,r⟩,d,j⟩
end
end AxS
namespace L2
open PySem PySem.Spec PyProof.Rows AxS
section
variable {X:Cx}{K:Ca}
def Kk (K:Ca)(H:Hp)(xs:Dj)(Dm:Dl):Prop:=xs.length=Dm.length/\∀(i:Nat) (x:V),xs[i]?=some x->∃(T:Ej) (k:Key) (v:V),x=.ref T/\xg K H T [kV k,v]/\Dm[i]?=some (k,v)
theorem Gp (I:Inv X Do σ H s):∀{vs:Dj} {its:Db} {Dm:Dl},yr vs its->Kk X.K H vs Dm->∃um:List<|Key×Ei,KV Dm um/\um.length=its.length/\∀(i:Nat) (v:Ei),its[i]?=some v->∃(T:Ej) (k:Key) (key x:Ei),v=.ref T/\s.heap.IsTuple T #[key,x]/\(za X.prog X.w).is k key=true/\um[i]?=some (k,x)
 |[],_,Dm,.nil,p=>by
  have:Dm=[]:=Yn p.1.symm;subst this;exact⟨[],.nil,rfl,fun i v z=>(nomatch z)⟩
 |x::vs,u::its,Dm,.cons r1 r2,p=>by
  obtain⟨T,k,y,rfl,n,d⟩:=p.2 0 x rfl;cases Dm with
  |nil=>cases d
  |cons kv Dm =>
   have l:kv=(k,y):=Option.some.inj d;subst l;obtain⟨um,c,len,all⟩:=Gp I (Dm:=Dm) r2 ⟨by have:=p.1;simpa using this,fun i z q=>by
    obtain⟨f,r,t,g,h,j⟩:=p.2 (i+1) z (by simpa using q);exact⟨f,r,t,g,h,by simpa using j⟩⟩
   cases r1;obtain⟨A,b,o,_⟩:=I.tuple n;cases b with
   |cons q1 b =>
    cases b with
    |cons q2 b =>
     cases b;rename_i key val;refine⟨(k,val)::um,.cons ⟨rfl,q2⟩ c,by rw[Zn,Zn,len],fun i v e=>?_⟩;cases i with
     |zero =>
      cases e;exact⟨T,k,key,val,rfl,o,vR q1,rfl⟩
     |succ i=>exact all i v (by simpa using e)
end
theorem xu.wC (r:xu k A):A.units+1<cLine:=by have:=r.un;lia
end L2
namespace AnS
open PySem L2 An AnJ
def oD:Option Da->Er
 |none=>.none
 |some ls=>yd ls
theorem su (a b:Option Da):EH (oD a) (oD b)=decide (a=b):=by
 cases a with
 |none =>
  cases b with
  |none=>rfl
  |some y=>rfl
 |some x =>
  cases b with
  |none=>rfl
  |some y =>
   show EH (yd x) (yd y)=_;rw[Pl,Yq,ZK,ZK,Option.some.injEq]
def bH (o:Option Da):Prop:=∀b,o=some b->nR b
theorem BV (h:bH o):(oD o).canLay0=true/\(oD o).depth<=1:=by
 cases o with
 |none=>exact⟨rfl,ZD _⟩
 |some ls=>exact PM<|h ls rfl
theorem wN (h:bH o):ER (oD o)=true:=G0 (BV h).1 (ZL (BV h).2<|by decide)
def DS (H H':Hp):Prop:=∀b o,H b=some o->(∀c,o≠.dK c)->H' b=some o
theorem DS.of (e:zx H H'):DS H H':=fun b o h _=>e b o h
theorem DS.upd {H:Hp}{d:Ej}{Dm:Dl}(h:H d=some (.dK Dm)):DS H (upd H d o):=fun b u e n=>by
 rw[zG fun z=>by rw[z,h]at e;exact n Dm (Option.some.inj e).symm];exact e
theorem DS.jx {K:Ca}(e:DS H H')(h:xg K H a xs):xg K H' a xs:=by
 rcases h with(h|⟨o,h⟩)|h
 ·exact .inl (.inl<|e _ _ h fun _ z=>(nomatch z))
 ·exact .inl (.inr ⟨o,e _ _ h fun _ z=>(nomatch z)⟩)
 ·exact .inr h
theorem DS.kh {K:Ca}(e:DS H H')(h:yx K H a xs):yx K H' a xs:=by
 rcases h with(h|⟨o,h⟩)|h
 ·exact .inl (.inl<|e _ _ h fun _ z=>(nomatch z))
 ·exact .inl (.inr ⟨o,e _ _ h fun _ z=>(nomatch z)⟩)
 ·exact .inr h
mutual
theorem DS.dt {K:Ca}(e:DS H H'):∀(d:Er) (v:V),Dt K H d v->Dt K H' d v
 | .none,_,h=>h
 | .bool _,_,h=>h
 | .int _,_,h=>h
 | .str _,_,h=>h
 | .list ds,_,⟨a,xs,h1,h2,h3⟩=>⟨a,xs,h1,e.kh h2,DS.mL e ds xs h3⟩
 | .tuple ds,_,⟨a,xs,h1,h2,h3⟩=>⟨a,xs,h1,e.jx h2,DS.mL e ds xs h3⟩
 | .dict _,_,h=>h
theorem DS.mL {K:Ca}(e:DS H H'):∀(ds:Df) (xs:Dj),zy K H ds xs->zy K H' ds xs
 |[],_,h=>h
 |d::ds,_,⟨x,r,h1,h2,h3⟩=>⟨x,r,h1,DS.dt e d x h2,DS.mL e ds r h3⟩
end
structure yj (K:Ca)(H:Hp)(Dm:Dl)(L:Da)(g:Str->Er):Prop where
 keys:Dm.map (·.1)=L.map Eu
 nd:L.Nodup
 val:∀p∈L,∃v,Us Dm (.inr p)=some v/\Dt K H (g p) v
section
variable {K:Ca}{H H':Hp}{Dm more:Dl}{L M:Da}{g:Str->Er}
theorem yj.len (h:yj K H Dm L g):Dm.length=L.length:=by
 have:=congrArg List.length h.keys;rw[Q5,Q5]at this;exact this
theorem yj.mono (h:yj K H Dm L g)(e:DS H H'):yj K H' Dm L g:=⟨h.keys,h.nd,fun p c=>let ⟨v,a,b⟩:=h.val p c;⟨v,a,e.dt _ _ b⟩⟩
theorem yj.lC {g':Str->Er}(h:yj K H Dm L g)(e:∀p∈L,g p=g' p):yj K H Dm L g':=⟨h.keys,h.nd,fun p c=>let ⟨v,a,b⟩:=h.val p c;⟨v,a,e p c▸b⟩⟩
theorem yj.at (h:yj K H Dm L g){i:Nat}{b:Key×V}(e:Dm[i]?=some b):L[i]?=some (UZ b)/\b.1=.inr (UZ b):=by
 have:=congrArg (fun l=>l[i]?) h.keys;simp only[Zj,e,Yt]at this;cases q:L[i]? with
 |none=>rw[q]at this;cases this
 |some p =>
  rw[q]at this;have this:b.1=.inr p:=Option.some.inj this;have c:UZ b=p:=by unfold UZ;rw[this]
  exact⟨by rw[c],by rw[c,this]⟩
theorem yj.ju (h:yj K H Dm L g):TN Dm:=fun c b=>by
 obtain⟨i,e⟩:=Yl.mp b;exact(h.at e).2
theorem yj.lK (h:yj K H Dm L g):Dm.map UZ=L:=by
 refine VC fun i=>?_;rw[Zj];cases e:Dm[i]? with
 |none =>
  have:L.length<=i:=by rw[←h.len];exact JA.mp e
  rw[JA.mpr this];rfl
 |some kv=>rw[(h.at e).1];rfl
theorem yj.mem (h:yj K H Dm L g){p:Str}:(.inr p:Key)∈Dm.map (·.1)↔p∈L:=by
 rw[h.keys,Za];exact⟨fun⟨q,b,e⟩=>by cases e;exact b,fun z=>⟨p,z,rfl⟩⟩
theorem yj.no (h:yj K H Dm L g){p:Str}(n:p∉L):Us Dm (.inr p)=none:=by
 cases e:Us Dm (.inr p) with
 |none=>rfl
 |some v=>exact absurd (h.mem.mp<|uI e) n
theorem yj.isSome (h:yj K H Dm L g)(p:Str):(Us Dm<|.inr p).isSome=decide (p∈L):=by
 by_cases z:p∈L
 ·obtain⟨v,e,_⟩:=h.val p z;rw[e,Zf z];rfl
 ·rw[h.no z,Zo z];rfl
def Ft (L:Da)(p:Str):Da:=if p∈L then L else L++[p]
theorem qd {q:Str}:q∈Ft L p↔q∈L\/q=p:=by
 unfold Ft
 by_cases z:p∈L
 ·rw[Zt z];exact⟨.inl,fun h=>h.elim id fun e=>e▸z⟩
 ·rw[Zs z,Zy,Q6]
theorem oG (p:Str):(Ft L p).length<=L.length+1:=by
 unfold Ft
 split
 ·lia
 ·rw[Ze];exact Zd _
theorem yj.put (h:yj K H Dm L g)(p:Str){v:V}{d:Er}(j:Dt K H d v):yj K H (ye Dm (.inr p) v) (Ft L p) (fun q=>if q=p then d else g q):=by
 refine⟨?_,?_,fun q i=>?_⟩
 ·unfold Ft
  by_cases z:p∈L
  ·rw[Zt z];unfold ye;rw[Zt<|by rw[xZ,h.isSome,Zf z],ZB,←h.keys];refine Yp fun c _=>?_;show(if c.1=.inr p then(c.1,v) else c).1=c.1
   split<;>rfl
  ·rw[Zs z,HG v<|h.no z,Zg,Zg,h.keys];rfl
 ·unfold Ft
  by_cases z:p∈L
  ·rw[Zt z];exact h.nd
  ·rw[Zs z];exact jL h.nd z
 ·rw[Ki]
  by_cases e:q=p
  ·subst e;rw[Zt rfl];exact⟨v,rfl,by show Dt K H (if q=q then d else g q) v;rw[Zt rfl];exact j⟩
  ·have f:¬((.inr q:Key)=.inr p):=fun z=>by cases z;exact e rfl
   rw[Zs f];obtain⟨w,a,b⟩:=h.val q<|(qd.mp i).resolve_right e;exact⟨w,a,by show Dt K H (if q=p then d else g q) w;rw[Zs e];exact b⟩
theorem yj.nodup (h:yj K H Dm L g):(Dm.map (·.1)).Nodup:=by
 rw[h.keys];exact LU _ (fun a b n e=>by cases e;exact n rfl) h.nd
theorem XM {κ:Type} [DecidableEq κ]:∀{Dm:List (κ×V)} {kv:κ×V},(Dm.map (·.1)).Nodup->kv∈Dm->Us Dm kv.1=some kv.2
 |p::r,kv,nd,h=>by
  rw[Zv,Z9]at nd
  rcases Zh.mp h with rfl|h
  ·exact yY rfl
  ·rw[yX fun e=>nd.1<|e▸Za.mpr ⟨kv,h,rfl⟩];exact XM nd.2 h
theorem yj.pair (h:yj K H Dm L g){c:Key×V}(d:c∈Dm):c.1=.inr (UZ c)/\UZ c∈L/\Dt K H (g<|UZ c) c.2:=by
 have e:=h.ju c d;have f:UZ c∈L:=by rw[←h.lK];exact Za.mpr ⟨c,d,rfl⟩
 obtain⟨v,a,b⟩:=h.val _ f;have:=XM h.nodup d;rw[e,a]at this;exact⟨e,f,Option.some.inj this▸b⟩
theorem yj.drop (h:yj K H Dm L g)(p:Str):yj K H (UF Dm<|.inr p) (L.filter fun q=>decide (q≠p)) g:=by
 have go:∀{Dm:Dl} {L:Da},Dm.map (·.1)=L.map Eu->(UF Dm<|.inr p).map (·.1)=(L.filter fun q=>decide (q≠p)).map Sum.inr:=fun{Dm}=>by
  induction Dm with
  |nil=>intro L e;cases L with
   |nil=>rfl
   |cons=>cases e
  |cons o r ih=>intro L e;cases L with
   |nil=>cases e
   |cons x L =>
    rw[Zv,Zv]at e;injection e with f c
    by_cases z:x=p
    ·rw[Og<|by rw[f,z],YZ,Zs<|by simp[z]];exact ih c
    ·rw[Of (by rw[f];exact fun q=>by cases q;exact z rfl),YZ,Zt<|by simp[z],Zv,Zv,f,ih c]
 have e:=go h.keys;refine⟨e,h.nd.filter _,fun q j=>?_⟩;obtain⟨j,ne⟩:=Yy.mp j;obtain⟨v,a,b⟩:=h.val q j;refine⟨v,?_,b⟩;have ne:q≠p:=Zr ne;obtain⟨o,d,i⟩:=Za.mp<|uI a;have c:=XM h.nodup d;rw[i,a]at c;have s:o∈UF Dm (.inr p):=Yy.mpr ⟨d,Zf (by rw[i];exact fun z=>by cases z;exact ne rfl)⟩;have l:((UF Dm<|.inr p).map (·.1)).Nodup:=by
  rw[e];exact LU _ (fun a b n e=>by cases e;exact n rfl)<|h.nd.filter _
 have:=XM l s;rw[i]at this;rw[this,Option.some.inj c]
end
structure Files (K:Ca)(H:Hp)(Dm:Dl)(L:Da)(F:Str->Option Da):Prop where
 is:yj K H Dm L<|fun p=>oD<|F p
 mem:∀p,p∈L↔(F p).isSome=true
section
variable {K:Ca}{H H':Hp}{Dm:Dl}{L:Da}{F:Str->Option Da}
theorem Files.get (h:Files K H Dm L F)(p:Str):Dt K H (oD<|F p) ((Us Dm<|.inr p).getD .non):=by
 by_cases z:p∈L
 ·obtain⟨v,e,d⟩:=h.is.val p z;rwa[e]
 ·rw[h.is.no z];have:F p=none:=by
   cases q:F p with
   |none=>rfl
   |some x=>exact absurd ((h.mem p).mpr (by rw[q];rfl)) z
  rw[this];rfl
theorem Files.mono (h:Files K H Dm L F)(e:DS H H'):Files K H' Dm L F:=⟨h.is.mono e,h.mem⟩
theorem Files.same (h:Files K H Dm L F)(e:zx H H'):Files K H' Dm L F:=h.mono<|.of e
theorem Files.put (h:Files K H Dm L F)(p:Str){v:V}{ls:Da}(b:Dt K H (yd ls) v):Files K H (ye Dm (.inr p) v) (Ft L p) (fun q=>if q=p then some ls else F q):=by
 refine⟨(h.is.put p b).lC fun q _=>?_,fun q=>?_⟩
 ·show(if q=p then yd ls else oD (F q))=oD (if q=p then some ls else F q)
  split<;>rfl
 ·rw[qd,h.mem];show _↔(if q=p then some ls else F q).isSome=true
  by_cases z:q=p
  ·rw[Zt z];exact⟨fun _=>rfl,fun _=>.inr z⟩
  ·rw[Zs z];exact⟨fun q=>q.resolve_right z,.inl⟩
theorem Files.drop (h:Files K H Dm L F)(p:Str):Files K H (UF Dm<|.inr p) (L.filter fun q=>decide (q≠p)) (fun q=>if q=p then none else F q):=by
 refine⟨(h.is.drop p).lC fun q b=>?_,fun q=>?_⟩
 ·have:q≠p:=Zr (Yy.mp b).2;show oD (F q)=oD (if q=p then none else F q);rw[Zs this]
 ·rw[Yy,h.mem];show _↔(if q=p then none else F q).isSome=true
  by_cases z:q=p
  ·rw[Zt z];exact⟨fun w=>absurd z<|Zr w.2,fun w=>(nomatch w)⟩
  ·rw[Zs z];exact⟨fun w=>w.1,fun w=>⟨w,Zf z⟩⟩
end
theorem qt {l m:Da}(c:l.Pairwise pW)(d:m.Pairwise pW)(n1:l.Nodup)(n2:m.Nodup)(e:∀p,p∈l↔p∈m):l=m :=
 Vn (fun a b _ _=>Ic) c d ((Jw n1 n2).mpr e)
end AnS
namespace An
open PySem L2 AnJ
theorem Iv:∀{more Dm:Dl},(∀k∈more.map (·.1),k∉Dm.map (·.1))->(more.map (·.1)).Nodup->putAll Dm more=Dm++more
 |[],Dm,_,_=>(ZG _).symm
 |p::more,Dm,h,nd=>by
  rw[Zv,Z9]at nd;show putAll (ye Dm p.1 p.2) more=_;rw[uF<|h p.1<|Zc ..,Iv (fun k b z=>?_) nd.2,Z7]
  ·rfl
  ·rw[Zg]at z
   rcases Zy.mp z with z|z
   ·exact h k (Q9 _ b) z
   ·have z:k=p.1:=Q6.mp z;exact nd.1<|z▸b
inductive jq (par:Str->Da)(rs:Da):Str->Prop
 |root {x:Str}:x∈rs->jq par rs x
 |step {x y:Str}:jq par rs x->y∈par x->jq par rs y
def Uz (S:Di):Er->Str->Bool
 | .str x,f=>yQ S x [f]
 |_,_=>false
def zc (rows:Dg)(l:Str):Option Str:=(rows.find? fun r=>decide (r.1=l)).map (·.2)
theorem S1 (rows:Dg)(l:Str):Us (Cp rows) (.inr l)=(zc rows l).map V.str:=by
 unfold Us Cp zc;rw[List.find?_map,Option.map_map,Option.map_map]
 congr 1
 congr 1
 funext r
 show decide ((.inr r.1:Key)=.inr l)=decide (r.1=l)
 by_cases z:r.1=l
 ·rw[Zf z,Zf<|by rw[z]]
 ·rw[Zo z,Zo<|fun q=>z<|Sum.inr.inj q]
theorem kB {n:Str}(h:zc rows l=some n):(l,n)∈rows:=by
 unfold zc at h;obtain⟨r,d,rfl⟩:=Zz.mp h;have e:=Ja d;have c:=J1 d;have c:=Zr c;obtain⟨a,b⟩:=r;have c:a=l:=c;subst c;exact e
noncomputable def wz (S:Di)(x:Option Str)(l:Str):Option Str:=match x with
 |none=>none
 |some n=>match CG S n with
  |some (.tree rows)=>zc rows l
  |_=>none
noncomputable def atT (S:Di)(b:Str)(ls:Da):Option Str:=ls.foldl (wz S)<|some b
theorem Bh (S:Di):∀ls:Da,ls.foldl (wz S) none=none
 |[]=>rfl
 |_::ls=>Bh S ls
theorem Bf (g:xj S){n:Str}{rows:Dg}(h:At S n<|.tree rows)(l:Str):wz S (some n) l=zc rows l:=by
 show(match CG S n with|some (.tree rows)=>zc rows l|_=>none)=_;rw[jK g h]
theorem X8 (g:xj S)(n:Str):(Uz S (.str n) "tree"=true/\∃rows,At S n<|.tree rows)\/(Uz S (.str n) "tree"=false/\∀rows,¬At S n (.tree rows)):=by
 cases q:Uz S (.str n) "tree" with
 |true =>
  have q:yQ S n ["tree"]=true:=q;unfold yQ at q;obtain⟨e,d,q⟩:=Yc.mp q;rw[Zi,ZM,ZM]at q;obtain⟨t,f,_,_⟩:=g.th e d;have w:=Q6.mp q.2;rw[uL f]at w;refine .inl ⟨rfl,?_⟩;cases t with
  |leaf ls=>exact absurd (show("leaf":Str)="tree" from w) (by decide +kernel)
  |tree rows=>exact⟨rows,e,d,q.1,f⟩
  |note a b c=>exact absurd (show("note":Str)="tree" from w) (by decide +kernel)
 |false =>
  refine .inr ⟨rfl,fun rows h=>?_⟩;obtain⟨e,d,rfl,hd⟩:=h;have:yQ S e.nm ["tree"]=true:=Yc.mpr ⟨e,d,by
   rw[Zi,ZK,ZK,uL hd];exact⟨rfl,Q6.mpr rfl⟩⟩
  rw[show Uz S (.str e.nm) "tree"=yQ S e.nm ["tree"] from rfl,this]at q;cases q
theorem RQ (h:∀rows,¬At S n (.tree rows))(l:Str):wz S (some n) l=none:=by
 show(match CG S n with|some (.tree rows)=>zc rows l|_=>none)=_;cases q:CG S n with
 |none=>rfl
 |some t =>
  unfold CG at q
  split at q
  ·rename_i ex;have q:=Option.some.inj q;have d:=J3 ex;rw[q]at d;cases t with
   |leaf ls=>rfl
   |tree rows=>exact absurd d<|h rows
   |note a b c=>rfl
  ·cases q
def oV:Option Str->V
 |none=>.non
 |some n=>.str n
def Cs:Option Str->Er
 |none=>.none
 |some n=>.str n
def UP (fs:Dk)(f:Fi):Dk:=if f.1∈fs.map (·.1) then fs.map (fun g=>if g.1=f.1 then f else g) else fs++[f]
theorem MI (fs:Dk)(f:Fi):(UP fs f).map (·.1)=if f.1∈fs.map (·.1) then fs.map (·.1) else fs.map (·.1)++[f.1]:=by
 unfold UP
 split
 ·rw[ZB];refine Yp fun g _=>?_;show(if g.1=f.1 then f else g).1=g.1
  split
  ·rename_i z;exact z.symm
  ·rfl
 ·rw[Zg];rfl
theorem kP {k:Fi}(h:k∈UP fs f):k∈fs\/k=f:=by
 unfold UP at h
 split at h
 ·obtain⟨g,b,e⟩:=Za.mp h
  split at e
  ·exact .inr e.symm
  ·exact .inl (e▸b)
 ·rcases Zy.mp h with z|z
  ·exact .inl z
  ·exact .inr (Q6.mp z)
theorem GX (fs:Dk)(f:Fi):(UP fs f).length<=fs.length+1:=by
 unfold UP
 split
 ·rw[Q5];exact Jg _
 ·rw[Ze];exact Zd _
theorem CZ {a t:Da}(b:a≠[])(c:t≠[]):Cd (a++t)=Cd a++"/"++Cd t:=wY (by
 have e:cs ("/":Str)=[47]:=by decide +kernel
 unfold Cd;rw[qD,Zg,KK (by simpa using b)<|by simpa using c,zp,zp,qD,qD,e];simp)
theorem zf.put (g:zf 4 fs){f:Fi}(h:f.1≠[])(j:f.1.length<=4)(hl:∀l∈f.1,zV l=true)(p:UI f.2)(d:∀k∈fs,Uy (Cd k.1) (Cd f.1)=false/\Uy (Cd f.1) (Cd k.1)=false):zf 4 (UP fs f):=by
 have i:∀{a b t:Da},a≠[]->b=a++t->Uy (Cd a) (Cd b)=false->t=[]:=fun{a b t} n e z=>by
  rcases Classical.em (t=[]) with q|q
  ·exact q
  ·rw[e,CZ n q,Hr]at z;cases z
 refine⟨fun k c=>?_,?_,fun k c m o t e=>?_⟩
 ·rcases kP c with z|z
  ·exact g.wK k z
  ·rw[z];exact⟨h,j,hl,p⟩
 ·rw[MI]
  split
  ·exact g.nd
  ·rename_i z;exact jL g.nd z
 ·rcases kP c with z|z<;>rcases kP o with y|y
  ·exact g.pre k z m y t e
  ·rw[y]at e;exact i (g.wK k z).1 e (d k z).1
  ·rw[z]at e;exact i h e (d m y).2
  ·rw[z,y]at e;have:=congrArg List.length e;rw[Ze]at this;exact Yn (by lia)
theorem yc.put {K:Ca}(h:yc K H fs Dm){n:Nat}(g:zf n fs){f:Fi}{v:V}(E:f.1≠[])(hl:∀l∈f.1,zV l=true)(C:Dt K H (yd f.2) v)(B:UI f.2):yc K H (UP fs f) (ye Dm (.inr<|Cd f.1) v):=by
 have key:∀k∈fs,((.inr (Cd k.1):Key)=.inr (Cd f.1))↔k.1=f.1:=fun k o=>⟨fun z=>vH (d:=0) (g.wK k o).1 E (g.wK k o).2.2.1 hl<|Sum.inr.inj z,fun z=>by rw[z]⟩
 by_cases z:f.1∈fs.map (·.1)
 ·have A:∃k∈fs,k.1=f.1:=let ⟨k,o,e⟩:=Za.mp z;⟨k,o,e⟩;have F:(Dm.any fun c=>decide (c.1=.inr (Cd f.1)))=true:=by
   obtain⟨k,o,e⟩:=A;have:(.inr (Cd f.1):Key)∈Dm.map (·.1):=by rw[h.keys];exact Za.mpr ⟨k,o,by rw[e]⟩
   obtain⟨c,m,D⟩:=Za.mp this;exact Yc.mpr ⟨c,m,Zf D⟩
  unfold ye UP;rw[Zt F,Zt z];refine⟨?_,fun i k c a b=>?_⟩
  ·rw[ZB,ZB];have s:Dm.map ((fun p=>p.1)∘fun c=>if c.1=.inr (Cd f.1) then(c.1,v) else c)=Dm.map (·.1):=Yp fun c _=>by
    show(if c.1=.inr (Cd f.1) then(c.1,v) else c).1=c.1
    split<;>rfl
   rw[s,h.keys];refine Yp fun k _=>?_;show(Eu (Cd k.1):Key)=.inr (Cd (if k.1=f.1 then f else k).1)
   split
   ·rename_i q;rw[q]
   ·rfl
  ·rw[Zj]at a b;obtain⟨x,t,w⟩:=Zz.mp a;obtain⟨u,r,j⟩:=Zz.mp b;have s:=congrArg (fun l=>l[i]?) h.keys;simp only[Zj,t,r,Yt]at s;have s:u.1=.inr (Cd x.1):=Option.some.inj s
   by_cases q:x.1=f.1
   ·rw[Zt q]at w;rw[Zt<|by rw[s,q]]at j;rw[←w,←j];exact⟨C,B⟩
   ·rw[Zs q]at w;rw[Zs<|fun y=>q<|(key x<|Zm t).mp<|s.symm.trans y]at j;rw[←w,←j];exact h.val i x u t r
 ·have G:(.inr (Cd f.1):Key)∉Dm.map (·.1):=fun y=>by
   rw[h.keys]at y;obtain⟨k,o,e⟩:=Za.mp y;exact z<|Za.mpr ⟨k,o,(key k o).mp e⟩
  rw[uF G];unfold UP;rw[Zs z];exact h.snoc C B
theorem HD (B:Da)(l:Str)(b:B≠[]):Cd B++"/"++l=Cd (B++[l]):=by
 rw[CZ b<|ZR _ _,HE]
noncomputable def A9 (S:Di)(o:Option Str):Dg:=match o with
 |none=>[]
 |some n=>match CG S n with
  |some (.tree rows)=>rows
  |_=>[]
noncomputable def Ce (S:Di)(o:Option Str):Bool:=match o with
 |none=>false
 |some n=>match CG S n with
  |some (.tree _)=>true
  |_=>false
noncomputable def Cc (S:Di)(o:Option Str):Option Str:=if Ce S o=true then none else o
theorem OP (S:Di)(o:Option Str)(l:Str):wz S o l=zc (A9 S o) l:=by
 cases o with
 |none=>rfl
 |some n =>
  unfold wz A9;dsimp only;generalize CG S n=o;cases o with
  |none=>rfl
  |some t=>cases t<;>rfl
theorem X6 (h:Ce S o=false):A9 S o=[]:=by
 cases o with
 |none=>rfl
 |some n =>
  unfold Ce at h;unfold A9;dsimp only at h ⊢;cases q:CG S n with
  |none=>rfl
  |some t =>
   rw[q]at h;cases t with
   |leaf ls=>rfl
   |tree rows=>cases h
   |note a b c=>rfl
theorem yP (g:xj S){n:Str}{rows:Dg}(h:At S n<|.tree rows):A9 S (some n)=rows/\Ce S (some n)=true:=by
 unfold A9 Ce;dsimp only;rw[jK g h];exact⟨rfl,rfl⟩
abbrev OX:=Da×Option Str×Option Str
noncomputable def Ch (S:Di)(o:Option Str)(p:Da):Option Str:=p.foldl (wz S) o
theorem qN (S:Di)(o:Option Str)(l:Str)(p:Da):Ch S o (l::p)=Ch S (zc (A9 S o) l) p:=by
 show(p.foldl (wz S)<|wz S o l)=_;rw[OP];rfl
structure sy (S:Di)(B:Da)(b a:Option Str)(R:List OX):Prop where
 rise:R.Pairwise fun r s=>Cz (Cd r.1)<|Cd s.1
 mem:∀r,r∈R↔∃p,r=(B++p,Cc S<|Ch S b p,Cc S<|Ch S a p)/\Cc S (Ch S b p)≠Cc S (Ch S a p)
theorem Ru:∀(B:Da) {p q:Da},p≠[]->q≠[]->Cz (Cd p) (Cd q)->Cz (Cd<|B++p) (Cd<|B++q)
 |[],_,_,_,_,h=>h
 |l::B,p,q,hp,hq,h=>MH (fun z=>hp (VG.mp z).2) (fun z=>hq (VG.mp z).2) (Ru B hp hq h)
theorem HA:∀{B:Da} {p:Da},B≠[]->p≠[]->Cz (Cd B) (Cd<|B++p)
 |[],_,h,_=>absurd rfl h
 |[l],p,_,hp=>by
  unfold Cz;show cs (Cd [l])<cs (Cd (l::p));rw[qX,xQ l hp];have:=Kn (cs l)<|List.nil_lt_cons 47<|cs<|Cd p;rw[ZG]at this;exact this
 |l::m::B,p,_,hp=>MH (ZR _ _) (ZR _ _)<|HA (ZR _ _) hp
theorem sy.step {B:Da}{L:Da}{R:Str->List OX}(top:B=[]->Cc S b=Cc S a)(h:L.Pairwise Cz)(wK:∀l∈L,zV l=true)(i:∀l,zc (A9 S b) l≠zc (A9 S a) l->l∈L)
  (g:∀l∈L,zc (A9 S b) l≠zc (A9 S a) l->sy S (B++[l]) (zc (A9 S b) l) (zc (A9 S a) l) (R l)) :
  sy S B b a ((if Cc S b≠Cc S a then[(B,Cc S b,Cc S a)] else[])++L.flatMap fun l=>if zc (A9 S b) l≠zc (A9 S a) l then R l else[]):=by
 have inl:∀{l r},l∈L->r∈(if zc (A9 S b) l≠zc (A9 S a) l then R l else[])->zc (A9 S b) l≠zc (A9 S a) l/\∃p,r=(B++l::p,Cc S<|Ch S b (l::p),Cc S<|Ch S a (l::p))/\Cc S (Ch S b (l::p))≠Cc S (Ch S a (l::p)):=fun{l r} hl c=>by
  by_cases q:zc (A9 S b) l≠zc (A9 S a) l
  ·rw[Zt q]at c;obtain⟨p,e,ne⟩:=((g l hl q).mem r).mp c;rw[←qN,←qN]at e ne;refine⟨q,p,?_,ne⟩;rw[e,Z7];rfl
  ·rw[Zs q]at c;cases c
 refine⟨?_,fun r=>?_⟩
 ·rw[List.pairwise_append];refine⟨?_,?_,fun r c s f=>?_⟩
  ·split
   ·exact JL _ _
   ·exact List.Pairwise.nil
  ·rw[JN,List.pairwise_flatten];refine⟨fun m d=>?_,?_⟩
   ·obtain⟨l,hl,rfl⟩:=Za.mp d
    split
    ·rename_i q;exact(g l hl q).rise
    ·exact List.Pairwise.nil
   ·rw[Yv];refine h.imp_of_mem fun{l m} hl d z r c s f=>?_;obtain⟨_,p,rfl,_⟩:=inl hl c;obtain⟨_,q,rfl,_⟩:=inl d f;exact Ru B (ZR _ _) (ZR _ _)<|Rx p q (wK m d) z
  ·obtain⟨l,hl,f⟩:=YG.mp f;obtain⟨_,p,rfl,_⟩:=inl hl f
   by_cases q:Cc S b≠Cc S a
   ·rw[Zt q]at c;rw[Q6.mp c];exact HA (fun z=>q<|top z) (ZR _ _)
   ·rw[Zs q]at c;cases c
 ·rw[Zy];constructor
  ·rintro(c|c)
   ·by_cases q:Cc S b≠Cc S a
    ·rw[Zt q]at c;exact⟨[],by rw[Q6.mp c,ZG];rfl,q⟩
    ·rw[Zs q]at c;cases c
   ·obtain⟨l,hl,c⟩:=YG.mp c;obtain⟨_,p,e,ne⟩:=inl hl c;exact⟨l::p,e,ne⟩
  ·rintro⟨p,rfl,ne⟩;cases p with
   |nil =>
    have ne:Cc S b≠Cc S a:=ne;refine .inl ?_;rw[Zt ne,ZG];exact Q6.mpr rfl
   |cons l p =>
    rw[qN,qN]at ne;have q:zc (A9 S b) l≠zc (A9 S a) l:=fun z=>ne (by rw[z]);have hl:=i l q;refine .inr<|YG.mpr ⟨l,hl,?_⟩;rw[Zt q,(g l hl q).mem];refine⟨p,?_,ne⟩;rw[qN,qN,Z7];rfl
theorem RD {α:Type}{f:α->Str}{l m:List α}(c:l.Pairwise<|fun r s=>Cz (f r)<|f s)(d:m.Pairwise<|fun r s=>Cz (f r)<|f s)(e:∀r,r∈l↔r∈m):l=m:=by
 have nd:∀{l:List α},l.Pairwise (fun r s=>Cz (f r)<|f s)->l.Nodup:=fun{l} h=>ZO.mpr (h.imp fun{a b} z q=>by subst q;exact JM _ z);have p:l.Perm m:=(Jw (nd c)<|nd d).mpr e;exact p.eq_of_pairwise (fun a b _ _ x y=>absurd (Sz x y) id) c d
def bN (b:Bool):Nat:=if b=true then 1 else 0
def U5 (b c:Dg):Da:=(UC ((b.map fun r=>(r.1,("":Str)))++((c.filter fun r=>decide (r.1∉b.map (·.1))).map fun r=>(r.1,("":Str))))).map (·.1)
theorem Bl {c d:Dg}(g:(c.map (·.1)).Nodup)(h:(d.map (·.1)).Nodup):(U5 c d).Pairwise Cz/\∀l,l∈U5 c d↔l∈c.map (·.1)\/l∈d.map (·.1):=by
 have e:((c.map fun r=>(r.1,("":Str)))++((d.filter fun r=>decide (r.1∉c.map (·.1))).map fun r=>(r.1,("":Str)))).map (·.1)=c.map (·.1)++(d.filter fun r=>decide (r.1∉c.map (·.1))).map (·.1):=by
  rw[Zg,ZB,ZB];rfl
 constructor
 ·refine IX ?_;rw[e,Y5];refine⟨g,?_,fun a i b j z=>?_⟩
  ·exact(List.filter_sublist.map _).nodup h
  ·obtain⟨r,f,rfl⟩:=Za.mp j;have:=Zr (Yy.mp f).2;exact this<|z▸i
 ·intro l;have:l∈U5 c d↔l∈((c.map fun r=>(r.1,("":Str)))++((d.filter fun r=>decide (r.1∉c.map (·.1))).map fun r=>(r.1,("":Str)))).map (·.1):=((y6 _).map _).mem_iff;rw[this,e,Zy];constructor
  ·rintro(z|z)
   ·exact .inl z
   ·obtain⟨r,f,rfl⟩:=Za.mp z;exact .inr<|Za.mpr ⟨r,(Yy.mp f).1,rfl⟩
  ·rintro(z|z)
   ·exact .inl z
   ·by_cases q:l∈c.map (·.1)
    ·exact .inl q
    ·obtain⟨r,f,rfl⟩:=Za.mp z;exact .inr<|Za.mpr ⟨r,Yy.mpr ⟨f,Zf q⟩,rfl⟩
noncomputable def Cv:Nat->Di->Da->Option Str->Option Str->List OX
 | 0,_,_,_,_=>[]
 |d+1,S,B,b,a=>(if Cc S b≠Cc S a then[(B,Cc S b,Cc S a)] else[])++(U5 (A9 S b)<|A9 S a).flatMap fun l=>if zc (A9 S b) l≠zc (A9 S a) l then Cv d S (B++[l]) (zc (A9 S b) l) (zc (A9 S a) l) else[]
noncomputable def Ku:Nat->Di->Option Str->Option Str->Nat
 | 0,_,_,_=>0
 |d+1,S,b,a=>bN (Ce S b)+bN (Ce S a)+((U5 (A9 S b)<|A9 S a).map fun l=>if zc (A9 S b) l≠zc (A9 S a) l then Ku d S (zc (A9 S b) l) (zc (A9 S a) l) else 0).sum
def Nd (d:Nat)(S:Di)(o:Option Str):Prop:=∀x,o=some x->Tree d S x
theorem Nd.rows {d:Nat}(g:xj S){o:Option Str}(h:Nd (d+1) S o):((A9 S o).map (·.1)).Pairwise Cz/\(∀r∈A9 S o,zV r.1=true)/\∀l,Nd d S (zc (A9 S o) l):=by
 have nil:A9 S o=[]->((A9 S o).map (·.1)).Pairwise Cz/\(∀r∈A9 S o,zV r.1=true)/\∀l,Nd d S (zc (A9 S o) l):=fun e=>by
  rw[e];exact⟨List.Pairwise.nil,fun r b=>(nomatch b),fun l x z=>(nomatch z)⟩
 cases o with
 |none=>exact nil rfl
 |some x =>
  rcases h x rfl with⟨ls,at_⟩|⟨rows,at_,so,b⟩
  ·refine nil (X6 ?_);unfold Ce;dsimp only;rw[jK g at_]
  ·rw[(yP g at_).1];exact⟨so,fun r h=>(b r h).1,fun l y z=>(b _<|kB z).2.1⟩
theorem xP {l:Da}(h:l.Pairwise Cz):l.Nodup:=ZO.mpr<|h.imp fun{a b} z=>Hd z
theorem Bc {n:Str}(h:zc rows l=some n):l∈rows.map (·.1):=Za.mpr ⟨_,kB h,rfl⟩
theorem Oy (h:zc r1 l≠zc r2 l):l∈r1.map (·.1)\/l∈r2.map (·.1):=by
 cases b:zc r1 l with
 |some n=>exact .inl<|Bc b
 |none =>
  cases c:zc r2 l with
  |some n=>exact .inr<|Bc c
  |none=>exact absurd (b.trans c.symm) h
theorem B8 (g:xj S):∀{d:Nat} {B:Da} {b a:Option Str},Nd d S b->Nd d S a->(B=[]->Cc S b=Cc S a)->sy S B b a (Cv d S B b a)
 | 0,B,b,a,hb,ha,_=>by
  have e:∀{o:Option Str},Nd 0 S o->o=none:=fun{o} h=>by
   cases o with
   |none=>rfl
   |some x=>exact absurd (h x rfl) id
  rw[e hb,e ha];exact⟨List.Pairwise.nil,fun r=>⟨fun z=>(nomatch z),fun⟨p,_,ne⟩=>absurd rfl ne⟩⟩
 |d+1,B,b,a,hb,ha,top=>by
  obtain⟨c,q,s⟩:=hb.rows g;obtain⟨i,j,n⟩:=ha.rows g;obtain⟨t,mem⟩:=Bl (xP c)<|xP i;refine sy.step top t (fun l hl=>?_) (fun l ne=>(mem l).mpr<|Oy ne) fun l hl ne=>B8 g (s l) (n l) fun z=>absurd z (by simp)
  rcases(mem l).mp hl with z|z
  ·obtain⟨r,f,rfl⟩:=Za.mp z;exact q r f
  ·obtain⟨r,f,rfl⟩:=Za.mp z;exact j r f
structure mq (d:Nat)(S:Di)(rows:Dg):Prop where
 nd:(rows.map (·.1)).Nodup
 at_:∀r∈rows,zV r.1=true/\Tree d S r.2/\yw d S r.2≠[]
noncomputable def MJ (d:Nat)(S:Di)(rows:Dg):Dk:=rows.flatMap fun r=>(yw d S r.2).map fun f=>(r.1::f.1,f.2)
theorem uE {f:Fi}:f∈MJ d S rows↔∃r∈rows,∃g∈yw d S r.2,f=(r.1::g.1,g.2):=by
 unfold MJ;rw[YG];constructor
 ·rintro⟨r,c,h⟩;obtain⟨g,b,e⟩:=Za.mp h;exact⟨r,c,g,b,e.symm⟩
 ·rintro⟨r,c,g,b,rfl⟩;exact⟨r,c,Za.mpr ⟨g,b,rfl⟩⟩
section
variable {d:Nat}{S T:Di}{rows:Dg}
theorem S4 {rs:Dg}(h:(rs.map (·.1)).Pairwise Cz):(rs.map (·.1)).Nodup:=ZO.mpr<|h.imp fun{a b} z=>Hd z
theorem Tree.pQ (g:xj S){x:Str}(t:Tree (d+1) S x)(a:At S x<|.tree rows):mq d S rows/\yw (d+1) S x=MJ d S rows:=by
 rcases t with⟨ls,z⟩|⟨rows2,z,so,hr⟩
 ·cases z.thing g a
 ·cases z.thing g a;exact⟨⟨S4 so,hr⟩,x5 g a⟩
end
inductive nZ (S:Di):Dg->Da->Str->Prop
 |here {rows:Dg} {l n:Str} {ls:Da}:(l,n)∈rows->nZ S rows (l::ls) n
 |down {rows rs:Dg} {l n x:Str} {ls:Da}:(l,n)∈rows->At S n (.tree rs)->nZ S rs ls x->nZ S rows (l::ls) x
theorem BD {rows:Dg}(nd:(rows.map (·.1)).Nodup){l n:Str}:zc rows l=some n↔(l,n)∈rows:=by
 refine⟨kB,fun h=>?_⟩;unfold zc;cases q:rows.find? (fun r=>decide (r.1=l)) with
 |none =>
  have:=Vt.mp q _ h;simp at this
 |some r =>
  have e:=Ja q;have d:=J1 q;have d:r.1=l:=Zr d;obtain⟨i,f,c⟩:=ZN.mp e;obtain⟨j,g,b⟩:=ZN.mp h;have:=(YX (h₀:=by simpa using f) (h₁:=by simpa using g) nd).mp (by rwa[ZQ,ZQ,c,b]);subst this;rw[c]at b;rw[b];rfl
theorem zf.one (g:zf n fs){f k:Fi}(b:f∈fs)(h:k∈fs)(e:f.1=k.1):f=k:=by
 obtain⟨i,c,rfl⟩:=ZN.mp b;obtain⟨j,d,rfl⟩:=ZN.mp h;have:=(YX (h₀:=by simpa using c) (h₁:=by simpa using d) g.nd).mp (by rwa[ZQ,ZQ]);subst this;rfl
theorem bC {n:Nat}{fs:Dk}(g:∀f∈fs,f.1.length<=n):wt fs<=n*fs.length:=by
 unfold wt
 induction fs with
 |nil=>exact ZD _
 |cons f fs ih =>
  have c:=g f<|Zc ..;have d:=ih fun k b=>g k<|Q9 _ b;rw[Zv,Jp,Zn,Nat.mul_succ];lia
theorem zf.wt (g:zf n fs):wt fs<=n*fs.length:=bC fun f b=>(g.wK f b).2.1
section
variable {K:Ca}{H:Hp}{fs:Dk}{Dm:Dl}
theorem yc.nd (h:yc K H fs Dm)(g:zf n fs):(Dm.map (·.1)).Nodup:=by
 rw[h.keys];have:=g.nd;rw[ZO,Yv]at this ⊢;exact this.imp_of_mem fun{a b} c e ne q=>ne<|vH (d:=0) (g.wK a c).1 (g.wK b e).1 (g.wK a c).2.2.1 (g.wK b e).2.2.1<|Sum.inr.inj q
theorem yc.at (h:yc K H fs Dm)(g:zf n fs){f:Fi}(l:f∈fs):∃v,Us Dm (.inr<|Cd f.1)=some v/\Dt K H (yd f.2) v/\UI f.2:=by
 obtain⟨i,o,rfl⟩:=ZN.mp l;have c:i<Dm.length:=by rwa[h.len]
 obtain⟨p,b,d,e,j⟩:=h.get (i:=i) (k:=Dm[i].1) (v:=Dm[i].2)<|Zb c;rw[Zb o]at b;cases b;refine⟨Dm[i].2,vJ (h.nd g) ?_,e,j⟩;rw[←d];exact YF c
theorem yc.kV (h:yc K H fs Dm):(Dm.map fun kv=>kV kv.1)=(fs.map fun f=>Cd f.1).map V.str:=by
 have:(Dm.map fun kv=>L2.kV kv.1)=(Dm.map (·.1)).map L2.kV:=by rw[ZB];rfl
 rw[this,h.keys,ZB,ZB];rfl
end
theorem Tree.pF (g:xj S):∀{d:Nat} {x y:Str},Tree d S x->y∈met d S x->y∈S.map En.nm
 | 0,_,_,h,_=>absurd h<|fun z=>z
 |d+1,x,y,h,m=>by
  rcases id h with⟨ls,a⟩|⟨rows,a,so,hr⟩
  ·rw[vC g a]at m;rw[Q6.mp m];exact h.mem
  ·rw[j7 g a]at m
   rcases Zh.mp m with z|z
   ·rw[z];exact h.mem
   ·obtain⟨r,b,c⟩:=YG.mp z;exact Tree.pF g (hr r b).2.1 c
section
variable {d n:Nat}{S:Di}{fs gs:Dk}{q q2:List En×Str}
theorem SY {l:Dk}(h:l.Pairwise fun f h=>Cz (Cd f.1)<|Cd h.1):l.Nodup:=ZO.mpr (h.imp fun{a b} (z:Cz (Cd a.1)<|Cd b.1) (q:a=b)=>Hd z<|by rw[q])
theorem vV.perm (a:vV d S fs q)(g:zf n fs):(yw d q.1 q.2).Perm fs :=
 (Jw (SY (a.tree.rise a.ok).1)<|Xk g.nd).mpr a.rd
theorem vV.names (a:vV d S fs q)(x:Str):x∈q.1.map En.nm↔x∈S.map En.nm\/x∈met d q.1 q.2:=by
 obtain⟨T,b,c⟩:=a.new;constructor
 ·intro h;rw[b,Zg]at h
  rcases Zy.mp h with h|h
  ·exact .inl h
  ·obtain⟨t,e,rfl⟩:=Za.mp h;exact .inr<|c t e
 ·rintro(h|h)
  ·rw[b,Zg];exact ZZ _ h
  ·exact a.tree.pF a.ok h
end
theorem Fx (ok:xj S):∀(p:Da) {d:Nat} {x n:Str},Tree d S x->atT S x p=some n->∃e,d=e+p.length/\Tree e S n/\(∀g:Fi,g∈yw e S n↔(p++g.1,g.2)∈yw d S x)/\(p≠[]->yw e S n≠[])
 |[],d,x,n,t,h=>by
  have h:some x=some n:=h;cases h;exact⟨d,rfl,t,fun g=>Iff.rfl,fun z=>absurd rfl z⟩
 |l::p,0,x,n,t,h=>absurd t<|fun z=>z
 |l::p,d+1,x,n,t,h=>by
  have h:p.foldl (wz S) (wz S (some x) l)=some n:=h;cases q:wz S (some x) l with
  |none=>rw[q,Bh]at h;cases h
  |some m =>
   rw[q]at h
   rcases X8 ok x with⟨_,rows,att⟩|⟨_,not⟩
   ·rw[Bf ok att]at q;obtain⟨s,rd⟩:=t.pQ ok att;have r:=kB q;obtain⟨_,C,ne⟩:=s.at_ _ r;obtain⟨e,f,B,A,j⟩:=Fx ok p C h;refine⟨e,by rw[f,Zn];lia,B,fun g=>?_,fun _=>?_⟩
    ·rw[A,rd,uE];constructor
     ·intro v;exact⟨_,r,_,v,rfl⟩
     ·rintro⟨⟨y,n2⟩,w,k,D,c⟩;injection c with c u;injection c with c i;have c:l=y:=c;subst c;have:n2=m:=by
       have o:=(BD s.nd).mpr w;rw[q]at o;exact(Option.some.inj o).symm
      subst this;have i:p++g.1=k.1:=i;have:((p++g.1,g.2):Fi)=k:=Mo i u;rwa[this]
    ·cases p with
     |nil =>
      have h:some m=some n:=h;cases h;intro z;have f:d=e:=f;subst f;exact ne z
     |cons b p=>exact j<|ZR _ _
   ·rw[RQ not]at q;cases q
section
variable {d:Nat}{S:Di}{x:Str}{ls:Da}
theorem BL (ok:xj S):∀(ls:Da) {d:Nat} {x:Str} {L:Da},Tree d S x->(ls,L)∈yw d S x->∃n,atT S x ls=some n/\At S n (.leaf L)
 |[],0,x,L,t,h=>absurd t<|fun z=>z
 |[],d+1,x,L,t,h=>by
  rcases id t with⟨L2,a⟩|⟨rows,a,_⟩
  ·rw[xO ok a]at h;have:=Q6.mp h;cases this;exact⟨x,rfl,a⟩
  ·exfalso;rw[(t.pQ ok a).2,uE]at h;obtain⟨r,_,m,_,e⟩:=h;cases e
 |l::ls,0,x,L,t,h=>absurd t<|fun z=>z
 |l::ls,d+1,x,L,t,h=>by
  rcases id t with⟨L2,a⟩|⟨rows,a,_⟩
  ·exfalso;rw[xO ok a]at h;have:=Q6.mp h;cases this
  ·obtain⟨g,rd⟩:=t.pQ ok a;rw[rd,uE]at h;obtain⟨⟨p,m⟩,f,k,c,e⟩:=h;injection e with b i;injection b with b j;have b:l=p:=b;subst b;have:k=(ls,L):=Mo j.symm i.symm;rw[this]at c;obtain⟨n,q,o⟩:=BL ok ls (g.at_ _ f).2.1 c;refine⟨n,?_,o⟩;show ls.foldl (wz S) (wz S (some x) l)=some n;rwa[Bf ok a,(BD g.nd).mpr f]
end
def CB (fs:Dk)(p:Da):Option Da:=(fs.find? fun f=>decide (f.1=p)).map (·.2)
theorem jI (g:zf n fs){p L:Da}:CB fs p=some L↔(p,L)∈fs:=by
 unfold CB;constructor
 ·intro h;obtain⟨f,c,e⟩:=Zz.mp h;have b:=J1 c;have d:=Ja c;have b:f.1=p:=Zr b;rwa[←b,←e]
 ·intro h;cases q:fs.find? fun f=>decide (f.1=p) with
  |none=>exact absurd (Zf rfl)<|Vt.mp q _ h
  |some f =>
   have b:f.1=p:=Zr<|J1 (p:=fun f:Fi=>decide (f.1=p)) q;rw[g.one (Ja q) h b];rfl
theorem tX:CB fs p=none↔∀L,(p,L)∉fs:=by
 unfold CB;rw[Option.map_eq_none_iff,Vt];exact⟨fun h L z=>h _ z<|Zf rfl,fun h f b z=>h f.2<|by rwa[←(show f.1=p from Zr z)]⟩
section
variable {S:Di}{d:Nat}{x y:Str}{fs gs:Dk}
theorem Sy {L:Da}(ok:xj S)(a:At S n<|.leaf L):Ce S (some n)=false:=by
 unfold Ce;dsimp only;rw[jK ok a]
theorem KN {n:Str}(h:Cc S o=some n):o=some n/\Ce S (some n)=false:=by
 unfold Cc at h
 by_cases q:Ce S o=true
 ·rw[Zt q]at h;cases h
 ·rw[Zs q]at h;subst h;exact⟨rfl,Yd.mpr q⟩
theorem OA (ok:xj S)(t:Tree d S x)(p:Da){n:Str}(h:Cc S (Ch S (some x) p)=some n):∃L,At S n (.leaf L)/\(p,L)∈yw d S x:=by
 obtain⟨f,b⟩:=KN h;obtain⟨e,_,c,rd,_⟩:=Fx ok p t f;cases e with
 |zero=>exact absurd c id
 |succ e =>
  rcases c with⟨ls,a⟩|⟨rows,a,_⟩
  ·refine⟨ls,a,?_⟩;have:=(rd ([],ls)).mp (by rw[xO ok a];exact Q6.mpr rfl);rw[ZG]at this;exact this
  ·rw[(yP ok a).2]at b;cases b
theorem j6 (ok:xj S)(t:Tree d S x){p L:Da}(h:(p,L)∈yw d S x):∃n,Cc S (Ch S (some x) p)=some n/\Ch S (some x) p=some n/\At S n (.leaf L):=by
 obtain⟨n,b,a⟩:=BL ok p t h;refine⟨n,?_,b,a⟩;have b:Ch S (some x) p=some n:=b;unfold Cc;rw[b,Sy ok a];rfl
theorem kO (ok:xj S)(t:Tree d S x)(p:Da)(h:∀L,(p,L)∉yw d S x):Cc S (Ch S (some x) p)=none:=by
 cases q:Cc S (Ch S (some x) p) with
 |none=>rfl
 |some n =>
  obtain⟨L,_,z⟩:=OA ok t p q;exact absurd z<|h L
theorem B1 (ok:xj S)(l:Tree d S x)(ty:Tree d S y)(o:zf k fs)(h:zf m gs)(j:∀f,f∈yw d S x↔f∈fs)(g:∀f,f∈yw d S y↔f∈gs)(p:Da):Cc S (Ch S (some x) p)=Cc S (Ch S (some y) p)↔CB fs p=CB gs p:=by
 cases i:CB fs p with
 |none =>
  rw[kO ok l p<|fun L z=>tX.mp i L<|(j _).mp z];cases c:CB gs p with
  |none =>
   rw[kO ok ty p<|fun L z=>tX.mp c L<|(g _).mp z];exact⟨fun _=>rfl,fun _=>rfl⟩
  |some M =>
   obtain⟨n,e,_⟩:=j6 ok ty<|(g _).mpr<|(jI h).mp c;rw[e];exact⟨fun z=>(nomatch z),fun z=>(nomatch z)⟩
 |some L =>
  obtain⟨n,e,_,a⟩:=j6 ok l<|(j _).mpr<|(jI o).mp i;rw[e];cases c:CB gs p with
  |none =>
   rw[kO ok ty p<|fun L z=>tX.mp c L<|(g _).mp z];exact⟨fun z=>(nomatch z),fun z=>(nomatch z)⟩
  |some M =>
   obtain⟨m,e,_,b⟩:=j6 ok ty<|(g _).mpr<|(jI h).mp c;rw[e];constructor
   ·intro z;cases z;have:=At.thing ok a b;cases this;rfl
   ·intro z;cases z;rw[At.name ok a b]
open Classical in
end
theorem Bt {B p:Da}(c:B≠[])(f:p≠[])(r:∀l∈B,zV l=true)(g:∀l∈p,zV l=true):Uy (Cd B) (Cd p)=true↔∃q,q≠[]/\p=B++q:=by
 constructor
 ·intro h;have h:=sI.mpr h;unfold GJ at h;rw[Za]at h;obtain⟨i,b,e⟩:=h;have j:Uw (Cd p)=p:=kN f fun y o=>x6<|g y o;rw[j]at e b;have b:=YV.mp b;have e:Cd (p.take<|i+1)=Cd B:=e;have ne:p.take (i+1)≠[]:=fun z=>by
   have:=congrArg List.length z;rw[Zx]at this;have t:0<p.length:=Jo.mpr f;have:min (i+1) p.length=0:=this;lia
  have:=vH (d:=0) ne c (fun l hl=>g l<|Ji hl) r e;refine⟨p.drop<|i+1,fun z=>?_,by rw[←this,YJ]⟩;have:=congrArg List.length z;rw[Yz]at this;have:p.length-(i+1)=0:=this;lia
 ·rintro⟨q,n,rfl⟩;rw[CZ c n];exact Hr _ _
open AnS
def UM (ls:Da):Prop:=ls≠[]/\ls.length<=4/\∀l∈ls,zV l=true
theorem zf.lb (g:zf 4 fs){f:Fi}(b:f∈fs):UM f.1:=⟨(g.wK f b).1,(g.wK f b).2.1,(g.wK f b).2.2.1⟩
theorem Wl (b:UM p)(c:UM q)(e:Cd p=Cd q):p=q:=vH (d:=0) b.1 c.1 b.2.2 c.2.2 e
def NT (H H':Hp):Prop:=∀b o,H b=some o->(∀c,o≠.tbl c)->H' b=some o
theorem NT.of (e:zx H H'):NT H H':=fun b o h _=>e b o h
theorem NT.trans (a:NT H H1)(b:NT H1 H2):NT H H2:=fun c o h n=>b c o (a c o h n) n
theorem NT.upd {H:Hp}{P:Ej}{ps c:Array Ei}(h:H P=some (.tbl ps)):NT H (upd H P<|.tbl c):=fun b o e n=>by
 rw[zG fun z=>by rw[z,h]at e;exact n _ (Option.some.inj e).symm];exact e
theorem NT.jx {K:Ca}(e:NT H H')(h:xg K H a xs):xg K H' a xs:=by
 rcases h with(h|⟨o,h⟩)|h
 ·exact .inl (.inl<|e _ _ h fun _ z=>(nomatch z))
 ·exact .inl (.inr ⟨o,e _ _ h fun _ z=>(nomatch z)⟩)
 ·exact .inr h
theorem NT.kh {K:Ca}(e:NT H H')(h:yx K H a xs):yx K H' a xs:=by
 rcases h with(h|⟨o,h⟩)|h
 ·exact .inl (.inl<|e _ _ h fun _ z=>(nomatch z))
 ·exact .inl (.inr ⟨o,e _ _ h fun _ z=>(nomatch z)⟩)
 ·exact .inr h
mutual
theorem NT.dt {K:Ca}(e:NT H H'):∀(d:Er) (v:V),Dt K H d v->Dt K H' d v
 | .none,_,h=>h
 | .bool _,_,h=>h
 | .int _,_,h=>h
 | .str _,_,h=>h
 | .list ds,_,⟨a,xs,h1,h2,h3⟩=>⟨a,xs,h1,e.kh h2,NT.mL e ds xs h3⟩
 | .tuple ds,_,⟨a,xs,h1,h2,h3⟩=>⟨a,xs,h1,e.jx h2,NT.mL e ds xs h3⟩
 | .dict _,_,h=>h
theorem NT.mL {K:Ca}(e:NT H H'):∀(ds:Df) (xs:Dj),zy K H ds xs->zy K H' ds xs
 |[],_,h=>h
 |d::ds,_,⟨x,r,h1,h2,h3⟩=>⟨x,r,h1,NT.dt e d x h2,NT.mL e ds r h3⟩
end
abbrev FF:=Str->Option Da
def oJ (F:FF):Prop:=∀p l,F p=some l->UI l/\∃b,UM b/\p=Cd b
theorem PV (h:UI L):AnJ.nR L:=fun l hl=>(F6<|h.2 l hl).ok
theorem oJ.ok (h:oJ F)(p:Str):bH (F p):=fun l e=>PV (h p l e).1
def UX (F:FF):Prop:=∃p q,(F p).isSome=true/\(F q).isSome=true/\Uy p q=true
def Ff (fs:Dk):FF:=fun s=>(fs.find? fun f=>decide (Cd f.1=s)).map (·.2)
section
variable {K:Ca}{H H':Hp}{Dm:Dl}{fs gs:Dk}{L:Da}{F:FF}
theorem XN {l:Da}(h:Ff fs s=some l):∃f∈fs,Cd f.1=s/\f.2=l:=by
 obtain⟨f,b,e⟩:=Zz.mp h;exact⟨f,Ja b,Zr<|J1 (p:=fun f:Fi=>decide (Cd f.1=s)) b,e⟩
theorem Fr (g:zf 4 fs){p:Da}(d:UM p):Ff fs (Cd p)=CB fs p:=by
 unfold Ff CB
 congr 1
 have:∀{l:Dk},(∀f∈l,UM f.1)->(l.find? fun f=>decide (Cd f.1=Cd p))=l.find? fun f=>decide (f.1=p):=fun{l}=>by
  induction l with
  |nil=>intro _;rfl
  |cons f l ih =>
   intro h;rw[YN,YN,ih fun k c=>h k<|Q9 _ c];have:decide (Cd f.1=Cd p)=decide (f.1=p):=by
    rw[Vj];exact⟨Wl (h f Zc) d,fun e=>by rw[e]⟩
   rw[this]
 exact this fun f b=>g.lb b
theorem Tm (g:zf 4 fs){f:Fi}(b:f∈fs):Ff fs (Cd f.1)=some f.2:=by
 rw[Fr g<|g.lb b];exact(jI g).mpr b
theorem uG (g:zf 4 fs):oJ (Ff fs):=fun p l h=>by
 obtain⟨f,b,c,d⟩:=XN h;rw[←c,←d];exact⟨(g.wK f b).2.2.2,f.1,g.lb b,rfl⟩
theorem Fq (g:zf 4 fs):¬UX (Ff fs):=fun⟨p,q,b,c,o⟩=>by
 obtain⟨l,b⟩:=YD.mp b;obtain⟨m,c⟩:=YD.mp c;obtain⟨f,d,i,_⟩:=XN b;obtain⟨k,h,j,_⟩:=XN c;rw[←i,←j]at o;obtain⟨t,n,e⟩:=(Bt (g.wK f d).1 (g.wK k h).1 (g.wK f d).2.2.1 (g.wK k h).2.2.1).mp o;exact n<|g.pre f d k h t e
theorem qS (h:yc K H fs Dm)(g:zf 4 fs):Files K H Dm (fs.map fun f=>Cd f.1) (Ff fs):=by
 refine⟨⟨by rw[h.keys,ZB];rfl,?_,fun p d=>?_⟩,fun p=>⟨fun d=>?_,fun d=>?_⟩⟩
 ·have:=h.nd g;rw[h.keys,show(fs.map fun f=>(.inr (Cd f.1):Key))=(fs.map fun f=>Cd f.1).map Eu by rw[ZB];rfl]at this;exact ZO.mpr ((Yv.mp<|ZO.mp this).imp fun{a b} n e=>n<|by rw[e])
 ·obtain⟨f,c,rfl⟩:=Za.mp d;obtain⟨v,a,b,_⟩:=h.at g c;refine⟨v,a,?_⟩;show Dt K H (oD<|Ff fs<|Cd f.1) v;rwa[Tm g c]
 ·obtain⟨f,c,rfl⟩:=Za.mp d;rw[Tm g c];rfl
 ·obtain⟨l,hl⟩:=YD.mp d;obtain⟨f,c,e,_⟩:=XN hl;exact Za.mpr ⟨f,c,e⟩
theorem FN (o:Option Da):EH (oD o) (oD o)=true:=by rw[su];exact Zf rfl
end
end An
namespace AnS
open PySem L2 An
section
variable {K:Ca}{H H':Hp}{Dm:Dl}{fs gs:Dk}{L:Da}{F:FF}
theorem Files.path (h:Files K H Dm L F)(ok:oJ F){p:Str}(d:p∈L):∃l ls,F p=some l/\UI l/\UM ls/\p=Cd ls:=by
 obtain⟨l,e⟩:=YD.mp<|(h.mem p).mp d;obtain⟨a,ls,b,c⟩:=ok p l e;exact⟨l,ls,e,a,b,c⟩
theorem Files.eqT {a b:Ej}{d:Dl}(i:H a=some (.dK Dm))(j:H b=some (.dK d))(h:Files K H Dm L F)(k:Files K H d M F)(ok:oJ F):rO K 65 H (.ref a) (.ref b):=by
 refine rO.dic (.inl i) (.inl j) ?_ fun n c=>?_
 ·rw[h.is.len,k.is.len];exact((Jw h.is.nd k.is.nd).mpr fun p=>by rw[h.mem,k.mem]).length_eq
 ·obtain⟨e,l,hd⟩:=h.is.pair c;obtain⟨y,f,g⟩:=k.is.val _<|(k.mem _).mpr<|(h.mem _).mp l;exact⟨y,_,_,by rw[e];exact f,hd,g,wN<|ok.ok _,wN<|ok.ok _,FN _⟩
end
end AnS
namespace An
open PySem L2 AnS
abbrev Rl:=Str×Option Da×Option Da
def Cr (r:Rl):PyData:=.tuple [.str r.1,oD r.2.1,oD r.2.2]
def XD (r:Rl):Rl:=(r.1,r.2.2,r.2.1)
def jy (o:Option Da):Prop:=∀l,o=some l->UI l
theorem jy.ok (h:jy o):bH o:=fun l e=>PV<|h l e
def vU (r:Rl):Prop:=(∃b,UM b/\r.1=Cd b)/\jy r.2.1/\jy r.2.2
theorem vU.turn (h:vU r):vU (XD r):=⟨h.1,h.2.2,h.2.1⟩
theorem K9:∀{p:Da},(∀l∈p,zV l=true)->Es (Cd p)=true
 |[],_=>by decide +kernel
 |[l],h=>by
  rw[yM,qX,←yM];exact(kW<|h l Zc).ok
 |l::m::p,h=>by
  rw[yM,xQ l<|ZR m p];have b:=(yM l).mp (kW<|h l Zc).ok;have d:=(yM _).mp<|K9 (p:=m::p) fun x f=>h x<|Q9 _ f;intro c e
  rcases Zy.mp e with z|z
  ·exact b c z
  ·rcases Zh.mp z with z|z
   ·rw[z];decide
   ·exact d c z
theorem PN (h:UM ls):Es (Cd ls)=true:=K9 h.2.2
def UH (F:FF)(R:List Rl):Bool:=UG (R.map (·.1))&&R.all fun r=>decide (r.2.1≠r.2.2)&&decide (r.2.1=F r.1)
def doneF (F:FF)(R:List Rl):FF:=R.foldl (fun F r q=>if q=r.1 then r.2.2 else F q) F
theorem Kz (F:FF)(R:List Rl)(r:Rl):doneF F (R++[r])=fun q=>if q=r.1 then r.2.2 else doneF F R q:=by
 unfold doneF;rw[Jj];rfl
theorem IF {q:Str}{v:Option Da}:∀{R:List Rl} {F:FF},(∀r∈R,r.1=q->r.2.2=v)->((∃r∈R,r.1=q)\/F q=v)->doneF F R q=v
 |[],F,_,h=>h.elim (fun⟨_,z,_⟩=>nomatch z) id
 |r::R,F,al,h=>by
  show doneF (fun q=>if q=r.1 then r.2.2 else F q) R q=v;refine IF (fun s b=>al s<|Q9 _ b) ?_
  by_cases z:q=r.1
  ·exact .inr (by rw[Zt z];exact al r Zc z.symm)
  ·rcases h with⟨s,b,e⟩|h
   ·rcases Zh.mp b with w|w
    ·exact absurd (by rw[←e,w]) z
    ·exact .inl ⟨s,w,e⟩
   ·exact .inr (by rwa[Zs z])
theorem Il {R:List Rl}:∀{F:FF},oJ F->(∀r∈R,vU r)->oJ (doneF F R):=by
 induction R with
 |nil=>exact fun h _=>h
 |cons r R ih =>
  intro F h b;refine ih (F:=fun q=>if q=r.1 then r.2.2 else F q) (fun p l e=>?_) fun s d=>b s<|Q9 _ d;obtain⟨a,_,c⟩:=b r Zc;have e:(if p=r.1 then r.2.2 else F p)=some l:=e
  by_cases z:p=r.1
  ·rw[Zt z]at e;exact⟨c l e,z▸a⟩
  ·rw[Zs z]at e;exact h p l e
theorem NQ (h:vU r):(Cr r).canLay0=true/\(Cr r).depth<=2:=by
 obtain⟨⟨j,lb,e⟩,d,f⟩:=h;obtain⟨b,g⟩:=BV d.ok;obtain⟨c,i⟩:=BV f.ok;constructor
 ·show(Es r.1&&((oD r.2.1).canLay0&&((oD r.2.2).canLay0&&true)))=true;rw[b,c,e,PN lb];rfl
 ·show max 0 (max (oD r.2.1).depth<|max (oD r.2.2).depth 0)+1<=2;lia
theorem IH (o:Option Da):jX (oD o)=true:=by
 cases o with
 |none=>rfl
 |some L =>
  show y8 (L.map .str)=true
  induction L with
  |nil=>rfl
  |cons l L ih=>exact ih
theorem HQ:∀R:List Rl,y8 (R.map Cr)=true
 |[]=>rfl
 |r::R=>by
  show((true&&(jX (oD r.2.1)&&(jX (oD r.2.2)&&true)))&&y8 (R.map Cr))=true;rw[IH,IH,HQ R];rfl
theorem Fb {R:List Rl}(h:∀r∈R,vU r):ER (.list<|R.map Cr)=true/\EH (.list<|R.map Cr) (.list<|R.map Cr)=true :=
 ⟨AnJ.tE (n:=2) (by decide) fun r b=>NQ<|h r b,kR _<|HQ R⟩
end An
namespace An14
open PySem L2 An
seal L2.PS L2.tG L2.PE L2.PT L2.PW L2.PA L2.PG L2.oM L2.PI L2.oK L2.PC
theorem Bb (d:UM ls)(hl:UI l):BE (.str<|Cd ls)=true/\Xg (AnJ.yd l)=true/\small (.str<|Cd ls)=true/\small (AnJ.yd l)=true:=by
 obtain⟨c,f,b⟩:=d;refine⟨OK c (by lia) b,?_,?_,?_⟩
 ·show(l.map Lv).all U3=true;rw[List.all_map,ZI];exact hl.2
 ·refine Zf ?_;have:=XV b;rw[zm];lia
 ·show(decide ((l.map Lv).length<=1000)&&yF (l.map .str))=true;rw[uK fun x e=>(BW<|hl.2 x e).len,Q5,Zf (show l.length<=1000 by have:=hl.1;lia)];rfl
inductive sW (K:Ca)(b2:Ej)(vs:Dj)(H:Hp)(Q:VK)(E:XK):Prop
 |mk (c:Ej) (Dm:Dl) (L:Da) (F:FF) (h0:vs=[.ref c]) (h1:H c=some (.dK Dm)) (h2:AnS.Files K H Dm L F) (h3:oJ F) (h4:L.length<=100) (h5:(¬UX F->∀H',zx H H'->Q .non H')) (h6:(UX F->∀H',Off [c] H H'->E (.ref b2) none H')):sW K b2 vs H Q E
inductive pK (P:Ek)(w:Eo)(K:Ca)(C:Ej)(vs:Dj)(H:Hp)(Q:VK)(e3:XK):Prop
 |mk (a c:Ej) (fp:Dd) (S:Di) (fs:Dk) (Dm:Dl) (h0:vs=[.ref a,.ref c]) (h1:xr P w K C H a fp S) (h2:xj S) (h3:H c=some (.dK Dm)) (h4:c∉fp) (h5:yc K H fs Dm) (h6:zf 4 fs) (h7:fs.length<=63) (h8:S.length+1+wt fs<=2000) (h9:∀H',Off fp H H'->xr P w K C H' a fp (Uu 4 S fs).1->Q (.str (Uu 4 S fs).2) H'):pK P w K C vs H Q e3
section
variable {P:Ek}{w:Eo}{K:Ca}{mg:Str->Dc}{base:EB}{t1 t2 t3 t4 t5 t6 t7:Tok}{aL aC aN aT aA b1 b2:Ej}(T:Txt P w K mg t1 t2 t3 t4 t5 t6 t7 aL aC aN aT aA b1 b2)
theorem jR {H:Hp}{c:Ej}{f:Obj}{Dm:Dl}(d:H c=some (.dK Dm))(e:zx (upd H c<|.frz f<|.dK Dm) H2):zx H (upd H2 c<|.dK Dm):=fun b o h=>by
 by_cases z:b=c
 ·rw[z,zC];rw[z,d]at h;exact h
 ·rw[zG z];exact e _ _ (by rwa[zG z])
namespace AI
theorem ok0 (F:wX0 K "put_files" st f fd):yu P w K mg base Ck 8 f fd ["shelf","files"] (Ie P w K aC 0) :=
 F.ok sc (fun _ _ _ _ _ _ _ _ _ h=>EL h) (fun _ _ _ _ h=>EL h)
include T in
theorem ok (F:wX0 K "put_files" st f fd)(d:sZ P w K mg base aC 7 "put" ["self","thing"]<|tD P w K aC)(e:wV P w K mg base 8 "put_rows" ["shelf","rows"]<|ut P w K aC)(c:mg "put_files"=some (.ref f))(b:wU K fd ["shelf","files"] []):yu P w K mg base Ck 12 f fd ["shelf","files"] (Ie P w K aC 4):=by
 have g:=wV.mk' F (ok0 (P:=P) (w:=w) (mg:=mg) (base:=base) (aC:=aC) F) c b;have h:=wV.mk' F (step F T d e (by decide) (by decide) g) c b;have i:=wV.mk' F (step F T d e (by decide) (by decide) h) c b;have j:=wV.mk' F (step F T d e (by decide) (by decide) i) c b;exact step F T d e (by decide) (by decide) j
end AI
namespace AJ
abbrev st:Stmt:=top 37
theorem sc:zu ["files","path","lines"] ["files"] (zF st):=Cn
include T in
theorem ok (F:wX0 K "need_files" st f fd)(QR:wV P w K mg base 4 "is_file" ["path","lines"]<|pL K)(QS:wV P w K mg base 1 "folders_of" ["path"]<|p8 K):yu P w K mg base (CC P w) 5 f fd ["files"] (sW K b2):=by
 refine F.qi sc fun _ _ _ _ H vs Q E hr h=>?_;obtain⟨c,d,L,Y,rfl,I,t,ok,fl,kQ,kE⟩:=h;refine⟨_,(zD (yC (qF<|zZ (K:=K)<|zO (xf.or (z6 (K:=K))<|jG (K:=K)) (by rfl) T.isinstance ZJ<|zA (pv 0)<|zA (xI (v:=.ty "dict") rfl T.dict YA rfl) zB) (zE<|xR rfl yV rfl T.tR T.tH<|zA zq zB) zS)<|zD (XZ<|yU Lz rfl (IO<|U9<|pv 0) (jT rfl<|zX (zL (i:=1) sc.nd rfl<|EJ rfl)<|zX (zL (i:=2) sc.nd rfl<|EJ rfl) xX)<|zE<|yC (qF<|zZ (K:=K)<|zI QR hr.m<|zA (pv 1)<|zA (pv 2) zB) (zE<|xR rfl yV rfl T.tR T.tH<|zA zq zB) zS)<|zE<|XZ<|yU Lz rfl (XR<|U9<|pv 0) (zL (i:=1) sc.nd rfl<|EJ rfl)<|zE<|yC (zZ (K:=K)<|zO (O4 rfl) (by rfl) T.any PyProof.Rows.boot_any<|zA (xN (sc:=zF st) (N:=["files","path","lines"]) (N':=["folder","files"]) (src:=[none,some 0]) .a rfl rfl rfl (xJ<|zI QS hr.m<|zA (pv 1) zB) (fun _ _ _ _=>(zL (i:=0) (show(["folder","files"]:Da).Nodup by decide +kernel) rfl (EJ rfl))) (fun _ _ _ _=>xS) (fun _ _ _ _=>(yT (Rj hr.units) (pv 0) (pv 1)<|by with_unfolding_all rfl))) zB) (zE<|xR rfl yV rfl T.tR T.tH<|zA zq zB) zS),?_⟩
 refine⟨_,rfl,.inr ⟨c,"dict",d,_,rfl,.inl I,T.kit _ (by simp[kinds]) _<|by simp[kinds],_,rfl,Ut ?_⟩⟩;refine⟨_,rfl,c,d,rfl,I,fun r=>?_⟩;have kl:d.length=L.length:=t.is.len;have g:upd H c (.frz r<|.dK d) c=some (.frz r<|.dK d):=zC;have O:=t.mono<|AnS.DS.upd (o:=.frz r<|.dK d) I;refine⟨c,r,d,rfl,g,Bu (fun i x j=>∃B C,x=[some<|.ref c,B,C]/\zx (upd H c<|.frz r<|.dK d) j) ⟨none,none,rfl,zx.refl _⟩ (fun i x j R ⟨_,_,_,s⟩=>s _ _ g) ?_ ?_⟩
 ·rintro i kk v T0 x j R ⟨B,C,rfl,s⟩ nT;obtain⟨M,U,dv⟩:=(O.same s).is.pair<|Zm R;obtain⟨l,n,eF,ln,lb,ep⟩:=t.path ok U;have M:kk=.inr (Cd n):=by rwa[←ep]
  rw[eF]at dv;subst M;obtain⟨g1,g2,g3,g4⟩:=Bb lb ln;have uT:=zz (o:=.tup [kV<|.inr<|Cd n,v]) nT;refine⟨T0,_,rfl,xg.of zC,rfl,_,_,rfl,_,_,rfl,rfl,?_⟩;refine⟨_,rfl,_,rfl,.str<|Cd n,AnJ.yd l,_,_,rfl,rfl,Dt.dw<|Dt.same uT _ _ dv,g3,g4,fun X s3=>⟨_,rfl,?_⟩⟩;rw[g1,g2];exact Ut ⟨_,_,rfl,(s.trans uT).trans s3⟩
 ·rintro x j ⟨B,C,rfl,s⟩;refine⟨c,r,d,s _ _ g,fun o u z=>?_,?_⟩
  ·have z:H c=some (.frz o u):=z;rw[I]at z;cases z
  have e3:=jR I s;have D:upd j c (.dK d) c=some (.dK d):=zC;generalize upd j c (.dK d)=X at e3 D ⊢;clear s O g;refine⟨_,rfl,c,d,rfl,D,fun r=>?_⟩;have g:upd X c (.frz r<|.dK d) c=some (.frz r<|.dK d):=zC;have ab:∀{j:Hp},zx (upd X c<|.frz r<|.dK d) j->Off [c] H j:=fun{j} e b o nb eb=>e _ _ (by rw[zG fun z=>nb (by rw[z];exact Q6.mpr rfl)];exact e3 _ _ eb);refine⟨c,r,d,rfl,g,uY (fun i x j=>∃B C,x=[some<|.ref c,B,C]/\zx (upd X c<|.frz r<|.dK d) j/\∀q∈L.take i,∀p∈L,Uy p q=false) ⟨B,C,rfl,zx.refl _,fun q hq=>(nomatch hq)⟩ (fun i x j R ⟨_,_,_,s,_⟩=>s _ _ g) ?_ ?_⟩
  ·rintro i kk v x H4 R ⟨B,C,rfl,J,al⟩;obtain⟨eL,M⟩:=t.is.at R;have U:=Zm eL;obtain⟨l,n,eF,ln,lb,ep⟩:=t.path ok U;have M:kk=.inr (Cd n):=by rwa[←ep]
   rw[ep]at eL U eF;subst M;obtain⟨_,_,g3,_⟩:=Bb lb ln;have xl:(Cd n).length<=1000:=Zr g3;refine⟨_,rfl,Cd n,rfl,xl,fun lp H5 s5 S=>?_⟩;have ai:(GJ<|Cd n).length<=1001:=by
    unfold GJ;rw[Q5,Z8];have:=IP<|Cd n;lia
   refine⟨lp,rfl,⟨_,S⟩,xK (K:=K) (a:=lp) (xs:=(GJ<|Cd n).map V.str) (fun i ys A Z=>∃o,A=[o,some<|.ref c]/\zx H5 Z/\ys=(((GJ<|Cd n).take i).map fun z=>decide (z∈L)).map V.bl) ⟨none,rfl,zx.refl _,rfl⟩ (zr (by rw[Q5];lia)) ?_ ?_ ?_⟩
   ·rintro i ys A Z aj ⟨o,rfl,G,rfl⟩;refine⟨G.seq S,?_⟩;rw[Q5,Q5,Zx];lia
   ·rintro i y ys A Z hy ⟨o,rfl,G,rfl⟩;rw[Zj]at hy;obtain⟨z,hz,rfl⟩:=Zz.mp hy;refine⟨_,rfl,_,rfl,c,_,rfl,So (k:=.inr z)<|((J.trans s5).trans G) _ _ g,_,rfl,G,?_⟩;rw[t.is.isSome,yo hz,Zg,Zg];rfl
   ·rintro ys A Z ⟨o,rfl,G,rfl⟩ p np;refine⟨p,_,rfl,yx.of zC,_,rfl,?_⟩;rw[Q5,ZF,List.any_map];have t6:=((J.trans s5).trans G).trans<|zz (o:=.lst<|((GJ<|Cd n).map fun z=>decide (z∈L)).map V.bl) np;cases q:(GJ<|Cd n).any (id∘fun z=>decide (z∈L)) with
    |true =>
     obtain⟨z,hz,q⟩:=Yc.mp q;have q:z∈L:=Zr q;exact Uv ⟨Ur 1,kE ⟨z,_,(t.mem z).mp q,(t.mem _).mp U,sI.mp hz⟩ _<|ab t6⟩
    |false =>
     refine Ut ⟨_,_,rfl,t6,?_⟩;rw[yo eL];refine xE al fun p hp=>?_;rw[Yd];exact fun w=>J6.mp q p (sI.mpr w)<|Zf hp
  ·rintro x H4 ⟨B,C,rfl,J,al⟩;rw[kl,ZF]at al;refine⟨c,r,d,J _ _ g,fun o u z=>?_,?_⟩
   ·have z:H c=some (.frz o u):=z;rw[I]at z;cases z
   refine kQ (fun⟨p,q,h1,h2,w⟩=>?_) _<|e3.trans<|jR D J;rw[al q ((t.mem q).mpr h2) p<|(t.mem p).mpr h1]at w;cases w
end AJ
namespace AK
abbrev st:Stmt:=top 43
theorem sc:zu ["shelf","files"] ["shelf","files"] (zF st):=Cn
include T in
theorem ok (F:wX0 K "keep_files" st f fd)(t:uh P w K mg base 5 "need_files" ["files"]<|sW K b2)(s:wV P w K mg base 12 "put_files" ["shelf","files"]<|Ie P w K aC 4):yu P w K mg base (CC P w) 13 f fd ["shelf","files"] (pK P w K aC):=by
 refine F.qi sc fun _ _ _ _ H D Q E q h=>?_;obtain⟨a,c,v,S,fs,l,rfl,A,ok,p,y,n,g,u,B,k⟩:=h;refine⟨_,(zD (yD<|yO t q.m yK<|zA (pv 1) zB)<|zE<|zM<|zI s q.m<|zA (pv 0)<|zA (pv 1) zB),?_⟩
 refine⟨_,rfl,c,l,_,_,rfl,p,qS n g,uG g,by rw[Q5];lia,fun _ C d=>?_,fun z=>absurd z<|Fq g⟩;exact⟨_,rfl,_,rfl,a,c,v,S,fs,l,rfl,A.same d,ok,d _ _ p,y,n.same d,g,u,B,fun r i j=>k r (fun b o x e=>i b o x<|d _ _ e) j⟩
end AK
inductive oh (P:Ek)(w:Eo)(K:Ca)(C:Ej)(vs:Dj)(H:Hp)(Q:VK)(e3:XK):Prop
 |mk (a:Ej) (fp:Dd) (S:Di) (d:Er) (v:V) (f:Str) (h0:vs=[.ref a,v,.str f]) (h1:xr P w K C H a fp S) (h2:(∀e∈S,BF e)) (h3:Dw K H d v) (h4:Q (.bl<|Uz S d f) H):oh P w K C vs H Q e3
inductive ud (P:Ek)(w:Eo)(K:Ca)(C aN:Ej)(vs:Dj)(H:Hp)(Q:VK)(E:XK):Prop
 |mk (a:Ej) (fp:Dd) (S:Di) (d:Er) (v:V) (h0:vs=[.ref a,v]) (h1:xr P w K C H a fp S) (h2:(∀e∈S,BF e)) (h3:Dw K H d v) (h4:(Uz S d "tree"=true->Q .non H)) (h5:(Uz S d "tree"=false->E (.ref aN) none H)):ud P w K C aN vs H Q E
inductive oR (P:Ek)(w:Eo)(K:Ca)(C aN:Ej)(vs:Dj)(H:Hp)(Q:VK)(E:XK):Prop
 |mk (a:Ej) (fp:Dd) (S:Di) (x:Str) (h0:vs=[.ref a,.str x]) (h1:xr P w K C H a fp S) (h2:xj S) (h3:((∃rows,At S x (.tree rows)/\Tree 5 S x/\(yw 5 S x).length<=63/\(∀f∈yw 5 S x,UI f.2)/\∀e Dm H',zx H H'->H e=none->H' e=some (.dK Dm)->yc K H' (yw 5 S x) Dm->Q (.ref e) H') \/ (Uz S (.str x) "tree"=false/\E (.ref aN) none H))):oR P w K C aN vs H Q E
theorem S9 {X:Dd}{xs:Dj}(n:∀b∈X,∀xs,¬Rd H b (.tup xs))(o:Off X H H')(h:xg K H c xs):xg K H' c xs:=by
 rcases h with h|h
 ·have ne:c∉X:=fun z=>n c z xs h
  rcases h with h|⟨u,h⟩
  ·exact .inl (.inl<|o _ _ ne h)
  ·exact .inl (.inr ⟨u,o _ _ ne h⟩)
 ·exact .inr h
theorem Kd (g:xj S){x:Str}{t:Th}(h:At S x t){e:En}(c:e∈S)(b:(Lv x)=.str e.nm):e.d=t.dat:=by
 obtain⟨f,i,fn,j⟩:=h;have:f.nm=e.nm:=by rw[fn];injection b
 rwa[←Re g.good.nn i c this]
theorem Tf {rows:Dg}{t:Ej}(h:Dt K H (Th.tree rows).dat<|.ref t):∃c rs,xg K H t [V.str "tree",V.ref c]/\xg K H c rs/\zy K H (rows.map zb) rs:=by
 obtain⟨p,q,e,i,x,r,f,b,y,o,g,j,d⟩:=h;cases e;obtain⟨c,rs,rfl,l,n⟩:=j;have b:x=V.str "tree":=b;have d:o=[]:=d;subst f g b d;exact⟨c,rs,i,l,n⟩
theorem Sx {ls:Da}{t:Ej}(h:Dt K H (Th.leaf ls).dat<|.ref t):∃v,xg K H t [V.str "leaf",v]/\Dt K H (AnJ.yd ls) v:=by
 obtain⟨l,n,d,g,x,r,e,b,y,j,f,i,c⟩:=h;cases d;have b:x=V.str "leaf":=b;have c:j=[]:=c;subst e f b c;exact⟨y,g,i⟩
theorem WK {rows:Dg}(h:zy K H (rows.map zb) rs){i:Nat}{v:V}(e:rs[i]?=some v):∃r c,rows[i]?=some r/\v=.ref c/\xg K H c [V.str r.1,V.str r.2]:=by
 obtain⟨d,hd,p⟩:=h.get e;rw[Zj]at hd;obtain⟨r,o,rfl⟩:=Zz.mp hd;obtain⟨c,t,rfl,n,x,s,j,b,y,q,l,f,g⟩:=p;have b:x=V.str r.1:=b;have f:y=V.str r.2:=f;have g:q=[]:=g;subst j l b f g;exact⟨r,c,o,rfl,n⟩
theorem Pr (h:Uz S d f=true):∃x,d=.str x/\yQ S x [f]=true/\x∈S.map En.nm:=by
 cases d with
 |str x =>
  have h:yQ S x [f]=true:=h;refine⟨x,rfl,h,?_⟩
  rcases Classical.em (x∈S.map En.nm) with z|z
  ·exact z
  ·rw[FU z]at h;cases h
 |none=>cases h
 |bool b=>cases h
 |int i=>cases h
 |list ds=>cases h
 |tuple ds=>cases h
 |dict Dm=>cases h
namespace AL
abbrev st:Stmt:=top 39
theorem sc:zu ["store","name","form"] ["store","name","form"] (zF st):=Cn
include T in
theorem ok (F:wX0 K "names_form" st f fd)(A:Met P w K mg base aC 2 "has" ["self","name"]<|pC P w K aC)(y:sZ P w K mg base aC 4 "thing" ["self","name"]<|vY P w K aC aN):yu P w K mg base Ck 5 f fd ["store","name","form"] (oh P w K aC):=by
 refine F.ok sc fun _ _ _ _ H vs Q E s h=>?_;obtain⟨a,n,S,d,v,g,rfl,b,th,hd,k⟩:=h;refine⟨_,(zE<|zM<|xU (XL (pv 0) T.cls A s.m<|zA (pv 1) zB)<|qP<|yT qJ (zR (yt:Cg _<|wZ K) (qB (pv 0) T.cls y s.m yA<|zA (pv 1) zB) zH) (pv 2)<|zW _),?_⟩;obtain⟨G,i,M,N,O,ts,nx,D,nd,o,R,U,X,Y,Z,h7,h8,h9⟩:=id b;refine⟨_,rfl,a,i,_,rfl,o,rfl,_,rfl,a,n,S,d,v,rfl,b,hd,IM S d,rfl,?_⟩;cases q:IM S d with
 |false =>
  refine Ut ?_;have:Uz S d g=false:=by
   cases e:Uz S d g with
   |false=>rfl
   |true =>
    obtain⟨x,rfl,_,J⟩:=Pr e;rw[show IM S (.str x)=decide (x∈S.map En.nm) from rfl,Zf J]at q;cases q
  rw[this]at k;exact k
 |true =>
  refine Uv ⟨_,rfl,a,i,_,rfl,o,rfl,_,rfl,a,n,S,d,v,rfl,b,hd,fun e p C t u=>?_,fun z=>by rw[q]at z;cases z⟩;obtain⟨L,l,_⟩:=th e p;rw[l]at u;obtain⟨c,r,B,I⟩:=uW u;cases B;refine⟨t,_,_,_,rfl,rfl,I,xL (j:=0) rfl,_,rfl,rfl,?_⟩;subst C;have:Uz S (.str e.nm) g=decide (V.str L.word=V.str g):=by
   show yQ S e.nm [g]=_;rw[Nm G p,uL l,Yq,ZK,ZK,Q6,V.str.injEq]
  rw[this]at k;exact k
end AL
namespace AM
abbrev st:Stmt:=top 40
theorem sc:zu ["store","root"] ["store","root"] (zF st):=Cn
include T in
theorem ok (F:wX0 K "need_root" st f fd)(b:wV P w K mg base 5 "names_form" ["store","name","form"]<|oh P w K aC):yu P w K mg base (CC P w) 6 f fd ["store","root"] (ud P w K aC aN):=by
 refine F.qi sc fun _ _ _ _ H l Q E e h=>?_;obtain⟨a,c,S,d,v,rfl,j,th,hd,g,i⟩:=h;refine⟨_,(zE<|yC (qF<|zZ (K:=K)<|zI b e.m<|zA (pv 0)<|zA (pv 1)<|zA zq zB) (zE<|xR rfl yV rfl T.pJ T.rB<|zA zq zB) zS),?_⟩
 refine⟨_,rfl,_,rfl,a,c,S,d,v,"tree",rfl,j,th,hd,_,rfl,?_⟩;cases q:Uz S d "tree" with
 |false=>exact Pz ⟨Ur 1,i q⟩
 |true=>exact FY<|g q
end AM
end
end An14
namespace AxS
open PySem PySem.Spec PyProof.Rows
section
variable {prog:Ek}{w:Eo}{A:EF}{E:Ei->Dh}{s:Em}
theorem GH:typeLookup (.type "tuple") "keys"=Lo none:=by rw[typeLookup_type,VL];kernel_rfl
theorem Rf {a:Ej}{xs:Array Ei}{n:Nat}{l:Array Dc}{Q:Dc->Dh}(j:s.heap.get? a=some { cls:=.type "tuple",dict:=none,data:=.seq xs n,slots:=l })(p:A.handled=none)
  (h:∀h' tk,(∀b o,s.heap.get? b=some o->h'.get? b=some o)->Q none { s with heap:=h',toks:=tk }):El (Ep prog w) A (getAttr? (.ref a) "keys") Q E s:=by
 obtain⟨q,g,d,tk,os⟩:=s;have i:∀c,(⟨q,g,d,c,os⟩:Em).TypeIs (.ref a) "tuple":=fun _=>⟨_,j,rfl⟩;have r:=sub_AttributeError;have t:=F.slot_tuple_getattribute.lookup;have u:=F.slot_tuple_getattribute.bind<|.ref a;have f5:=am_tuple_getattr_none;unfold getAttr? getAttrBy? getAttrBy
 repeat (any_goals (first|assumption|exact i _|((with_reducible show El _ _ (call (Value.builtin "tuple.__getattribute__") _ _) _ _ _);refine VS F.slot_tuple_getattribute (i _) am_entry_tuple_getattribute (F.args_tuple_getattribute_2 _ _) (meets_getattribute_miss_tuple a xs n l "keys" _ GH<|by decide +kernel) ⟨j,p,fun h' c e f=>?_⟩)|wp_step))
 obtain⟨x,y,v⟩:=f.there;show El _ _ (getattributeRaised _ _ _ _ _ _ _) _ _ _;unfold getattributeRaised
 repeat (any_goals (first|assumption|wp_step))
 exact h h' c f.of.keeps
theorem Hu {d I l:Ej}{Dn:Array Ei}{Dm:List (L2.Key×Ei)}{R:Result->Dh}{res:Ei}(hh:A.in1.handled=none)(L:l≠I)(G:d≠I)(X:d≠l)(hz:Dm.length<=sizeLine) :
  ∀(m i:Nat) (s:Em),Dn.size-i=m->i<=Dn.size->(s.heap.IsTupleIter I l i/\s.heap.IsTuple l Dn)->s.heap.DictOf (L2.za prog w) d (merged []<|Dm.take i)->tZ prog w s.heap Dn Dm ->
   (∀h' tk,h'.DictOf (L2.za prog w) d (merged [] Dm)->(∀b o,b≠d->b≠I->s.heap.get? b=some o->h'.get? b=some o)->R (.ok<|.ret res) { s with heap:=h',toks:=tk }) ->
   L1 (Ep prog w) A (.builtin "dict.update.loop" ⟨[.ref d,.ref I,ET i,res],[]⟩) R s:=by
 have W:=Walks.tuple (prog:=prog) (w:=w) hh I l L Dn;intro m
 induction m with
 |zero =>
  intro i s hm hi st r F k;have Y:i=Dn.size:=by lia
  subst Y;refine YB XC ?_;rw[E1 qW _];show El _ A.in1 (L9 (.ref I)>>=_) _ _ s;refine Q4<|W.done s _ _ st fun h' tk kp=>?_;rw[YR (by rw[F.1];exact Zd _)]at r;refine Q4 (Q7<|Q7<|k h' tk (r.at fun o e=>kp d o (by simp[G]) e) fun b o t q e=>kp b o (by simp[q]) e)
 |succ m ih =>
  intro i s hm hi st r F k;have C:i<Dn.size:=by lia
  refine YB XC ?_;rw[E1 qW _];show El _ A.in1 (L9 (.ref I)>>=_) _ _ s;refine Q4<|W.item i s _ _ C st fun v h' tk hv E kp=>?_;obtain⟨T,k1,key,x,rfl,K,S,hx⟩:=F.2 i v hv;have TI:T≠I:=fun z=>by
   obtain⟨o,n,j,_⟩:=K;obtain⟨N,g,f,_⟩:=st.1;rw[z,g]at n;cases n;rw[f]at j;exact absurd j (by decide)
  have Td:T≠d:=fun z=>by
   obtain⟨o,n,j,_⟩:=K;obtain⟨N,_,_,g,f,_⟩:=r;rw[z,g]at n;cases n;rw[f.1]at j;exact absurd j (by decide)
  have H:h'.DictOf (L2.za prog w) d (merged []<|Dm.take i):=r.at fun o e=>kp d o (by simp[G]) e;obtain⟨⟨oc,od,O,P⟩,n,j,n1,B⟩:=id K;have c:h'.get? T=some ⟨oc,od,O,P⟩:=kp T _ (by simp[TI]) n;simp only at j B;subst j B;dsimp only;refine Q4<|ZW<|Q4<|wpAny_tryCatch ?_;have ty:LQ { s with heap:=h',toks:=tk } (.ref T) "tuple":=⟨_,c,rfl⟩;unfold Builtin.Dict.pairItems;refine Q4<|JS ty ?_;rw[Zt<|by decide];refine Q4 ?_;unfold seqItems?;dsimp only;refine Q4<|wpAny_load (s:={ s with heap:=h',toks:=tk }) c<|Q7<|Q7 ?_;dsimp only[Option.getD];refine ZW ?_;unfold dictSet;refine ZW<|Q4<|(L2.za prog w).pyHash S ?_;have ml:(merged ([]:List<|L2.Key×Ei)<|Dm.take i).length<=sizeLine:=by
   have:=merged_length_le ([]:List<|L2.Key×Ei)<|Dm.take i;rw[Zx]at this;simp at this;lia
  refine wpAny_dictSetHashed_pairs (hsz:=ml) S H fun Z u p=>?_;rw[←merged_take_succ [] Dm i (k1,x) hx]at u;refine Q7 ⟨Je qW _,?_⟩;rw[show((i:Nat):Int)+1=((i+1:Nat):Int) by push_cast;rfl];have D:∀b o,b≠d->b≠I->s.heap.get? b=some o->Z.get? b=some o:=fun b o t q e=>(p.2 b t).trans (kp b o (by simp[q]) e);refine ih (i+1) _ (by lia) C ⟨?_,?_⟩ u (F.at fun U o ⟨xs,y⟩ e=>D U o (fun z=>?_) (fun z=>?_) e) fun h3 Q J M=>k h3 Q J fun b o t q e=>M b o t q<|D b o t q e
  ·exact E.1.at fun o e=>(p.2 I G.symm).trans e
  ·exact E.2.at fun o e=>(p.2 l X.symm).trans e
  ·obtain⟨o1,c,h,_⟩:=y;obtain⟨N,_,_,g,f,_⟩:=r;rw[z,g]at c;cases c;rw[f.1]at h;exact absurd h (by decide)
  ·obtain⟨o1,c,h,_⟩:=y;obtain⟨N,g,f,_⟩:=st.1;rw[z,g]at c;cases c;rw[f]at h;exact absurd h (by decide)
theorem GB {l:Ej}{Dn:Array Ei}{n:Nat}{Dm:List (L2.Key×Ei)}{Q:Ei->Dh}(B:A.handled=none){C:Array Dc}(hl:s.heap.get? l=some { cls:=.type "tuple",dict:=none,data:=.seq Dn n,slots:=C })(G:tZ prog w s.heap Dn Dm)(hz:Dm.length<=sizeLine)
  (h:∀h' tk,h'.DictOf (L2.za prog w) s.heap.objs.size (merged [] Dm)->(∀b o,s.heap.get? b=some o->h'.get? b=some o)->Q (.ref s.heap.objs.size) { s with heap:=h',toks:=tk }):El (Ep prog w) A (call (.type "dict") [.ref l]) Q E s:=by
 refine callType_codes (Q₁:=fun obj g=>obj=.ref s.heap.objs.size/\g={ s with heap:=s.heap.push { cls:=.type "dict",data:=.dict #[] } }) F.kt_called_dict (F.kt_typeCall_dict_1 _) F.entry_dict_init (kt_code_dict_new _ ⟨rfl,rfl⟩) ?_;rintro obj g ⟨rfl,rfl⟩;have c:(s.heap.push { cls:=.type "dict",data:=.dict #[] }).DictOf (L2.za prog w) s.heap.objs.size []:=Heap.DictOf.new s.heap;have t:l<s.heap.objs.size:=Zl hl;have i:(s.heap.push { cls:=.type "dict",data:=.dict #[] }).get? l=some { cls:=.type "tuple",dict:=none,data:=.seq Dn n,slots:=C }:=Q8 _ hl;refine⟨c.typeIs,F.args_dict_init_2 _ _,?_⟩;unfold Builtin.«dict.__init__»;refine Q4 ?_;unfold Builtin.Dict.selfAndRest;refine Q4<|wpAny_notOrdered_dict c.typeIs ?_;show El _ _ (Lo (s.heap.objs.size,[Ez l])) _ _ _;refine Q7 ?_;show El _ _ (Builtin.Dict.updateFrom "dict.__init__" s.heap.objs.size (.ref l) [] .none) _ _ _;unfold Builtin.Dict.updateFrom;have z:LQ { s with heap:=s.heap.push { cls:=.type "dict",data:=.dict #[] } } (.ref l) "tuple":=⟨_,i,rfl⟩;refine Q4<|JS z ?_;rw[Zt<|by decide];refine Q4 (Rf (s:={ s with heap:=s.heap.push { cls:=.type "dict",data:=.dict #[] } }) i (by simp[B]) fun p x f=>?_);simp only[Option.isNone_none,↓reduceIte];refine Q4<|JH ?_;have q:p.IsTuple l Dn:=⟨_,f l _ i,rfl,n,rfl⟩;have j:s.heap.objs.size<p.objs.size:=by
  obtain⟨o,_,_,e,_⟩:=c;exact Zl<|f _ _ e
 refine Q4<|Uc (s:={ s with heap:=p,toks:=x }) q ?_;refine Q7 ⟨Je qW _,?_⟩;have r:∀b o,s.heap.get? b=some o->(p.push { cls:=.type "tuple_iterator",data:=.fields #[.ref l,.int 0 0] }).get? b=some o:=fun b o e=>Q8 _<|f b o<|Q8 _ e;refine Hu (A:=A.in1) (d:=s.heap.objs.size) (I:=p.objs.size) (l:=l) (Dn:=Dn) (Dm:=Dm) (by simp[B]) (Zu<|Nat.lt_trans t j) (Zu j) (YO t) hz (Dn.size-0) 0 _ (by lia) (ZD _) ⟨⟨_,Zk _ rfl,rfl,rfl⟩,q.push _⟩ ?_ (G.at fun T o _ e=>r T o e) fun D y u v=>?_
 ·rw[List.take_zero];exact(c.at fun o e=>f _ o e).push _
 ·refine⟨rfl,h D y u fun b o e=>v b o (Zu<|Zl e) (Zu<|Nat.lt_trans (Zl e) j)<|r b o e⟩
end
end AxS
namespace L2
open PySem PySem.Spec PyProof.Rows AxS
section
variable {X:Cx}{K:Ca}
def WE (K:Ca):Dj->Hp->VK->Prop:=fun d H Q=>∃(a:Ej) (c:Dj) (b:Dl),d=[.ref a]/\xg K H a c/\Kk K H c b/\∀l,H l=none->Q (.ref l) (upd H l<|.dK<|putAll [] b)
theorem Kr (t:X.calm=true)(l:X.K=K:=by rfl):xf X (.type "dict") (WE K):=by
 subst l;intro F s R H P N Q I r h;obtain⟨a,vs,Dm,rfl,p,pv,q⟩:=h;obtain⟨u,rfl,B⟩:=wW r;cases B;obtain⟨x,g,⟨⟨L,M,y,A⟩,e,b,n,c,d⟩,z⟩:=I.oA p;simp only at b c d;subst b c d;obtain⟨D,f,len,all⟩:=Gp I g pv;have O:=g.length;have J:Dm.length=D.length:=Paired.length f;refine GB (I.ok.hd t) e ⟨by rw[Zp];exact len,fun i v w=>all i v<|by simpa using w⟩ (by lia) fun G C j kp=>?_;have E:=j8 Dm [];exact⟨.ref s.heap.objs.size,_,I.laid (o:=.dK<|putAll [] Dm) (t':=C) kp (Zd _)<|B0 (by rw[JC]at E;lia) (YH.mpr<|EK<|Zu I.big) (KV.putAll (Dm:=[]) (vs:=[]) .nil f) j,rfl,q _<|I.hok.fresh<|Zd _⟩
end
end L2
namespace An14
open PySem L2 An
seal L2.PS L2.tG L2.PE L2.PT L2.PW L2.PA L2.PG L2.oM L2.PI L2.oK L2.PC
inductive vh (P:Ek)(w:Eo)(K:Ca)(C:Ej)(vs:Dj)(H:Hp)(Q:VK)(e3:XK):Prop
 |mk (a:Ej) (fp:Dd) (S:Di) (x:Str) (rows:Dg) (h0:vs=[.ref a,.str x]) (h1:xr P w K C H a fp S) (h2:xj S) (h3:At S x<|.tree rows) (h4:(rows.map (·.1)).Nodup) (h5:∀l,H l=none->Q (.ref l) (upd H l<|.dK<|Cp rows)):vh P w K C vs H Q e3
inductive mY (P:Ek)(w:Eo)(K:Ca)(C aN:Ej)(vs:Dj)(H:Hp)(Q:VK)(E:XK):Prop
 |mk (a:Ej) (fp:Dd) (S:Di) (x p:Str) (h0:vs=[.ref a,.str x,.str p]) (h1:xr P w K C H a fp S) (h2:xj S) (h3:Hw p=true) (h4:p.length<=1000) (h5:((∃d rows,At S x (.tree rows)/\Tree d S x/\∀H',zx H H'->Q (oV<|atT S x<|Uw p) H')\/(Uz S (.str x) "tree"=false/\E (.ref aN) none H))):mY P w K C aN vs H Q E
section
variable {P:Ek}{w:Eo}{K:Ca}{mg:Str->Dc}{base:EB}{t1 t2 t3 t4 t5 t6 t7:Tok}{aL aC aN aT aA b1 b2:Ej}(T:Txt P w K mg t1 t2 t3 t4 t5 t6 t7 aL aC aN aT aA b1 b2)
theorem ON {rows:Dg}(h:zy K H (rows.map zb) rs):Kk K H rs (Cp rows):=by
 have f:rs.length=rows.length:=by rw[zy.length h,Q5]
 refine⟨by unfold Cp;rw[Q5];exact f,fun i x e=>?_⟩;obtain⟨r,c,d,rfl,b⟩:=WK h e;exact⟨c,.inr r.1,.str r.2,rfl,b,by unfold Cp;rw[Zj,d];rfl⟩
theorem SZ {rows:Dg}(nd:(rows.map (·.1)).Nodup):putAll [] (Cp rows)=Cp rows:=by
 rw[Iv (Dm:=[])<|fun k _ z=>absurd z YE]
 ·rfl
 ·rw[kZ];have:(rows.map fun p=>(.inr p.1:Key))=(rows.map (·.1)).map Sum.inr:=by rw[ZB];rfl
  rw[this];exact LU _ (fun a b n e=>by cases e;exact n rfl) nd
namespace AN
abbrev st:Stmt:=top 41
theorem sc:zu ["store","tree"] ["store","tree"] (zF st):=Cn
include T in
theorem ok (F:wX0 K "rows_of" st f fd)(n:sZ P w K mg base aC 4 "thing" ["self","name"]<|vY P w K aC aN):yu P w K mg base Ck 5 f fd ["store","tree"] (vh P w K aC):=by
 refine F.ok sc fun _ _ _ _ H G Q E s h=>?_;obtain⟨a,p,S,x,rows,rfl,j,ok,at_,nd,k⟩:=h;refine⟨_,(zE<|zM<|zY (Kr (K:=K) rfl) (by rfl) T.dict YA<|zA (zR (yt:Cg _<|wZ K) (qB (pv 0) T.cls n s.m yA<|zA (pv 1) zB) zH) zB),?_⟩;obtain⟨v,B,C,D,b⟩:=BS j;have u:IM S (.str x)=true:=Zf at_.mem;refine⟨_,rfl,a,v,_,rfl,b,rfl,_,rfl,a,p,S,.str x,_,rfl,j,rfl,fun e r o t i=>?_,fun z=>by rw[u]at z;cases z⟩;rw[Kd ok at_ r o]at i;obtain⟨c,A,g,q,d⟩:=Tf i;refine⟨t,_,_,_,rfl,rfl,g,rfl,c,A,Cp rows,rfl,q,ON d,fun l y=>?_⟩;rw[SZ nd];exact k l y
end AN
theorem zJ {i:Nat}{v:V}{b:St}{H:Hp}{Q:St->Hp->Prop}(h:Q (b.set i (some v)) H):IV i v b H Q:=h
def Fp (r:OX):PyData:=.tuple [.str<|Cd r.1,Cs r.2.1,Cs r.2.2]
def R8 (B:Da):Str:=if B=[] then"" else Cd B++"/"
noncomputable def Kq (d:Nat)(S:Di)(B:Da)(b a:Option Str):List OX:=(U5 (A9 S b)<|A9 S a).flatMap fun l=>if zc (A9 S b) l≠zc (A9 S a) l then Cv d S (B++[l]) (zc (A9 S b) l) (zc (A9 S a) l) else[]
noncomputable def nj (d:Nat)(S:Di)(b a:Option Str):Nat:=((U5 (A9 S b)<|A9 S a).map fun l=>if zc (A9 S b) l≠zc (A9 S a) l then Ku d S (zc (A9 S b) l) (zc (A9 S a) l) else 0).sum
def RY (S:Di):Prop:=∀x rows,At S x (.tree rows)->rows.length<=30
inductive uw (P:Ek)(w:Eo)(K:Ca)(C:Ej)(vs:Dj)(H:Hp)(Q:VK)(e3:XK):Prop
 |mk (a:Ej) (fp:Dd) (S:Di) (o:Option Str) (h0:vs=[.ref a,oV o]) (h1:xr P w K C H a fp S) (h2:xj S) (h3:(o=none->Q .non H)) (h4:∀x,o=some x->∃L,At S x (.leaf L)/\∀v,Dt K H (AnJ.yd L) v->Q v H):uw P w K C vs H Q e3
def Fe (P:Ek)(w:Eo)(K:Ca)(C:Ej):Nat->Sp
 | 0=>fun _ _ _ _=>False
 |d+1=>fun j H Q _=>∃(a f:Ej) (i:Dd) (S:Di) (B:Da) (b c:Option Str) (g:Dj),j=[.ref a,.str<|Cd B,oV b,oV c,.ref f]/\xr P w K C H a i S/\xj S/\RY S/\B≠[]/\(Cd B).length+10*(d+1)<=1000/\Nd (d+1) S b/\Nd (d+1) S c/\H f=some (.lst g)/\g.length+(Cv (d+1) S B b c).length<=1000 /\
  ∀e h,Off [f] H e->e f=some (.lst<|g++h)->zy K e ((Cv (d+1) S B b c).map Fp) h->Q (.int<|Ku (d+1) S b c) e
inductive sO (P:Ek)(w:Eo)(K:Ca)(C:Ej)(d:Nat)(vs:Dj)(H:Hp)(Q:VK)(e3:XK):Prop
 |mk (a c1 c2 lr:Ej) (fp:Dd) (S:Di) (B:Da) (b c:Option Str) (xs:Dj) (h0:vs=[.ref a,.str<|R8 B,.ref c1,.ref c2,.ref lr]) (h1:xr P w K C H a fp S) (h2:xj S) (h3:RY S) (h4:(R8 B).length+10*(d+1)<=1001) (h5:Nd (d+1) S b) (h6:Nd (d+1) S c) (h7:H c1=some (.dK<|Cp<|A9 S b)) (h8:H c2=some (.dK<|Cp<|A9 S c)) (h9:H lr=some (.lst xs)) (h10:xs.length+(Kq d S B b c).length<=1000) (h11:∀H' ys,Off [lr] H H'->H' lr=some (.lst<|xs++ys)->zy K H' ((Kq d S B b c).map Fp) ys->Q (.int<|nj d S b c) H'):sO P w K C d vs H Q e3
namespace AO
abbrev st:Stmt:=top 50
theorem sc:zu ["store","name"] ["store","name"] (zF st):=Cn
include T in
theorem ok (F:wX0 K "lines_at" st f fd)(i:sZ P w K mg base aC 4 "thing" ["self","name"]<|vY P w K aC aN):yu P w K mg base Ck 5 f fd ["store","name"] (uw P w K aC):=by
 refine F.ok sc fun _ _ _ _ H D Q E p h=>?_;obtain⟨a,l,S,o,rfl,g,ok,u,y⟩:=h;refine⟨_,(zE<|zM<|Iw (zU K4 (pv 1) uO<|zW _) uO<|zR (yt:Cg _<|wZ K) (qB (pv 0) T.cls i p.m yA<|zA (pv 1) zB) zH),?_⟩;cases o with
 |none=>exact⟨_,rfl,rfl,true,(by show V.bl (decide (V.non=V.non))=_;rw[Zf rfl]),Uv<|u rfl⟩
 |some x =>
  obtain⟨L,at_,k⟩:=y x rfl;obtain⟨s,A,B,C,b⟩:=BS g;have r:IM S (.str x)=true:=Zf at_.mem;refine⟨_,rfl,rfl,false,(by show V.bl (decide (V.str x=V.non))=_;rw[Zo<|fun z=>nomatch z]),Ut ⟨_,rfl,a,s,_,rfl,b,rfl,_,rfl,a,l,S,.str x,_,rfl,g,rfl,fun e n j t d=>?_,fun z=>by rw[r]at z;cases z⟩⟩;rw[Kd ok at_ n j]at d;obtain⟨v,c,q⟩:=Sx d;exact⟨t,_,_,_,rfl,rfl,c,rfl,k v q⟩
end AO
theorem HP (rows:Dg):TN (Cp rows):=fun b h=>by
 obtain⟨r,_,rfl⟩:=Za.mp h;rfl
theorem kZ (rows:Dg):(Cp rows).map UZ=rows.map (·.1):=by
 unfold Cp;rw[ZB];rfl
theorem BC (g:xj S)(few:RY S){d:Nat}{o:Option Str}(h:Nd (d+1) S o):(A9 S o).length<=30:=by
 cases o with
 |none=>exact ZD _
 |some x =>
  rcases h x rfl with⟨ls,at_⟩|⟨rows,at_,_⟩
  ·have:A9 S (some x)=[]:=X6 (by unfold Ce;dsimp only;rw[jK g at_]);rw[this];exact ZD _
  ·rw[(yP g at_).1];exact few x rows at_
theorem vP {K:Ca}(o:Option Str):Dt K H (Cs o) (oV o):=by cases o<;>rfl
theorem uJ (o p:Option Str):EH (Cs o) (Cs p)=decide (o=p):=by
 cases o with
 |none=>cases p with
  |none=>rw[Zf rfl];rfl
  |some y=>rw[Zo<|fun z=>nomatch z];rfl
 |some x=>cases p with
  |none=>rw[Zo<|fun z=>nomatch z];rfl
  |some y =>
   show decide (x=y)=_
   by_cases q:x=y
   ·rw[Zf q,Zf<|by rw[q]]
   ·rw[Zo q,Zo<|fun z=>q<|Option.some.inj z]
theorem BZ (h:zV l=true):l.length<=8:=by
 unfold zV at h;rw[Zi,Zi,ZM,ZM]at h;lia
theorem RT {g:Str->List OX}{U:Da}{i:Nat}{l:Str}(h:U[i]?=some l):((U.take i).flatMap g).length+(g l).length<=(U.flatMap g).length:=by
 have e:U.flatMap g=(U.take<|i+1).flatMap g++(U.drop<|i+1).flatMap g:=by rw[←Ub,YJ]
 rw[e,yo h,Ub,Ze,Ze,JF,List.flatMap_nil,ZG];lia
theorem M4 (B:Da)(l:Str):R8 B++l=Cd (B++[l]):=by
 unfold R8
 by_cases q:B=[]
 ·subst q;rw[Zt rfl];refine wY ?_;rw[zp];show cs ("":Str)++cs l=cs (Cd [l]);rw[qX];rfl
 ·rw[Zs q];exact HD B l q
theorem Gn (ok:xj S){d:Nat}{o:Option Str}(h:Nd d S o):ER (Cs o)=true:=by
 cases o with
 |none=>decide +kernel
 |some n =>
  obtain⟨e,b,rfl⟩:=Za.mp (h n rfl).mem;have:=(ok.nm b).ok;show(Es e.nm&&decide (0<=64))=true;rw[this];rfl
theorem X1 (n:rK H fp){c:Ej}{xs:Dj}(h:H c=some (.lst xs)):c∉fp:=fun z=>by
 obtain⟨o,e,_,b,_⟩:=n c z;rw[h]at e;exact b xs (Option.some.inj e).symm
theorem jE {H:Hp}{a:Ej}{xs:Dj}(h:H a=some (.lst xs)):∀b∈[a],∀ys,¬Rd H b (.tup ys):=fun b c ys z=>by
 rw[Q6.mp c]at z
 rcases z with z|⟨o,z⟩
 ·rw[h]at z;cases z
 ·rw[h]at z;cases z
theorem Pu (rows:Dg)(l:Str):(Us (Cp rows)<|.inr l).getD .non=oV (zc rows l):=by
 rw[S1];cases zc rows l<;>rfl
theorem am (h:Dt K H (Cs o) v):Dt K H' (Cs o) v:=by cases o<;>exact h
theorem Kt {X:Dd}(n:∀b∈X,∀xs,¬Rd H b (.tup xs))(o:Off X H H'):∀{R:List OX} {ys:Dj},zy K H (R.map Fp) ys->zy K H' (R.map Fp) ys
 |[],_,h=>h
 |r::R,_,⟨v,zs,e,hv,hr⟩=>by
  refine⟨v,zs,e,?_,Kt n o hr⟩;obtain⟨p,w,rfl,q,x,s,g,c,y,t,i,d,z,u,j,f,l⟩:=hv;exact⟨p,w,rfl,S9 n o q,x,s,g,c,y,t,i,am d,z,u,j,am f,l⟩
namespace AQ
abbrev st:Stmt:=top 47
theorem sc:zu ["store","ahead","ones","others","rows","opened","label","before","after"] ["store","ahead","ones","others","rows"] (zF st):=Cn
theorem step (F:wX0 K "add_beneath" st f fd)(T:Txt P w K mg t1 t2 t3 t4 t5 t6 t7 aL aC aN aT aA b1 b2)(QT:wV P w K mg base L "add_at" ["store","path","before","after","rows"]<|Fe P w K aC d):yu P w K mg base Ck (L+1) f fd ["store","ahead","ones","others","rows"] (sO P w K aC d):=by
 refine F.ok sc fun _ _ _ _ H vs Q E u h=>?_;obtain⟨a,c1,c2,A,fp,S,B,b,c,xs,rfl,sh,ok,few,b0,nb,nc,h1,h2,hl,hx,k⟩:=h;refine⟨_,(zD (Cm (i:=5) sc.nd zH)<|zD (yU PassesOwn.never rfl (xJ<|zO (jF rfl) (by rfl) T.sorted JI<|zA (zP Wu (zY Bm (by rfl) T.set J4 (zA (pv 2) zB)) (zY Bm (by rfl) T.set J4 (zA (pv 3) zB))) zB) (zL (i:=6) sc.nd rfl<|EJ rfl) (zD (Cm (i:=7) sc.nd<|uX u.wC (pv 2) (pv 6) ⟨rfl,rfl,rfl,rfl⟩)<|zD (Cm (i:=8) sc.nd<|uX u.wC (pv 3) (pv 6) ⟨rfl,rfl,rfl,rfl⟩)<|zE<|yC (zU (kH u.units) (pv 7) (pv 8)<|zW _) (zE<|WB (i:=5) sc.nd rfl (EJ rfl) (zI QT (u.mono<|by lia)<|zA (pv 0)<|zA (zP zK (pv 1)<|pv 6)<|zA (pv 7)<|zA (pv 8)<|zA (pv 4) zB) Wg) zS)) (zE<|zM<|pv 5)),?_⟩
 obtain⟨a0,bi,a5⟩:=nb.rows ok;obtain⟨a1,bj,a6⟩:=nc.rows ok;have n1:=BC ok few nb;have n2:=BC ok few nc;have k1:(Cp<|A9 S b).length=(A9 S b).length:=by unfold Cp;rw[Q5]
 have k2:(Cp<|A9 S c).length=(A9 S c).length:=by unfold Cp;rw[Q5]
 refine zJ ⟨_,rfl,c1,_,rfl,.inl h1,HP _,by rw[k1];lia,fun X ap=>?_⟩;rw[kZ];have u1:=zz (o:=UQ P w X ((A9 S b).map (·.1))) ap;refine⟨_,rfl,c2,_,rfl,.inl<|u1 _ _ h2,HP _,by rw[k2];lia,fun p2 U=>?_⟩;rw[kZ];have u2:=zz (o:=UQ P w p2 ((A9 S c).map (·.1))) U;have M:upd H X (UQ P w X ((A9 S b).map (·.1))) X=some (UQ P w X ((A9 S b).map (·.1))):=zC;have al:=u2 _ _ M;have bo:X≠p2:=zQ M U;refine⟨X,p2,_,_,rfl,rfl,al,zC,bo,by rw[Q5,Q5];lia,fun p3 ks as n=>?_⟩;have u3:=zz (o:=UQ P w p3 ks) as;have kl:=n.len;rw[Q5,Q5]at kl;refine⟨p3,ks,rfl,zC,by lia,fun Y ss R pm so=>?_⟩;have u4:=zz (o:=.lst<|ss.map V.str) R;obtain⟨a2,C⟩:=Bl (xP a0)<|xP a1;have kn:ks.Nodup:=n.nd (xP a0)<|xP a1;have sn:ss.Nodup:=pm.nodup_iff.mpr kn;have eU:ss=U5 (A9 S b) (A9 S c):=AnS.qt (Xa so) (a2.imp fun{x y} z w=>List.lt_asymm z w) sn (xP a2) fun p=>by rw[pm.mem_iff,n.mem,C]
 subst eU;have Z:=((u1.trans u2).trans u3).trans u4;have an:H Y=none:=((u1.trans u2).trans u3).free R;have bm:Y≠A:=fun q=>by rw[q,hl]at an;cases an
 generalize e4:upd _ Y (.lst<|(U5 (A9 S b)<|A9 S c).map V.str)=H4 at Z ⊢;have aj:H4 Y=some (.lst<|(U5 (A9 S b)<|A9 S c).map V.str):=by rw[←e4];exact zC
 clear e4;clear u1 u2 u3 u4 M al ap U as R;have I:=Z _ _ hl;have a7:=Z _ _ h1;have a8:=Z _ _ h2;have ay:=sh.same Z;have a3:c1≠A:=fun q=>by rw[q,hl]at h1;cases h1
 have a4:c2≠A:=fun q=>by rw[q,hl]at h2;cases h2
 refine⟨Y,rfl,⟨_,yx.of aj⟩,j9 (K:=K) (a:=Y) (xs:=(U5 (A9 S b)<|A9 S c).map V.str) (fun i σ G=>∃o6 o7 o8 D,σ=[some<|.ref a,some<|.str<|R8 B,some<|.ref c1,some<|.ref c2,some<|.ref A,some<|.int ((((U5 (A9 S b)<|A9 S c).take i).map fun l=>if zc (A9 S b) l≠zc (A9 S c) l then Ku d S (zc (A9 S b) l) (zc (A9 S c) l) else 0).sum:Nat),o6,o7,o8]/\Off [A] H4 G/\G A=some (.lst<|xs++D)/\zy K G ((((U5 (A9 S b)<|A9 S c).take i).flatMap fun l=>if zc (A9 S b) l≠zc (A9 S c) l then Cv d S (B++[l]) (zc (A9 S b) l) (zc (A9 S c) l) else[]).map Fp) D) ⟨none,none,none,[],rfl,Off.refl _ _,by rw[ZG];exact I,rfl⟩ (fun i σ G _ ⟨_,_,_,_,_,o',_⟩=>yx.of<|o' _ _ (fun z=>bm<|Q6.mp z) aj) ?_ ?_⟩
 ·rintro i v σ G hv ⟨o6,o7,o8,D,rfl,j,t,s⟩;rw[Zj]at hv;obtain⟨l,J,rfl⟩:=Zz.mp hv;rw[yo J,Ub,Zg,Zg,V5];have eS:∀x:Nat,[x].sum=x:=fun x=>by rw[Jp];rfl
  rw[Zv,Vh,eS,JF,List.flatMap_nil,ZG];have ab:=j _ _ (fun z=>a3<|Q6.mp z) a7;have ai:=j _ _ (fun z=>a4<|Q6.mp z) a8;have N:=a5 l;have O:=a6 l;refine zJ ⟨_,rfl,c1,rfl,.inl ⟨_,.inl ab⟩,_,rfl,_,.inl ⟨_,.inr l,.inl ab,rfl,rfl⟩,?_⟩;rw[Pu];refine zJ ⟨_,rfl,c2,rfl,.inl ⟨_,.inl ai⟩,_,rfl,_,.inl ⟨_,.inr l,.inl ai,rfl,rfl⟩,?_⟩;rw[Pu];refine zJ ⟨_,rfl,_,rfl,Cs _,Cs _,vP _,vP _,Gn ok N,Gn ok O,_,rfl,Ux (fun q=>?_)<|fun q=>?_⟩
  ·have ne:zc (A9 S b) l≠zc (A9 S c) l:=fun z=>by
    have q:(!EH _ _)=true:=q;rw[uJ,Zf z]at q;cases q
   rw[Zt ne,Zt ne];cases d with
   |zero =>
    exfalso;have e0:∀{o:Option Str},Nd 0 S o->o=none:=fun{o} h=>by
     cases o with
     |none=>rfl
     |some x=>exact absurd (h x rfl) id
    exact ne<|(e0 N).trans (e0 O).symm
   |succ d =>
    have l8:l.length<=8:=by
     have:zV l=true:=by
      rcases(C l).mp (Zm J) with z|z
      ·obtain⟨r,u,rfl⟩:=Za.mp z;exact bi r u
      ·obtain⟨r,u,rfl⟩:=Za.mp z;exact bj r u
     exact BZ this
    have bt:=ay.off (gp:=[A]) (jE I) j<|fun b hb q=>X1 ay.wG I<|Q6.mp q▸hb;have yl:=s.length;rw[Q5]at yl;have bl:(((U5 (A9 S b)<|A9 S c).take i).flatMap fun l=>if zc (A9 S b) l≠zc (A9 S c) l then Cv (d+1) S (B++[l]) (zc (A9 S b) l) (zc (A9 S c) l) else[]).length+(Cv (d+1) S (B++[l]) (zc (A9 S b) l)<|zc (A9 S c) l).length<=(Kq (d+1) S B b c).length:=by
     have:=RT (g:=fun l=>if zc (A9 S b) l≠zc (A9 S c) l then Cv (d+1) S (B++[l]) (zc (A9 S b) l) (zc (A9 S c) l) else[]) J;rw[Zt ne]at this;exact this
    refine⟨_,rfl,_,rfl,_,rfl,_,rfl,_,_,rfl,rfl,zr<|by lia,_,rfl,_,rfl,_,rfl,?_⟩;rw[M4];have pl:(Cd<|B++[l]).length+10*(d+1)<=1000:=by
     have:(R8 B++l).length=(R8 B).length+l.length:=by rw[zm,zm,zm,zp,Ze]
     rw[M4]at this;lia
    refine⟨a,A,fp,S,B++[l],zc (A9 S b) l,zc (A9 S c) l,xs++D,rfl,bt,ok,few,by simp,pl,N,O,t,by rw[Ze];lia,fun H2 zs ax bd a9=>⟨_,_,rfl,rfl,some<|.str l,some<|oV<|zc (A9 S b) l,some<|oV<|zc (A9 S c) l,D++zs,?_,j.trans ax,by rw[bd,Z7],?_⟩⟩
    ·rfl
    ·exact zy.append (Kt (jE t) ax s) a9
  ·have e:zc (A9 S b) l=zc (A9 S c) l:=Lk fun z=>q (by
    show(!EH _ _)=true;rw[uJ,Zo z];rfl)
   rw[Zs<|fun z=>z e,Zs<|fun z=>z e];refine⟨_,_,_,D,rfl,j,t,?_⟩;rwa[Vh,ZG]
 ·rintro σ G ⟨o6,o7,o8,D,rfl,j,t,s⟩;rw[Q5,ZF]at s ⊢;exact⟨_,rfl,k G D (fun b o nb eb=>j b o nb<|Z _ _ eb) t s⟩
end AQ
theorem KC (g:xj S)(o:Option Str):Uz S (Cs o) "tree"=Ce S o:=by
 cases o with
 |none=>rfl
 |some n =>
  rcases X8 g n with⟨e,rows,h⟩|⟨e,h⟩
  ·exact e.trans (yP g h).2.symm
  ·refine(show Uz S (Cs<|some n) "tree"=false from e).trans (Eq.symm ?_);cases q:Ce S (some n) with
   |false=>rfl
   |true =>
    unfold Ce at q;dsimp only at q;cases z:CG S n with
    |none=>rw[z]at q;cases q
    |some t =>
     rw[z]at q;unfold CG at z
     split at z
     ·rename_i ex;have z:=Option.some.inj z;have b:=J3 ex;rw[z]at b;cases t with
      |leaf ls=>cases q
      |tree rows=>exact absurd b<|h rows
      |note x y w=>cases q
     ·cases z
theorem Fu {ns:List (Option Str)}{x:Option Str}(c:x∈ns):(((ns.filter fun o=>Ce S o).map Cs).any fun y=>EH y<|Cs x)=Ce S x:=by
 cases q:Ce S x with
 |true =>
  rw[Yc];exact⟨Cs x,Za.mpr ⟨x,Yy.mpr ⟨c,q⟩,rfl⟩,by rw[uJ];exact Zf rfl⟩
 |false =>
  rw[J6];rintro y d z;obtain⟨o,b,rfl⟩:=Za.mp d;rw[uJ]at z;have z:=Zr z;subst z;rw[(Yy.mp b).2]at q;cases q
theorem vO (ok:xj S){d:Nat}{o:Option Str}(h:Nd d S o):(Cs o).canLay0=true/\(Cs o).depth<=60:=by
 cases o with
 |none=>decide +kernel
 |some n =>
  obtain⟨e,b,rfl⟩:=Za.mp (h n rfl).mem;exact⟨(ok.nm b).ok,ZD _⟩
theorem Iq (ok:xj S){d:Nat}:∀{ns:List (Option Str)},(∀o∈ns,Nd d S o)->Ev (ns.map Cs)=true
 |[],_=>rfl
 |o::ns,h=>by
  show((Cs o).canLay0&&Ev (ns.map Cs))=true;rw[(vO ok<|h o Zc).1,Iq ok fun o b=>h o<|Q9 _ b];rfl
theorem OH (g:xj S){d:Nat}{o:Option Str}(h:Nd (d+1) S o)(t:Ce S o=true):∃n rows,o=some n/\At S n (.tree rows)/\(rows.map (·.1)).Pairwise Cz:=by
 cases o with
 |none=>cases t
 |some x =>
  rcases h x rfl with⟨ls,at_⟩|⟨rows,at_,so,_⟩
  ·unfold Ce at t;dsimp only at t;rw[jK g at_]at t;cases t
  ·exact⟨x,rows,rfl,at_,so⟩
theorem K0 {K:Ca}:∀(ns:List<|Option Str),zy K H (ns.map Cs) (ns.map oV)
 |[]=>rfl
 |o::ns=>⟨_,_,rfl,vP o,K0 ns⟩
namespace AR
abbrev st:Stmt:=top 48
theorem sc:zu ["store","path","before","after","rows","trees","leaves","beneath"] ["store","path","before","after","rows"] (zF st):=Cn
theorem step {L:Nat}(hL:5<=L)(F:wX0 K "add_at" st f fd)(T:Txt P w K mg t1 t2 t3 t4 t5 t6 t7 aL aC aN aT aA b1 b2)(Qd:wV P w K mg base 5 "names_form" ["store","name","form"]<|oh P w K aC)(Qb:wV P w K mg base 5 "rows_of" ["store","tree"]<|vh P w K aC)(Qs:wV P w K mg base L "add_beneath" ["store","ahead","ones","others","rows"]<|sO P w K aC d):yu P w K mg base Ck (L+1) f fd ["store","path","before","after","rows"] (Fe P w K aC<|d+1):=by
 refine F.ok sc fun _ _ _ _ H vs Q E hr h=>?_;obtain⟨a,U,fp,S,B,b,c,xs,rfl,sh,ok,few,hB,pl,nb,nc,hl,hx,k⟩:=h;refine⟨_,(zD (Cm (i:=5) sc.nd<|xN (sc:=zF st) (N:=["store","path","before","after","rows","trees","leaves","beneath"]) (N':=["name","store"]) (src:=[none,some 0]) .a rfl rfl rfl (jW<|yH<|zA (pv 2)<|zA (pv 3) zB) (fun _ _ _ _=>(zL (i:=0) (show(["name","store"]:Da).Nodup by decide +kernel) rfl (EJ rfl))) (fun _ _ _ _=>(Wz<|zZ (K:=K)<|zI Qd (hr.mono<|by lia)<|zA (pv 1)<|zA (pv 0)<|zA zq zB)) (fun _ _ _ _=>(pv 0))) (zD (vN (sc:=zF st) (N:=["store","path","before","after","rows","trees","leaves","beneath"]) (N':=["name","trees"]) (src:=[none,some 5]) .a rfl rfl rfl (jW<|yH<|zA (pv 2)<|zA (pv 3) zB) (fun _ _ _ _=>(zL (i:=0) (show(["name","trees"]:Da).Nodup by decide +kernel) rfl (EJ rfl))) (fun _ _ _ _=>xS) (fun _ _ _ _=>(Iw (zU (K3 (K:=K) hr.units) (pv 0) (pv 1)<|by with_unfolding_all rfl) uO<|pv 0)) sc.nd rfl (EJ rfl) (k:=6)) (vF (yC (zU (kH hr.units) (zR (zj:Cg _<|xx K) (pv 6) zH) (zR (zj:Cg _<|xx K) (pv 6) zH)<|zW _) (zE<|yD<|qV Yo Yi Yj xA (pv 4)<|zA (yH<|zA (pv 1)<|zA (zR (zj:Cg _<|xx K) (pv 6) zH)<|zA (zR (zj:Cg _<|xx K) (pv 6) zH) zB) zB) zS)<|zD (vN (sc:=zF st) (N:=["store","path","before","after","rows","trees","leaves","beneath"]) (N':=["name","trees","store"]) (src:=[none,some 5,some 0]) .a rfl rfl rfl (jW<|yH<|zA (pv 2)<|zA (pv 3) zB) (fun _ _ _ _=>(zL (i:=0) (show(["name","trees","store"]:Da).Nodup by decide +kernel) rfl (EJ rfl))) (fun _ _ _ _=>xS) (fun _ _ _ _=>(Iw (zU (K3 (K:=K) hr.units) (pv 0) (pv 1)<|by with_unfolding_all rfl) (zI Qb (hr.mono<|by lia)<|zA (pv 2)<|zA (pv 0) zB) qM)) sc.nd rfl (EJ rfl) (k:=7)) (zE<|zM<|zP xH (zO z9 (by rfl) T.len Yw<|zA (pv 5) zB)<|zI Qs (hr.mono<|by lia)<|zA (pv 0)<|zA (zP zK (pv 1) zq)<|zA (zR (zj:Cg _<|xx K) (pv 7) zH)<|zA (zR (zj:Cg _<|xx K) (pv 7) zH)<|zA (pv 4) zB)))),?_⟩
 refine⟨_,rfl,_,rfl,Ur 2,fun p1 a5=>?_⟩;have u1:=zz (o:=.tup [oV b,oV c]) a5;have G:=zC (H:=H) (a:=p1) (o:=.tup [oV b,oV c]);generalize upd H p1 (.tup [oV b,oV c])=H1 at u1 G ⊢;refine⟨p1,rfl,⟨_,xg.of G⟩,FH (K:=K) (a:=p1) (xs:=[b,c].map oV) (fun j l u g=>∃o,u=[o,some<|.ref a]/\g=H1/\l=(([b,c].take j).filter fun o=>Ce S o).map oV) ⟨none,rfl,rfl,rfl⟩ (zr<|show 2<=16777216 by decide) ?_ ?_ ?_⟩
 ·rintro j l u g hj ⟨o,rfl,rfl,rfl⟩;refine⟨xg.of G,?_⟩;rw[Q5];have:=VI (fun o=>Ce S o)<|[b,c].take j;rw[Zx]at this;lia
 ·rintro j v l u g O ⟨o,rfl,rfl,rfl⟩;rw[Zj]at O;obtain⟨x,r,rfl⟩:=Zz.mp O;refine zJ ⟨_,rfl,_,rfl,a,fp,S,Cs x,oV x,"tree",rfl,sh.same u1,ok.th,(vP x).dw,_,rfl,?_⟩;rw[KC ok,yo r,List.filter_append,Zg,YZ,List.filter_nil];refine Ux (fun q=>⟨_,rfl,_,rfl,rfl,?_⟩)<|fun q=>⟨_,rfl,rfl,?_⟩
  ·rw[Zt q];rfl
  ·rw[Zs q];exact(ZG _).symm
 rintro l u g ⟨o,rfl,eH,rfl⟩ J n5;have b5:J≠U:=fun q=>by subst eH;rw[q,u1 _ _ hl]at n5;cases n5
 subst eH;have e2:[b,c].take ([b,c].map oV).length=[b,c]:=rfl;rw[e2];have s:∀o∈[b,c],Nd (d+1) S o:=fun o ho=>by
  rcases Zh.mp ho with z|z
  ·rwa[z]
  ·rwa[Q6.mp z]
 have u5:=u1.trans<|zz (o:=.lst<|([b,c].filter fun o=>Ce S o).map oV) n5;have Z:=zC (H:=g) (a:=J) (o:=.lst<|([b,c].filter fun o=>Ce S o).map oV);generalize upd g J (.lst<|([b,c].filter fun o=>Ce S o).map oV)=H5 at u5 Z ⊢;clear u1 G n5 a5;refine zJ ⟨_,rfl,_,rfl,Ur 2,fun p2 a6=>?_⟩;have u6:=zz (o:=.tup [oV b,oV c]) a6;have I:=zC (H:=H5) (a:=p2) (o:=.tup [oV b,oV c]);have D:=u6 _ _ Z;have s6:=u5.trans u6;generalize upd H5 p2 (.tup [oV b,oV c])=H6 at u6 I D s6 ⊢;refine⟨p2,rfl,⟨_,xg.of I⟩,jH (K:=K) (a:=p2) (xs:=[b,c].map oV) (fun j l u g=>∃o,u=[o,some<|.ref J]/\g=H6/\l=(([b,c].take j).map<|Cc S).map oV) ⟨none,rfl,rfl,rfl⟩ (zr<|show 2<=16777216 by decide) ?_ ?_ ?_⟩
 ·rintro j l u g hj ⟨o,rfl,rfl,rfl⟩;refine⟨xg.of I,?_⟩;rw[Q5,Q5,Zx];lia
 ·rintro j v l u g O ⟨o,rfl,rfl,rfl⟩;rw[Zj]at O;obtain⟨x,r,rfl⟩:=Zz.mp O;have Y:=Zm r;refine zJ ⟨_,rfl,_,rfl,Cs x,(([b,c].filter fun o=>Ce S o)).map Cs,vP x,⟨J,_,rfl,yx.of D,K0 _⟩,Iq ok<|fun o ho=>s o (Yy.mp ho).1,(vO ok<|s x Y).1,(vO ok<|s x Y).2,_,rfl,?_⟩;rw[Fu Y,yo r,Zg,Zg];refine Ux (fun q=>⟨_,rfl,rfl,?_⟩)<|fun q=>⟨_,rfl,_,rfl,rfl,?_⟩
  ·have t:Ce S x=true:=by
    cases h:Ce S x with
    |true=>rfl
    |false=>rw[h]at q;cases q
   have e:Cc S x=none:=Zt t;show _++[V.non]=_++[oV<|Cc S x];rw[e];rfl
  ·have t:Ce S x=false:=by
    cases h:Ce S x with
    |false=>rfl
    |true=>rw[h]at q;exact absurd rfl q
   have e:Cc S x=x:=Zs (by rw[t];decide);show _++[oV x]=_++[oV<|Cc S x];rw[e]
 rintro l u g ⟨o,rfl,eH,rfl⟩ R n6;have cc:R≠U:=fun q=>by subst eH;rw[q,s6 _ _ hl]at n6;cases n6
 subst eH;have e3:(([b,c].take ([b,c].map oV).length).map<|Cc S).map oV=[oV<|Cc S b,oV<|Cc S c]:=rfl;rw[e3];have s7:=s6.trans<|zz (o:=.lst [oV<|Cc S b,oV<|Cc S c]) n6;have a1:=zz (o:=.lst [oV<|Cc S b,oV<|Cc S c]) n6 _ _ D;have C:=zC (H:=g) (a:=R) (o:=.lst [oV<|Cc S b,oV<|Cc S c]);generalize upd g R (.lst [oV<|Cc S b,oV<|Cc S c])=H7 at s7 a1 C ⊢;clear u5 Z a6 u6 I D s6 n6;have a4:∀{o:Option Str},Nd (d+1) S o->Nd (d+1) S (Cc S o):=fun{o} h=>by
  unfold Cc
  split
  ·exact fun x z=>(nomatch z)
  ·exact h
 have A:=s7 _ _ hl;refine zJ ⟨fun a9 g=>∃l,a9=[some<|.ref a,some<|.str<|Cd B,some<|oV b,some<|oV c,some<|.ref U,some<|.ref J,some<|.ref R,none]/\Off [U] H7 g/\g U=some (.lst<|xs++l)/\zy K g ((if Cc S b≠Cc S c then[(B,Cc S b,Cc S c)] else[]).map Fp) l,?_,?_⟩
 ·refine⟨_,rfl,R,_,_,_,rfl,rfl,yx.of C,rfl,_,rfl,R,_,_,_,rfl,rfl,yx.of C,rfl,Cs _,Cs _,vP _,vP _,Gn ok<|a4 nb,Gn ok<|a4 nc,_,rfl,Ux (fun q=>?_)<|fun q=>?_⟩
  ·have ne:Cc S b≠Cc S c:=fun z=>by
    have q:(!EH _ _)=true:=q;rw[uJ,Zf z]at q;cases q
   rw[Zt ne];refine⟨_,rfl,.inl ⟨rfl,_,yx.of A⟩,_,rfl,_,rfl,R,_,_,_,rfl,rfl,yx.of C,rfl,_,rfl,R,_,_,_,rfl,rfl,yx.of C,rfl,Ur 3,fun pt M=>⟨U,_,_,rfl,rfl,zz M _ _ A,yI<|by lia,[V.ref pt],rfl,?_,zC,?_⟩⟩
   ·exact(Off.of<|zz M).upd (Q6.mpr rfl)
   ·refine⟨_,_,rfl,⟨pt,_,rfl,xg.of ?_,_,_,rfl,rfl,_,_,rfl,vP _,_,_,rfl,vP _,rfl⟩,rfl⟩;rw[zG (fun q=>by rw[q,A]at M;cases M)];exact zC
  ·have e:Cc S b=Cc S c:=Lk fun z=>q (by
    show(!EH _ _)=true;rw[uJ,Zo z];rfl)
   rw[Zs<|fun z=>z e];exact⟨[],rfl,Off.refl _ _,by rw[ZG];exact A,rfl⟩
 rintro a9 H8 ⟨y1,rfl,ax,bt,bm⟩;have a8:=sh.same s7;have ca:=a8.off (gp:=[U]) (jE A) ax<|fun b hb q=>X1 a8.wG A<|Q6.mp q▸hb;have bl:=ax _ _ (fun z=>b5<|Q6.mp z) a1;refine⟨_,rfl,_,rfl,Ur 2,fun p3 b6=>?_⟩;have u9:=zz (o:=.tup [oV b,oV c]) b6;have ap:=zC (H:=H8) (a:=p3) (o:=.tup [oV b,oV c]);have ab:=u9 _ _ bl;have ay:=ca.same u9;have an:=u9 _ _ bt;have aj:=zy.same u9 _ _ bm;generalize upd H8 p3 (.tup [oV b,oV c])=H9 at u9 ap ab ay an aj ⊢;refine⟨p3,rfl,⟨_,xg.of ap⟩,jH (K:=K) (a:=p3) (xs:=[b,c].map oV) (fun j l u g=>∃o,u=[o,some<|.ref J,some<|.ref a]/\zx H9 g/\l.length=j/\∀(i:Nat) (x:Option Str),i<j->[b,c][i]?=some x->∃p,l[i]?=some (.ref p)/\g p=some (.dK<|Cp<|A9 S x)) ⟨none,rfl,fun _ _ e=>e,rfl,fun i x hi=>absurd hi<|Vq i⟩ (zr<|show 2<=16777216 by decide) ?_ ?_ ?_⟩
 ·rintro j l u g hj ⟨o,rfl,X,yl,_⟩;exact⟨X.yd<|xg.of ap,JQ yl⟩
 ·rintro j v l u g O ⟨o,rfl,X,yl,hy⟩;rw[Zj]at O;obtain⟨x,r,rfl⟩:=Zz.mp O;have Y:=Zm r;have a0:∀(p:Ej),g p=none->∀i y,i<j+1->[b,c][i]?=some y->∃q,(l++[V.ref p])[i]?=some (.ref q)/\(upd g p<|.dK<|Cp<|A9 S x) q=some (.dK<|Cp<|A9 S y):=fun p np i y hi as=>by
   by_cases z:i=j
   ·subst z;rw[r]at as;cases as;exact⟨p,by rw[←yl];simp,zC⟩
   ·obtain⟨q,e1,e2⟩:=hy i y (by lia) as;exact⟨q,by rw[ZS<|by lia];exact e1,zz np _ _ e2⟩
  refine zJ ⟨_,rfl,_,rfl,Cs x,(([b,c].filter fun o=>Ce S o)).map Cs,vP x,⟨J,_,rfl,yx.of<|X _ _ ab,K0 _⟩,Iq ok<|fun o ho=>s o (Yy.mp ho).1,(vO ok<|s x Y).1,(vO ok<|s x Y).2,_,rfl,?_⟩;rw[Fu Y];refine Ux (fun q=>?_)<|fun q=>fun p np=>?_
  ·have t:Ce S x=true:=by
    cases h:Ce S x with
    |true=>rfl
    |false=>rw[h]at q;cases q
   obtain⟨n,rows,rfl,at_,so⟩:=OH ok (s x Y) t;have er:=(yP ok at_).1;refine⟨_,rfl,_,rfl,a,fp,S,n,rows,rfl,ay.same X,ok,at_,xP so,fun p np=>⟨_,rfl,X.trans<|zz np,by rw[Ze,yl];rfl,?_⟩⟩;have:=a0 p np;rw[er]at this;exact this
  ·have t:Ce S x=false:=by
    cases h:Ce S x with
    |false=>rfl
    |true=>rw[h]at q;exact absurd rfl q
   refine⟨_,rfl,X.trans<|zz np,by rw[Ze,yl];rfl,?_⟩;have:=a0 p np;rw[X6 t]at this;exact this
 rintro l u g ⟨o,rfl,X,yl,hy⟩ l7 n7;obtain⟨q1,bi,b3⟩:=hy 0 b (show 0<2 by decide) rfl;obtain⟨q2,bj,b4⟩:=hy 1 c (show 1<2 by decide) rfl;have ua:=zz (o:=.lst l) n7;have ai:=zC (H:=g) (a:=l7) (o:=.lst l);have sa:=X.trans ua;have a2:=ua _ _ b3;have a3:=ua _ _ b4;generalize upd g l7 (.lst l)=Ha at ua ai sa a2 a3 ⊢;have eD:Cv (d+1) S B b c=(if Cc S b≠Cc S c then[(B,Cc S b,Cc S c)] else[])++Kq d S B b c:=rfl;have cb:=aj.length;rw[Q5]at cb;have eA:Cd B++"/"=R8 B:=(Zs hB).symm;have al:(R8 B).length=(Cd B).length+1:=by rw[←eA,zm,zm,zp,Ze];rfl
 have sl:("/":Str).length=1:=by decide +kernel
 have bd:(xs++y1).length+(Kq d S B b c).length<=1000:=by
  rw[eD,Ze]at hx;rw[Ze];lia
 refine zJ ⟨_,rfl,J,_,rfl,.inl<|yx.of<|sa _ _ ab,_,rfl,_,rfl,_,_,rfl,rfl,zr<|by lia,_,rfl,l7,_,_,_,rfl,rfl,yx.of ai,xL (j:=0) bi,_,rfl,l7,_,_,_,rfl,rfl,yx.of ai,xL (j:=1) bj,_,rfl,?_⟩;rw[eA];refine⟨a,q1,q2,U,fp,S,B,b,c,xs++y1,rfl,ay.same sa,ok,few,by lia,nb,nc,a2,a3,sa _ _ an,bd,fun Hz zs a7 b0 bo=>⟨_,_,rfl,rfl,?_⟩⟩;have eN:(((([b,c].filter fun o=>Ce S o).map oV).length:Nat):Int)+(nj d S b c:Int)=(Ku (d+1) S b c:Int):=by
  have:(([b,c].filter fun o=>Ce S o).map oV).length=bN (Ce S b)+bN (Ce S c):=by
   rw[Q5,YZ,YZ,List.filter_nil];cases Ce S b<;>cases Ce S c<;>rfl
  rw[this];rfl
 show Q (.int<|((([b,c].filter fun o=>Ce S o).map oV).length:Nat)+(nj d S b c:Int)) Hz;rw[eN];refine k Hz (y1++zs) (fun b o nb eb=>a7 b o nb<|(u9.trans sa) _ _<|ax b o nb<|s7 _ _ eb) (by rw[b0,Z7]) ?_;rw[eD,Zg];exact zy.append (Kt (jE<|sa _ _ an) a7<|zy.same sa _ _ aj) bo
end AR
theorem RH (F:wX K "add_beneath" "add_beneath" AQ.st f fd)(d:wX K "add_at" "add_at" AR.st fA fdA)(T:Txt P w K mg t1 t2 t3 t4 t5 t6 t7 aL aC aN aT aA b1 b2)(j:wV P w K mg base 5 "names_form" ["store","name","form"]<|oh P w K aC)(i:wV P w K mg base 5 "rows_of" ["store","tree"]<|vh P w K aC)
  (g:mg "add_beneath"=some (.ref f)) (e:wU K fd ["store","ahead","ones","others","rows"] []) (c:mg "add_at"=some (.ref fA)) (b:wU K fdA ["store","path","before","after","rows"] []):yu P w K mg base Ck 17 f fd ["store","ahead","ones","others","rows"] (sO P w K aC 4):=by
 have l:yu P w K mg base Ck 8 fA fdA ["store","path","before","after","rows"] (Fe P w K aC 0):=d.ok AR.sc (fun _ _ _ _ _ _ _ _ _ h=>EL h)<|fun _ _ _ _ h=>EL h;have n:=wV.mk' F (AQ.step F T<|wV.mk' d l c b) g e;have o:=wV.mk' F (AQ.step F T<|wV.mk' d (AR.step (by decide) d T j i n) c b) g e;have p:=wV.mk' F (AQ.step F T<|wV.mk' d (AR.step (by decide) d T j i o) c b) g e;have q:=wV.mk' F (AQ.step F T<|wV.mk' d (AR.step (by decide) d T j i p) c b) g e;exact AQ.step F T (wV.mk' d (AR.step (by decide) d T j i q) c b)
noncomputable def Cu (S:Di)(x y:Str):List OX:=if x=y then[] else Cv 5 S [] (some x) (some y)
noncomputable def oU (S:Di)(x y:Str):Nat:=if x=y then 0 else Ku 5 S (some x) (some y)
inductive wj (P:Ek)(w:Eo)(K:Ca)(C aN:Ej)(vs:Dj)(H:Hp)(Q:VK)(E:XK):Prop
 |mk (a:Ej) (fp:Dd) (S:Di) (d1 d2:Er) (v1 v2:V) (h0:vs=[.ref a,v1,v2]) (h1:xr P w K C H a fp S) (h2:xj S) (h3:Dw K H d1 v1) (h4:Dw K H d2 v2) (h5:((Uz S d1 "tree"=false\/Uz S d2 "tree"=false)->E (.ref aN) none H)) (h6:(Uz S d1 "tree"=true->Uz S d2 "tree"=true->∃x y r1 r2,d1=.str x/\d2=.str y/\v1=.str x/\v2=.str y/\RY S/\At S x (.tree r1)/\At S y (.tree r2)/\Tree 5 S x/\Tree 5 S y/\(Cv 5 S [] (some x)<|some y).length<=1000 /\ ∀p lr ys H',zx H H'->H p=none->H lr=none->p≠lr->H' p=some (.tup [.ref lr,.int<|oU S x y])->H' lr=some (.lst ys)->zy K H' ((Cu S x y).map Fp) ys->Q (.ref p) H')):wj P w K C aN vs H Q E
namespace AS
abbrev st:Stmt:=top 46
theorem sc:zu ["store","one","other","rows","opened"] ["store","one","other"] (zF st):=Cn
include T in
theorem ok (F:wX0 K "changes_of" st f fd)(Qt:uh P w K mg base 6 "need_root" ["store","root"]<|ud P w K aC aN)(Qb:wV P w K mg base 5 "rows_of" ["store","tree"]<|vh P w K aC)(Qs:wV P w K mg base 17 "add_beneath" ["store","ahead","ones","others","rows"]<|sO P w K aC 4):yu P w K mg base (CC P w) 18 f fd ["store","one","other"] (wj P w K aC aN):=by
 refine F.qi sc fun _ _ _ _ H vs Q E s h=>?_;obtain⟨a,A,S,d1,d2,v1,v2,rfl,I,ok,ab,ai,kE,kQ⟩:=h;refine⟨_,(zD (yD<|yO Qt s.m yK<|zA (pv 0)<|zA (pv 1) zB)<|zD (yD<|yO Qt s.m yK<|zA (pv 0)<|zA (pv 2) zB)<|zD (Cm (i:=3) sc.nd<|y9 zB)<|zD (Cm (i:=4) sc.nd zH)<|vF (yC (zU (kH s.units) (pv 1) (pv 2)<|zW _) (zE<|Cm (i:=4) sc.nd<|zP xH zH<|zI Qs s.m<|zA (pv 0)<|zA zq<|zA (zI Qb s.m<|zA (pv 0)<|zA (pv 1) zB)<|zA (zI Qb s.m<|zA (pv 0)<|zA (pv 2) zB)<|zA (pv 3) zB) zS)<|zE<|zM<|yH<|zA (pv 3)<|zA (pv 4) zB),?_⟩
 refine⟨_,rfl,_,rfl,a,A,S,d1,_,rfl,I,ok.th,ab,fun q1=>?_,fun q=>kE<|.inl q⟩;refine⟨_,rfl,_,rfl,a,A,S,d2,_,rfl,I,ok.th,ai,fun q2=>?_,fun q=>kE<|.inr q⟩;obtain⟨x,y,U,X,rfl,rfl,rfl,rfl,few,g,j,ax,ay,bd,k⟩:=kQ q1 q2;have n1:Nd 5 S (some x):=fun z e=>by cases e;exact ax
 have n2:Nd 5 S (some y):=fun z e=>by cases e;exact ay
 obtain⟨e1,M⟩:=yP ok g;obtain⟨e2,N⟩:=yP ok j;have J:=(n1.rows ok).1;have L:=(n2.rows ok).1;rw[e1]at J;rw[e2]at L;have lf:∀{o:Option Str},Ce S o=true->Cc S o=none:=fun{o} h=>Zt h;have eD:Cv 5 S [] (some x) (some y)=Kq 4 S [] (some x) (some y):=by
  show(if Cc S (some x)≠Cc S (some y) then _ else[])++Kq 4 S [] (some x) (some y)=_;rw[Zs<|fun z=>z<|(lf M).trans (lf N).symm,V6]
 have eC:Ku 5 S (some x) (some y)=2+nj 4 S (some x) (some y):=by
  show bN (Ce S<|some x)+bN (Ce S<|some y)+nj 4 S (some x) (some y)=_;rw[M,N];rfl
 refine⟨Ur 0,fun t n=>?_⟩;have O:=zz (o:=.lst []) n;have l:=zC (H:=H) (a:=t) (o:=.lst []);generalize upd H t (.lst [])=H1 at O l ⊢;refine zJ<|zJ ⟨fun R Z=>∃v,R=[some<|.ref a,some<|.str x,some<|.str y,some<|.ref t,some<|.int (oU S x y:Nat)]/\zx H Z/\Z t=some (.lst v)/\zy K Z ((Cu S x y).map Fp) v,?_,?_⟩
 ·have sx:∀{z:Str} {r:Dg},At S z (.tree r)->ER (.str z)=true:=fun{z r} h=>by
   have:=Gn (d:=0) ok (o:=none)<|fun x e=>nomatch e;obtain⟨e,he,rfl⟩:=Za.mp h.mem;have:=(ok.nm he).ok;show(Es e.nm&&decide (0<=64))=true;rw[this];rfl
  refine⟨_,rfl,_,rfl,.str x,.str y,rfl,rfl,sx g,sx j,_,rfl,Ux (fun q=>?_)<|fun q=>?_⟩
  ·have ne:x≠y:=fun z=>by
    have q:(!decide (x=y))=true:=q;rw[Zf z]at q;cases q
   refine⟨_,rfl,_,rfl,_,rfl,a,A,S,x,U,rfl,I.same O,ok,g,xP J,fun p1 an=>?_⟩;have Y:=zz (o:=.dK<|Cp U) an;have D:=zC (H:=H1) (a:=p1) (o:=.dK<|Cp U);generalize upd H1 p1 (.dK<|Cp U)=H2 at Y D ⊢;refine⟨_,rfl,_,rfl,a,A,S,y,X,rfl,I.same<|O.trans Y,ok,j,xP L,fun p2 ap=>?_⟩;have u3:=zz (o:=.dK<|Cp X) ap;have G:=zC (H:=H2) (a:=p2) (o:=.dK<|Cp X);have b:=u3 _ _ D;have B:=u3 _ _<|Y _ _ l;have s3:=(O.trans Y).trans u3;generalize upd H2 p2 (.dK<|Cp X)=H3 at G b B s3 ⊢;refine⟨_,rfl,a,p1,p2,t,A,S,[],some x,some y,[],rfl,I.same s3,ok,few,(by decide +kernel),n1,n2,by rw[e1];exact b,by rw[e2];exact G,B,by rw[←eD];simpa using bd,fun H4 v as al a0=>⟨_,_,rfl,rfl,v,?_,?_,al,?_⟩⟩
   ·show _=[_,_,_,_,some<|V.int (oU S x y:Nat)];unfold oU;rw[Zs ne,eC];rfl
   ·exact fun c o e=>as c o (fun z=>by rw[Q6.mp z,n]at e;cases e)<|s3 c o e
   ·unfold Cu;rwa[Zs ne,eD]
  ·have e:x=y:=Lk fun z=>q (by
    show(!decide (x=y))=true;rw[Zo z];rfl)
   refine⟨[],?_,O,l,?_⟩
   ·unfold oU;rw[Zt e];rfl
   ·unfold Cu;rw[Zt e];rfl
 rintro R H5 ⟨v,rfl,s5,C,aj⟩;refine⟨_,rfl,_,rfl,Ur 2,fun p u=>?_⟩;exact k p t v _ (s5.trans<|zz u) (s5.free u) n (fun q=>by rw[q,C]at u;cases u) zC (zz u _ _ C)<|zy.same (zz u) _ _ aj
end AS
end
end An14
namespace L2
open PySem PySem.Spec PyProof.Rows
section
variable {prog:Ek}{w:Eo}{A:EF}{E:Ei->Dh}{s:Em}
theorem k9 {h h':EB}{l it:Ej}{Dn:Array Ei}(hl:h.IsList l Dn)(k:∀b o,b≠it->h.get? b=some o->h'.get? b=some o)(ne:l≠it):h'.IsList l Dn:=by
 obtain⟨o,e,r⟩:=hl;exact⟨o,k _ _ ne e,r⟩
theorem Tq {it t:Ej}{Dn:Array Ei}(h:t≠it):∀(n i:Nat) (s:Em) (Q:Db->Dh),s.heap.IsListIter it t i->s.heap.IsList t Dn->i+n<=Dn.size ->
  (∀h':EB,h'.IsListIter it t (i+n)->ES it s.heap h'->Q ((Dn.toList.drop i).take n) { s with heap:=h' })->El (Ep prog w) A (draw (.ref it) n) Q E s
 | 0,i,s,Q,hit,_,_,hQ=>by
  show El _ _ (Lo []) Q E s;exact Q7 (by simpa using hQ s.heap hit (Heap.SameBut.refl ..))
 |n+1,i,s,Q,hit,ht,hle,hQ=>by
  have g:i<Dn.size:=by lia
  show El _ _ (L9 (.ref it)>>=_) Q E s;refine Q4 (wpAny_pyNext_list_item hit ht (x:=Dn[i]) (by simp[g]) fun p d c=>?_);refine Q4 (ZW<|Tq h n (i+1) _ _ d (k9 ht (fun b o q e=>(c.2 b q).trans e) h) (by lia) fun j l f=>Q7 ?_);have hd:Dn.toList.drop i=Dn[i]::Dn.toList.drop (i+1):=by simp[JB,g]
  have:=hQ j (by rwa[show i+(n+1)=i+1+n by lia]) (c.trans f);rw[hd,List.take_succ_cons]at this;exact this
theorem Fk {t:Ej}{Dn:Array Ei}{Q:Db->Dh}(v:A.handled=none)(p:s.heap.IsList t Dn)
  (u:∀h',Heap.ExtBut s.heap.objs.size s.heap h'->Q Dn.toList { s with heap:=h' }):El (Ep prog w) A (unpackItems (.ref t) Dn.size none) Q E s:=by
 have g:t≠s.heap.objs.size:=by obtain⟨o,x,_⟩:=p;exact Zu<|Zl x
 unfold unpackItems;refine Q4 ?_
 ·unfold notIterableAtAll;refine Q4<|J0 p.typeIs slot_list_iter.lookup ?_;refine Q7 ?_;simp only[ZU,Js];refine Q4<|ZW<|J5 p ?_;have q:∀(r:Obj),(s.heap.push r).IsList t Dn:=fun r=>k9 (it:=s.heap.objs.size) p (fun b o _ e=>Q8 _ e) g;refine Q4 (ZW<|Tq g Dn.size 0 _ _ ⟨_,Zk _ rfl,rfl,rfl⟩ (q _) (by lia) fun j d c=>?_);have i:List.take Dn.size (List.drop 0 Dn.toList)=Dn.toList:=by
   rw[Ud];exact YR (by simp)
  rw[i];rw[Zs<|by simp];have h:j.IsList t Dn:=k9 (q _) (fun b o n e=>(c.2 b n).trans e) g;refine Q4 (ZW<|wpAny_pyNext_list_end v d h (by simp) fun l f=>?_);simp only[Option.isSome_none,ZU,Js];refine Q7<|u l fun b o n e=>f b o n<|c.extBut b o n<|Q8 _ e
theorem uC {env:Env}{c:List EN} {x1}{pos:Pos}{t:Ej}{Dn:Array Ei}{Q:Unit->Dh}(d:A.handled=none)(f:s.heap.IsList t Dn)
  (e:(Lr c env).length=Dn.size) (b:(Lr c env).findIdx? (·.1)=none)
  (h:∀h',Heap.ExtBut s.heap.objs.size s.heap h'->El (Ep prog w) A (assignInOrder ((Lr c env).map (·.2)) Dn.toList) Q E { s with heap:=h' }) :
  El (Ep prog w) A (assign (.Tuple c x1 pos) env<|.ref t) Q E s:=by
 rw[assign_Tuple];refine Q4<|wpAny_standAt ?_;unfold unpack;rw[e,b];exact Q4<|ZW<|Fk d f h
end
section
variable {X:Cx}{K:Ca}{pos:Pos}
def bU (K:Ca)(n:Nat)(t:R7):TG:=fun v c H Q=>∃a b,v=.ref a/\yx K H a b/\b.length=n/\t b c H Q
theorem SN {k:Nat}{n:Nat}(x:X.calm=true)(h:oM X es t)(w:X.K=K:=by rfl)
  (y:(Lr es X.env).length=n:=by rfl) (c:(Lr es X.env).findIdx? (·.1)=none:=by rfl):PG X (.Tuple es k pos) (bU K n t):=by
 subst w;intro f s i H v u Q I r d;obtain⟨a,C,l,z,hl,d⟩:=d;subst l;cases r;obtain⟨B,g,p,D⟩:=I.list z;refine uC (I.ok.hd x) p.isList (by simp[y,←hl,g.length]) c fun q A=>?_;have j:Inv X f i H { s with heap:=q }:=I.kept (t':=s.toks) fun b o e=>A b o (Zu<|Zl e) e;exact h f _ i H C _ Q j (by simpa using g) d
end
open PySem.W
section
variable {X:Cx}
def WY (H₀:Hp)(t:TS):TS:=fun D g H=>t { D with nx:=fun f c=>∃d e b,c d=some (.frz e<|.dK b)/\(∀o u,H₀ d≠some (.frz o u))/\D.nx f (upd c d<|.dK b),rt:=fun v c=>∃d e b,c d=some (.frz e<|.dK b)/\(∀o u,H₀ d≠some (.frz o u))/\D.rt v (upd c d<|.dK b) } g H
theorem HB {st:EW}(h:PS X st t):PS X st (WY X.H₀ t):=by
 intro i s n H D I q;refine Cf (h i s n H _ I q) fun f o z=>?_;cases f with
 |next =>
  obtain⟨b,j,c,d,l,g,hd,e,q⟩:=z;exact⟨b,_,c.oX hd e,q⟩
 |ret v =>
  obtain⟨x,b,j,c,r,d,l,g,hd,e,q⟩:=z;exact⟨x,b,_,c.oX hd e,r,q⟩
 |brk=>exact z
 |cont=>exact z
end
end L2
namespace An14
open PySem L2 An
seal L2.PS L2.tG L2.PE L2.PT L2.PW L2.PA L2.PG L2.oM L2.PI L2.oK L2.PC
@[elab_as_elim] theorem nw {DY:Hp->Prop} {H:Hp} {l:Ej} {o:HO} (n:H l=none) (k:∀H',zx H H'->H' l=some o->DY H'):DY (upd H l o):=k _ (zz n) zC
@[elab_as_elim] theorem wr {DY:Hp->Prop} {B H:Hp} {l:Ej} {o:HO} (s:zx B H) (n:B l=none) (k:∀H',zx B H'->H' l=some o->DY H'):DY (upd H l o):=k _ (An.zx.tB s n) zC
inductive pP (K:Ca)(vs:Dj)(H:Hp)(Q:VK)(e3:XK):Prop
 |mk (a:Ej) (ns:List Int) (k:Int) (h0:vs=[.ref a,.int k]) (h1:yx K H a<|ns.map V.int) (h2:0<=k) (h3:∀i,Q (.int i) H):pP K vs H Q e3
inductive tW (vs:Dj)(H:Hp)(Q:VK)(e3:XK):Prop
 |mk (c k:Int) (h0:vs=[.int c,.int k]) (h1:0<=k) (h2:k<=1000) (h3:∀m,Q (.int m) H):tW vs H Q e3
def RL:Sp:=fun d H Q _=>∃c,d=[.int c]/\∀l u v x b,zx H b->b l=some (.lst [.str u,.str v,.str x])->zV u=true->zV v=true->zV x=true->Q (.ref l) b
def BJ:Sp:=fun e H Q _=>∃c,e=[.int c]/\∀(l:Ej) (d:List Da) b,zx H b->H l=none->b l=some (.lst<|d.map fun p=>V.str<|Cd p)->d.length=10->(∀p∈d,UM p)->Q (.ref l) b
def GR:Sp:=fun e H Q _=>∃c,e=[.int c]/\∀(p:Ej) (d:Da) b,zx H b->b p=some (.tup<|d.map V.str)->UI d->Q (.ref p) b
theorem Wn {i:Int}(c:0<=i)(f:i<26):∃d,CD ("abcdefghijklmnopqrstuvwxyz":Str).cps.toList i=some d/\UO d=true:=by
 have e:(cs ("abcdefghijklmnopqrstuvwxyz":Str)).length=26/\(cs ("abcdefghijklmnopqrstuvwxyz":Str)).all UO=true:=⟨by decide +kernel,by decide +kernel⟩;obtain⟨j,rfl⟩:=YK c;have b:j<(cs ("abcdefghijklmnopqrstuvwxyz":Str)).length:=by rw[e.1];lia
 exact⟨(cs ("abcdefghijklmnopqrstuvwxyz":Str))[j],xL<|Zb b,ZI.mp e.2 _<|YF b⟩
theorem kF {l m:Str}:l++"/"++m=Cd [l,m]:=by
 refine wY ?_;rw[xQ l<|ZR m [],qX,zp,zp,show cs ("/":Str)=[47] by decide +kernel];simp
theorem F0 {p:Da}(h:p≠[])(l:Str):Cd p++"/"++l=Cd (p++[l]):=HD p l h
theorem Cy {a b:Str}{m n:Nat}(c:a.length<=m)(d:b.length<=n):(a++b:Str).length<=m+n:=by
 rw[zm,zp,Ze,←zm,←zm];exact Nat.add_le_add c d
theorem ad {a b:Str}{m n:Nat}(c:a.length<=m)(d:b.length<=n)(h:m+n<=1000:=by decide):a.length+b.length<=sizeLine:=zr (ZL (Nat.add_le_add c d)<|ZL h<|by decide)
theorem KL {l:List Nat}(e:cs x=l)(d:1<=l.length)(f:l.length<=8)(b:∀c∈l,UO c=true):zV x=true:=vo.mpr ⟨by rw[zm,e];exact d,by rw[zm,e];exact f,by rw[e,ZI];exact b⟩
theorem NM {l:List Nat}{j z:Nat}(h:j<l.length):(l.take j++[z]++l.drop (j+1)).length=l.length:=by
 rw[Ze,Ze,Zx,Yz];show min j l.length+1+_=_;lia
theorem Gu {l:Str}:l=Cd [l]:=wY (qX l).symm
section
variable {P:Ek}{w:Eo}{K:Ca}{mg:Str->Dc}{base:EB}{t1 t2 t3 t4 t5 t6 t7:Tok}{aL aC aN aT aA b1 b2:Ej}(T:Txt P w K mg t1 t2 t3 t4 t5 t6 t7 aL aC aN aT aA b1 b2)
namespace AT
abbrev st:Stmt:=top 60
theorem sc:zu ["_law_script","_law_k"] ["_law_script","_law_k"] (zF st):=Cn
include T in
theorem ok (F:wX0 K "_law_cell" st f fd):yu P w K mg base Ck 1 f fd ["_law_script","_law_k"] (pP K):=by
 refine F.ok sc fun _ _ _ _ H i Q E g h=>?_;obtain⟨a,ns,k,rfl,b,c,q⟩:=h;refine⟨_,(zD (yC (zU aO (pv 1) (zO z9 (by rfl) T.len Yw<|zA (pv 0) zB)<|zW _) (zE<|zM<|zR (zj:Cg _<|xx K) (pv 0)<|pv 1) zS)<|zE<|zM zH),?_⟩
 refine⟨_,rfl,_,rfl,a,_,rfl,.inl b,_,_,rfl,rfl,_,rfl,Ux (fun h=>?_)<|fun h=>?_⟩
 ·have d:k<ns.length:=by simpa using h
  obtain⟨n,_,e⟩:=Kp (f:=V.int) c d;exact⟨_,rfl,_,rfl,a,_,_,_,rfl,rfl,b,e,q n⟩
 ·exact q 0
end AT
namespace AU
abbrev st:Stmt:=top 61
theorem sc:zu ["_law_cell_here","_law_k"] ["_law_cell_here","_law_k"] (zF st):=Cn
include T in
theorem ok (F:wX0 K "_law_mixed" st f fd):yu P w K mg base Ck 1 f fd ["_law_cell_here","_law_k"] tW:=by
 refine F.ok sc fun _ _ _ _ H g Q E e h=>?_;obtain⟨c,k,rfl,b,d,q⟩:=h;refine⟨_,(zE<|zM<|zP yS (zP xH (zP xH (zP xH (zP Iz (pv 0) zH)<|zP Iz (pv 1) zH)<|zP Iz (zP Iz zH<|pv 1)<|pv 1) zH) zH),?_⟩;refine⟨_,rfl,_,_,rfl,rfl,.inr ⟨by decide,by decide⟩,_,rfl,_,_,rfl,rfl,.inr ⟨by decide,by decide⟩,_,_,rfl,rfl,_,rfl,_,_,rfl,rfl,.inl ⟨by decide,by decide⟩,_,rfl,_,_,rfl,rfl,.inr ⟨by lia,by lia⟩,_,_,rfl,rfl,_,_,rfl,rfl,_,_,rfl,rfl,(by show(0:Int)<2147483647;decide),q _⟩
end AU
namespace AV
abbrev st:Stmt:=top 62
theorem sc:zu ["_law_cell_here","_law_letters","_law_label","_law_at_place","_law_other"] ["_law_cell_here"] (zF st):=Cn
include T in
theorem ok (F:wX0 K "_law_labels" st f fd)(I:wV P w K mg base 1 "_law_mixed" ["_law_cell_here","_law_k"] tW):yu P w K mg base Ck 2 f fd ["_law_cell_here"] RL:=by
 refine F.ok sc fun _ _ _ s H vs Q E M h=>?_;obtain⟨c,rfl,k⟩:=h;refine⟨_,(zD (Cm (i:=1) sc.nd zq)<|zD (Cm (i:=2) sc.nd<|qV Yh VO VP CU zq<|zA (xN (sc:=zF st) (N:=["_law_cell_here","_law_letters","_law_label","_law_at_place","_law_other"]) (N':=["_law_k","_law_letters","_law_cell_here"]) (src:=[none,some 1,some 0]) .a rfl rfl rfl (Xb rfl T.range<|zA (zP xH zH<|zP yS (pv 0) zH) zB) (fun _ _ _ _=>(zL (i:=0) (show(["_law_k","_law_letters","_law_cell_here"]:Da).Nodup by decide +kernel) rfl (EJ rfl))) (fun _ _ _ _=>xS) (fun _ _ _ _=>(zR PD (pv 1)<|zP yS (zP qU (zI I M.m<|zA (pv 2)<|zA (pv 0) zB) zH) zH))) zB) (zD (Cm (i:=3) sc.nd<|zP yS (zP qU (zI I M.m<|zA (pv 0)<|zA zH zB) zH)<|zO qK (by rfl) T.len Yw<|zA (pv 2) zB)<|zD (Cm (i:=4) sc.nd<|zP zK (zP zK (yR RJ (pv 2) xW<|xG<|pv 3)<|zR (zj:Cg _<|xx K) (y9<|zA zq<|zA zq zB)<|zY N9 (by rfl) T.int PyProof.Rows.boot_int<|zA (yT qJ (zR PD (pv 2)<|pv 3) zq<|zW _) zB)<|yR RJ (pv 2) (xG<|zP xH (pv 3) zH) xW)<|zE<|zM<|y9<|zA (pv 2)<|zA (zP zK (pv 2) zq)<|zA (pv 4) zB)),?_⟩
 have h0:0<=c % 6:=Vr c (by decide);have h6:c % 6<6:=JY c (by decide);refine⟨rfl,_,rfl,_,_,rfl,rfl,(by show(0:Int)<6;decide),_,_,rfl,rfl,_,rfl,by lia,by lia,XA (fun i t v r=>∃x l,v=[x,some<|.str "abcdefghijklmnopqrstuvwxyz",some<|.int c]/\r=H/\t=(l.map one).map V.str/\l.length=i/\∀c∈l,UO c=true) ⟨none,[],rfl,rfl,rfl,rfl,fun c e=>nomatch e⟩ (zr<|by lia)
  (fun i t v r hi ⟨x,l,_,_,ey,L,_⟩=>by rw[ey,Q5,Q5,L];exact Zd _) ?_ ?_⟩
 ·rintro i t v r hi ⟨x,l,rfl,rfl,rfl,rfl,n⟩;refine⟨_,rfl,_,rfl,_,rfl,c,_,rfl,by lia,by lia,fun m=>?_⟩;obtain⟨d,B,C⟩:=Wn (i:=m / 7 % 26) (by lia) (by lia);refine⟨_,_,rfl,rfl,⟨by decide,by decide⟩,_,_,rfl,rfl,(by show(0:Int)<26;decide),_,_,d,rfl,rfl,zr<|by decide +kernel,B,_,l++[d],rfl,rfl,?_,by simp,xE n C⟩;rw[Zg,Zg];rfl
 ·rintro t v r ⟨x,l,rfl,rfl,rfl,L,n⟩ p np;have S:("":Str).length=0:=by decide +kernel
  refine⟨_,p,l.map one,rfl,rfl,.inl<|yx.of zC,by rw[Kb,S];lia,?_⟩;generalize Z:Lw "" (l.map one)=u;have g:cs u=l:=by rw[←Z];exact FK l
  have ul:u.length=l.length:=by rw[zm,g]
  have l1:1<=l.length:=by lia
  have G:l.length<=6:=by lia
  have u1:=zz (o:=.lst<|(l.map one).map V.str) np;refine zJ ⟨_,rfl,c,60,rfl,by decide,by decide,fun m=>?_⟩;have pos:(0:Int)<(u.length:Int):=by lia
  have O:=Vr (m / 7)<|Int.ne_of_gt pos;have R:=JY (m / 7) pos;refine⟨_,_,rfl,rfl,⟨by decide,by decide⟩,_,rfl,u,rfl,zr<|by lia,_,_,rfl,rfl,pos,?_⟩;obtain⟨j,J⟩:=YK O;rw[J]at R;refine Eq.mpr (congrArg (fun z:Int=>IV 3 (V.int z) _ _ _) J) ?_;have D:j<l.length:=by lia
  have A:CD u.cps.toList (j:Int)=some l[j]:=xL (by show(cs u)[j]?=_;rw[g];exact Zb D);have hx:∀b:Bool,∃z:Nat,UO z=true/\CD [V.str "m",V.str "n"] (if b then 1 else 0)=some (.str<|one z):=fun b=>by
   cases b
   ·exact⟨109,by decide,by show some (V.str "m")=_;rw[show(one 109)=("m":Str) by decide +kernel]⟩
   ·exact⟨110,by decide,by show some (V.str "n")=_;rw[show(one 110)=("n":Str) by decide +kernel]⟩
  refine zJ ⟨_,rfl,_,rfl,_,rfl,u,rfl,zr<|by lia,Ur 2,fun q nq=>⟨_,rfl,_,rfl,_,_,_,rfl,rfl,zr<|by lia,A,rfl,.inr ⟨_,rfl,?_⟩⟩⟩;obtain⟨z,zl,hz⟩:=hx<|decide (V.str ⟨#[l[j]]⟩=V.str "m");refine⟨q,_,_,_,rfl,rfl,yx.of zC,hz,_,_,rfl,rfl,?_,_,rfl,_,rfl,_,_,rfl,rfl,_,rfl,u,rfl,zr<|by lia,_,_,rfl,rfl,?_,?_⟩
  ·rw[zm,O9,g];exact zr (by rw[Zx];show min j l.length+1<=_;lia)
  ·have y:((j:Int)+1)=((j+1:Nat):Int):=rfl;rw[y,zm,zm,zp,O9,M7 u (j+1)<|by lia,g];exact zr (by rw[Ze,Zx,Yz];show min j l.length+1+_<=_;lia)
  have y:((j:Int)+1)=((j+1:Nat):Int):=rfl;generalize ex:(Txt.slice u none (some (j:Int))++one z++Txt.slice u (some<|(j:Int)+1) none)=x;have U:cs x=l.take j++[z]++l.drop (j+1):=by
   rw[←ex,y,zp,zp,O9,M7 u (j+1)<|by lia,g];rfl
  have X:cs ("s":Str)=[115]:=by decide +kernel
  have Y:("s":Str).length=1:=by decide +kernel
  refine zJ ⟨_,rfl,_,rfl,_,_,rfl,rfl,zr<|by lia,_,rfl,Ur 3,fun l9 n9=>?_⟩;refine k l9 u (u++"s") x _ ((u1.trans<|zz nq).trans<|zz n9) zC (KL g l1 (ZL G<|by decide) n) (KL (l:=l++[115]) (by rw[zp,g,X]) (by rw[Ze];exact Nat.le_add_left 1 _) (by rw[Ze];exact Nat.add_le_add G (by decide:1<=2)) (xE n<|by decide)) (KL U (by rwa[NM D]) (by rw[NM D];exact ZL G<|by decide) fun c e=>?_)
  rcases Zy.mp e with e|e
  ·exact xE (fun c e=>n c<|Ji e) zl c e
  ·exact n c (List.mem_of_mem_drop e)
end AV
namespace AW
abbrev st:Stmt:=top 63
theorem sc:zu ["_law_cell_here","_law_one","_law_two","_law_three","_law_paths_here"] ["_law_cell_here"] (zF st):=Cn
include T in
theorem ok (F:wX0 K "_law_paths" st f fd)(B:wV P w K mg base 2 "_law_labels" ["_law_cell_here"] RL):yu P w K mg base Ck 3 f fd ["_law_cell_here"] BJ:=by
 refine F.ok sc fun _ _ _ _ H Y Q E G h=>?_;obtain⟨c,rfl,k⟩:=h;refine⟨_,(zD (WA (zI B G.m<|zA (pv 0) zB)<|SN (K:=K) (n:=3) rfl<|zX (zL (i:=1) sc.nd rfl<|EJ rfl)<|zX (zL (i:=2) sc.nd rfl<|EJ rfl)<|zX (zL (i:=3) sc.nd rfl<|EJ rfl) xX)<|zD (Cm (i:=4) sc.nd<|y9<|zA (pv 1)<|zA (pv 2)<|zA (pv 3)<|zA (zP zK (zP zK (pv 1) zq)<|pv 1)<|zA (zP zK (zP zK (pv 1) zq)<|pv 2)<|zA (zP zK (zP zK (pv 2) zq)<|pv 1)<|zA (zP zK (zP zK (pv 3) zq)<|pv 1) zB)<|zD (yD<|qV Yo Yi Yj xA (pv 4)<|zA (zP zK (zP zK (zP zK (zP zK (pv 1) zq)<|pv 2) zq)<|pv 1) zB)<|zD (yD<|qV Yo Yi Yj xA (pv 4)<|zA (zP zK (zP zK (zP zK (zP zK (zP zK (zP zK (pv 2) zq)<|pv 3) zq)<|pv 1) zq)<|pv 2) zB)<|zD (yD<|qV Yo Yi Yj xA (pv 4)<|zA (zP zK (zP zK (zP zK (zP zK (pv 3) zq)<|pv 1) zq)<|pv 3) zB)<|zE<|zM<|pv 4),?_⟩
 refine⟨_,rfl,c,rfl,fun l u v x N A hl t y z=>⟨l,_,rfl,yx.of hl,rfl,?_⟩⟩;have U:=BZ t;have X:=BZ y;have Z:=BZ z;have e:("/":Str).length<=1:=by decide +kernel
 refine⟨_,_,rfl,zJ ⟨_,_,rfl,zJ ⟨_,_,rfl,zJ ⟨rfl,?_⟩⟩⟩⟩;refine⟨_,rfl,_,rfl,_,rfl,_,rfl,_,_,rfl,rfl,(ad (by assumption) e),_,rfl,_,_,rfl,rfl,(ad (Cy (by assumption) e)<|by assumption),_,rfl,_,_,rfl,rfl,(ad (by assumption) e),_,rfl,_,_,rfl,rfl,(ad (Cy (by assumption) e)<|by assumption),_,rfl,_,_,rfl,rfl,(ad (by assumption) e),_,rfl,_,_,rfl,rfl,(ad (Cy (by assumption) e)<|by assumption),_,rfl,_,_,rfl,rfl,(ad (by assumption) e),_,rfl,_,_,rfl,rfl,(ad (Cy (by assumption) e)<|by assumption),Ur 7,fun j n2=>?_⟩;refine nw n2 fun O M q=>?_;have I:=A.trans M;have g:=A.free n2;refine zJ ⟨_,rfl,.inl ⟨rfl,_,yx.of q⟩,_,rfl,_,_,rfl,rfl,(ad (by assumption) e),_,rfl,_,_,rfl,rfl,(ad (Cy (by assumption) e)<|by assumption),_,_,rfl,rfl,(ad (Cy (Cy (by assumption) e)<|by assumption) e),_,rfl,_,_,rfl,rfl,(ad (Cy (Cy (Cy (by assumption) e)<|by assumption) e)<|by assumption),j,_,_,rfl,rfl,q,yI<|show 7<16777216 by decide,?_⟩;refine wr I g fun R J r=>?_;refine⟨_,rfl,.inl ⟨rfl,_,yx.of r⟩,_,rfl,_,_,rfl,rfl,(ad (by assumption) e),_,rfl,_,_,rfl,rfl,(ad (Cy (by assumption) e)<|by assumption),_,_,rfl,rfl,(ad (Cy (Cy (by assumption) e)<|by assumption) e),_,rfl,_,_,rfl,rfl,(ad (Cy (Cy (Cy (by assumption) e)<|by assumption) e)<|by assumption),_,_,rfl,rfl,(ad (Cy (Cy (Cy (Cy (by assumption) e)<|by assumption) e)<|by assumption) e),_,rfl,_,_,rfl,rfl,(ad (Cy (Cy (Cy (Cy (Cy (by assumption) e)<|by assumption) e)<|by assumption) e)<|by assumption),j,_,_,rfl,rfl,r,yI<|show 8<16777216 by decide,?_⟩;refine wr J g fun S L s=>?_;refine⟨_,rfl,.inl ⟨rfl,_,yx.of s⟩,_,rfl,_,_,rfl,rfl,(ad (by assumption) e),_,rfl,_,_,rfl,rfl,(ad (Cy (by assumption) e)<|by assumption),_,_,rfl,rfl,(ad (Cy (Cy (by assumption) e)<|by assumption) e),_,rfl,_,_,rfl,rfl,(ad (Cy (Cy (Cy (by assumption) e)<|by assumption) e)<|by assumption),j,_,_,rfl,rfl,s,yI<|show 9<16777216 by decide,?_⟩;refine⟨_,rfl,k j [[u],[v],[x],[u,u],[u,v],[v,u],[x,u],[u,v,u],[v,x,u,v],[x,u,x]] _ (An.zx.tB L g) g ?_ rfl fun p D=>?_⟩
 ·rw[zC];have o:∀a b c:Str,a++"/"++b++"/"++c=Cd [a,b,c]:=fun a b c=>by rw[kF (l:=a) (m:=b),F0<|by simp];rfl
  have C:∀a b c d:Str,a++"/"++b++"/"++c++"/"++d=Cd [a,b,c,d]:=fun a b c d=>by rw[o a b c,F0<|by simp];rfl
  rw[C,o u v u,o x u x,kF (l:=u) (m:=u),kF (l:=u) (m:=v),kF (l:=v) (m:=u),kF (l:=x) (m:=u)];show some (HO.lst [V.str u,V.str v,V.str x,_,_,_,_,_,_,_])=some (HO.lst [V.str<|Cd [u],V.str<|Cd [v],V.str<|Cd [x],_,_,_,_,_,_,_]);rw[←Gu (l:=u),←Gu (l:=v),←Gu (l:=x)]
 ·have all:∀p∈[[u],[v],[x],[u,u],[u,v],[v,u],[x,u],[u,v,u],[v,x,u,v],[x,u,x]],UM p:=by simp[UM,t,y,z]
  exact all p D
end AW
namespace AX
abbrev st:Stmt:=top 64
theorem sc:zu ["_law_cell_here","_law_rows"] ["_law_cell_here"] (zF st):=Cn
include T in
theorem ok (F:wX0 K "_law_lines" st f fd)(C:wV P w K mg base 1 "_law_mixed" ["_law_cell_here","_law_k"] tW):yu P w K mg base Ck 2 f fd ["_law_cell_here"] GR:=by
 refine F.ok sc fun _ A _ _ H vs Q E N h=>?_;obtain⟨c,rfl,k⟩:=h;refine⟨_,(zD (Cm (i:=1) sc.nd<|y9<|zA (yH<|zA zq zB)<|zA (yH zB)<|zA (yH<|zA zq<|zA zq zB)<|zA (yH<|zA zq<|zA zq<|zA zq zB)<|zA (yH<|zA zq zB) zB)<|zE<|zM<|zR (zj:Cg _<|xx K) (pv 1)<|zP yS (zP qU (zI C N.m<|zA (pv 0)<|zA zH zB) zH) zH),?_⟩
 refine⟨Ur 1,fun t n1=>nw n1 fun H1 X D=>⟨Ur 0,fun u n2=>nw n2 fun H2 B G=>⟨Ur 2,fun v n3=>nw n3 fun H3 q s=>⟨Ur 3,fun x O=>nw O fun H4 j I=>⟨Ur 1,fun y R=>nw R fun H5 g n=>⟨Ur 5,fun U S=>nw S fun r d J=>?_⟩⟩⟩⟩⟩⟩;have z5:=d _ _ n;have z4:=d _ _<|g _ _ I;have z3:=d _ _<|g _ _<|j _ _ s;have Z:=d _ _<|g _ _<|j _ _<|q _ _ G;have Y:=d _ _<|g _ _<|j _ _<|q _ _<|B _ _ D;have sa:=((((X.trans B).trans q).trans j).trans g).trans d;refine zJ ⟨_,rfl,_,rfl,c,9,rfl,by decide,by decide,fun m=>?_⟩;have o:∃(p:Ej) (b:Da),CD [V.ref t,V.ref u,V.ref v,V.ref x,V.ref y] (m / 7 % 5)=some (.ref p)/\r p=some (.tup<|b.map V.str)/\UI b:=by
  have n:m / 7 % 5=0\/m / 7 % 5=1\/m / 7 % 5=2\/m / 7 % 5=3\/m / 7 % 5=4:=by lia
  have la:UT "a"=true:=by decide +kernel
  have lb:UT "b"=true:=by decide +kernel
  have lA:UT "A b,"=true:=by decide +kernel
  have ok:∀b:Da,b.length<=3->(∀l∈b,l="a"\/l="b"\/l="A b,")->UI b:=fun b s h=>⟨by lia,fun l hl=>by rcases h l hl with z|z|z<;>rw[z]<;>assumption⟩
  rcases n with e|e|e|e|e
  ·exact⟨t,["a"],by rw[e];rfl,Y,ok _ (by decide) fun l hl=>.inl<|Q6.mp hl⟩
  ·exact⟨u,[],by rw[e];rfl,Z,ok _ (by decide) fun l hl=>(nomatch hl)⟩
  ·exact⟨v,["a","b"],by rw[e];rfl,z3,ok _ (by decide) fun l hl=>by simp only[Zh,YE,Vz]at hl;rcases hl with z|z;exact .inl z;exact .inr<|.inl z⟩
  ·exact⟨x,["b","a","b"],by rw[e];rfl,z4,ok _ (by decide) fun l hl=>by simp only[Zh,YE,Vz]at hl;rcases hl with z|z|z;exact .inr<|.inl z;exact .inl z;exact .inr<|.inl z⟩
  ·exact⟨y,["A b,"],by rw[e];rfl,z5,ok _ (by decide) fun l hl=>.inr<|.inr<|Q6.mp hl⟩
 obtain⟨p,b,L,M,hl⟩:=o;refine⟨_,_,rfl,rfl,⟨by decide,by decide⟩,_,_,rfl,rfl,(by show(0:Int)<5;decide),U,_,_,_,rfl,rfl,yx.of J,L,k p b r sa M hl⟩
end AX
end
end An14
namespace L2
open PySem PySem.Spec PyProof.Rows
section
variable {X:Cx}{K:Ca}
def aU (K:Ca):R2:=fun x y H Q=>∃l b c d,x=.ref l/\y=.ref b/\yx K H l c/\yx K H b d/\c.length+d.length<=sizeLine/\∀p,H p=none->Q (.ref p) (upd H p<|.lst<|c++d)
theorem SF (G:X.K=K:=by rfl):Ct X (Mf .Add) (aU K):=by
 subst G;intro O s σ H x y v u Q I L M h;obtain⟨l,b,T,Z,rfl,rfl,E,D,P,q⟩:=h;cases L;cases M;obtain⟨d,r,J,U⟩:=I.list E;obtain⟨c,A,o,Y⟩:=I.list D;have R:=r.length;have S:=A.length;obtain⟨⟨cls,B,data,N⟩,z,w,n,hd⟩:=J.isList;obtain⟨⟨t,j,i,p⟩,g,e,n2,f⟩:=o.isList;simp only at w hd e f;subst w hd e f;refine concat_meets ⟨_,z,rfl⟩ ⟨_,g,rfl⟩ noFill_list_add seq_list_add PySem.F.slot_list_add PySem.F.entry_list_add (PySem.F.args_list_add_2 _ _) (list_addW l b d.toArray c.toArray n n2 B j N p (by rw[Zp,Zp];lia)) ⟨z,g,?_⟩;have C:d.toArray++c.toArray=(d++c).toArray:=by simp
 rw[C];exact⟨.ref _,_,I.oO (t':=s.toks) (r.append A) (by rw[Ze];lia),rfl,q _ I.fresh⟩
theorem NH {pos:Pos}{k:Nat}{n:Nat}(d:X.calm=true)(h:oM X es t)(c:X.K=K:=by rfl)
  (e:(Lr es X.env).length=n:=by rfl) (b:(Lr es X.env).findIdx? (·.1)=none:=by rfl):PG X (.Tuple es k pos) (mH K n t):=by
 subst c;exact jT d h e b
end
end L2
namespace An14
open PySem L2 An
seal L2.PS L2.tG L2.PE L2.PT L2.PW L2.PA L2.PG L2.oM L2.PI L2.oK L2.PC
noncomputable def CF (S:Di):Option Str->Option Da
 |none=>none
 |some n=>match CG S n with
  |some (.leaf L)=>some L
  |_=>none
abbrev b7:Option Da->PyData:=AnS.oD
noncomputable def cz (S:Di)(r:OX):PyData:=.tuple [.str<|Cd r.1,b7<|CF S r.2.1,b7<|CF S r.2.2]
def R1 (S:Di)(o:Option Str):Prop:=∀n,o=some n->∃L,At S n<|.leaf L
inductive rQ (P:Ek)(w:Eo)(K:Ca)(C:Ej)(vs:Dj)(H:Hp)(Q:VK)(e3:XK):Prop
 |mk (a lr:Ej) (fp:Dd) (S:Di) (R:List OX) (xs:Dj) (h0:vs=[.ref a,.ref lr]) (h1:xr P w K C H a fp S) (h2:xj S) (h3:H lr=some (.lst xs)) (h4:zy K H (R.map Fp) xs) (h5:R.length<=1000) (h6:(∀r∈R,R1 S r.2.1/\R1 S r.2.2)) (h7:∀q ys H',zx H H'->H q=none->H' q=some (.lst ys)->zy K H' (R.map<|cz S) ys->Q (.ref q) H'):rQ P w K C vs H Q e3
inductive sG (K:Ca)(vs:Dj)(H:Hp)(Q:VK)(e3:XK):Prop
 |mk (c:Ej) (Dm:Dl) (fs:Dk) (p:Str) (h0:vs=[.str p,.ref c]) (h1:H c=some (.dK Dm)) (h2:Dm.map (·.1)=fs.map (fun f=>(.inr (Cd f.1):Key))) (h3:(∀f∈fs,(Cd f.1).length<=900)) (h4:p.length<=900) (h5:∀H' b,zx H H'->(b=true->∀f∈fs,Uy p (Cd f.1)=false/\Uy (Cd f.1) p=false)->Q (.bl b) H'):sG K vs H Q e3
inductive uf (K:Ca)(vs:Dj)(H:Hp)(Q:VK)(e3:XK):Prop
 |mk (x:Int) (d l:Ej) (ps:List Da) (ka:Dl) (fs:Dk) (h0:vs=[.int x,.ref d,.ref l]) (h1:H d=some (.dK ka)) (h2:yc K H fs ka) (h3:zf 4 fs) (h4:fs.length<=40) (h5:yx K H l<|ps.map fun p=>V.str<|Cd p) (h6:ps.length=10) (h7:(∀p∈ps,UM p)) (h8:∀c Dm gs H',zx H H'->H c=none->H' c=some (.dK Dm)->yc K H' gs Dm->zf 4 gs->List.length gs<=List.length fs+5->Q (.ref c) H'):uf K vs H Q e3
theorem CY {ls:Da}(b:ls.length<=4)(h:∀l∈ls,zV l=true):(Cd ls).length<=900:=by
 have:=XV h;rw[zm];lia
theorem Ix (g:zf n fs){f k:Fi}(b:f∈fs)(c:k∈fs):Uy (Cd f.1) (Cd k.1)=false:=by
 rw[Yd];intro z;obtain⟨q,d,e⟩:=(Bt (g.wK f b).1 (g.wK k c).1 (g.wK f b).2.2.1 (g.wK k c).2.2.1).mp z;exact d<|g.pre f b k c q e
section
variable {P:Ek}{w:Eo}{K:Ca}{mg:Str->Dc}{base:EB}{t1 t2 t3 t4 t5 t6 t7:Tok}{aL aC aN aT aA b1 b2:Ej}(T:Txt P w K mg t1 t2 t3 t4 t5 t6 t7 aL aC aN aT aA b1 b2)
theorem PU (ok:xj S){n:Str}{L:Da}(a:At S n<|.leaf L):CF S (some n)=some L:=by
 unfold CF;dsimp only;rw[jK ok a]
theorem aJ (h:Dt K H (Cs o) v):v=oV o:=by cases o<;>exact h
namespace AY
abbrev st:Stmt:=top 49
theorem sc:zu ["store","rows"] ["store","rows"] (zF st):=Cn
include T in
theorem ok (F:wX0 K "read_rows" st f fd)(Qu:wV P w K mg base 5 "lines_at" ["store","name"]<|uw P w K aC):yu P w K mg base Ck 6 f fd ["store","rows"] (rQ P w K aC):=by
 refine F.ok sc fun _ _ _ _ H vs Q E hr h=>?_;obtain⟨a,lr,fp,S,R,xs,rfl,sh,ok,hl,hd,hR,lf,k⟩:=h;refine⟨_,(zE<|zM<|xN (sc:=zF st) (N:=["store","rows"]) (N':=["path","before","after","store"]) (src:=[none,none,none,some 0]) .a rfl rfl rfl (xJ<|pv 1) (fun _ _ _ _=>(NH (K:=K) (n:=3) rfl<|zX (zL (i:=0) (show(["path","before","after","store"]:Da).Nodup by decide +kernel) rfl (EJ rfl)) (zX (zL (i:=1) (show(["path","before","after","store"]:Da).Nodup by decide +kernel) rfl (EJ rfl)) (zX (zL (i:=2) (show(["path","before","after","store"]:Da).Nodup by decide +kernel) rfl (EJ rfl)) xX)))) (fun _ _ _ _=>xS) (fun _ _ _ _=>(yH<|zA (pv 0)<|zA (zI Qu hr.m<|zA (pv 3)<|zA (pv 1) zB)<|zA (zI Qu hr.m<|zA (pv 3)<|zA (pv 2) zB) zB))),?_⟩;have xl:=hd.length;rw[Q5]at xl;refine⟨_,rfl,lr,rfl,⟨_,yx.of hl⟩,xK (K:=K) (a:=lr) (xs:=xs) (fun i t A b=>∃x y z,A=[x,y,z,some<|.ref a]/\zx H b/\zy K b ((R.take i).map<|cz S) t) ⟨none,none,none,rfl,zx.refl _,rfl⟩ (zr<|by lia) ?_ ?_ ?_⟩
 ·rintro i t A b hi ⟨x,y,z,rfl,g,j⟩;refine⟨g.seq<|yx.of hl,?_⟩;rw[j.length,Q5,Zx];lia
 ·rintro i v t A b hv ⟨x,y,z,rfl,g,j⟩;obtain⟨d,l,M⟩:=hd.get hv;rw[Zj]at l;obtain⟨r,s,rfl⟩:=Zz.mp l;obtain⟨p,ws,rfl,hp,x1,r1,e1,C,x2,r2,e2,D,x3,r3,e3,G,e4⟩:=M;have C:x1=.str (Cd r.1):=C;have D:=aJ D;have G:=aJ G;subst e1 e2 e3 e4 C D G;have O:=g.yd hp;obtain⟨U,X⟩:=lf r<|Zm s;rw[yo s,Zg];have c:∀(o:Option Str) (B:V->Hp->Prop) (E':XK),R1 S o->(∀v,Dt K b (b7<|CF S o) v->B v b)->uw P w K aC [.ref a,oV o] b B E':=fun o B E' Y kk=>by
   refine⟨a,fp,S,o,rfl,sh.same g,ok,fun e=>?_,fun n e=>?_⟩
   ·subst e;exact kk .non rfl
   ·subst e;obtain⟨L,at_⟩:=Y n rfl;refine⟨L,at_,fun v hv=>kk v ?_⟩;rwa[PU ok at_]
  refine⟨p,_,rfl,O,rfl,_,_,rfl,zJ ⟨_,_,rfl,zJ ⟨_,_,rfl,zJ ⟨rfl,?_⟩⟩⟩⟩;refine⟨_,rfl,_,rfl,_,rfl,?_⟩;delta UN;dsimp only;refine c r.2.1 _ _ U fun v1 I=>?_;refine⟨_,rfl,_,rfl,?_⟩;dsimp only;refine c r.2.2 _ _ X fun v2 J=>?_;refine⟨Ur 3,fun pt Z=>?_⟩;have u:=zz (o:=.tup [V.str<|Cd r.1,v1,v2]) Z;exact⟨_,_,_,rfl,g.trans u,zy.append (zy.same u _ _ j) ⟨_,_,rfl,⟨pt,_,rfl,xg.of zC,_,_,rfl,rfl,_,_,rfl,Dt.same u _ _ I,_,_,rfl,Dt.same u _ _ J,rfl⟩,rfl⟩⟩
 ·rintro t A b ⟨x,y,z,rfl,g,j⟩ q nq;rw[xl,ZF]at j;exact k q t _ (g.trans<|zz nq) (g.free nq) zC<|zy.same (zz nq) _ _ j
end AY
namespace AZ
abbrev st:Stmt:=top 65
theorem sc:zu ["_law_path","_law_files","_law_other"] ["_law_path","_law_files"] (zF st):=Cn
include T in
theorem ok (F:wX0 K "_law_is_free" st f fd):yu P w K mg base Ck 1 f fd ["_law_path","_law_files"] (sG K):=by
 refine F.ok sc fun _ _ _ _ H U Q E R h=>?_;obtain⟨c,b,fs,p,rfl,x,D,J,S,k⟩:=h;refine⟨_,(zD (HB<|yU PassesOwn.never rfl (XR<|U9<|pv 1) (zL (i:=2) sc.nd rfl<|EJ rfl)<|zE<|yC (PW.pt<|vL (zZ (K:=K)<|qV Yh J9 Va qZ (pv 2)<|zA (zP zK (pv 0) zq) zB)<|vL (zZ (K:=K)<|qV Yh J9 Va qZ (pv 0)<|zA (zP zK (pv 2) zq) zB)<|uP<|zU qJ (pv 0) (pv 2)<|zW _) (zE<|zM j2) zS)<|zE<|zM j2),?_⟩
 refine⟨_,rfl,c,b,rfl,x,fun j=>?_⟩;have C:b.length=fs.length:=by
  have:=congrArg List.length D;rw[Q5,Q5]at this;exact this
 have O:("/":Str).length=1:=by decide +kernel
 have e:upd H c (.frz j<|.dK b) c=some (.frz j<|.dK b):=zC;have G:∀o u,H c≠some (.frz o u):=fun o u z=>by rw[x]at z;cases z
 refine⟨c,j,b,rfl,e,uY (fun i y q=>∃B,y=[some<|.str p,some<|.ref c,B]/\zx (upd H c<|.frz j<|.dK b) q/\∀f∈fs.take i,Uy p (Cd f.1)=false/\Uy (Cd f.1) p=false) ⟨none,rfl,zx.refl _,fun f r=>(nomatch r)⟩ (fun i y q A ⟨_,_,g,_⟩=>g _ _ e) ?_ ?_⟩
 ·rintro i M v y q A ⟨B,rfl,g,t⟩;have hl:=(Zq.mp A).1;have r:=Zb (l:=fs) (i:=i) (by rwa[←C]);have s:=congrArg (fun l=>l[i]?) D;simp only[Zj,A,r,Yt]at s;have s:M=.inr (Cd fs[i].1):=Option.some.inj s;generalize fs[i]=f at r s;subst s;have L:=J f<|Zm r;have n:∃d j b,q d=some (.frz j<|.dK b)/\(∀o u,H d≠some (.frz o u))/\Q (.bl false) (upd q d<|.dK b):=⟨c,j,b,g _ _ e,G,k _ false (jR x g)<|fun z=>nomatch z⟩;refine zJ ⟨_,rfl,rfl,_,rfl,_,_,rfl,rfl,zr<|by lia,_,_,rfl,rfl,_,rfl,Ux (fun z=>Uv n)<|fun z=>?_⟩;refine⟨_,rfl,rfl,_,rfl,_,_,rfl,rfl,zr<|by lia,_,_,rfl,rfl,_,rfl,Ux (fun I=>Uv n)<|fun I=>?_⟩;refine⟨_,rfl,_,rfl,rfl,_,rfl,Ux (fun N=>n)<|fun N=>⟨_,rfl,g,?_⟩⟩;rw[yo r];exact xE t ⟨Yd.mpr z,Yd.mpr I⟩
 ·rintro y q ⟨B,rfl,g,t⟩;rw[C,ZF]at t;exact⟨c,j,b,g _ _ e,G,k _ true (jR x g) fun _=>t⟩
end AZ
namespace A0
abbrev st:Stmt:=top 66
theorem sc:zu ["_law_cell_here","_law_files","_law_paths_here","_law_found","_law_k","_law_path","_law_kind"] ["_law_cell_here","_law_files","_law_paths_here"] (zF st):=Cn
include T in
theorem ok (F:wX0 K "_law_others" st f fd)(Qf:wV P w K mg base 1 "_law_mixed" ["_law_cell_here","_law_k"] tW)(QV:wV P w K mg base 1 "_law_is_free" ["_law_path","_law_files"]<|sG K)(Qv:wV P w K mg base 2 "_law_lines" ["_law_cell_here"] GR):yu P w K mg base Ck 3 f fd ["_law_cell_here","_law_files","_law_paths_here"] (uf K):=by
 refine F.ok sc fun _ _ _ _ H vs Q E O h=>?_;obtain⟨x,d,l,ps,ka,fs,rfl,hd,ff,gf,b5,hl,b0,b3,k⟩:=h;refine⟨_,(zD (Cm (i:=3) sc.nd qM)<|zD (yU PassesOwn.never rfl (SO rfl T.enumerate<|zA (zY (Ks rfl) (by rfl) T.list YS<|zA (pv 1) zB) zB) (jT rfl<|zX (zL (i:=4) sc.nd rfl<|EJ rfl)<|zX (zL (i:=5) sc.nd rfl<|EJ rfl) xX)<|zD (Cm (i:=6) sc.nd<|zP yS (zP qU (zI Qf O.m<|zA (pv 0)<|zA (pv 4) zB) zH) zH)<|vF (yC (zU qJ (pv 6) zH<|zW _) (zE<|xV O.wC (pv 3) (pv 5) (zI Qv O.m<|zA (zP xH (zP qU (pv 0) zH)<|pv 4) zB) rfl) zS)<|zE<|yC (zU aM (pv 6) zH<|zW _) (zE<|xV O.wC (pv 3) (pv 5) (NG O.wC (pv 1) (pv 5)<|fun _ _=>rfl) rfl) zS)<|zD (yU PassesOwn.never rfl (Xb rfl T.range<|zA (zP yS (pv 0) zH) zB) (zL (i:=4) sc.nd rfl<|EJ rfl)<|zD (Cm (i:=5) sc.nd<|zR (zj:Cg _<|xx K) (pv 2)<|zP yS (zP qU (zI Qf O.m<|zA (pv 0)<|zA (zP xH (pv 4) zH) zB) zH) zH)<|zE<|yC (zZ (K:=K)<|zI QV O.m<|zA (pv 5)<|zA (pv 3) zB) (zE<|xV O.wC (pv 3) (pv 5) (zI Qv O.m<|zA (zP xH (zP qU (pv 0) zH)<|pv 4) zB) rfl) zS)<|zE<|zM<|pv 3),?_⟩
 refine fun c nc=>?_;refine nw nc fun H0 u0 a4=>?_;have a8:=u0 _ _ hd;refine zJ ⟨_,rfl,d,_,rfl,.inl a8,fun lp bo=>?_⟩;have bm:=ff.kV;refine nw bo fun H1 u1 ai=>?_;have s1:=u0.trans u1;have a5:=u1 _ _ a4;rw[bm]at ai;have put:∀{y:Hp} {s:Dk} {A:Dl} {C g:Da} {v:V},zx H y->y c=some (.dK A)->yc K y s A->zf 4 s->UM C->UI g->Dt K y (AnJ.yd g) v->(∀k∈s,Uy (Cd k.1) (Cd C)=false/\Uy (Cd C) (Cd k.1)=false)->s.length<=100 ->
   ∃B,vy y c (kV<|.inr<|Cd C) v B/\B c=some (.dK<|ye A (.inr<|Cd C) v)/\zx H B/\Off [c] y B/\yc K B (UP s (C,g)) (ye A (.inr<|Cd C) v)/\zf 4 (UP s (C,g)):=fun{y s A C g v} s3 al I D lb X dv S b4=>by
  obtain⟨l0,l4,ll⟩:=lb;have fp:=I.put D (f:=(C,g)) l0 ll dv X;have pc:Off [c] y (upd y c<|.dK<|ye A (.inr<|Cd C) v):=yN;exact⟨_,vy.k (k:=.inr<|Cd C) al<|yI (by have:=I.len;lia),zC,An.zx.tB s3 nc,pc,fp.off (yB al) pc,D.put (f:=(C,g)) l0 l4 ll X S⟩
 refine⟨lp,rfl,⟨_,yx.of ai⟩,Pq (K:=K) (a:=lp) (xs:=(fs.map fun f=>Cd f.1).map V.str) (fun i Z L=>∃o4 o5 o6 A s,Z=[some<|.int x,some<|.ref d,some<|.ref l,some<|.ref c,o4,o5,o6]/\zx H L/\L lp=some (.lst<|(fs.map fun f=>Cd f.1).map V.str)/\L c=some (.dK A)/\yc K L s A/\zf 4 s/\s.length<=i/\∀k∈s,∃f∈fs,k.1=f.1) ⟨none,none,none,[],[],rfl,s1,ai,a5,yc.nil,⟨fun f hf=>(nomatch hf),YM,fun f hf=>(nomatch hf)⟩,ZD _,fun k U=>(nomatch U)⟩ (fun i Z L _ ⟨_,_,_,_,_,_,_,e,_⟩=>yx.of e) ?_ ?_⟩
 ·rintro i v Tt Z L hv ⟨o4,o5,o6,A,s,rfl,e,G,u,I,D,gl,own⟩ nT;rw[Zj,Zj]at hv;obtain⟨q,hq,rfl⟩:=Zz.mp hv;obtain⟨J,an,rfl⟩:=Zz.mp hq;have b6:i<40:=by
   have:=(Zq.mp an).1;lia
  have fm:=Zm an;obtain⟨g0,g4,a2,gn⟩:=gf.wK J fm;have Y:=zz (o:=.tup [.int i,.str<|Cd J.1]) nT;have hT:=zC (H:=L) (a:=Tt) (o:=.tup [.int i,.str<|Cd J.1]);generalize upd L Tt _=M at Y hT ⊢;refine⟨Tt,_,rfl,xg.of hT,rfl,_,_,rfl,zJ ⟨_,_,rfl,zJ ⟨rfl,?_⟩⟩⟩;have cl:c≠lp:=fun z=>by rw[z,G]at u;cases u
  have S:∀k∈s,Uy (Cd k.1) (Cd J.1)=false/\Uy (Cd J.1) (Cd k.1)=false:=fun k U=>by
   obtain⟨f1,ap,e1⟩:=own k U;rw[e1];exact⟨Ix gf ap fm,Ix gf fm ap⟩
  have next:∀{y:Hp} {g:Da} {v:V},zx M y->UI g->Dt K y (AnJ.yd g) v->∃B,vy y c (kV<|.inr<|Cd J.1) v B/\∃j t,zx H B/\B lp=some (.lst<|(fs.map fun f=>Cd f.1).map V.str)/\B c=some (.dK j)/\yc K B t j/\zf 4 t/\t.length<=i+1/\∀k∈t,∃f∈fs,k.1=f.1:=fun{y g v} R X dv=>by
   have N:=Y.trans R;obtain⟨B,dp,a6,sH,bt,ax,a0⟩:=put (e.trans N) (N _ _ u) (I.same N) D ⟨g0,g4,a2⟩ X dv S (by lia);refine⟨B,dp,_,_,sH,bt _ _ (fun z=>cl (Q6.mp z).symm) (N _ _ G),a6,ax,a0,?_,fun k U=>?_⟩
   ·have:=GX s (J.1,g);lia
   ·rcases kP U with z|z
    ·exact own k z
    ·rw[z];exact⟨J,fm,rfl⟩
  refine⟨_,rfl,_,rfl,x,_,rfl,by lia,by lia,fun m=>⟨_,_,rfl,rfl,⟨by decide,by decide⟩,_,_,rfl,rfl,(by show(0:Int)<6;decide),?_⟩⟩;refine zJ ⟨fun as y=>as=[some<|.int x,some<|.ref d,some<|.ref l,some<|.ref c,some<|.int i,some<|.str<|Cd J.1,some<|.int<|m / 7 % 6]/\((m / 7 % 6=1/\∃j t,zx H y/\y lp=some (.lst<|(fs.map fun f=>Cd f.1).map V.str)/\y c=some (.dK j)/\yc K y t j/\zf 4 t/\t.length<=i+1/\∀k∈t,∃f∈fs,k.1=f.1)\/(m / 7 % 6≠1/\y=M)),?_,?_⟩
  ·refine⟨_,rfl,rfl,_,rfl,Ux (fun z=>?_)<|fun z=>⟨rfl,.inr ⟨fun w=>z (by show decide (V.int (m / 7 % 6)=V.int 1)=true;rw[w];rfl),rfl⟩⟩⟩;have z1:m / 7 % 6=1:=by
    have z:=Zr z;exact V.int.inj z
   refine⟨_,rfl,_,_,rfl,rfl,⟨by decide,by decide⟩,_,rfl,_,_,rfl,rfl,_,rfl,fun p g y R hp X=>?_⟩;obtain⟨B,dp,r⟩:=next R X ⟨p,_,rfl,xg.of hp,zy.strs _⟩;exact⟨_,rfl,_,rfl,c,B,rfl,dp,rfl,.inl ⟨z1,r⟩⟩
  ·rintro as y ⟨rfl,aj⟩;refine⟨_,rfl,_,_,rfl,rfl,_,rfl,Ux (fun z=>?_)<|fun z=>?_⟩
   ·have z1:1<m / 7 % 6:=Zr z
    rcases aj with⟨w,_⟩|⟨_,rfl⟩
    ·lia
    ·have a9:=Y _ _<|e _ _ hd;obtain⟨v,bi,bj,bl⟩:=(ff.same<|e.trans Y).at gf fm;obtain⟨B,dp,j,t,r⟩:=next (zx.refl _) bl bj;exact⟨_,rfl,_,rfl,d,v,rfl,.inl ⟨_,.inr<|Cd J.1,.inl a9,rfl,bi.symm⟩,_,rfl,_,rfl,c,B,rfl,dp,_,_,_,j,t,rfl,r⟩
   ·rcases aj with⟨_,j,t,r⟩|⟨_,rfl⟩
    ·exact⟨_,_,_,j,t,rfl,r⟩
    ·exact⟨_,_,_,A,s,rfl,e.trans Y,Y _ _ G,Y _ _ u,I.same Y,D,by lia,own⟩
 ·rintro Z L ⟨o4,o5,o6,A,s,rfl,e,G,u,I,D,gl,own⟩;rw[Q5,Q5]at gl;have h0:0<=x % 6:=by lia
  have h4:x % 6<6:=by lia
  refine⟨_,rfl,_,_,rfl,rfl,(by show(0:Int)<6;decide),_,rfl,by lia,by lia,Bp (lo:=0) (n:=(x % 6).toNat) (fun i Z M=>∃o4 o5 o6 A s,Z=[some<|.int x,some<|.ref d,some<|.ref l,some<|.ref c,o4,o5,o6]/\zx H M/\M c=some (.dK A)/\yc K M s A/\zf 4 s/\s.length<=fs.length+i) ⟨_,_,_,A,s,rfl,e,u,I,D,by lia⟩ ?_ ?_⟩
  ·rintro i Z M hi ⟨o4,o5,o6,A,s,rfl,e,u,I,D,gl⟩;refine zJ ⟨_,rfl,_,rfl,_,rfl,_,_,rfl,rfl,x,_,rfl,by lia,by lia,fun m=>?_⟩;obtain⟨C,bd,a3⟩:=Kp (f:=fun p:Da=>V.str<|Cd p) (xs:=ps) (i:=m / 7 % 10) (by lia) (by rw[b0];lia);have lb:=b3 C<|Zm bd;have pl:=CY lb.2.1 lb.2.2;refine⟨_,_,rfl,rfl,⟨by decide,by decide⟩,_,_,rfl,rfl,(by show(0:Int)<10;decide),l,_,_,_,rfl,rfl,e.seq hl,a3,?_⟩;refine zJ ⟨_,rfl,_,rfl,c,A,s,Cd C,rfl,u,I.keys,fun f hf=>CY (D.wK f hf).2.1 (D.wK f hf).2.2.1,pl,fun y b R S=>⟨_,rfl,Ux (fun z=>?_)<|fun z=>⟨_,_,_,A,s,rfl,e.trans R,R _ _ u,I.same R,D,by lia⟩⟩⟩;refine⟨_,rfl,_,_,rfl,rfl,⟨by decide,by decide⟩,_,rfl,_,_,rfl,rfl,_,rfl,fun p g B e4 hp X=>?_⟩;have S:=S z;have ab:=R.trans e4;obtain⟨H5,dp,a7,sH,ca,ay,a1⟩:=put (e.trans ab) (ab _ _ u) (I.same ab) D lb X ⟨p,_,rfl,xg.of hp,zy.strs _⟩ (fun k U=>⟨(S k U).2,(S k U).1⟩) (by lia);refine⟨_,rfl,_,rfl,c,H5,rfl,dp,_,_,_,_,_,rfl,sH,a7,ay,a1,?_⟩;have:=GX s (C,g);lia
  ·rintro Z M ⟨o4,o5,o6,A,s,rfl,e,u,I,D,gl⟩;exact⟨_,rfl,k c A s M e nc u I D<|by lia⟩
end A0
inductive sE (K:Ca)(vs:Dj)(H:Hp)(Q:VK)(e3:XK):Prop
 |mk (l:Ej) (R:List Rl) (xs:Dj) (h0:vs=[.ref l]) (h1:yx K H l xs) (h2:zy K H (R.map Cr) xs) (h3:R.length<=1000) (h4:∀q ys H',zx H H'->H q=none->H' q=some (.lst ys)->zy K H' (R.map fun r=>Cr<|XD r) ys->Q (.ref q) H'):sE K vs H Q e3
namespace A1
abbrev st:Stmt:=top 51
theorem sc:zu ["rows"] ["rows"] (zF st):=Cn
include T in
theorem ok (F:wX0 K "rows_turned" st f fd):yu P w K mg base Ck 1 f fd ["rows"] (sE K):=by
 refine F.ok sc fun _ _ _ _ H vs Q E hr h=>?_;obtain⟨l,R,xs,rfl,hl,hd,hR,k⟩:=h;refine⟨_,(zE<|zM<|xN (sc:=zF st) (N:=["rows"]) (N':=["path","before","after"]) (src:=[none,none,none]) .a rfl rfl rfl (xJ<|pv 0) (fun _ _ _ _=>(NH (K:=K) (n:=3) rfl<|zX (zL (i:=0) (show(["path","before","after"]:Da).Nodup by decide +kernel) rfl (EJ rfl)) (zX (zL (i:=1) (show(["path","before","after"]:Da).Nodup by decide +kernel) rfl (EJ rfl)) (zX (zL (i:=2) (show(["path","before","after"]:Da).Nodup by decide +kernel) rfl (EJ rfl)) xX)))) (fun _ _ _ _=>xS) (fun _ _ _ _=>(yH<|zA (pv 0)<|zA (pv 2)<|zA (pv 1) zB))),?_⟩;have G:=hd.length;rw[Q5]at G;refine⟨_,rfl,l,rfl,⟨_,hl⟩,xK (K:=K) (a:=l) (xs:=xs) (fun i s z e=>∃t x y,z=[t,x,y]/\zx H e/\zy K e ((R.take i).map fun r=>Cr<|XD r) s) ⟨none,none,none,rfl,zx.refl _,rfl⟩ (zr<|by lia) ?_ ?_ ?_⟩
 ·rintro i s z e hi ⟨t,x,y,rfl,b,c⟩;refine⟨b.seq hl,?_⟩;rw[c.length,Q5,Zx];lia
 ·rintro i v s z e X ⟨t,x,y,rfl,b,c⟩;obtain⟨d,g,B⟩:=hd.get X;rw[Zj]at g;obtain⟨r,C,rfl⟩:=Zz.mp g;obtain⟨p,ws,rfl,U,Y,r1,L,A,Z,r2,M,I,x3,r3,O,J,S⟩:=B;have A:Y=.str r.1:=A;subst L M O S A;rw[yo C,Zg];refine⟨p,_,rfl,b.yd U,rfl,_,_,rfl,zJ ⟨_,_,rfl,zJ ⟨_,_,rfl,zJ ⟨rfl,?_⟩⟩⟩⟩;refine⟨_,rfl,_,rfl,_,rfl,Ur 3,fun pt j=>?_⟩;have u:=b.trans<|zz (o:=.tup [V.str r.1,x3,Z]) j;exact⟨_,_,_,rfl,u,zy.append (zy.same (zz j) _ _ c) ⟨_,_,rfl,⟨pt,_,rfl,xg.of zC,_,_,rfl,rfl,_,_,rfl,Dt.same u _ _ J,_,_,rfl,Dt.same u _ _ I,rfl⟩,rfl⟩⟩
 ·rintro s z e ⟨t,x,y,rfl,b,c⟩ q D;rw[G,ZF]at c;exact k q s _ (b.trans<|zz D) (b.free D) zC<|zy.same (zz D) _ _ c
end A1
inductive nY (K:Ca)(b1:Ej)(vs:Dj)(H:Hp)(Q:VK)(E:XK):Prop
 |mk (c l:Ej) (Dm:Dl) (L:Da) (F:FF) (R:List Rl) (xs:Dj) (h0:vs=[.ref c,.ref l]) (h1:H c=some (.dK Dm)) (h2:AnS.Files K H Dm L F) (h3:oJ F) (h4:yx K H l xs) (h5:zy K H (R.map Cr) xs) (h6:R.length<=60) (h7:(∀r∈R,vU r)) (h8:(UH F R=true->∀H',zx H H'->Q .non H')) (h9:(UH F R=false->∀H',zx H H'->E (.ref b1) none H')):nY K b1 vs H Q E
theorem HR {K:Ca}{R:List Rl}(hd:zy K H (R.map Cr) xs){i:Nat}{x:V}(s:xs[i]?=some x):∃r t y z,R[i]?=some r/\x=.ref t/\xg K H t [.str r.1,y,z]/\Dt K H (AnS.oD r.2.1) y/\Dt K H (AnS.oD r.2.2) z:=by
 obtain⟨d,b,e⟩:=hd.get s;rw[Zj]at b;obtain⟨r,f,rfl⟩:=Zz.mp b;obtain⟨p,D,rfl,q,u,A,j,c,v,B,l,g,w,C,n,h,o⟩:=e;have c:u=.str r.1:=c;subst j l n o c;exact⟨r,p,v,w,f,rfl,q,g,h⟩
theorem bG {H:Hp}{c:Ej}{Dm:Dl}(h:H c=some (.dK Dm)):ae H c:=by
 first|exact .inl ⟨_,.inl h⟩|exact⟨_,.inl h⟩|exact⟨_,h⟩|exact .inl ⟨_,h⟩|exact⟨_,.inl<|.inl h⟩
namespace A2
abbrev st:Stmt:=top 53
theorem sc:zu ["files","rows","paths","path","before","after"] ["files","rows"] (zF st):=Cn
include T in
theorem ok (F:wX0 K "need_fit" st f fd):yu P w K mg base (CC P w) 1 f fd ["files","rows"] (nY K b1):=by
 refine F.qi sc fun _ _ _ _ H vs Q E A h=>?_;obtain⟨c,l,Dm,L,Y,R,xs,rfl,hc,hF,G,hl,hd,hR,ok,k1,O⟩:=h;refine⟨_,(zD (vN (sc:=zF st) (N:=["files","rows","paths","path","before","after"]) (N':=["row"]) (src:=[none]) .a rfl rfl rfl (xJ<|pv 1) (fun _ _ _ _=>(zL (i:=0) (show(["row"]:Da).Nodup by decide +kernel) rfl (EJ rfl))) (fun _ _ _ _=>xS) (fun _ _ _ _=>(zR (yt:Cg _<|wZ K) (pv 0) zH)) sc.nd rfl (EJ rfl) (k:=2)) (zD (yC (zU (kH A.units) (pv 2) (zO (jF rfl) (by rfl) T.sorted JI<|zA (zY (FC (K:=K) rfl) (by rfl) T.set J4 (zA (pv 2) zB)) zB) (zW _)) (zE<|xR rfl yV rfl T.pH T.pX<|zA zq zB) zS) (zE<|yU Lz rfl (xJ<|pv 1) (jT rfl<|zX (zL (i:=3) sc.nd rfl<|EJ rfl)<|zX (zL (i:=4) sc.nd rfl<|EJ rfl)<|zX (zL (i:=5) sc.nd rfl<|EJ rfl) xX)<|zD (yC (zU (CW A.units) (pv 4) (pv 5)<|zW _) (zE<|xR rfl yV rfl T.pH T.pX<|zA zq zB) zS)<|zE<|yC (zU (kH A.units) (pv 4) (uX A.wC (pv 0) (pv 3) ⟨rfl,rfl,rfl,rfl⟩)<|zW _) (zE<|xR rfl yV rfl T.pH T.pX<|zA zq zB) zS))),?_⟩
 have xl:=hd.length;rw[Q5]at xl;refine⟨_,rfl,l,rfl,⟨_,hl⟩,xK (K:=K) (a:=l) (xs:=xs) (fun i C g u=>∃o,g=[o]/\u=H/\C=((R.take i).map (·.1)).map V.str) ⟨none,rfl,rfl,rfl⟩ (zr<|by lia) ?_ ?_ ?_⟩
 ·rintro i C g u hi ⟨o,rfl,rfl,rfl⟩;refine⟨hl,?_⟩;rw[Q5,Q5,Zx];lia
 ·rintro i x C g u n ⟨o,rfl,rfl,rfl⟩;obtain⟨r,t,y,z,b,rfl,M,_⟩:=HR hd n;refine⟨_,rfl,t,_,_,_,rfl,rfl,M,rfl,_,rfl,rfl,?_⟩;rw[yo b,Zg,Zg];rfl
 ·rintro C g u ⟨o,rfl,rfl,rfl⟩ S np;rw[xl,ZF];have ul:=AxS.tV _ (R.map (·.1)) rfl;rw[Q5]at ul;refine nw np fun Ha ua ha=>?_;refine⟨_,rfl,_,rfl,S,R.map (·.1),rfl,.inl<|yx.of ha,by rw[Q5];lia,fun p2 n2=>?_⟩;refine nw n2 fun Hb ub hb=>?_;refine⟨p2,_,rfl,hb,by lia,fun l3 B n3 hp J=>?_⟩;refine nw n3 fun H3 uc I=>?_;have d:=(ua.trans ub).trans uc;have nR:∀x∈R.map (·.1),Es x=true:=fun x n=>by
   obtain⟨r,b,rfl⟩:=Za.mp n;obtain⟨⟨ls,lb,e⟩,_⟩:=ok r b;rw[e];exact PN lb
  have ab:∀x∈B,Es x=true:=fun x n=>nR x<|Kg<|hp.mem_iff.mp n;refine⟨.list ((R.map (·.1)).map .str),.list<|B.map .str,⟨S,_,rfl,yx.of<|(ub.trans uc) _ _ ha,zy.strs _⟩,⟨l3,_,rfl,yx.of I,zy.strs _⟩,(qR nR).1,(qR ab).1,_,rfl,?_⟩;have ev:EH (.list ((R.map (·.1)).map .str)) (.list<|B.map .str)=decide (R.map (·.1)=B):=jN _ _;rw[ev,IT hp J];cases q:UG (R.map (·.1)) with
  |false=>exact Pz ⟨Ur 1,O (by unfold UH;rw[q];rfl) _ d⟩
  |true =>
   refine FY ⟨_,rfl,l,rfl,⟨_,d.seq hl⟩,j9 (K:=K) (a:=l) (xs:=xs) (fun i g s=>∃U X Z,g=[some<|.ref c,some<|.ref l,some<|.ref S,U,X,Z]/\s=H3/\((R.take i).all fun r=>decide (r.2.1≠r.2.2)&&decide (r.2.1=Y r.1))=true) ⟨none,none,none,rfl,rfl,rfl⟩ (fun i g s hi ⟨_,_,_,_,e,_⟩=>by rw[e];exact d.seq hl) ?_ ?_⟩
   ·rintro i x g s n ⟨U,X,Z,rfl,rfl,v⟩;obtain⟨r,t,y,z,b,rfl,M,dy,dz⟩:=HR hd n;obtain⟨_,o1,o2⟩:=ok r<|Zm b;have s1:=AnS.wN o1.ok;have s2:=AnS.wN o2.ok;have p:(decide (r.2.1≠r.2.2)&&decide (r.2.1=Y r.1))=false->UH Y R=false:=fun z=>by
     unfold UH;rw[q,Bool.true_and,Yd];intro w;rw[ZI.mp w r<|Zm b]at z;cases z
    refine⟨t,_,rfl,d.yd M,rfl,_,_,rfl,zJ ⟨_,_,rfl,zJ ⟨_,_,rfl,zJ ⟨rfl,?_⟩⟩⟩⟩;refine⟨_,rfl,_,rfl,_,_,Dt.same d _ _ dy,Dt.same d _ _ dz,s1,s2,_,rfl,?_⟩;rw[AnS.su];cases D:decide (r.2.1=r.2.2) with
    |true=>exact Uv ⟨Ur 1,O (p (by rw[decide_not,D];rfl)) _ d⟩
    |false =>
     have j:=d _ _ hc;refine Ut ⟨_,rfl,_,rfl,c,rfl,bG j,_,rfl,_,v9.k (k:=.inr r.1) j,_,_,Dt.same d _ _ dy,Dt.same d _ _<|hF.get r.1,s1,AnS.wN<|G.ok r.1,_,rfl,?_⟩;rw[AnS.su];cases e2:decide (r.2.1=Y r.1) with
     |false=>exact Pz ⟨Ur 1,O (p (by rw[decide_not,D,e2];rfl)) _ d⟩
     |true =>
      refine FY ⟨_,_,_,rfl,rfl,?_⟩;rw[yo b,List.all_append,v];show(true&&((decide (r.2.1≠r.2.2)&&decide (r.2.1=Y r.1))&&true))=true;rw[decide_not,D,e2];rfl
   ·rintro g s ⟨U,X,Z,rfl,rfl,v⟩;rw[xl,ZF]at v;exact k1 (by unfold UH;rw[q,v];rfl) _ d
end A2
end
inductive pN (K:Ca)(b1 b2:Ej)(vs:Dj)(H:Hp)(Q:VK)(E:XK):Prop
 |mk (c l:Ej) (Dm:Dl) (L:Da) (F:FF) (R:List Rl) (xs:Dj) (h0:vs=[.ref c,.ref l]) (h1:H c=some (.dK Dm)) (h2:AnS.Files K H Dm L F) (h3:oJ F) (h4:L.length<=40) (h5:yx K H l xs) (h6:zy K H (R.map Cr) xs) (h7:R.length<=60) (h8:(∀r∈R,vU r)) (h9:(UH F R=false->∀H',zx H H'->E (.ref b1) none H')) (h10:(UH F R=true->UX (doneF F R)->∀H',zx H H'->E (.ref b2) none H')) (h11:(UH F R=true->¬UX (doneF F R)->∀q kv M H',zx H H'->H q=none->H' q=some (.dK kv)->AnS.Files K H' kv M (doneF F R)->M.length<=100->Q (.ref q) H')):pN K b1 b2 vs H Q E
theorem FM {T:List Rl}{q:Str}(h:∀s∈T,s.1≠q):doneF F T q=F q:=IF (fun s b e=>absurd e<|h s b) (.inr rfl)
theorem Pm (h:UH F R=true){i:Nat}{r:Rl}(c:R[i]?=some r):r.2.1≠r.2.2/\r.2.1=F r.1/\doneF F (R.take i) r.1=F r.1:=by
 unfold UH at h;rw[Zi,ZI]at h;have a:=h.2 r<|Zm c;rw[Zi]at a;refine⟨Zr a.1,Zr a.2,FM fun s g e=>?_⟩;have nd:=(tQ.mp h.1).2;obtain⟨j,f,b⟩:=ZN.mp g;rw[Zx]at f;rw[List.getElem_take]at b;obtain⟨l,d⟩:=Zq.mp c;have:=(YX (i:=j) (j:=i) (h₀:=by rw[Q5];lia) (h₁:=by rwa[Q5]) nd).mp (by rwa[ZQ,ZQ,b,d]);lia
section
variable {P:Ek}{w:Eo}{K:Ca}{mg:Str->Dc}{base:EB}{t1 t2 t3 t4 t5 t6 t7:Tok}{aL aC aN aT aA b1 b2:Ej}{H:Hp}{q:Ej}{kv:Dl}{M:Da}{F:FF}{R:List Rl}{i:Nat}{r:Rl}(T:Txt P w K mg t1 t2 t3 t4 t5 t6 t7 aL aC aN aT aA b1 b2)
theorem Bj (b:R[i]?=some r):doneF F (R.take<|i+1)=fun q=>if q=r.1 then r.2.2 else doneF F (R.take i) q:=by
 rw[yo b,Kz]
theorem NU (f:H q=some (.dK kv))(h:AnS.Files K H kv M<|doneF F<|R.take i)(g:R[i]?=some r)(n:r.2.2=none)(a:r.2.1≠r.2.2)(b:r.2.1=F r.1)(c:doneF F (R.take i) r.1=F r.1):∃v,Us kv (.inr r.1)=some v/\∃M',AnS.Files K (upd H q<|.dK<|UF kv<|.inr r.1) (UF kv<|.inr r.1) M' (doneF F<|R.take<|i+1)/\M'.length<=M.length:=by
 have d:r.1∈M:=(h.mem r.1).mpr (by
  rw[c,←b];cases z:r.2.1 with
  |none=>exact absurd (z.trans n.symm) a
  |some l=>rfl)
 obtain⟨v,e,_⟩:=h.is.val r.1 d;refine⟨v,e,M.filter fun q=>decide (q≠r.1),?_,VI _ _⟩;rw[Bj g,n];exact(h.drop r.1).mono (AnS.DS.upd f)
theorem NV {l:Da}(c:H q=some (.dK kv))(h:AnS.Files K H kv M<|doneF F<|R.take i)(d:R[i]?=some r)(e:r.2.2=some l)(b:Dt K H (AnS.oD r.2.2) z):∃M',AnS.Files K (upd H q<|.dK<|ye kv (.inr r.1) z) (ye kv (.inr r.1) z) M' (doneF F<|R.take<|i+1)/\M'.length<=M.length+1:=by
 rw[e]at b;refine⟨_,?_,AnS.oG r.1⟩;rw[Bj d,e];exact(h.put r.1 b).mono (AnS.DS.upd c)
theorem nO {o:Option Da}(h:Dt K H (AnS.oD o) z):(o=none/\z=.non)\/∃l a,o=some l/\z=.ref a:=by
 cases o with
 |none=>exact .inl ⟨rfl,h⟩
 |some l=>obtain⟨a,_,e,_⟩:=h;exact .inr ⟨l,a,rfl,e⟩
namespace A3
abbrev st:Stmt:=top 52
theorem sc:zu ["files","rows","done","path","before","after"] ["files","rows"] (zF st):=Cn
include T in
theorem ok (F:wX0 K "rows_done" st f fd)(QW:uh P w K mg base 1 "need_fit" ["files","rows"]<|nY K b1)(Qr:uh P w K mg base 5 "need_files" ["files"]<|sW K b2):yu P w K mg base (CC P w) 6 f fd ["files","rows"] (pN K b1 b2):=by
 refine F.qi sc fun _ _ _ _ H vs Q E J h=>?_;obtain⟨c,l,C,L,Y,R,xs,rfl,hc,hF,u,hL,hl,hd,hR,ok,k1,k2,k3⟩:=h;refine⟨_,(zD (yD<|yO QW J.m yK<|zA (pv 0)<|zA (pv 1) zB)<|zD (Cm (i:=2) sc.nd<|zY qO (by rfl) T.dict YA<|zA (pv 0) zB)<|zD (yU Lz rfl (xJ<|pv 1) (jT rfl<|zX (zL (i:=3) sc.nd rfl<|EJ rfl)<|zX (zL (i:=4) sc.nd rfl<|EJ rfl)<|zX (zL (i:=5) sc.nd rfl<|EJ rfl) xX)<|zE<|yC (zU K4 (pv 5) uO<|zW _) (zE<|yD<|Hy (pv 2) (pv 3) ⟨rfl,rfl,rfl,rfl⟩)<|zE<|xV J.wC (pv 2) (pv 3) (pv 5) rfl)<|zD (yD<|yO Qr J.m yK<|zA (pv 2) zB)<|zE<|zM<|pv 2),?_⟩
 have xl:=hd.length;rw[Q5]at xl;refine⟨_,rfl,_,rfl,c,l,C,L,Y,R,xs,rfl,hc,hF,u,hl,hd,hR,ok,fun p H1 X=>?_,k1⟩;refine⟨_,rfl,c,C,rfl,.inl<|X _ _ hc,fun q nq=>?_⟩;have A:=X.free nq;refine nw nq fun H2 u2 hq=>?_;have Z:=X.trans u2;refine⟨_,rfl,l,rfl,⟨_,Z.seq hl⟩,j9 (K:=K) (a:=l) (xs:=xs) (fun i B s=>∃N S U kv M,B=[some<|.ref c,some<|.ref l,some<|.ref q,N,S,U]/\zx H s/\s q=some (.dK kv)/\AnS.Files K s kv M (doneF Y<|R.take i)/\M.length<=L.length+i) ⟨none,none,none,C,L,rfl,Z,hq,hF.same Z,Zd _⟩ (fun i B s hi ⟨_,_,_,_,_,_,e,_⟩=>e.seq hl) ?_ ?_⟩
 ·rintro i x B s hx ⟨N,S,U,kv,M,rfl,e,d,g,ml⟩;obtain⟨r,t,y,z,j,rfl,ht,dy,dz⟩:=HR hd hx;obtain⟨a1,a2,a3⟩:=Pm p j;have ab:=(Zq.mp j).1;refine⟨t,_,rfl,e.yd ht,rfl,_,_,rfl,zJ ⟨_,_,rfl,zJ ⟨_,_,rfl,zJ ⟨rfl,?_⟩⟩⟩⟩
  rcases nO (Dt.same e _ _ dz) with⟨n,rfl⟩|⟨ls,a,es,rfl⟩
  ·obtain⟨v,ev,D,I,lM⟩:=NU d g j n a1 a2 a3;exact⟨_,rfl,rfl,_,rfl,Uv ⟨_,rfl,q,rfl,bG d,_,rfl,kv,.inr r.1,v,d,rfl,ev,_,_,_,_,D,rfl,An.zx.tB e A,zC,I,by lia⟩⟩
  ·obtain⟨D,I,lM⟩:=NV d g j es<|Dt.same e _ _ dz;exact⟨_,rfl,rfl,_,rfl,Ut ⟨_,rfl,_,rfl,_,rfl,q,_,rfl,vy.k (k:=.inr r.1) d<|yI (by have:=g.is.len;lia),_,_,_,_,D,rfl,An.zx.tB e A,zC,I,by lia⟩⟩
 ·rintro B s ⟨N,S,U,kv,M,rfl,e,d,g,ml⟩;rw[xl,ZF]at g;refine⟨_,rfl,q,kv,M,_,rfl,d,g,Il u ok,by lia,fun nc H3 s3=>?_,fun cl H3 O=>k2 p cl H3 fun b o G=>O b o (fun z=>?_)<|e _ _ G⟩
  ·exact⟨_,rfl,k3 p nc q kv M _ (e.trans s3) A (s3 _ _ d) (g.same s3)<|by lia⟩
  ·rw[Q6.mp z,A]at G;cases G
end A3
end
end An14
namespace L2
open PySem PySem.Spec PyProof.Rows
def bu (K:Ca)(C e:Ej)(f:(St->Hp->Ei->Prop)->TS)(th d:TS):TS:=fun D g H=>∃R:St->Hp->Ei->Prop,f R D g H /\
 ∀b c cls a,R b c cls->c a=none->(Ln K cls (.ref C)=some true/\th D b (upd c a<|XF a cls))\/(Ln K cls (.ref C)=some false/\Ln K cls (.ref e)=some true/\d D b (upd c a<|XF a cls))
section
variable {X:Cx}
theorem SS {body y l:List EW}{a8:List ExceptHandler}{F G:EW}{c c2:Str}{C C2:Ej}{np al bd P pos:Pos}{tb:(St->Hp->Ei->Prop)->TS}{th ap:TS}(an:X.stack=X.env::X.outer)(a4:X.env.frame=some X.env.locals)(bi:X.ex=[])
  (hb:∀Do R,tG (X.nM Do R) body<|tb R) (hg:Gl X c) (hm:X.mg c=some (.ref C)) (hs:∀e,tG (X.rG e) (F::y) th) (a5:Gl X c2) (a6:X.mg c2=some (.ref C2)) (a9:∀e,tG (X.rG e) (G::l) ap)
  (hd:(c==("__debug__":Str))=false:=by decide) (a3:(c2==("__debug__":Str))=false:=by decide):PS X (.Try body (.ExceptHandler (some<|.Name c np) none (F::y) al::.ExceptHandler (some<|.Name c2 bd) none (G::l) P::a8) [] [] pos) (bu X.K C C2 tb th ap):=by
 intro Do s σ H D I h;obtain⟨R,a1,hh⟩:=h;refine wpAny_Try_except<|Yg (hb Do R [] s σ H D (I.into R) a1) (fun f g q=>?_) fun e g q=>?_
 ·have q':SP X Do D f g:=q.rP;cases f with
  |next=>exact V3 q'
  |brk=>exact q'
  |cont=>exact q'
  |ret u=>exact q'
 ·obtain⟨a,T,cls,p,B,rfl,n,fa,fT,⟨oe,vs,oT,ts,e1,e2,e3,e4,e5,e6,e7,e8⟩,r1⟩:=q;have a2:=hh p B cls a r1 fa.1;have hA:X.A.frames=some (X.env::X.outer):=by rw[n.ok.frames,an]
  have N:∀b∈[a,T],W3 X Do B b:=fun b z=>by
   rcases Zh.mp z with z|z
   ·rwa[z]
   ·rwa[Q6.mp z]
  have ay:g.heap.FunFrames (US g.heap [a,T] X.stack) (X.env::X.outer):=by have z:=j0 (as:=[a,T]) n.stack;rw[an]at z ⊢;exact z
  have a0:OZ ctx0 g.heap (US g.heap [a,T] X.stack) a cls .none:=⟨oe,vs,T,oT,ts,e1,e2,e3,e4,Vb _<|by simp,e5,e6,e7,e8⟩;refine NC U6 hA ay a4 a0 jQ (Vb _<|by simp) fun h2 J g2 O Q=>?_;refine x9 (s:={ g with heap:=h2 }) J g2 O fun L Y ai r S=>?_;have I3:Inv X Do p B { g with heap:=L }:=n.land N Y (Q.trans S) g.toks;refine wpAny_handleBy_cons (codeAny_handlers_test ?_) (by intro z;cases z);refine jY (X:=X.rG<|.ref a) (I3.mark _) hg hm ?_ hd;obtain⟨ob,_,_,_,_,a7,⟨aj,_⟩,_⟩:=id r;have LT:PySem.W.Looks (Ep X.prog X.w) L (typeOf<|.ref a) cls:=aj▸(PySem.W.Looks.ld a7).andThen .now
  rcases a2 with⟨hx,hth⟩|⟨hx0,hx,hth⟩
  ·refine(PySem.W.exm_one (K:=X.K) (h:=L) I3.vq LT hx).here ?_;refine codeAny_handlers_suite<|x9 (s:={ g with heap:=L }) Y ai r fun M Z ax t U=>?_;have I4:Inv X Do p B { g with heap:=M }:=n.land N Z ((Q.trans S).trans U) g.toks;have new:yp X.prog X.w (upd B a<|XF a cls) M a (XF a cls):=by
    obtain⟨x,ab,_,_,_,J,⟨g2,gc⟩,g3,_⟩:=t;exact⟨⟨x,ab,J,g2,g3,gc⟩,⟨x,J⟩,fun u1 u2 ⟨o,v,z1,z2,z3⟩ k=>⟨o,v,k o z1,z2,z3⟩⟩
   have I5:Inv X Do p (upd B a<|XF a cls) { g with heap:=M }:=I4.pq fa new;refine Yg (hs (.ref a) Do _ _ _ _ (I5.mark _) hth) (fun f s7 E=>?_) fun _ _ z=>z.elim;cases f with
   |ret u=>obtain⟨v,d,i,j,rv,q⟩:=E;exact⟨v,d,i,j.unmark n.ok,rv,q⟩
   |next=>obtain⟨d,i,j,q⟩:=E;exact⟨d,i,j.unmark n.ok,q⟩
   |brk=>obtain⟨d,i,j,q⟩:=E;exact⟨d,i,j.unmark n.ok,q⟩
   |cont=>obtain⟨d,i,j,q⟩:=E;exact⟨d,i,j.unmark n.ok,q⟩
  ·refine(PySem.W.exm_one (K:=X.K) (h:=L) I3.vq LT hx0).here ?_;refine wpAny_handleBy_cons (codeAny_handlers_test ?_) (by intro z;cases z);refine jY (X:=X.rG<|.ref a) (I3.mark _) a5 a6 ?_ a3;refine(PySem.W.exm_one (K:=X.K) (h:=L) I3.vq LT hx).here ?_;refine codeAny_handlers_suite<|x9 (s:={ g with heap:=L }) Y ai r fun M Z ax t U=>?_;have I4:Inv X Do p B { g with heap:=M }:=n.land N Z ((Q.trans S).trans U) g.toks;have new:yp X.prog X.w (upd B a<|XF a cls) M a (XF a cls):=by
    obtain⟨x,ab,_,_,_,J,⟨g2,gc⟩,g3,_⟩:=t;exact⟨⟨x,ab,J,g2,g3,gc⟩,⟨x,J⟩,fun u1 u2 ⟨o,v,z1,z2,z3⟩ k=>⟨o,v,k o z1,z2,z3⟩⟩
   have I5:Inv X Do p (upd B a<|XF a cls) { g with heap:=M }:=I4.pq fa new;refine Yg (a9 (.ref a) Do _ _ _ _ (I5.mark _) hth) (fun f s7 E=>?_) fun _ _ z=>z.elim;cases f with
   |ret u=>obtain⟨v,d,i,j,rv,q⟩:=E;exact⟨v,d,i,j.unmark n.ok,rv,q⟩
   |next=>obtain⟨d,i,j,q⟩:=E;exact⟨d,i,j.unmark n.ok,q⟩
   |brk=>obtain⟨d,i,j,q⟩:=E;exact⟨d,i,j.unmark n.ok,q⟩
   |cont=>obtain⟨d,i,j,q⟩:=E;exact⟨d,i,j.unmark n.ok,q⟩
end
end L2
namespace An14
open PySem L2 An
inductive uy (K:Ca)(vs:Dj)(H:Hp)(Q:VK)(e3:XK):Prop
 |mk (c l:Ej) (Dm:Dl) (L:Da) (F:FF) (R:List Rl) (xs:Dj) (h0:vs=[.ref c,.ref l]) (h1:H c=some (.dK Dm)) (h2:AnS.Files K H Dm L F) (h3:oJ F) (h4:L.length<=40) (h5:yx K H l xs) (h6:zy K H (R.map Cr) xs) (h7:R.length<=60) (h8:(∀r∈R,vU r)) (h9:(UH F R=false->∀H',zx H H'->Q (.str "no fit") H')) (h10:(UH F R=true->UX (doneF F R)->∀H',zx H H'->Q (.str "bad files") H')) (h11:(UH F R=true->¬UX (doneF F R)->∀q kv M H',zx H H'->H q=none->H' q=some (.dK kv)->AnS.Files K H' kv M (doneF F R)->M.length<=100->Q (.ref q) H')):uy K vs H Q e3
theorem HN:∀{A B:Da} {x a:Str},UG (A++x::B)=true->a∈A->a.cps.toList<x.cps.toList
 |b::A,B,x,a,h,ha=>by
  have h:((A++x::B).all (fun y=>decide (b.cps.toList<y.cps.toList))&&UG (A++x::B))=true:=h;rw[Zi,ZI]at h
  rcases Zh.mp ha with z|z
  ·rw[z];exact Zr<|h.1 x<|ZA _ Zc
  ·exact HN h.2 z
theorem Bz:∀{A:Da} {x:Str},UG A=true->(∀a∈A,a.cps.toList<x.cps.toList)->UG (A++[x])=true
 |[],_,_,_=>rfl
 |b::A,x,h,al=>by
  have h:(A.all (fun y=>decide (b.cps.toList<y.cps.toList))&&UG A)=true:=h;rw[Zi,ZI]at h;show((A++[x]).all (fun y=>decide (b.cps.toList<y.cps.toList))&&UG (A++[x]))=true;rw[Zi,ZI];refine⟨fun y d=>?_,Bz h.2 fun a c=>al a<|Q9 _ c⟩
  rcases Zy.mp d with z|z
  ·exact h.1 y z
  ·rw[Q6.mp z];exact Zf<|al b Zc
theorem SU (h:UM ls):("":Str).cps.toList<(Cd ls).cps.toList:=by
 have e:("":Str).cps.toList=[]:=by decide +kernel
 rw[e];obtain⟨d,_,hl⟩:=h;cases q:(Cd ls).cps.toList with
 |cons a b=>exact List.nil_lt_cons _ _
 |nil =>
  exfalso;cases ls with
  |nil=>exact d rfl
  |cons l r =>
   have c:cs l≠[]:=fun z=>by
    have:=(vo.mp<|hl l Zc).1;rw[zm,z]at this;exact absurd this (by decide)
   cases r with
   |nil=>exact c<|(qX l).symm.trans q
   |cons m r =>
    have:=(xQ l<|ZR m r).symm.trans q;exact c (VG.mp this).1
section
variable {P:Ek}{w:Eo}{K:Ca}{mg:Str->Dc}{base:EB}{t1 t2 t3 t4 t5 t6 t7:Tok}{aL aC aN aT aA b1 b2:Ej}(T:Txt P w K mg t1 t2 t3 t4 t5 t6 t7 aL aC aN aT aA b1 b2)
namespace A4
abbrev st:Stmt:=top 69
theorem sc:zu ["_law_files","_law_rows"] ["_law_files","_law_rows"] (zF st):=Cn
include T in
theorem ok (F:wX0 K "_law_done" st f fd)(o:uh P w K mg base 6 "rows_done" ["files","rows"]<|pN K b1 b2):yu P w K mg base Ck 7 f fd ["_law_files","_law_rows"] (uy K):=by
 refine F.ok sc fun _ _ _ _ H C Q E u h=>?_;obtain⟨c,l,n,L,Y,R,B,rfl,t,p,g,r,hl,hd,s,ok,v,x,y⟩:=h;refine⟨_,(zE<|SS rfl rfl rfl (fun _ _=>(zE<|zM<|yO o u.m (HK rfl)<|zA (pv 0)<|zA (pv 1) zB)) rfl T.pH (fun _=>(zE<|zM zq)) rfl T.tR (fun _=>(zE<|zM zq))),?_⟩;refine⟨fun i d cls=>zx H d/\((UH Y R=false/\cls=.ref b1)\/(UH Y R=true/\UX (doneF Y R)/\cls=.ref b2)),?_,?_⟩
 ·exact⟨_,rfl,_,rfl,c,l,n,L,Y,R,B,rfl,t,p,g,r,hl,hd,s,ok,fun q d b=>⟨b,.inl ⟨q,rfl⟩⟩,fun q e d b=>⟨b,.inr ⟨q,e,rfl⟩⟩,fun q A=>y q A⟩
 ·rintro i d cls z ⟨b,⟨q,rfl⟩|⟨q,e,rfl⟩⟩ j
  ·exact .inl ⟨T.lO,v q _<|b.trans<|zz j⟩
  ·exact .inr ⟨T.lq,T.lQ,x q e _<|b.trans<|zz j⟩
end A4
namespace A5
abbrev st:Stmt:=top 68
theorem sc:zu ["_law_files","_law_rows","_law_found","_law_last","_law_path","_law_before","_law_after","_law_other"] ["_law_files","_law_rows"] (zF st):=Cn
include T in
theorem ok (F:wX0 K "_law_due" st f fd):yu P w K mg base Ck 1 f fd ["_law_files","_law_rows"] (uy K):=by
 refine F.ok sc fun _ _ _ s H vs Q E hr h=>?_;obtain⟨c,l,Dm,L,Y,R,xs,rfl,hc,hF,ax,hL,hl,hd,hR,ok,k1,k2,k3⟩:=h;refine⟨_,(zD (Cm (i:=2) sc.nd<|zY qO (by rfl) T.dict YA<|zA (pv 0) zB)<|zD (Cm (i:=3) sc.nd zq)<|zD (yU PassesOwn.never rfl (xJ<|pv 1) (jT rfl<|zX (zL (i:=4) sc.nd rfl<|EJ rfl)<|zX (zL (i:=5) sc.nd rfl<|EJ rfl)<|zX (zL (i:=6) sc.nd rfl<|EJ rfl) xX)<|zD (yC (PW.pt<|vL (zU IU (pv 4) (pv 3)<|zW _)<|vL (zU (CW hr.units) (pv 5) (pv 6)<|zW _)<|uP<|zU (kH hr.units) (uX hr.wC (pv 0) (pv 4) ⟨rfl,rfl,rfl,rfl⟩) (pv 5)<|zW _) (zE<|zM zq) zS)<|zD (Cm (i:=3) sc.nd<|pv 4)<|zE<|yC (zU K4 (pv 6) uO<|zW _) (zE<|yD<|Hy (pv 2) (pv 4) ⟨rfl,rfl,rfl,rfl⟩)<|zE<|xV hr.wC (pv 2) (pv 4) (pv 6) rfl)<|zD (HB<|yU PassesOwn.never rfl (XR<|U9<|pv 2) (zL (i:=4) sc.nd rfl<|EJ rfl)<|zE<|yU PassesOwn.never rfl (XR<|pv 2) (zL (i:=7) sc.nd rfl<|EJ rfl)<|zE<|yC (zZ (K:=K)<|qV Yh J9 Va qZ (pv 7)<|zA (zP zK (pv 4) zq) zB) (zE<|zM zq) zS)<|zE<|zM<|pv 2),?_⟩
 have xl:=hd.length;rw[Q5]at xl;refine⟨_,rfl,c,Dm,rfl,.inl hc,fun q nq=>?_⟩;refine nw nq fun H2 u2 hq=>zJ<|zJ ?_;refine⟨_,rfl,l,rfl,⟨_,u2.seq hl⟩,j9 (K:=K) (a:=l) (xs:=xs) (fun i C I=>∃o4 o5 o6 G B M b,C=[some<|.ref c,some<|.ref l,some<|.ref q,some<|.str b,o4,o5,o6,G]/\zx H I/\I q=some (.dK B)/\AnS.Files K I B M (doneF Y<|R.take i)/\M.length<=L.length+i/\UH Y (R.take i)=true/\(∀s∈(R.take i).map (·.1),s=b\/s.cps.toList<b.cps.toList)/\(b=""\/b∈(R.take i).map (·.1))) ⟨none,none,none,none,Dm,L,"",rfl,u2,hq,hF.same u2,Zd _,rfl,fun s hs=>(nomatch hs),.inl rfl⟩ (fun i C I hi ⟨_,_,_,_,_,_,_,_,e,_⟩=>e.seq hl) ?_ ?_⟩
 ·rintro i x C I hx ⟨o4,o5,o6,G,B,M,b,rfl,e,g,d,ml,Z,al,la⟩;obtain⟨r,t,y,z,A,rfl,ht,dy,dz⟩:=HR hd hx;have rm:=Zm A;obtain⟨⟨ls,lb,ep⟩,o1,o2⟩:=ok r rm;have a6:=(Zq.mp A).1;have s1:=AnS.wN o1.ok;have s2:=AnS.wN o2.ok;have split:R=R.take i++r::R.drop (i+1):=by
   have:=YJ i R;rw[JB a6,(Zq.mp A).2]at this;exact this.symm
  have ab:(b.cps.toList<r.1.cps.toList->r.2.1≠r.2.2->r.2.1=Y r.1->False)->UH Y R=false:=fun no=>by
   rw[Yd];intro h;obtain⟨a1,a2,_⟩:=Pm h A;refine no ?_ a1 a2
   rcases la with z|z
   ·rw[z,ep];exact SU lb
   ·unfold UH at h;rw[Zi]at h;have h1:=h.1;rw[split,Zg,Zv]at h1;exact HN h1 z
  refine⟨t,_,rfl,e.yd ht,rfl,_,_,rfl,zJ ⟨_,_,rfl,zJ ⟨_,_,rfl,zJ ⟨rfl,?_⟩⟩⟩⟩;refine⟨_,rfl,_,rfl,_,_,rfl,rfl,_,rfl,Ux (fun z1=>Uv<|k1 (ab fun h _ _=>?_) _ e) (fun z1=>?_)⟩
  ·have z1:(!decide (b.cps.toList<r.1.cps.toList))=true:=z1;rw[Zf h]at z1;cases z1
  have lt:b.cps.toList<r.1.cps.toList:=Lk fun h=>z1 (by
   show(!decide (b.cps.toList<r.1.cps.toList))=true;rw[Zo h];rfl)
  refine⟨_,rfl,_,rfl,_,_,Dt.same e _ _ dy,Dt.same e _ _ dz,s1,s2,_,rfl,?_⟩;rw[AnS.su];refine Ux (fun z2=>Uv<|k1 (ab fun _ h _=>h<|Zr z2) _ e) (fun z2=>?_);have ne:r.2.1≠r.2.2:=fun h=>z2<|Zf h;have a0:=e _ _ hc;refine⟨_,rfl,c,rfl,bG a0,_,rfl,_,v9.k (k:=.inr r.1) a0,_,rfl,_,_,Dt.same e _ _<|hF.get r.1,Dt.same e _ _ dy,AnS.wN<|ax.ok r.1,s1,_,rfl,?_⟩;rw[AnS.su];refine Ux (fun z3=>k1 (ab fun _ _ h=>?_) _ e) (fun z3=>?_)
  ·have z3:(!decide (Y r.1=r.2.1))=true:=z3;rw[Zf h.symm]at z3;cases z3
  have eq:r.2.1=Y r.1:=Lk fun h=>z3 (by
   show(!decide (Y r.1=r.2.1))=true;rw[Zo fun w=>h w.symm];rfl)
  have ay:UH Y (R.take<|i+1)=true:=by
   unfold UH at Z ⊢;rw[Zi]at Z;rw[yo A,Zg,List.all_append,Z.2,Bool.true_and,Zi];refine⟨Bz Z.1 fun a ha=>?_,?_⟩
   ·rcases al a ha with w|w
    ·rwa[w]
    ·exact List.lt_trans w lt
   ·show((decide (r.2.1≠r.2.2)&&decide (r.2.1=Y r.1))&&true)=true;rw[Zf ne,Zf eq];rfl
  have an:∀s∈(R.take<|i+1).map (·.1),s=r.1\/s.cps.toList<r.1.cps.toList:=by
   rw[yo A,Zg];refine xE (fun s hs=>?_)<|.inl rfl
   rcases al s hs with w|w
   ·rw[w];exact .inr lt
   ·exact .inr (List.lt_trans w lt)
  have a4:r.1=""\/r.1∈(R.take<|i+1).map (·.1):=.inr (by
   rw[yo A,Zg];exact ZA _<|Q6.mpr rfl)
  have a3:doneF Y (R.take i) r.1=Y r.1:=FM fun s hs z=>by
   rcases al s.1 (Za.mpr ⟨s,hs,rfl⟩) with w|w
   ·rw[←w,z]at lt;exact JM _ lt
   ·rw[z]at w;exact JM _<|List.lt_trans w lt
  refine⟨_,rfl,zJ ?_⟩
  rcases nO (Dt.same e _ _ dz) with⟨n,rfl⟩|⟨ls,a,es,rfl⟩
  ·obtain⟨v,ev,M',hM,lM⟩:=NU g d A n ne eq a3;exact⟨_,rfl,rfl,_,rfl,Uv ⟨_,rfl,q,rfl,bG g,_,rfl,B,.inr r.1,v,g,rfl,ev,_,_,_,_,_,M',_,rfl,An.zx.tB e nq,zC,hM,by lia,ay,an,a4⟩⟩
  ·obtain⟨M',hM,lM⟩:=NV g d A es<|Dt.same e _ _ dz;exact⟨_,rfl,rfl,_,rfl,Ut ⟨_,rfl,_,rfl,_,rfl,q,_,rfl,vy.k (k:=.inr r.1) g<|yI (by have:=d.is.len;lia),_,_,_,_,_,M',_,rfl,An.zx.tB e nq,zC,hM,by lia,ay,an,a4⟩⟩
 ·rintro C I ⟨o4,o5,o6,G,B,M,b,rfl,e,g,d,ml,Z,al,la⟩;rw[xl,ZF]at d Z;have X:=Il ax ok;have kl:B.length=M.length:=d.is.len;refine⟨_,rfl,q,B,rfl,g,fun O=>?_⟩;have D:upd I q (.frz O<|.dK B) q=some (.frz O<|.dK B):=zC;have n0:∀o u,H q≠some (.frz o u):=fun o u z=>by rw[nq]at z;cases z
  have U:∀{S:Hp},zx (upd I q<|.frz O<|.dK B) S->zx H (upd S q<|.dK B):=fun{S} J=>e.trans<|jR g J;refine⟨q,O,B,rfl,D,uY (fun i C S=>∃o4 G,C=[some<|.ref c,some<|.ref l,some<|.ref q,some<|.str b,o4,o5,o6,G]/\zx (upd I q<|.frz O<|.dK B) S/\∀p∈M.take i,∀s∈M,Uy p s=false) ⟨o4,G,rfl,zx.refl _,fun p hp=>(nomatch hp)⟩ (fun i C S _ ⟨_,_,_,J,_⟩=>J _ _ D) ?_ ?_⟩
  ·rintro i kk v C S hi ⟨o4,G,rfl,J,apart⟩;obtain⟨eL,ek⟩:=d.is.at hi;have hm:=Zm eL;obtain⟨lp,ls,eF,ln,lb,ep⟩:=d.path X hm;have ek:kk=.inr (Cd ls):=by rwa[←ep]
   rw[ep]at eL hm;subst ek;have e1:("/":Str).length=1:=by decide +kernel
   have pl:=CY lb.2.1 lb.2.2;refine zJ ⟨_,rfl,q,O,B,rfl,J _ _ D,uY (fun j C H4=>∃G,C=[some<|.ref c,some<|.ref l,some<|.ref q,some<|.str b,some<|.str<|Cd ls,o5,o6,G]/\zx (upd I q<|.frz O<|.dK B) H4/\∀s∈M.take j,Uy (Cd ls) s=false) ⟨G,rfl,J,fun s hs=>(nomatch hs)⟩ (fun j C H4 _ ⟨_,_,s4,_⟩=>s4 _ _ D) ?_ ?_⟩
   ·rintro j a7 v2 C H4 hj ⟨G,rfl,s4,N⟩;obtain⟨ai,ap⟩:=d.is.at hj;have aj:=Zm ai;obtain⟨bi,a5,a8,bd,a9,as⟩:=d.path X aj;have ap:a7=.inr (Cd a5):=by rwa[←as]
    rw[as]at ai aj;subst ap;refine zJ ⟨_,rfl,rfl,_,rfl,_,_,rfl,rfl,zr<|by lia,_,_,rfl,rfl,_,rfl,Ux (fun z=>?_)<|fun z=>⟨_,rfl,s4,?_⟩⟩
    ·have z:Uy (Cd ls) (Cd a5)=true:=z;exact⟨q,O,B,s4 _ _ D,n0,k2 Z ⟨_,_,(d.mem _).mp hm,(d.mem _).mp aj,z⟩ _<|U s4⟩
    ·rw[yo ai];exact xE N<|Yd.mpr z
   ·rintro C H4 ⟨G,rfl,s4,N⟩;rw[kl,ZF]at N;refine⟨_,_,rfl,s4,?_⟩;rw[yo eL];exact xE apart N
  ·rintro C S ⟨o4,G,rfl,J,apart⟩;rw[kl,ZF]at apart;refine⟨q,O,B,J _ _ D,n0,?_⟩;refine⟨_,rfl,k3 Z (fun⟨p,s,h1,h2,w⟩=>?_) q B M _ (U J) nq zC ?_<|by lia⟩
   ·rw[apart p ((d.mem p).mpr h1) s<|(d.mem s).mpr h2]at w;cases w
   ·exact(d.same<|jR g J)
end A5
end
end An14
namespace L2
open PySem PySem.Spec PyProof.Rows PySem.W AxK
section
variable {X:Cx}{Do:De}{σ:St}{H:Hp}{s:Em}{d:Ej}
theorem Inv.lG {w:Obj}{xs:Dj}(I:Inv X Do σ H s)(hd:H d=some (.frz w<|.lst xs))(t:∀o u,X.H₀ d≠some (.frz o u)):Inv X Do σ (upd H d<|.lst xs) s:=by
 have ne:∀{b:Ej},H b=none->b≠d:=fun{b} e z=>by rw[z,hd]at e;cases e
 have nt:∀{b:Ej} {z:HO},H b=some z->(∀o v,z≠.frz o v)->b≠d:=fun{b z} e n q=>by rw[q,hd]at e;exact n _ _ (Option.some.inj e).symm
 refine⟨I.ok,I.os,I.bare,⟨I.base.keep,I.base.slot,fun b o f j l=>?_,I.base.there,fun b xs f=>?_,fun b o u f=>?_,fun b y f=>?_⟩,I.loc,I.cell,?_,fun x c f=>?_,fun p r=>?_,fun b u f=>?_,I.len⟩
 ·have:=I.base.free b o f j l;rwa[zG<|ne this]
 ·have:=I.base.tups b xs f;rwa[zG<|nt this fun o v z=>(nomatch z)]
 ·have:=I.base.wg b o u f;rw[zG fun z=>t o u<|by rwa[←z]];exact this
 ·obtain⟨more,this⟩:=I.base.vz b y f;exact⟨more,by rw[zG<|nt this fun o v z=>(nomatch z)];exact this⟩
 ·rw[zG<|ne I.free];exact I.free
 ·have:=I.wQ x c f;rwa[zG<|ne this]
 ·obtain⟨h,g,i⟩:=I.pin p r;exact⟨h,by rw[zG<|ne g];exact g,i⟩
 ·by_cases z:b=d
  ·rw[z,zC]at f;cases f;rw[z];exact(I.hok d _ hd).2
  ·rw[zG z]at f;exact(I.hok b u f).oX hd
end
section
variable {X:Cx}{Do:De}{σ:St}{H H3:Hp}{s:Em}{A:EF}{E:Ei->Dh}
theorem bw {D:Ej}{g:Nat}{st:SortSt}{l b:Dj}{out:Db}{P:PySem.Fin->Dh}(I:Inv X Do σ (upd H3 kS<|.lst l) s)(hd:H3 D=some (.frz (EQ "list" #[] g)<|.lst []))(ne:D≠kS)(y:∀o u,X.H₀ D≠some (.frz o u))
  (hl:l.length<=sizeLine) (d:(arrOf st).map (·.2)=EY out) (v:failedOf st=none) (q:yr b out) (hz:b.length<=sizeLine)
  (h:∀s2,Inv X Do σ (upd (upd H3 kS<|.lst []) D<|.lst b) s2->P (.done<|.ret .none) s2):El (Ep X.prog X.w) A (ksk_tail D false g (.ref kS) st) P E s:=by
 obtain⟨z,its,n,r,x,e⟩:=I.o9 zC;have i:=I.m7 (DR:=[]) (ys:=[]) (f:=fun _=>#[]) (t':=s.toks) zC e rfl .nil<|ZD _;rw[vM]at i;have c:upd H3 kS (.lst []) D=some (.frz (EQ "list" #[] g)<|.lst []):=by rwa[zG ne]
 have j:=(i.hok D _ c).1;have t:=i.lG c y;have p:=t.m7 (DR:=out) (ys:=b) (f:=fun _=>EY out) (t':=s.toks) zC (its:=[]) (n:=g) j rfl q hz;rw[vM]at p;unfold ksk_tail
 try dsimp only
 rw[d];refine Q4 (J2 e rfl ?_ (by rw[Zp];lia)<|ZD _);refine Q4<|wpAny_letGo ?_;refine Q4<|seqEpoch_at j rfl ?_;refine Q4 (J2 j rfl ?_ (ZD _) (by
  have:=q.length;simp only[ZU,Js,Zp];lia))
 rw[v];simp only[bne_self_eq_false,ZU,Js];exact Q7<|h _ p
theorem bS {D:Ej}{K:Nat}{ks:Da}{vs:Dj}{its keys:Db}{P:PySem.Fin->Dh}(I:Inv X Do σ (upd H3 kS<|.lst<|ks.map V.str) s)(hd:H3 D=some (.frz (EQ "list" #[] K)<|.lst []))(ne:D≠kS)(n0:∀o u,X.H₀ D≠some (.frz o u))
  (R:yr (ks.map V.str) keys) (S:yr vs its) (ab:vs.length<64) (hk:ks.length=vs.length)
  (h:∀(s2:Em) (p:List Nat),p.Perm (EC vs.length)->((p.map fun i=>ks.getD i "").Pairwise An.pW)->Inv X Do σ (upd (upd H3 kS<|.lst []) D<|.lst<|p.map fun i=>vs.getD i .non) s2->P (.done<|.ret .none) s2) :
  El (Ep X.prog X.w) A (ksk_end D false its.toArray K (.ref kS) keys.toArray) P E s:=by
 have step:∀t:Sem PySem.Fin,El (Ep X.prog X.w) A t P E s->El (Ep X.prog X.w) A (if false=true then(do let _ ←rule "list.sort.reverse";t) else t) P E s:=by
  intro t ht;rwa[Zs<|by decide]
 have l1:=S.length;have l2:=R.length;rw[Q5]at l2;have B:keys.length=its.length:=by lia
 have f:its.toArray.size=its.length:=by simp
 have DD:64<=sizeLine:=by rw[Ym];decide
 have F:∀(p:Array Nat) (g:Em) (st:SortSt),Inv X Do σ (upd H3 kS<|.lst<|ks.map V.str) g->p.toList.Perm (EC vs.length)->((p.toList.map fun i=>ks.getD i "").Pairwise An.pW)->(arrOf st).map (·.2)=EY (p.toList.map fun i=>its.getD i EI)->failedOf st=none ->
   El (Ep X.prog X.w) A (ksk_tail D false K (.ref kS) st) P E g:=fun p g st U J pw ho M=>by
  have pm:∀i∈p.toList,i<vs.length:=fun i b=>YV.mp<|J.mem_iff.mp b;have hl:p.toList.length=vs.length:=by rw[J.length_eq,Z8]
  exact bw U hd ne n0 (by rw[Q5];lia) ho M (Xj S p.toList pm) (by rw[Q5];lia) fun s2 Y=>h s2 p.toList J pw Y
 unfold ksk_end
 try dsimp only
 refine step _ ?_;simp only[ZU,Js]
 by_cases h2:its.length<2
 ·rw[Zt<|by rwa[f],Zt<|by rwa[f]];refine Q4<|Q7 ?_;rw[StateT.run_pure];refine Q4<|Q7 ?_
  try dsimp only
  refine F (EY<|EC vs.length) s _ I (by simp) ?_ ?_ rfl
  ·have:(EY<|EC vs.length).toList=EC vs.length:=by simp
   rw[this];rw[Jz];intro i j b r H;rw[Q5,Z8]at b r;lia
  ·have e:=kas_range<|keys.toArray.zip its.toArray;rw[show(keys.toArray.zip its.toArray).size=vs.length by simp;lia]at e;exact kat_snds (ks:=keys) (vs:=its) (st:=SortSt.mk' general' (keys.toArray.zip its.toArray) #[] 7 none) B e.symm
 ·have L:2<=its.length:=by lia
  rw[Zs<|by rwa[f],Zs<|by rwa[f]];have at_:∀i,i<its.length->∃t,keys.getD i EI=.str (ks.getD i "") t:=fun i b=>by
   obtain⟨u,q,z⟩:=R.get (i:=i) (x:=.str<|ks.getD i "") (by
    rw[Zj,Zb<|by lia,ZY,Zb<|by lia];rfl)
   obtain⟨t,rfl⟩:=z;exact⟨t,by rw[ZY,q];rfl⟩
  refine Q4 (kas_kind (by lia) (T:=.type "str") (fun v hv=>?_) (by decide) (by decide) ?_)
  ·obtain⟨i,q⟩:=Yl.mp hv;have b:i<its.length:=by have:=(Zq.mp q).1;lia
   obtain⟨t,e⟩:=at_ i b;rw[ZY,q]at e;have e:v=_:=e;rw[e];exact .now
  have y:(kas_sort its.length).kasWp (kas_ask X.prog X.w A oneType' keys) (fun p g=>p=run (fun i j=>AnJ.wI.lt (ks.getD i "")<|ks.getD j "") (kas_sort its.length)/\g=s) s :=
   (Be<|by lia).wp (lt:=fun i j=>AnJ.wI.lt (ks.getD i "")<|ks.getD j "") (fun i j b r C c=>by
    obtain⟨t,e⟩:=at_ i b;obtain⟨t',e'⟩:=at_ j r;unfold kas_ask;rw[e,e'];refine kas_lt_str ?_;rwa[←AnJ.sU]) ⟨rfl,rfl⟩
  obtain⟨d,ep,J,up⟩:=NX (O:=AnJ.wI) (key:=fun i=>ks.getD i "") (n:=its.length) (by lia);refine Q4 (Yg (kat_run (Q:=fun l g=>arrOf l=(run (fun i j=>AnJ.wI.lt (ks.getD i "")<|ks.getD j "") (kas_sort its.length)).map (kas_item<|keys.toArray.zip its.toArray)/\failedOf l=none/\g=s) B L (by lia) (fun d l g a1 Z a3 a4=>by obtain⟨rfl,rfl⟩:=a4;exact⟨Z,a3,rfl⟩) y) ?_ fun _ _ e=>e)
  rintro⟨⟨⟩,l⟩ g ⟨G,M,rfl⟩
  try dsimp only
  rw[ep]at G;have N:d.toList.Perm (EC its.length):=by simpa using Array.perm_iff_toList_perm.mp J
  have hl:d.toList.length=its.length:=by rw[N.length_eq,Z8]
  refine F d _ _ I (by rwa[l1]) ?_ (kat_snds B G) M;rw[Jz];intro i j b r H;rw[ZQ,ZQ];have:=up i j (Yu H) (by rw[Q5,hl]at r;exact r);unfold kn at this;rw[Q5,Zw]at b r;rw[ZE,ZE,VE d i b,VE d j r]at this;have this:AnJ.wI.le (ks.getD d[i] "") (ks.getD d[j] ""):=by simpa using this
  have this:AnJ.wI.lt (ks.getD d[j] "") (ks.getD d[i] "")=false:=this;rw[AnJ.sU]at this;exact Ju this
theorem keyed {D:Ej}{d:EB}{n:Nat}{ks:Da}{vs:Dj}{its:Db}{f:Ei}{P:PySem.Fin->Dh}(I:Inv X Do σ H s)(kp:∀b o,s.heap.get? b=some o->d.get? b=some o)(U:s.heap.objs.size<=D)
  (Y:d.get? D=some (EQ "list" its.toArray n)) (rv:yr vs its) (T:vs.length<64) (hk:ks.length=vs.length)
  (hc:∀(i:Nat) v u k,vs[i]?=some v->yq v u->ks[i]?=some k->∀H2 s2,zx H H2->Inv X Do σ H2 s2->El (Ep X.prog X.w) A (call f [u]) (EP X Do σ<|fun r H3=>r=.str k/\H3=H2) (fun _ _=>False) s2)
  (h:∀(H2:Hp) (s2:Em) (p:List Nat),zx H H2->p.Perm (EC vs.length)->((p.map fun i=>ks.getD i "").Pairwise An.pW)->H2 D=some (.lst<|p.map fun i=>vs.getD i .non)->Inv X Do σ H2 s2->P (.done<|.ret .none) s2) :
  El (Ep X.prog X.w) A (ksk_tree D f false) P E { s with heap:=d }:=by
 have l1:=rv.length;have DD:64<=sizeLine:=by rw[Ym];decide
 obtain⟨c,J⟩:∃c,(d.update D<|EO fun _=>(#[]:Array Ei)).get? D=some (EQ "list" #[] c):=⟨_,get?_update_seq Y fun _=>#[]⟩;have l:((d.update D<|EO fun _=>(#[]:Array Ei)).push (EQ "tuple" its.toArray 0)).get? D=some (EQ "list" #[] c):=Q8 _ J;have ab:∀b o,s.heap.get? b=some o->((d.update D<|EO fun _=>(#[]:Array Ei)).push (EQ "tuple" its.toArray 0)).get? b=some o:=fun b o q =>
  Q8 _ (by rw[Ua _ _ _ _<|Zu<|ZC (Zl q) U];exact kp b o q)
 unfold ksk_tree;refine Q4<|listItems_at Y rfl ?_;refine Q4 (J2 Y rfl ?_ (by rw[Zp];lia)<|ZD _);refine Q4<|seqEpoch_at J rfl ?_;refine Q4 (Uf ?_ (by show its.length<=_;lia));refine Q4<|VX ?_<|ZD _;refine ZW ?_;show El (Ep X.prog X.w) A _ P E { s with heap:=((d.update D<|EO fun _=>(#[]:Array Ei)).push (EQ "tuple" its.toArray 0)).push (EQ "list" #[] 0) };have g:H D=none:=I.hok.fresh U;have n0:∀o u,X.H₀ D≠some (.frz o u):=fun o u z=>by
  have:=I.base.wg D o u z;rw[g]at this;cases this
 have Q:Inv X Do σ (upd H D<|.frz (EQ "list" #[] c)<|.lst []) { s with heap:=(d.update D<|EO fun _=>(#[]:Array Ei)).push (EQ "tuple" its.toArray 0),toks:=s.toks } :=
  I.laid ab U ⟨l,ZD _,[],c,.nil,l⟩
 have C:D<((d.update D<|EO fun _=>(#[]:Array Ei)).push (EQ "tuple" its.toArray 0)).objs.size:=Zl l;generalize (d.update D<|EO fun _=>(#[]:Array Ei)).push (EQ "tuple" its.toArray 0)=S at Q C ⊢;have R:=Q.oO (its:=[]) (ys:=[]) (t':=s.toks) .nil<|ZD _;have y:upd H D (.frz (EQ "list" #[] c)<|.lst []) S.objs.size=none:=Q.fresh;have ne:D≠S.objs.size:=Zu C;generalize S.objs.size=kS at R y ne ⊢;have B:upd H D (.frz (EQ "list" #[] c)<|.lst []) D=some (.frz (EQ "list" #[] c)<|.lst []):=zC;have sm:zx H (upd H D<|.frz (EQ "list" #[] c)<|.lst []):=An.zz g;generalize upd H D (.frz (EQ "list" #[] c)<|.lst [])=H3 at R y B sm;have M:∀o,zx H (upd H3 kS o):=fun o=>sm.trans<|An.zz y;unfold ksk_rest;refine Q4<|JH ?_
 first
  |rw[List.forIn_toArray]
  |(rw[←Vs];simp only[List.toList_toArray])
  |rw[←Vs]
 refine Q4<|ksk_fold (fun i O=>Inv X Do σ (upd H3 kS<|.lst<|(ks.take i).map V.str) O) its 0 _ R (fun j x O hx hI=>?_) fun O e=>?_
 ·rw[JX]at hI ⊢;have hj:j<its.length:=(Zq.mp hx).1;have Z:vs[j]?=some (vs[j]'(by lia)):=Zb _;obtain⟨x',K,L⟩:=rv.get Z;rw[hx]at K;cases K;generalize vs[j]'(by lia)=v at Z L;have F:ks[j]?=some (ks[j]'(by lia)):=Zb _;refine Q4<|VW<|Yg (hc j v x _ Z L F _ O (M _) hI) (fun u ai ⟨r,H',I',rr,er,eH⟩=>?_) fun _ _ hF=>hF.elim;subst er eH;obtain⟨t,rfl⟩:=rr;obtain⟨z,DR,n',r',G,N⟩:=I'.o9 zC;rw[Q5,Zx]at G
  try dsimp only
  refine Q4 (J2 N rfl ?_ (by rw[Zp];lia)<|ZL (JQ<|Array.size_push ..) (by rw[Zp];lia));refine Q7 ⟨rfl,?_⟩;have I6:=I'.m7 (DR:=DR++[.str (ks[j]'(by lia)) t]) (ys:=(ks.take<|j+1).map V.str) (f:=(·.push (.str (ks[j]'(by lia)) t))) (t':=ai.toks) zC N (by simp) (by
   rw[YT,F,Zg];exact r'.append<|.cons ⟨_,rfl⟩ .nil) (by rw[Q5,Zx];lia)
  rw[vM]at I6;exact I6
 ·rw[JX,YR<|by lia]at e;obtain⟨z,keys,n',r',G,N⟩:=e.o9 zC
  try dsimp only
  refine Q4<|listItems_at N rfl ?_;exact bS e B ne n0 r' rv T hk fun s2 p pp pw I2=>h _ s2 p (An.zx.tB (M _) g) pp pw zC I2
end
open PySem.Calls
def BMain (mg:Str->Dc)(base:EB):Prop:=∃c b,mg "__builtins__"=some (.ref c)/\c≠builtinsNs/\base.get? c=some b/\b.cls=.type "module"/\b.dict=some builtinsNs/\b.data=.plain
theorem Inv.jr (I:Inv X Do σ H s){p q:Ej×Obj}
  (c:s.heap.get? p.1=some p.2/\H p.1=none/\p.1≠X.env.locals/\p.1∉X.fs/\∀v,p.2.data≠.cell v) (d:s.heap.get? q.1=some q.2/\H q.1=none/\q.1≠X.env.locals/\q.1∉X.fs/\∀v,q.2.data≠.cell v):Inv X (p::q::Do) σ H s :=
 ⟨I.ok,I.os,I.bare,I.base,I.loc,I.cell,I.free,I.wQ,fun r b=>by
  rcases Zy.mp b with z|z
  ·exact I.pin r (ZZ _ z)
  ·rcases Zh.mp z with z|z
   ·rwa[z]
   ·rcases Zh.mp z with z|z
    ·rwa[z]
    ·exact I.pin r (ZA _ z),I.hok,I.len⟩
theorem Inv.mK {b:De}{p q:Ej×Obj}(I:Inv X (p::q::b) σ H s):Inv X b σ H s :=
 ⟨I.ok,I.os,I.bare,I.base,I.loc,I.cell,I.free,I.wQ,fun r c=>I.pin r (by
  rcases Zy.mp c with z|z
  ·exact ZZ _ z
  ·exact ZA _ (.tail _<|.tail _ z)),I.hok,I.len⟩
section
variable {X:Cx}{Do:De}{σ:St}{H:Hp}{s:Em}{E:Ei->Dh}{params:Arguments}{body:EN}{scope:LV}{pos:Pos}
theorem Wo {P c:Ej}{Q:Ei->Dh}(I:Inv X Do σ H s)(j:H P=some (.tbl #[]))(hc:X.env.code=.ref c)(hC:codeHdIn X.K c P=true)(bm:BMain X.mg X.base)(C:defaultsOf params X.env=([],[]))(O:MB scope X.env=Lo [])
  (h:∀f c' oc vs t ctv pm ps' s',Inv X ((f,kla_obj "<lambda>" (X.env.qual++"<lambda>") params body scope [] pm c' ctv)::(c',oc)::Do) σ (upd H P<|.tbl ps') s'->oc.data=.fields vs->vs[1]?=some (.str (X.env.qual++"<lambda>") t)->Q (.ref f) s') :
  El (Ep X.prog X.w) X.A (E8 (.Lambda params body scope pos) X.env) Q E s:=by
 obtain⟨b,ob,b1,b2,G,b4,b5,J⟩:=bm;have U:=I.ok.mod.glob;have ne:∀{a:Ej} {o:Obj},X.base.get? a=some o->a≠P:=fun{a o} e z=>by
  have:=(I.bs a o e).2;rw[z,j]at this;cases this
 have S:Ew≠P:=let ⟨o,_,_,e,_⟩:=U;ne e;have N:b≠mainGlobals:=fun q=>by
  obtain⟨o,es,ep,e,hd,_⟩:=U;rw[q,e]at G;cases G;rw[hd]at J;cases J
 have M:s.heap.get? P=some (tabObj #[]):=I.hok P _ j;refine kla_eval C<|kla_makeFunction (mg:=X.mg) (ps:=#[]) (c:=c) (P:=P) O I.ok.glob (U.keeps I.bk) hc (codeHd_of_K I.vq hC) M trivial rfl S ⟨b,ob,b1,b2,N,ne G,I.bk _ _ G,b4,b5,J⟩ fun c' ctv y tk hx p T D Z=>?_;obtain⟨c2,oc,vs,t,e2,Y,hd,hv⟩:=D;cases e2;have hL:=I.lt;have x:s.heap.objs.size<=y.objs.size:=Yu<|JV p T;have F:∀{d:Ej},H d=none->d≠P:=fun{d} e z=>by rw[z,j]at e;cases e
 have kp:∀d o,d≠P->s.heap.get? d=some o->(y.push<|kla_obj "<lambda>" (X.env.qual++"<lambda>") params body scope [] ((X.mg "__name__").getD .none) c' ctv).get? d=some o:=fun d o n e=>Q8 _<|hx d o n e;have L:(y.push<|kla_obj "<lambda>" (X.env.qual++"<lambda>") params body scope [] ((X.mg "__name__").getD .none) c' ctv).get? P=some (tabObj<|#[]++#[ET pos.line,ET pos.col,.ref c']):=Q8 _ Z;have fr:∀{d:Ej},s.heap.objs.size<=d->upd H P (.tbl<|#[]++#[ET pos.line,ET pos.col,.ref c']) d=none:=fun{d} l=>by
  have n:=I.hok.fresh l;rwa[zG<|F n]
 have R:(y.push<|kla_obj "<lambda>" (X.env.qual++"<lambda>") params body scope [] ((X.mg "__name__").getD .none) c' ctv).get? y.objs.size=some (kla_obj "<lambda>" (X.env.qual++"<lambda>") params body scope [] ((X.mg "__name__").getD .none) c' ctv):=Zk _ rfl;refine h y.objs.size c' oc vs t ctv _ (#[]++#[ET pos.line,ET pos.col,.ref c']) _ (Inv.jr (I.step (g':=s.gens) (d':=s.drawn) (t':=tk) (ch:=[]) (H':=upd H P<|.tbl<|#[]++#[ET pos.line,ET pos.col,.ref c']) (fun _ z=>nomatch z) (fun d o _ _ _ e n=>kp d o (F n) e) (fun d o _ _ _ e n=>⟨o.slots,kp d o (F n) e⟩) (fun d o _ e n=>by rwa[zG<|F n]) (fun d o _ e=>?_) (fun d xs e=>?_) (fun d o u e=>?_) (fun d ps e=>?_) (fun m hn=>?_) (fun d u e=>?_) I.bare) ⟨R,fr x,YO<|ZC hL x,I.mF x,fun v z=>nomatch z⟩ ⟨Q8 _ Y,fr p,YO<|ZC hL p,I.mF p,fun v z=>by rw[hd]at z;cases z⟩) hd hv
 ·by_cases z:d=P
  ·rw[z];exact⟨_,L⟩
  ·exact⟨o,kp d o z e⟩
 ·rw[zG fun z=>by rw[z,j]at e;cases e];exact e
 ·rw[zG fun z=>by rw[z,j]at e;cases e];exact e
 ·by_cases z:d=P
  ·rw[z,j]at e;cases e;rw[z];exact⟨_,zC⟩
  ·exact⟨#[],by rw[zG z,e];simp⟩
 ·obtain⟨o,es,ep,e,r⟩:=hn;exact⟨o,es,ep,kp _ _ (F I.free) e,r⟩
 ·by_cases z:d=P
  ·rw[z,zC]at e;cases e;rwa[z]
  ·rw[zG z]at e;refine(I.hok d u e).stay (fun g v B i=>kp g v ?_ i) (fun g i=>?_) fun g xs i=>?_
   ·rintro rfl
    rcases B with B|B
    ·exact z B.symm
    ·rw[j]at B;cases B
   ·rw[zG fun z=>by rw[z,j]at i;cases i];exact i
   ·rw[zG fun z=>by rw[z,j]at i;cases i];exact i
theorem S5 {k:Nat}{f g:Ej}{nm qual:Str}{pm h:Ei}{Q:VK}{us:Db}{vs:Dj}(S:zu N ps scope)(G:xu (k+3) X.A)(I:Inv X Do σ H s)(F:s.heap.get? f=some (kla_obj nm qual params body scope [] pm g h))(j:s.heap.CodeRec (.ref g) qual)
  (C:bindArgs (kla_fn nm qual params body scope [] pm (.ref g) h) ⟨us,[]⟩=Lo (ps.zip us)) (r:yr vs us) (hl:vs.length=ps.length)
  (t:∀(A:EF) (outer:List Env),xu k (A.deeper<|Mr qual scope s.heap.objs.size f<|.ref g)->∃te,PE (Xf Ck X.prog X.w X.K X.mg X.base N qual scope f (.ref g) A outer s H E0) body te/\te (start N vs) H Q) :
  El (Ep X.prog X.w) X.A.in1.in1 (call (.ref f) us) (EP X Do σ Q) E s:=by
 have d:xu (k+1) X.A.in1.in1:=xu.in1<|xu.in1 G;have B:=I.env0.in1.in1;obtain⟨te,M,c⟩:=t X.A.in1.in1 X.stack<|d.deeper _;have l:=I.nolimit;have b:∀y∈ps.zip us,scope.names.lookup y.1=some .local\/(scope.names.lookup y.1=some .cell/\((cellsFrom (s.heap.objs.size+1) scope.names []).lookup y.1).isSome=true):=fun⟨n,v⟩ O=>by
  rcases S.par n (JZ O).1 with q|q
  ·exact .inl q
  ·exact .inr ⟨q,Vy _ _ _<|.inl q⟩
 have run:L1 (Ep X.prog X.w) X.A.in1.in1 (.call (.ref f) ⟨us,[]⟩) (CR Ck X.stack X.prog X.w H s Q E0) s:=by
  refine kla_callFunE d.depth F rfl S.co S.gen rfl j ?_;rw[C];refine Q7 ?_;refine wpAny_newFunctionEnv_cells S.kind b fun env D p x=>?_;subst D;refine⟨l.keeps x.toInCall.keep,kla_codeExpr ?_⟩;have J:Inv (Xf Ck X.prog X.w X.K X.mg X.base N qual scope f (.ref g) X.A.in1.in1 X.stack s H E0) [] (start N vs) H p:=Bi S d.hd B hl r x;exact Yg (M [] p (start N vs) H _ J c) (fun u o ⟨v,z,i,P,q⟩=>⟨v,z,i.os,i.bare,i.base,i.hok,P,q⟩) fun e o L=>L
 refine VQ<|YW run fun r o c=>?_;cases r with
 |error e=>exact c.elim
 |ok fl =>
  cases fl with
  |ret u=>exact I.after c
  |next=>exact EL c
  |brk=>exact EL c
  |cont=>exact EL c
end
def RA (K:Ca)(P:Ej)(N:Da)(h:TE)(x:V)(d:Hp)(Q:VK):Prop:=∃(a:Ej) (c:Dj) (f:Da),x=.ref a/\yx K d a c/\c.length<64/\f.length=c.length/\d P=some (.tbl #[]) /\
 ∀e,(∀(i:Nat) (v:V) (k:Str),c[i]?=some v->f[i]?=some k->∀b,zx (upd d P<|.tbl e) b->h (start N [v]) b (fun r g=>r=.str k/\g=b)) /\
 ∀(l:Ej) (b:Hp) (p:List Nat),zx (upd d P<|.tbl e) b->d l=none->p.Perm (EC c.length)->((p.map fun i=>f.getD i "").Pairwise An.pW)->b l=some (.lst<|p.map fun i=>c.getD i .non)->Q (.ref l) b
def WX (K:Ca)(P:Ej)(N:Da)(c d:TE):TE:=fun e H Q=>d e H fun x b=>RA K P N c x b Q
theorem Rr {X:Cx}{k:Nat}{P c:Ej}{params:Arguments}{body:EN}{e:EN}{te M:TE}{p E kp pos:Pos}(S:zu N ps scope)(D:ps.length=1)(hr:xu (k+3) X.A)(hm:X.mg "sorted"=none)(hc:X.env.code=.ref c)(hC:codeHdIn X.K c P=true)(bm:BMain X.mg X.base)
  (Z:MB scope X.env=Lo []) (hb:∀(pm ctv:Ei) (c':Ej) (us:Db),us.length=ps.length->bindArgs (kla_fn "<lambda>" (X.env.qual++"<lambda>") params body scope [] pm (.ref c') ctv) ⟨us,[]⟩=Lo (ps.zip us))
  (DH:∀(f c':Ej) (A:EF) (outer:List Env) (s:Em) (H:Hp),xu k (A.deeper<|Mr (X.env.qual++"<lambda>") scope s.heap.objs.size f<|.ref c')->PE (Xf Ck X.prog X.w X.K X.mg X.base N (X.env.qual++"<lambda>") scope f (.ref c') A outer s H E0) body M)
  (U:PE X e te) (C:defaultsOf params X.env=([],[]):=by rfl) (hg:Gl X "sorted":=by rfl)
  (he:Ey [e] X.env=(false,E8 e X.env)::Ey [] X.env:=by rfl):PE X (.Call (.Name "sorted" p) [e] [⟨some "key",.Lambda params body scope E,kp⟩] pos) (WX X.K P N M te):=by
 intro Do s σ H Q I h;refine Jc (kD I hg hm boot_sorted ?_ (by decide)<|by decide);refine callWith_kw (Cf (zA U zB he pos Do s σ H (fun G J=>match G with
  |[x]=>RA X.K P N M x J Q
  |_=>False) I h) fun us s1 ⟨G,J,I1,r1,y⟩=>?_) (by rw[he];rfl) (by rw[he];rfl)
 match G,r1,y with
 |[xv],r1,y =>
  obtain⟨a,G,ks,rfl,U,R,ai,T,q⟩:=y;obtain⟨u,rfl,ru⟩:=wW r1;cases ru;refine kws_cons<|Wo I1 T hc hC bm C Z fun f c' oc ws t ctv pm F g O aj an=>kws_nil ?_;have Y:yx X.K (upd J P<|.tbl F) a G:=by
   rcases U with(z|⟨ob,z⟩)|z
   ·exact .inl (.inl (by rw[zG fun w=>by rw[w,T]at z;cases z];exact z))
   ·exact .inl (.inr ⟨ob,by rw[zG fun w=>by rw[w,T]at z;cases z];exact z⟩)
   ·exact .inr z
  obtain⟨d,rv,pl,hz⟩:=O.list Y;have DD:64<=sizeLine:=by rw[Ym];decide
  have l1:=rv.length;obtain⟨hk,q⟩:=q F;show El (Ep X.prog X.w) X.A (call (.builtin "sorted") [.ref a] [(EX "key",.ref f)]) _ _ _;refine call_function_entry_kw kind_sorted plain_sorted entry_sorted (ksk_s1 _ _) ?_;unfold Builtin.«sorted»;refine Q4 (m:=checkCount "sorted" 1 1 _) (Q7<|Q4<|collect_list pl.isList (Q4<|VX ?_<|by lia)<|by lia);have r:((g.heap.push<|EQ "list" #[] 0).update g.heap.objs.size (EO (·++d.toArray))).objs.size=g.heap.objs.size+1:=by
   rw[Heap.size_update,size_push']
  have l:(((g.heap.push<|EQ "list" #[] 0).update g.heap.objs.size (EO (·++d.toArray))).push<|EQ "list" d.toArray 0).get? (g.heap.objs.size+1)=some (EQ "list" d.toArray 0):=by
   rw[←r];exact Zk _ rfl
  have kp:∀b o,g.heap.get? b=some o->(((g.heap.push<|EQ "list" #[] 0).update g.heap.objs.size (EO (·++d.toArray))).push<|EQ "list" d.toArray 0).get? b=some o:=fun b o z=>by
   have j:b<g.heap.objs.size:=Zl z;rw[Heap.get?_push_ne _ _ _ (by rw[r];exact Zu<|Y3 j),Ua _ _ _ _<|Zu j,Heap.get?_push_ne _ _ _<|Zu j];exact z
  show El _ _ _ _ _ { g with heap:=((g.heap.push<|EQ "list" #[] 0).update g.heap.objs.size (EO (·++d.toArray))).push (EQ "list" d.toArray 0) };rw[r];generalize ((g.heap.push<|EQ "list" #[] 0).update g.heap.objs.size (EO (·++d.toArray))).push (EQ "list" d.toArray 0)=h1 at l kp;refine Q4<|ZW<|wpAny_call_entry_kw slot_list_sort ⟨_,l,rfl⟩ entry_list_sort ?body<|ksk_l1 _ _
  case body =>
   have al:=ksk_t1 f<|g.heap.objs.size+1;show El (Ep X.prog X.w) X.A.in1.in1 (Builtin.«list.sort» ⟨[.ref<|g.heap.objs.size+1],[(EX "key",.ref f)]⟩) _ _ _;rw[al];have nf:J (g.heap.objs.size+1)=none:=by
    have n:=O.hok.fresh<|Jg g.heap.objs.size;rw[zG fun z=>by rw[z,zC]at n;cases n]at n;exact n
   refine keyed O kp (Jg _) l rv R ai (fun i v u k hv ru ab L s3 sm B=>?_) fun L s3 p sm pp pw hD B=>⟨_,rfl,Q7 ⟨_,rfl,.ref _,L,B.mK,rfl,q _ _ p sm nf pp pw hD⟩⟩;have pf:=(B.pin _<|ZA _<|.head _).1;have pc:=(B.pin _<|ZA _<|.tail _<|.head _).1;exact S5  S hr B pf ⟨c',oc,ws,t,rfl,pc,aj,an⟩ (hb _ _ _ _ (by rw[D];rfl)) (.cons ru .nil) (by rw[D];rfl) fun A outer rm=>⟨M,DH f c' A outer s3 L rm,hk i v k hv ab L sm⟩
 |[],_,y=>exact y.elim
 |_::_::_,_,y=>exact y.elim
def pA (K:Ca)(f T:Ej):Bool:=match K.lookup f with
 | some ⟨_,_,.func fd,_⟩=>(match fd.code with
  | .ref c=>codeHdIn K c T
  |_=>false)
 |_=>false
theorem wX.nR {P:Ek}{w:Eo}{K:Ca}{mg:Str->Dc}{base:EB}{st:EW}{k:Nat}{sp:Sp}(F:wX K x qual st f fd)(b:pA K f T=true)(S:zu N ps<|zF st)(len:∀vs H Q E,sp vs H Q E->vs.length=ps.length)
  (j:∀(c:Ej),codeHdIn K c T=true->∀(A:EF) (outer:List Env) (s:Em) (H:Hp) (vs:Dj) (Q:VK) (E:XK),xu k (A.deeper<|Mr qual (zF st) s.heap.objs.size f<|.ref c)->sp vs H Q E -> ∃t,tG (Xf Ck P w K mg base N qual (zF st) f (.ref c) A outer s H E).lY (xD st) t/\t { nx:=fun _ H'=>Q .non H',rt:=Q } (start N vs) H):yu P w K mg base Ck (k+1) f fd ps sp:=by
 obtain⟨r,u,kV,l,pm,p,d,ct,o,rfl,i,e⟩:=F.ex;unfold pA at b;rw[i]at b;dsimp only at b;cases d with
 |ref c =>
  refine Pp i e S len fun A outer s H vs Q E n g=>?_;obtain⟨t,h,q⟩:=j c b A outer s H vs Q E n g;exact⟨t,h.lY,q⟩
 |_=>cases b
section
variable {K:Ca}{a:Ej}{xs:Dj}{src:List (Option Nat)}{g:TG}{te:TE}{Q:VK}{σ:St}{H:Hp}
theorem Kw (b:Nat->Dj->St->Hp->Prop)(d:b 0 [] (UE src σ) H)(hz:xs.length<=sizeLine)(hl:∀i ys σ H,i<=xs.length->b i ys σ H->yx K H a xs/\ys.length<=i)
  (hs:∀i x ys σ H,xs[xs.length-1-i]?=some x->b i ys σ H->g x σ H fun σ2 H3=>te σ2 H3 fun y H5=>b (i+1) (ys++[y]) σ2 H5)
  (hd:∀ys σ H,b xs.length ys σ H->∀p,H p=none->Q (.ref p) (upd H p<|.lst ys)):UW src (Kj K a xs.length) g Ig te Q σ H :=
 Iy xs.length b d hz (fun i ys σ H c p=>(hl i ys σ H c p).2) (fun ys σ H p=>rfl) (fun i ys σ H c p=>⟨xs,(hl i ys σ H (Yu c) p).1,rfl,c⟩)
  (fun i ys σ H c p x f y=>by
   obtain⟨e,y⟩:=y;subst e;rw[Gk];exact hs i x ys σ _ (y xs (hl i ys σ _ (Yu c) p).1) p) hd
end
end L2
namespace An14
open PySem L2 An
def Rv (K:Ca)(H:Hp)(v:V):Prop:=∃r,vU r/\Dt K H (Cr r) v
theorem Rv.nt {K:Ca}(h:Rv K H v)(e:NT H H'):Rv K H' v:=let ⟨r,a,b⟩:=h;⟨r,a,e.dt _ _ b⟩
theorem MO {K:Ca}:∀{ys:Dj},(∀v∈ys,Rv K H v)->∃R:List Rl,zy K H (R.map Cr) ys/\R.length=ys.length/\∀r∈R,vU r
 |[],_=>⟨[],rfl,rfl,fun r f=>(nomatch f)⟩
 |v::ys,h=>by
  obtain⟨r,a,b⟩:=h v Zc;obtain⟨R,c,d,e⟩:=MO (ys:=ys) fun v i=>h v<|Q9 _ i;refine⟨r::R,⟨v,ys,rfl,b,c⟩,by rw[Zn,Zn,d],fun s g=>?_⟩
  rcases Zh.mp g with z|z
  ·rwa[z]
  ·exact e s z
theorem TZ {K:Ca}{R:List Rl}(h:zy K H (R.map Cr) xs)(ok:∀r∈R,vU r):∀v∈xs,Rv K H v:=fun v g=>by
 obtain⟨i,e⟩:=Yl.mp g;obtain⟨d,b,c⟩:=h.get e;rw[Zj]at b;obtain⟨r,f,rfl⟩:=Zz.mp b;exact⟨r,ok r<|Zm f,c⟩
theorem CL {lo:Option Int}{v:V}(h:v∈UA xs lo hi):v∈xs:=List.mem_of_mem_drop<|Ji h
inductive rY (K:Ca)(aP:Ej)(vs:Dj)(H:Hp)(Q:VK)(e3:XK):Prop
 |mk (l:Ej) (x:Int) (p:Da) (R:List Rl) (xs:Dj) (h0:vs=[.ref l,.int x,.str<|Cd p]) (h1:UM p) (h2:H l=some (.lst xs)) (h3:zy K H (R.map Cr) xs) (h4:R.length<=40) (h5:(∀r∈R,vU r)) (h6:H aP=some (.tbl #[])) (h7:∀l' ys R' H',NT H H'->H' l'=some (.lst ys)->zy K H' (R'.map Cr) ys->List.length R'<=60->(∀r∈R',vU r)->Q (.ref l') H'):rY K aP vs H Q e3
theorem KR:UI ["another"]:=⟨by decide,fun l h=>by rw[Q6.mp h];decide +kernel⟩
theorem PX:UI ["put in"]:=⟨by decide,fun l h=>by rw[Q6.mp h];decide +kernel⟩
theorem Sg (R:List Rl):EH (.list<|R.map Cr) (.list [])=R.isEmpty:=by
 cases R<;>rfl
section
variable {P:Ek}{w:Eo}{K:Ca}{mg:Str->Dc}{base:EB}{t1 t2 t3 t4 t5 t6 t7:Tok}{aL aC aN aT aA b1 b2 aP:Ej}(T:Txt P w K mg t1 t2 t3 t4 t5 t6 t7 aL aC aN aT aA b1 b2)
namespace A6
abbrev st:Stmt:=top 67
theorem sc:zu ["_law_rows","_law_cell_here","_law_path","_law_place","_law_row"] ["_law_rows","_law_cell_here","_law_path"] (zF st):=Cn
include T in
theorem ok (F:wX0 K "_law_spoilt" st f fd)(as:pA K f aP=true)(hB:BMain mg base):yu P w K mg base Ck 5 f fd ["_law_rows","_law_cell_here","_law_path"] (rY K aP):=by
 refine F.nR as sc (fun vs H Q E h=>?_)<|fun c hC A outer s H vs Q E hr h=>?_
 ·obtain⟨l,x,p,R,xs,rfl,_⟩:=h;rfl
 ·obtain⟨l,x,p,R,xs,rfl,lp,hl,hd,hR,ok,hP,k⟩:=h;refine⟨_,(zD (yC (PW.pt<|vL (zU (CW hr.units) (pv 0) (y9 zB)<|zW _)<|uP<|zU qJ (zP yS (pv 1) zH) zH<|zW _) (zE<|zM<|pv 0) zS)<|zD (Cm (i:=3) sc.nd<|zP yS (zP qU (pv 1) zH)<|zO z9 (by rfl) T.len Yw<|zA (pv 0) zB)<|zD (Cm (i:=4) sc.nd<|zR (zj:Cg _<|xx K) (pv 0)<|pv 3)<|zD (yC (zU qJ (zP yS (pv 1) zH) zH<|zW _) (zE<|zM<|xN (sc:=zF st) (N:=["_law_rows","_law_cell_here","_law_path","_law_place","_law_row"]) (N':=["_law_one"]) (src:=[none]) .a rfl rfl rfl (SQ rfl T.reversed<|zA (pv 0) zB) (fun _ _ _ _=>(zL (i:=0) (show(["_law_one"]:Da).Nodup by decide +kernel) rfl (EJ rfl))) (fun _ _ _ _=>xS) (fun _ _ _ _=>(pv 0))) zS) (zD (yC (zU qJ (zP yS (pv 1) zH) zH<|zW _) (zE<|zM<|zP jV (zP jV (yR (wJ:Kl _<|Ia K) (pv 0) xW<|xG<|pv 3)<|y9<|zA (pv 4) zB)<|yR (wJ:Kl _<|Ia K) (pv 0) (xG<|pv 3) xW) zS)<|zD (yC (zU qJ (zP yS (pv 1) zH) zH<|zW _) (zE<|zM<|zP jV (zP jV (yR (wJ:Kl _<|Ia K) (pv 0) xW<|xG<|pv 3)<|y9<|zA (yH<|zA (zR (yt:Cg _<|wZ K) (pv 4) zH)<|zA (zR (yt:Cg _<|wZ K) (pv 4) zH)<|zA (zR (yt:Cg _<|wZ K) (pv 4) zH) zB) zB)<|yR (wJ:Kl _<|Ia K) (pv 0) (xG<|zP xH (pv 3) zH) xW) zS)<|zD (yC (zU qJ (zP yS (pv 1) zH) zH<|zW _) (zE<|zM<|zP jV (zP jV (yR (wJ:Kl _<|Ia K) (pv 0) xW<|xG<|pv 3)<|y9<|zA (yH<|zA (zR (yt:Cg _<|wZ K) (pv 4) zH)<|zA (yH<|zA zq zB)<|zA (zR (yt:Cg _<|wZ K) (pv 4) zH) zB) zB)<|yR (wJ:Kl _<|Ia K) (pv 0) (xG<|zP xH (pv 3) zH) xW) zS)<|zD (yC (zU qJ (zP yS (pv 1) zH) zH<|zW _) (zE<|zM<|Rr (k:=1) (N:=["_law_one"]) (ps:=["_law_one"]) ⟨rfl,rfl,rfl,by decide +kernel,rfl,by decide +kernel,by decide +kernel⟩ rfl hr.m T.sorted rfl hC hB rfl (fun _ _ _ us hl=>match us,hl with|[_],_=>rfl) (fun _ _ _ _ _ _ _=>(zR (yt:Cg _<|wZ K) (pv 0) zH)) (zP jV (pv 0)<|y9<|zA (yH<|zA (pv 2)<|zA uO<|zA (yH<|zA zq zB) zB) zB)) zS) (zE<|zM<|zP jV (yR (wJ:Kl _<|Ia K) (pv 0) xW<|xG<|pv 3)<|yR (wJ:Kl _<|Ia K) (pv 0) (xG<|zP xH (pv 3) zH) xW))),?_⟩
  have xl:=hd.length;rw[Q5]at xl;have rv:=TZ hd ok;have L:∀{l':Ej} {Y:Dj} {H':Hp},NT H H'->H' l'=some (.lst Y)->(∀v∈Y,Rv K H' v)->Y.length<=60->Q (.ref l') H':=fun{l' Y H'} n e al le=>by
   obtain⟨R',a,b,c⟩:=MO al;exact k l' Y R' H' n e a (by lia) c
  have me:Q (.ref l) H:=L (NT.of<|zx.refl _) hl rv (by lia);have hs:=Fb ok;refine⟨_,rfl,Ur 0,fun p0 n0=>?_⟩;have u0:=zz (o:=.lst []) n0;refine⟨.list<|R.map Cr,.list [],⟨l,xs,rfl,yx.of<|u0 _ _ hl,zy.same u0 _ _ hd⟩,⟨p0,[],rfl,yx.of zC,rfl⟩,hs.1,by decide +kernel,_,rfl,?_⟩;rw[Sg];have s1:=u0;have d:=u0 _ _ hl;have j:∀v∈xs,Rv K (upd H p0<|.lst []) v:=fun v g=>(rv v g).nt<|.of u0;have ax:=u0 _ _ hP;generalize upd H p0 (.lst [])=H1 at s1 d j ax ⊢;clear u0 n0;have a2:Q (.ref l) H1:=L (.of s1) d j (by lia);refine Ux (fun z=>Uv ⟨_,rfl,a2⟩)<|fun z=>?_;have Z:(0:Int)<(xs.length:Int):=by
   cases R with
   |nil=>exact absurd rfl z
   |cons r R=>rw[Zn]at xl;lia
  have p7:(0:Int)<7:=by decide
  refine⟨_,rfl,_,_,rfl,rfl,p7,rfl,_,rfl,Ux (fun z=>⟨_,rfl,a2⟩)<|fun z=>?_⟩;refine⟨_,rfl,_,_,rfl,rfl,⟨by decide,by decide⟩,_,rfl,l,xs,rfl,.inl<|yx.of d,_,_,rfl,rfl,Z,zJ ?_⟩;have b0:0<=x / 7 % (xs.length:Int):=Vr _<|Int.ne_of_gt Z;have ap:x / 7 % (xs.length:Int)<xs.length:=JY _ Z;generalize x / 7 % (xs.length:Int)=M at b0 ap ⊢;obtain⟨v,a8,a9⟩:=at_of b0 ap;have vm:=Zm a8;refine⟨_,rfl,_,rfl,l,_,_,_,rfl,rfl,yx.of d,a9,zJ ?_⟩;refine⟨_,rfl,_,_,rfl,rfl,p7,rfl,_,rfl,Ux (fun z=>?_)<|fun z=>?_⟩
  ·refine⟨_,rfl,l,xs,rfl,yx.of d,Kw (K:=K) (a:=l) (xs:=xs) (fun i Y σ C=>∃o,σ=[o]/\C=H1/\Y.length<=i/\∀v∈Y,v∈xs) ⟨none,rfl,rfl,Zd _,fun v g=>(nomatch g)⟩ (zr<|by lia) ?_ ?_ ?_⟩
   ·rintro i Y σ C J ⟨o,rfl,rfl,yl,_⟩;exact⟨yx.of d,yl⟩
   ·rintro i y Y σ C hy ⟨o,rfl,rfl,yl,al⟩;exact zJ ⟨_,rfl,_,rfl,rfl,by rw[Ze];show _+1<=i+1;lia,xE al<|Zm hy⟩
   ·rintro Y σ C ⟨o,rfl,rfl,yl,al⟩ q nq;exact L (.of<|s1.trans<|zz nq) zC (fun v g=>(j v<|al v g).nt<|.of<|zz nq) (by lia)
  obtain⟨r,U,dv⟩:=j v vm;obtain⟨t,ws,rfl,ht,x1,r1,e1,d1,x2,r2,e2,d2,x3,r3,e3,d3,e4⟩:=dv;have d1:x1=.str r.1:=d1;subst e1 e2 e3 e4 d1;have ca:(UA xs none<|some M).length<=M.toNat:=by rw[Pa b0,Zx];lia
  have cb:(UA xs (some M) none).length<=xs.length-M.toNat:=by rw[Gi b0,Yz];lia
  have cc:(UA xs (some<|M+1) none).length<=xs.length-M.toNat:=by rw[Gi<|by lia,Yz];lia
  have D:∀{J:Option Int} (w:V),(UA xs J none).length<=xs.length-M.toNat->(UA xs none (some M)++[w]).length+(UA xs J none).length<=60:=fun{J} w h=>by rw[Ze];show _+1+_<=60;lia
  have O:∀(w:V),(UA xs none<|some M).length+[w].length<=60:=fun w=>by show _+1<=60;lia
  have ai:∀{C:Hp} {w:V} {q:Ej} {J:Option Int},(UA xs J none).length<=xs.length-M.toNat->zx H1 C->C q=none->Rv K C w->Q (.ref q) (upd C q<|.lst<|UA xs none (some M)++[w]++UA xs J none):=fun{C w q J} hh s2 nq bj=>by
   refine L (.of<|(s1.trans s2).trans<|zz nq) zC (fun v g=>?_) ?_
   ·rcases Zy.mp g with g|g
    ·rcases Zy.mp g with g|g
     ·exact(j v<|CL g).nt (.of<|s2.trans<|zz nq)
     ·rw[Q6.mp g];exact bj.nt (.of<|zz nq)
    ·exact(j v<|CL g).nt (.of<|s2.trans<|zz nq)
   ·rw[Ze];exact D w hh
  refine⟨_,rfl,_,_,rfl,rfl,p7,rfl,_,rfl,Ux (fun z=>?_)<|fun z=>?_⟩
  ·refine⟨_,rfl,_,rfl,_,rfl,l,_,rfl,yx.of d,fun l1 n1=>nw n1 fun C u h2=>?_⟩;refine⟨_,rfl,Ur 1,fun l2 n2=>nw n2 fun H3 B h3=>?_⟩;refine⟨l1,l2,_,_,rfl,rfl,B _ _ h2,h3,zr<|ZL (O _)<|by decide,fun l3 n3=>nw n3 fun H4 G h4=>?_⟩;have s4:=(u.trans B).trans G;refine⟨_,rfl,_,rfl,_,rfl,l,_,rfl,yx.of<|s4 _ _ d,fun l4 n4=>nw n4 fun H5 I h5=>?_⟩;exact⟨l3,l4,_,_,rfl,rfl,I _ _ h4,h5,zr<|ZL (D _ cb)<|by decide,fun l6 n6=>ai cb (s4.trans I) n6<|(j _ vm).nt<|.of<|s4.trans I⟩
  refine⟨_,rfl,_,_,rfl,rfl,p7,rfl,_,rfl,Ux (fun z=>?_)<|fun z=>?_⟩
  ·refine⟨_,rfl,_,rfl,_,rfl,l,_,rfl,yx.of d,fun l1 n1=>nw n1 fun C u h2=>?_⟩;refine⟨_,rfl,t,_,_,_,rfl,rfl,u.yd ht,rfl,_,rfl,t,_,_,_,rfl,rfl,u.yd ht,rfl,_,rfl,t,_,_,_,rfl,rfl,u.yd ht,rfl,Ur 3,fun pt S=>nw S fun H3 B h3=>?_⟩;refine⟨Ur 1,fun l2 n2=>nw n2 fun H4 G h4=>?_⟩;refine⟨l1,l2,_,_,rfl,rfl,G _ _<|B _ _ h2,h4,zr<|ZL (O _)<|by decide,fun l3 n3=>nw n3 fun H5 I h5=>?_⟩;have X:=((u.trans B).trans G).trans I;refine⟨_,rfl,_,rfl,_,_,rfl,rfl,_,rfl,l,_,rfl,yx.of<|X _ _ d,fun l4 n4=>nw n4 fun H6 u6 h6=>?_⟩;refine⟨l3,l4,_,_,rfl,rfl,u6 _ _ h5,h6,zr<|ZL (D _ cc)<|by decide,fun l6 n6=>ai cc (X.trans u6) n6 ⟨(r.1,r.2.1,r.2.1),⟨U.1,U.2.1,U.2.1⟩,?_⟩⟩;have sx:=X.trans u6;exact⟨pt,_,rfl,xg.of<|(G.trans<|I.trans u6) _ _ h3,_,_,rfl,rfl,_,_,rfl,Dt.same sx _ _ d2,_,_,rfl,Dt.same sx _ _ d2,rfl⟩
  refine⟨_,rfl,_,_,rfl,rfl,p7,rfl,_,rfl,Ux (fun z=>?_)<|fun z=>?_⟩
  ·refine⟨_,rfl,_,rfl,_,rfl,l,_,rfl,yx.of d,fun l1 n1=>nw n1 fun C u h2=>?_⟩;refine⟨_,rfl,t,_,_,_,rfl,rfl,u.yd ht,rfl,Ur 1,fun pb bi=>nw bi fun bl an a4=>?_⟩;refine⟨_,rfl,t,_,_,_,rfl,rfl,an.yd<|u.yd ht,rfl,Ur 3,fun pt S=>nw S fun H3 B h3=>?_⟩;refine⟨Ur 1,fun l2 n2=>nw n2 fun H4 G h4=>?_⟩;refine⟨l1,l2,_,_,rfl,rfl,G _ _<|B _ _<|an _ _ h2,h4,zr<|ZL (O _)<|by decide,fun l3 n3=>nw n3 fun H5 I h5=>?_⟩;have X:=(((u.trans an).trans B).trans G).trans I;refine⟨_,rfl,_,rfl,_,_,rfl,rfl,_,rfl,l,_,rfl,yx.of<|X _ _ d,fun l4 n4=>nw n4 fun H6 u6 h6=>?_⟩;refine⟨l3,l4,_,_,rfl,rfl,u6 _ _ h5,h6,zr<|ZL (D _ cc)<|by decide,fun l6 n6=>ai cc (X.trans u6) n6 ⟨(r.1,some ["another"],r.2.2),⟨U.1,fun l e=>by cases e;exact KR,U.2.2⟩,?_⟩⟩;have sx:=X.trans u6;exact⟨pt,_,rfl,xg.of<|(G.trans<|I.trans u6) _ _ h3,_,_,rfl,rfl,_,_,rfl,⟨pb,_,rfl,xg.of<|(B.trans<|G.trans<|I.trans u6) _ _ a4,_,_,rfl,rfl,rfl⟩,_,_,rfl,Dt.same sx _ _ d3,rfl⟩
  refine⟨_,rfl,_,_,rfl,rfl,p7,rfl,_,rfl,Ux (fun z=>?_)<|fun z=>?_⟩
  ·refine⟨_,rfl,_,rfl,Ur 1,fun pa bd=>nw bd fun C u h2=>?_⟩;refine⟨Ur 3,fun pt S=>nw S fun H3 B h3=>?_⟩;refine⟨Ur 1,fun l2 n2=>nw n2 fun H4 G h4=>?_⟩;have s4:=(u.trans B).trans G;refine⟨l,l2,_,_,rfl,rfl,s4 _ _ d,h4,zr (by show _+1<=_;lia),fun l3 n3=>nw n3 fun H5 I h5=>?_⟩;have X:=s4.trans I;have rn:Rv K H5 (.ref pt):=⟨(Cd p,none,some ["put in"]),⟨⟨p,lp,rfl⟩,(fun l e=>nomatch e),fun l e=>by cases e;exact PX⟩,pt,_,rfl,xg.of<|(G.trans I) _ _ h3,_,_,rfl,rfl,_,_,rfl,rfl,_,_,rfl,⟨pa,_,rfl,xg.of<|(B.trans<|G.trans I) _ _ h2,_,_,rfl,rfl,rfl⟩,rfl⟩;have ab:∀v∈xs++[V.ref pt],Rv K H5 v:=xE (fun v g=>(j v g).nt<|.of X) rn;have a1:(xs++[V.ref pt]).length<=41:=by rw[Ze];show _+1<=41;lia
   generalize xs++[V.ref pt]=zs at h5 ab a1 ⊢;obtain⟨R5,a5,b5,c5⟩:=MO ab;have aj:=X _ _ ax;refine⟨l3,zs,R5.map (·.1),rfl,yx.of h5,by lia,by rw[Q5];exact b5,aj,fun bm=>⟨fun i v k g hk H6 s6=>?_,fun l6 H6 q s6 n6 pp pw h6=>?_⟩⟩
   ·rw[Zj]at hk;obtain⟨r',a6,rfl⟩:=Zz.mp hk;obtain⟨r2,t2,y,z,ay,rfl,a7,_⟩:=HR a5 g;rw[a6]at ay;cases ay;exact⟨_,rfl,t2,_,_,_,rfl,rfl,s6.yd<|(NT.upd aj).jx a7,rfl,rfl,rfl⟩
   ·have a3:NT H5 H6:=(NT.upd aj).trans<|.of s6;refine L ((NT.of<|s1.trans X).trans a3) h6 (fun v g=>?_) ?_
    ·obtain⟨i,J,rfl⟩:=Za.mp g;have J:=YV.mp<|pp.mem_iff.mp J;rw[ZY,Zb J];exact(ab _<|YF J).nt a3
    ·rw[Q5,pp.length_eq,Z8];lia
  refine⟨_,rfl,_,rfl,_,rfl,l,_,rfl,yx.of d,fun l1 n1=>nw n1 fun C u h2=>?_⟩;refine⟨_,rfl,_,rfl,_,_,rfl,rfl,_,rfl,l,_,rfl,yx.of<|u _ _ d,fun l2 n2=>nw n2 fun H3 B h3=>?_⟩;have a0:(UA xs none<|some M).length+(UA xs (some<|M+1) none).length<=60:=by lia
  refine⟨l1,l2,_,_,rfl,rfl,B _ _ h2,h3,zr<|ZL a0<|by decide,fun l3 n3=>?_⟩;refine L (.of<|(s1.trans<|u.trans B).trans<|zz n3) zC (fun v g=>?_) (by rwa[Ze])
  rcases Zy.mp g with g|g
  ·exact(j v<|CL g).nt (.of<|(u.trans B).trans<|zz n3)
  ·exact(j v<|CL g).nt (.of<|(u.trans B).trans<|zz n3)
end A6
end
structure uo (S:Di)(x:Str)(fs:Dk):Prop where
 tree:Tree 5 S x
 node:∃rows,At S x<|.tree rows
 rd:∀f,f∈yw 5 S x↔f∈fs
theorem uU (ok:xj S)(b:uo S x fs)(d:zf n fs)(p:Da):CF S (Cc S<|Ch S (some x) p)=CB fs p/\R1 S (Cc S<|Ch S (some x) p):=by
 cases q:CB fs p with
 |none =>
  rw[kO ok b.tree p<|fun L z=>tX.mp q L<|(b.rd _).mp z];exact⟨rfl,fun n e=>(nomatch e)⟩
 |some L =>
  obtain⟨n,f,_,c⟩:=j6 ok b.tree<|(b.rd _).mpr<|(jI d).mp q;rw[f];exact⟨PU ok c,fun m e=>by cases e;exact⟨L,c⟩⟩
theorem CJ (ok:xj S)(f:Tree 5 S x)(ty:Tree 5 S y)(c:∃r,At S x<|.tree r)(d:∃r,At S y<|.tree r):sy S [] (some x) (some y) (Cu S x y):=by
 unfold Cu
 by_cases q:x=y
 ·subst q;rw[Zt rfl];exact⟨List.Pairwise.nil,fun r=>⟨fun z=>(nomatch z),fun⟨p,_,ne⟩=>absurd rfl ne⟩⟩
 ·rw[Zs q];obtain⟨r,a⟩:=c;obtain⟨s,b⟩:=d;refine B8 ok (fun z e=>by cases e;exact f) (fun z e=>by cases e;exact ty) fun _=>?_;rw[show Cc S (some x)=none from Zt (yP ok a).2,show Cc S (some y)=none from Zt (yP ok b).2]
theorem PQ (ok:xj S){o:Option Str}(h:R1 S o):(Cs o).canLay0=true/\(Cs o).depth<=1:=by
 cases o with
 |none=>decide +kernel
 |some n =>
  obtain⟨L,a⟩:=h n rfl;obtain⟨e,b,rfl⟩:=Za.mp a.mem;exact⟨(ok.nm b).ok,ZD _⟩
theorem RG (ok:xj S):∀{R:List OX},(∀r∈R,UM r.1/\R1 S r.2.1/\R1 S r.2.2)->ER (.list<|R.map Fp)=true/\EH (.list<|R.map Fp) (.list<|R.map Fp)=true:=fun{R} h=>by
 refine⟨AnJ.tE (n:=2) (by decide) fun r g=>?_,?_⟩
 ·obtain⟨d,e,f⟩:=h r g;obtain⟨b,l⟩:=PQ ok e;obtain⟨c,o⟩:=PQ ok f;constructor
  ·show(Es (Cd r.1)&&((Cs r.2.1).canLay0&&((Cs r.2.2).canLay0&&true)))=true;rw[b,c,K9 d.2.2];rfl
  ·show max 0 (max (Cs r.2.1).depth<|max (Cs r.2.2).depth 0)+1<=2;lia
 ·refine kR _ ?_;clear h
  induction R with
  |nil=>rfl
  |cons r R ih =>
   show(jX (Fp r)&&y8 (R.map Fp))=true;rw[ih,Bool.and_true];obtain⟨p,i,j⟩:=r;cases i<;>cases j<;>rfl
theorem Rb {K:Ca}{Q:VK}(c:Dt K H d x)(e:Dt K H d y)(b:ER d=true)(f:EH d d=true)(q:Q (.bl false) H):WG K x y H Q:=⟨d,d,c,e,b,b,by rw[f];exact q⟩
section
variable {P:Ek}{w:Eo}{K:Ca}{C:Ej}{H0 H H':Hp}{a:Ej}{fp:Dd}{b:Ej}{fq:Dd}{S S2 S':Di}
theorem Nz (n:rK H fp):∀b∈fp,∀xs,¬Rd H b (.tup xs):=fun b f xs=>by
 obtain⟨o,e,c,_,d⟩:=n b f;exact Ih e c d xs
theorem OG {x b:Ej}{g h:HO}{fp:Dd}(nx:H x=none)(f:H b=none)(ne:b≠x)(d:∀c∈fp,c=x\/c=b\/(L2.upd (L2.upd H b g) x h) c=none)(o:Off [x] (L2.upd (L2.upd H b g) x h) H'):zx H H'/\∀c∈fp,H c=none:=by
 have i:zx H (L2.upd (L2.upd H b g) x h):=(zz f).trans (zz<|by rwa[zG<|EK ne]);refine⟨fun c u e=>o c u (fun z=>?_)<|i c u e,fun c j=>?_⟩
 ·rw[Q6.mp z,nx]at e;cases e
 ·rcases d c j with z|z|z
  ·rwa[z]
  ·rwa[z]
  ·exact i.free z
end
theorem Tw {α:Type} [DecidableEq α]:∀{a b:List α},a.Nodup->(∀x∈a,x∈b)->a.length<=b.length
 |[],_,_,_=>ZD _
 |x::a,b,nd,h=>by
  have nd:=Z9.mp nd;have c:=h x Zc;have:=Tw (a:=a) (b:=b.erase x) nd.2 fun y d=>(List.mem_erase_of_ne (fun z:y=x=>nd.1<|z▸d)).mpr (h y<|Q9 _ d);rw[List.length_erase_of_mem c]at this;have:=List.length_pos_of_mem c;rw[Zn];lia
theorem Nk {α c:Type}{f:α->List c}:∀{l:List α},(∀x∈l,f x≠[])->l.length<=(l.flatMap f).length
 |[],_=>ZD _
 |x::l,h=>by
  rw[JF,Ze,Zn];have:=Nk (f:=f) (l:=l) fun y b=>h y<|Q9 _ b;have:=Jo.mpr<|h x Zc;lia
theorem Nj {α b:Type}{f:α->List b}:∀{l:List α} {x:α},x∈l->(f x).length<=(l.flatMap f).length
 |[],_,h=>(nomatch h)
 |y::l,x,h=>by
  rw[JF,Ze]
  rcases Zh.mp h with z|z
  ·rw[z];lia
  ·have:=Nj (f:=f) z;lia
theorem Hi (g:xj S){y:Str}{rows:Dg}(a:At S y<|.tree rows):∀{d:Nat} {x:Str},Tree d S x->y∈met d S x->rows.length<=(yw d S x).length
 | 0,_,t,_=>absurd t id
 |d+1,x,t,h=>by
  rcases t with⟨ls,b⟩|⟨rs,b,so,hr⟩
  ·rw[vC g b]at h;rw[Q6.mp h]at a;have:=At.thing g a b;cases this
  ·rw[j7 g b]at h;rw[x5 g b]
   rcases Zh.mp h with z|z
   ·rw[z]at a;have:=At.thing g a b;cases this;exact Nk fun r c z=>(hr r c).2.2<|List.map_eq_nil_iff.mp z
   ·obtain⟨r,c,i⟩:=YG.mp z;have j:=Hi g a (hr r c).2.1 i;have e:=Nj (f:=fun r:Str×Str=>(yw d S r.2).map fun f=>(r.1::f.1,f.2)) c;rw[Q5]at e;lia
theorem FV (g:xj S){x:Str}{rows:Dg}(a:At S x<|.tree rows):Uz S (.str x) "tree"=true:=by
 rcases X8 g x with⟨e,_⟩|⟨_,h⟩
 ·exact e
 ·exact absurd a (h rows)
theorem uo.more {S T:Di}(g:xj<|S++T)(b:xj S)(h:uo S x fs):uo (S++T) x fs:=by
 obtain⟨t,r⟩:=h.tree.more g b;obtain⟨rows,a⟩:=h.node;exact⟨t,⟨rows,a.more⟩,fun f=>by rw[r];exact h.rd f⟩
theorem Nc (ok:xj S)(c:uo S x fs)(d:uo S y gs)(f:zf 4 fs)(g:zf 4 gs)(l:fs.length<=20)(n:gs.length<=20):(Cv 5 S [] (some x)<|some y).length<=40:=by
 obtain⟨r,a⟩:=c.node;obtain⟨s,b⟩:=d.node;have h:sy S [] (some x) (some y) (Cv 5 S [] (some x)<|some y):=B8 ok (fun z e=>by cases e;exact c.tree) (fun z e=>by cases e;exact d.tree) fun _=>by
  rw[show Cc S (some x)=none from Zt (yP ok a).2,show Cc S (some y)=none from Zt (yP ok b).2]
 have nd:((Cv 5 S [] (some x)<|some y).map (·.1)).Nodup:=by
  refine ZO.mpr ?_;rw[Yv];exact h.rise.imp fun{p q} z (w:p.1=q.1)=>Hd z (by rw[w])
 have:=Tw nd (b:=(fs++gs).map (·.1)) fun p o=>by
  obtain⟨r,t,rfl⟩:=Za.mp o;obtain⟨q,e,ne⟩:=(h.mem r).mp t;have e:r.1=q:=by rw[e];rfl
  rw[e];have ne:=fun z=>ne<|(B1 ok c.tree d.tree f g c.rd d.rd q).mpr z;cases i:CB fs q with
  |some L=>exact Za.mpr ⟨(q,L),ZZ _<|(jI f).mp i,rfl⟩
  |none =>
   cases j:CB gs q with
   |some L=>exact Za.mpr ⟨(q,L),ZA _<|(jI g).mp j,rfl⟩
   |none=>exact absurd (i.trans j.symm) ne
 rw[Q5,Q5,Ze]at this;lia
section
variable {P:Ek}{w:Eo}{K:Ca}{mg:Str->Dc}{base:EB}{t1 t2 t3 t4 t5 t6 t7:Tok}{aL aC aN aT aA b1 b2:Ej}
theorem S8 (n:rK H fp)(o:Off fp H H')(h:yx K H l xs):yx K H' l xs:=by
 rcases h with(h|⟨ob,h⟩)|h
 ·exact .inl (.inl<|o _ _ (X1 n h) h)
 ·refine .inl (.inr ⟨ob,o _ _ (fun z=>?_) h⟩);obtain⟨o,e,_,_,b⟩:=n l z;rw[h]at e;exact b _ _ (Option.some.inj e).symm
 ·exact .inr h
theorem FE {Q:VK}{E:XK}(j:xr P w K C H a fp S)(ok:xj S)(few:RY S)(d:uo S x fs)(e:uo S y gs)(h:zf 4 fs)(i:zf 4 gs)(b:fs.length<=20)(c:gs.length<=20)
  (k:∀p lr ys H',zx H H'->H p=none->H lr=none->p≠lr->H' p=some (.tup [.ref lr,.int<|oU S x y])->H' lr=some (.lst ys)->zy K H' ((Cu S x y).map Fp) ys->Q (.ref p) H'):wj P w K C aN [.ref a,.str x,.str y] H Q E:=by
 obtain⟨r,f⟩:=d.node;obtain⟨s,g⟩:=e.node;have l:=Nc ok d e h i b c;refine⟨a,fp,S,.str x,.str y,.str x,.str y,rfl,j,ok,rfl,rfl,fun z=>?_,fun _ _=>⟨x,y,r,s,rfl,rfl,rfl,rfl,few,f,g,d.tree,e.tree,by lia,k⟩⟩;rw[FV ok f,FV ok g]at z
 rcases z with z|z<;>cases z
end
noncomputable def CA (S:Di)(x y:Str):List Rl:=(Cu S x y).map fun r=>(Cd r.1,CF S r.2.1,CF S r.2.2)
theorem T8 (S:Di)(x y:Str):(Cu S x y).map (cz S)=(CA S x y).map Cr:=by
 unfold CA;rw[ZB];rfl
section
variable {S:Di}{x y:Str}{fs gs:Dk}
theorem Nw (g:zf 4 fs){p l:Da}(h:CB fs p=some l):UM p/\UI l:=by
 have m:=(jI g).mp h;exact⟨g.lb m,(g.wK _ m).2.2.2⟩
theorem Pe (d:zf 4 fs)(e:zf 4 gs){p:Da}(h:CB fs p≠CB gs p):UM p:=by
 cases b:CB fs p with
 |some l=>exact(Nw d b).1
 |none =>
  cases c:CB gs p with
  |some l=>exact(Nw e c).1
  |none=>exact absurd (b.trans c.symm) h
theorem vG (ok:xj S)(b:uo S x fs)(d:uo S y gs)(e:zf 4 fs)(f:zf 4 gs)(r:Rl):r∈CA S x y↔∃p,UM p/\r=(Cd p,CB fs p,CB gs p)/\CB fs p≠CB gs p:=by
 have g:=CJ ok b.tree d.tree b.node d.node;have le:=fun p=>B1 ok b.tree d.tree e f b.rd d.rd p;have row:∀p,((Cd p,CF S<|Cc S<|Ch S (some x) p,CF S<|Cc S<|Ch S (some y) p):Rl)=(Cd p,CB fs p,CB gs p):=fun p=>by
  rw[(uU ok b e p).1,(uU ok d f p).1]
 unfold CA;rw[Za];constructor
 ·rintro⟨c,h,rfl⟩;obtain⟨p,rfl,ne⟩:=(g.mem c).mp h;have ne:=fun z=>ne<|(le p).mpr z;exact⟨p,Pe e f ne,row p,ne⟩
 ·rintro⟨p,lb,rfl,ne⟩;exact⟨_,(g.mem _).mpr ⟨p,rfl,fun z=>ne<|(le p).mp z⟩,row p⟩
theorem CN (ok:xj S)(b:uo S x fs)(c:uo S y gs):(CA S x y).Pairwise fun r s=>Cz r.1 s.1:=by
 have d:=CJ ok b.tree c.tree b.node c.node;unfold CA;rw[Yv];exact d.rise
theorem Pd (ok:xj S)(f:uo S x fs)(g:uo S y gs)(b:zf 4 fs)(c:zf 4 gs):∀r∈CA S x y,vU r:=fun r d=>by
 obtain⟨p,lb,rfl,_⟩:=(vG ok f g b c r).mp d;exact⟨⟨p,lb,rfl⟩,fun l e=>(Nw b e).2,fun l e=>(Nw c e).2⟩
theorem T9 (ok:xj S)(c:uo S x fs)(d:uo S y gs)(b:zf 4 fs)(e:zf 4 gs):UH (Ff fs) (CA S x y)=true:=by
 unfold UH;rw[Zi,ZI];refine⟨NO<|Yv.mpr<|CN ok c d,fun r f=>?_⟩;obtain⟨p,lb,rfl,ne⟩:=(vG ok c d b e r).mp f;rw[Zi];exact⟨Zf ne,Zf (Fr b lb).symm⟩
theorem Sf (ok:xj S)(g:uo S x fs)(h:uo S y gs)(c:zf 4 fs)(b:zf 4 gs):doneF (Ff fs) (CA S x y)=Ff gs:=by
 funext q
 refine IF (fun r i e=>?_) ?_
 ·obtain⟨p,lb,rfl,ne⟩:=(vG ok g h c b r).mp i;rw[←e];exact(Fr b lb).symm
 ·by_cases z:Ff fs q=Ff gs q
  ·exact .inr z
  ·refine .inl ?_;have lb:∃p,UM p/\q=Cd p:=by
    cases d:Ff fs q with
    |some l=>exact(uG c q l d).2
    |none =>
     cases f:Ff gs q with
     |some l=>exact(uG b q l f).2
     |none=>exact absurd (d.trans f.symm) z
   obtain⟨p,lb,rfl⟩:=lb;rw[Fr c lb,Fr b lb]at z;exact⟨_,(vG ok g h c b _).mpr ⟨p,lb,rfl,z⟩,rfl⟩
theorem Nb (ok:xj S)(b:uo S x fs)(c:uo S y gs)(d:zf 4 fs)(e:zf 4 gs):(CA S x y).map XD=CA S y x:=by
 refine RD (f:=fun r:Rl=>r.1) ?_ (CN ok c b) fun r=>?_
 ·rw[Yv];exact CN ok b c
 ·rw[vG ok c b e d,Za];constructor
  ·rintro⟨s,g,rfl⟩;obtain⟨p,lb,rfl,ne⟩:=(vG ok b c d e s).mp g;exact⟨p,lb,rfl,fun z=>ne z.symm⟩
  ·rintro⟨p,lb,rfl,ne⟩;exact⟨_,(vG ok b c d e _).mpr ⟨p,lb,rfl,fun z=>ne z.symm⟩,rfl⟩
theorem XY (ok:xj S)(f:uo S x fs)(g:uo S y gs)(d:zf 4 fs)(e:zf 4 gs)(b:fs.length<=20)(c:gs.length<=20):(Cu S x y).length<=40:=by
 unfold Cu
 split
 ·exact ZD _
 ·exact Nc ok f g d e b c
theorem O5 (ok:xj S)(b:uo S x fs)(c:uo S y gs)(d:zf 4 fs)(e:zf 4 gs):∀r∈Cu S x y,UM r.1/\R1 S r.2.1/\R1 S r.2.2:=fun r g=>by
 have f:=CJ ok b.tree c.tree b.node c.node;obtain⟨p,rfl,ne⟩:=(f.mem r).mp g;exact⟨Pe d e fun z=>ne<|(B1 ok b.tree c.tree d e b.rd c.rd p).mpr z,(uU ok b d p).2,(uU ok c e p).2⟩
end
def Fz (K:Ca)(H:Hp)(S:Di)(ns:Da)(cs:Dd):Prop:=ns.length=cs.length/\∀(i:Nat) (x:Str) (c:Ej),ns[i]?=some x->cs[i]?=some c->∃b fs,H c=some (.dK b)/\yc K H fs b/\zf 4 fs/\fs.length<=20/\uo S x fs
theorem Fz.same {K:Ca}{cs:Dd}(h:Fz K H S ns cs)(e:zx H H'):Fz K H' S ns cs:=⟨h.1,fun i x c a b=>by
 obtain⟨d,fs,f,g,j⟩:=h.2 i x c a b;exact⟨d,fs,e _ _ f,g.same e,j⟩⟩
theorem CT {K:Ca}{H:Hp}{c:Ej}{Dm:Dl}{Q:VK}{E:XK}(ok:xj S)(e:uo S x fs)(f:uo S y gs)(b:zf 4 fs)(d:zf 4 gs)(g:fs.length<=20)(i:gs.length<=20)(p:H c=some (.dK Dm))(o:yc K H fs Dm)(hl:yx K H l xs)(hd:zy K H ((CA S x y).map Cr) xs)
  (k:∀q kv M H',zx H H'->H q=none->H' q=some (.dK kv)->AnS.Files K H' kv M (Ff gs)->M.length<=100->Q (.ref q) H'):uy K [.ref c,.ref l] H Q E:=by
 have h:=T9 ok e f b d;have j:=Sf ok e f b d;have v:=XY ok e f b d g i;refine⟨c,l,Dm,_,_,_,xs,rfl,p,qS o b,uG b,by rw[Q5];lia,hl,hd,by unfold CA;rw[Q5];lia,Pd ok e f b d,fun z=>?_,fun _ z=>?_,fun _ _ q kv M H' u t r n s=>?_⟩
 ·rw[h]at z;cases z
 ·rw[j]at z;exact absurd z<|Fq d
 ·rw[j]at n;exact k q kv M H' u t r n s
inductive sV (P:Ek)(w:Eo)(K:Ca)(C:Ej)(vs:Dj)(H:Hp)(Q:VK)(e3:XK):Prop
 |mk (a lr la:Ej) (fp:Dd) (S:Di) (ns:Da) (cs:Dd) (i j:Nat) (h0:vs=[.ref a,.ref lr,.ref la,.int i,.int j]) (h1:xr P w K C H a fp S) (h2:xj S) (h3:RY S) (h4:H lr=some (.lst<|ns.map V.str)) (h5:H la=some (.lst<|cs.map V.ref)) (h6:Fz K H S ns cs) (h7:i<ns.length) (h8:j<ns.length) (h9:∀H',zx H H'->Q (.bl true) H'):sV P w K C vs H Q e3
section
variable {P:Ek}{w:Eo}{K:Ca}{mg:Str->Dc}{base:EB}{t1 t2 t3 t4 t5 t6 t7:Tok}{aL aC aN aT aA b1 b2:Ej}(T:Txt P w K mg t1 t2 t3 t4 t5 t6 t7 aL aC aN aT aA b1 b2)
theorem Xo {α:Type}{f:α->V}{xs:List α}{i:Nat}{x:α}(h:xs[i]?=some x):CD (xs.map f) (i:Int)=some (f x):=xL (by rw[Zj,h];rfl)
theorem Ik {d:Ej}{ys:Dj}{Q:VK}{E:XK}(p:xr P w K C H a fp S)(ok:xj S)(h:uo S x fs)(i:uo S y gs)(f:zf 4 fs)(g:zf 4 gs)(b:fs.length<=20)(c:gs.length<=20)(hl:H d=some (.lst ys))(hd:zy K H ((Cu S x y).map Fp) ys)
  (k:∀q zs H',zx H H'->H q=none->H' q=some (.lst zs)->zy K H' ((CA S x y).map Cr) zs->Q (.ref q) H'):rQ P w K C [.ref a,.ref d] H Q E:=by
 have s:=XY ok h i f g b c;refine⟨a,d,fp,S,_,ys,rfl,p,ok,hl,hd,by lia,fun r l=>(O5 ok h i f g r l).2,fun q zs H' o n j e=>?_⟩;rw[T8]at e;exact k q zs H' o n j e
theorem SC (R:List Rl):(R.map Cr).any (fun y=>EH y<|.str "more")=false:=by
 rw[J6];intro d hd;obtain⟨r,_,rfl⟩:=Za.mp hd;exact ZH
theorem S3 {R:List Rl}(h:∀r∈R,vU r):Ev (R.map Cr)=true:=by
 induction R with
 |nil=>rfl
 |cons r R ih =>
  show((Cr r).canLay0&&Ev (R.map Cr))=true;rw[(NQ<|h r Zc).1,ih fun s b=>h s<|Q9 _ b];rfl
namespace A7
abbrev st:Stmt:=top 70
theorem sc:zu ["_law_store","_law_roots","_law_all_files","_law_one","_law_other","_law_names","_law_ahead","_law_rows","_law_back","_law_handed","_law_made"] ["_law_store","_law_roots","_law_all_files","_law_one","_law_other"] (zF st):=Cn
include T in
theorem ok (F:wX0 K "_law_there" st f fd)(Qh:uh P w K mg base 18 "changes_of" ["store","one","other"]<|wj P w K aC aN)(Qi:wV P w K mg base 6 "read_rows" ["store","rows"]<|rQ P w K aC)(Qw:wV P w K mg base 1 "rows_turned" ["rows"]<|sE K)(Qj:wV P w K mg base 7 "_law_done" ["_law_files","_law_rows"]<|uy K):yu P w K mg base Ck 19 f fd ["_law_store","_law_roots","_law_all_files","_law_one","_law_other"] (sV P w K aC):=by
 refine F.ok sc fun _ _ _ s H vs Q E u h=>?_;obtain⟨a,lr,la,fp,S,ns,cs,i,j,rfl,sh,ok,few,a2,ca,fz,hi,hj,k⟩:=h;refine⟨_,(zD (Cm (i:=5) sc.nd<|zR (yt:Cg _<|wZ K) (yO Qh u.m yA<|zA (pv 0)<|zA (zR (zj:Cg _<|xx K) (pv 1)<|pv 3)<|zA (zR (zj:Cg _<|xx K) (pv 1)<|pv 4) zB) zH)<|zD (Cm (i:=6) sc.nd<|zY xT (by rfl) T.list YS<|zA (pv 5) zB)<|zD (Cm (i:=7) sc.nd<|zI Qi u.m<|zA (pv 0)<|zA (pv 5) zB)<|zD (Cm (i:=8) sc.nd<|zI Qw u.m<|zA (pv 7) zB)<|zD (yD<|qV Yo Yi Yj xA (zI Qw u.m<|zA (pv 7) zB)<|zA zq zB)<|zD (yD<|qV Yo Yi Yj xA (zI Qi u.m<|zA (pv 0)<|zA (pv 5) zB)<|zA zq zB)<|zD (yC (PW.pt<|vL (zU (kH u.units) (pv 5) (pv 6)<|zW _)<|uP<|zU (K3 (K:=K) u.units) zq (pv 7)<|by with_unfolding_all rfl) (zE<|zM j2) zS)<|zD (Cm (i:=9) sc.nd<|y9<|zA (zY qO (by rfl) T.dict YA<|zA (zR (zj:Cg _<|xx K) (pv 2)<|pv 3) zB)<|zA (zY qO (by rfl) T.dict YA<|zA (zR (zj:Cg _<|xx K) (pv 2)<|pv 4) zB)<|zA (zY xT (by rfl) T.list YS<|zA (pv 7) zB) zB)<|zD (yC (qF<|zZ (K:=K)<|zO (xf.or (z6 (K:=K))<|jG (K:=K)) (by rfl) T.isinstance ZJ<|zA (pv 8)<|zA (xI (v:=.ty "list") rfl T.list YS rfl) zB) (zE<|zM j2) zS)<|zD (yC (PW.pt<|vL (zU (kH u.units) (pv 8) (zI Qi u.m<|zA (pv 0)<|zA (zR (yt:Cg _<|wZ K) (yO Qh u.m yA<|zA (pv 0)<|zA (zR (zj:Cg _<|xx K) (pv 1)<|pv 4)<|zA (zR (zj:Cg _<|xx K) (pv 1)<|pv 3) zB) zH) zB)<|zW _)<|uP<|zU (kH u.units) (pv 5) (pv 6)<|zW _) (zE<|zM j2) zS)<|zD (Cm (i:=10) sc.nd<|zI Qj u.m<|zA (zR (zj:Cg _<|xx K) (pv 2)<|pv 3)<|zA (pv 7) zB)<|zD (yC (PW.pt<|vL (qF<|zZ (K:=K)<|zO (xf.or (z6 (K:=K))<|jG (K:=K)) (by rfl) T.isinstance ZJ<|zA (pv 10)<|zA (xI (v:=.ty "dict") rfl T.dict YA rfl) zB)<|uP<|zU (B2 u.wB) (pv 10) (zR (zj:Cg _<|xx K) (pv 2)<|pv 4)<|zW _) (zE<|zM j2) zS)<|zD (xV u.wC (pv 10) zq (yH zB) rfl)<|zD (yC (zU (B2 u.wB) (zI Qj u.m<|zA (zR (zj:Cg _<|xx K) (pv 2)<|pv 3)<|zA (pv 7) zB) (zR (zj:Cg _<|xx K) (pv 2)<|pv 4)<|zW _) (zE<|zM j2) zS)<|zD (yC (zU (B2 u.wB) (zI Qj u.m<|zA (zR (zj:Cg _<|xx K) (pv 2)<|pv 4)<|zA (pv 8) zB) (zR (zj:Cg _<|xx K) (pv 2)<|pv 3)<|zW _) (zE<|zM j2) zS)<|zE<|zM<|yT (K2 u.wB) (pv 9) (y9<|zA (zR (zj:Cg _<|xx K) (pv 2)<|pv 3)<|zA (zR (zj:Cg _<|xx K) (pv 2)<|pv 4)<|zA (pv 7) zB)<|zW _),?_⟩
 obtain⟨dm,bt⟩:=fz;have b4:ns[i]?=some ns[i]:=Zb hi;have b6:ns[j]?=some ns[j]:=Zb hj;have b3:cs[i]?=some (cs[i]'(by lia)):=Zb (by lia);have b5:cs[j]?=some (cs[j]'(by lia)):=Zb (by lia);generalize ns[i]=x at b4;generalize ns[j]=y at b6;generalize cs[i]'(by lia)=c1 at b3;generalize cs[j]'(by lia)=c2 at b5;obtain⟨k1,fs,cr,ff,L,C,rx⟩:=bt i x c1 b4 b3;obtain⟨k2,gs,ct,fg,I,D,ry⟩:=bt j y c2 b6 b5;clear bt dm;have ai:=Xo (f:=V.str) b4;have aj:=Xo (f:=V.str) b6;have bi:=Xo (f:=V.ref) b3;have bj:=Xo (f:=V.ref) b5;have cd:=Pd ok rx ry L I;have dk:∀r∈(CA S x y).map XD,vU r:=fun r u=>by
  obtain⟨s,hs,rfl⟩:=Za.mp u;exact(cd s hs).turn
 have ln:=XY ok rx ry L I C D;have dl:(CA S x y).length<=40:=by unfold CA;rwa[Q5]
 have eN:=RG ok (R:=Cu S x y)<|O5 ok rx ry L I;refine⟨_,rfl,_,rfl,_,rfl,lr,_,_,_,rfl,rfl,yx.of a2,ai,_,rfl,_,rfl,lr,_,_,_,rfl,rfl,yx.of a2,aj,?_⟩
 try delta UN
 dsimp only;refine FE sh ok few rx ry L I C D fun pf lf ys H1 s1 ep en ea ax Z hd=>?_;refine⟨pf,_,_,_,rfl,rfl,xg.of ax,rfl,zJ ?_⟩;refine⟨_,rfl,lf,ys,rfl,.inl<|yx.of Z,fun ld dy=>nw dy fun H2 u2 c7=>zJ ?_⟩;have X:=u2 _ _ Z;have N:=zy.same u2 _ _ hd;have s2:=s1.trans u2;refine⟨_,rfl,_,rfl,?_⟩
 try delta UN
 dsimp only;refine Ik (sh.same s2) ok rx ry L I C D X N fun lw ws H3 s3 eo a3 dw=>zJ ?_;have sR:=Fb cd;have sB:=Fb dk;have wl:=dw.length;rw[Q5]at wl;refine⟨_,rfl,lw,CA S x y,ws,rfl,yx.of a3,dw,by lia,fun lb bs H4 s4 em c6 db=>zJ ?_⟩;have db:zy K H4 (((CA S x y).map XD).map Cr) bs:=by rwa[ZB]
 have ab:=s3.trans s4;refine⟨_,rfl,lw,CA S x y,ws,rfl,yx.of<|s4 _ _ a3,zy.same s4 _ _ dw,by lia,fun q5 z5 H5 s5 dd cb d5=>⟨.inl ⟨rfl,_,yx.of cb⟩,q5,_,_,rfl,rfl,cb,yI (by have:=d5.length;rw[Q5]at this;lia),?_⟩⟩;have a5:=An.zx.tB (o:=.lst<|z5++[V.str "more"]) s5 dd;generalize upd H5 q5 (.lst<|z5++[V.str "more"])=H6 at a5 ⊢;clear d5 cb dd s5;refine⟨_,rfl,_,rfl,?_⟩
 try delta UN
 dsimp only;have a4:=ab.trans a5;refine Ik (sh.same<|s2.trans a4) ok rx ry L I C D (a4 _ _ X) (zy.same a4 _ _ N) fun q7 z7 H7 s7 de cc d7=>⟨.inl ⟨rfl,_,yx.of cc⟩,q7,_,_,rfl,rfl,cc,yI (by have:=d7.length;rw[Q5]at this;lia),?_⟩;have ch:=An.zx.tB (o:=.lst<|z7++[V.str "more"]) s7 de;generalize upd H7 q7 (.lst<|z7++[V.str "more"])=H8 at ch ⊢;clear d7 cc de s7;have G:=a5.trans ch;have Y:=G _ _<|s4 _ _ a3;have bm:=zy.same (s4.trans G) _ _ dw;have a9:=G _ _ c6;have co:=zy.same G _ _ db;have c9:=(ab.trans G) _ _ X;have c8:=(ab.trans G) _ _ c7;have c3:=zy.same (ab.trans G) _ _ N;have s8:=s2.trans<|ab.trans G;clear a3 dw c6 db Z X c7 hd N a4 ch a5 G ab s4 s3 s2 u2 s1 ax H6;have names:∀{Hx:Hp} {Q':VK},zx H8 Hx->Q' (.bl false) Hx->WG K (.ref lf) (.ref ld) Hx Q':=fun{Hx Q'} sx q=>Rb (d:=.list<|(Cu S x y).map Fp) ⟨lf,ys,rfl,yx.of<|sx _ _ c9,zy.same sx _ _ c3⟩ ⟨ld,ys,rfl,yx.of<|sx _ _ c8,zy.same sx _ _ c3⟩ eN.1 eN.2 q;refine⟨_,rfl,_,rfl,names (zx.refl _) ⟨_,rfl,Ut ?_⟩⟩;refine⟨_,rfl,.str "more",(CA S x y).map Cr,rfl,⟨lw,ws,rfl,yx.of Y,bm⟩,S3 cd,by decide +kernel,by decide +kernel,_,rfl,?_⟩;rw[SC];refine Ut ?_;refine⟨_,rfl,_,rfl,la,_,_,_,rfl,rfl,yx.of<|s8 _ _ ca,bi,c1,k1,rfl,.inl<|s8 _ _ cr,fun d1 ds=>nw ds fun H9 u9 cu=>?_⟩;have s9:=s8.trans u9;refine⟨_,rfl,_,rfl,la,_,_,_,rfl,rfl,yx.of<|s9 _ _ ca,bj,c2,k2,rfl,.inl<|s9 _ _ ct,fun d2 du=>nw du fun eb a6 N=>?_⟩;have ap:=(u9.trans a6) _ _ Y;refine⟨_,rfl,lw,ws,rfl,.inl<|yx.of ap,fun l3 dv=>nw dv fun ec a7 c4=>?_⟩;refine⟨Ur 3,fun lh dz=>nw dz fun B uB dp=>zJ ?_⟩;have al:=((u9.trans a6).trans a7).trans uB;have z:=s8.trans al;have cx:=(a6.trans<|a7.trans uB) _ _ cu;have c0:=(a7.trans uB) _ _ N;have c5:=uB _ _ c4;have as:=al _ _ Y;have a0:=zy.same al _ _ bm;have an:=al _ _ a9;have ay:=zy.same al _ _ co;have O:=z _ _ cr;have U:=z _ _ ct;have bo:=ff.same z;have cp:=fg.same z;have p:=z _ _ ca;refine⟨_,rfl,.inl ⟨.ref lb,"list",.list<|((CA S x y).map XD).map Cr,_,rfl,Dt.dw ⟨lb,bs,rfl,yx.of an,ay⟩,T.is<|by simp[kinds],_,rfl,Ut ?_⟩⟩;clear bm co Y a9 ap cu N c4 s9 u9 a6 a7 uB;refine⟨_,rfl,_,rfl,_,rfl,_,rfl,_,rfl,lr,_,_,_,rfl,rfl,yx.of<|z _ _ a2,aj,_,rfl,_,rfl,lr,_,_,_,rfl,rfl,yx.of<|z _ _ a2,ai,?_⟩
 try delta UN
 dsimp only;refine FE (sh.same z) ok few ry rx I L D C fun pf el er ed cf _ _ _ ax Z hd=>?_;refine⟨pf,_,_,_,rfl,rfl,xg.of ax,rfl,?_⟩;refine Ik ((sh.same z).same cf) ok ry rx I L D C Z hd fun dr d9 ee df _ a8 bd=>?_;have c:=cf.trans df;rw[←Nb ok rx ry L I]at bd;refine Rb (d:=.list<|((CA S x y).map XD).map Cr) ⟨lb,bs,rfl,yx.of<|c _ _ an,zy.same c _ _ ay⟩ ⟨dr,d9,rfl,yx.of a8,bd⟩ sB.1 sB.2 ⟨_,rfl,Ut ?_⟩;refine⟨_,rfl,_,rfl,names (al.trans c) ⟨_,rfl,Ut ?_⟩⟩;clear ax Z hd a8 bd;have b0:=fun{Hx:Hp} (sx:zx B Hx)=>qS (bo.same sx) L;have a1:=fun{Hx:Hp} (sx:zx B Hx)=>qS (cp.same sx) I;refine⟨_,rfl,_,rfl,la,_,_,_,rfl,rfl,yx.of<|c _ _ p,bi,_,rfl,?_⟩
 try delta UN
 dsimp only;refine CT ok rx ry L I C D (c _ _ O) (bo.same c) (yx.of<|c _ _ as) (zy.same c _ _ a0) fun q kv M ef dh nq hq hF ml=>zJ ?_;have J:=c.trans dh;have d3:B q=none:=c.free nq;refine⟨_,rfl,.inr ⟨q,"dict",kv,_,rfl,.inl hq,T.kit _ (by simp[kinds]) _<|by simp[kinds],_,rfl,Ut ?_⟩⟩;refine⟨_,rfl,_,rfl,_,rfl,la,_,_,_,rfl,rfl,yx.of<|J _ _ p,bj,(hF.eqT hq (J _ _ U) (a1 J)<|uG I).more<|by decide,_,rfl,Ut ?_⟩;refine⟨Ur 0,fun pt dc=>nw dc fun di cl _=>?_⟩;refine⟨_,rfl,q,_,rfl,vy.k (k:=.inr "zz") (cl _ _ hq)<|yI (by have:=hF.is.len;lia),?_⟩;have t:=An.zx.tB (l:=q) (o:=.dK<|ye kv (.inr "zz")<|.ref pt) (J.trans cl) d3;generalize upd di q (.dK<|ye kv (.inr "zz")<|.ref pt)=eg at t ⊢;clear hF hq J cl dh nq dc c cf df;refine⟨_,rfl,_,rfl,la,_,_,_,rfl,rfl,yx.of<|t _ _ p,bi,_,rfl,?_⟩
 try delta UN
 dsimp only;refine CT ok rx ry L I C D (t _ _ O) (bo.same t) (yx.of<|t _ _ as) (zy.same t _ _ a0) fun q2 ej M2 eh d4 d0 da hF _=>?_;have g:=t.trans d4;refine⟨_,rfl,_,rfl,la,_,_,_,rfl,rfl,yx.of<|g _ _ p,bj,(hF.eqT da (g _ _ U) (a1 g)<|uG I).more<|by decide,_,rfl,Ut ?_⟩;clear hF da d0;rw[Nb ok rx ry L I]at ay;refine⟨_,rfl,_,rfl,la,_,_,_,rfl,rfl,yx.of<|g _ _ p,bj,_,rfl,?_⟩
 try delta UN
 dsimp only;refine CT ok ry rx I L D C (g _ _ U) (cp.same g) (yx.of<|g _ _ an) (zy.same g _ _ ay) fun q3 ek M3 ei d6 eq dq hF _=>?_;have A:=g.trans d6;refine⟨_,rfl,_,rfl,la,_,_,_,rfl,rfl,yx.of<|A _ _ p,bi,(hF.eqT dq (A _ _ O) (b0 A)<|uG L).more<|by decide,_,rfl,Ut ?_⟩;refine⟨_,rfl,_,rfl,_,rfl,la,_,_,_,rfl,rfl,yx.of<|A _ _ p,bi,_,rfl,_,rfl,la,_,_,_,rfl,rfl,yx.of<|A _ _ p,bj,_,rfl,Ur 3,fun l9 dx=>nw dx fun dj d8 dn=>?_⟩;have b:=A.trans d8;refine⟨(rO.lst (n:=65) (yx.of<|b _ _ dp) (yx.of dn) rfl fun i x' y' e1 e2=>?_).more (by decide),k _<|z.trans b⟩
 match i,e1,e2 with
 | 0,e1,e2=>cases e1;cases e2;exact(b0 b).eqT (b _ _ cx) (b _ _ O) (b0 b) (uG L)
 | 1,e1,e2=>cases e1;cases e2;exact(a1 b).eqT (b _ _ c0) (b _ _ U) (a1 b) (uG I)
 | 2,e1,e2=>cases e1;cases e2;exact(rO.data (K:=K) (H:=dj) (x:=.ref l3) (y:=.ref lw) (d:=.list<|(CA S x y).map Cr) (e:=.list<|(CA S x y).map Cr) ⟨l3,ws,rfl,yx.of<|b _ _ c5,zy.same b _ _ a0⟩ ⟨lw,ws,rfl,yx.of<|b _ _ as,zy.same b _ _ a0⟩ sR.1 sR.1 sR.2).more (by decide)
 |i+3,e1,e2=>cases e1
end A7
end
end An14
namespace L2
open PySem PySem.Spec PyProof.Rows
section
variable {P:Ek}{w:Eo}{K:Ca}{mg mb:Str->Dc}{CX:RX}{k:Nat}{fa a T c:Ej}{fd:Et}{x:Str}{sp:Sp}{s:Em}{vs:Db}{ns:List Int}
theorem Sw {H:Hp}(U:K.In s.heap)(X:s.heap.Ns Ew mg)(M:s.heap.Ns builtinsNs mb)(N:∀x:Str,x≠"__name__"->mb x=LL x)(y:s.heap.NoLimit)(Q:s.gens=#[])(hr:xu k callerA)
  (B:s.heap.get? T=some (PySem.W.tabObj #[])) (J:K.lookup T=none) (hC:PySem.W.codeHdIn K c T=true) (O:BMain mg s.heap)
  (F:∀base:EB,K.In base->base.Ns Ew mg->BMain mg base->yu P w K mg base CX k fa fd [x] sp) (i:∀(s:Em) (u:Ei),BindsTo s fd ⟨[u],[]⟩ [(x,u)])
  (I:∀H e s',CX [] H s (fun _ _ _=>False) e s'->False) (hok:vf P w H s.heap) (G:H T=some (.tbl #[])) (j:∀b u,H b=some u->b=T\/(b=a/\K.lookup a=none/\∃o n,u=.frz o (.lst<|ns.map V.int)/\o={ cls:=.type "list",data:=.seq vs.toArray n }))
  (R:sp [.ref a] H (fun v _=>v=.bl true) fun _ _ _=>False) :
  L1 (Ep P w) callerA (.call (.ref fa) ⟨[.ref a],[]⟩) (fun r s'=>r=.ok (.ret<|.bool true)/\OldK s.heap s'.heap/\s'.os=s.os/\ME s'.gens) s:=by
 have A:∀{b:Ej} {o:Obj},s.heap.get? b=some o->o.cls≠.none->o.cls≠.type "list"->(CQ s.heap H).get? b=some o:=fun{b o} e n1 n2=>Gq e (by
  cases q:H b with
  |none=>rfl
  |some u =>
   exfalso
   rcases j b u q with z|⟨z,_,C,m,l,E⟩
   ·rw[z,B]at e;cases e;exact n1 rfl
   ·have:=hok b u q;rw[l]at this;have:=this.1;rw[e,E]at this;cases this;exact n2 rfl)
 have f:∀{b:Ej} {m:Str->Dc},s.heap.Ns b m->(CQ s.heap H).Ns b m:=fun{b m} ⟨o,es,ep,e,d,r⟩=>⟨o,es,ep,Gq e (by
  cases q:H b with
  |none=>rfl
  |some u =>
   exfalso
   rcases j b u q with z|⟨z,_,C,m,l,E⟩
   ·rw[z,B]at e;cases e;cases d
   ·have:=hok b u q;rw[l]at this;have:=this.1;rw[e,E]at this;cases this;cases d),d,r⟩
 have p:K.In (CQ s.heap H):=fun b o e=>Gq (U b o e) (by
  cases q:H b with
  |none=>rfl
  |some u =>
   exfalso
   rcases j b u q with z|⟨z,S,_⟩
   ·rw[z,J]at e;cases e
   ·rw[z,S]at e;cases e)
 have hB:BMain mg (CQ s.heap H):=by
  obtain⟨bm,C,b1,b2,b3,D,b5,b6⟩:=O;exact⟨bm,C,b1,b2,A b3 (by rw[D];exact fun z=>nomatch z) (by rw[D];decide),D,b5,b6⟩
 have hM:Mod K mg (CQ s.heap H):=⟨p,f X,⟨mb,f M,N⟩,let ⟨mc,G,j⟩:=y;⟨mc,f G,j⟩⟩;refine YW ((F _ p (f X) hB).run callerA [] s H ⟨[.ref a],[]⟩ [.ref a] [.ref a] _ _ hr ⟨rfl,hM,fun b o e=>SE e,JQ<|Ou _ _,trivial,fun b M=>absurd (show b∈([]:Dd) from M) (by simp),hok,.of_eq Q⟩ (i s<|.ref a) (.cons rfl .nil) R) fun r s' h=>?_;cases r with
 |error e=>exact(I H e s' h).elim
 |ok fl =>
  cases fl with
  |next=>exact EL h
  |brk=>exact EL h
  |cont=>exact EL h
  |ret u =>
   obtain⟨v,H',os,bare,un,g,r',q⟩:=h;have q:v=.bl true:=q;subst q;obtain rfl:u=L7 true:=r';obtain⟨Y,L⟩:=un.vz T _ G;have t:s'.heap.get? T=some (PySem.W.tabObj<|#[]++Y):=g T _ L;have keep:∀b o,b≠T->s.heap.get? b=some o->s'.heap.get? b=some o:=fun b o nb e=>by
    cases q:H b with
    |none=>exact un.keep b o e q (fun z=>absurd (show b∈([]:Dd) from z) (by simp)) (fun z=>absurd z<|by simp)
    |some u =>
     rcases j b u q with z|⟨_,_,C,m,l,_⟩
     ·exact absurd z nb
     ·rw[l]at q;have Z:=(hok b _ q).1;have S:=(g b _<|un.wg b _ _ q).1;rw[e]at Z;cases Z;exact S
   refine⟨rfl,⟨fun b o e=>?_,fun b o e=>?_⟩,os,bare⟩
   ·by_cases z:b=T
    ·subst z;rw[B]at e;cases e;exact .inr<|.inl ⟨((PySem.W.codeHd_of_K U hC).tab B).isCodeTable,rfl,#[],Y,rfl,t⟩
    ·exact .inl (keep b o z e)
   ·by_cases z:b=T
    ·rw[z];exact⟨_,t⟩
    ·exact⟨o,keep b o z e⟩
end
theorem nG {l:PySem.W.OpenLaw}{n k:Nat}{q:Ek}{t:Da}{S:(Str->Dc)->EB->Prop}{E:Eo->EB->Prop}{d:DefRec}{K:Params->Ca}{sp:Eo->Sp}{x:Str}{T c:Ej}
  (hn:l.most=some n) (N:n<=sizeLine) (J:d.params.defaults=[]) (hr:xu k callerA) (hY:∀(w:Eo) (h:EB),E w h->(K w.params).In h) (hT:∀(w:Eo) (h:EB),E w h->h.get? T=some (PySem.W.tabObj #[])) (I:∀p,(K p).lookup T=none) (hC:∀p,PySem.W.codeHdIn (K p) c T=true)
  (F:∀(w:Eo) (mg:Str->Dc) (fa:Ej) (h:EB),(K w.params).In h->h.Ns Ew mg->mg d.name=some (.ref fa) -> ∃fd:Et,(∀(s:Em) (u:Ei),BindsTo s fd ⟨[u],[]⟩ [(x,u)])/\∀base:EB,(K w.params).In base->base.Ns Ew mg->BMain mg base->yu l.prog w (K w.params) mg base Ck k fa fd [x] (sp w))
  (O:∀(w:Eo) (H:Hp) (a:Ej) (ns:List Int),ns.length<=n->H T=some (.tbl #[])->yx (K w.params) H a (ns.map V.int)->sp w [.ref a] H (fun v _=>v=.bl true) fun _ _ _=>False) :
  PySem.W.WalkO q t S E l.row.toRowW d [] (fun f vs=>PySem.call f vs):=by
 refine Att.qp hn J fun w s₀ C mg mb fa o pm cd X a vs ns G Y ho hd ab M y r P hg=>?_;have D:=hY w _ Y;have A:=hT w _ Y;obtain⟨fd,i,hF⟩:=F w mg fa _ D G.T.g M;have R:=BN r;have B:=r.length;have hl:ns.length<=sizeLine:=ZL P N;have main:∀H:Hp,vf l.prog w H C.heap->H T=some (.tbl #[])->(∀b u,H b=some u->b=T\/(b=a/\(K w.params).lookup a=none/\∃o n,u=.frz o (.lst<|ns.map V.int)/\o={ cls:=.type "list",data:=.seq vs.toArray n }))->yx (K w.params) H a (ns.map V.int)->_:=fun H hok Q Z hS =>
  Sw (a:=a) (vs:=vs) (ns:=ns) D G.T.g G.T.b G.T.builtins G.T.nolimit hg hr A (I _) (hC _) G.T.bmain hF i (fun _ _ _ z=>z) hok Q Z (O w H a ns P Q hS)
 have U:a≠T:=fun z=>by rw[z,A]at y;cases y
 cases L:(K w.params).lookup a with
 |some o =>
  have e:=D a o L;rw[y]at e;cases e;refine main (fun b=>if b=T then some (.tbl #[]) else none) (fun b u z=>?_) (Zt rfl) (fun b u z=>?_) (.inr ⟨_,vs.toArray,_,L,rfl,rfl,rfl,by rw[Zp,B];exact hl,by simpa using R⟩)
  ·by_cases i:b=T
   ·have z:=(Zt i).symm.trans z;cases z;rwa[i]
   ·have z:=(Zs i).symm.trans z;cases z
  ·by_cases i:b=T
   ·exact .inl i
   ·have z:=(Zs i).symm.trans z;cases z
 |none =>
  refine main (fun b=>if b=T then some (.tbl #[]) else if b=a then some (.frz { cls:=.type "list",data:=.seq vs.toArray }<|.lst<|ns.map V.int) else none) (fun b u z=>?_) (Zt rfl) (fun b u z=>?_) (.inl<|.inr ⟨{ cls:=.type "list",data:=.seq vs.toArray },(Zs U).trans<|Zt rfl⟩)
  ·by_cases i:b=T
   ·have z:=(Zt i).symm.trans z;cases z;rwa[i]
   ·have z:=(Zs i).symm.trans z
    by_cases j:b=a
    ·have z:=(Zt j).symm.trans z;cases z;rw[j];exact⟨y,by rw[Q5];exact hl,vs,_,R,y⟩
    ·have z:=(Zs j).symm.trans z;cases z
  ·by_cases i:b=T
   ·exact .inl i
   ·have z:=(Zs i).symm.trans z
    by_cases j:b=a
    ·have z:=(Zt j).symm.trans z;cases z;exact .inr ⟨j,L,_,_,rfl,rfl⟩
    ·have z:=(Zs j).symm.trans z;cases z
end L2
namespace An14
open PySem L2 An
theorem Sh:RY []:=fun x rows a=>by obtain⟨e,b,_⟩:=a;cases b
theorem Si (h:RY S)(ok:xj S)(p:vV 5 S fs q)(g:zf 4 fs)(n:fs.length<=20):RY q.1:=fun x rows a=>by
 obtain⟨T,i,_⟩:=p.new
 rcases(p.names x).mp a.mem with m|m
 ·obtain⟨e,c,j⟩:=Za.mp m;obtain⟨d,l,_⟩:=ok.th e c;have b:At S x d:=⟨e,c,j,l⟩;have f:At q.1 x d:=i▸b.more;have:=At.thing p.ok a f;cases this;exact h x rows b
 ·have:=Hi p.ok a p.tree m;rw[(p.perm g).length_eq]at this;lia
def Fc (K:Ca)(H:Hp)(e cs:Dd)(b:List Dk)(n:Nat):Prop:=cs.length=b.length/\∀(i:Nat) (c:Ej) (fs:Dk),cs[i]?=some c->b[i]?=some fs->c∉e/\zf 4 fs/\fs.length<=n/\∃d,H c=some (.dK d)/\yc K H fs d
section
variable {P:Ek}{w:Eo}{K:Ca}{C:Ej}{H H':Hp}{fp cs:Dd}{gss:List Dk}{n:Nat}
theorem Fc.same (h:Fc K H fp cs gss n)(e:zx H H'):Fc K H' fp cs gss n:=⟨h.1,fun i c fs a b=>by
 obtain⟨f,g,j,d,l,o⟩:=h.2 i c fs a b;exact⟨f,g,j,d,e _ _ l,o.same e⟩⟩
theorem Fc.off {X:Dd}(h:Fc K H fp cs gss n)(nt:∀b∈X,∀xs,¬Rd H b (.tup xs))(o:Off X H H')(e:∀c∈cs,c∉X):Fc K H' fp cs gss n:=⟨h.1,fun i c fs a b=>by
 obtain⟨f,g,j,d,l,p⟩:=h.2 i c fs a b;exact⟨f,g,j,d,o _ _ (e c<|Zm a) l,p.off nt o⟩⟩
theorem Fc.jw (h:Fc K H fp cs gss n){c:Ej}(f:c∈cs):c∉fp/\∃Dm,H c=some (.dK Dm):=by
 obtain⟨i,b⟩:=Yl.mp f;have l:=(Zq.mp b).1;obtain⟨d,_,_,Dm,e,_⟩:=h.2 i c _ b (Zb<|by rwa[←h.1]);exact⟨d,Dm,e⟩
theorem Fc.snoc {m:Nat}(h:Fc K H fp cs gss n)(nm:n<=m){c:Ej}{Dm:Dl}{fs:Dk}(r:H c=some (.dK Dm))(f:yc K H fs Dm)(g:zf 4 fs)(s:c∉fp)(l:fs.length<=m):Fc K H fp (cs++[c]) (gss++[fs]) m:=by
 refine⟨by rw[Ze,Ze,h.1];rfl,fun i e d a b=>?_⟩
 by_cases z:i<cs.length
 ·rw[ZS z]at a;rw[ZS<|by rwa[←h.1]]at b;obtain⟨j,o,t,p⟩:=h.2 i e d a b;exact⟨j,o,by lia,p⟩
 ·rw[ZX<|by lia]at a;rw[ZX (by rw[←h.1];lia),←h.1]at b;cases q:i-cs.length with
  |zero =>
   rw[q]at a b;cases a;cases b;exact⟨s,g,l,Dm,r,f⟩
  |succ k=>rw[q]at a;cases a
theorem Px (b:List Int)(n:Nat):∃ms:List Int,UA (b.map V.int) (some 1) (some<|(n:Int))=ms.map V.int/\ms.length<=n-1:=by
 refine⟨(b.drop<|HT.wO (b.map V.int).length 0<|some 1).take<|HT.wO (b.map V.int).length (b.map V.int).length (some (n:Int))-HT.wO (b.map V.int).length 0 (some 1),?_,?_⟩
 ·unfold UA;rw[VY,List.map_drop]
 ·have c:HT.wO (b.map V.int).length (b.map V.int).length (some (n:Int))=min n (b.map V.int).length:=HT.sX _ _ n;have d:HT.wO (b.map V.int).length 0 (some 1)=min 1 (b.map V.int).length:=HT.sX _ _ 1;rw[Zx,c,d];lia
def sS (K:Ca)(H:Hp)(F:FF)(R:List Rl)(v:V):Prop:=(UH F R=false/\v=.str "no fit")\/(UH F R=true/\UX (doneF F R)/\v=.str "bad files")\/(UH F R=true/\¬UX (doneF F R)/\∃q b M,v=.ref q/\H q=some (.dK b)/\AnS.Files K H b M (doneF F R))
theorem sS.same (h:sS K H F R v)(e:zx H H'):sS K H' F R v:=by
 rcases h with h|h|⟨b,c,q,i,M,d,f,g⟩
 ·exact .inl h
 ·exact .inr (.inl h)
 ·exact .inr (.inr ⟨b,c,q,i,M,d,e _ _ f,g.same e⟩)
theorem sS.eqT (h:sS K H F R v)(k:sS K H F R u)(ok:oJ<|doneF F R):rO K 65 H v u:=by
 rcases h with⟨h1,rfl⟩|⟨h1,h2,rfl⟩|⟨h1,h2,q,kv,M,rfl,h4,h5⟩
 ·rcases k with⟨k1,rfl⟩|⟨k1,_⟩|⟨k1,_⟩
  ·exact(rO.data (K:=K) (H:=H) (d:=.str "no fit") (e:=.str "no fit") rfl rfl (by decide +kernel) (by decide +kernel)<|by decide +kernel).more (by decide)
  ·rw[h1]at k1;cases k1
  ·rw[h1]at k1;cases k1
 ·rcases k with⟨k1,_⟩|⟨k1,k2,rfl⟩|⟨k1,k2,_⟩
  ·rw[h1]at k1;cases k1
  ·exact(rO.data (K:=K) (H:=H) (d:=.str "bad files") (e:=.str "bad files") rfl rfl (by decide +kernel) (by decide +kernel)<|by decide +kernel).more (by decide)
  ·exact absurd h2 k2
 ·rcases k with⟨k1,_⟩|⟨k1,k2,_⟩|⟨k1,k2,q2,kv2,M2,rfl,k4,k5⟩
  ·rw[h1]at k1;cases k1
  ·exact absurd k2 h2
  ·exact h5.eqT h4 k4 k5 ok
theorem He {c:Ej}{Dm:Dl}{R:List Rl}{Q:VK}{E:XK}(j:H c=some (.dK Dm))(g:yc K H fs Dm)(e:zf 4 fs)(f:fs.length<=20)(hl:yx K H l xs)(hd:zy K H (R.map Cr) xs)(i:R.length<=60)(ok:∀r∈R,vU r)
  (k:∀v H',zx H H'->sS K H' (Ff fs) R v->Q v H'):uy K [.ref c,.ref l] H Q E :=
 ⟨c,l,Dm,_,_,R,xs,rfl,j,qS g e,uG e,by rw[Q5];lia,hl,hd,i,ok,fun z H' b=>k _ H' b<|.inl ⟨z,rfl⟩,fun z d H' b=>k _ H' b<|.inr<|.inl ⟨z,d,rfl⟩,fun z d q o M H' b _ n h _=>k _ H' b<|.inr<|.inr ⟨z,d,q,o,M,rfl,n,h⟩⟩
end
theorem Ts {K:Ca}(h:yc K H fs Dm)(e:NT H H'):yc K H' fs Dm:=⟨h.keys,fun i f c a b=>⟨e.dt _ _ (h.val i f c a b).1,(h.val i f c a b).2⟩⟩
inductive qb (K:Ca)(aP:Ej)(vs:Dj)(H:Hp)(Q:VK)(e3:XK):Prop
 |mk (a:Ej) (ns:List Int) (h0:vs=[.ref a]) (h1:yx K H a<|ns.map V.int) (h2:ns.length<=63) (h3:H aP=some (.tbl #[])) (h4:∀H',Q (.bl true) H'):qb K aP vs H Q e3
section
variable {P:Ek}{w:Eo}{K:Ca}{mg:Str->Dc}{base:EB}{t1 t2 t3 t4 t5 t6 t7:Tok}{aL aC aN aT aA b1 b2 aP:Ej}(T:Txt P w K mg t1 t2 t3 t4 t5 t6 t7 aL aC aN aT aA b1 b2)
namespace A8
abbrev st:Stmt:=top 71
theorem sc:zu ["_law_script","_law_paths_here","_law_store","_law_all_files","_law_cell_here","_law_roots","_law_many","_law_k","_law_picks","_law_first","_law_second","_law_pair","_law_other","_law_rows","_law_files","_law_handed","_law_made"] ["_law_script"] (zF st):=Cn
include T in
theorem ok (F:wX0 K "law" st f fd)(QY:wV P w K mg base 3 "_law_paths" ["_law_cell_here"] BJ)(Qe:wV P w K mg base 1 "_law_cell" ["_law_script","_law_k"]<|pP K)(QZ:wV P w K mg base 3 "_law_others" ["_law_cell_here","_law_files","_law_paths_here"]<|uf K)(Q0:jo P w K mg base aC 5 "Shelf" ["self","base"]<|pR P w K aC)
  (Q1:uh P w K mg base 13 "keep_files" ["shelf","files"]<|pK P w K aC) (Qh:uh P w K mg base 18 "changes_of" ["store","one","other"]<|wj P w K aC aN) (Qi:wV P w K mg base 6 "read_rows" ["store","rows"]<|rQ P w K aC) (Qx:wV P w K mg base 19 "_law_there" ["_law_store","_law_roots","_law_all_files","_law_one","_law_other"]<|sV P w K aC) (Qj:wV P w K mg base 7 "_law_done" ["_law_files","_law_rows"]<|uy K) (Q2:wV P w K mg base 1 "_law_due" ["_law_files","_law_rows"]<|uy K) (Q3:wV P w K mg base 5 "_law_spoilt" ["_law_rows","_law_cell_here","_law_path"]<|rY K aP):yu P w K mg base Ck 20 f fd ["_law_script"] (qb K aP):=by
 refine F.ok sc fun _ _ _ _ H vs Q E A h=>?_;obtain⟨sa,C,rfl,g,Dp,hP,kQ⟩:=h;refine⟨_,(zD (Cm (i:=1) sc.nd<|zI QY A.m<|zA (zI Qe A.m<|zA (pv 0)<|zA zH zB) zB)<|zD (Cm (i:=2) sc.nd<|SJ Q0 A.m<|zA uO zB)<|zD (Cm (i:=3) sc.nd<|y9<|zA qM zB)<|zD (yU PassesOwn.never rfl (xJ<|yR (wJ:Kl _<|Ia K) (zP (SF (K:=K)) (pv 0)<|y9<|zA zH<|zA zH zB) (xG zH)<|xG<|zP xH (zP xH zH zH)<|zP yS (zI Qe A.m<|zA (pv 0)<|zA zH zB) zH) (zL (i:=4) sc.nd rfl<|EJ rfl)<|zE<|yD<|qV Yo Yi Yj xA (pv 3)<|zA (zI QZ A.m<|zA (pv 4)<|zA (zR (zj:Cg _<|xx K) (pv 3)<|aS W2 zH)<|zA (pv 1) zB) zB)<|zD (vN (sc:=zF st) (N:=["_law_script","_law_paths_here","_law_store","_law_all_files","_law_cell_here","_law_roots","_law_many","_law_k","_law_picks","_law_first","_law_second","_law_pair","_law_other","_law_rows","_law_files","_law_handed","_law_made"]) (N':=["_law_files","_law_store"]) (src:=[none,some 2]) .a rfl rfl rfl (xJ<|pv 3) (fun _ _ _ _=>(zL (i:=0) (show(["_law_files","_law_store"]:Da).Nodup by decide +kernel) rfl (EJ rfl))) (fun _ _ _ _=>xS) (fun _ _ _ _=>(yO Q1 A.m yA<|zA (pv 1)<|zA (pv 0) zB)) sc.nd rfl (EJ rfl) (k:=5)) (zD (Cm (i:=6) sc.nd<|zO z9 (by rfl) T.len Yw<|zA (pv 5) zB)<|zD (yU PassesOwn.never rfl (Xb rfl T.range<|zA (zP Wv (pv 6) zH) zB) (zL (i:=7) sc.nd rfl<|EJ rfl)<|zE<|yC (qF<|zZ (K:=K)<|zI Qx A.m<|zA (pv 2)<|zA (pv 5)<|zA (pv 3)<|zA (pv 7)<|zA (zP xH (pv 7) zH) zB) (zE<|zM j2) zS)<|zD (Cm (i:=8) sc.nd<|y9<|zA (zP yS (zI Qe A.m<|zA (pv 0)<|zA zH zB)<|pv 6)<|zA (zP yS (zI Qe A.m<|zA (pv 0)<|zA zH zB)<|pv 6)<|zA (zP yS (zI Qe A.m<|zA (pv 0)<|zA zH zB)<|pv 6) zB)<|zD (yC (qF<|zZ (K:=K)<|zI Qx A.m<|zA (pv 2)<|zA (pv 5)<|zA (pv 3)<|zA (zR (zj:Cg _<|xx K) (pv 8) zH)<|zA (zR (zj:Cg _<|xx K) (pv 8) zH) zB) (zE<|zM j2) zS)<|zD (Cm (i:=9) sc.nd<|yO Qh A.m yA<|zA (pv 2)<|zA (zR (zj:Cg _<|xx K) (pv 5)<|zR (zj:Cg _<|xx K) (pv 8) zH)<|zA (zR (zj:Cg _<|xx K) (pv 5)<|zR (zj:Cg _<|xx K) (pv 8) zH) zB)<|zD (Cm (i:=10) sc.nd<|yO Qh A.m yA<|zA (pv 2)<|zA (zR (zj:Cg _<|xx K) (pv 5)<|zR (zj:Cg _<|xx K) (pv 8) zH)<|zA (zR (zj:Cg _<|xx K) (pv 5)<|zR (zj:Cg _<|xx K) (pv 8) zH) zB)<|zD (yU PassesOwn.never rfl (jW<|yH<|zA (yH<|zA (pv 9)<|zA (zR (zj:Cg _<|xx K) (pv 8) zH) zB)<|zA (yH<|zA (pv 10)<|zA (zR (zj:Cg _<|xx K) (pv 8) zH) zB) zB) (jT rfl<|zX (zL (i:=11) sc.nd rfl<|EJ rfl)<|zX (zL (i:=12) sc.nd rfl<|EJ rfl) xX)<|zE<|yC (zU (B2 A.wB) (zI Qj A.m<|zA (zR (zj:Cg _<|xx K) (pv 3)<|zR (zj:Cg _<|xx K) (pv 8) zH)<|zA (zI Qi A.m<|zA (pv 2)<|zA (zR (yt:Cg _<|wZ K) (pv 11) zH) zB) zB) (zR (zj:Cg _<|xx K) (pv 3)<|pv 12)<|zW _) (zE<|zM j2) zS)<|zD (Cm (i:=13) sc.nd<|zI Qi A.m<|zA (pv 2)<|zA (zR (yt:Cg _<|wZ K) (yO Qh A.m yA<|zA (pv 2)<|zA (zR (zj:Cg _<|xx K) (pv 5)<|zR (zj:Cg _<|xx K) (pv 8) zH)<|zA (zR (zj:Cg _<|xx K) (pv 5)<|zR (zj:Cg _<|xx K) (pv 8) zH) zB) zH) zB)<|zD (Cm (i:=13) sc.nd<|zI Q3 A.m<|zA (pv 13)<|zA (zI Qe A.m<|zA (pv 0)<|zA zH zB)<|zA (zR (zj:Cg _<|xx K) (pv 1)<|zP yS (zI Qe A.m<|zA (pv 0)<|zA zH zB) zH) zB)<|zD (Cm (i:=14) sc.nd<|zR (zj:Cg _<|xx K) (pv 3)<|zR (zj:Cg _<|xx K) (pv 8) zH)<|vF (yC (zU qJ (zP yS (zP qU (zI Qe A.m<|zA (pv 0)<|zA zH zB)<|pv 6) zH) zH<|zW _) (zE<|Cm (i:=14) sc.nd<|zR (zj:Cg _<|xx K) (pv 3)<|zR (zj:Cg _<|xx K) (pv 8) zH) zS)<|zD (Cm (i:=15) sc.nd<|y9<|zA (zY qO (by rfl) T.dict YA<|zA (pv 14) zB)<|zA (zY xT (by rfl) T.list YS<|zA (pv 13) zB) zB)<|zD (Cm (i:=16) sc.nd<|zI Qj A.m<|zA (zR (zj:Cg _<|xx K) (pv 15) zH)<|zA (zR (zj:Cg _<|xx K) (pv 15) zH) zB)<|zE<|zM<|xU (yT (K2 A.wB) (pv 16) (zI Q2 A.m<|zA (pv 14)<|zA (pv 13) zB)<|zW _)<|qP<|yT (K2 A.wB) (pv 15) (y9<|zA (pv 14)<|zA (pv 13) zB)<|zW _)),?_⟩
 refine⟨_,rfl,sa,C,0,rfl,g,by decide,fun i0=>⟨i0,rfl,fun lp ps H1 s1 fo I eq er=>zJ ?_⟩⟩;refine fun x dx nx em ne=>⟨x,dx,rfl,zC,by rw[zG ne];exact zC,ne,fun fp B ee dn c8=>⟨rfl,zJ ?_⟩⟩;obtain⟨s2,fr⟩:=OG nx em ne ee dn;have ok0:xj []:=⟨c8.good,fun e he=>(nomatch he),fun e he=>(nomatch he)⟩;have nP:aP∉fp:=fun z=>by have:=fr _ z;rw[s1 _ _ hP]at this;cases this
 have dm:lp∉fp:=fun z=>by have:=fr _ z;rw[I]at this;cases this
 have sB:=s1.trans s2;have hP:=sB _ _ hP;have g:=sB.seq g;have I:=s2 _ _ I;clear s1 s2 sB nx em ne ee dn fr fo;refine fun c0 dy=>nw dy fun H2 u2 a6=>⟨Ur 1,fun J dz=>nw dz fun H3 u3 ab=>zJ ?_⟩;have s3:=u2.trans u3;have dk:B J=none:=u2.free dz;have dj:c0∉fp:=c8.ex.not dy;have d7:Fc K H3 fp ([]++[c0]) ([]++[[]]) (5*0):=by
  have e:Fc K H3 fp [] [] 0:=⟨rfl,fun i c fs a b=>(nomatch a)⟩;exact e.snoc (Zd _) (u3 _ _ a6) yc.nil ⟨fun f hf=>(nomatch hf),YM,fun f hf=>(nomatch hf)⟩ dj (Zd _)
 refine⟨_,rfl,Ur 2,fun l5 n5=>nw n5 fun H4 u4 h5=>⟨sa,l5,_,_,rfl,rfl,(s3.trans u4).seq g,yx.of h5,zr (by rw[Q5];show _+2<=_;lia),fun l6 n6=>nw n6 fun H5 u5 h6=>?_⟩⟩;have s5:=(s3.trans u4).trans u5;refine⟨_,rfl,_,_,rfl,rfl,_,rfl,sa,C,1,rfl,s5.seq g,by decide,fun i1=>?_⟩;refine⟨_,_,rfl,rfl,(by show(0:Int)<4;decide),_,_,rfl,rfl,_,rfl,l6,_,rfl,yx.of h6,?_⟩;have ez:C.map V.int++[V.int 5,V.int 7]=(C++[5,7]).map V.int:=by rw[Zg];rfl
 have en:(1+1+i1 % 4:Int)=((2+(i1 % 4).toNat:Nat):Int):=by lia
 obtain⟨ms,eg,fi⟩:=Px (C++[5,7])<|2+(i1 % 4).toNat;have fi:ms.length<=4:=by lia
 rw[ez,en,eg];refine fun l7 n7=>nw n7 fun H6 u6 h7=>?_;have D:=(u4.trans u5).trans u6;have s6:=s3.trans D;have ek:J≠l7:=fun z=>by rw[←z,(u4.trans u5) _ _ ab]at n7;cases n7
 refine⟨l7,rfl,⟨_,yx.of h7⟩,j9 (K:=K) (a:=l7) (xs:=ms.map V.int) (fun i σ H'=>∃o4 cs Y c fs,σ=[some<|.ref sa,some<|.ref lp,some<|.ref x,some<|.ref J,o4,none,none,none,none,none,none,none,none,none,none,none,none]/\zx B H'/\H' l7=some (.lst<|ms.map V.int)/\H' J=some (.lst<|(cs++[c]).map V.ref)/\Fc K H' fp (cs++[c]) (Y++[fs]) (5*i)/\cs.length=i) ⟨none,[],[],c0,[],rfl,s6,h7,D _ _ ab,d7.same D,rfl⟩ (fun i σ H' hi ⟨_,_,_,_,_,_,_,e,_⟩=>yx.of e) ?_ ?_⟩
 ·rintro i v σ H' hv ⟨o4,cs,Y,c,fs,rfl,sH,fb,r,fc,cl⟩;rw[Zj]at hv;obtain⟨m,hm,rfl⟩:=Zz.mp hv;have i4:=(Zq.mp hm).1;obtain⟨cb,e7⟩:=id fc;rw[Ze,Ze]at cb;have cb:cs.length=Y.length:=Nat.succ.inj cb;obtain⟨bi,X,fl,U,hc,ff⟩:=e7 cs.length c fs (by simp) (by rw[cb];simp);have dq:CD ((cs++[c]).map V.ref) (-1)=some (V.ref c):=by rw[Zg];exact O2 _ _
  refine zJ ⟨_,rfl,.inl ⟨rfl,_,yx.of r⟩,_,rfl,_,rfl,_,rfl,J,_,_,_,rfl,rfl,yx.of r,dq,_,rfl,?_⟩
  try delta UN
  dsimp only;refine⟨m,c,lp,ps,U,fs,rfl,hc,ff,X,by lia,yx.of<|sH _ _ I,eq,er,fun c2 k2 gs H7 s7 fj ch fg gg gl=>?_⟩;have a7:=s7 _ _ r;refine⟨J,_,_,rfl,rfl,a7,yI (by rw[Q5,Ze];show _+1<_;lia),?_⟩;have ft:=An.zx.tB (l:=J) (o:=.lst<|(cs++[c]).map V.ref++[V.ref c2]) (sH.trans s7) dk;have ep:Off [J] H7 (upd H7 J<|.lst<|(cs++[c]).map V.ref++[V.ref c2]):=yN;have el:c2∉fp:=(c8.same sH).ex.not fj;have d8:=(fc.same s7).snoc (m:=5*(i+1)) (by lia) ch fg gg el (by lia);refine⟨_,cs++[c],Y++[fs],c2,gs,rfl,ft,ep _ _ (fun z=>ek (Q6.mp z).symm) (s7 _ _ fb),?_,d8.off (jE a7) ep fun d hd z=>?_,?_⟩
  ·rw[zC,Zg (l₁:=cs++[c])];rfl
  ·obtain⟨_,kk,hk⟩:=d8.jw hd;rw[Q6.mp z,a7]at hk;cases hk
  ·rw[Ze,cl];rfl
 rintro σ H' ⟨o4,dp,db,c',cf,rfl,sH,_,r,fc,cl⟩;rw[Q5]at fc cl;have e6:(dp++[c']).length=ms.length+1:=by rw[Ze,cl];rfl
 have fc:Fc K H' fp (dp++[c']) (db++[cf]) 20:=⟨fc.1,fun i c fs a b=>by
  obtain⟨h1,h2,h3,h4⟩:=fc.2 i c fs a b;exact⟨h1,h2,by lia,h4⟩⟩
 generalize dp++[c']=cs at r fc e6;generalize db++[cf]=Y at fc;have g:=sH.seq g;have I:=sH _ _ I;have hP:=sH _ _ hP;have a5:=c8.same sH;have bj:J∉fp:=X1 a5.wG r;clear sH cl ek d7 D s6 u6 h7 n7 u5 h6 n6 u4 h5 n5 ab dz dk a6 dy u2 u3 s3 s5 dj eg ez en;refine⟨_,rfl,J,rfl,⟨_,yx.of r⟩,xK (K:=K) (a:=J) (xs:=cs.map V.ref) (fun i ys σ H2=>∃o ns S,σ=[o,some<|.ref x]/\Off fp H' H2/\xr P w K aC H2 x fp S/\xj S/\RY S/\S.length<=i*81/\ys=List.map V.str ns/\ns.length=i/\∀(j:Nat) (n:Str) (fs:Dk),ns[j]?=some n->Y[j]?=some fs->uo S n fs) ⟨none,[],[],rfl,fun b o _ e=>e,a5,ok0,Sh,Zd _,rfl,rfl,fun j n fs a=>(nomatch a)⟩ (zr (by rw[Q5];lia)) ?_ ?_ ?_⟩
 ·rintro i ys σ H2 hi ⟨o,ns,S,rfl,s,ca,ok,few,sl,rfl,nl,bm⟩;exact⟨yx.of<|s _ _ bj r,by rw[Q5];lia⟩
 ·rintro i v ys σ H2 hv ⟨o,ns,S,rfl,s,ca,ok,few,sl,rfl,nl,bm⟩;rw[Zj]at hv;obtain⟨c,hc,rfl⟩:=Zz.mp hv;have i5:=(Zq.mp hc).1;have hg:=Zb (l:=Y) (i:=i) (by rwa[←fc.1]);generalize Y[i]'(by rwa[←fc.1])=fs at hg;obtain⟨bi,X,fl,U,dr,ff⟩:=fc.2 i c fs hc hg;have wf:=X.wt;have ew:S.length+1+wt fs<=2000:=by
   have:i*81<=5*81:=V2 _ (by lia);lia
  obtain⟨pk,pl⟩:=B3 3 (S:=S) (fs:=fs) ok X (by lia) ew;refine zJ ⟨_,rfl,_,rfl,x,c,fp,S,fs,U,rfl,ca,ok,s _ _ bi dr,bi,ff.off (Nz a5.wG) s,X,by lia,ew,fun H3 fq fu=>?_⟩;have pk:vV 5 S fs (Uu 4 S fs):=pk;obtain⟨T',eT,_⟩:=pk.new;refine⟨_,ns++[(Uu 4 S fs).2],(Uu 4 S fs).1,rfl,fun b o nb e=>fq b o nb<|s b o nb e,fu,pk.ok,Si few ok pk X fl,?_,by rw[Zg];rfl,by rw[Ze,nl];rfl,fun j n cf a b=>?_⟩
  ·have pl:(Uu 4 S fs).1.length<=S.length+1+wt fs:=pl;rw[Nat.succ_mul];lia
  ·by_cases z:j<ns.length
   ·rw[ZS z]at a;rw[eT];exact(bm j n cf a b).more (eT▸pk.ok) ok
   ·rw[ZX<|by lia]at a;cases q:j-ns.length with
    |succ k=>rw[q]at a;cases a
    |zero =>
     rw[q]at a;cases a;have ej:j=i:=by lia
     rw[ej,hg]at b;cases b;exact⟨pk.tree,pk.node,pk.rd⟩
 rintro ys σ H2 ⟨o,ns,S,rfl,s,ca,ok,few,sl,rfl,nl,bm⟩ lr eo;rw[Q5]at nl sl;have f7:ns.length<=5/\1<=ns.length:=by lia
 have di:=S8 a5.wG s g;have dh:=s _ _ dm I;have ea:=s _ _ nP hP;have dc:=s _ _ bj r;have d9:Fz K H2 S ns cs:=⟨nl,fun i n c a b=>by
  have i5:=(Zq.mp b).1;have hg:=Zb (l:=Y) (i:=i) (by rwa[←fc.1]);obtain⟨bi,X,fl,U,dr,ff⟩:=fc.2 i c _ b hg;exact⟨U,_,s _ _ bi dr,ff.off (Nz a5.wG) s,X,fl,bm i n _ a hg⟩⟩
 clear bm fc g I hP r s a5 bj nP dm sl;refine nw eo fun G u al=>zJ ?_;have g:=u.seq di;have I:=u _ _ dh;have hP:=u _ _ ea;have ab:=u _ _ dc;have fz:=d9.same u;have sh:=ca.same u;clear di dh ea dc d9 ca u eo;refine⟨_,rfl,lr,_,rfl,.inl<|yx.of al,zJ ?_⟩;rw[Q5];have there:∀{G2:Hp} {i j:Nat} {Q':VK} {E':XK},zx G G2->i<ns.length->j<ns.length->(∀G3,zx G2 G3->Q' (.bl true) G3)->sV P w K aC [.ref x,.ref lr,.ref J,.int i,.int j] G2 Q' E':=fun{G2 i j Q' E'} s2 hi hj kk=>⟨x,lr,J,fp,S,ns,cs,i,j,rfl,sh.same s2,ok,few,s2 _ _ al,s2 _ _ ab,fz.same s2,hi,hj,kk⟩;refine⟨_,rfl,_,_,rfl,rfl,_,rfl,by lia,by lia,Bp (lo:=0) (n:=((ns.length:Int)-1).toNat) (fun i σ G2=>∃o7,σ=[some<|.ref sa,some<|.ref lp,some<|.ref x,some<|.ref J,o4,some<|.ref lr,some<|.int (ns.length:Int),o7,none,none,none,none,none,none,none,none,none]/\zx G G2) ⟨none,rfl,zx.refl _⟩ ?_ ?_⟩
 ·rintro i σ G2 hi ⟨o7,rfl,s2⟩;have e0:(0+(i:Int))=(i:Int):=by lia
  rw[e0];refine zJ ⟨_,rfl,_,rfl,_,rfl,_,rfl,_,rfl,_,_,rfl,rfl,?_⟩
  try delta UN
  dsimp only;exact there (i:=i) (j:=i+1) s2 (by lia) (by lia) fun G3 s3=>⟨true,rfl,FY ⟨_,rfl,s2.trans s3⟩⟩
 rintro σ G2 ⟨o7,rfl,s2⟩;have O:(0:Int)<(ns.length:Int):=by lia
 refine⟨_,rfl,sa,C,6,rfl,s2.seq g,by decide,fun i6=>⟨_,rfl,_,_,rfl,rfl,O,_,rfl,sa,C,7,rfl,s2.seq g,by decide,fun i7=>⟨_,rfl,_,_,rfl,rfl,O,_,rfl,sa,C,8,rfl,s2.seq g,by decide,fun i8=>⟨_,rfl,_,_,rfl,rfl,O,Ur 3,fun lk d0=>nw d0 fun G3 u3 a8=>zJ ?_⟩⟩⟩⟩;have nat:∀z:Int,∃p:Nat,z % (ns.length:Int)=(p:Int)/\p<ns.length:=fun z=>by
  obtain⟨p,e⟩:=YK<|Vr z<|Int.ne_of_gt O;exact⟨p,e,by have:=JY z O;lia⟩
 obtain⟨p0,e0,q0⟩:=nat i6;obtain⟨p1,e1,q1⟩:=nat i7;obtain⟨p2,e2,q2⟩:=nat i8;rw[e0,e1,e2]at a8;have s3:=s2.trans u3;have f6:G lk=none:=s2.free d0;clear e0 e1 e2 u3 d0 nat;have a4:∀p,p<ns.length->∃n c U fs,CD (ns.map V.str) (p:Int)=some (V.str n)/\CD (cs.map V.ref) (p:Int)=some (V.ref c)/\G c=some (.dK U)/\yc K G fs U/\zf 4 fs/\fs.length<=20/\uo S n fs:=fun p hp=>by
  have a:=Zb hp;have b:=Zb (l:=cs) (i:=p) (by rwa[←fz.1]);obtain⟨U,fs,h1,h2,h3,h4,h5⟩:=fz.2 p _ _ a b;exact⟨_,_,U,fs,Xo a,Xo b,h1,h2,h3,h4,h5⟩
 obtain⟨n0,c0,k0,f0,a0,b0,a6,cc,g0,l0,r0⟩:=a4 p0 q0;obtain⟨n1,c1,k1,f1,a1,e5,fa,e8,g1,l1,r1⟩:=a4 p1 q1;obtain⟨n2,c2,k2,f2,a2,d6,ch,cd,g2,l2,r2⟩:=a4 p2 q2;clear a4;refine⟨_,rfl,_,rfl,_,rfl,_,rfl,lk,_,_,_,rfl,rfl,yx.of a8,rfl,_,rfl,lk,_,_,_,rfl,rfl,yx.of a8,rfl,?_⟩
 try delta UN
 dsimp only;refine there (i:=p0) (j:=p1) s3 q0 q1 fun G4 s4=>⟨true,rfl,FY ?_⟩;have ax:=s4 _ _ a8;have b5:=s3.trans s4;clear there s4 s3 a8 s2;refine⟨_,rfl,_,rfl,_,rfl,lk,_,_,_,rfl,rfl,yx.of ax,rfl,lr,_,_,_,rfl,rfl,yx.of<|b5 _ _ al,a0,_,rfl,_,rfl,lk,_,_,_,rfl,rfl,yx.of ax,rfl,lr,_,_,_,rfl,rfl,yx.of<|b5 _ _ al,a1,?_⟩
 try delta UN
 dsimp only;refine FE (sh.same b5) ok few r0 r1 g0 g1 l0 l1 fun pf lf ys G5 s5 _ _ _ an aj hd=>zJ ?_;have ay:=s5 _ _ ax;have b6:=b5.trans s5;refine⟨_,rfl,_,rfl,_,rfl,lk,_,_,_,rfl,rfl,yx.of ay,rfl,lr,_,_,_,rfl,rfl,yx.of<|b6 _ _ al,a0,_,rfl,_,rfl,lk,_,_,_,rfl,rfl,yx.of ay,rfl,lr,_,_,_,rfl,rfl,yx.of<|b6 _ _ al,a2,?_⟩
 try delta UN
 dsimp only;refine FE (sh.same b6) ok few r0 r2 g0 g2 l0 l2 fun pg lg zs G6 s6 _ _ _ cx ct cr=>zJ ?_;have a3:=s6 _ _ ay;have ev:=b6.trans s6;have an:=s6 _ _ an;have aj:=s6 _ _ aj;have hd:=zy.same s6 _ _ hd;clear s5 s6 ay ax b5 b6;refine⟨_,rfl,_,rfl,lk,_,_,_,rfl,rfl,yx.of a3,rfl,Ur 2,fun ey m1=>nw m1 fun G7 u7 c3=>?_⟩;refine⟨_,rfl,_,rfl,lk,_,_,_,rfl,rfl,yx.of<|u7 _ _ a3,rfl,Ur 2,fun e3 m2=>nw m2 fun G8 u8 c4=>?_⟩;refine⟨Ur 2,fun tt mt=>nw mt fun G9 u9 dv=>?_⟩;have ai:=(u7.trans u8).trans u9;have d5:=ev.trans ai;have c3:=(u8.trans u9) _ _ c3;have c4:=u9 _ _ c4;have an:=ai _ _ an;have aj:=ai _ _ aj;have hd:=zy.same ai _ _ hd;have cx:=ai _ _ cx;have ct:=ai _ _ ct;have cr:=zy.same ai _ _ cr;have bd:=ai _ _ a3;clear u7 u8 u9 ai m1 m2 mt a3 ev;refine⟨tt,rfl,⟨_,xg.of dv⟩,B5 (K:=K) (a:=tt) (xs:=[V.ref ey,V.ref e3]) (fun i σ G'=>∃c5 c6,σ=[some<|.ref sa,some<|.ref lp,some<|.ref x,some<|.ref J,o4,some<|.ref lr,some<|.int (ns.length:Int),o7,some<|.ref lk,some<|.ref pf,some<|.ref pg,c5,c6,none,none,none,none]/\zx G9 G') ⟨none,none,rfl,zx.refl _⟩ (fun i σ G' _ ⟨_,_,_,s'⟩=>xg.of<|s' _ _ dv) ?_ ?_⟩
 ·rintro i v σ G' hv ⟨c5,c6,rfl,s'⟩;have fv:∃t pf lf ys n c U fs p z,v=.ref t/\G9 t=some (.tup [.ref pf,.int (p:Nat)])/\G9 pf=some (.tup [.ref lf,.int z])/\G9 lf=some (.lst ys)/\zy K G9 ((Cu S n0 n).map Fp) ys/\CD (cs.map V.ref) (p:Int)=some (V.ref c)/\G c=some (.dK U)/\yc K G fs U/\zf 4 fs/\fs.length<=20/\uo S n fs:=by
   match i,hv with
   | 0,hv=>cases hv;exact⟨ey,pf,lf,ys,n1,c1,k1,f1,p1,_,rfl,c3,an,aj,hd,e5,fa,e8,g1,l1,r1⟩
   | 1,hv=>cases hv;exact⟨e3,pg,lg,zs,n2,c2,k2,f2,p2,_,rfl,c4,cx,ct,cr,d6,ch,cd,g2,l2,r2⟩
   |i+2,hv=>cases hv
  obtain⟨t,pf,lf,ys,n,c,U,fs,p,z,rfl,ht,an,aj,hd,bt,hc,ff,X,fl,rn⟩:=fv;have L:=d5.trans s';refine⟨t,_,rfl,xg.of<|s' _ _ ht,rfl,_,_,rfl,zJ ⟨_,_,rfl,zJ ⟨rfl,?_⟩⟩⟩;refine⟨_,rfl,_,rfl,lk,_,_,_,rfl,rfl,yx.of<|s' _ _ bd,rfl,J,_,_,_,rfl,rfl,yx.of<|L _ _ ab,b0,_,rfl,_,rfl,pf,_,_,_,rfl,rfl,xg.of<|s' _ _ an,rfl,?_⟩
  try delta UN
  dsimp only;refine Ik (sh.same L) ok r0 rn g0 X l0 fl (s' _ _ aj) (zy.same s' _ _ hd) fun lw ws fw es _ cu dw=>?_;have b3:=L.trans es;refine CT ok r0 rn g0 X l0 fl (b3 _ _ a6) (cc.same b3) (yx.of cu) dw fun q kv M fx et _ hq hF _=>?_;have b4:=b3.trans et;exact⟨_,rfl,_,rfl,J,_,_,_,rfl,rfl,yx.of<|b4 _ _ ab,bt,(hF.eqT hq (b4 _ _ hc) (qS (ff.same b4) X)<|uG X).more<|by decide,_,rfl,Ut ⟨_,_,rfl,(s'.trans es).trans et⟩⟩
 rintro σ G' ⟨c5,c6,rfl,s'⟩;have L:=d5.trans s';have as:=s' _ _ bd;clear an aj hd cx ct cr c3 c4 dv s' d5 bd;refine⟨_,rfl,_,rfl,_,rfl,_,rfl,lk,_,_,_,rfl,rfl,yx.of as,rfl,lr,_,_,_,rfl,rfl,yx.of<|L _ _ al,a0,_,rfl,_,rfl,lk,_,_,_,rfl,rfl,yx.of as,rfl,lr,_,_,_,rfl,rfl,yx.of<|L _ _ al,a1,?_⟩
 try delta UN
 dsimp only;refine FE (sh.same L) ok few r0 r1 g0 g1 l0 l1 fun ph lh xs fy d4 _ _ _ eh ef ed=>?_;refine⟨ph,_,_,_,rfl,rfl,xg.of eh,rfl,?_⟩;refine Ik ((sh.same L).same d4) ok r0 r1 g0 g1 l0 l1 ef ed fun lw ws f3 eu _ cu dw=>zJ ?_;have bo:=d4.trans eu;have R:=L.trans bo;have a9:=bo _ _ as;have dl:(CA S n0 n1).length<=40:=by unfold CA;rw[Q5];exact XY ok r0 r1 g0 g1 l0 l1
 refine⟨_,rfl,_,rfl,sa,C,9,rfl,R.seq g,by decide,fun i9=>⟨_,rfl,_,rfl,sa,C,10,rfl,R.seq g,by decide,fun fh=>?_⟩⟩;obtain⟨ls,fe,dq⟩:=Kp (f:=fun p:Da=>V.str<|Cd p) (xs:=ps) (i:=fh % 10) (by lia) (by rw[eq];lia);refine⟨_,_,rfl,rfl,(by show(0:Int)<10;decide),lp,_,_,_,rfl,rfl,yx.of<|R _ _ I,dq,?_⟩;refine⟨lw,i9,ls,CA S n0 n1,ws,rfl,er ls<|Zm fe,cu,dw,dl,Pd ok r0 r1 g0 g1,R _ _ hP,fun l' ys R' Z nt du dd rl c7=>zJ ?_⟩;have ap:NT G Z:=(NT.of R).trans nt;have de:=ap _ _ ab fun _ z=>nomatch z
 have df:=nt _ _ a9 fun _ z=>nomatch z
 have ei:=ap.kh g;have eb:=ap _ _ a6 fun _ z=>nomatch z
 have ec:=ap _ _ ch fun _ z=>nomatch z
 have cc:=Ts cc ap;have cd:=Ts cd ap;clear cu dw R bo eu d4 eh ef ed as L a9 g ab hP nt ap;refine⟨_,rfl,_,rfl,lk,_,_,_,rfl,rfl,yx.of df,rfl,J,_,_,_,rfl,rfl,yx.of de,d6,zJ ?_⟩;refine⟨fun e4 Z'=>∃c fs U,e4=[some<|.ref sa,some<|.ref lp,some<|.ref x,some<|.ref J,o4,some<|.ref lr,some<|.int (ns.length:Int),o7,some<|.ref lk,some<|.ref pf,some<|.ref pg,c5,c6,some<|.ref l',some<|.ref c,none,none]/\Z'=Z/\Z c=some (.dK U)/\yc K Z fs U/\zf 4 fs/\fs.length<=20,?_,?_⟩
 ·refine⟨_,rfl,sa,C,8,rfl,ei,by decide,fun f4=>?_⟩;refine⟨_,rfl,_,_,rfl,rfl,⟨O,by lia⟩,_,_,rfl,rfl,(by show(0:Int)<2;decide),rfl,_,rfl,Ux (fun _=>?_)<|fun _=>⟨c2,f2,k2,rfl,rfl,ec,cd,g2,l2⟩⟩;exact⟨_,rfl,_,rfl,lk,_,_,_,rfl,rfl,yx.of df,rfl,J,_,_,_,rfl,rfl,yx.of de,b0,zJ ⟨c0,f0,k0,rfl,rfl,eb,cc,g0,l0⟩⟩
 rintro e4 Z' ⟨c,fs,U,rfl,rfl,hc,ff,X,fl⟩;refine⟨_,rfl,c,U,rfl,.inl hc,fun d1 fk=>nw fk fun Z1 v1 co=>?_⟩;refine⟨_,rfl,l',ys,rfl,.inl<|yx.of<|v1 _ _ du,fun d2 fm=>nw fm fun Z2 v2 cp=>?_⟩;refine⟨Ur 2,fun d3 fn=>nw fn fun Z3 v3 ds=>zJ ?_⟩;have vv:=(v1.trans v2).trans v3;have co:=(v2.trans v3) _ _ co;have cp:=v3 _ _ cp;have hF:=fun{Hx:Hp} (sx:zx Z3 Hx)=>qS (ff.same<|vv.trans sx) X;refine⟨_,rfl,d3,_,_,_,rfl,rfl,yx.of ds,rfl,_,rfl,d3,_,_,_,rfl,rfl,yx.of ds,rfl,?_⟩
 try delta UN
 dsimp only;refine He co (ff.same vv) X fl (yx.of cp) (zy.same vv _ _ dd) rl c7 fun v Z4 s4 mv=>zJ ?_;have c9:=vv.trans s4;refine⟨_,rfl,_,rfl,_,rfl,?_⟩
 try delta UN
 dsimp only;refine He (c9 _ _ hc) (ff.same c9) X fl (yx.of<|c9 _ _ du) (zy.same c9 _ _ dd) rl c7 fun u Z5 s5 mu=>?_;have e9:=Il (uG X) c7;refine⟨((mv.same s5).eqT mu e9).more<|by decide,?_⟩;refine⟨true,rfl,Uv ⟨_,rfl,_,rfl,_,rfl,Ur 2,fun l9 n9=>nw n9 fun Z6 v6 h9=>?_⟩⟩;have D:=(s4.trans s5).trans v6;have da:=vv.trans D;have sR:=Fb c7;refine⟨(rO.lst (n:=65) (yx.of<|D _ _ ds) (yx.of h9) rfl fun i x' y' e1 e2=>?_).more (by decide),kQ _⟩
 match i,e1,e2 with
 | 0,e1,e2=>cases e1;cases e2;exact(hF D).eqT (D _ _ co) (da _ _ hc) (hF D) (uG X)
 | 1,e1,e2=>cases e1;cases e2;exact(rO.data (K:=K) (H:=Z6) (x:=.ref d2) (y:=.ref l') (d:=.list<|R'.map Cr) (e:=.list<|R'.map Cr) ⟨d2,ys,rfl,yx.of<|D _ _ cp,zy.same da _ _ dd⟩ ⟨l',ys,rfl,yx.of<|da _ _ du,zy.same da _ _ dd⟩ sR.1 sR.1 sR.2).more (by decide)
 |i+2,e1,e2=>cases e1
end A8
end
end An14
/-! the evaluating tactics look for a twin of each of these constants under these names;names that are taken keep them from laying one,for the twins' equations make the compiled file too large -/
structure PySem.W.Fast:Prop where(tw934807349761422452 tw14638287164090246864 tw594060759846253304 tw14393484119573947149 tw13150789661536196636 tw13968520496452800083 tw13742824825352847159 tw6858988852574368389 tw13341672328043953134 tw4877467782622027973 tw10993642000071174220 tw9197178531391052566 tw4445719346690263941 tw7369708313203251754 tw1986937941735862779 tw2790355545858641287 tw16221320222984464366 tw14163026214804861829 tw230935988699367305 tw18397106336273365653 tw3000866613105105101 tw9445396712051075016 tw14536004676915892088 tw6383755696254164503 tw7812128826446280624 tw12000717438537710175 tw5548748465799569493 tw16206408605883795924 tw94222074917231910 tw14196247157635391949 tw9956948166326743455 tw8303942289856806318 tw8750953171265987623 tw12029990799607664586 tw5548076374863852564 tw12636072245705540509 tw18434430637749005944 tw9727272229519162816 tw12520261169085297943 tw501637556620849376 tw7338289079095529921 tw10830502301032903600 tw18008571195803837580 tw12321247694433117597 tw4117105096635532094 tw265078086095882072 tw1875969043255693068 tw8018514780872628626 tw7178744722353027526 tw11405194174957244926 tw15484684633367704252 tw14453264361385637001 tw13583318747807844743 tw11021851881452339432 tw7581028365136442344 tw7910461276907446464 tw2511287123199560175 tw15188834814793453795 tw9606385420484996187 tw4704074446188845713 tw9875023769462330616 tw1334709629080656169 tw5462118785151099157 tw4925039799328466913 tw984245484808529845 tw10564597919958587832 tw1811472889827804219 tw5014433589885862453 tw12674546753506746384 tw18139124709163185713 tw13060952677327829646 tw14282180237862726862 tw13849002433415206444 tw11947597727597663968 tw8327200033833263690 tw2630640000585152000 tw5751030895271111173 tw18435287501801332414 tw1420147266677285286 tw1936561072276803263 tw9716289557502719505 tw8024602771494353730 tw674769962441166948 tw2957159636025483400 tw17883679133831217664 tw4033618167307755034 tw10624272754928774432 tw8809573807963390518 tw12895590946920872065 tw13440406865805289539 tw2639820553181501355 tw6336085732227080179 tw204008891370995892 tw958236076989798475 tw14491504383579775517 tw17181312430266798833 tw13366509915785116529 tw1586349634251162643 tw13560722152992233525 tw13840830869569676018 tw2362124383358771676 tw4246323716779114694 tw18426299626639030314 tw6087949437768413704 tw5802111763048485032 tw10740051104558632623 tw7163925529125392157 tw14796221604551039160 tw5732456140963394743 tw7338084757152014397 tw13190722702128264256 tw6870332227354403489 tw7601185513713742913 tw14112947472845029299 tw7447003728021826023 tw7307282532496864337 tw6756244196826368169 tw10979289890912006315 tw12710609870499269187 tw16579368058208539021 tw18388346408433078639 tw8384118419066880583 tw9344951423294052347 tw8683368943368284339 tw2536346374819668213 tw7223001388913680009 tw7775886357065097656 tw8202392837392985330 tw6440343402067602675 tw2656363682430477262 tw14169615426444281529 tw9114965307138784100 tw12766166386460751120 tw1169534854761063040 tw1631759315095335311 tw12734631947199417893 tw13718250851886508099 tw1356158016120426861 tw431745298666648913 tw3672060149442799601 tw11752458147905627257 tw15692279555605403316 tw4620754637836829487 tw17842922533204850877 tw14996176912968182336 tw15121390640248036396 tw956852644636239656 tw11676351573336573770 tw4631028140989882135 tw12365509038691368090 tw9435681293264011157 tw7790328562319711697 tw2219677646809388634 tw10742913461938247032 tw13702261772914473619 tw16301252595176193511 tw5753686292272493426 tw8748270548751793390 tw3295558593753081152 tw5028638074988503208 tw5940578841942132092 tw13524832874410667607 tw14778108625605007362 tw5100753439574333365 tw14015657631164208187 tw6197332757058519898 tw15683335190133366782 tw8187731358926131348 tw16390435712192169956 tw8487428074147217234 tw6019267701836327885 tw18069892454941842756 tw14392927419963335793 tw13497170697579955647 tw5424594036381818523 tw16373835248370129334 tw12212670237510580249 tw15017362903849379535 tw8867991513192776706 tw9710324387257039763 tw3648018882871873748 tw16135201956520650181 tw4086885474107654463 tw18009912546962260085 tw142284102875252506 tw2119107740569225323 tw1059768892198093806 tw16302399813389162662 tw486860781108233357 tw1526864791137486795 tw2964788376464708174 tw15553062141541947281 tw16057645811401241139 tw10718663218579724050 tw17022003221110968261 tw3681420192403962121 tw9466557481782298440 tw6511885093972988502 tw6365489833680499083 tw13728472557124005460 tw15543126511852096934 tw9726283184003125418 tw18387303564908341847 tw9910752894388620742 tw14781516168930287308 tw10870450080320642592 tw4956547620471591443 tw13329217213463115158 tw12881268469468513477 tw10301719237972955537 tw9961956392194454023 tw11281042633616295362 tw12635285192418999768 tw9060378683795013006 tw17627505610513120444 tw16587678700479279742 tw2736240616513209760 tw16396820009870761903 tw53931456328778323 tw1045874214720480201 tw1674735118013738839 tw11286632728026981602 tw15033223431488713690 tw10171815012457335988 tw7449772970262766992 tw3838267050334039507 tw5453560053691810389 tw1455612723157611215 tw10043722411766782144 tw14823547292277658321 tw5009727848287451193 tw17171191328296430021 tw10870759816612396569 tw5434342917802062390 tw10528127161681542070 tw10961145919202159061 tw3406749593829041865 tw9526516165323542494 tw15555050125680112910 tw1452294774962536774 tw10453097365537662105 tw11331454653119581326 tw3152848107912815650 tw496382527715332072 tw11012836262727709405 tw10244464214520967340 tw4249951824010550651 tw16723449167294278721 tw960521970182753216 tw17144827878522449431 tw2415509665605407157 tw17385685115384199070 tw6756973313750225652 tw13042638620773825310 tw10674317364676279316 tw6106598062274283915 tw7746464083070244738 tw4373903187103614092 tw13337399785947798930 tw5657032467776484432 tw17513721927662922741 tw2043253557148150456 tw10670629089675740931 tw8599934082109912128 tw7215969719093300857 tw5034674278668825422 tw11129908395194884867 tw15088340140589180883 tw8089707651261381108 tw4403533324121392672 tw16441201026382000277 tw6180138994940971401 tw15748215779380528215 tw3328960760821494511 tw6754226872751813905 tw15820505639451865005 tw15380170091241331440 tw2371586402927392089 tw10289859902114364470 tw5158430907506508366 tw10261763379318455310 tw12570066707270558544 tw10919097492650772068 tw2229734375447136890 tw3443766801701435311 tw3806451046402752352 tw16573271393971120956 tw10527318247624017733 tw17445465907754170907 tw652359971340024226 tw14324380903142845145 tw16833319577570100949 tw14852289505038272856 tw7315843954146884636 tw12570924569762489640 tw11912038341245574053 tw5906884939792148471 tw26164217711237728 tw8395314969213249968 tw13365049126794570803 tw10156674115128310649:True)
namespace An14
open PySem L2 An
theorem lR {P:Ek}{w:Eo}{K:Ca}{a:Ej}{b f c g d i:Tok}{n:Nat}(h:K.lookup a=some { cls:=.type "dict",data:=.dict #[⟨LY w.params "leaf",.str "leaf" b,.str "L" f⟩,⟨LY w.params "tree",.str "tree" c,.str "T" g⟩,⟨LY w.params "note",.str "note" d,.str "N" i⟩] n }) :
  KD P w K a xM:=by
 intro l X;refine⟨[(Eu "leaf",.str "L" f),(Eu "tree",.str "T" g),(Eu "note",.str "N" i)],.cons ⟨rfl,f,rfl⟩<|.cons ⟨rfl,g,rfl⟩<|.cons ⟨rfl,i,rfl⟩ .nil,_,_,n,X a _ h,⟨rfl,rfl,rfl⟩,rfl,?_,?_,?_⟩
 ·intro e j;have j:e∈[(⟨LY w.params "leaf",.str "leaf" b,.str "L" f⟩:Ml),⟨LY w.params "tree",.str "tree" c,.str "T" g⟩,⟨LY w.params "note",.str "note" d,.str "N" i⟩]:=by simpa using j
  rcases Zh.mp j with z|z
  ·subst z;exact⟨Eu "leaf",qG _ b,rfl⟩
  ·rcases Zh.mp z with z|z
   ·subst z;exact⟨Eu "tree",qG _ c,rfl⟩
   ·rw[Q6.mp z];exact⟨Eu "note",qG _ d,rfl⟩
 ·exact .cons (qG _ b) rfl (.cons (qG _ c) rfl<|.cons (qG _ d) rfl .nil)
 ·show([Eu "leaf",Eu "tree",Eu "note"]:List Key).Nodup
  decide +kernel
def GF (K:Ca)(x:Str)(st:EW)(f:Ej):Prop:=EE K Ew x=some (some<|.ref f)/\∃(e:Ei) (g c:Option Ej) (h:Array Dc) (kV d pm b ct:Ei),K.lookup f=some ⟨e,g,.func<|Le x x (qA st) (xD st) (zF st) .none kV d pm c b ct,h⟩/\LG K b x=true/\E4 K (.ref f)=true
def MF (K:Ca)(C:Ej)(x q:Str)(st:EW)(f:Ej):Prop:=EU K (.ref C) x=some (some<|.ref f)/\Mt K (.ref f)=true/\∃(e:Ei) (g c:Option Ej) (h:Array Dc) (kV d pm b ct:Ei),K.lookup f=some ⟨e,g,.func<|Le x q (qA st) (xD st) (zF st) .none kV d pm c b ct,h⟩/\LG K b q=true/\E4 K (.ref f)=true
section
variable {P:Ek}{w:Eo}{K:Ca}{h:EB}{mg:Str->Dc}{k:Nat}{x q:Str}{st:EW}{f C:Ej}{ps:Da}{sp:Sp}{oc:Ei}{od an:Option Ej}{sl:Array Dc}{kV dc pm cd ct:Ei}
theorem GF.mk (a:EE K Ew x=some (some<|.ref f))(l:K.lookup f=some ⟨oc,od,.func<|Le x x (qA st) (xD st) (zF st) .none kV dc pm an cd ct,sl⟩)(c:LG K cd x=true)(k:E4 K (.ref f)=true):GF K x st f:=⟨a,_,_,_,_,_,_,_,_,_,l,c,k⟩
theorem MF.mk (a:EU K (.ref C) x=some (some<|.ref f))(i:Mt K (.ref f)=true)(l:K.lookup f=some ⟨oc,od,.func<|Le x q (qA st) (xD st) (zF st) .none kV dc pm an cd ct,sl⟩)(c:LG K cd q=true)(k:E4 K (.ref f)=true):MF K C x q st f:=⟨a,i,_,_,_,_,_,_,_,_,_,l,c,k⟩
abbrev BA (x q:Str)(st:EW)(ps:Da):Prop:=∀(kV doc pm:Ei) (an:Option Ej) (cdv ct:Ei) (us:Db),us.length=ps.length->bindArgs (Le x q (qA st) (xD st) (zF st) .none kV doc pm an cdv ct) ⟨us,[]⟩=Lo (ps.zip us)
abbrev BX (x q:Str)(st:EW)(ps:Da)(kV doc pm:Ei)(an:Option Ej)(cdv ct:Ei)(us:Db):Prop:=bindArgs (Le x q (qA st) (xD st) (zF st) .none kV doc pm an cdv ct) ⟨us,[]⟩=Lo (ps.zip us)
theorem lC9{f:Db}{n:Nat}(z:f.length=n+1):∃a t,f=a::t/\t.length=n:=by cases f with|nil=>cases z|cons a t=>exact⟨a,t,rfl,Nat.succ.inj z⟩
theorem W5 (h:∀kV i j an c' ct a,BX x q st ps kV i j an c' ct [a])(l:ps.length=1):BA x q st ps:=by intro kV i j an c' ct f z;obtain⟨_,f,rfl,m⟩:=lC9 (z.trans l);cases f;exact h ..;cases m
theorem W6 (h:∀kV i j an c' ct a b,BX x q st ps kV i j an c' ct [a,b])(l:ps.length=2):BA x q st ps:=by intro kV i j an c' ct f z;obtain⟨_,f,rfl,m⟩:=lC9 (z.trans l);obtain⟨_,f,rfl,n⟩:=lC9 m;cases f;exact h ..;cases n
theorem W7 (h:∀kV i j an c' ct a b c,BX x q st ps kV i j an c' ct [a,b,c])(l:ps.length=3):BA x q st ps:=by intro kV i j an c' ct f z;obtain⟨_,f,rfl,m⟩:=lC9 (z.trans l);obtain⟨_,f,rfl,n⟩:=lC9 m;obtain⟨_,f,rfl,o⟩:=lC9 n;cases f;exact h ..;cases o
theorem W8 (h:∀kV i j an c' ct a b c d,BX x q st ps kV i j an c' ct [a,b,c,d])(l:ps.length=4):BA x q st ps:=by intro kV i j an c' ct f z;obtain⟨_,f,rfl,m⟩:=lC9 (z.trans l);obtain⟨_,f,rfl,n⟩:=lC9 m;obtain⟨_,f,rfl,o⟩:=lC9 n;obtain⟨_,f,rfl,p⟩:=lC9 o;cases f;exact h ..;cases p
theorem W9 (h:∀kV i j an c' ct a b c d e,BX x q st ps kV i j an c' ct [a,b,c,d,e])(l:ps.length=5):BA x q st ps:=by intro kV i j an c' ct f z;obtain⟨_,f,rfl,m⟩:=lC9 (z.trans l);obtain⟨_,f,rfl,n⟩:=lC9 m;obtain⟨_,f,rfl,o⟩:=lC9 n;obtain⟨_,f,rfl,p⟩:=lC9 o;obtain⟨_,f,rfl,r⟩:=lC9 p;cases f;exact h ..;cases r
theorem GF.cal (X:K.In h)(G:h.Ns Ew mg)(a:GF K x st f)(b:EB)(g:∀fd,wX K x x st f fd->mg x=some (.ref f)->wU K fd ps []->yu P w K mg b Ck k f fd ps sp)(e:BA x x st ps:=by first|exact W5 (fun _ _ _ _ _ _ _=>rfl) rfl|exact W6 (fun _ _ _ _ _ _ _ _=>rfl) rfl|exact W7 (fun _ _ _ _ _ _ _ _ _=>rfl) rfl|exact W8 (fun _ _ _ _ _ _ _ _ _ _=>rfl) rfl|exact W9 (fun _ _ _ _ _ _ _ _ _ _ _=>rfl) rfl):wV P w K mg b k x ps sp:=by
 obtain⟨d,_,_,_,_,_,_,_,_,_,l,c,kp⟩:=a;have F:=vI l c kp;exact wV.mk' F (g _ F (Ya X G d)<|F.binds e) (Ya X G d)<|F.binds e
theorem GF.qm (X:K.In h)(G:h.Ns Ew mg)(a:GF K x st f)(b:EB)(g:∀fd,wX K x x st f fd->mg x=some (.ref f)->wU K fd ps []->yu P w K mg b (CC P w) k f fd ps sp)(e:BA x x st ps:=by first|exact W5 (fun _ _ _ _ _ _ _=>rfl) rfl|exact W6 (fun _ _ _ _ _ _ _ _=>rfl) rfl|exact W7 (fun _ _ _ _ _ _ _ _ _=>rfl) rfl|exact W8 (fun _ _ _ _ _ _ _ _ _ _=>rfl) rfl|exact W9 (fun _ _ _ _ _ _ _ _ _ _ _=>rfl) rfl):uh P w K mg b k x ps sp:=by
 obtain⟨d,_,_,_,_,_,_,_,_,_,l,c,kp⟩:=a;have F:=vI l c kp;exact uh.mk' F (g _ F (Ya X G d)<|F.binds e) (Ya X G d)<|F.binds e
theorem MF.met (a:MF K C x q st f)(b:EB)(g:∀fd,wX K x q st f fd->yu P w K mg b Ck k f fd ps sp)(e:BA x q st ps:=by first|exact W5 (fun _ _ _ _ _ _ _=>rfl) rfl|exact W6 (fun _ _ _ _ _ _ _ _=>rfl) rfl|exact W7 (fun _ _ _ _ _ _ _ _ _=>rfl) rfl|exact W8 (fun _ _ _ _ _ _ _ _ _ _=>rfl) rfl|exact W9 (fun _ _ _ _ _ _ _ _ _ _ _=>rfl) rfl):Met P w K mg b C k x ps sp:=by
 obtain⟨d,i,_,_,_,_,_,_,_,_,_,l,c,kp⟩:=a;have F:=vI l c kp;exact⟨⟨_,_,g _ F,⟨d,i,kp⟩,F.binds e⟩⟩
theorem MF.m6 (a:MF K C x q st f)(b:EB)(g:∀fd,wX K x q st f fd->yu P w K mg b (CC P w) k f fd ps sp)(e:BA x q st ps:=by first|exact W5 (fun _ _ _ _ _ _ _=>rfl) rfl|exact W6 (fun _ _ _ _ _ _ _ _=>rfl) rfl|exact W7 (fun _ _ _ _ _ _ _ _ _=>rfl) rfl|exact W8 (fun _ _ _ _ _ _ _ _ _ _=>rfl) rfl|exact W9 (fun _ _ _ _ _ _ _ _ _ _ _=>rfl) rfl):sZ P w K mg b C k x ps sp:=by
 obtain⟨d,i,_,_,_,_,_,_,_,_,_,l,c,kp⟩:=a;have F:=vI l c kp;exact⟨⟨_,_,g _ F,⟨d,i,kp⟩,F.binds e⟩⟩
theorem MF.mak (a:MF K C "__init__" q st f)(b:EB)(m:Mq K C=true)(j:E4 K (.ref C)=true)(h:mg x=some (.ref C))(g:∀fd,wX K "__init__" q st f fd->yu P w K mg b Ck k f fd ps sp)(e:BA "__init__" q st ps:=by first|exact W5 (fun _ _ _ _ _ _ _=>rfl) rfl|exact W6 (fun _ _ _ _ _ _ _ _=>rfl) rfl|exact W7 (fun _ _ _ _ _ _ _ _ _=>rfl) rfl|exact W8 (fun _ _ _ _ _ _ _ _ _ _=>rfl) rfl|exact W9 (fun _ _ _ _ _ _ _ _ _ _ _=>rfl) rfl):jo P w K mg b C k x ps sp:=by
 obtain⟨d,i,_,_,_,_,_,_,_,_,_,l,c,kp⟩:=a;have F:=vI l c kp;exact⟨⟨_,_,g _ F,⟨m,d,i,j⟩,F.binds e,h⟩⟩
theorem GF.ex (X:K.In h)(G:h.Ns Ew mg)(a:GF K x st f)(e:BA x x st ps:=by first|exact W5 (fun _ _ _ _ _ _ _=>rfl) rfl|exact W6 (fun _ _ _ _ _ _ _ _=>rfl) rfl|exact W7 (fun _ _ _ _ _ _ _ _ _=>rfl) rfl|exact W8 (fun _ _ _ _ _ _ _ _ _ _=>rfl) rfl|exact W9 (fun _ _ _ _ _ _ _ _ _ _ _=>rfl) rfl):∃fd,wX K x x st f fd/\mg x=some (.ref f)/\wU K fd ps []:=by
 obtain⟨b,_,_,_,_,_,_,_,_,_,l,c,kp⟩:=a;have F:=vI l c kp;exact⟨_,F,Ya X G b,F.binds e⟩
end
set_option maxHeartbeats 0 in
theorem all_mk {l:PySem.W.OpenLaw}{w:Eo}{K:Ca}{h:EB}{mg:Str->Dc}{fa:Ej}{t1 t2 t3 t4 t5 t6 t7:Tok}{aL aC aN aT aA A B aP:Ej}(X:K.In h)(G:h.Ns Ew mg)(fy:mg "law"=some (.ref fa))
  (t:EE K Ew "len"=some none)
  (p:EE K Ew "all"=some none)
  (x:EE K Ew "ord"=some none)
  (DC:EE K Ew "isinstance"=some none)
  (z:EE K Ew "str"=some none)
  (y:EE K Ew "set"=some none)
  (DV:EE K Ew "sorted"=some none)
  (D4:EE K Ew "tuple"=some none)
  (Ec:EE K Ew "list"=some none)
  (u:EE K Ew "max"=some none)
  (r:EE K Ew "int"=some none)
  (Ee:EE K Ew "bool"=some none)
  (D5:EE K Ew "range"=some none)
  (Ed:EE K Ew "dict"=some none)
  (q:EE K Ew "any"=some none)
  (DF:EE K Ew "enumerate"=some none)
  (DJ:EE K Ew "reversed"=some none)
  (Dy:EE K Ew "LONGEST_LINE"=some (some<|.int 20 t1))
  (Du:EE K Ew "LONGEST_LABEL"=some (some<|.int 8 t2))
  (Dx:EE K Ew "MOST_PARENTS"=some (some<|.int 2 t3))
  (DN:EE K Ew "PERCENT"=some (some<|.int 37 t4))
  (DA:EE K Ew "MOST_LABELS"=some (some<|.int 4 t7))
  (Dv:EE K Ew "DIGEST_FACTOR"=some (some<|.int 31 t5))
  (Dz:EE K Ew "DIGEST_BOUND"=some (some<|.int 97 t6))
  (DP:EE K Ew "LETTERS"=some (some<|.ref aL))
  (DW:EE K Ew "NoName"=some (some<|.ref aN))
  (DO:EE K Ew "NoThing"=some (some<|.ref aT))
  (DB:EE K Ew "AnnalsError"=some (some<|.ref aA))
  (D7:EE K Ew "NoFit"=some (some<|.ref A))
  (DK:EE K Ew "BadFiles"=some (some<|.ref B))
  (D6:EE K Ew "Shelf"=some (some<|.ref aC))
  (DQ:Lg K aN U4 "ValueError.__new__"=true)
  (DL:Lg K aT U4 "ValueError.__new__"=true)
  (DX:Lg K A U4 "ValueError.__new__"=true)
  (Eb:Ln K (.ref A) (.ref A)=some true)
  (Ea:Ln K (.ref B) (.ref A)=some false)
  (D9:Ln K (.ref B) (.ref B)=some true)
  (DG:Lg K B U4 "ValueError.__new__"=true)
  (S:KD l.prog w K aL xM)
  (i:LZ K aC Mj=true)
  (d:Mg K aC=true)
  (j:PySem.W.plainOver K aC=true)
  (o:EU K (.ref aC) "__setattr__"=some (some<|.builtin "object.__setattr__"))
  (g:Mq K aC=true)
  (f:E4 K (.ref aC)=true)
  (U:EU K (.ref aC) "thing_by_name"=some none)
  (Y:EU K (.ref aC) "name_by_thing"=some none)
  (Z:EU K (.ref aC) "next_numbers"=some none)
  (n:∀a∈kinds,∀b∈kinds,LF K (.type a) (.type b)=some (a==b||(a=="bool"&&b=="int")))
  {f0 f1 f2 f3 f4 f5 f6 f7 f8 f9 ej ek el em en eo ep eq er es et eu ev ew ey ez e0 e1 e2 e3 e4 e5 e6 e7 e8 e9 fb fc fe ff fg fh fi fj fk fl fm fn fo fp fq fr ft fu fv Q fw:Ej}
  (a0:GF K "_law_mixed" AU.st f0)
  (a1:GF K "_law_labels" AV.st f1)
  (a2:GF K "_law_paths" AW.st f2)
  (a3:GF K "_law_cell" AT.st f3)
  (a4:GF K "_law_is_free" AZ.st f4)
  (a5:GF K "_law_lines" AX.st f5)
  (a6:GF K "_law_others" A0.st f6)
  (a7:MF K aC "names" "Shelf.names" Au.st f7)
  (a8:MF K aC "take" "Shelf.take" Av.st f8)
  (a9:GF K "is_key" Aw.st f9)
  (c3:MF K aC "has" "Shelf.has" Ax.st ej)
  (c4:GF K "need_name" Ay.st ek)
  (c5:MF K aC "thing" "Shelf.thing" Az.st el)
  (c6:MF K aC "__init__" "Shelf.__init__" AD.st em)
  (c7:GF K "is_label" Ad.st en)
  (c8:GF K "is_path" AE.st eo)
  (c9:GF K "is_sign" Aa.st ep)
  (da:GF K "is_line" Ab.st eq)
  (db:GF K "is_lines" Ac.st er)
  (dd:GF K "is_file" AG.st es)
  (de:GF K "folders_of" AF.st et)
  (df:GF K "need_files" AJ.st eu)
  (dh:GF K "is_leaf" Ah.st ev)
  (di:GF K "is_row" Ae.st ew)
  (dj:GF K "is_rows" Ag.st ey)
  (dk:GF K "is_tree" Ai.st ez)
  (dl:GF K "is_note" Aj.st e0)
  (dm:GF K "is_thing" Ak.st e1)
  (dn:GF K "need_thing" Al.st e2)
  (dp:MF K aC "need_form" "Shelf.need_form" AA.st e3)
  (dq:MF K aC "need_names" "Shelf.need_names" AB.st e4)
  (dr:GF K "letter_of" Am.st e5)
  (ds:GF K "tree_parts" Ao.st e6)
  (du:GF K "parts_of" Ap.st e7)
  (dv:GF K "counted" Aq.st e8)
  (dx:GF K "spelled" Ar.st e9)
  (dy:GF K "digest" As.st fb)
  (dz:MF K aC "put" "Shelf.put" AC.st fc)
  (d0:GF K "put_rows" AH.st fe)
  (d1:GF K "put_files" AI.st ff)
  (d2:GF K "keep_files" AK.st fg)
  (d3:GF K "names_form" AL.st fh)
  (d4:GF K "need_root" AM.st fi)
  (d5:GF K "rows_of" AN.st fj)
  (d6:GF K "add_at" AR.st fk)
  (d7:GF K "add_beneath" AQ.st fl)
  (d8:GF K "changes_of" AS.st fm)
  (d9:GF K "lines_at" AO.st fn)
  (ea:GF K "read_rows" AY.st fo)
  (eb:GF K "rows_turned" A1.st fp)
  (ec:GF K "need_fit" A2.st fq)
  (ed:GF K "rows_done" A3.st fr)
  (ee:GF K "_law_done" A4.st ft)
  (ef:GF K "_law_there" A7.st fu)
  (eg:GF K "_law_due" A5.st fv)
  (eh:GF K "_law_spoilt" A6.st Q) (R:L2.pA K Q aP=true)
  (ei:GF K "law" A8.st fw) :
  ∃fd:Et,(∀(s:Em) (v:Ei),BindsTo s fd ⟨[v],[]⟩ [("_law_script",v)])/\∀base:EB,K.In base->base.Ns Ew mg->L2.BMain mg base->yu l.prog w K mg base Ck 20 fa fd ["_law_script"] (qb K aP):=by
 have T:Txt l.prog w K mg t1 t2 t3 t4 t5 t6 t7 aL aC aN aT aA A B:=⟨ZV X G t,ZV X G p,ZV X G x,ZV X G DC,ZV X G z,ZV X G y,ZV X G DV,ZV X G D4,ZV X G Ec,ZV X G u,ZV X G r,ZV X G Ee,ZV X G D5,ZV X G Ed,ZV X G q,ZV X G DF,ZV X G DJ,Ya X G Dy,Ya X G Du,Ya X G Dx,Ya X G DN,Ya X G DA,Ya X G Dv,Ya X G Dz,Ya X G DP,Ya X G DW,Ya X G DO,Ya X G DB,Ya X G D7,Ya X G DK,Ya X G D6,DQ,DL,DX,Eb,Ea,D9,DG,S,⟨i,d,j,o⟩,U,Y,Z,n⟩;obtain⟨hL,oc,od,an,sl,kV,dc,pm,cd,ct,lL,cL,kL⟩:=ei;have e:=fy.symm.trans<|Ya X G hL;cases e;refine⟨Le "law" "law" (qA A8.st) (xD A8.st) (zF A8.st) .none kV dc pm an cd ct,fun s v=>.of_eq rfl,fun b _ _ BM=>?_⟩;have C0:=a0.cal X G b fun _ F _ _=>AU.ok T F;have C1:=a1.cal X G b fun _ F _ _=>AV.ok T F C0;have C2:=a2.cal X G b fun _ F _ _=>AW.ok T F C1;have C3:=a3.cal X G b fun _ F _ _=>AT.ok T F;have C4:=a4.cal X G b fun _ F _ _=>AZ.ok T F;have C5:=a5.cal X G b fun _ F _ _=>AX.ok T F C0;have C6:=a6.cal X G b fun _ F _ _=>A0.ok T F C0 C4 C5;have C7:=a7.met (mg:=mg) b fun _ F=>Au.ok T F;have C8:=a8.met (mg:=mg) b fun _ F=>Av.ok T F;have C9:=a9.cal X G b fun _ F _ _=>Aw.ok T F;have C:=c3.met (mg:=mg) b fun _ F=>Ax.ok T F C9;have ab:=c4.qm X G b fun _ F _ _=>Ay.ok T F C;have c:=c5.m6 (mg:=mg) b fun _ F=>Az.ok T F ab;have ai:=c6.mak b g f T.lJ fun _ F=>AD.ok T F C7 C8 c;have D:=c7.cal X G b fun _ F _ _=>Ad.ok T F;have aj:=c8.cal X G b fun _ F _ _=>AE.ok T F D;have al:=c9.cal X G b fun _ F _ _=>Aa.ok T F;have ap:=da.cal X G b fun _ F _ _=>Ab.ok T F al;have E:=db.cal X G b fun _ F _ _=>Ac.ok T F ap;have as:=dd.cal X G b fun _ F _ _=>AG.ok T F aj E;have ax:=de.cal X G b fun _ F _ _=>AF.ok T F;have H:=df.qm X G b fun _ F _ _=>AJ.ok T F as ax;have ay:=dh.cal X G b fun _ F _ _=>Ah.ok T F E;have bd:=di.cal X G b fun _ F _ _=>Ae.ok T F D;have bi:=dj.cal X G b fun _ F _ _=>Ag.ok T F bd;have bj:=dk.cal X G b fun _ F _ _=>Ai.ok T F bi;have bl:=dl.cal X G b fun _ F _ _=>Aj.ok T F;have bm:=dm.cal X G b fun _ F _ _=>Ak.ok T F ay bj bl;have bo:=dn.qm X G b fun _ F _ _=>Al.ok T F bm;have bt:=dp.m6 (mg:=mg) b fun _ F=>AA.ok T F c;have b0:=dq.m6 (mg:=mg) b fun _ F=>AB.ok T F bt;have I:=dr.cal X G b fun _ F _ _=>Am.ok T F;have b3:=ds.cal X G b fun _ F _ _=>Ao.ok T F;have b4:=du.cal X G b fun _ F _ _=>Ap.ok T F b3;have b5:=dv.cal X G b fun _ F _ _=>Aq.ok T F;have b6:=dx.cal X G b fun _ F _ _=>Ar.ok T F I b4 b5;have ca:=dy.cal X G b fun _ F _ _=>As.ok T F b6;have J:=dz.m6 (mg:=mg) b fun _ F=>AC.ok T F bo b0 I ca C8;have cb:=d0.cal X G b fun _ F _ _=>AH.ok T F J;have cc:=d1.cal X G b fun _ F m h=>AI.ok T F J cb m h;have cf:=d2.qm X G b fun _ F _ _=>AK.ok T F H cc;have L:=d3.cal X G b fun _ F _ _=>AL.ok T F C c;have ch:=d4.qm X G b fun _ F _ _=>AM.ok T F L;have M:=d5.cal X G b fun _ F _ _=>AN.ok T F c;obtain⟨_,c2,fz,fx⟩:=d6.ex (ps:=["store","path","before","after","rows"]) X G;have cl:=d7.cal X G b fun _ F m h=>RH F c2 T L M m h fz fx;have N:=d8.qm X G b fun _ F _ _=>AS.ok T F ch M cl;have co:=d9.cal X G b fun _ F _ _=>AO.ok T F c;have O:=ea.cal X G b fun _ F _ _=>AY.ok T F co;have cp:=eb.cal X G b fun _ F _ _=>A1.ok T F;have cr:=ec.qm X G b fun _ F _ _=>A2.ok T F;have cu:=ed.qm X G b fun _ F _ _=>A3.ok T F cr H;have P:=ee.cal X G b fun _ F _ _=>A4.ok T F cu;have cx:=ef.cal X G b fun _ F _ _=>A7.ok T F N O cp P;have c0:=eg.cal X G b fun _ F _ _=>A5.ok T F;have c1:=eh.cal X G b fun _ F _ _=>A6.ok T F R BM;exact A8.ok T (vI (st:=A8.st) lL cL kL) C2 C3 C6 ai cf N O cx P c0 c1
theorem walk {l:PySem.W.OpenLaw}{q:Ek}{b:Da}{o:(Str->Dc)->EB->Prop}{e:Eo->EB->Prop}{d:DefRec}{K:Params->Ca}(y:l.most=some 63)(j:d.params.defaults=[])
  (v:∀(w:Eo) (h:EB),e w h->(K w.params).In h) (i:∀(w:Eo) (h:EB),e w h->h.get? 435=some (PySem.W.tabObj #[])) (g:∀p,(K p).lookup 435=none) (r:∀p,PySem.W.codeHdIn (K p) 437 435=true)
  (F:∀(w:Eo) (mg:Str->Dc) (fa:Ej) (h:EB),(K w.params).In h->h.Ns Ew mg->mg d.name=some (.ref fa) -> ∃fd:Et,(∀(s:Em) (u:Ei),BindsTo s fd ⟨[u],[]⟩ [("_law_script",u)])/\∀base:EB,(K w.params).In base->base.Ns Ew mg->L2.BMain mg base->yu l.prog w (K w.params) mg base Ck 20 fa fd ["_law_script"] (qb (K w.params) 435)) :
  PySem.W.WalkO q b o e l.row.toRowW d [] (fun f vs=>PySem.call f vs) :=
 L2.nG (n:=63) (k:=20) (x:="_law_script") (T:=435) (c:=437) (sp:=fun w=>qb (K w.params) 435) y (by decide) j ⟨rfl,by decide,by decide⟩ v i g r F (fun _ _ a ns hl i t=>⟨a,ns,rfl,t,hl,i,fun _=>rfl⟩)
end An14
end
open PySem PySem.W PyProof.Rows
set_option maxRecDepth 100000 in
set_option maxHeartbeats 0 in
theorem PySem.Challenge.cw_annals_k14_whole_changes_holds : PySem.Challenge.rw_annals_k14_whole_changes.Holds := by
 w_on;o_law;k_head;(case hw=>w_witness2)
 k_fill
 refine An14.walk (l:=PySem.Challenge.rw_annals_k14_whole_changes) rfl rfl (fun w h Y=>PySem.W.km_in_of Y) (fun w h Y=>PySem.W.km_tabs_of Y 435<|Q6.mpr rfl) (fun p=>by kernel_rfl) (fun p=>by kernel_rfl) ?F
 case F =>
  intro w mg fa h KX G hmg;refine' An14.all_mk KX G hmg ?z_len ?z_all ?z_ord ?DC ?z_str ?z_set ?DV ?D4 ?Ec ?z_max ?z_int ?Ee ?D5 ?Ed ?z_any ?DF ?DJ ?Dy ?Du ?Dx ?DN ?DA ?Dv ?Dz ?DP ?DW ?DO ?DB ?D7 ?DK ?D6 ?DQ ?DL ?DX ?Eb ?Ea ?D9 ?DG ?s_kd ?pg_aC ?hd_aC ?po_aC ?sa_aC ?mk_aC ?kc_aC ?s_n1 ?s_n2 ?s_n3 ?s_kit ?a0 ?a1 ?a2 ?a3 ?a4 ?a5 ?a6 ?a7 ?a8 ?a9 ?a10 ?a11 ?a12 ?a13 ?a14 ?a15 ?a16 ?a17 ?a18 ?a19 ?a20 ?a21 ?a22 ?a23 ?a24 ?a25 ?a26 ?a27 ?a28 ?a29 ?a30 ?a31 ?a32 ?a33 ?a34 ?a35 ?a36 ?a37 ?a38 ?a39 ?a40 ?a41 ?a42 ?a43 ?a44 ?a45 ?a46 ?a47 ?a48 ?a49 ?a50 ?a51 ?a52 ?a53 ?a54 ?a55 ?hlam ?a56
  case z_len|z_all|z_ord|DC|z_str|z_set|DV|D4|Ec|z_max|z_int|Ee|D5|Ed|z_any|DF|DJ|Dy|Du|Dx|DN|DA|Dv|Dz|DP|DW|DO|DB|D7|DK|D6=>k_is
  case a0|a1|a2|a3|a4|a5|a6=>(apply An14.GF.mk;k_is;k_is;k_is;k_is)
  case a7|a8=>(apply An14.MF.mk;k_is;k_is;k_is;k_is;k_is)
  case a9=>(apply An14.GF.mk;k_is;k_is;k_is;k_is)
  case a10=>(apply An14.MF.mk;k_is;k_is;k_is;k_is;k_is)
  case a11=>(apply An14.GF.mk;k_is;k_is;k_is;k_is)
  case a12|a13=>(apply An14.MF.mk;k_is;k_is;k_is;k_is;k_is)
  case a14|a15|a16|a17|a18|a19|a20|a21|a22|a23|a24|a25|a26|a27|a28=>(apply An14.GF.mk;k_is;k_is;k_is;k_is)
  case a29|a30=>(apply An14.MF.mk;k_is;k_is;k_is;k_is;k_is)
  case a31|a32|a33|a34|a35|a36=>(apply An14.GF.mk;k_is;k_is;k_is;k_is)
  case a37=>(apply An14.MF.mk;k_is;k_is;k_is;k_is;k_is)
  case a38|a39|a40|a41|a42|a43|a44|a45|a46|a47|a48|a49|a50|a51|a52|a53|a54|a55|a56=>(apply An14.GF.mk;k_is;k_is;k_is;k_is)
  case DQ|DL|DX|Eb|Ea|D9|DG=>first|k_is|kernel_rfl|rfl|(with_unfolding_all rfl)|decide +kernel +revert
  case s_kd=>exact An14.lR (by k_is)
  case pg_aC|hd_aC|po_aC|sa_aC|mk_aC|kc_aC|s_n1|s_n2|s_n3=>k_is
  case s_kit=>(intro a ha b hb;simp only[An14.kinds,Zh,YE,Vz]at ha hb;rcases ha with rfl|rfl|rfl|rfl|rfl|rfl|rfl<;>rcases hb with rfl|rfl|rfl|rfl|rfl|rfl|rfl<;>rfl)
  case hlam=>first|k_is|kernel_rfl|decide +kernel
