import PyProof.Rows.All
import Wide.All
import OpenK.AllK
import PySem.Challenge.RW_annals_k13_changed_trees
set_option Elab.async false
set_option linter.all false
set_option compiler.extract_closed false
set_option genSizeOf false
set_option maxRecDepth 100000
set_option maxHeartbeats 4000000
abbrev Da:=List PySem.Str
abbrev Db:=List PySem.Value
abbrev Dc:=Option PySem.Value
abbrev Dd:=List PySem.Addr
abbrev De:=List<|PySem.Addr×PySem.Obj
abbrev Df:=List PySem.PyData
abbrev Dg:=List<|PySem.Str×PySem.Str
abbrev Dh:=PySem.Shared->Prop
abbrev Cd:=PySem.W.Frag
open PySem renaming wpAny_bind->Q7,wpAny_pure->Za,wpAny_setState_of->ZT,wpAny_holding->ZZ,boot_len->Z5,wpAny_newObj_type->Ya,wpAny_call_entry->Ym,wpAny_ite_split->Yr,sizeLine_eq->Ys,wpAny_mono->Yu,codeAny_builtin->YI,wpAny_callSpecial?_slot->YT,wpAny_isInstance->YV,wpAny_truthy_bool->YX,codeAny_mono->YY,mem_of_lookup->Y5,wpAny_askSetting->Je,wpAny_setField->Jh,isSubtype_type->Ji,wpAny_Call_Name_kw->Jr,tupleKind_room_in1->Js,codeAny_call_builtin->JE,wpAny_setEntries_of->JI,wpAny_typeOf->JO,wpAny_rule->JQ,wpAny_specialOf->JU,wpAny_pyIter_list->JX,wpAny_storeSet_of->JY,typeIs_str->J2,wpAny_of_eq->J4,wpAny_forIn_list->J9,plainId_quiet->Vd,wpAny_attempt->Ve,wpAny_passesOwn->Vg,wpAny_call->Vl,call_meets->Vm,wpAny_field->Vs,call_meetsIn->Vw,fits_of_scanBound->Vz,builtinLookup_eq_fast->VH,weight_type_call_type->VJ,wpAny_execs_nil->VX,codeAny_of_tree->VZ,wpAny_pyIter_tuple->V7,wpAny_tupleItemsOf->V9,wpAny_fieldsOf->Ub,wpAny_dictEntries->Uh,wpAny_newList->Uj,wpAny_execs_cons->Ul
open List renaming length_map->Q8,mem_singleton->Q9,mem_cons_of_mem->Zb,mem_map->Zc,mem_cons_self->Ze,length_append->Zh,mem_cons->Zi,getElem?_eq_getElem->Zj,getElem?_map->Zk,map_append->Zl,mem_of_getElem?->Zn,length_cons->Zr,map_cons->Zu,getElem?_eq_some_iff->Zw,size_toArray->Zy,length_take->ZB,map_map->ZC,mem_append->ZD,append_nil->ZG,take_length->ZH,nodup_iff_pairwise_ne->ZI,mem_append_right->ZL,mem_iff_getElem->ZP,map_congr_left->ZQ,cons_ne_nil->ZR,nodup_cons->ZS,all_eq_true->ZU,getElem_map->ZV,mem_append_left->ZX,append_assoc->Z6,any_eq_true->Yb,pairwise_map->Yc,mem_flatMap->Yd,getElem?_eq_none->Yf,take_append_drop->Yg,getElem?_append_left->Yj,sum_cons->Yl,getElem?_append_right->Yo,eq_nil_of_length_eq_zero->Yp,not_mem_nil->Yq,length_drop->Yv,nodup_nil->Yw,take_add_one->Yy,length_range->Yz,mem_filter->YA,cons_lt_cons_iff->YE,flatMap_cons->YF,getD_eq_getElem?_getD->YH,getElem_mem->YL,filterMap_cons->YN,length_singleton->YO,mem_range->YQ,length_nil->YS,map_nil->YZ,take_of_length_le->Y1,foldl_append->Y2,nodup_append->Y4,length_pos_iff->Y6,find?_cons->Y7,mem_iff_getElem?->Ja,getElem_inj->Jc,mem_of_mem_take->Jj,mem_filterMap->Jq,perm_ext_iff_of_nodup->Jt,getElem?_zip_eq_some->Jy,pairwise_iff_getElem->Jz,drop_eq_getElem_cons->JA,mem_of_find?_eq_some->JB,foldl_cons->JC,pairwise_singleton->JJ,flatMap_def->JK,eq_nil_iff_forall_not_mem->JL,filter_cons->JM,append_eq_nil_iff->JS,not_lt->J5,lt_irrefl->J6,map_take->Vf,of_mem_zip->Vh,sum_append->Vi,find?_some->Vj,filter_nil->Vk,pairwise_cons->Vo,filter_append->Vp,find?_eq_none->Vq,any_eq_false->Vv,getElem?_toArray->VI,flatMap_nil->VR,map_fst_zip->VS,map_id->VW,nil_append->V0,map_eq_nil_iff->V4,getElem?_range->V5,flatMap_append->V6,drop_zero->V8,ext_getElem?->Ug
open PySem.Heap renaming get?_push_of_some->Zd,get?_push_size->Zp,lt_size->Zq,get?_update_self->Ye,size_push->YB,get?_update_other->YJ,get?_none_of_le->VT
open Nat renaming le_refl->Zf,ne_of_lt->Zz,lt_of_lt_of_le->ZJ,zero_le->ZN,le_trans->Z0,lt_irrefl->YC,le_of_lt->YK,ne_of_gt->YW,lt_succ_of_lt->Y0,lt_succ_self->Jn,le_succ->JD,eq_zero_or_pos->JR,not_lt_zero->JV,le_of_eq->J8,lt_of_le_of_lt->Vn,lt_trichotomy->Vx,zero_add->VA,lt_or_ge->VB,min_le_right->Um
abbrev Zg:=@decide_eq_true
abbrev Zo:=@decide_eq_false
abbrev Zs:=@if_pos
abbrev Zt:=@if_neg
abbrev Zv:=@of_decide_eq_true
abbrev ZF:=@decide_eq_true_iff
abbrev ZM:=@decide_eq_true_eq
abbrev YM:=@beq_eq_false_iff_ne
abbrev Jd:=@beq_iff_eq
abbrev Ju:=@of_decide_eq_false
abbrev JT:=@if_false
abbrev J3:=@or_false
abbrev Vu:=@decide_eq_false_iff_not
abbrev Vy:=@iff_of_false
abbrev VP:=@decide_eq_decide
abbrev V3:=@ne_true_of_eq_false
open Bool renaming and_eq_true->Zm,false_ne_true->ZK,false_eq_true->Z7,eq_iff_iff->Yi,eq_false_iff->Yx,and_false->YR,false_and->Jp,or_eq_false_iff->JF,not_true->Vc,or_eq_true->VY,not_eq_true'->Uf,false_or->Ui,true_and->Uk
open Array renaming length_toList->Zx,getD_eq_getD_getElem?->ZO,getElem?_eq_getElem->ZW,getElem?_toList->ZY,getElem?_eq_none->Y3,getElem?_eq_some_iff->Jo,getElem_toList->J7,size_map->VC
open PyProof.Rows renaming boot_isinstance->ZA,boot_str->Yh,boot_list->Yk,boot_tuple->YG,slot_tuple_getitem->Y8,boot_all->Jb,boot_sorted->Jg,callWith_type1->Jm,boot_set->Jw,boot_int->Jx,toString_length_le->JH,callWith_builtin1->VN,int_text_len_1921->VQ,slice_closes_toL->VU
open Option renaming map_eq_some_iff->ZE,map_some->Yt,isSome_iff_exists->Jf,getD_some->VO,isSome_map->Ue
open PySem.W renaming mg_none_of->Z1,mg_of->Z9,kia_one->Yn,hideAll_get->Jk,callWith_K->JN,hideAll_none->J1,methodCall_KW->VF,plainGet_of->V2,kitx_list->Uc,kitx_dict->Ud
open PySem.F renaming plainAttrs_list->Z2,slot_list_append->Z3,type_list_append->Z4,plainAttrs_str->Z8,slot_dict_get->Y9,entry_dict_get->JP,slot_str_startswith->JZ,type_str_startswith->J0,slot_str_split->VD,type_str_split->VE,slot_str_join->VL,type_str_join->VM
open PySem.Value renaming isStrOf_shape->YD
open Int renaming eq_ofNat_of_zero_le->YU,emod_lt_of_pos->Vr,emod_nonneg->V1,natAbs_natCast->Ua
open PyProof.Rows.F renaming plain_set_update_loop->Jl,entry_set_update_loop->Va
open List.Perm renaming eq_of_pairwise->JG
open Classical renaming choose_spec->JW
open PySem.List renaming filterMap_getElem?_range_length->Vb
open LawfulBEq renaming eq_of_beq->Vt
open PySem.W.KIN renaming signs_num->VG
open PySem renaming Value->Ee,Addr->Ef,Program->Eg,wpAny->Eh,Shared->Ei,PyData->Ej,World->Ek,model->Em,FuncData->Eo,mainGlobals->Es,starEach->Eu,Heap->Ev,Around->ED,Expr->EI,sysModules->EM,Stmt->EQ,compareOp->ES,rawInt->EZ,eval->E3,SetTable->E4,backTo->La,cLine->Lb,Paired->Lj,assignEach->Lm,attributeBase->Lr,keywordEach->LB,ReadsAll->LG,bootBuiltins->LQ,codeAny->LS,Scope->LX,NameKind->LZ,letOwnedTupleGo->L5,entryOfKey->L7,pyNext->L8,sliceBounds->Ma,DictEntry->Mb,scanBound->Mc,pickOrder->Md,isInstance->Ml,backToKw->Mp,compEnvC->Mq,getItem->Mv,ElemsOf->Mw,tupleKind->Mx,swapsWith->My,getMethod->Mz,binaryOp->MA,setsByText->MC,holding->MD,IsPart->ME
open PySem.PyData renaming strOk->El,canLayAll0->Er,eqv->Ey,depthAll->EA,eqvAll->EO,str->EV,keyHash->LP
open Sum renaming inr->Ep
open PySem.Value renaming ref->Et,none->EF,isStrOf->EY,bool->L6,str->Mi,builtin->Mm,isInt->Mo
open PySem.SetTable renaming sizeAbove->Ew,below->Ld,bits->Lv,grown->Ly,runEnd->LH,fits->Mn
open PySem.W renaming nsIn->Ez,findIn->EN,kitOne->ER,keepIn->EW,emptyDict->E6,fnOf->E7,excIn->E9,instObj->Ll,codeIn->Lx,plainGet->LR,hasDictIn->Me,makesIn->Mr,isFn->Mu
open Ne renaming symm->EB
open List renaming range->EC,toArray->Le,replicate->Lw,lookup->LA
open Or renaming inl->EE
open False renaming elim->EG
open PySem.Heap.SameBut renaming update->EH
open PySem.Heap renaming SameBut->EJ
open PySem.SeqAt renaming shaped->EK,eqBoolOverData->LO
open PySem.PassesOwn renaming never->EL,leaving->LL
open PySem.Builtin.Tuple renaming tupleHashOf->ET,tupleExact->Ls,tupleItemsOf->LM
open PySem.Str renaming ofString->EU,empty->Mj,join->MB
open PySem.Builtin.Frozenset renaming updateFrom->EX,isAnySet->E2
open PySem.Builtin.Str renaming occurrences->E1,strSub->Lh,partsBetween->Lu
open Classical renaming byContradiction->E5
open PySem.Around renaming under_plainId->E8
open PySem.Obj renaming mapSeq->Lc,putSet->LD,mapFields->LI
open PySem.StrLaws renaming glued_eq_join->Lf,subAt_one->Mg
open True renaming intro->Lg
open PyProof.Rows renaming seqObj->Li,AllBare->Mt
open PySem.Txt renaming startswith->Lk,join->Lp,split->Lz,slice->LU
open PySem.Calls renaming callWith_builtin->Ln,spliced_cons->LC,evalArgs_plain->LN,call_function_entry->LW,spliced_nil->Mf
open Pure renaming pure->Lo
open PySem.Builtin.Slice renaming slicePlaces->Lq,sliceAdjust->LV
open Prod renaming ext->LF
open PySem.Shared renaming TypeIs->LJ
open PySem.Builtin.List renaming listExtendWith->LK,listTooLong->L4
open ToString renaming toString->LY
open PySem.Code renaming quiet_builtin->L9
open PySem.F renaming slot_dict_items->Mh
open ForInStep renaming yield->Ms
noncomputable section
namespace L2
open PySem
section
variable {M:Model}{A:ED}{E:Ee->Dh}{s:Ei}{base:Ev}{q:Array Ee->Prop}{env:Env}{outer:List Env}{L x:Ef}
def BB (q:Array Ee->Prop):Prop:=∀(b:Array Ee) (v:Ee),q b->q (b.setIfInBounds 1 v)
def Ph (q:Array Ee->Prop)(h base:Ev)(x:Ef)(c g:Ee):Prop :=
 ∃b d T e f,h.get? x=some b/\(b.cls=c/\q d)/\b.data=.fields d/\d[1]?=some (.ref T)/\base.get? T=none/\T≠x/\h.get? T=some e/\e.data=.fields f/\f[3]?=some g
theorem SJ {h:Ev}{y:Ef}{c:Obj}{vs:Array Ee}(d:h.get? y=some c)(hd:c.data=.fields vs):∀b o,h.get? b=some o->(∀ws,o.data≠.fields ws)->b≠y:=fun b o hb e z=>by
 subst z;rw[d]at hb;cases hb;exact e vs hd
theorem Gg (F:BB q){l:Obj}{vs:Array Ee}{c:Ee}{nx:Bool}{Q:Unit->Dh}(C:A.frames=some (env::outer))(fr:s.heap.FunFrames base (env::outer))(D:env.frame=some L)
  (j:s.heap.get? x=some l) (H:base.StaysIn s.heap) (r:base.get? x=none) (hd:l.data=.fields vs) (sz:1<vs.size) (G:q vs)
  (k:∀h',base.StaysIn h'->h'.FunFrames base (env::outer)->Ph q h' base x l.cls (EZ L)->s.heap.UpToSlots h'->Q () { s with heap:=h' }) :
  Eh M A (do let fo ←frameOf env;let pl ←entryPlaceOf L nx;let en ←EntryCells.newEntry c fo .none (EZ L) .none pl;setField (.ref x) 1 en) Q E s:=by
 have J:x∉(env::outer).filterMap (·.frame):=fun z=>by
  obtain⟨_,o,w,hn⟩:=fr.mem z;rw[j]at w;cases w;exact hn vs hd
 refine Q7<|wpAny_frameOf_fun C fr D fun g i=>Q7<|wpAny_entryPlaceOf fun pl d=>?_;unfold EntryCells.newEntry;unfold newFields;refine Q7<|Ya (T:="traceback") ?_<|d.sizeOk5 _ _ _ _ _;have v:g.get? x=some l:=by rw[←j];exact i.2.1 x J
 have u:base.StaysIn g:=fun b o e=>by
  rw[i.2.1 b fun z=>by rw[(fr.mem z).1]at e;cases e];exact H b o e
 obtain⟨row,p⟩:∃row:Obj,row={ cls:=.type "traceback",data:=.fields ([c,.ref L,.none,EZ L,.none]++(if pl.isEmpty then Lw 6 EF else pl)).toArray }:=⟨_,rfl⟩;have y:=Zd (h:=g) row v;have f:g.objs.size≠x:=YW<|Zq v;rw[←p];have keep:∀b o,b≠x->g.get? b=some o->((g.push row).update x (LI (·.setIfInBounds 1 (Et g.objs.size)))).get? b=some o:=fun b o I e=>by
  rw[YJ _ _<|EB I];exact Zd _ e
 refine Jh y hd sz<|k _ ?_ ?_ ?_ ?_
 ·intro b o e;exact keep b o (fun z=>by rw[z,r]at e;cases e)<|u b o e
 ·refine fr.of_keeps fun b o e hn=>?_;obtain⟨B,n⟩:=i.2.2 b o e;exact⟨_,keep b _ (SJ j hd b o e hn) n,rfl⟩
 ·have t:=Obj.data_mapFields hd (·.setIfInBounds 1 (Et g.objs.size));refine⟨_,_,g.objs.size,row,_,Ye _ y<|Obj.isFreed_of_fields t,⟨Obj.cls_mapFields _ _,F _ _ G⟩,t,by simp[sz],u.fresh,f,?_,by rw[p],?_⟩
  ·rw[YJ _ _<|EB f];exact Zp g (by rw[p];rfl)
  ·rcases d with rfl|⟨_,_,_,_,_,_,_,rfl⟩<;>simp
 ·intro b o e hn;obtain⟨B,n⟩:=i.2.2 b o e;exact⟨B,keep b _ (SJ j hd b o e hn) n⟩
theorem MQ (h:BB q){c:Obj}{vs:Array Ee}{Q:Unit->Dh}(g:A.frames=some (env::outer))(fr:s.heap.FunFrames base (env::outer))(e:env.frame=some L)
  (f:s.heap.get? x=some c) (j:base.StaysIn s.heap) (b:base.get? x=none) (hd:c.data=.fields vs) (d:vs[1]?=some .none) (i:q vs)
  (k:∀h',base.StaysIn h'->h'.FunFrames base (env::outer)->Ph q h' base x c.cls (EZ L)->s.heap.UpToSlots h'->Q () { s with heap:=h' }):Eh M A (noteFrame (.ref x) env) Q E s:=by
 unfold noteFrame;simp only[e];refine Q7<|Vs f hd d ?_;rw[Zt<|show¬(EF !=EF)=true by decide];exact Gg h g fr e f j b hd (Jo.mp d).1 i k
theorem NS (u:BB q){c:Ee}{Q:Unit->Dh}(p:A.frames=some (env::outer))(fr:s.heap.FunFrames base (env::outer))(j:env.frame=some L)(t:Ph q s.heap base x c .none)(y:base.StaysIn s.heap)(g:base.get? x=none)
  (k:∀h',base.StaysIn h'->h'.FunFrames base (env::outer)->Ph q h' base x c (EZ L)->s.heap.UpToSlots h'->Q () { s with heap:=h' }):Eh M A (noteFrame (.ref x) env) Q E s:=by
 obtain⟨I,N,T,J,K,w,⟨r,v⟩,hd,h,B,n,f,dT,i⟩:=t;subst r;unfold noteFrame;simp only[j];refine Q7<|Vs w hd h ?_;rw[Zs<|show(Et T !=EF)=true by simp];refine Q7<|Vs f dT i ?_;rw[Zt<|show¬(EF==EZ L)=true by simp[EZ]];have d:∀b,b≠T->(s.heap.update T (LI (·.setIfInBounds 3 EF))).get? b=s.heap.get? b:=fun b C=>YJ _ _<|EB C;have l:=SJ f dT;refine Q7<|Jh f dT (Jo.mp i).1 ?_;refine Gg u p (fr.of_keeps fun b o e hn=>⟨o,by rw[d b<|l b o e hn];exact e,rfl⟩) j (by rwa[d x<|EB n]) (fun b o e=>?_) g hd (Jo.mp h).1 v fun h' D F G H=>k h' D F G fun b o e hn=>?_
 ·rw[d b fun z=>by rw[z,B]at e;cases e];exact y b o e
 ·exact H b o (by rwa[d b<|l b o e hn]) hn
theorem jA {l:List Env}{Q:Unit->Dh}(w:base.StaysIn s.heap)(fr:s.heap.FunFrames base l)(t:Ph q s.heap base x c fl)
  (k:∀h',base.StaysIn h'->h'.FunFrames base l->Ph q h' base x c .none->s.heap.UpToSlots h'->Q () { s with heap:=h' }):Eh M A (setFlight (.ref x) none) Q E s:=by
 obtain⟨B,D,T,F,C,j,v,hd,i,n,h,g,dT,u⟩:=t;have r:3<C.size:=(Jo.mp u).1;have p:=SJ g dT;have d:∀b,b≠T->(s.heap.update T (LI (·.setIfInBounds 3 ((none:Option Ef).elim EF fun f=>EZ f)))).get? b=s.heap.get? b:=fun b y=>YJ _ _<|EB y;unfold setFlight;refine Q7<|Vs j hd i ?_;rw[Zs<|show(Et T !=EF)=true by simp];refine Jh g dT r (k _ (fun b o e=>?_) (fr.of_keeps fun b o e hn=>⟨o,by rw[d b<|p b o e hn];exact e,rfl⟩) ?_ fun b o e hn=>⟨o.slots,by rw[d b<|p b o e hn];exact e⟩)
 ·rw[d b fun z=>by rw[z,n]at e;cases e];exact w b o e
 ·refine⟨B,D,T,_,_,by rw[d x<|EB h];exact j,v,hd,i,n,h,Ye _ g<|Obj.isFreed_of_fields<|Obj.data_mapFields dT _,Obj.data_mapFields dT _,?_⟩;simp[r]
theorem Ht (h:BB q){c:Obj}{vs:Array Ee}{Q:Unit->Dh}(e:A.frames=some (env::outer))(fr:s.heap.FunFrames base (env::outer))(f:env.frame=some L)
  (j:s.heap.get? x=some c) (l:base.StaysIn s.heap) (b:base.get? x=none) (hd:c.data=.fields vs) (d:vs[1]?=some .none) (i:q vs)
  (k:∀h',base.StaysIn h'->h'.FunFrames base (env::outer)->Ph q h' base x c.cls .none->s.heap.UpToSlots h'->Q () { s with heap:=h' }):Eh M A (leaving env<|.ref x) Q E s:=by
 unfold leaving;exact Q7<|MQ h e fr f j l b hd d i fun g n o p r=>jA (s:={ s with heap:=g }) n o p fun h' t u v w=>k h' t u v<|r.trans w
theorem MK (f:BB q){c:Ee}{Q:Unit->Dh}(d:A.frames=some (env::outer))(fr:s.heap.FunFrames base (env::outer))(e:env.frame=some L)(t:Ph q s.heap base x c .none)(h:base.StaysIn s.heap)(b:base.get? x=none)
  (k:∀h',base.StaysIn h'->h'.FunFrames base (env::outer)->Ph q h' base x c .none->s.heap.UpToSlots h'->Q () { s with heap:=h' }):Eh M A (leaving env<|.ref x) Q E s:=by
 unfold leaving;exact Q7<|NS f d fr e t h b fun g i j l n=>jA (s:={ s with heap:=g }) i j l fun h' o p r u=>k h' o p r<|n.trans u
end
open PySem.Spec PyProof.Rows
abbrev Key:=Sum Int Str
def BQ:Key->Ee->Bool
 | .inl k,v=>Mo k v
 | .inr x,v=>EY x v
def bU (w:Ek):Key->Int
 | .inl k=>hashInt k
 | .inr x=>hashStr w x
theorem yT:∀{k:Key} {v:Ee},BQ k v=true->(∃i t,k=Sum.inl i/\v=Value.int i t)\/(∃x t,k=Ep x/\v=Mi x t)
 | .inl i,v,h=>by
  obtain⟨t,e⟩:=Value.isInt_shape (k:=i) (v:=v) h;exact .inl ⟨i,t,rfl,e⟩
 | .inr x,v,h=>by
  obtain⟨t,e⟩:=YD (x:=x) (v:=v) h;exact .inr ⟨x,t,rfl,e⟩
theorem OO (i:Int)(t:Tok):BQ (.inl i) (.int i t)=true:=by simp[BQ,Mo]
theorem qE (x:Str)(t:Tok):BQ (.inr x) (.str x t)=true:=by simp[BQ,EY]
theorem Wq (a b:Int):decide ((Sum.inl a:Key)=Sum.inl b)=(a==b):=by
 by_cases e:a=b
 ·subst e;simp
 ·have h:¬(Sum.inl a:Key)=Sum.inl b:=fun q=>e<|Sum.inl.inj q;rw[Zo h];exact(YM.mpr e).symm
theorem Wt (a b:Str):decide ((Ep a:Key)=Ep b)=decide (a=b):=by
 by_cases e:a=b
 ·subst e;simp
 ·have h:¬(Ep a:Key)=Ep b:=fun q=>e<|Sum.inr.inj q;rw[Zo h,Zo e]
theorem Wr (a:Int)(b:Str):decide ((Sum.inl a:Key)=Ep b)=false:=Zo<|fun q=>nomatch q
theorem Ws (a:Str)(b:Int):decide ((Ep a:Key)=Sum.inl b)=false:=Zo<|fun q=>nomatch q
def zc (prog:Eg)(w:Ek):PySem.KeyKind prog w Key where
 is:=BQ
 hash:=bU w
 inj:=fun v a b ha hb=>by
  rcases yT ha with⟨i,t,rfl,rfl⟩|⟨x,t,rfl,rfl⟩
  ·rcases yT hb with⟨j,u,rfl,e⟩|⟨y,u,rfl,e⟩
   ·injection e with c _;rw[c]
   ·exact nomatch e
  ·rcases yT hb with⟨j,u,rfl,e⟩|⟨y,u,rfl,e⟩
   ·exact nomatch e
   ·injection e with c _;rw[c]
 byValue:=fun k v h=>by
  rcases yT h with⟨i,t,rfl,rfl⟩|⟨x,t,rfl,rfl⟩<;>rfl
 pyHash:=fun d h=>by
  rcases yT d with⟨i,t,rfl,rfl⟩|⟨x,t,rfl,rfl⟩
  ·exact wpAny_pyHash_int h
  ·exact wpAny_pyHash_str h
 eqBool:=fun f d h=>by
  rcases yT f with⟨i,t,rfl,rfl⟩|⟨x,t,rfl,rfl⟩
  ·rcases yT d with⟨j,u,rfl,rfl⟩|⟨y,u,rfl,rfl⟩
   ·rw[Wq]at h;exact wpAny_eqBool_int h
   ·rw[Wr]at h;exact SeqAt.EqAt.int_str i t y u _ _ _ _ h
  ·rcases yT d with⟨j,u,rfl,rfl⟩|⟨y,u,rfl,rfl⟩
   ·rw[Ws]at h;exact SeqAt.EqAt.str_int x t j u _ _ _ _ h
   ·rw[Wt]at h;exact wpAny_eqBool_str h
 «strs»:=fun k x t v h=>by
  rcases yT h with⟨i,u,rfl,e⟩|⟨y,u,rfl,e⟩
  ·exact nomatch e
  ·injection e with c _;subst c;cases v<;>rfl
theorem HP (prog:Eg)(w:Ek)(i:Int)(t:Tok):(zc prog w).is (.inl i) (.int i t)=true:=OO i t
theorem HQ (prog:Eg)(w:Ek)(x:Str)(t:Tok):(zc prog w).is (.inr x) (.str x t)=true:=qE x t
inductive V where
 |non|bl (b:Bool)|int (i:Int)|str (x:Str)|byt (b:Array UInt8)|flt (b:UInt64)|ref (a:Ef)|ty (n:String)
 deriving DecidableEq
abbrev Dl:=List<|Key×V
abbrev Dj:=List V
def yt:V->Ee->Prop
 | .non,u=>u=EF
 | .bl b,u=>u=L6 b
 | .int i,u=>∃t,u=Value.int i t
 | .str x,u=>∃t,u=Mi x t
 | .byt b,u=>∃t,u=Value.bytes b t
 | .flt b,u=>∃t,u=Value.float b t
 | .ref a,u=>u=Et a
 | .ty n,u=>u=Value.type n
abbrev yr:Dj->Db->Prop:=Lj yt
theorem yr.length (r:yr xs us):xs.length=us.length:=Paired.length r
theorem yr.get:∀{xs:Dj} {us:Db} {i:Nat} {x:V},yr xs us->xs[i]?=some x->∃u,us[i]?=some u/\yt x u
 |_,_,_,_,.nil,e=>by simp at e
 |_,_,0,_,.cons r _,e=>by simp at e;subst e;exact⟨_,rfl,r⟩
 |_,_,i+1,x,.cons _ t,e=>by
  obtain⟨u,b,c⟩:=yr.get (i:=i) (x:=x) t (by simpa using e);exact⟨u,by simpa using b,c⟩
theorem yr.append:∀{xs ys:Dj} {us ws:Db},yr xs us->yr ys ws->yr (xs++ys) (us++ws)
 |_,_,_,_,.nil,s=>s
 |_,_,_,_,.cons r t,s=>.cons r<|yr.append t s
theorem yr.take:∀{xs:Dj} {us:Db} (n:Nat),yr xs us->yr (xs.take n) (us.take n)
 |_,_,0,_=>.nil
 |_,_,_+1,.nil=>.nil
 |_,_,n+1,.cons r t=>.cons r<|yr.take n t
theorem yr.drop:∀{xs:Dj} {us:Db} (n:Nat),yr xs us->yr (xs.drop n) (us.drop n)
 |_,_,0,r=>r
 |_,_,_+1,.nil=>.nil
 |_,_,n+1,.cons _ t=>yr.drop n t
def vm:Option V->Dc->Prop
 |some v,some u=>yt v u
 |none,none=>True
 |_,_=>False
def KV {κ:Type}:List (κ×V)->List (κ×Ee)->Prop:=Lj fun(p:κ×V) (q:κ×Ee)=>p.1=q.1/\yt p.2 q.2
def kV:Key->V
 | .inl i=>.int i
 | .inr x=>.str x
inductive HO where
 |lst (xs:Dj)
 |tup (xs:Dj)
 |dK (Dm:Dl)|dT (Dm:List<|List Key×V)
 |set (S:Int->Bool) (n:Nat)
 |ins (C dx:Ef) (fs:List<|Str×V)
 |own (x:Ef)
 |xd (fs:List<|Str×V)
 |met (f x:Ef)
 |rng (lo hi:Int)
 |frz (o:Obj) (u:HO)
 |tbl (ps:Array Ee)
 |ext (φ:Ev->Prop)
abbrev Hp:=Ef->Option HO
def upd (H:Hp)(a:Ef)(o:HO):Hp:=fun b=>if b=a then some o else H b
theorem zC:upd H a o a=some o:=by unfold upd;rw[Zs rfl]
theorem zH {a b:Ef}(h:b≠a):upd H a o b=H b:=by unfold upd;rw[Zt h]
theorem Oh:upd (upd H a o) a u=upd H a u:=by
 funext b;unfold upd;split<;>rfl
theorem aJ {H:Hp}{a b:Ef}{o u:HO}(h:H a=some o)(h':H b=some u)(d:o≠u):a≠b:=by
 intro e;subst e;rw[h]at h';exact d<|Option.some.inj h'
theorem zR {H:Hp}{a b:Ef}{o:HO}(h:H a=some o)(h':H b=none):a≠b:=by
 intro e;subst e;rw[h]at h';cases h'
def TupAt (h:Ev)(a:Ef)(Dn:Array Ee):Prop:=∃o,h.get? a=some o/\o.cls=.type "tuple"/\∃n,o.data=.seq Dn n/\o.dict=none
theorem TupAt.is (t:TupAt h a Dn):IsTup h a Dn:=let ⟨o,h1,h2,n,h3,_⟩:=t;⟨o,h1,h2,n,h3⟩
theorem TupAt.lt (t:TupAt h a Dn):a<h.objs.size:=t.is.lt
theorem TupAt.new (h:Ev)(Dn:Array Ee):TupAt (h.push { cls:=.type "tuple",data:=.seq Dn }) h.objs.size Dn:=⟨_,Zp _ rfl,rfl,_,rfl,rfl⟩
section
variable (P:Eg)(w:Ek)
def yp (H:Hp)(h:Ev)(a:Ef):HO->Prop
 | .lst c=>c.length<=sizeLine/\∃(b:Db) (n:Nat),yr c b/\h.get? a=some { cls:=.type "list",data:=.seq b.toArray n }
 | .tup c=>c.length<=sizeLine/\∃b:Db,yr c b/\TupAt h a b.toArray
 | .dK Dm=>Dm.length<=sizeLine/\(a==EM)=false/\∃j,KV Dm j/\h.DictOf (zc P w) a j
 | .dT Dm=>Dm.length<=sizeLine/\(a==EM)=false/\∃c:List<|List Key×Ef×Ee,
   Lj (fun(p:List Key×V) (q:List Key×Ef×Ee)=>p.1=q.1/\H q.2.1=some (.tup<|p.1.map kV)/\yt p.2 q.2.2) Dm c /\
   ∃o e l,h.get? a=some o/\o.ExactDict/\o.data=.dict e l/\e.toList=c.map (L7<|Mx<|zc P w)/\(c.map (·.1)).Nodup
 | .set S n=>h.SetOf (intKind P w) a S n
 | .ins C dx fs=>H dx=some (.own a)/\fs.length<=1000/\dx≠a/\h.get? a=some (Ll C dx) /\
   ∃d,h.Ns1 dx d/\(∀f,vm (fs.lookup f)<|d f)/\PySem.Within d (fs.map (·.1))
 | .own _=>∃o,h.get? a=some o
 | .xd fs=>∃d,h.Ns1 a d/\∀f,vm (fs.lookup f)<|d f
 | .rng lo hi=>∃t u v,h.get? a=some { cls:=.type "range",data:=.fields #[.int lo t,.int hi u,.int 1 v] }
 | .frz o u=>h.get? a=some o/\yp H h a u
 | .tbl ps=>h.get? a=some { cls:=.none,data:=.fields ps }
 | .met f x=>h.get? a=some (PySem.W.methodObj (.ref f)<|.ref x)
 | .ext φ=>φ h/\(∃o,h.get? a=some o)/\∀g i:Ev,φ g->(∀o,g.get? a=some o->i.get? a=some o)->φ i
def uh (H:Hp)(h:Ev):Prop:=∀a o,H a=some o->yp P w H h a o
end
section
variable {P:Eg}{w:Ek}{H H':Hp}{h h':Ev}{a:Ef}{o:HO}
theorem yp.lt (x:yp P w H h a o):a<h.objs.size:=by
 cases o with
 |lst xs=>obtain⟨_,_,_,_,e⟩:=x;exact Zq e
 |tup xs=>obtain⟨_,_,_,p⟩:=x;exact p.lt
 |dK Dm=>obtain⟨_,_,_,_,o,_,_,e,_⟩:=x;exact Zq e
 |dT Dm=>obtain⟨_,_,_,_,o,_,_,e,_⟩:=x;exact Zq e
 |set S n=>obtain⟨o,_,_,_,e,_⟩:=x;exact Zq e
 |ins C dx fs=>obtain⟨_,_,_,e,_⟩:=x;exact Zq e
 |own y=>obtain⟨_,e⟩:=x;exact Zq e
 |xd fs=>obtain⟨_,⟨_,_,_,e,_⟩,_⟩:=x;exact Zq e
 |rng lo hi=>obtain⟨_,_,_,e⟩:=x;exact Zq e
 |frz ob u=>obtain⟨e,_⟩:=x;exact Zq e
 |tbl ps=>exact Zq<|show h.get? a=some _ from x
 |met f y=>exact Zq<|show h.get? a=some _ from x
 |ext φ=>obtain⟨_,⟨_,e⟩,_⟩:=x;exact Zq e
theorem Paired.mj {α c:Type}{F G:α->c->Prop}:∀{l₁:List α} {l₂:List c},Lj F l₁ l₂->(∀a b,F a b->G a b)->Lj G l₁ l₂
 |_,_,.nil,_=>.nil
 |_,_,.cons r t,f=>.cons (f _ _ r)<|Paired.mj t f
theorem yp.stay (x:yp P w H h a o)(k:∀b u,(b=a\/H b=some (.own a))->h.get? b=some u->h'.get? b=some u)
  (D:∀b,H b=some (.own a)->H' b=some (.own a)) (E:∀b xs,H b=some (.tup xs)->H' b=some (.tup xs)):yp P w H' h' a o:=by
 induction o with
 |lst xs=>obtain⟨z,l,n,r,e⟩:=x;exact⟨z,l,n,r,k _ _ (.inl rfl) e⟩
 |tup xs=>obtain⟨z,l,r,g,e,c⟩:=x;exact⟨z,l,r,g,k _ _ (.inl rfl) e,c⟩
 |dK Dm=>obtain⟨z,y,F,r,g,j,i,e,c⟩:=x;exact⟨z,y,F,r,g,j,i,k _ _ (.inl rfl) e,c⟩
 |dT Dm =>
  obtain⟨z,y,xs,r,g,j,i,e,c⟩:=x;exact⟨z,y,xs,Paired.mj r fun p q z=>⟨z.1,E _ _ z.2.1,z.2.2⟩,g,j,i,k _ _ (.inl rfl) e,c⟩
 |set S n=>obtain⟨g,j,i,t,e,c⟩:=x;exact⟨g,j,i,t,k _ _ (.inl rfl) e,c⟩
 |ins C dx fs =>
  obtain⟨d,z,ne,e,s,⟨A,j,i,B,c⟩,r⟩:=x;exact⟨D _ d,z,ne,k _ _ (.inl rfl) e,s,⟨A,j,i,k _ _ (.inr d) B,c⟩,r⟩
 |own y=>obtain⟨g,e⟩:=x;exact⟨g,k _ _ (.inl rfl) e⟩
 |xd fs=>obtain⟨s,⟨A,j,i,e,c⟩,r⟩:=x;exact⟨s,⟨A,j,i,k _ _ (.inl rfl) e,c⟩,r⟩
 |rng lo hi=>obtain⟨t,u,v,e⟩:=x;exact⟨t,u,v,k _ _ (.inl rfl) e⟩
 |frz g u ih=>obtain⟨e,q⟩:=x;exact⟨k _ _ (.inl rfl) e,ih q⟩
 |tbl ps =>
  have e:h.get? a=some { cls:=.none,data:=.fields ps }:=x;show h'.get? a=some { cls:=.none,data:=.fields ps };exact k a _ (.inl rfl) e
 |met f y =>
  have e:h.get? a=some (PySem.W.methodObj (.ref f)<|.ref y):=x;show h'.get? a=some (PySem.W.methodObj (.ref f)<|.ref y);exact k a _ (.inl rfl) e
 |ext φ=>obtain⟨p,⟨o,e⟩,st⟩:=x;exact⟨st _ _ p fun o q=>k _ _ (.inl rfl) q,⟨o,k _ _ (.inl rfl) e⟩,st⟩
theorem uh.lt (x:uh P w H h)(e:H a=some o):a<h.objs.size:=(x a o e).lt
theorem uh.fresh (x:uh P w H h)(e:h.objs.size<=a):H a=none:=by
 cases q:H a with
 |none=>rfl
 |some u=>exact absurd (ZJ (x.lt q) e)<|YC _
theorem uh.kept (x:uh P w H h)(k:∀b u,h.get? b=some u->h'.get? b=some u):uh P w H h':=fun a o e =>
 (x a o e).stay (fun b u _ q=>k b u q) (fun _ q=>q) fun _ _ q=>q
theorem uh.laid (x:uh P w H h)(k:∀b u,h.get? b=some u->h'.get? b=some u)(d:h.objs.size<=a)(new:yp P w (upd H a o) h' a o):uh P w (upd H a o) h':=fun b u e=>by
 have hn:=x.fresh d
 by_cases hb:b=a
 ·subst hb;rw[zC]at e;cases e;exact new
 ·rw[zH hb]at e;exact(x b u e).stay (fun c v _ q=>k c v q) (fun c q=>by rwa[zH<|zR q hn]) fun c f q=>by rwa[zH<|zR q hn]
end
def Rd (H:Hp)(a:Ef)(u:HO):Prop:=H a=some u\/∃o,H a=some (.frz o u)
theorem Rd.ok (r:Rd H a u)(x:uh P w H h):yp P w H h a u:=by
 rcases r with r|⟨o,r⟩
 ·exact x a u r
 ·obtain⟨_,q⟩:=x a _ r;exact q
def T6:Option HO->Prop
 |some (.lst _)=>True
 |some (.dK _)=>True
 |some (.dT _)=>True
 |some (.set _ _)=>True
 |some (.ins _ _ _)=>True
 |some (.ext _)=>True
 |_=>False
section
variable {P:Eg}{w:Ek}{H:Hp}{h h':Ev}{x e:Ef}{o':HO}
theorem uh.write (ok:uh P w H h)(j:T6<|H x)(o:e=x\/H e=some (.own x))(k:∀b u,b≠e->h.get? b=some u->h'.get? b=some u)(n:∃u,h'.get? e=some u)
  (new:yp P w (upd H x o') h' x o'):uh P w (upd H x o') h':=fun b u q=>by
 have f:∀c y,H c=some (.own y)->c≠x:=fun c y r z=>by subst z;rw[r]at j;exact j
 have g:∀c l,H c=some (.tup l)->c≠x:=fun c l r z=>by subst z;rw[r]at j;exact j
 by_cases hb:b=x
 ·subst hb;rw[zC]at q;cases q;exact new
 ·rw[zH hb]at q
  by_cases d:b=e
  ·have p:H b=some (.own x):=by
    rcases o with z|z
    ·exact absurd (d.trans z) hb
    ·rwa[d]
   rw[q]at p;cases p;obtain⟨v,s⟩:=n;exact⟨v,by rw[d];exact s⟩
  ·refine(ok b u q).stay (fun c v i r=>k c v ?_ r) (fun c r=>by rwa[zH<|f c b r]) fun c l r=>by rwa[zH<|g c l r]
   rcases i with rfl|i
   ·exact d
   ·rintro rfl
    rcases o with z|z
    ·exact f c b i z
    ·rw[i]at z;cases z;exact hb rfl
end
structure Un (fs ex:Dd)(H H':Hp)(h h':Ev):Prop where
 keep:∀b o,h.get? b=some o->H b=none->b∉fs->b∉ex->h'.get? b=some o
 slot:∀b o,h.get? b=some o->H b=none->b∈fs->b∉ex->∃sl,h'.get? b=some { o with slots:=sl }
 free:∀b o,h.get? b=some o->H b=none->b∉ex->H' b=none
 there:∀b o,h.get? b=some o->b∉ex->∃o',h'.get? b=some o'
 tups:∀b xs,H b=some (.tup xs)->H' b=some (.tup xs)
 vy:∀b o u,H b=some (.frz o u)->H' b=some (.frz o u)
 ut:∀b ps,H b=some (.tbl ps)->∃more,H' b=some (.tbl<|ps++more)
section
variable {fs fs' ex ex':Dd}{H H1 H2:Hp}{h h1 h2 h':Ev}{a x e:Ef}{o:HO}
theorem Un.any (u:Un fs ex H H1 h h1){b:Ef}{c:Obj}(q:h.get? b=some c)(n:H b=none)(d:b∉ex):∃sl,h1.get? b=some { c with slots:=sl }:=by
 by_cases hb:b∈fs
 ·exact u.slot b c q n hb d
 ·exact⟨c.slots,u.keep b c q n hb d⟩
theorem Un.kept (k:∀b u,h.get? b=some u->h'.get? b=some u):Un fs ex H H h h' :=
 ⟨fun b c q _ _ _=>k b c q,fun b c q _ _ _=>⟨c.slots,k b c q⟩,fun _ _ _ n _=>n,fun b c q _=>⟨c,k b c q⟩,fun _ _ q=>q,fun _ _ _ q=>q,fun _ d q=>⟨#[],by rw[q];simp⟩⟩
theorem Un.refl:Un fs ex H H h h:=Un.kept fun _ _ q=>q
theorem Un.laid (k:∀b u,h.get? b=some u->h'.get? b=some u)(c:h.objs.size<=a)(hn:H a=none):Un fs ex H (upd H a o) h h' where
 keep:=fun b u q _ _ _=>k b u q
 slot:=fun b u q _ _ _=>⟨u.slots,k b u q⟩
 free:=fun b u q n _=>by rwa[zH<|Zz<|ZJ (Zq q) c]
 there:=fun b u q _=>⟨u,k b u q⟩
 tups:=fun b d q=>by rwa[zH<|zR q hn]
 vy:=fun b u d q=>by rwa[zH<|zR q hn]
 ut:=fun b e q=>⟨#[],by rw[zH<|zR q hn,q];simp⟩
theorem Un.write (d:T6<|H x)(i:e=x\/H e=some (.own x))(k:∀b u,b≠e->h.get? b=some u->h'.get? b=some u)(f:∃u,h'.get? e=some u):Un fs ex H (upd H x o) h h':=by
 have g:∀b,H b=none->b≠x:=fun b n z=>by subst z;rw[n]at d;exact d
 have hb:∀b,H b=none->b≠e:=fun b n z=>by
  subst z
  rcases i with r|r
  ·exact g b n r
  ·rw[n]at r;cases r
 have hm:∀b u,H b=some u->¬T6 (some u)->b≠x:=fun b u q nm z=>by subst z;rw[q]at d;exact nm d
 refine⟨fun b u q n _ _=>k b u (hb b n) q,fun b u q n _ _=>⟨u.slots,k b u (hb b n) q⟩,fun b u q n _=>by rw[zH<|g b n];exact n,fun b u q _=>?_,
  fun b j q=>by rw[zH<|hm b _ q fun z=>z];exact q,fun b u j q=>by rw[zH<|hm b _ q fun z=>z];exact q,fun b l q=>⟨#[],by rw[zH<|hm b _ q fun z=>z,q];simp⟩⟩
 by_cases c:b=e
 ·subst c;exact f
 ·exact⟨u,k b u c q⟩
end
def bG (h:Ev)(H:Hp):Dd:=(EC h.objs.size).filter fun a=>(H a).isSome
def Fh (h:Ev)(H:Hp):Heap:=PySem.W.hideAll h<|bG h H
theorem OL (h:Ev)(H:Hp):(Fh h H).objs.size=h.objs.size:=PySem.W.hideAll_size _ _
theorem PN {h:Ev}{H:Hp}{b:Ef}{o:Obj}(e:h.get? b=some o)(n:H b=none):(Fh h H).get? b=some o :=
 Jk _ e fun hm=>by
  have q:(H b).isSome=true:=(YA.mp hm).2;rw[n]at q;simp at q
theorem SK {b:Ef}{o:Obj}(e:(Fh h H).get? b=some o):h.get? b=some o/\H b=none:=by
 have c:h.get? b=some o:=PySem.W.of_hideAll (bG h H) e;refine⟨c,?_⟩;cases q:H b with
 |none=>rfl
 |some x =>
  have hm:b∈bG h H:=YA.mpr ⟨YQ.mpr<|Zq c,by simp[q]⟩;have z:(Fh h H).get? b=none:=J1 (bG h H) hm;rw[z]at e;cases e
structure Mod (K:Cd)(mg:Str->Dc)(base:Ev):Prop where
 mW:K.In base
 glob:base.Ns Es mg
 blt:∃mb,base.Ns builtinsNs mb/\∀x:Str,x≠"__name__"->mb x=LQ x
 nolimit:base.NoLimit
structure Cx where
 prog:Eg
 w:Ek
 K:Cd
 mg:Str->Dc
 base:Ev
 A:ED
 N:Da
 s₀:Ei
 H₀:Hp
 env:Env
 outer:List Env
 stack:List Env
 ex:Dd
 fn:Str->Bool
 calm:Bool
 pn:De
 xe:Ee->Dh
def frs (l:List Env):Dd:=l.filterMap (·.frame)
abbrev Cx.fs (X:Cx):Dd:=frs X.outer
def bE (sc:LX)(x:Str):Prop:=sc.names.lookup x=some .local\/sc.names.lookup x=some .cell\/sc.names.lookup x=some .free
def Loc (sc:LX)(x:Str):Prop:=sc.names.lookup x=some .local\/sc.names.lookup x=some .cell
def Look (env:Env)(h:Ev)(m:Str->Dc)(x:Str)(u:Ee):Prop :=
 (env.kindOf x=some .local/\m x=some u)\/((env.kindOf x=some .cell\/env.kindOf x=some .free)/\∃c,env.cells.lookup x=some c/\h.IsCell c (some u))
structure Cx.Ok (X:Cx):Prop where
 mod:Mod X.K X.mg X.base
 kind:X.env.scope.kind=.function
 glob:X.env.globals=Es
 blt:X.env.builtins=builtinsNs
 above:X.s₀.heap.objs.size<=X.env.locals
 inj:∀x y c,X.env.cells.lookup x=some c->X.env.cells.lookup y=some c->x=y
 has:∀x,(X.env.kindOf x=some .cell\/X.env.kindOf x=some .free)->∃c,X.env.cells.lookup x=some c
 cab:∀x c,X.fn x=true->X.env.cells.lookup x=some c->X.s₀.heap.objs.size<=c
 hd:X.calm=true->X.A.handled=none
 frames:X.A.frames=some X.stack
 stk:X.stack=X.outer\/(X.stack=X.env::X.outer/\X.env.frame=some X.env.locals)
 mH:∀b∈X.ex,b≠X.env.locals/\∀x c,X.env.cells.lookup x=some c->c≠b
 bs:∀b o,X.base.get? b=some o->X.s₀.heap.get? b=some o/\X.H₀ b=none
 oK:X.base.objs.size<=X.s₀.heap.objs.size
 qi:∀b o,X.base.get? b=some o->b∉X.ex
 pU:∀b∈X.ex,b∉X.fs
 uc:X.s₀.heap.FunFrames X.base X.outer
 nF:∀b∈X.fs,X.H₀ b=none
structure Inv (X:Cx)(Do:De)(σ:List<|Option V)(H:Hp)(s:Ei):Prop where
 ok:X.Ok
 os:s.os=X.s₀.os
 bare:Mt s.gens
 base:Un X.fs X.ex X.H₀ H X.s₀.heap s.heap
 loc:∃m,s.heap.Ns X.env.locals m/\∀(i:Nat) (x:Str) (v:V),X.N[i]?=some x->σ[i]?=some (some v)->bE X.env.scope x->∃u,yt v u/\Look X.env s.heap m x u
 cell:∀x c,X.env.cells.lookup x=some c->∃v,s.heap.IsCell c v
 free:H X.env.locals=none
 wM:∀x c,X.env.cells.lookup x=some c->H c=none
 pin:∀p∈X.pn++Do,s.heap.get? p.1=some p.2/\H p.1=none/\p.1≠X.env.locals/\p.1∉X.fs/\∀v,p.2.data≠.cell v
 hok:uh X.prog X.w H s.heap
 len:σ.length=X.N.length
section
variable {X:Cx}{Do:De}{σ:List (Option V)}{H H':Hp}{s:Ei}{h':Ev}
theorem Cx.Ok.lz (ok:X.Ok){b:Ef}{o:Obj}(e:X.base.get? b=some o):b∉X.fs:=fun hb=>by
 have:=(ok.uc.mem hb).1;rw[e]at this;cases this
theorem Inv.bs (I:Inv X Do σ H s):∀b o,X.base.get? b=some o->s.heap.get? b=some o/\H b=none:=fun b o e =>
 ⟨I.base.keep b o (I.ok.bs b o e).1 (I.ok.bs b o e).2 (I.ok.lz e)<|I.ok.qi b o e,I.base.free b o (I.ok.bs b o e).1 (I.ok.bs b o e).2<|I.ok.qi b o e⟩
theorem Inv.bk (I:Inv X Do σ H s):∀b o,X.base.get? b=some o->s.heap.get? b=some o:=fun b o e=>(I.bs b o e).1
theorem Inv.mod (I:Inv X Do σ H s):Mod X.K X.mg X.base:=I.ok.mod
theorem Inv.uq (I:Inv X Do σ H s):X.K.In s.heap:=I.ok.mod.mW.keeps I.bk
theorem Inv.lt (I:Inv X Do σ H s):X.env.locals<s.heap.objs.size:=let ⟨_,hn,_⟩:=I.loc;hn.lt
theorem Inv.sz (I:Inv X Do σ H s):X.s₀.heap.objs.size<=s.heap.objs.size:=Z0 I.ok.above<|YK I.lt
theorem Inv.jy (I:Inv X Do σ H s){a:Ef}(h:s.heap.objs.size<=a):a∉X.fs:=fun hb=>by
 obtain⟨_,o,b,_⟩:=I.ok.uc.mem hb;exact absurd (ZJ (Zq b)<|Z0 I.sz h)<|YC _
theorem Inv.mR (I:Inv X Do σ H s):∀x c,X.env.cells.lookup x=some c->c≠X.env.locals:=fun x c e z=>by
 obtain⟨v,o,f,hd⟩:=I.cell x c e;obtain⟨m,⟨i,h,g,d,b,_⟩,_⟩:=I.loc;rw[z,d]at f;cases f;rw[b]at hd;cases hd
theorem Inv.uc (I:Inv X Do σ H s):s.heap.FunFrames X.base X.outer:=by
 have all:∀(l:List Env),(∀b∈frs l,b∈X.fs)->X.s₀.heap.FunFrames X.base l->s.heap.FunFrames X.base l:=by
  intro l
  induction l with
  |nil=>intro _ _;trivial
  |cons env r ih =>
   intro f hl;obtain⟨hk,⟨L,o,d,hn,g,hd⟩,h⟩:=hl;have c:L∈X.fs:=f L (by unfold frs;rw[YN,d];exact Ze);obtain⟨i,e⟩:=I.base.slot L o g (I.ok.nF L c) c fun z=>I.ok.pU L z c;exact⟨hk,⟨L,_,d,hn,e,hd⟩,ih (fun b hb=>f b (by unfold frs;rw[YN,d];exact Zb _ hb)) h⟩
 exact all X.outer (fun _ hb=>hb) I.ok.uc
theorem Inv.stack (I:Inv X Do σ H s):s.heap.FunFrames X.base X.stack:=by
 rcases I.ok.stk with e|⟨e,b⟩
 ·rw[e];exact I.uc
 ·rw[e];obtain⟨m,hn,_⟩:=I.loc;refine .cons (by rw[I.ok.kind];decide) b hn ?_ I.uc;exact VT<|Z0 I.ok.oK I.ok.above
theorem Inv.tD (I:Inv X Do σ H s):∀b∈frs X.stack,b∈X.env.locals::X.fs:=fun b hb=>by
 rcases I.ok.stk with e|⟨e,c⟩
 ·rw[e]at hb;exact Zb _ hb
 ·rw[e]at hb;unfold frs at hb;rw[YN,c]at hb;exact hb
theorem Inv.tO (I:Inv X Do σ H s):∀b∈frs X.stack,H b=none:=fun b hb=>by
 rcases Zi.mp (I.tD b hb) with e|hb
 ·rw[e];exact I.free
 ·obtain⟨_,o,c,_⟩:=I.ok.uc.mem hb;exact I.base.free b o c (I.ok.nF b hb) fun z=>I.ok.pU b z hb
theorem Inv.step {g':Array GenState}{t':Nat}{d':Drawn}{ch:Dd}(I:Inv X Do σ H s)
  (h:∀b∈ch,(b∈X.ex\/X.s₀.heap.objs.size<=b)/\b≠X.env.locals/\(∀x c,X.env.cells.lookup x=some c->c≠b)/\∀p∈X.pn++Do,p.1≠b)
  (keep:∀b o,b≠X.env.locals->b∉X.fs->b∉ch->s.heap.get? b=some o->H b=none->h'.get? b=some o)
  (slot:∀b o,b≠X.env.locals->b∈X.fs->b∉ch->s.heap.get? b=some o->H b=none->∃sl,h'.get? b=some { o with slots:=sl }) (free:∀b o,b∉ch->s.heap.get? b=some o->H b=none->H' b=none)
  (there:∀b o,b∉ch->s.heap.get? b=some o->∃o',h'.get? b=some o')
  (tups:∀b xs,H b=some (.tup xs)->H' b=some (.tup xs)) (vy:∀b o u,H b=some (.frz o u)->H' b=some (.frz o u)) (ut:∀b ps,H b=some (.tbl ps)->∃more,H' b=some (.tbl<|ps++more))
  (ns:∀m,s.heap.Ns X.env.locals m->h'.Ns X.env.locals m) (hok:uh X.prog X.w H' h') (K:Mt g') :
  Inv X Do σ H' { s with heap:=h',gens:=g',drawn:=d',toks:=t' }:=by
 have C:∀b o,X.s₀.heap.get? b=some o->b≠X.env.locals:=fun b o e=>Zz<|ZJ (Zq e) I.ok.above;have y:∀b o,X.s₀.heap.get? b=some o->b∉X.ex->b∉ch:=fun b o e f hb=>by
  rcases(h b hb).1 with z|z
  ·exact f z
  ·exact absurd (ZJ (Zq e) z) (YC _)
 have g:∀x c,X.env.cells.lookup x=some c->∀v,s.heap.IsCell c v->h'.IsCell c v:=fun x c e v ⟨o,A,hd⟩=>by
  have j:c∉ch:=fun z=>(h c z).2.2.1 x c e rfl
  by_cases E:c∈X.fs
  ·obtain⟨sl,q⟩:=slot c o (I.mR x c e) E j A<|I.wM x c e;exact⟨_,q,hd⟩
  ·exact⟨o,keep c o (I.mR x c e) E j A<|I.wM x c e,hd⟩
 refine⟨I.ok,I.os,K,⟨fun b o e n hb f=>?_,fun b o e n hb f=>?_,fun b o e n f=>?_,fun b o e f=>?_,fun b xs e=>tups b xs<|I.base.tups b xs e,fun b o xs e=>vy b o xs<|I.base.vy b o xs e,fun b ps e=>?_⟩,?_,fun x c e=>?_,?_,fun x c e=>?_,fun p F=>?_,hok,I.len⟩
 ·exact keep b o (C b o e) hb (y b o e f) (I.base.keep b o e n hb f) (I.base.free b o e n f)
 ·obtain⟨sl,t⟩:=I.base.slot b o e n hb f;obtain⟨D,B⟩:=slot b _ (C b o e) hb (y b o e f) t<|I.base.free b o e n f;exact⟨D,B⟩
 ·obtain⟨o',t⟩:=I.base.there b o e f;exact free b o' (y b o e f) t<|I.base.free b o e n f
 ·obtain⟨o',t⟩:=I.base.there b o e f;exact there b o' (y b o e f) t
 ·obtain⟨L,t⟩:=I.base.ut b ps e;obtain⟨M,B⟩:=ut b _ t;exact⟨L++M,by rw[B,Array.append_assoc]⟩
 ·obtain⟨m,hn,hl⟩:=I.loc;refine⟨m,ns m hn,fun i x v t B J=>?_⟩;obtain⟨u,r,l⟩:=hl i x v t B J;refine⟨u,r,?_⟩
  rcases l with l|⟨k,c,e,z⟩
  ·exact .inl l
  ·exact .inr ⟨k,c,e,g x c e _ z⟩
 ·obtain⟨v,z⟩:=I.cell x c e;exact⟨v,g x c e v z⟩
 ·obtain⟨m,⟨o,_,_,A,_⟩,_⟩:=I.loc;exact free _ o (fun z=>(h _ z).2.1 rfl) A I.free
 ·obtain⟨v,o,A,hd⟩:=I.cell x c e;exact free c o (fun z=>(h c z).2.2.1 x c e rfl) A (I.wM x c e)
 ·obtain⟨e,n,ne,G,d⟩:=I.pin p F;have j:p.1∉ch:=fun z=>(h p.1 z).2.2.2 p F rfl;exact⟨keep p.1 p.2 ne G j e n,free p.1 p.2 j e n,ne,G,d⟩
theorem Inv.un {t':Nat}(I:Inv X Do σ H s)(u:Un X.fs [] H H' s.heap h')(hok:uh X.prog X.w H' h'):Inv X Do σ H' { s with heap:=h',toks:=t' }:=by
 obtain⟨m,⟨o,l,j,g,r⟩,_⟩:=id I.loc;obtain⟨t,h⟩:=u.any g I.free (by simp);exact I.step (g':=s.gens) (d':=s.drawn) (ch:=[]) (fun _ z=>nomatch z) (fun b o _ hb _ e n=>u.keep b o e n hb<|by simp) (fun b o _ hb _ e n=>u.slot b o e n hb<|by simp) (fun b o _ e n=>u.free b o e n<|by simp) (fun b o _ e=>u.there b o e<|by simp) u.tups u.vy u.ut (fun p hm=>by
  obtain⟨q,f,d,c,i⟩:=hm;rw[g]at c;cases c;exact⟨_,f,d,h,i⟩) hok I.bare
theorem Inv.call {g':Array GenState}{t':Nat}{d':Drawn}(I:Inv X Do σ H s)(u:Un (frs X.stack) ch H H' s.heap h')(hok:uh X.prog X.w H' h')(q:Mt g')
  (f:∀b∈ch,(b∈X.ex\/X.s₀.heap.objs.size<=b)/\b≠X.env.locals/\(∀x c,X.env.cells.lookup x=some c->c≠b)/\∀p∈X.pn++Do,p.1≠b) :
  Inv X Do σ H' { s with heap:=h',gens:=g',drawn:=d',toks:=t' }:=by
 obtain⟨m,⟨o,y,v,l,r⟩,_⟩:=id I.loc;obtain⟨C,j⟩:=u.any l I.free fun z=>(f _ z).2.1 rfl;exact I.step (ch:=ch) f (fun b o j hb d e n=>u.keep b o e n (fun z=>(Zi.mp<|I.tD b z).elim j hb) d) (fun b o _ _ d e n=>u.any e n d) (fun b o d e n=>u.free b o e n d) (fun b o d e=>u.there b o e d) u.tups u.vy u.ut (fun A hm=>by
  obtain⟨B,i,h,g,t⟩:=hm;rw[l]at g;cases g;exact⟨_,i,h,j,t⟩) hok q
theorem Inv.turned {t':Nat}{it:Ef}(I:Inv X Do σ H s)(k:∀b o,b≠it->s.heap.get? b=some o->h'.get? b=some o)(hn:H it=none)(g:it≠X.env.locals)
  (j:it∈X.ex\/X.s₀.heap.objs.size<=it) (l:∀x c,X.env.cells.lookup x=some c->c≠it) (t:∀p∈X.pn++Do,p.1≠it):Inv X Do σ H { s with heap:=h',toks:=t' }:=by
 have f:∀b u,H b=some u->b≠it:=fun b u e z=>by rw[z,hn]at e;cases e
 refine I.step (g':=s.gens) (d':=s.drawn) (ch:=[it]) (fun b hb=>?_) (fun b o _ _ d e _=>k b o (fun z=>d<|by simp[z]) e) (fun b o _ _ d e _=>⟨o.slots,k b o (fun z=>d<|by simp[z]) e⟩) (fun _ _ _ _ n=>n)
  (fun b o d e=>⟨o,k b o (fun z=>d<|by simp[z]) e⟩) (fun _ _ e=>e) (fun _ _ _ e=>e) (fun b y e=>⟨#[],by rw[e];simp⟩) (fun m hm=>?_) (fun b u e=>?_) I.bare
 ·have e:b=it:=by simpa using hb
  subst e;exact⟨j,g,l,t⟩
 ·obtain⟨o,i,h,w,r⟩:=hm;exact⟨o,i,h,k _ o (EB g) w,r⟩
 ·refine(I.hok b u e).stay (fun c v d q=>k c v ?_ q) (fun _ q=>q) fun _ _ q=>q
  rcases d with z|z
  ·rw[z];exact f b u e
  ·exact f c _ z
theorem Inv.tok (I:Inv X Do σ H s)(t:Nat):Inv X Do σ H { s with toks:=t }:=I.un (h':=s.heap) (t':=t) Un.refl I.hok
theorem Inv.kept {t':Nat}(I:Inv X Do σ H s)(k:∀b u,s.heap.get? b=some u->h'.get? b=some u):Inv X Do σ H { s with heap:=h',toks:=t' }:=I.un (Un.kept k)<|I.hok.kept k
theorem Inv.laid {a:Ef}{t':Nat}(I:Inv X Do σ H s)(k:∀b u,s.heap.get? b=some u->h'.get? b=some u)(c:s.heap.objs.size<=a)(new:yp X.prog X.w (upd H a o) h' a o) :
  Inv X Do σ (upd H a o) { s with heap:=h',toks:=t' }:=I.un (Un.laid k c<|I.hok.fresh c)<|I.hok.laid k c new
theorem Inv.write {x e:Ef}{o:HO}{t':Nat}(I:Inv X Do σ H s)(f:T6<|H x)(d:e=x\/H e=some (.own x))(k:∀b u,b≠e->s.heap.get? b=some u->h'.get? b=some u)(c:∃u,h'.get? e=some u)
  (new:yp X.prog X.w (upd H x o) h' x o):Inv X Do σ (upd H x o) { s with heap:=h',toks:=t' }:=I.un (Un.write f d k c)<|I.hok.write f d k c new
theorem Inv.vg {b:De}(I:Inv X Do σ H s)(h:∀p∈b,s.heap.get? p.1=some p.2/\H p.1=none/\p.1≠X.env.locals/\p.1∉X.fs/\∀v,p.2.data≠.cell v):Inv X b σ H s :=
 ⟨I.ok,I.os,I.bare,I.base,I.loc,I.cell,I.free,I.wM,fun p c=>(ZD.mp c).elim (fun z=>I.pin p<|ZX _ z) (h p),I.hok,I.len⟩
theorem HS {N:Da}(e:N.Nodup){i j:Nat}{x:Str}(a:N[i]?=some x)(b:N[j]?=some x):i=j:=by
 obtain⟨f,c⟩:=Zw.mp a;obtain⟨g,d⟩:=Zw.mp b;exact(Jc e).mp (c.trans d.symm)
theorem BP {M:Model}{A:ED}{E:Ee->Dh}{i:Nat}{x:Str}{Q:Unit->Dh}(I:Inv X Do σ H s)(hN:X.N.Nodup)(P:X.N[i]?=some x)(B:Loc X.env.scope x)(r:yt v u)
  (h:∀s',Inv X Do (σ.set i (some v)) H s'->(∃a,EJ a s.heap s'.heap/\(a=X.env.locals\/X.env.cells.lookup x=some a))->Q () s') (hf:X.fn x=true\/X.env.scope.names.lookup x=some .local:=by first|exact .inl rfl|exact .inr rfl|assumption):Eh M A (storeName X.env x u) Q E s:=by
 obtain⟨m,hn,hl⟩:=id I.loc;have O:(X.env.scope.kind==.class||(X.env.scope.kind==.module&&X.env.locals !=X.env.globals))=false:=by rw[I.ok.kind];rfl
 have F:i<σ.length:=by rw[I.len];exact(Zw.mp P).1
 have mR:=I.mR;have l:∀{a:Ef} {h':Ev},(∃o,s.heap.get? a=some o/\H a=none)->EJ a s.heap h'->uh X.prog X.w H h':=fun{a h'} ha f b ob e=>by
  obtain⟨_,_,C⟩:=ha;refine(I.hok b ob e).stay (fun c T t q=>(f.2 c ?_).trans q) (fun _ q=>q) fun _ _ q=>q;rintro rfl
  rcases t with rfl|t
  ·rw[C]at e;cases e
  ·rw[C]at t;cases t
 rcases B with hk|hk
 ·refine wpAny_storeName_local hk hn (fun h' Y f=>?_) O;obtain⟨oL,_,_,Z,_⟩:=id hn;refine h _ ⟨I.ok,I.os,I.bare,⟨fun b o e n hb B=>?_,fun b o e n hb B=>?_,I.base.free,fun b o e B=>?_,I.base.tups,I.base.vy,I.base.ut⟩,⟨_,Y,fun j y v' g D U=>?_⟩,fun y c e=>?_,I.free,I.wM,fun p hp=>?_,l ⟨oL,Z,I.free⟩ f,by simpa using I.len⟩ ⟨_,f,.inl rfl⟩
  ·exact(f.2 b<|Zz<|ZJ (Zq e) I.ok.above).trans (I.base.keep b o e n hb B)
  ·obtain⟨sl,g⟩:=I.base.slot b o e n hb B;exact⟨sl,(f.2 b<|Zz<|ZJ (Zq e) I.ok.above).trans g⟩
  ·obtain⟨o',g⟩:=I.base.there b o e B;exact⟨o',(f.2 b<|Zz<|ZJ (Zq e) I.ok.above).trans g⟩
  ·by_cases J:j=i
   ·subst J;rw[P]at g;cases g;rw[List.getElem?_set_self F]at D;cases D;exact⟨u,r,.inl ⟨hk,by simp⟩⟩
   ·rw[List.getElem?_set_ne<|EB J]at D;obtain⟨u',r',q⟩:=hl j y v' g D U;refine⟨u',r',?_⟩
    rcases q with⟨k,e⟩|⟨k,c,e,z⟩
    ·refine .inl ⟨k,?_⟩;have:y≠x:=fun e=>J<|HS hN g<|e▸P;simp[this,e]
    ·exact .inr ⟨k,c,e,z.sameBut f<|mR y c e⟩
  ·obtain⟨T,z⟩:=I.cell y c e;exact⟨T,z.sameBut f<|mR y c e⟩
  ·obtain⟨e,n,ne,nf,d⟩:=I.pin p hp;exact⟨(f.2 p.1 ne).trans e,n,ne,nf,d⟩
 ·have G:X.fn x=true:=by
   rcases hf with z|z
   ·exact z
   ·rw[z]at hk;cases hk
  obtain⟨c,t⟩:=I.ok.has x<|.inl hk;obtain⟨T,z⟩:=I.cell x c t;refine wpAny_storeName_cell I.ok.kind hk t z<|fun h' K f=>?_;obtain⟨oc,R,ab⟩:=id z;refine h { s with heap:=h' } ⟨I.ok,I.os,I.bare,⟨fun b o e n hb B=>?_,fun b o e n hb B=>?_,I.base.free,fun b o e B=>?_,I.base.tups,I.base.vy,I.base.ut⟩,⟨m,hn.sameBut f<|EB<|mR x c t,fun j y v' g D U=>?_⟩,fun y S e=>?_,I.free,I.wM,fun p hp=>?_,l ⟨oc,R,I.wM x c t⟩ f,by simpa using I.len⟩ ⟨c,f,.inr t⟩
  ·exact(f.2 b<|Zz<|ZJ (Zq e)<|I.ok.cab x c G t).trans (I.base.keep b o e n hb B)
  ·obtain⟨sl,g⟩:=I.base.slot b o e n hb B;exact⟨sl,(f.2 b<|Zz<|ZJ (Zq e)<|I.ok.cab x c G t).trans g⟩
  ·obtain⟨o',g⟩:=I.base.there b o e B;exact⟨o',(f.2 b<|Zz<|ZJ (Zq e)<|I.ok.cab x c G t).trans g⟩
  ·by_cases J:j=i
   ·subst J;rw[P]at g;cases g;rw[List.getElem?_set_self F]at D;cases D;exact⟨u,r,.inr ⟨.inl hk,c,t,K⟩⟩
   ·rw[List.getElem?_set_ne<|EB J]at D;obtain⟨u',r',q⟩:=hl j y v' g D U;refine⟨u',r',?_⟩
    rcases q with q|⟨k,S,e,z'⟩
    ·exact .inl q
    ·refine .inr ⟨k,S,e,z'.sameBut f ?_⟩;rintro rfl;exact J<|HS hN g<|I.ok.inj _ _ _ e t▸P
  ·by_cases L:S=c
   ·subst L;exact⟨_,K⟩
   ·obtain⟨w2,z2⟩:=I.cell y S e;exact⟨w2,z2.sameBut f L⟩
  ·obtain⟨e,n,ne,nf,d⟩:=I.pin p hp;refine⟨(f.2 p.1 ?_).trans e,n,ne,nf,d⟩;intro q;rw[q,R]at e;have q':oc=p.2:=Option.some.inj e;exact d T (by rwa[←q'])
theorem vZ {M:Model}{A:ED}{E:Ee->Dh}{i:Nat}{x:Str}{Q:Unit->Dh}(I:Inv X Do σ H s)(c:X.N.Nodup)(e:X.N[i]?=some x)(f:Loc X.env.scope x)(r:yt v u)
  (h:∀s',Inv X Do (σ.set i (some v)) H s'->Q () s') (d:X.fn x=true\/X.env.scope.names.lookup x=some .local:=by first|exact .inl rfl|exact .inr rfl|assumption):Eh M A (storeName X.env x u) Q E s :=
 BP I c e f r (fun s' b _=>h s' b) d
theorem Inv.call' {d:Ei}(I:Inv X Do σ H s)(h:d.os=s.os)(u:Un (frs X.stack) ch H H' s.heap d.heap)(hok:uh X.prog X.w H' d.heap)(g:Mt d.gens)
  (f:∀b∈ch,(b∈X.ex\/X.s₀.heap.objs.size<=b)/\b≠X.env.locals/\(∀x c,X.env.cells.lookup x=some c->c≠b)/\∀p∈X.pn++Do,p.1≠b):Inv X Do σ H' d:=by
 obtain⟨h',g',d',t',i⟩:=d;have e:i=s.os:=h;subst e;exact I.call (g':=g') (t':=t') (d':=d') u hok g f
end
abbrev XK:=Ee->Option Ef->Hp->Prop
abbrev St:=List<|Option V
abbrev VK:=V->Hp->Prop
abbrev TE:=St->Hp->VK->Prop
abbrev TT:=St->Hp->(Bool->Hp->Prop)->Prop
abbrev TA:=St->Hp->(Dj->Hp->Prop)->Prop
structure Ends where
 nx:St->Hp->Prop
 rt:VK
 bk:St->Hp->Prop:=fun _ _=>False
 ct:St->Hp->Prop:=fun _ _=>False
abbrev TS:=Ends->St->Hp->Prop
inductive EP (X:Cx)(Do:De)(σ:St)(Q:VK)(u:Ee)(s':Ei):Prop
 |mk (v:V) (H':Hp) (i:Inv X Do σ H' s') (r:yt v u) (q:Q v H'):EP X Do σ Q u s'
inductive TP (X:Cx)(Do:De)(σ:St)(Q:Bool->Hp->Prop)(b:Bool)(s':Ei):Prop
 |mk (H':Hp) (i:Inv X Do σ H' s') (q:Q b H'):TP X Do σ Q b s'
inductive AP (X:Cx)(Do:De)(σ:St)(Q:Dj->Hp->Prop)(us:Db)(s':Ei):Prop
 |mk (vs:Dj) (H':Hp) (i:Inv X Do σ H' s') (r:yr vs us) (q:Q vs H'):AP X Do σ Q us s'
def SP (X:Cx)(d:De)(D:Ends)(f:Flow)(e:Ei):Prop :=
 match f with
 | .next=>∃b c,Inv X d b c e/\D.nx b c
 | .brk=>∃b c,Inv X d b c e/\D.bk b c
 | .cont=>∃b c,Inv X d b c e/\D.ct b c
 | .ret u=>∃v b c,Inv X d b c e/\yt v u/\D.rt v c
def PE (X:Cx)(e:EI)(t:TE):Prop :=
 ∀(c:De) (s:Ei) (b:St) (H:Hp) (Q:VK),Inv X c b H s->t b H Q->Eh (Em X.prog X.w) X.A (E3 e X.env) (EP X c b Q) X.xe s
def PT (X:Cx)(e:EI)(t:TT):Prop :=
 ∀(c:De) (s:Ei) (b:St) (H:Hp) (Q:Bool->Hp->Prop),Inv X c b H s->t b H Q->Eh (Em X.prog X.w) X.A (isTrue e X.env<|E3 e X.env) (TP X c b Q) X.xe s
def PW (X:Cx)(e:EI)(t:TT):Prop :=
 ∀(b:Sem Ee) (d:De) (s:Ei) (c:St) (H:Hp) (Q:Bool->Hp->Prop),Inv X d c H s->t c H Q->Eh (Em X.prog X.w) X.A (isTrue e X.env b) (TP X d c Q) X.xe s
theorem PW.pt (h:PW X e t):PT X e t:=h _
def PA (X:Cx)(es:List EI)(t:TA):Prop :=
 ∀(pos:Pos) (c:De) (s:Ei) (b:St) (H:Hp) (Q:Dj->Hp->Prop),Inv X c b H s->t b H Q->Eh (Em X.prog X.w) X.A (spliced<|La pos<|Eu es X.env) (AP X c b Q) X.xe s
def PS (X:Cx)(st:EQ)(t:TS):Prop :=
 ∀(b:De) (s:Ei) (c:St) (H:Hp) (D:Ends),Inv X b c H s->t D c H->Eh (Em X.prog X.w) X.A (exec st X.env) (SP X b D) X.xe s
def sX (X:Cx)(st:List EQ)(t:TS):Prop :=
 ∀(b:De) (s:Ei) (c:St) (H:Hp) (D:Ends),Inv X b c H s->t D c H->Eh (Em X.prog X.w) X.A (execs st X.env) (SP X b D) X.xe s
theorem Ci {α:Type}{t:Sem α}{Q b:α->Dh}{M:Model}{A:ED}{E:Ee->Dh}{s:Ei}(h:Eh M A t Q E s)(c:∀a s,Q a s->b a s):Eh M A t b E s:=Yu h c fun _ _ x=>x
section
variable {X:Cx}
inductive lR (i:Nat)(σ:St)(H:Hp)(Q:VK):Prop
 |mk (v:V) (e:σ[i]?=some (some v)) (q:Q v H):lR i σ H Q
def bt (i:Nat):TE:=lR i
def tC (v:V):TE:=fun _ H Q=>Q v H
theorem WE {i:Nat}{x:Str}{pos:Pos}(g:X.N[i]?=some x)(j:bE X.env.scope x)(hd:(x==("__debug__":Str))=false:=by decide)(d:(x==("__classdict__":Str))=false:=by decide):PE X (.Name x pos) (bt i):=by
 intro f s n H Q I h;obtain⟨v,e,h⟩:=h;obtain⟨m,hn,hl⟩:=I.loc;obtain⟨u,r,l⟩:=hl i x v g e j;have b:EP X f n Q u s:=⟨v,H,I,r,h⟩
 rcases l with⟨hk,hm⟩|⟨hk,c,hc,hcell⟩
 ·exact wpAny_Name (wpAny_loadName_local I.ok.kind hk hn hm b) hd
 ·rcases hk with hk|hk
  ·exact wpAny_Name (wpAny_loadName_cell I.ok.kind hk hc hcell b) hd
  ·exact wpAny_Name (wpAny_loadName_free I.ok.kind hk hc hcell b d) hd
theorem zI {i j pos}:PE X (.Constant (.int i) j pos) (tC<|.int i):=fun _ _ _ H _ I h=>wpAny_Constant_int ⟨.int i,H,I.tok _,⟨_,rfl⟩,h⟩
theorem qL {b j pos}:PE X (.Constant (.bool b) j pos) (tC<|.bl b):=fun _ _ _ H _ I h=>Constant_bool ⟨.bl b,H,I,rfl,h⟩
theorem q9 {j pos}:PE X (.Constant .none j pos) (tC .non):=fun _ _ _ H _ I h=>Constant_none ⟨.non,H,I,rfl,h⟩
theorem zq {x j pos}:PE X (.Constant (.str x) j pos) (tC<|.str x):=fun _ _ _ H _ I h=>Calls.Constant_str ⟨.str x,H,I.tok _,⟨_,rfl⟩,h⟩
def Gl (X:Cx)(x:Str):Prop:=X.env.kindOf x=some .globalImplicit
theorem uY {E:Ee->Dh}{u:Ee}{pos:Pos}{Q:Ee->Dh}(I:Inv X Do σ H s)(b:Gl X x)(hm:X.mg x=some u)(h:Q u s)
  (hd:(x==("__debug__":Str))=false:=by decide):Eh (Em X.prog X.w) X.A (E3 (.Name x pos) X.env) Q E s :=
 Calls.Name_function_global I.ok.kind b (Calls.loadGlobal_global (by rw[I.ok.glob];exact I.mod.glob.keeps I.bk) hm h) hd
theorem U0 {E:Ee->Dh}{u:Ee}{pos:Pos}{Q:Ee->Dh}(I:Inv X Do σ H s)(d:Gl X x)(hm:X.mg x=none)(e:LQ x=some u)(h:Q u s)
  (hn:x≠"__name__":=by decide) (hd:(x==("__debug__":Str))=false:=by decide):Eh (Em X.prog X.w) X.A (E3 (.Name x pos) X.env) Q E s:=by
 obtain⟨f,b,c⟩:=I.mod.blt;exact Calls.Name_function_global I.ok.kind d (Calls.loadGlobal_builtin (by rw[I.ok.glob];exact I.mod.glob.keeps I.bk) hm (by rw[I.ok.blt];exact b.keeps I.bk) ((c x hn).trans e) h) hd
theorem jE {u:Ee}{pos:Pos}(b:Gl X x)(hm:X.mg x=some u)(r:yt v u)(hd:(x==("__debug__":Str))=false:=by decide):PE X (.Name x pos) (tC v) :=
 fun _ _ _ H _ I h=>uY I b hm ⟨v,H,I,r,h⟩ hd
theorem yS {u:Ee}{pos:Pos}(b:Gl X x)(hm:X.mg x=none)(c:LQ x=some u)(r:yt v u)(hn:x≠"__name__":=by decide)(hd:(x==("__debug__":Str))=false:=by decide):PE X (.Name x pos) (tC v) :=
 fun _ _ _ H _ I h=>U0 I b hm c ⟨v,H,I,r,h⟩ hn hd
variable {a b:EI}{ta tb:TE}{pos:Pos}
def PC (X:Cx)(op:CmpOp)(a b:EI)(t:TE):Prop :=
 ∀(f:De) (s:Ei) (e:St) (H:Hp) (Q:VK),Inv X f e H s->t e H Q ->
  Eh (Em X.prog X.w) X.A (E3 a X.env) (fun v c=>Eh (Em X.prog X.w) X.A (E3 b X.env) (fun u d=>Eh (Em X.prog X.w) X.A (ES op v u) (EP X f e Q) X.xe d) X.xe c) X.xe s
variable {tA tB':TT}{rest:List EI}
def ck (t u:TT):TT:=fun d H Q=>t d H fun c b=>if c=true then u d b Q else Q false b
def tOr (t u:TT):TT:=fun d H Q=>t d H fun c b=>if c=true then Q true b else u d b Q
def cB (t:TT):TT:=fun d H Q=>t d H fun c b=>Q (!c) b
theorem N0 (ha:PT X a tA):PW X (.BoolOp .And [a] pos) tA:=by
 intro g b s d H Q I h;refine isTrue_and<|Ci (ha b s d H Q I h) fun c f e=>?_;cases c with
 |true=>exact isTrue_and_nil e
 |false=>exact e
theorem jW (ha:PT X a tA):PW X (.BoolOp .Or [a] pos) tA:=by
 intro g b s d H Q I h;refine isTrue_or<|Ci (ha b s d H Q I h) fun c f e=>?_;cases c with
 |false=>exact isTrue_or_nil e
 |true=>exact e
theorem RK (ha:PT X a tA)(hb:PW X (.BoolOp .And (b::rest) pos) tB'):PW X (.BoolOp .And (a::b::rest) pos) (ck tA tB'):=by
 intro l d s i H Q I h;refine isTrue_and<|Ci (ha d s i H _ I h) fun c j ⟨e,f,g⟩=>?_;cases c with
 |true=>exact hb l d j i e Q f g
 |false=>exact⟨e,f,g⟩
theorem uL (ha:PT X a tA)(hb:PW X (.BoolOp .Or (b::rest) pos) tB'):PW X (.BoolOp .Or (a::b::rest) pos) (tOr tA tB'):=by
 intro l d s i H Q I h;refine isTrue_or<|Ci (ha d s i H _ I h) fun c j ⟨e,f,g⟩=>?_;cases c with
 |true=>exact⟨e,f,g⟩
 |false=>exact hb l d j i e Q f g
theorem yW (ha:PT X a tA):PT X (.UnaryOp .Not a pos) (cB tA):=by
 intro b s f H Q I h;exact isTrue_not<|Ci (ha b s f H (fun c e=>Q (!c) e) I h) fun c g z=>z.casesOn fun d i q=>⟨d,i,q⟩
def bc (ta tb:TE):TE:=fun d H Q=>ta d H fun x b=>∃c,x=.bl c/\if c=true then tb d b Q else Q (.bl false) b
def cC (ta tb:TE):TE:=fun d H Q=>ta d H fun x b=>∃c,x=.bl c/\if c=true then Q (.bl true) b else tb d b Q
def bj (ta:TE):TE:=fun d H Q=>ta d H fun x b=>∃c,x=.bl c/\Q (.bl<|!c) b
theorem xK (h:PE X a t):PE X (.BoolOp op [a] pos) t:=fun b s d H Q I c=>BoolOp_one<|h b s d H Q I c
theorem xB (ha:PE X a ta)(hb:PE X (.BoolOp .And (b::rest) pos) tb):PE X (.BoolOp .And (a::b::rest) pos) (bc ta tb):=by
 intro e s i H Q I h;refine BoolOp_and<|Ci (ha e s i H _ I h) fun v l ⟨x,f,g,j,d⟩=>?_;obtain⟨c,rfl,d⟩:=d;cases j;refine YX ?_;cases c with
 |true=>exact hb e l i f Q g d
 |false=>exact⟨.bl false,f,g,rfl,d⟩
theorem NU (ha:PE X a ta)(hb:PE X (.BoolOp .Or (b::rest) pos) tb):PE X (.BoolOp .Or (a::b::rest) pos) (cC ta tb):=by
 intro e s i H Q I h;refine BoolOp_or<|Ci (ha e s i H _ I h) fun v l ⟨x,f,g,j,d⟩=>?_;obtain⟨c,rfl,d⟩:=d;cases j;refine YX ?_;cases c with
 |false=>exact hb e l i f Q g d
 |true=>exact⟨.bl true,f,g,rfl,d⟩
theorem WD (ha:PE X a ta):PE X (.UnaryOp .Not a pos) (bj ta):=by
 intro d s i H Q I h;refine UnaryOp_<|Ci (ha d s i H _ I h) fun v j ⟨x,e,f,g,b⟩=>?_;obtain⟨c,rfl,b⟩:=b;cases g;exact not_of<|YX ⟨.bl<|!c,e,f,rfl,b⟩
def tIf (t:TT)(ta tb:TE):TE:=fun b H Q=>t b H fun c d=>if c=true then ta b d Q else tb b d Q
theorem GE (n:PT X c tA)(ha:PE X a ta)(hb:PE X b tb):PE X (.IfExp c a b pos) (tIf tA ta tb):=by
 intro e s f H Q I h;refine wpAny_IfExp<|Ci (n e s f H _ I h) fun d l ⟨g,i,j⟩=>?_;cases d with
 |true=>exact ha e l f g Q i j
 |false=>exact hb e l f g Q i j
end
def yu (K:Cd)(H:Hp)(a:Ef)(xs:Dj):Prop :=
 Rd H a (.lst xs) \/
  ∃(o:Obj) (b:Array Ee) (n:Nat),K.lookup a=some o/\o.cls=.type "list"/\o.dict=none/\o.data=.seq b n/\b.size<=sizeLine/\yr xs b.toList
def xu (K:Cd)(H:Hp)(a:Ef)(xs:Dj):Prop :=
 Rd H a (.tup xs) \/
  ∃(o:Obj) (b:Array Ee) (n:Nat),K.lookup a=some o/\o.cls=.type "tuple"/\o.dict=none/\o.data=.seq b n/\b.size<=sizeLine/\yr xs b.toList
def bM:Ee->Option V
 | .none=>some .non
 | .bool b=>some<|.bl b
 | .int i _=>some<|.int i
 | .str x _=>some<|.str x
 | .bytes b _=>some<|.byt b
 | .float b _=>some<|.flt b
 | .ref a=>some<|.ref a
 | .type n=>some<|.ty n
 |_=>none
theorem yt.abs (r:yt x u):bM u=some x:=by
 cases x with
 |non=>cases r;rfl
 |bl _=>cases r;rfl
 |int _=>obtain⟨t,rfl⟩:=r;rfl
 |str _=>obtain⟨t,rfl⟩:=r;rfl
 |byt _=>obtain⟨t,rfl⟩:=r;rfl
 |flt _=>obtain⟨t,rfl⟩:=r;rfl
 |ref _=>cases r;rfl
 |ty _=>cases r;rfl
theorem yt.inj (r:yt x u)(q:yt y u):x=y:=Option.some.inj<|r.abs.symm.trans q.abs
theorem yr.inj:∀{xs ys:Dj} {us:Db},yr xs us->yr ys us->xs=ys
 |_,_,_,.nil,.nil=>rfl
 |_,_,_,.cons r t,.cons r' t'=>by rw[r.inj r',yr.inj t t']
section
variable {X:Cx}{Do:De}{σ:St}{H:Hp}{s:Ei}{a:Ef}{xs ys:Dj}
theorem yu.of {K:Cd}(h:H a=some (.lst xs)):yu K H a xs:=.inl<|.inl h
theorem xu.of {K:Cd}(h:H a=some (.tup xs)):xu K H a xs:=.inl<|.inl h
theorem Inv.list (I:Inv X Do σ H s)(h:yu X.K H a xs):∃its:Db,yr xs its/\PlainL s.heap a its.toArray/\xs.length<=sizeLine:=by
 rcases h with h|⟨o,its,n,hk,b,hd,c,d,r⟩
 ·obtain⟨z,its,n,r,e⟩:=h.ok I.hok;exact⟨its,r,⟨_,n,e,rfl,rfl,rfl⟩,z⟩
 ·refine⟨its.toList,r,⟨o,n,I.uq a o hk,b,hd,by simpa using c⟩,?_⟩;have e:=r.length;simp only[Zx]at e;lia
theorem Inv.nZ (I:Inv X Do σ H s)(h:xu X.K H a xs):∃its:Db,yr xs its/\TupAt s.heap a its.toArray/\xs.length<=sizeLine:=by
 rcases h with h|⟨o,its,n,hk,c,b,d,f,r⟩
 ·obtain⟨z,its,r,p⟩:=h.ok I.hok;exact⟨its,r,p,z⟩
 ·refine⟨its.toList,r,⟨o,I.uq a o hk,c,n,by simpa using d,b⟩,?_⟩;have e:=r.length;simp only[Zx]at e;lia
theorem Inv.tuple (I:Inv X Do σ H s)(h:xu X.K H a xs):∃its:Db,yr xs its/\IsTup s.heap a its.toArray/\xs.length<=sizeLine:=by
 obtain⟨its,r,p,z⟩:=I.nZ h;exact⟨its,r,p.is,z⟩
theorem Inv.pQ (I:Inv X Do σ H s)(h:yu X.K H a xs)(h':yu X.K H a ys):xs=ys:=by
 obtain⟨b,r,⟨o,n,e,_,_,d⟩,_⟩:=I.list h;obtain⟨g,j,⟨p,l,f,_,_,c⟩,_⟩:=I.list h';rw[e]at f;cases f;rw[d]at c;injection c with i _;have:b=g:=by simpa using congrArg Array.toList i
 subst this;exact r.inj j
theorem Inv.oW (I:Inv X Do σ H s)(h:xu X.K H a xs)(h':xu X.K H a ys):xs=ys:=by
 obtain⟨b,r,⟨o,e,_,n,d⟩,_⟩:=I.tuple h;obtain⟨g,j,⟨p,f,_,l,c⟩,_⟩:=I.tuple h';rw[e]at f;cases f;rw[d]at c;injection c with i _;have:b=g:=by simpa using congrArg Array.toList i
 subst this;exact r.inj j
end
abbrev Cx.wish (X:Cx)(E:Ee->Dh):Cx:={ X with xe:=E }
abbrev Cx.lD (X:Cx):Cx:=X.wish fun _ _=>False
theorem Cx.Ok.wish {X:Cx}(ok:X.Ok)(E:Ee->Dh):(X.wish E).Ok :=
 ⟨ok.mod,ok.kind,ok.glob,ok.blt,ok.above,ok.inj,ok.has,ok.cab,ok.hd,ok.frames,ok.stk,ok.mH,ok.bs,ok.oK,ok.qi,ok.pU,ok.uc,ok.nF⟩
theorem Cx.Ok.ur {X:Cx}{E:Ee->Dh}(ok:(X.wish E).Ok):X.Ok :=
 ⟨ok.mod,ok.kind,ok.glob,ok.blt,ok.above,ok.inj,ok.has,ok.cab,ok.hd,ok.frames,ok.stk,ok.mH,ok.bs,ok.oK,ok.qi,ok.pU,ok.uc,ok.nF⟩
section
variable {X:Cx}{Do:De}{σ:St}{H:Hp}{s:Ei}{E:Ee->Dh}
theorem Inv.wish (I:Inv X Do σ H s)(E:Ee->Dh):Inv (X.wish E) Do σ H s:=⟨I.ok.wish E,I.os,I.bare,I.base,I.loc,I.cell,I.free,I.wM,I.pin,I.hok,I.len⟩
theorem Inv.ur (I:Inv (X.wish E) Do σ H s):Inv X Do σ H s:=⟨I.ok.ur,I.os,I.bare,I.base,I.loc,I.cell,I.free,I.wM,I.pin,I.hok,I.len⟩
theorem SP.ur (h:SP (X.wish E) Do D f s'):SP X Do D f s':=by
 cases f with
 |next=>obtain⟨b,c,I,q⟩:=h;exact⟨b,c,I.ur,q⟩
 |brk=>obtain⟨b,c,I,q⟩:=h;exact⟨b,c,I.ur,q⟩
 |cont=>obtain⟨b,c,I,q⟩:=h;exact⟨b,c,I.ur,q⟩
 |ret u=>obtain⟨v,b,c,I,r,q⟩:=h;exact⟨v,b,c,I.ur,r,q⟩
theorem sX.lD {st:List EQ}(h:sX X.lD st t):sX X st t:=fun Do s σ H D I b =>
 Yu (h Do s σ H D (I.wish _) b) (fun _ _ q=>q.ur) fun _ _ z=>EG z
end
section
variable {X:Cx}{st:EQ}{rest:List EQ}{t u:TS}{e:EI}{te:TE}{pos:Pos}
def TX:TS:=fun D b H=>D.nx b H
def Tn (t u:TS):TS:=fun D b H=>t { D with nx:=u D } b H
theorem zT:sX X [] TX:=fun _ _ b H _ I h=>VX ⟨b,H,I,h⟩
theorem zD (g:PS X st t)(i:sX X rest u):sX X (st::rest) (Tn t u):=by
 intro c s l H D I h;refine Ul<|Ci (g c s l H { D with nx:=u D } I h) fun f j q=>?_;cases f with
 |next =>
  obtain⟨b,d,e,q⟩:=q;exact i c j b d D e q
 |ret v=>exact q
 |brk=>exact q
 |cont=>exact q
theorem zF (c:PS X st t):sX X [st] t:=by
 intro b s d H D I h;refine Ul<|Ci (c b s d H D I h) fun f e q=>?_;cases f with
 |next=>exact VX q
 |ret v=>exact q
 |brk=>exact q
 |cont=>exact q
theorem Inv.quiet (I:Inv X Do σ H s):interactive X.env=false:=by simp[interactive,I.ok.kind]
def bh (te:TE):TS:=fun D b H=>te b H fun _ c=>D.nx b c
theorem yD (g:PE X e te)(hs:My e none pos.line X.env=Lo false:=by rfl):PS X (.Expr e pos) (bh te):=by
 intro c s b H D I h;exact wpAny_Expr_any (Ci (g c s b H _ I h) fun v l ⟨x,d,f,j,i⟩=>⟨b,d,f,i⟩) I.quiet hs
def cD (te:TE):TS:=fun D b H=>te b H D.rt
theorem zM (g:PE X e te):PS X (.Return (some e) pos) (cD te):=by
 intro c s b H D I h;exact wpAny_Return_some<|Ci (g c s b H _ I h) fun v l ⟨x,d,f,j,i⟩=>⟨x,b,d,f,j,i⟩
def cz (c:TT)(t u:TS):TS:=fun D d H=>c d H fun b e=>if b=true then t D d e else u D d e
theorem yI (n:PT X c tc)(ha:sX X a t)(hb:sX X b u):PS X (.If c a b pos) (cz tc t u):=by
 intro e s f H D I h;refine wpAny_If<|Ci (n e s f H _ I h) fun d l ⟨g,i,j⟩=>?_;cases d with
 |true=>exact ha e l f g D i j
 |false=>exact hb e l f g D i j
end
abbrev TG:=V->St->Hp->(St->Hp->Prop)->Prop
abbrev Se:=Dj->St->Hp->(St->Hp->Prop)->Prop
def PG (X:Cx)(b:EI)(t:TG):Prop :=
 ∀(d:De) (s:Ei) (f:St) (H:Hp) (v:V) (u:Ee) (Q:St->Hp->Prop),Inv X d f H s->yt v u->t v f H Q ->
  Eh (Em X.prog X.w) X.A (assign b X.env u) (fun _ g=>∃c e,Inv X d c e g/\Q c e) X.xe s
def oX (X:Cx)(i:List EI)(t:Se):Prop :=
 ∀(c:De) (s:Ei) (g:St) (H:Hp) (f:Dj) (e:Db) (Q:St->Hp->Prop),Inv X c g H s->yr f e->t f g H Q ->
  Eh (Em X.prog X.w) X.A (assignInOrder ((Lm i X.env).map (·.2)) e) (fun _ h=>∃b d,Inv X c b d h/\Q b d) X.xe s
abbrev bD:=V->V->Hp->VK->Prop
def cI (X:Cx)(op:Operator)(t:bD):Prop :=
 ∀(b:De) (s:Ei) (c:St) (H:Hp) (x y:V) (v u:Ee) (Q:VK),Inv X b c H s->yt x v->yt y u->t x y H Q ->
  Eh (Em X.prog X.w) X.A (inplaceOp op v u) (EP X b c Q) X.xe s
section
variable {X:Cx}{pos:Pos}
def GO (i:Nat):TG:=fun v b H Q=>Q (b.set i (some v)) H
theorem zQ {i:Nat}{x:Str}(c:X.N.Nodup)(e:X.N[i]?=some x)(f:Loc X.env.scope x)(d:X.fn x=true\/X.env.scope.names.lookup x=some .local:=by first|exact .inl rfl|exact .inr rfl|assumption):PG X (.Name x pos) (GO i):=by
 intro g s l H v u Q I r h;exact wpAny_assign_Name<|vZ I c e f r (fun j b=>⟨_,H,b,h⟩) d
def bR:Se:=fun b c H Q=>b=[]/\Q c H
inductive mV (t:TG)(u:Se)(vs:Dj)(σ:St)(H:Hp)(Q:St->Hp->Prop):Prop
 |mk (v:V) (r:Dj) (e:vs=v::r) (q:t v σ H fun σ' H'=>u r σ' H' Q):mV t u vs σ H Q
theorem kD:oX X [] bR:=by
 intro c s b H f d Q I r h;obtain⟨e,h⟩:=h;subst e;cases r;exact assignInOrder_nil ⟨b,H,I,h⟩
theorem yM (i:PG X e t)(j:oX X es u)
  (hs:(Lm (e::es) X.env).map (·.2)=assign e X.env::(Lm es X.env).map (·.2):=by rfl):oX X (e::es) (mV t u):=by
 intro c s o H w p Q I r h;obtain⟨v,q,g,h⟩:=h;subst g;cases r with
 |cons r rr =>
  rw[hs];refine assignInOrder_cons<|Ci (i c s o H _ _ _ I r h) fun _ n ⟨b,d,f,l⟩=>?_;exact j c n b d _ _ Q f rr l
inductive mJ (K:Cd)(n:Nat)(t:Se)(v:V)(σ:St)(H:Hp)(Q:St->Hp->Prop):Prop
 |mk (a:Ef) (xs:Dj) (e:v=.ref a) (h:xu K H a xs) (l:xs.length=n) (q:t xs σ H Q):mJ K n t v σ H Q
theorem XA {k:Nat}{n:Nat}(q:X.calm=true)(h:oX X es t)
  (hn:(Lm es X.env).length=n:=by rfl) (c:(Lm es X.env).findIdx? (·.1)=none:=by rfl):PG X (.Tuple es k pos) (mJ X.K n t):=by
 intro f s i H v u Q I r d;obtain⟨a,A,l,w,hl,d⟩:=d;subst l;cases r;obtain⟨z,g,x,B⟩:=I.tuple w;refine assign_Tuple_tuple (I.ok.hd q) x (by simp[hn,←hl,g.length]) c fun p y=>?_;have j:Inv X f i H { s with heap:=p }:=I.kept (t':=s.toks) fun b o e=>y b o (Zz<|Zq e) e;exact h f _ i H A _ Q j (by simpa using g) d
def Tl (d:TE)(g:TG):TS:=fun D b H=>d b H fun x c=>g x b c D.nx
theorem WF (j:PE X e te)(l:PG X tg g)(hs:swapsWithSole [tg] e pos.line X.env=Lo false:=by rfl)(n:swappedStores [tg] e X.env=Lo none:=by rfl)
  (i:(Lm [tg] X.env).map (·.2)=[assign tg X.env]:=by rfl):PS X (.Assign [tg] e pos) (Tl te g):=by
 intro b s c H D I h;refine wpAny_Assign_stores (Ci (j b s c H _ I h) fun v r ⟨x,d,f,p,o⟩=>?_) hs n;rw[i];exact Ci (l b r c d x v _ f p o) fun _ t q=>q
theorem zU {i:Nat}{x:Str}{b:Pos}(j:X.N.Nodup)(o:X.N[i]?=some x)(p:Loc X.env.scope x)(l:PE X e te)(hs:My e (some<|.Name x b) pos.line X.env=Lo false:=by rfl)(n:X.fn x=true\/X.env.scope.names.lookup x=some .local:=by first|exact .inl rfl|exact .inr rfl|assumption) :
  PS X (.Assign [.Name x b] e pos) (Tl te<|GO i):=by
 intro c s t H D I h;refine wpAny_Assign_Name (Ci (l c s t H _ I h) fun v u ⟨y,d,f,r,q⟩=>?_) hs;exact vZ f j o p r (fun w g=>⟨_,d,g,q⟩) n
theorem Co {i:Nat}{x:Str}{b:Pos}(c:X.N.Nodup)(d:PE X e te)(g:X.N[i]?=some x:=by rfl)(h:Loc X.env.scope x:=by first|exact EE rfl|exact Or.inr rfl)(hs:My e (some<|.Name x b) pos.line X.env=Lo false:=by rfl)(f:X.fn x=true\/X.env.scope.names.lookup x=some .local:=by first|exact .inl rfl|exact .inr rfl|assumption):PS X (.Assign [.Name x b] e pos) (Tl te<|GO i):=zU c g h d hs f
def cm (i:Nat)(e:TE)(f:bD):TS:=fun D b H=>∃x,b[i]?=some (some x)/\e b H fun y c=>f x y c fun z d=>D.nx (b.set i (some z)) d
theorem WG {i:Nat}{x:Str}{p:Pos}(G:X.N.Nodup)(n:X.N[i]?=some x)(g:Loc X.env.scope x)(J:PE X e te)(L:cI X op ti)(K:X.fn x=true\/X.env.scope.names.lookup x=some .local:=by first|exact .inl rfl|exact .inr rfl|assumption) :
  PS X (.AugAssign (.Name x p) op e pos) (cm i te ti):=by
 intro f s o H D I h;obtain⟨v,F,h⟩:=h;obtain⟨m,hn,hl⟩:=I.loc;have j:bE X.env.scope x:=by rcases g with k|k;exact .inl k;exact .inr<|.inl k
 obtain⟨u,r,l⟩:=hl i x v n F j;refine wpAny_AugAssign_Name ?_;have go:Eh (Em X.prog X.w) X.A (E3 e X.env) (fun w b=>Eh (Em X.prog X.w) X.A (inplaceOp op u w) (fun r d=>Eh (Em X.prog X.w) X.A (storeName X.env x r) (fun _=>SP X f D .next) X.xe d) X.xe b) X.xe s:=by
  refine Ci (J f s o H _ I h) fun w R ⟨y,q,B,P,M⟩=>?_;refine Ci (L f R o q v y u w _ B r P M) fun z S ⟨U,t,C,Q,O⟩=>?_;exact vZ C G n g Q (fun T E=>⟨_,t,E,O⟩) K
 rcases l with⟨hk,hm⟩|⟨hk,c,hc,hcell⟩
 ·exact wpAny_loadName_local I.ok.kind hk hn hm go
 ·rcases hk with hk|hk
  ·exact wpAny_loadName_cell I.ok.kind hk hc hcell go
  ·rcases g with k|k
   ·have:X.env.scope.names.lookup x=some .free:=hk;rw[k]at this;cases this
   ·have:X.env.scope.names.lookup x=some .free:=hk;rw[k]at this;cases this
def ipI (f:Int->Int->Int):bD:=fun x y H Q=>∃i j,x=.int i/\y=.int j/\Q (.int<|f i j) H
theorem Wp:cI X .Add (ipI fun i j=>i+j):=by
 intro f s l H x y v u Q I d e h;obtain⟨i,j,b,c,q⟩:=h;subst b;subst c;obtain⟨t,rfl⟩:=d;obtain⟨g,rfl⟩:=e;exact iadd_int ⟨.int _,H,I.tok _,⟨_,rfl⟩,q⟩
end
structure It where
 go:Nat->Hp->Prop
 oR:Nat->Hp->V->Hp->Prop
 stop:Nat->Hp->Prop
def Ib (X:Cx)(d:De)(H:Hp)(b:Ef):Prop :=
 H b=none/\b≠X.env.locals/\b∉X.fs/\(b∈X.ex\/X.s₀.heap.objs.size<=b)/\(∀x c,X.env.cells.lookup x=some c->c≠b)/\∀p∈X.pn++d,p.1≠b
theorem Inv.sW {H':Hp}{b:Ef}(I:Inv X Do σ H s)(hb:s.heap.objs.size<=b)(hn:H' b=none):Ib X Do H' b:=by
 refine⟨hn,YW<|ZJ I.lt hb,I.jy hb,.inr<|Z0 I.sz hb,fun x c e z=>?_,fun p d z=>?_⟩
 ·obtain⟨v,q⟩:=I.cell x c e;exact absurd (ZJ q.lt<|by rwa[z])<|YC _
 ·exact absurd (ZJ (Zq (I.pin p d).1)<|by rwa[z]) (YC _)
structure Turn (P:Eg)(w:Ek)(K:Cd)(tg:EI)(J:It)(fp:Dd)(it:Ef)(tn:Nat->Ev->Prop):Prop where
 mem:it∈fp
 obj:∀i h,tn i h->∀b∈fp,∃o,h.get? b=some o/\∀v,o.data≠.cell v
 keep:∀i h h',tn i h->(∀b∈fp,∀o,h.get? b=some o->h'.get? b=some o)->tn i h'
 item:∀(X:Cx),X.prog=P->X.w=w->X.K=K->X.calm=true->∀(i:Nat) (Do:De) (s:Ei) (σ:St) (H:Hp) (E:Ee->Dh),Inv X Do σ H s->(∀b∈fp,Ib X Do H b)->tn i s.heap->J.go i H ->
  Eh (Em P w) X.A (L8<|.ref it) (fun r s1=>∃u,r=some u /\ Eh (Em P w) X.A (L5 tg (.ref it) u) (fun _ s2=>∃x H',Inv X Do σ H' s2/\yt x u/\J.oR i H x H'/\tn (i+1) s2.heap/\∀b∈fp,H' b=none) E s1) E s
 done:∀(X:Cx),X.prog=P->X.w=w->X.K=K->X.calm=true->∀(i:Nat) (Do:De) (s:Ei) (σ:St) (H:Hp) (E:Ee->Dh),Inv X Do σ H s->(∀b∈fp,Ib X Do H b)->tn i s.heap->J.stop i H ->
  Eh (Em P w) X.A (L8<|.ref it) (fun r s1=>r=none/\Inv X Do σ H s1) E s
 self:∀(A:ED) (i:Nat) (s:Ei) (Q:Ee->Dh) (E:Ee->Dh),tn i s.heap->Q (.ref it) s->Eh (Em P w) A (pyIter<|.ref it) Q E s
abbrev TI:=St->Hp->(It->Hp->Prop)->Prop
def PIE (X:Cx)(e:De)(l:St)(j:EI)(R:It->Hp->Prop)(d:Ee)(h:Ei):Prop :=
 ∃(g:Ef) (f:Dd) (i:Nat->Ev->Prop) (J:It) (c:Hp),d=.ref g/\Inv X e l c h/\Turn X.prog X.w X.K j J f g i/\i 0 h.heap/\(∀b∈f,Ib X e c b)/\R J c
def PI (X:Cx)(f b:EI)(g:TI):Prop :=
 ∀(d:De) (s:Ei) (c:St) (H:Hp) (R:It->Hp->Prop),Inv X d c H s->g c H R ->
  Eh (Em X.prog X.w) X.A (E3 b X.env) (fun v e=>Eh (Em X.prog X.w) X.A (pyIter v) (PIE X d c f R) X.xe e) X.xe s
theorem NJ {M:Model}{A:ED}{E:Ee->Dh}{s:Ei}{c:EI}{it:Ef}{u:Ee}{o:Obj}{n:String}{vs:Array Ee}{Q:Unit->Dh}(e:s.heap.get? it=some o)(d:o.cls=.type n)(hd:o.data=.fields vs)
  (hn:["enumerate","zip","dict_itemiterator","dict_reverseitemiterator","odict_iterator","itertools.zip_longest","itertools.pairwise"].contains n=false) (b:Q () s):Eh M A (L5 c (.ref it) u) Q E s:=by
 unfold L5;cases c<;>first
  |exact Za b
  | (cases u<;>first
    |exact Za b
    | (refine Q7 (wpAny_load e ?_)
       rw[d,hd];show Eh M A (if(["enumerate","zip","dict_itemiterator","dict_reverseitemiterator","odict_iterator","itertools.zip_longest","itertools.pairwise"].contains n&&vs[0]?==some (EZ _))=true then _ else _) Q E s;rw[Zt (by intro h;rw[hn,Jp]at h;cases h)];exact Za b))
def TZ (K:Cd)(a:Ef):It :=
 ⟨fun i H=>∃b x,yu K H a b/\b[i]?=some x,fun i H x c=>c=H/\∀b,yu K H a b->b[i]?=some x,fun i H=>∃b,yu K H a b/\b.length<=i⟩
def T1 (K:Cd)(a:Ef):It :=
 ⟨fun i H=>∃b x,xu K H a b/\b[i]?=some x,fun i H x c=>c=H/\∀b,xu K H a b->b[i]?=some x,fun i H=>∃b,xu K H a b/\b.length<=i⟩
def R8 (lo:Int)(n:Nat):It:=⟨fun i _=>i<n,fun i H x b=>b=H/\x=.int (lo+i),fun i _=>n<=i⟩
theorem Pa {K:Cd}(a it:Ef):Turn P w K tg (TZ K a) [it] it (fun i h=>h.IsListIter it a i) where
 mem:=by simp
 obj:=fun i h st b hb=>by
  have e:b=it:=by simpa using hb
  subst e;obtain⟨o,e,c,d⟩:=st;exact⟨o,e,fun v z=>by rw[d]at z;cases z⟩
 keep:=fun i h g st k=>st.at fun o e=>k it (by simp) o e
 item:=by
  intro X A C y L i J s M H E I j st B;subst A C y;obtain⟨Z,x,l,D⟩:=B;obtain⟨F,G,p,T⟩:=I.list l;obtain⟨u,R,U⟩:=G.get D;obtain⟨n,q,Q,r,t,f5⟩:=j it (by simp);refine wpAny_pyNext_list_item st p.isList (x:=u) (by simpa using R) fun g f Y=>?_;have N:Inv X J M H { s with heap:=g }:=I.turned (t':=s.toks) (fun b o hb e=>(Y.2 b hb).trans e) n q r t f5;obtain⟨o,e,c,d⟩:=id f;exact⟨u,rfl,NJ (s:={ s with heap:=g }) e c d (by decide) ⟨x,H,N,U,⟨rfl,fun ys S=>by rw[I.pQ S l];exact D⟩,f,fun b hb=>(j b hb).1⟩⟩
 done:=by
  intro X A C y L i J s M H E I j st B;subst A C y;obtain⟨Z,l,D⟩:=B;obtain⟨F,G,p,T⟩:=I.list l;obtain⟨n,q,Q,r,t,f5⟩:=j it (by simp);have hl:=G.length;exact wpAny_pyNext_list_end (I.ok.hd L) st p.isList (by simp;lia) fun g O=>⟨rfl,I.turned (t':=s.toks) (fun b o hb e=>O b o hb e) n q r t f5⟩
 self:=fun _ _ _ _ _ st h=>wpAny_pyIter_listiter st h
theorem Nk {K:Cd}(a it:Ef):Turn P w K tg (T1 K a) [it] it (fun i h=>h.IsTupleIter it a i) where
 mem:=by simp
 obj:=fun i h st b hb=>by
  have e:b=it:=by simpa using hb
  subst e;obtain⟨o,e,c,d⟩:=st;exact⟨o,e,fun v z=>by rw[d]at z;cases z⟩
 keep:=fun i h j st k=>st.at fun o e=>k it (by simp) o e
 item:=by
  intro X B D A L i J s M H E I l st C;subst B D A;obtain⟨Z,x,n,F⟩:=C;obtain⟨f,G,p,T⟩:=I.tuple n;obtain⟨u,R,U⟩:=G.get F;obtain⟨q,r,Q,t,y,f5⟩:=l it (by simp);refine wpAny_pyNext_tuple_item st (show s.heap.IsTuple a f.toArray from p) (x:=u) (by simpa using R) fun j g Y=>?_;have N:Inv X J M H { s with heap:=j }:=I.turned (t':=s.toks) (fun b o hb e=>(Y.2 b hb).trans e) q r t y f5;obtain⟨o,e,c,d⟩:=id g;exact⟨u,rfl,NJ (s:={ s with heap:=j }) e c d (by decide) ⟨x,H,N,U,⟨rfl,fun ys S=>by rw[I.oW S n];exact F⟩,g,fun b hb=>(l b hb).1⟩⟩
 done:=by
  intro X B D A L i J s M H E I l st C;subst B D A;obtain⟨Z,n,F⟩:=C;obtain⟨f,G,p,T⟩:=I.tuple n;obtain⟨q,r,Q,t,y,f5⟩:=l it (by simp);have hl:=G.length;exact wpAny_pyNext_tuple_end (I.ok.hd L) st (show s.heap.IsTuple a f.toArray from p) (by simp;lia) fun j O=>⟨rfl,I.turned (t':=s.toks) (fun b o hb e=>O b o hb e) q r t y f5⟩
 self:=fun _ _ _ _ _ st h=>wpAny_pyIter_tupleiter st h
theorem Nj {K:Cd}(it:Ef)(lo:Int)(n:Nat):Turn P w K tg (R8 lo n) [it] it (fun i h=>IsRangeIter h it (lo+(i:Nat)*1) ((n:Int)-(i:Nat)) 1) where
 mem:=by simp
 obj:=fun i h st b hb=>by
  have e:b=it:=by simpa using hb
  subst e;exact⟨_,st,fun v z=>by
   have M:Data.fields _=Data.cell v:=z;cases M⟩
 keep:=fun i h d st k=>k it (by simp) _ st
 item:=by
  intro X r y q u i A s C H E I f st x;subst r y q;obtain⟨g,j,G,l,p,f5⟩:=f it (by simp);have W:=Walks.range (prog:=X.prog) (w:=X.w) (I.ok.hd u) it lo 1 n;refine W.item i s _ _ x st fun v d B J c L=>?_;obtain⟨t,rfl⟩:=J;have D:Inv X A C H { s with heap:=d,toks:=B }:=I.turned (fun b o hb e=>L b o (by simpa using hb) e) g j l p f5;refine⟨_,rfl,NJ (s:={ s with heap:=d,toks:=B }) (n:="range_iterator") c rfl rfl (by decide) ⟨.int<|lo+i,H,D,⟨t,?_⟩,⟨rfl,rfl⟩,c,fun b hb=>(f b hb).1⟩⟩;rw[Int.mul_one]
 done:=by
  intro X r y q u i A s C H E I f st x;subst r y q;obtain⟨g,j,G,l,p,f5⟩:=f it (by simp);exact wpAny_pyNext_range_end (I.ok.hd u) st (by have:n<=i:=x;lia) fun d F=>⟨rfl,I.turned (t':=s.toks) (fun b o hb e=>F b o hb e) g j l p f5⟩
 self:=fun _ _ _ _ _ st h=>wpAny_pyIter_rangeiter st h
section
variable {X:Cx}{tg:EI}
def aB (K:Cd)(c:TE):TI:=fun e H R=>c e H fun x b=>∃a,x=.ref a/\(∃d,yu K b a d)/\R (TZ K a) b
def bT (K:Cd)(c:TE):TI:=fun e H R=>c e H fun x b=>∃a,x=.ref a/\(∃d,xu K b a d)/\R (T1 K a) b
theorem xC (hl:PE X l tl):PI X tg l (aB X.K tl):=by
 intro f s t H R I h;refine Ci (hl f s t H _ I h) fun v d ⟨x,g,c,r,n⟩=>?_;obtain⟨a,e,⟨y,i⟩,q⟩:=n;subst e;cases r;obtain⟨j,w,p,u⟩:=c.list i;refine JX p.isList ?_;refine⟨d.heap.objs.size,[d.heap.objs.size],_,_,g,rfl,c.kept (t':=d.toks) fun b o e=>Zd _ e,Pa a _,⟨_,Zp _ rfl,rfl,rfl⟩,fun b hb=>?_,q⟩;have e:b=d.heap.objs.size:=by simpa using hb
 subst e;exact c.sW (Zf _)<|c.hok.fresh<|Zf _
theorem kB (hl:PE X l tl):PI X tg l (bT X.K tl):=by
 intro g s t H R I h;refine Ci (hl g s t H _ I h) fun v c ⟨x,i,d,r,n⟩=>?_;obtain⟨a,e,⟨y,j⟩,q⟩:=n;subst e;cases r;obtain⟨f,w,p,u⟩:=d.tuple j;refine V7 (show c.heap.IsTuple a f.toArray from p) ?_;refine⟨c.heap.objs.size,[c.heap.objs.size],_,_,i,rfl,d.kept (t':=c.toks) fun b o e=>Zd _ e,Nk a _,⟨_,Zp _ rfl,rfl,rfl⟩,fun b hb=>?_,q⟩;have e:b=c.heap.objs.size:=by simpa using hb
 subst e;exact d.sW (Zf _)<|d.hok.fresh<|Zf _
theorem Kl {R:It->Hp->Prop}{E:Ee->Dh}{lo c:Int}{t u v:Tok}{f:Nat}(I:Inv X Do σ H s)(i:-(2 ^ 62)<=lo)(j:lo<2 ^ 62)(l:-(2 ^ 62)<=c)(n:c<2 ^ 62)
  (q:R (R8 lo (c-lo).toNat) H):Eh (Em X.prog X.w) X.A (pyIter<|.ref s.heap.objs.size) (PIE X Do σ tg R) E { s with heap:=s.heap.push { cls:=.type "range",data:=.fields #[.int lo t,.int c u,.int 1 v] },toks:=f }:=by
 refine wpAny_pyIter_range (IsRange.new ..) (small_one i j l n) ?_;have d:Inv X Do σ H { s with heap:=s.heap.push { cls:=.type "range",data:=.fields #[.int lo t,.int c u,.int 1 v] },toks:=f }:=I.kept fun b o e=>Zd _ e;refine⟨(s.heap.push { cls:=.type "range",data:=.fields #[.int lo t,.int c u,.int 1 v] }).objs.size,[(s.heap.push { cls:=.type "range",data:=.fields #[.int lo t,.int c u,.int 1 v] }).objs.size],_,_,H,rfl,d.kept (t':=f) fun b o e=>Zd _ e,Nj _ lo (c-lo).toNat,?_,fun b hb=>?_,q⟩
 ·have g:lo+((0:Nat):Int)*1=lo:=by simp
  have h:(((c-lo).toNat:Nat):Int)-((0:Nat):Int)=Builtin.Range.rangeSize lo c 1:=by rw[rangeSize_one];split<;>lia
  show IsRangeIter _ _ (lo+((0:Nat):Int)*1) ((((c-lo).toNat:Nat):Int)-((0:Nat):Int)) 1;rw[g,h];exact Zp _ rfl
 ·have e:b=(s.heap.push { cls:=.type "range",data:=.fields #[.int lo t,.int c u,.int 1 v] }).objs.size:=by simpa using hb
  subst e;exact d.sW (Zf _)<|d.hok.fresh<|Zf _
def aD (c:TA):TI:=fun e H R=>c e H fun d b=>∃j:Int,d=[.int j]/\-(2 ^ 62)<=j/\j<2 ^ 62/\R (R8 0 j.toNat) b
def aE (c:TA):TI:=fun e H R=>c e H fun d b=>∃i j:Int,d=[.int i,.int j]/\(-(2 ^ 62)<=i/\i<2 ^ 62/\-(2 ^ 62)<=j/\j<2 ^ 62)/\R (R8 i (j-i).toNat) b
theorem uK {a:EI}{p pos:Pos}(f:Gl X "range")(hm:X.mg "range"=none)(ha:PA X [a] ta)(hs:Eu [a] X.env=[(false,E3 a X.env)]:=by rfl):PI X tg (.Call (.Name "range" p) [a] [] pos) (aD ta):=by
 intro c s l H R I h;refine Call_<|U0 I f hm boot_range<|Jm (Ci (ha pos c s l H _ I h) fun u o ⟨v,n,d,i,b⟩=>?_) hs rfl;obtain⟨j,e,b,g,q⟩:=b;subst e;cases i with
 |cons r rr =>
  cases rr;obtain⟨t,rfl⟩:=r;exact call_range_1 (Kl d (by lia) (by lia) b g<|by simpa using q)
theorem O2 {a b:EI}{p pos:Pos}(l:Gl X "range")(hm:X.mg "range"=none)(ha:PA X [a,b] ta)(hs:Eu [a,b] X.env=[(false,E3 a X.env),(false,E3 b X.env)]:=by rfl)(c:Eu [b] X.env=[(false,E3 b X.env)]:=by rfl) :
  PI X tg (.Call (.Name "range" p) [a,b] [] pos) (aE ta):=by
 intro f s w H R I h;refine Call_ (U0 I l hm boot_range<|Jm (Ci (ha pos f s w H _ I h) fun A y ⟨B,x,g,v,d⟩=>?_) (by rw[hs,c]) (by rw[c];rfl));obtain⟨i,j,e,⟨d,n,o,u⟩,q⟩:=d;subst e;cases v with
 |cons r rr =>
  cases rr with
  |cons r' rr =>
   cases rr;obtain⟨t,rfl⟩:=r;obtain⟨z,rfl⟩:=r';exact call_range_2<|Kl g d n o u q
def cw (n:TI)(g:TG)(l:TS):TS:=fun D b H=>n b H fun J h=>∃W:Nat->Nat->St->Hp->Prop,(∃m,W 0 m b h)/\∀i m b H,W i m b H ->
 (J.stop i H/\D.nx b H)\/(J.go i H/\∃N:St->Hp->Prop,(∀d c,N d c->∃f,f<m/\W (i+1) f d c)/\∀x c,J.oR i H x c->g x b c fun e j=>l { D with nx:=N,ct:=N,bk:=D.nx } e j)
def XE (c:Dd)(h:Ev):De:=c.filterMap fun b=>(h.get? b).map fun o=>(b,o)
theorem j2 {c:Dd}{h:Ev}{b:Ef}{o:Obj}(hb:b∈c)(e:h.get? b=some o):(b,o)∈XE c h:=Jq.mpr ⟨b,hb,by rw[e];rfl⟩
theorem O0 {p:Ef×Obj}(d:p∈XE fp h):p.1∈fp/\h.get? p.1=some p.2:=by
 obtain⟨b,hb,e⟩:=Jq.mp d;cases q:h.get? b with
 |none=>rw[q]at e;cases e
 |some o =>
  rw[q]at e;have c:(b,o)=p:=Option.some.inj e;subst c;exact⟨hb,q⟩
theorem Inv.pinned {c:Dd}(I:Inv X Do σ H s)(j:∀b∈c,Ib X Do H b)(l:∀b∈c,∃o,s.heap.get? b=some o/\∀v,o.data≠.cell v):Inv X (Do++XE c s.heap) σ H s :=
 I.vg fun p n=>(ZD.mp n).elim (fun z=>I.pin p<|ZL _ z) fun z=>by
  obtain⟨hb,e⟩:=O0 z;obtain⟨g,h,i,_⟩:=j p.1 hb;obtain⟨o,f,d⟩:=l p.1 hb;rw[e]at f;cases f;exact⟨e,g,h,i,d⟩
theorem Inv.rR {b pl:De}(I:Inv X (b++pl) σ H s):Inv X b σ H s:=I.vg fun p c=>I.pin p<|ZL _<|ZX _ c
theorem xA {pos:Pos}(G:PassesOwn (Em X.prog X.w) X.A X.env X.xe)(hc:X.calm=true)(hi:PI X tg iter wi)(hg:PG X tg g)(hb:sX X body tb)
  (hs:∀x,foldedSetIterable iter X.env x=Lo x:=by intro _;rfl):PS X (.For tg iter body [] pos) (cw wi g tb):=by
 intro B s σ H D I h;refine wpAny_For (Ci (hi B s σ H _ I h) fun v s1 h1=>Ci h1 fun ab s2 h2=>?_) hs;obtain⟨it,E,tn,J,H2,e,I2,T,U,f2,W,⟨m0,w0⟩,M⟩:=h2;subst e;have p:∀{y:Hp},(∀b∈E,y b=none)->∀b∈E,Ib X B y b:=fun hn b hb=>⟨hn b hb,(f2 b hb).2⟩;refine codeAny_forLoop_any (fun n s'=>∃i q y,Inv X B q y s'/\tn i s'.heap/\(∀b∈E,y b=none)/\W i n q y) ?_ m0 ⟨0,σ,H2,I2,U,fun b hb=>(f2 b hb).1,w0⟩;rintro n s3 ⟨i,t,O,I3,L,F,w3⟩
 rcases M i n t O w3 with⟨stop,qn⟩|⟨go,N,hN,step⟩
 ·refine Vg G (Ci (T.done X rfl rfl rfl hc i B s3 t O X.xe I3 (p F) L stop) fun r s4 ⟨R,I4⟩=>?_);subst R;exact VX ⟨t,O,I4,qn⟩
 ·refine Vg G (Ci (T.item X rfl rfl rfl hc i B s3 t O X.xe I3 (p F) L go) fun r s4 ⟨u,R,h4⟩=>?_);subst R;refine Vg G<|Ci h4 fun _ s5 hh=>?_;obtain⟨x,Z,I5,r5,y5,C,Q⟩:=hh;have P:=I5.pinned (p Q)<|T.obj _ _ C;refine Vg G<|Ci (hg _ s5 t Z x u _ P r5<|step x Z y5) fun _ s6 ⟨Y,H6,I6,q6⟩=>?_;refine Vg G<|Ci (hb _ s6 Y H6 _ I6 q6) fun f S z=>?_;have again:∀{c:St} {j:Hp},Inv X (B++XE E s5.heap) c j S->N c j->∃m,m<n/\∃i q y,Inv X B q y S/\tn i S.heap/\(∀b∈E,y b=none)/\W i m q y:=fun{c j} l K=>by
   obtain⟨m',hm,w7⟩:=hN c j K;refine⟨m',hm,i+1,c,j,l.rR,T.keep _ _ _ C fun b hb o e=>(l.pin (b,o)<|ZL _<|ZL _<|j2 hb e).1,fun b hb=>?_,w7⟩;obtain⟨o,e,d⟩:=T.obj _ _ C b hb;exact(l.pin (b,o)<|ZL _<|ZL _<|j2 hb e).2.1
  cases f with
  |next=>obtain⟨c,j,l,K⟩:=z;exact again l K
  |cont=>obtain⟨c,j,l,K⟩:=z;exact again l K
  |brk=>obtain⟨c,j,l,z⟩:=z;exact⟨c,j,l.rR,z⟩
  |ret v=>obtain⟨x7,c,j,l,r7,z⟩:=z;exact⟨x7,c,j,l.rR,r7,z⟩
end
theorem jC {K:Cd}{xs:Dj}{g:TG}{f:TS}{D:Ends}{b:St}{H:Hp}(c:Nat->St->Hp->Prop)(h:c 0 b H)(hl:∀i b H,i<=xs.length->c i b H->yu K H a xs)
  (hs:∀i x b H,xs[i]?=some x->c i b H->g x b H fun σ2 H2=>f { D with nx:=c<|i+1,ct:=c<|i+1,bk:=D.nx } σ2 H2) (hd:∀b H,c xs.length b H->D.nx b H) :
  ∃W:Nat->Nat->St->Hp->Prop,(∃m,W 0 m b H)/\∀i m b H,W i m b H ->
   ((TZ K a).stop i H/\D.nx b H)\/((TZ K a).go i H/\∃N:St->Hp->Prop,(∀σ' H',N σ' H'->∃m',m'<m/\W (i+1) m' σ' H')/\∀x H',(TZ K a).oR i H x H'->g x b H' fun σ2 H2=>f { D with nx:=N,ct:=N,bk:=D.nx } σ2 H2):=by
 refine⟨fun i m b H=>m=xs.length-i/\i<=xs.length/\c i b H,⟨xs.length,by simp,ZN _,h⟩,?_⟩;rintro i m b H ⟨rfl,j,p⟩;have q:=hl i b H j p
 by_cases d:i<xs.length
 ·refine .inr ⟨⟨xs,xs[i],q,by simp[d]⟩,c<|i+1,fun σ' H' l=>⟨xs.length-(i+1),by lia,rfl,d,l⟩,fun x H' y=>?_⟩;obtain⟨e,y⟩:=y;subst e;exact hs i x b _ (y xs q) p
 ·have e:i=xs.length:=by lia
  subst e;exact .inl ⟨⟨xs,q,Zf _⟩,hd b H p⟩
theorem Ff {K:Cd}{xs:Dj}{g:TG}{f:TS}{D:Ends}{b:St}{H:Hp}(c:Nat->St->Hp->Prop)(h:c 0 b H)(hl:∀i b H,i<=xs.length->c i b H->xu K H a xs)
  (hs:∀i x b H,xs[i]?=some x->c i b H->g x b H fun σ2 H2=>f { D with nx:=c<|i+1,ct:=c<|i+1,bk:=D.nx } σ2 H2) (hd:∀b H,c xs.length b H->D.nx b H) :
  ∃W:Nat->Nat->St->Hp->Prop,(∃m,W 0 m b H)/\∀i m b H,W i m b H ->
   ((T1 K a).stop i H/\D.nx b H)\/((T1 K a).go i H/\∃N:St->Hp->Prop,(∀σ' H',N σ' H'->∃m',m'<m/\W (i+1) m' σ' H')/\∀x H',(T1 K a).oR i H x H'->g x b H' fun σ2 H2=>f { D with nx:=N,ct:=N,bk:=D.nx } σ2 H2):=by
 refine⟨fun i m b H=>m=xs.length-i/\i<=xs.length/\c i b H,⟨xs.length,by simp,ZN _,h⟩,?_⟩;rintro i m b H ⟨rfl,j,p⟩;have q:=hl i b H j p
 by_cases d:i<xs.length
 ·refine .inr ⟨⟨xs,xs[i],q,by simp[d]⟩,c<|i+1,fun σ' H' l=>⟨xs.length-(i+1),by lia,rfl,d,l⟩,fun x H' y=>?_⟩;obtain⟨e,y⟩:=y;subst e;exact hs i x b _ (y xs q) p
 ·have e:i=xs.length:=by lia
  subst e;exact .inl ⟨⟨xs,q,Zf _⟩,hd b H p⟩
theorem Xn {lo:Int}{n:Nat}{g:TG}{f:TS}{D:Ends}{b:St}{H:Hp}(c:Nat->St->Hp->Prop)(h:c 0 b H)
  (hs:∀i b H,i<n->c i b H->g (.int<|lo+i) b H fun σ2 H2=>f { D with nx:=c<|i+1,ct:=c<|i+1,bk:=D.nx } σ2 H2) (hd:∀b H,c n b H->D.nx b H) :
  ∃W:Nat->Nat->St->Hp->Prop,(∃m,W 0 m b H)/\∀i m b H,W i m b H ->
   ((R8 lo n).stop i H/\D.nx b H)\/((R8 lo n).go i H/\∃N:St->Hp->Prop,(∀σ' H',N σ' H'->∃m',m'<m/\W (i+1) m' σ' H')/\∀x H',(R8 lo n).oR i H x H'->g x b H' fun σ2 H2=>f { D with nx:=N,ct:=N,bk:=D.nx } σ2 H2):=by
 refine⟨fun i m b H=>m=n-i/\i<=n/\c i b H,⟨n,by simp,ZN _,h⟩,?_⟩;rintro i m b H ⟨rfl,l,p⟩
 by_cases d:i<n
 ·refine .inr ⟨d,c<|i+1,fun σ' H' j=>⟨n-(i+1),by lia,rfl,d,j⟩,fun x H' y=>?_⟩;obtain⟨e,y⟩:=y;subst e y;exact hs i b _ d p
 ·have e:i=n:=by lia
  subst e;exact .inl ⟨Zf _,hd b H p⟩
abbrev R2:=V->V->Hp->VK->Prop
def CD (X:Cx)(f:Ee->Ee->Sem Ee)(r:R2):Prop :=
 ∀(b:De) (s:Ei) (c:St) (H:Hp) (x y:V) (v u:Ee) (Q:VK),Inv X b c H s->yt x v->yt y u->r x y H Q ->
  Eh (Em X.prog X.w) X.A (f v u) (EP X b c Q) X.xe s
def xj (X:Cx)(f:Ee)(r:Dj->Hp->VK->Prop):Prop :=
 ∀(b:De) (s:Ei) (e:St) (H:Hp) (d:Dj) (c:Db) (Q:VK),Inv X b e H s->yr d c->r d H Q ->
  Eh (Em X.prog X.w) X.A (call f c) (EP X b e Q) X.xe s
def bL (X:Cx)(r:V->Hp->(Bool->Hp->Prop)->Prop):Prop :=
 ∀(b:De) (s:Ei) (c:St) (H:Hp) (x:V) (v:Ee) (Q:Bool->Hp->Prop),Inv X b c H s->yt x v->r x H Q ->
  Eh (Em X.prog X.w) X.A (truthy v) (TP X b c Q) X.xe s
def bF (r:R2)(e f:TE):TE:=fun b H Q=>e b H fun x c=>f b c fun y d=>r x y d Q
inductive rI (C:Int->Int->Prop)(g:Int->Int->V)(x y:V)(H:Hp)(Q:VK):Prop
 |mk (i j:Int) (e:x=.int i) (f:y=.int j) (c:C i j) (q:Q (g i j) H):rI C g x y H Q
inductive mL (g:Int->Int->V)(x y:V)(H:Hp)(Q:VK):Prop
 |mk (i j:Int) (e:x=.int i) (f:y=.int j) (q:Q (g i j) H):mL g x y H Q
section
variable {X:Cx}{a b c:EI}{ta tb tc:TE}{pos:Pos}
theorem Wb (ha:PE X a ta)(hb:PE X b tb){d:De}{s:Ei}{c:St}{H:Hp}{R:V->V->Hp->Prop}(I:Inv X d c H s)
  (h:ta c H fun x H1=>tb c H1 fun y H2=>R x y H2) {Q:Ee->Dh} {f:Ee->Ee->Sem Ee}
  (i:∀v u s2 x y H2,Inv X d c H2 s2->yt x v->yt y u->R x y H2->Eh (Em X.prog X.w) X.A (f v u) Q X.xe s2) :
  Eh (Em X.prog X.w) X.A (E3 a X.env) (fun v s₁=>Eh (Em X.prog X.w) X.A (E3 b X.env) (fun u s₂=>Eh (Em X.prog X.w) X.A (f v u) Q X.xe s₂) X.xe s₁) X.xe s:=by
 refine Ci (ha d s c H _ I h) fun v p ⟨x,H1,e,n,j⟩=>?_;refine Ci (hb d p c H1 _ e j) fun u s2 ⟨y,H2,g,o,l⟩=>?_;exact i v u s2 x y H2 g n o l
theorem zV {op:Operator}(f:CD X (MA op) r)(ha:PE X a ta)(hb:PE X b tb):PE X (.BinOp a op b pos) (bF r ta tb):=by
 intro c s l H Q I h;exact wpAny_BinOp<|Wb ha hb I h fun v u j x y d e g i q=>f c j l d x y v u Q e g i q
theorem bW {f:Ee->Ee->Sem Ee}{C:Int->Int->Prop}{g:Int->Int->Int}
  (b:∀(i j:Int) (t u:Tok) (s:Ei) (Q:Ee->Dh) (E:Ee->Dh),C i j->Q (.int (g i j) s.toks) { s with toks:=s.toks+1 }->Eh (Em X.prog X.w) X.A (f (.int i t)<|.int j u) Q E s) :
  CD X f (rI C fun i j=>.int<|g i j):=by
 intro n s o H x y v u Q I d e h;obtain⟨i,j,rfl,rfl,c,q⟩:=h;obtain⟨t,rfl⟩:=d;obtain⟨l,rfl⟩:=e;exact b i j t l s _ _ c ⟨.int<|g i j,H,I.tok _,⟨_,rfl⟩,q⟩
theorem bY {f:Ee->Ee->Sem Ee}{g:Int->Int->Int}
  (b:∀(i j:Int) (t u:Tok) (s:Ei) (Q:Ee->Dh) (E:Ee->Dh),Q (.int (g i j) s.toks) { s with toks:=s.toks+1 }->Eh (Em X.prog X.w) X.A (f (.int i t)<|.int j u) Q E s) :
  CD X f (mL fun i j=>.int<|g i j):=by
 intro l s n H x y v u Q I c d h;obtain⟨i,j,rfl,rfl,q⟩:=h;obtain⟨t,rfl⟩:=c;obtain⟨e,rfl⟩:=d;exact b i j t e s _ _ ⟨.int<|g i j,H,I.tok _,⟨_,rfl⟩,q⟩
theorem Wz {f:Ee->Ee->Sem Ee}{g:Int->Int->Bool}
  (b:∀(i j:Int) (t u:Tok) (s:Ei) (Q:Ee->Dh) (E:Ee->Dh),Q (.bool<|g i j) s->Eh (Em X.prog X.w) X.A (f (.int i t)<|.int j u) Q E s) :
  CD X f (mL fun i j=>.bl<|g i j):=by
 intro l s n H x y v u Q I c d h;obtain⟨i,j,rfl,rfl,q⟩:=h;obtain⟨t,rfl⟩:=c;obtain⟨e,rfl⟩:=d;exact b i j t e s _ _ ⟨.bl<|g i j,H,I,rfl,q⟩
def bH (i j:Int):Prop:=0<j/\j<1073741824
def mF (i j:Int):Prop:=(-(2 ^ 64)<i/\i<2 ^ 64)\/(-(2 ^ 64)<j/\j<2 ^ 64)
theorem mF.ok (h:mF i j):IntMulOk i j:=by
 rcases h with⟨h1,h2⟩|⟨h1,h2⟩
 ·exact .of_left (intBits_le_64 h1 h2)
 ·exact .of_right (intBits_le_64 h1 h2)
theorem xQ:CD X (MA .Add) (mL fun i j=>.int<|i+j):=bY fun _ _ _ _ _ _ _ q=>add_int q
theorem XL:CD X (MA .Mult) (rI mF fun i j=>.int<|i*j):=bW fun _ _ _ _ _ _ _ b q=>mul_int q b.ok
theorem qS:CD X (MA .FloorDiv) (rI bH fun i j=>.int<|i / j):=bW fun i j _ _ _ _ _ b q=>by
 have c:(0:Int)<j:=b.1;have d:j<1073741824:=b.2;exact floordiv_int (by lia) (by rwa[Int.fdiv_eq_ediv_of_nonneg i<|by lia]) (.inl<|PyProof.noPylong_small<|by lia)
theorem qP:CD X (MA .Mod) (rI (fun _ j=>0<j) fun i j=>.int<|i % j):=bW fun i j _ _ _ _ _ b q=>by
 have c:(0:Int)<j:=b;exact mod_int' (by lia) (by rwa[Int.fmod_eq_emod_of_nonneg i<|by lia])
def ba:V->V->Bool
 | .non,.non=>true|.non,.int _=>true|.int _,.non=>true|.non,.bl _=>true|.bl _,.non=>true|.non,.str _=>true|.str _,.non=>true
 | .int _,.int _=>true|.bl _,.bl _=>true|.str _,.str _=>true|.byt _,.byt _=>true
 | .int _,.str _=>true|.str _,.int _=>true|.bl _,.str _=>true|.str _,.bl _=>true
 |_,_=>false
def rEq:R2:=fun x y H Q=>ba x y=true/\Q (.bl<|decide (x=y)) H
def rNe:R2:=fun x y H Q=>ba x y=true/\Q (.bl<|!decide (x=y)) H
theorem Ny {i j:Int}:decide (V.int i=V.int j)=(i==j):=by
 rw[Yi];simp
theorem Pu {i j:Bool}:decide (V.bl i=V.bl j)=(i==j):=by
 rw[Yi];simp
theorem Nz {i j:Str}:decide (V.str i=V.str j)=(i==j):=by
 rw[Yi];simp
theorem Nw {i j:Array UInt8}:decide (V.byt i=V.byt j)=(i.toList==j.toList):=by
 rw[Yi];cases i;cases j;simp
theorem yG {Q:VK}{k b:Bool}(I:Inv X Do σ H s)(q:Q (.bl k) H)(e:k=b):EP X Do σ Q (.bool b) s:=by
 subst e;exact⟨.bl k,H,I,rfl,q⟩
theorem qM:CD X (ES .Eq) rEq:=by
 intro f s g H x y v u Q I e b h;obtain⟨d,q⟩:=h;cases x with
 |non =>
  cases e;cases y with
  |non=>cases b;exact PySem.EqNone.eq_none_none (yG I q<|by simp)
  |bl j=>cases b;exact PySem.EqNone.eq_none_bool (yG I q<|by simp)
  |int j=>obtain⟨c,rfl⟩:=b;exact PySem.EqNone.eq_none_int (yG I q<|by simp)
  |str j=>obtain⟨c,rfl⟩:=b;exact PySem.EqNone.eq_none_str (yG I q<|by simp)
  |_=>exact absurd (show false=true from d) ZK
 |bl i =>
  cases e;cases y with
  |non=>cases b;exact PySem.EqNone.eq_bool_none (yG I q<|by simp)
  |bl j=>cases b;exact eq_bool<|yG I q Pu
  |str j=>obtain⟨c,rfl⟩:=b;exact PySem.EqMixed.eq_bool_str (yG I q<|by simp)
  |_=>exact absurd (show false=true from d) ZK
 |int i =>
  obtain⟨t,rfl⟩:=e;cases y with
  |non=>cases b;exact PySem.EqNone.eq_int_none (yG I q<|by simp)
  |int j=>obtain⟨c,rfl⟩:=b;exact eq_int<|yG I q Ny
  |str j=>obtain⟨c,rfl⟩:=b;exact PySem.EqMixed.eq_int_str (yG I q<|by simp)
  |_=>exact absurd (show false=true from d) ZK
 |str i =>
  obtain⟨t,rfl⟩:=e;cases y with
  |non=>cases b;exact PySem.EqNone.eq_str_none (yG I q<|by simp)
  |bl j=>cases b;exact PySem.EqMixed.eq_str_bool (yG I q<|by simp)
  |int j=>obtain⟨c,rfl⟩:=b;exact PySem.EqMixed.eq_str_int (yG I q<|by simp)
  |str j=>obtain⟨c,rfl⟩:=b;exact eq_str<|yG I q Nz
  |_=>exact absurd (show false=true from d) ZK
 |byt i =>
  obtain⟨t,rfl⟩:=e;cases y with
  |byt j=>obtain⟨c,rfl⟩:=b;exact PySem.W.eq_bytes<|yG I q Nw
  |_=>exact absurd (show false=true from d) ZK
 |_=>cases y<;>exact absurd (show false=true from d) ZK
theorem HX:CD X (ES .NotEq) rNe:=by
 intro f s g H x y v u Q I e b h;obtain⟨d,q⟩:=h;cases x with
 |non =>
  cases e;cases y with
  |non=>cases b;exact PySem.EqNone.ne_none_none (yG I q<|by simp)
  |bl j=>cases b;exact PySem.EqNone.ne_none_bool (yG I q<|by simp)
  |int j=>obtain⟨c,rfl⟩:=b;exact PySem.EqNone.ne_none_int (yG I q<|by simp)
  |str j=>obtain⟨c,rfl⟩:=b;exact PySem.EqNone.ne_none_str (yG I q<|by simp)
  |_=>exact absurd (show false=true from d) ZK
 |bl i =>
  cases e;cases y with
  |non=>cases b;exact PySem.EqNone.ne_bool_none (yG I q<|by simp)
  |bl j=>cases b;exact ne_bool<|yG I q<|congrArg not Pu
  |str j=>obtain⟨c,rfl⟩:=b;exact PySem.EqMixed.ne_bool_str (yG I q<|by simp)
  |_=>exact absurd (show false=true from d) ZK
 |int i =>
  obtain⟨t,rfl⟩:=e;cases y with
  |non=>cases b;exact PySem.EqNone.ne_int_none (yG I q<|by simp)
  |int j=>obtain⟨c,rfl⟩:=b;exact ne_int<|yG I q<|congrArg not Ny
  |str j=>obtain⟨c,rfl⟩:=b;exact PySem.EqMixed.ne_int_str (yG I q<|by simp)
  |_=>exact absurd (show false=true from d) ZK
 |str i =>
  obtain⟨t,rfl⟩:=e;cases y with
  |non=>cases b;exact PySem.EqNone.ne_str_none (yG I q<|by simp)
  |bl j=>cases b;exact PySem.EqMixed.ne_str_bool (yG I q<|by simp)
  |int j=>obtain⟨c,rfl⟩:=b;exact PySem.EqMixed.ne_str_int (yG I q<|by simp)
  |str j=>obtain⟨c,rfl⟩:=b;exact ne_str<|yG I q<|congrArg not Nz
  |_=>exact absurd (show false=true from d) ZK
 |byt i =>
  obtain⟨t,rfl⟩:=e;cases y with
  |byt j=>obtain⟨c,rfl⟩:=b;exact PySem.W.ne_bytes<|yG I q<|congrArg not Nw
  |_=>exact absurd (show false=true from d) ZK
 |_=>cases y<;>exact absurd (show false=true from d) ZK
theorem aM:CD X (ES .Lt) (mL fun i j=>.bl<|decide (i<j)):=Wz fun _ _ _ _ _ _ _ q=>lt_int q
theorem HW:CD X (ES .LtE) (mL fun i j=>.bl<|decide (i<=j)):=Wz fun _ _ _ _ _ _ _ q=>le_int q
theorem TK:CD X (ES .Gt) (mL fun i j=>.bl<|decide (j<i)):=Wz fun _ _ _ _ _ _ _ q=>gt_int q
theorem Rt:CD X (ES .Is) (fun x y H Q=>y=.non/\Q (.bl<|decide (x=.non)) H):=by
 intro d s e H x y v u Q I b c h;obtain⟨rfl,q⟩:=h;cases c;refine is_none_gen<|yG I q ?_;cases x<;>first
  |(cases b;rfl)
  |(obtain⟨t,rfl⟩:=b;rfl)
theorem SN:CD X (ES .IsNot) (fun x y H Q=>y=.non/\Q (.bl<|!decide (x=.non)) H):=by
 intro d s e H x y v u Q I b c h;obtain⟨rfl,q⟩:=h;cases c;refine isnot_none_gen<|yG I q ?_;cases x<;>first
  |(cases b;rfl)
  |(obtain⟨t,rfl⟩:=b;rfl)
theorem zW (b:EI){op:CmpOp}(h:op≠.In:=by decide)(e:op≠.NotIn:=by decide):behindInMarks op b=false:=by
 have c:(op==CmpOp.In)=false:=by cases op<;>first|rfl|exact absurd rfl h
 have d:(op==CmpOp.NotIn)=false:=by cases op<;>first|rfl|exact absurd rfl e
 cases b<;>simp[behindInMarks,c,d]
theorem yL {op:CmpOp}(f:CD X (ES op) r)(ha:PE X a ta)(hb:PE X b tb)(hm:behindInMarks op b=false):PE X (.Compare a [op] [b] pos) (bF r ta tb):=by
 intro c s l H Q I h;exact wpAny_Compare1 (Wb ha hb I h fun v u j x y d e g i q=>f c j l d x y v u Q e g i q) hm
inductive lJ (x:V)(H:Hp)(Q:Bool->Hp->Prop):Prop
 |mk (k:Bool) (e:x=.bl k) (q:Q k H):lJ x H Q
def bq (t:TE):TT:=fun c H Q=>t c H fun x b=>lJ x b Q
theorem zX {op:CmpOp}(p:CD X (ES op) r)(ha:PE X a ta)(hb:PE X b tb)(hm:behindInMarks op b=false):PT X (.Compare a [op] [b] pos) (bq<|bF r ta tb):=by
 intro d s f H Q I h;refine wpAny_isTrue_Compare1 (Ci (ha d s f H _ I h) fun v D ⟨x,g,l,A,q⟩=>Ci (hb d D f g _ l q) fun u E ⟨y,i,n,B,t⟩ => Ci (p d E f i x y v u _ n A B t) fun c F hh=>?_) hm;obtain⟨z,j,o,C,k,e,w⟩:=hh
 subst e;cases C;exact YX ⟨j,o,w⟩
def WU (r g:R2)(ta tb tc:TE):TE:=fun b H Q=>ta b H fun x d=>tb b d fun y e=>r x y e fun z c=>∃k,z=.bl k /\
 (if k=true then tc b c fun h f=>g y h f Q else Q (.bl false) c)
theorem Gx {op f:CmpOp}(E:CD X (ES op) r)(j:CD X (ES f) r')(ha:PE X a ta)(hb:PE X b tb)(D:PE X c tc)
  (hm:lastMarks [op,f] [b,c]=false:=by with_unfolding_all rfl):PE X (.Compare a [op,f] [b,c] pos) (WU r r' ta tb tc):=by
 intro g s i H Q I h;refine Compare_chain (Ci (ha g s i H _ I h) fun v N ⟨x,q,A,K,F⟩=>chain_link<|Ci (hb g N i q _ A F) fun u O ⟨y,t,B,p,G⟩ => Ci (E g O i t x y v u _ B K p G) fun d P hh=>?_) hm;obtain⟨z,l,n,L,k,e,o⟩:=hh
 subst e;cases L;refine YX ?_;cases k with
 |false=>exact ite_ff ⟨.bl false,l,n,rfl,o⟩
 |true=>exact ite_tt<|chain_last<|Ci (D g P i l _ n o) fun S R ⟨T,w,C,M,J⟩=>j g R i w y T u S Q C p M J
def T9 (K:Cd)(x:V)(H:Hp)(k:Bool):Prop :=
 match x with
 | .non=>k=false
 | .bl b=>k=b
 | .int i=>k=(i !=0)
 | .str y=>y.length<=sizeLine/\k=((y.length:Int) !=0)
 | .byt y=>y.size<=sizeLine/\k=((y.size:Int) !=0)
 | .ref p=>(∃c,yu K H p c/\k=!c.isEmpty)\/(∃c,xu K H p c/\k=!c.isEmpty)\/∃d,H p=some (.dK d)/\k=!d.isEmpty
 |_=>False
theorem K6 {κ:Type}{Dm:List (κ×V)}{vs:List (κ×Ee)}(r:KV Dm vs):(!vs.isEmpty)=!Dm.isEmpty:=by
 cases r<;>rfl
theorem Ga (r:yr xs its):(!its.toArray.isEmpty)=!xs.isEmpty:=by
 cases r<;>simp
theorem XF:(sizeLine:Nat)<2 ^ 63:=by rw[Ys];decide
theorem W4:bL X (fun x H Q=>∃k,T9 X.K x H k/\Q k H):=by
 intro B s D H x v Q I g h;obtain⟨k,e,q⟩:=h;have hl:=XF;have C:sizeLine=16777216:=Ys;cases x with
 |non =>
  cases g;have c:k=false:=e;subst c;exact truthy_none ⟨H,I,q⟩
 |bl b =>
  cases g;have c:k=b:=e;subst c;exact YX ⟨H,I,q⟩
 |int i =>
  obtain⟨t,rfl⟩:=g;have c:k=(i !=0):=e;subst c;exact PySem.P.truthy_int ⟨H,I,q⟩
 |str y =>
  obtain⟨t,rfl⟩:=g;obtain⟨A,c⟩:y.length<=sizeLine/\k=((y.length:Int) !=0):=e;subst c;exact PySem.P.truthy_str (by lia) ⟨H,I.tok _,q⟩
 |byt y =>
  obtain⟨t,rfl⟩:=g;obtain⟨A,c⟩:y.size<=sizeLine/\k=((y.size:Int) !=0):=e;subst c;exact PySem.W.truthy_bytes (by lia) ⟨H,I.tok _,q⟩
 |ref p =>
  cases g;have c:(∃d,yu X.K H p d/\k=!d.isEmpty)\/(∃d,xu X.K H p d/\k=!d.isEmpty)\/∃f,H p=some (.dK f)/\k=!f.isEmpty:=e
  rcases c with⟨d,hx,c⟩|⟨d,hx,c⟩|⟨f,hx,c⟩
  ·subst c;obtain⟨l,r,n,u⟩:=I.list hx;have o:=r.length;exact wpAny_truthy_list n.isList (by simp only[Zy];lia) ⟨H,I.tok _,by rw[Ga r];exact q⟩
  ·subst c;obtain⟨l,r,n,u⟩:=I.tuple hx;have o:=r.length;exact truthy_tuple n (by simp only[Zy];lia) ⟨H,I.tok _,by rw[Ga r];exact q⟩
  ·subst c;obtain⟨u,z,j,r,m⟩:f.length<=sizeLine/\(p==EM)=false/\∃j,KV f j/\s.heap.DictOf (zc X.prog X.w) p j:=I.hok p _ hx;have o:f.length=j.length:=Paired.length r;exact wpAny_truthy_dict z m (by lia) ⟨H,I.tok _,by rw[K6 r];exact q⟩
 |_=>exact(show False from e).elim
theorem RF (ha:PE X a ta)(e:∀whole,isTrue a X.env whole=(do let v ←whole;standAt a.pos;MD [v] (truthy v))) :
  PT X a (fun σ H Q=>ta σ H fun x H'=>∃k,T9 X.K x H' k/\Q k H'):=by
 intro b s σ H Q I h;exact isTrue_plain (Ci (ha b s σ H _ I h) fun v i ⟨x,c,d,g,f⟩=>W4 b i σ c x v Q d g f) (e _)
theorem zL:CD X (MA .Add) (fun x y H Q=>∃i j,x=.str i/\y=.str j/\i.length+j.length<=sizeLine/\Q (.str<|i++j) H):=by
 intro f s l H x y v u Q I c d h;obtain⟨i,j,rfl,rfl,b,q⟩:=h;obtain⟨t,rfl⟩:=c;obtain⟨e,rfl⟩:=d;exact add_str (fun e g=>⟨.str<|i++j,H,I.tok _,⟨_,rfl⟩,q⟩) b
theorem wW {x:V}(r:yr [x] us):∃u,us=[u]/\yt x u:=by
 cases r with
 |cons r1 r2=>cases r2;exact⟨_,rfl,r1⟩
theorem vals2 {x y:V}(r:yr [x,y] us):∃u w',us=[u,w']/\yt x u/\yt y w':=by
 cases r with
 |cons r1 r2 =>
  cases r2 with
  |cons r3 r4=>cases r4;exact⟨_,_,rfl,r1,r3⟩
theorem Os (c:X.calm=true):xj X (.builtin "max") (fun xs H Q=>∃i j,xs=[.int i,.int j]/\Q (.int<|if j>i then j else i) H):=by
 intro d s o H xs l Q I r h;obtain⟨i,j,rfl,q⟩:=h;obtain⟨u,n,rfl,⟨t,rfl⟩,⟨f,rfl⟩⟩:=vals2 r;refine max_two_ints (I.ok.hd c) fun e g k=>⟨_,H,I.kept k,?_,q⟩
 by_cases b:j>i
 ·rw[Zs b,Zs b];exact⟨_,rfl⟩
 ·rw[Zt b,Zt b];exact⟨_,rfl⟩
theorem Xv:xj X (.type "int") (fun xs H Q=>(∃i,xs=[.int i]/\Q (.int i) H)\/∃k,xs=[.bl k]/\Q (.int<|if k then 1 else 0) H):=by
 intro c s e H xs d Q I r h
 rcases h with⟨i,rfl,q⟩|⟨k,rfl,q⟩
 ·obtain⟨u,rfl,t,rfl⟩:=wW r;exact call_int_int ⟨.int i,H,I,⟨_,rfl⟩,q⟩
 ·obtain⟨u,rfl,b⟩:=wW r;cases b;exact call_int_bool ⟨.int<|if k then 1 else 0,H,I.tok _,⟨_,rfl⟩,q⟩
theorem jM:xj X (.type "str") (fun xs H Q=>∃i,xs=[.int i]/\i.natAbs.log2<1920/\Q (.str<|LY i) H):=by
 intro c s e H xs d Q I r h;obtain⟨i,rfl,b,q⟩:=h;obtain⟨u,rfl,t,rfl⟩:=wW r;exact PySem.P.str_of_int b ⟨.str _,H,I.tok _,⟨_,rfl⟩,q⟩
theorem F0:xj X (.builtin "ord") (fun xs H Q=>∃x,xs=[.str x]/\x.length=1/\Q (.int (x.cps.getD 0 0:Nat)) H):=by
 intro c s e H xs d Q I r h;obtain⟨x,rfl,b,q⟩:=h;obtain⟨u,rfl,t,rfl⟩:=wW r;exact ord_of_one b ⟨.int _,H,I.tok _,⟨_,rfl⟩,q⟩
end
structure pB (h:Ev)(x dx C:Ef)(mA:Str->Dc):Prop where
 obj:h.get? x=some (Ll C dx)
 ns:h.Ns1 dx mA
 ne:dx≠x
theorem OU {h:Ev}{b:Ef}{d:Str->Dc}(n:h.Ns1 b d):∃od,h.get? b=some od/\∀name,PySem.W.lookIn name od=some (d name):=by
 obtain⟨o,c,l,i,hd,hk,_,hm⟩:=n;refine⟨o,i,fun name=>?_⟩;have e:=hm name;unfold nsFind findBy at e;rw[←Array.find?_toList]at e;unfold PySem.W.lookIn;rw[hd];dsimp only
 split
 ·rename_i y q;rw[q]at e;exact congrArg some e
 ·rename_i q;rw[q]at e;have a:c.toList.any (·.refKey)=false:=by
   rw[Vv];intro y j;obtain⟨z,t,f⟩:=hk y<|Array.mem_toList_iff.mp j;simp[DictEntry.refKey,f]
  have g:¬c.toList.any (·.refKey)=true:=by rw[a];exact ZK
  rw[Zt g];exact congrArg some e
theorem pB.look (I:pB h x dx C mA):∃od,PySem.W.InstAt h x (Ll C dx) C (some od)/\∀name,PySem.W.lookIn name od=some (mA name) :=
 let ⟨od,ho,hl⟩:=OU I.ns
 ⟨od,⟨I.obj,rfl,rfl,ho⟩,hl⟩
section
variable {prog:Eg}{w:Ek}{A:ED}{E:Ee->Dh}{s:Ei}{K:Cd}{x dx C f:Ef}{mA:Str->Dc}{name:Str}{v:Ee}
theorem Sx {b:Bool}{Q:Ee->Dh}(X:K.In s.heap)(I:pB s.heap x dx C mA)(d:LR K C name=true)(e:Me K C=true)
  (ha:EN K (.ref C) name=some none) (f:mA name=some v) (c:PySem.W.handedIn v=true) (h:Q v { s with toks:=s.toks+1 }) :
  Eh (Em prog w) A (getAttr (.ref x) name b) Q E s:=by
 obtain⟨g,J,hl⟩:=I.look;exact PySem.W.get_value X J (V2 d).1 (PySem.W.findObj_own e ha rfl<|by rw[hl,f]) c h
theorem PL {pl:Sem Bool}{Q:Ee×Db->Dh}(X:K.In s.heap)(I:pB s.heap x dx C mA)(b:LR K C name=true)
  (c:EN K (.ref C) name=some (some<|.ref f)) (d:Mu K (.ref f)=true) (e:mA name=none) (h:Q (.ref f,[.ref x]) s) :
  Eh (Em prog w) A (Mz (.ref x) name pl) Q E s:=by
 obtain⟨g,J,hl⟩:=I.look;exact PySem.W.method_fn X J (V2 b).1 (V2 b).2 c (Jd.mp d) (by show(PySem.W.lookIn name g).map (·.isSome)=some false;rw[hl,e];rfl) h
theorem Tg {ns:Da}{Q:Unit->Dh}(X:K.In s.heap)(I:pB s.heap x dx C mA)
  (hs:EN K (.ref C) "__setattr__"=some (some<|.builtin "object.__setattr__")) (p:PySem.W.plainOver K C=true) (q:PySem.W.takerIn K C name=some none) (o:Me K C=true)
  (t:PySem.Within mA ns) (hsz:ns.length<=sizeLine)
  (h:∀h',pB h' x dx C (fun y=>if y=name then some v else mA y)->EJ dx s.heap h'->Q () { s with heap:=h',toks:=s.toks+2 }) :
  Eh (Em prog w) A (setAttr (.ref x) name v) Q E s:=by
 obtain⟨B,J,hl⟩:=I.look;refine PySem.W.set_plain X J hs<|PySem.W.osa_open (s:={ s with toks:=s.toks+1 }) (r:=none) X J p q fun b=>?_;obtain⟨z,n,f⟩:=PySem.W.any_some o;have u:s.heap.get? x=some ⟨.ref C,some dx,.plain,#[]⟩:=I.obj;refine Q7<|Za<|Q7<|Q7<|wpAny_loadPart u<|Q7<|PySem.W.Looks.here (s:={ s with toks:=s.toks+1 }) (PySem.W.looks_clsIn X n) ?_;rw[f];refine Za (a:=some dx)<|Q7<|Za<|Q7 ?_;refine wpAny_nsSet1 (s:={ s with toks:=s.toks+1 }) I.ns fun h' c d=>?_;obtain⟨oD,l,j,i,g,e⟩:=c.count<|PySem.Within.cons name v t;refine Q7 (wpAny_lookBehind i (by rw[g];exact pastItsLine_dict<|Z0 e (by rw[Zr];lia)) ?_);exact Za<|h _ ⟨(d.2 _<|EB I.ne).trans I.obj,c,I.ne⟩ d
theorem Rh {R:Result->Dh}{vs:Db}{b:List (Str×Ee)}(X:K.In s.heap)(hm:Mr K C=true)
  (e:EN K (.ref C) "__init__"=some (some<|.ref f)) (c:PySem.W.typeIn K (.ref f)=some (.type "function"))
  (h:LS (Em prog w) (A.under<|.builtin "type.__call__" ⟨.ref C::vs,b⟩) (.call (.ref f) ⟨.ref (s.heap.objs.size+1)::vs,b⟩) (PySem.W.InitBack (s.heap.objs.size+1) R) { s with heap:=(s.heap.push E6).push (Ll C s.heap.objs.size) }) :
  LS (Em prog w) A (.call (.ref C) ⟨vs,b⟩) R s:=by
 obtain⟨i,g,d,t,os⟩:=s;exact PySem.W.make_core (PySem.W.makes_of X hm) (PySem.W.looks_findIn X e) (fun self=>PySem.W.bind_fn X self c) (.inl rfl) h
end
def Uv (f:Str)(v:V):List (Str×V)->List (Str×V)
 |[]=>[(f,v)]
 |(g,x)::r=>if g=f then(g,v)::r else(g,x)::Uv f v r
theorem XO (f g:Str)(v:V):∀fs:List<|Str×V,(Uv f v fs).lookup g=if g=f then some v else fs.lookup g
 |[]=>by
  show LA g [(f,v)]=_
  by_cases h:g=f
  ·have hb:(g==f)=true:=Jd.mpr h;simp only[LA,hb,Zs h]
  ·have hb:(g==f)=false:=YM.mpr h;simp only[LA,hb,Zt h]
 |(k,x)::r=>by
  have b:=XO f g v r;rw[show Uv f v ((k,x)::r)=(if k=f then(k,v)::r else(k,x)::Uv f v r) from rfl]
  by_cases hk:k=f
  ·rw[Zs hk]
   by_cases h:g=k
   ·have hb:(g==k)=true:=Jd.mpr h;simp only[LA,hb,Zs<|h.trans hk]
   ·have hb:(g==k)=false:=YM.mpr h;simp only[LA,hb,Zt (fun e:g=f=>h<|e.trans hk.symm)]
  ·rw[Zt hk]
   by_cases h:g=k
   ·have hb:(g==k)=true:=Jd.mpr h;simp only[LA,hb,Zt (fun e:g=f=>hk<|h.symm.trans e)]
   ·have hb:(g==k)=false:=YM.mpr h;simp only[LA,hb];exact b
theorem XN (f:Str)(v:V):∀fs:List<|Str×V,f∈(Uv f v fs).map (·.1)/\∀g,g∈fs.map (·.1)->g∈(Uv f v fs).map (·.1)
 |[]=>⟨by simp[Uv],fun g h=>by simp at h⟩
 |(k,x)::r=>by
  obtain⟨b,c⟩:=XN f v r;rw[show Uv f v ((k,x)::r)=(if k=f then(k,v)::r else(k,x)::Uv f v r) from rfl]
  by_cases hk:k=f
  ·rw[Zs hk];subst hk;exact⟨by simp,fun g h=>by simpa using h⟩
  ·rw[Zt hk];refine⟨?_,fun g h=>?_⟩
   ·rw[Zu];exact Zb _ b
   ·rw[Zu]at h ⊢
    rcases Zi.mp h with e|e
    ·exact Zi.mpr (.inl e)
    ·exact Zb _ (c g e)
theorem XQ (f:Str)(v:V):∀fs:List<|Str×V,(Uv f v fs).length<=fs.length+1
 |[]=>by simp[Uv]
 |(k,x)::r=>by
  have b:=XQ f v r;rw[show Uv f v ((k,x)::r)=(if k=f then(k,v)::r else(k,x)::Uv f v r) from rfl]
  by_cases hk:k=f
  ·rw[Zs hk,Zr,Zr];lia
  ·rw[Zt hk,Zr,Zr];lia
theorem vm.some_of {v:V}(r:vm (some v) o):∃u,o=some u/\yt v u:=by
 cases o with
 |none=>exact(show False from r).elim
 |some u=>exact⟨u,rfl,r⟩
theorem vm.none_of (r:vm none o):o=none:=by
 cases o with
 |none=>rfl
 |some u=>exact(show False from r).elim
theorem OK (r:yt v u):PySem.W.handedIn u=true:=by
 cases v with
 |non=>cases(show u=EF from r);rfl
 |bl b=>cases(show u=L6 b from r);rfl
 |int i=>obtain⟨t,e⟩:=(show∃t,u=Value.int i t from r);cases e;rfl
 |str x=>obtain⟨t,e⟩:=(show∃t,u=Mi x t from r);cases e;rfl
 |byt b=>obtain⟨t,e⟩:=(show∃t,u=Value.bytes b t from r);cases e;rfl
 |flt b=>obtain⟨t,e⟩:=(show∃t,u=Value.float b t from r);cases e;rfl
 |ref a=>cases(show u=Et a from r);rfl
 |ty n=>cases(show u=Value.type n from r);rfl
section
variable {P:Eg}{w:Ek}{H H':Hp}{h h':Ev}{a C dx:Ef}{fs fs':List (Str×V)}
theorem Ie (hok:uh P w H h)(e:H a=some (.ins C dx fs)):∃mA,pB h a dx C mA/\(∀f,vm (fs.lookup f)<|mA f)/\PySem.Within mA (fs.map (·.1))/\fs.length<=1000/\H dx=some (.own a):=by
 obtain⟨d,z,ne,b,mA,n,r,q⟩:=(show yp P w H h a (.ins C dx fs) from hok a _ e);exact⟨mA,⟨b,n,ne⟩,r,q,z,d⟩
end
structure Cls (K:Cd)(C:Ef):Prop where
 pg:LR K C Mj=true
 hd:Me K C=true
 po:PySem.W.plainOver K C=true
 sa:EN K (.ref C) "__setattr__"=some (some<|.builtin "object.__setattr__")
theorem Cls.get {K:Cd}(c:Cls K C)(f:Str):LR K C f=true:=c.pg
def vq (K:Cd)(C:Ef)(f:Str):Prop:=EN K (.ref C) f=some none
theorem vq.taker {K:Cd}(n:vq K C f):PySem.W.takerIn K C f=some none:=by
 unfold PySem.W.takerIn;rw[show EN K (.ref C) f=some none from n];rfl
structure Meth (K:Cd)(C:Ef)(m:Str)(f:Ef):Prop where
 at_:EN K (.ref C) m=some (some<|.ref f)
 fn:Mu K (.ref f)=true
 kp:EW K (.ref f)=true
section
variable {X:Cx}{Do:De}{σ:St}{H:Hp}{s:Ei}{a C dx:Ef}{fs:List (Str×V)}{f:Str}{v:V}{A:ED}{E:Ee->Dh}
theorem K4 {b:Bool}{Q:Ee->Dh}(I:Inv X Do σ H s)(e:H a=some (.ins C dx fs))(c:Cls X.K C)(n:vq X.K C f)(l:fs.lookup f=some v)
  (h:∀u s',Inv X Do σ H s'->yt v u->Q u s'):Eh (Em X.prog X.w) A (getAttr (.ref a) f b) Q E s:=by
 obtain⟨i,O,r,_,_,_⟩:=Ie I.hok e;obtain⟨u,g,d⟩:=vm.some_of (v:=v) (o:=i f) (by rw[←l];exact r f);exact Sx I.uq O (c.get f) c.hd n g (OK d)<|h u _ (I.tok _) d
theorem vL {pl:Sem Bool}{Q:Ee×Db->Dh}(I:Inv X Do σ H s)(e:H a=some (.ins C dx fs))(c:Cls X.K C)(k:Meth X.K C m g)(l:fs.lookup m=none)
  (h:Q (.ref g,[.ref a]) s):Eh (Em X.prog X.w) A (Mz (.ref a) m pl) Q E s:=by
 obtain⟨b,O,r,_,_,_⟩:=Ie I.hok e;have hn:b m=none:=vm.none_of (by rw[←l];exact r m);exact PL I.uq O (c.get m) k.at_ k.fn hn h
theorem M8 {Q:Unit->Dh}(I:Inv X Do σ H s)(e:H a=some (.ins C dx fs))(c:Cls X.K C)(n:vq X.K C f)(hl:fs.length<1000)(D:yt y u)
  (h:∀s',Inv X Do σ (upd H a<|.ins C dx<|Uv f y fs) s'->Q () s'):Eh (Em X.prog X.w) A (setAttr (.ref a) f u) Q E s:=by
 obtain⟨j,O,r,l,_,i⟩:=Ie I.hok e;have v:(fs.map (·.1)).length<=sizeLine:=by rw[Q8,Ys];lia
 refine Tg I.uq O c.sa c.po n.taker c.hd l v fun p d B=>h _ ?_;have hd:∃o,p.get? dx=some o:=let ⟨o,_,_,e',_⟩:=d.ns;⟨o,e'⟩;refine I.write (x:=a) (e:=dx) (by rw[e];exact Lg) (.inr i) (fun b q hb z=>(B.2 b hb).trans z) hd ?_;refine⟨by rw[zH O.ne];exact i,?_,O.ne,d.obj,_,d.ns,fun g=>?_,fun g t=>?_⟩
 ·have:=XQ f y fs;lia
 ·show vm ((Uv f y fs).lookup g) (if g=f then some u else j g);rw[XO]
  by_cases q:g=f
  ·rwa[Zs q,Zs q]
  ·rw[Zt q,Zt q];exact r g
 ·by_cases q:g=f
  ·rw[q];exact(XN f y fs).1
  ·refine(XN f y fs).2 g (l g fun z=>t ?_);show(if g=f then some u else j g)=none;rwa[Zt q]
theorem Inv.made (I:Inv X Do σ H s):Inv X Do σ (upd (upd H s.heap.objs.size<|.own<|s.heap.objs.size+1) (s.heap.objs.size+1)<|.ins C s.heap.objs.size [])
  { s with heap:=(s.heap.push E6).push (Ll C s.heap.objs.size) }:=by
 have c:(s.heap.push E6).get? s.heap.objs.size=some PySem.W.emptyDict:=Zp s.heap rfl;have f:((s.heap.push E6).push<|Ll C s.heap.objs.size).get? (s.heap.objs.size+1)=some (Ll C s.heap.objs.size):=by
  have:=Zp (s.heap.push E6) (o:=Ll C s.heap.objs.size) rfl
  rwa[YB]at this
 have g:(s.heap.push E6).Ns s.heap.objs.size (fun _=>none):=⟨E6,#[],_,c,rfl,(fun e h=>absurd h<|by simp),fun _=>rfl⟩;have d:=I.laid (a:=s.heap.objs.size) (o:=.own<|s.heap.objs.size+1) (h':=s.heap.push E6) (t':=s.toks) (fun b u q=>Zd _ q) (Zf _) ⟨_,c⟩;refine d.laid (a:=s.heap.objs.size+1) (o:=.ins C s.heap.objs.size []) (t':=s.toks) (fun b u q=>Zd _ q) (J8<|YB _ _) ?_;have ne:s.heap.objs.size≠s.heap.objs.size+1:=Zz<|Jn _;refine⟨by rw[zH ne,zC],ZN _,ne,f,fun _=>none,(Heap.Ns1.of_empty g).at fun o q=>Zd _ q,fun _=>Lg,fun y i=>absurd rfl i⟩
theorem Sf {prog:Eg}{w:Ek}{env:Env}{e:EI}{f:Str}{pos:Pos}{s:Ei}{Q:Ee->Dh}(hb:Lr e f env (E3 e env)=E3 e env)
  (h:Eh (Em prog w) A (E3 e env) (fun o s₁=>Eh (Em prog w) A (getAttr o f true) Q E s₁) E s):Eh (Em prog w) A (E3 (.Attribute e f pos) env) Q E s :=
 Attribute_any_ h (by rw[arm_eval_Attribute,hb])
end
def cq (K:Cd)(d:TE)(f:Str):TE:=fun e H Q=>d e H fun x b=>∃a C c fs v,x=.ref a/\b a=some (.ins C c fs)/\Cls K C/\vq K C f/\fs.lookup f=some v/\Q v b
def cj (K:Cd)(g h:TE)(f:Str):TS:=fun D b H=>h b H fun y e=>g b e fun x c=>∃a C d fs,x=.ref a/\c a=some (.ins C d fs)/\Cls K C/\vq K C f/\fs.length<1000 /\
 D.nx b (upd c a<|.ins C d<|Uv f y fs)
section
variable {X:Cx}{o e value:EI}{f:Str}{pos DG D5:Pos}{ta tv:TE}
theorem kA (o:PE X e ta)(hb:Lr e f X.env (E3 e X.env)=E3 e X.env):PE X (.Attribute e f pos) (cq X.K ta f):=by
 intro b s t H Q I h;refine Sf hb<|Ci (o b s t H _ I h) fun u y hh=>?_;obtain⟨x,d,g,r,a,C,w,fs,v,ex,j,c,n,l,q⟩:=hh;subst ex;obtain rfl:u=Et a:=r;exact K4 g j c n l fun A z i p=>⟨v,d,i,p,q⟩
theorem MY (ha:PE X o ta)(r:PE X value tv)(hs:My value (some<|.Attribute o f DG) pos.line X.env=Lo false):PS X (.Assign [.Attribute o f DG] value pos) (cj X.K ta tv f):=by
 intro d s b H D I h;refine plainObj_wpAny_Assign_Attribute (Ci (r d s b H _ I h) fun u A ⟨y,e,g,z,q⟩=>Ci (ha d A b e _ g q) fun t F hh=>?_) hs;obtain⟨x,B,i,w,a,C,E,fs,ex,p,c,n,l,v⟩:=hh;subst ex;obtain rfl:t=Et a:=w;exact M8 i p c n l z fun G j=>⟨b,_,j,v⟩
end
section
variable {X:Cx}{Do:De}{σ:St}{H:Hp}{s:Ei}{A:ED}{E:Ee->Dh}{Q:Ee->Dh}{c:Ee}{b:Bool}
inductive tL (K:Cd)(H:Hp):V->Ee->Prop where
 |non:tL K H .non<|.type "NoneType"
 |bl (x:Bool):tL K H (.bl x)<|.type "bool"
 |int (i:Int):tL K H (.int i)<|.type "int"
 |str (x:Str):tL K H (.str x)<|.type "str"
 |flt (x:UInt64):tL K H (.flt x)<|.type "float"
 |lst {a:Ef} {xs:Dj} (e:H a=some (.lst xs)):tL K H (.ref a)<|.type "list"
 |frz {a:Ef} {o:Obj} {xs:Dj} (e:H a=some (.frz o<|.lst xs)):tL K H (.ref a)<|.type "list"
 |tup {a:Ef} {xs:Dj} (e:H a=some (.tup xs)):tL K H (.ref a)<|.type "tuple"
 |dK {a:Ef} {Dm:Dl} (e:H a=some (.dK Dm)):tL K H (.ref a)<|.type "dict"
 |dT {a:Ef} {Dm:List (List Key×V)} (e:H a=some (.dT Dm)):tL K H (.ref a)<|.type "dict"
 |ins {a C dx:Ef} {fs:List (Str×V)} (e:H a=some (.ins C dx fs)) (cl:Cls K C) (ha:EN K (.ref C) "__class__"=some (some<|.builtin "object.__class__"))
   (hn:PySem.W.specialIn K (.builtin "object.__class__") "__get__"=some (some<|.builtin "getset_descriptor.__get__")) (htk:PySem.W.takesIn K (.builtin "object.__class__")=some true)
   (hm:PySem.W.mroIn K C (.type "object")=some true):tL K H (.ref a)<|.ref C
theorem q8 (I:Inv X Do σ H s)(d:yt x u)(ty:tL X.K H x t)(e:ER X.K t c=some b)(h:∀tk,Q (.bool b) { s with toks:=tk }) :
  Eh (Em X.prog X.w) A (call (.builtin "isinstance") [u,c]) Q E s:=by
 cases ty with
 |non=>cases(show u=EF from d);exact Yn PySem.W.kitx_none I.uq Lg e (fun z=>nomatch z) h
 |bl y=>cases(show u=L6 y from d);exact Yn PySem.W.kitx_bool I.uq Lg e (fun z=>nomatch z) h
 |int i=>obtain⟨t,q⟩:=(show∃t,u=Value.int i t from d);cases q;exact Yn PySem.W.kitx_int I.uq Lg e (fun z=>nomatch z) h
 |str y=>obtain⟨t,q⟩:=(show∃t,u=Mi y t from d);cases q;exact Yn PySem.W.kitx_str I.uq Lg e (fun z=>nomatch z) h
 |flt y=>obtain⟨t,q⟩:=(show∃t,u=Value.float y t from d);cases q;exact Yn PySem.W.kitx_float I.uq Lg e (fun z=>nomatch z) h
 | @lst a g ea =>
  cases(show u=Et a from d);obtain⟨_,_,n,_,f⟩:=(show yp X.prog X.w H s.heap a (.lst g) from I.hok a _ ea);exact Yn Uc I.uq ⟨_,f,rfl⟩ e (fun z=>nomatch z) h
 | @frz a ob g ea =>
  cases(show u=Et a from d);obtain⟨_,_,_,n,_,f⟩:=(show yp X.prog X.w H s.heap a (.frz ob<|.lst g) from I.hok a _ ea);exact Yn Uc I.uq ⟨_,f,rfl⟩ e (fun z=>nomatch z) h
 | @tup a g ea =>
  cases(show u=Et a from d);obtain⟨_,_,_,p⟩:=(show yp X.prog X.w H s.heap a (.tup g) from I.hok a _ ea);obtain⟨o,f,j,_⟩:=p;exact Yn PySem.W.kitx_tuple I.uq ⟨o,f,j⟩ e (fun z=>nomatch z) h
 | @dK a Dm ea =>
  cases(show u=Et a from d);obtain⟨_,_,D,_,p⟩:=(show yp X.prog X.w H s.heap a (.dK Dm) from I.hok a _ ea);obtain⟨o,r,l,f,j,_⟩:=p;exact Yn Ud I.uq ⟨o,f,j.1⟩ e (fun z=>nomatch z) h
 | @dT a Dm ea =>
  cases(show u=Et a from d);obtain⟨_,_,g,_,o,r,l,f,j,_⟩:=(show yp X.prog X.w H s.heap a (.dT Dm) from I.hok a _ ea);exact Yn Ud I.uq ⟨o,f,j.1⟩ e (fun z=>nomatch z) h
 | @ins a C dx fs ea cl ha hn htk hm =>
  cases(show u=Et a from d);obtain⟨v,O,_⟩:=Ie I.hok ea;obtain⟨B,J,_⟩:=O.look;exact Yn (PySem.W.kitx_own (cl.get _) cl.hd ha hn htk hm) I.uq J e (fun z=>nomatch z) h
end
structure wX (k:Nat)(A:ED):Prop where
 hd:A.handled=none
 dp:A.depth+3*k+5<recursionLimit
 un:A.units+16*k+200<Lb
theorem wX.mono {j:Nat}(r:wX k A)(h:j<=k):wX j A:=⟨r.hd,by have:=r.dp;lia,by have:=r.un;lia⟩
theorem wX.m {j:Nat}(r:wX k A)(h:j<=k:=by decide):wX j A:=r.mono h
theorem wX.deeper {k:Nat}(r:wX (k+1) A)(env:Env):wX k (A.deeper env) :=
 ⟨r.hd,by have:=r.dp;show A.depth+1+3*k+5<_;lia,by have:=r.un;show A.units+3+16*k+200<_;lia⟩
theorem MM {A:ED}{C:Ef}{us:Db}{b:List (Str×Ee)}:(A.under<|.builtin "type.__call__" ⟨.ref C::us,b⟩).depth=A.depth+1:=by
 first|rfl|simp[Around.under,Code.weight,Code.isCreation,Code.isGuard,Code.isCaller,Code.frames,Code.isFrame,guardIds]
theorem MN {A:ED}{C:Ef}{us:Db}{b:List (Str×Ee)}:(A.under<|.builtin "type.__call__" ⟨.ref C::us,b⟩).units=A.units+1:=by
 first|rfl|simp[Around.under,Code.cUnits,Code.frames,Code.isFrame]
theorem wX.make {k:Nat}(r:wX (k+1) A)(C:Ef)(us:Db)(b:List<|Str×Ee):wX k (A.under<|.builtin "type.__call__" ⟨.ref C::us,b⟩) :=
 ⟨r.hd,by have:=r.dp;rw[MM];lia,by have:=r.un;rw[MN];lia⟩
theorem wX.depth (r:wX k A):A.depth<recursionLimit:=by have:=r.dp;lia
theorem wX.units (r:wX k A):A.units+64<cLine:=by have:=r.un;lia
def Gd:TA:=fun _ H Q=>Q [] H
def be (e:TE)(f:TA):TA:=fun b H Q=>e b H fun x c=>f b c fun g d=>Q (x::g) d
section
variable {X:Cx}{e:EI}{es:List EI}{te:TE}{t:TA}{pos:Pos}
theorem zB:PA X [] Gd:=fun _ _ _ _ H Q I h=>Mf ⟨[],H,I,.nil,h⟩
theorem zA (ha:PE X e te)(j:PA X es t)(hs:Eu (e::es) X.env=(false,E3 e X.env)::Eu es X.env:=by rfl):PA X (e::es) (be te t):=by
 intro pos b s c H Q I h;rw[hs];show Eh _ _ (spliced ((false,E3 e X.env)::La pos (Eu es X.env))) _ _ s;refine LC<|Ci (ha b s c H _ I h) fun u q ⟨x,d,g,o,l⟩=>?_;exact Ci (j pos b q c d _ g l) fun w v ⟨r,f,i,p,n⟩=>⟨x::r,f,i,.cons o p,n⟩
inductive mC (o:Dj->HO)(Q:VK)(xs:Dj)(H1:Hp):Prop
 |mk (l:xs.length<=sizeLine) (q:∀p,H1 p=none->Q (.ref p) (upd H1 p<|o xs)):mC o Q xs H1
def cF (t:TA):TE:=fun d H Q=>t d H fun c b=>mC .tup Q c b
def cA (t:TA):TE:=fun d H Q=>t d H fun c b=>mC .lst Q c b
theorem yQ {x1}(h:PA X es t):PE X (.Tuple es x1 pos) (cF t):=by
 intro g s o H Q I j;refine wpAny_Tuple_spliced (Ci (h pos g s o H _ I j) fun l c ⟨n,d,f,r,z,q⟩=>⟨by rw[←r.length];exact z,?_⟩);have i:d c.heap.objs.size=none:=f.hok.fresh<|Zf _;refine⟨.ref c.heap.objs.size,upd d c.heap.objs.size<|.tup n,f.laid (t':=c.toks) (fun b u e=>Zd _ e) (Zf _) ?_,rfl,q _ i⟩;exact⟨z,l,r,TupAt.new _ _⟩
theorem xU (h:PA X es t):PE X (.List es pos) (cA t):=by
 intro g s o H Q I j;refine wpAny_List_spliced (Ci (h pos g s o H _ I j) fun l c ⟨n,d,f,r,z,q⟩=>⟨by rw[←r.length];exact z,?_⟩);have i:d c.heap.objs.size=none:=f.hok.fresh<|Zf _;refine⟨.ref c.heap.objs.size,upd d c.heap.objs.size<|.lst n,f.laid (t':=c.toks) (fun b u e=>Zd _ e) (Zf _) ?_,rfl,q _ i⟩;exact⟨z,l,0,r,Zp _ rfl⟩
end
abbrev Sp:=Dj->Hp->VK->XK->Prop
abbrev Pf:=List Env->Hp->Ei->XK->Ee->Dh
structure pF (P:Eg)(w:Ek)(K:Cd)(mg:Str->Dc)(base:Ev)(A:ED)(outer:List Env)(s:Ei)(H:Hp):Prop where
 frames:A.frames=some outer
 mod:Mod K mg base
 bs:∀b o,base.get? b=some o->s.heap.get? b=some o/\H b=none
 oK:base.objs.size<=s.heap.objs.size
 uc:s.heap.FunFrames base outer
 nF:∀b∈frs outer,H b=none
 hok:uh P w H s.heap
 bare:Mt s.gens
def CE (outer:List Env)(P:Eg)(w:Ek)(H:Hp)(s:Ei)(Q:VK)(u:Ee)(b:Ei):Prop :=
 ∃v c,b.os=s.os/\Mt b.gens/\Un (frs outer) [] H c s.heap b.heap/\uh P w c b.heap/\yt v u/\Q v c
def CR (CX:Pf)(outer:List Env)(P:Eg)(w:Ek)(H:Hp)(s:Ei)(Q:VK)(E:XK)(r:Result)(b:Ei):Prop :=
 match r with
 | .ok (.ret u)=>CE outer P w H s Q u b
 | .ok _=>False
 | .error e=>CX outer H s E e b
structure yx (P:Eg)(w:Ek)(K:Cd)(mg:Str->Dc)(base:Ev)(CX:Pf)(k:Nat)(f:Ef)(fd:Eo)(ps:Da)(sp:Sp):Prop where
 len:∀vs H Q E,sp vs H Q E->vs.length=ps.length
 run:∀(A:ED) (outer:List Env) (s:Ei) (H:Hp) (args:Args) (us:Db) (vs:Dj) (Q:VK) (E:XK),wX k A->pF P w K mg base A outer s H->BindsTo s fd args (ps.zip us)->yr vs us->sp vs H Q E ->
  LS (Em P w) A (.call (.ref f) args) (CR CX outer P w H s Q E) s
theorem pF.make {K:Cd}(e:pF P w K mg base A outer s H)(C:Ef)(us:Db)(b:List<|Str×Ee) :
  pF P w K mg base (A.under<|.builtin "type.__call__" ⟨.ref C::us,b⟩) outer s H:=⟨by first|exact e.frames|(simpa[Around.under,Code.envs,Code.isFrame,pushEnvs] using e.frames),e.mod,e.bs,e.oK,e.uc,e.nF,e.hok,e.bare⟩
section
variable {X:Cx}{Do:De}{σ:St}{H:Hp}{s s':Ei}
theorem Inv.env0 (I:Inv X Do σ H s):pF X.prog X.w X.K X.mg X.base X.A X.stack s H :=
 ⟨I.ok.frames,I.ok.mod,I.bs,Z0 I.ok.oK I.sz,I.stack,I.tO,I.hok,I.bare⟩
theorem Inv.after (I:Inv X Do σ H s)(h:CE X.stack X.prog X.w H s Q u s'):EP X Do σ Q u s':=by
 obtain⟨v,e,os,bare,un,hok,r,q⟩:=h;obtain⟨f,g,d,t,c⟩:=s';obtain rfl:c=s.os:=os;exact⟨v,e,I.call (h':=f) (g':=g) (d':=d) (t':=t) (ch:=[]) un hok bare<|fun b z=>absurd z<|by simp,r,q⟩
end
def TU (sp:Sp)(b:Dj)(E:XK)(t:TA):TE:=fun e H Q=>t e H fun d c=>sp (d++b) c Q E
inductive lQ (C:Ef)(m:Str)(sp:Sp)(dvs:Dj)(E:XK)(t:TA)(σ:St)(Q:VK)(x:V)(H1:Hp):Prop
 |mk (a dx:Ef) (fs:List<|Str×V) (e:x=.ref a) (h:H1 a=some (.ins C dx fs)) (n:fs.lookup m=none) (q:t σ H1 fun vs H2=>sp (x::(vs++dvs)) H2 Q E):lQ C m sp dvs E t σ Q x H1
def Ob (C:Ef)(m:Str)(sp:Sp)(b:Dj)(E:XK)(e:TE)(t:TA):TE:=fun c H Q=>e c H fun x d=>lQ C m sp b E t c Q x d
def TW (C:Ef)(sp:Sp)(d:Dj)(E:XK)(t:TA):TE:=fun g H Q=>t g H fun f c=>∀x b,c x=none->c b=none->b≠x ->
 sp (.ref x::(f++d)) (upd (upd c b<|.own x) x<|.ins C b []) (fun v e=>v=.non/\Q (.ref x) e) E
def wU (K:Cd)(d:Eo)(ps:Da)(c:Db):Prop :=
 ∀(s:Ei) (b:Db),K.In s.heap->(b++c).length=ps.length->BindsTo s d ⟨b,[]⟩ (ps.zip<|b++c)
theorem wU.all {K:Cd}{b:Eo}{ps:Da}(h:∀us:Db,us.length=ps.length->bindArgs b ⟨us,[]⟩=Lo (ps.zip us)):wU K b ps []:=fun s us _ hl=>by
 rw[ZG]at hl ⊢;exact .of_eq<|h us hl
def v9 (CX:Pf)(X:Cx)(E:XK):Prop:=∀(c:De) (d:St) (H:Hp) (s:Ei) (e:Ee) (b:Ei),Inv X c d H s->CX X.stack H s E e b->X.xe e b
section
variable {X:Cx}{CX:Pf}{k:Nat}{f C:Ef}{fd:Eo}{ps:Da}{sp:Sp}{dvs:Dj}{ds:Db}{E:XK}{x m:Str}{p pos Dr:Pos}{e o:EI}{es:List EI}{ta:TE}{t:TA}
theorem M7 {c:De}{d:St}{H:Hp}{s:Ei}{Q:VK}{us:Db}{vs:Dj}(F:yx X.prog X.w X.K X.mg X.base CX k f fd ps sp)(i:wX k X.A)(hb:wU X.K fd ps ds)(hd:yr dvs ds)(j:v9 CX X E)
  (I:Inv X c d H s) (r:yr vs us) (h:sp (vs++dvs) H Q E):Eh (Em X.prog X.w) X.A (call (.ref f) us) (EP X c d Q) X.xe s:=by
 have g:yr (vs++dvs) (us++ds):=r.append hd;have hl:(us++ds).length=ps.length:=by rw[←g.length];exact F.len _ _ _ _ h
 refine Vl<|YY (F.run X.A X.stack s H ⟨us,[]⟩ (us++ds) (vs++dvs) Q E i I.env0 (hb s us I.uq hl) g h) fun r l b=>?_;cases r with
 |error e=>exact j c d H s e l I b
 |ok fl =>
  cases fl with
  |ret u=>exact I.after b
  |next=>exact EG b
  |brk=>exact EG b
  |cont=>exact EG b
theorem SO (F:yx X.prog X.w X.K X.mg X.base CX k f fd ps sp)(l:wX k X.A)(j:Gl X x)(hm:X.mg x=some (.ref f))(hk:EW X.K (.ref f)=true)(hb:wU X.K fd ps ds)(hd:yr dvs ds)(n:v9 CX X E)
  (ha:PA X (e::es) t) (b:(x==("__debug__":Str))=false:=by decide) (i:Eu (e::es) X.env=(false,E3 e X.env)::Eu es X.env:=by rfl) (c:(La pos<|Eu es X.env).any (·.1)=false:=by rfl) :
  PE X (.Call (.Name x p) (e::es) [] pos) (TU sp dvs E t):=by
 intro g s o H Q I h;refine Jr<|uY I j hm ?_ b;refine JN (h₀:=X.base) I.ok.mod.mW hk (Ci (ha pos g s o H _ I h) fun y v ⟨z,u,d,r,q⟩=>⟨d.uq,?_⟩) i c;exact M7 F l hb hd n d r q
theorem SU {pl:Sem Bool}(y:PE X o ta)(c:Cls X.K C)(hm:Meth X.K C m f)(F:yx X.prog X.w X.K X.mg X.base CX k f fd ps sp)(z:wX k X.A)(hb:wU X.K fd ps ds)(hd:yr dvs ds)(D:v9 CX X E)(ha:PA X (e::es) t)
  (d:Eu (e::es) X.env=(false,E3 e X.env)::Eu es X.env:=by rfl) (b:(La pos<|Eu es X.env).any (·.1)=false:=by rfl)
  (B:E3 (.Call (.Attribute o m Dr) (e::es) [] pos) X.env=(do
   let ov ←E3 o X.env
   standAt Dr.atName
   let (f,first) ←MD [ov] (Mz ov m pl)
   callWith pos f first (La pos<|Eu (e::es) X.env) (Mp pos<|LB [] X.env)):=by rfl) :
  PE X (.Call (.Attribute o m Dr) (e::es) [] pos) (Ob C m sp dvs E ta t):=by
 intro g s n H Q I h;refine VF (pl:=pl) (Ci (y g s n H _ I h) fun u L hh=>?_) B;obtain⟨x,p,i,J,a,N,fs,ex,v,l,q⟩:=hh;subst ex;obtain rfl:u=Et a:=J;refine vL i v c hm l ?_;refine JN (first:=[.ref a]) (h₀:=X.base) I.ok.mod.mW hm.kp (Ci (ha pos g L n p _ i q) fun us O ⟨vs,M,j,r,G⟩=>⟨j.uq,?_⟩) d b;exact M7 (us:=.ref a::us) (vs:=.ref a::vs) F z hb hd D j (.cons rfl r) G
theorem Ry {pl:Sem Bool}(g:PE X o ta)(c:Cls X.K C)(hm:Meth X.K C m f)(F:yx X.prog X.w X.K X.mg X.base CX k f fd ps sp)(i:wX k X.A)(hb:wU X.K fd ps ds)(hd:yr dvs ds)(n:v9 CX X E)
  (j:E3 (.Call (.Attribute o m Dr) [] [] pos) X.env=(do
   let ov ←E3 o X.env
   standAt Dr.atName
   let (f,first) ←MD [ov] (Mz ov m pl)
   callWith pos f first (La pos<|Eu [] X.env) (Mp pos<|LB [] X.env)):=by rfl) :
  PE X (.Call (.Attribute o m Dr) [] [] pos) (Ob C m sp dvs E ta Gd):=by
 intro d s r H Q I h;refine VF (pl:=pl) (Ci (g d s r H _ I h) fun u y hh=>?_) j;obtain⟨x,t,b,p,a,v,fs,ex,e,l,q⟩:=hh;subst ex;obtain rfl:u=Et a:=p;refine vL b e c hm l ?_;exact PySem.W.callWith_K0 (first:=[.ref a]) b.uq hm.kp<|M7 (us:=[.ref a]) (vs:=[.ref a]) F i hb hd n b (.cons rfl .nil) q
structure Mk (K:Cd)(C f:Ef):Prop where
 makes:Mr K C=true
 init:EN K (.ref C) "__init__"=some (some<|.ref f)
 fn:Mu K (.ref f)=true
 kp:EW K (.ref C)=true
theorem RV {d:De}{g:St}{H:Hp}{s:Ei}{Q:VK}{us:Db}{vs:Dj}(M:Mk X.K C f)(F:yx X.prog X.w X.K X.mg X.base CX k f fd ps sp)(p:wX (k+1) X.A)(hb:wU X.K fd ps ds)(hd:yr dvs ds)
  (q:v9 CX X E) (I:Inv X d g H s) (r:yr vs us)
  (h:∀x dx,H x=none->H dx=none->dx≠x->sp (.ref x::(vs++dvs)) (upd (upd H dx<|.own x) x<|.ins C dx []) (fun v H2=>v=.non/\Q (.ref x) H2) E) :
  Eh (Em X.prog X.w) X.A (call (.ref C) us) (EP X d g Q) X.xe s:=by
 have i:=h (s.heap.objs.size+1) s.heap.objs.size (I.hok.fresh<|JD _) (I.hok.fresh<|Zf _)<|Zz<|Jn _;have c:=Inv.made (C:=C) I;have j:yr (V.ref (s.heap.objs.size+1)::(vs++dvs)) (Et (s.heap.objs.size+1)::(us++ds)):=.cons rfl<|r.append hd;have hl:(Et (s.heap.objs.size+1)::us++ds).length=ps.length:=by
  have e:=j.length;rw[F.len _ _ _ _ i]at e;exact e.symm
 refine Vl<|Rh (f:=f) I.uq M.makes M.init (Jd.mp M.fn)<|YY (F.run _ X.stack _ _ ⟨Et (s.heap.objs.size+1)::us,[]⟩ (Et (s.heap.objs.size+1)::(us++ds)) _ _ E (p.make C us []) (c.env0.make C us []) (hb _ (Et (s.heap.objs.size+1)::us) c.uq hl) j i) fun r z b=>?_
 cases r with
 |error e=>exact q d g _ _ e z c b
 |ok fl =>
  cases fl with
  |ret u =>
   obtain⟨v,l,n,y,o,t⟩:=c.after b;subst o;exact⟨y,⟨V.ref<|s.heap.objs.size+1,l,n,rfl,t⟩⟩
  |next=>exact EG b
  |brk=>exact EG b
  |cont=>exact EG b
theorem SS (M:Mk X.K C f)(F:yx X.prog X.w X.K X.mg X.base CX k f fd ps sp)(l:wX (k+1) X.A)(j:Gl X x)(hm:X.mg x=some (.ref C))(hb:wU X.K fd ps ds)(hd:yr dvs ds)(n:v9 CX X E)
  (ha:PA X (e::es) t) (b:(x==("__debug__":Str))=false:=by decide) (i:Eu (e::es) X.env=(false,E3 e X.env)::Eu es X.env:=by rfl) (c:(La pos<|Eu es X.env).any (·.1)=false:=by rfl) :
  PE X (.Call (.Name x p) (e::es) [] pos) (TW C sp dvs E t):=by
 intro g s o H Q I h;refine Jr<|uY I j hm ?_ b;refine JN (h₀:=X.base) I.ok.mod.mW M.kp (Ci (ha pos g s o H _ I h) fun y v ⟨z,u,d,r,q⟩=>⟨d.uq,?_⟩) i c;exact RV M F l hb hd n d r q
end
structure zx (N P:Da)(sc:LX):Prop where
 kind:sc.kind=.function
 co:sc.isCoroutine=false
 gen:sc.isGenerator=false
 nd:N.Nodup
 pre:N.take P.length=P
 par:∀x∈P,sc.names.lookup x=some .local\/sc.names.lookup x=some .cell
 mK:∀y∈sc.names,y.2≠.free
theorem Cp {N P:Da}{sc:LX}(a:sc.kind=.function:=by rfl)(b:sc.isCoroutine=false:=by rfl)(c:sc.isGenerator=false:=by rfl)(d:N.Nodup:=by decide +kernel)(e:N.take P.length=P:=by rfl)(f:∀x∈P,sc.names.lookup x=some .local\/sc.names.lookup x=some .cell:=by decide +kernel)(g:∀y∈sc.names,y.2≠.free:=by decide +kernel):zx N P sc:=⟨a,b,c,d,e,f,g⟩
theorem Bp {kindOf:Str->Option LZ}{x:Str}:∀{binds:List (Str×Ee)} {m:Str->Dc},(∀v,(x,v)∉binds)->bindL kindOf binds m x=m x
 |[],_,_=>rfl
 |(n,v)::r,m,h=>by
  unfold bindL;rw[Bp fun w b=>h w<|Zb _ b]
  split
  ·have:x≠n:=by rintro rfl;exact h v Ze
   simp[this]
  ·rfl
theorem B4 {kindOf:Str->Option LZ}{x:Str}:∀{binds:List (Str×Ee)} {m:Str->Dc},(∀v,(x,v)∉binds)->bindC kindOf binds m x=m x
 |[],_,_=>rfl
 |(n,v)::r,m,h=>by
  unfold bindC;rw[B4 fun w b=>h w<|Zb _ b]
  split
  ·rfl
  ·have:x≠n:=by rintro rfl;exact h v Ze
   simp[this]
theorem BS {kindOf:Str->Option LZ}{x:Str}{v:Ee}:∀{P:Da} {vs:Db} {i:Nat} {m:Str->Dc},P.Nodup->P[i]?=some x->vs[i]?=some v->kindOf x=some .local ->
  bindL kindOf (P.zip vs) m x=some v
 |[],_,_,_,_,h,_,_=>by simp at h
 |_::_,[],_,_,_,_,h,_=>by simp at h
 |p::P,w::vs,0,m,nd,h1,h2,hk=>by
  simp at h1 h2;subst h1;subst h2;show bindL kindOf ((p,w)::P.zip vs) m p=_;unfold bindL;rw[Bp fun v b=>(ZS.mp nd).1 (Vh b).1,Zs hk];simp
 |p::P,w::vs,i+1,m,nd,h1,h2,hk=>by
  show bindL kindOf ((p,w)::P.zip vs) m x=_;unfold bindL;exact BS (i:=i) (ZS.mp nd).2 (by simpa using h1) (by simpa using h2) hk
theorem Bz {kindOf:Str->Option LZ}{x:Str}{v:Ee}:∀{P:Da} {vs:Db} {i:Nat} {m:Str->Dc},P.Nodup->P[i]?=some x->vs[i]?=some v->kindOf x≠some .local ->
  bindC kindOf (P.zip vs) m x=some v
 |[],_,_,_,_,h,_,_=>by simp at h
 |_::_,[],_,_,_,_,h,_=>by simp at h
 |p::P,w::vs,0,m,nd,h1,h2,hk=>by
  simp at h1 h2;subst h1;subst h2;show bindC kindOf ((p,w)::P.zip vs) m p=_;unfold bindC;rw[B4 fun v b=>(ZS.mp nd).1 (Vh b).1,Zt hk];simp
 |p::P,w::vs,i+1,m,nd,h1,h2,hk=>by
  show bindC kindOf ((p,w)::P.zip vs) m x=_;unfold bindC;exact Bz (i:=i) (ZS.mp nd).2 (by simpa using h1) (by simpa using h2) hk
def start (N:Da)(vs:Dj):St:=vs.map some++Lw (N.length-vs.length) none
def DE (CX:Pf)(P:Eg)(w:Ek)(K:Cd)(mg:Str->Dc)(base:Ev)(N:Da)(qual:Str)(scope:LX)(f:Ef)(c:Ee)(A:ED)(outer:List Env)(s:Ei)(H:Hp)(E:XK):Cx where
 prog:=P
 w:=w
 K:=K
 mg:=mg
 base:=base
 A:=A.deeper<|envOfC qual scope s.heap.objs.size f c
 N:=N
 s₀:=s
 H₀:=H
 env:=envOfC qual scope s.heap.objs.size f c
 outer:=outer
 stack:=envOfC qual scope s.heap.objs.size f c::outer
 ex:=[]
 calm:=true
 fn:=fun _=>true
 pn:=[]
 xe:=fun e g=>Eh (Em P w) (A.deeper<|envOfC qual scope s.heap.objs.size f c) (leaving (envOfC qual scope s.heap.objs.size f c) e) (fun _ b=>CX outer H s E e b) (fun d b=>CX outer H s E d b) g
theorem F1 {sc:LX}{n:Nat}{x:Str}(h:sc.names.lookup x=some .cell):∃c,(cellsFrom n sc.names []).lookup x=some c:=by
 have q:=PySem.W.cellsFrom_some sc.names n []<|.inl h;exact Jf.mp q
theorem OM {CX:Pf}{P:Eg}{w:Ek}{K:Cd}{mg:Str->Dc}{base:Ev}{N ps:Da}{qual:Str}{scope:LX}{f:Ef}{B:Ee}{A:ED}{outer:List Env}{s G:Ei}{H:Hp}{E:XK}{us:Db}{vs:Dj}
  (S:zx N ps scope) (hd:A.handled=none) (g:pF P w K mg base A outer s H) (hl:vs.length=ps.length) (r:yr vs us)
  (x:InCallC s s.heap.objs.size (bindL (envOfC qual scope s.heap.objs.size f B).kindOf (ps.zip us) fun _=>none) (cellsFrom (s.heap.objs.size+1) scope.names []) (bindC (envOfC qual scope s.heap.objs.size f B).kindOf (ps.zip us) fun _=>none) G) :
  Inv (DE CX P w K mg base N qual scope f B A outer s H E) [] (start N vs) H G:=by
 have I:ps.length<=N.length:=by have:=congrArg List.length S.pre;rw[ZB]at this;lia
 obtain⟨D,M,rfl,hk⟩:=x.done;have l:∀b:Ef,b∉(DE CX P w K mg base N qual scope f B A outer s H E).ex:=fun b z=>absurd (show b∈([]:Dd) from z) (by simp);refine⟨⟨g.mod,S.kind,rfl,rfl,Zf _,fun y z c D d=>?_,fun y j=>?_,fun y c _ h=>?_,fun _=>hd,Around.frames_deeper g.frames,.inr ⟨rfl,rfl⟩,fun b z=>absurd z<|l b,g.bs,g.oK,fun b _ _=>l b,fun b z=>absurd z<|l b,g.uc,g.nF⟩,rfl,g.bare,Un.kept hk,⟨_,x.toInCall.ns,fun i y v D d L=>?_⟩,fun y c h=>⟨_,x.cell y c h⟩,g.hok.fresh<|Zf _,fun y c h=>?_,fun p o=>absurd (show p∈([]:De) from o) (by simp),g.hok.kept hk,?_⟩
 ·exact name_of_addr x.apart (Y5 D) (Y5 d)
 ·have j:scope.names.lookup y=some .cell\/scope.names.lookup y=some .free:=j
  rcases j with j|j
  ·exact F1 j
  ·exact absurd rfl (S.mK _<|Y5 j)
 ·exact YK (x.above y c<|Y5 h)
 ·have C:i<vs.length:=by
   unfold start at d
   by_cases C:i<vs.length
   ·exact C
   ·rw[Yo<|by simpa using C]at d;rw[List.getElem?_replicate]at d
    split at d<;>cases d
  have ha:vs[i]?=some v:=by
   unfold start at d;rw[Yj<|by simpa using C,Zk]at d;cases e:vs[i]? with
   |none=>rw[e]at d;cases d
   |some a=>rw[e]at d;cases d;rfl
  obtain⟨u,F,J⟩:=r.get ha;have o:ps[i]?=some y:=by
   rwa[←S.pre,List.getElem?_take_of_lt<|by lia]
  have t:ps.Nodup:=by rw[←S.pre];exact S.nd.sublist<|List.take_sublist _ _
  refine⟨u,J,?_⟩
  rcases S.par y (Zn o) with k|k
  ·exact .inl ⟨k,BS t o F k⟩
  ·obtain⟨c,e⟩:=F1 (n:=s.heap.objs.size+1) k;refine .inr ⟨.inl k,c,e,?_⟩;have q:=x.cell y c e;rw[Bz t o F (by show scope.names.lookup y≠_;rw[k];decide)]at q;exact q
 ·exact g.hok.fresh (YK<|x.above y c<|Y5 h)
 ·unfold start;show _=N.length;rw[Zh,Q8,List.length_replicate];lia
theorem TC {CX:Pf}{P:Eg}{w:Ek}{K:Cd}{mg:Str->Dc}{base:Ev}{k:Nat}{f:Ef}{name qual:Str}{params:Arguments}{body:List EQ}{scope:LX}{R kV i pm c ct oc:Ee}{M od:Option Ef}
  {D:Array Dc} {N ps:Da} {sp:Sp} (lk:K.lookup f=some ⟨oc,od,.func<|E7 name qual params body scope R kV i pm M c ct,D⟩) (z:Lx K c qual=true) (S:zx N ps scope)
  (len:∀vs H Q E,sp vs H Q E->vs.length=ps.length)
  (U:∀(A:ED) (outer:List Env) (s:Ei) (H:Hp) (vs:Dj) (Q:VK) (E:XK),wX k (A.deeper<|envOfC qual scope s.heap.objs.size f c)->sp vs H Q E -> ∃t,sX (DE CX P w K mg base N qual scope f c A outer s H E) body t/\t { nx:=fun _ H'=>Q .non H',rt:=Q } (start N vs) H) :
  yx P w K mg base CX (k+1) f (E7 name qual params body scope R kV i pm M c ct) ps sp:=by
 refine⟨len,fun A outer s H O us vs Q E B j hb r p=>?_⟩;have hl:=len _ _ _ _ p;have L:K.In s.heap:=j.mod.mW.keeps fun b o e=>(j.bs b o e).1;have C:s.heap.NoLimit:=j.mod.nolimit.keeps fun b o e=>(j.bs b o e).1;have g:∀y∈ps.zip us,scope.names.lookup y.1=some .local\/(scope.names.lookup y.1=some .cell/\((cellsFrom (s.heap.objs.size+1) scope.names []).lookup y.1).isSome=true):=fun⟨n,v⟩ hy=>by
  rcases S.par n (Vh hy).1 with q|q
  ·exact .inl q
  ·exact .inr ⟨q,PySem.W.cellsFrom_some _ _ _<|.inl q⟩
 refine codeAny_call_function B.depth (L _ _ lk) rfl S.co S.gen rfl (PySem.W.codeRec_of L z)<|hb _ _ _ _ ?_;refine wpAny_newFunctionEnv_cells S.kind g fun env Y T x=>?_;subst Y;refine⟨C.keeps x.toInCall.keep,codeAny_func ?_⟩;obtain⟨t,ht,Z⟩:=U A outer s H vs Q E (B.deeper _) p;have I:Inv (DE CX P w K mg base N qual scope f c A outer s H E) [] (start N vs) H T:=OM S B.hd j hl r x;refine Yu (ht [] T (start N vs) H _ I Z) (fun X G h=>?_) fun e G h=>h;have l:∀{d:St} {H':Hp} {v:V} {u:Ee},Inv (DE CX P w K mg base N qual scope f c A outer s H E) [] d H' G->yt v u->Q v H'->CE outer P w H s Q u G :=
  fun{d H' v u} J F q=>⟨v,H',J.os,J.bare,J.base,J.hok,F,q⟩
 cases X with
 |ret u =>
  obtain⟨v,d,H',J,F,q⟩:=h;exact l J F q
 |next =>
  obtain⟨d,H',J,q⟩:=h;exact l (v:=V.non) (u:=EF) J rfl q
 |brk =>
  obtain⟨_,_,_,q⟩:=h;exact EG q
 |cont =>
  obtain⟨_,_,_,q⟩:=h;exact EG q
section
variable {X:Cx}{x:Str}{p pos:Pos}{e:EI}{es:List EI}{t:TA}{id T:String}{r:Dj->Hp->VK->Prop}
def cK (r:Dj->Hp->VK->Prop)(t:TA):TE:=fun d H Q=>t d H fun c b=>r c b Q
theorem zK (j:xj X (.builtin id) r)(n:Gl X x)(hm:X.mg x=none)(o:LQ x=some (.builtin id))(ha:PA X (e::es) t)(hn:x≠"__name__":=by decide)(b:(x==("__debug__":Str))=false:=by decide)
  (l:Eu (e::es) X.env=(false,E3 e X.env)::Eu es X.env:=by rfl) (c:(La pos<|Eu es X.env).any (·.1)=false:=by rfl):PE X (.Call (.Name x p) (e::es) [] pos) (cK r t):=by
 intro d s f H Q I h;refine Jr<|U0 I n hm o ?_ hn b;exact VN (Ci (ha pos d s f H _ I h) fun w v ⟨y,g,i,u,q⟩=>j d v f g y w Q i u q) l c
theorem z6 (j:xj X (.type T) r)(n:Gl X x)(hm:X.mg x=none)(o:LQ x=some (.type T))(ha:PA X (e::es) t)(hn:x≠"__name__":=by decide)(b:(x==("__debug__":Str))=false:=by decide)
  (l:Eu (e::es) X.env=(false,E3 e X.env)::Eu es X.env:=by rfl) (c:(La pos<|Eu es X.env).any (·.1)=false:=by rfl):PE X (.Call (.Name x p) (e::es) [] pos) (cK r t):=by
 intro d s f H Q I h;refine Jr<|U0 I n hm o ?_ hn b;exact Jm (Ci (ha pos d s f H _ I h) fun w v ⟨y,g,i,u,q⟩=>j d v f g y w Q i u q) l c
end
end L2
namespace HT
open PySem PyProof.Rows
section
variable {prog:Eg}{w:Ek}{A:ED}{E:Ee->Dh}{s:Ei}
def wK (n d:Nat):Option Int->Nat
 |none=>d
 |some v=>if v<0 then(v+(n:Int)).toNat else min v.toNat n
theorem pP (n d:Nat):wK n d none=d:=rfl
theorem oZ (n d k:Nat):wK n d (some (k:Int))=min k n:=by
 show(if(k:Int)<0 then((k:Int)+(n:Int)).toNat else min (k:Int).toNat n)=min k n;rw[Zt<|by lia,Int.toNat_natCast]
theorem WQ (n d:Nat)(hd:d<=n)(o:Option Int):wK n d o<=n:=by
 cases o with
 |none=>exact hd
 |some v =>
  show(if v<0 then(v+(n:Int)).toNat else min v.toNat n)<=n
  by_cases b:v<0
  ·rw[Zs b];lia
  ·rw[Zt b];exact Um _ _
theorem Nr (v:Int)(n d:Nat):(if v<0 then max (v+(n:Int)) 0 else min v (n:Int))=((wK n d (some v):Nat):Int):=by
 show(if v<0 then max (v+(n:Int)) 0 else min v (n:Int))=(((if v<0 then(v+(n:Int)).toNat else min v.toNat n):Nat):Int)
 by_cases b:v<0
 ·simp only[Zs b];lia
 ·simp only[Zt b];lia
theorem KL (lo b:Option Int)(n:Nat):LV lo b 1 (n:Int)=(((wK n 0 lo:Nat):Int),((wK n n b:Nat):Int)):=by
 have c:¬((1:Int)<0):=by lia
 unfold LV;simp only[c,JT];refine LF ?_ ?_
 ·cases lo with
  |none=>rfl
  |some v=>exact Nr v n 0
 ·cases b with
  |none=>rfl
  |some v=>exact Nr v n n
theorem MX (i j:Nat):Lq (i:Int) (j:Int) 1=j-i:=by
 unfold Lq;have b:(1:Int)>0:=by lia
 simp only[b,if_true,Int.ediv_one]
 split<;>lia
theorem Gs {v:Ee}{o:Option Int}{Q:Option Int->Dh}(p:ME v o)(h:Q o s):Eh (Em prog w) A (Builtin.Slice.slicePartIndex v) Q E s:=by
 cases p with
 |none=>exact slicePart_none h
 |int i t=>exact slicePart_int h
theorem jJ {g:Ef}{e f:Ee}{lo c:Option Int}{n:Nat}{Q:Int×Int×Nat->Dh}(hs:s.heap.IsSliceOf g e f .none)(pl:ME e lo)(j:ME f c)
  (h:Q (((wK n 0 lo:Nat):Int),1,wK n n c-wK n 0 lo) s):Eh (Em prog w) A (Builtin.Slice.sliceApplied (.ref g)<|Lo (n:Int)) Q E s:=by
 obtain⟨os,d,i,b⟩:=id hs;unfold Builtin.Slice.sliceApplied Builtin.Slice.sliceFields;refine Q7<|Q7<|Vs d b (x:=e) rfl<|Q7<|Vs d b (x:=f) rfl<|Q7<|Vs d b (x:=.none) rfl<|Za ?_;refine Q7<|slicePart_none ?_;show Eh _ _ (if((1:Int)==0)=true then _ else _) _ _ s;rw[Zt<|by decide];refine Q7<|Gs pl<|Q7<|Gs j<|Q7<|Za ?_;show Eh _ _ (match LV lo c 1 (n:Int) with|(lo,c)=>Lo (lo,(1:Int),Lq lo c 1)) _ _ s;rw[KL lo c n];show Eh _ _ (Lo (((wK n 0 lo:Nat):Int),(1:Int),Lq ((wK n 0 lo:Nat):Int) ((wK n n c:Nat):Int) 1)) _ _ s;rw[MX];exact Za h
theorem RB (xs:Array Ee)(i k:Nat):((EC k).filterMap fun(m:Nat)=>xs[((i:Int)+(m:Int)*1).toNat]?).toArray=((xs.toList.drop i).take k).toArray:=by
 have e:(fun(m:Nat)=>xs[((i:Int)+(m:Int)*1).toNat]?)=fun m=>xs[i+m]?:=by
  funext m
  have:((i:Int)+(m:Int)*1).toNat=i+m:=by lia
  rw[this]
 rw[e];have:=pick_run xs i k;rw[List.filterMap_map]at this;have b:((fun x=>xs[x]?)∘fun x=>i+x)=fun m=>xs[i+m]?:=rfl;rw[b]at this;rw[this]
theorem tH {t j:Ef}{Dn:Array Ee}{l n:Ee}{lo c:Option Int}{Q:Ee->Dh}(d:IsTup s.heap t Dn)(hs:s.heap.IsSliceOf j l n .none)(pl:ME l lo)(r:ME n c)
  (p:¬(wK Dn.size 0 lo=0/\wK Dn.size Dn.size c=Dn.size))
  (h:Q (.ref s.heap.objs.size) { s with heap:=s.heap.push { cls:=.type "tuple",data:=.seq ((Dn.toList.drop<|wK Dn.size 0 lo).take<|wK Dn.size Dn.size c-wK Dn.size 0 lo).toArray } })
  (hsz:Dn.size<=sizeLine):Eh (Em prog w) A (Mv (.ref t)<|.ref j) Q E s:=by
 have b:sizeOk (.seq ((Dn.toList.drop<|wK Dn.size 0 lo).take<|wK Dn.size Dn.size c-wK Dn.size 0 lo).toArray):=by
  show((Dn.toList.drop<|wK Dn.size 0 lo).take<|wK Dn.size Dn.size c-wK Dn.size 0 lo).toArray.size<=sizeLine;rw[Zy,ZB,Yv,Zx];lia
 have u:wK Dn.size Dn.size c<=Dn.size:=WQ _ _ (Zf _) c;obtain⟨os,i,f,o⟩:=id hs;have e:s.TypeIs (.ref j) "slice":=⟨os,i,f⟩;unfold Mv
 try with_reducible refine ZZ ?_
 first|refine Q7 (Za ?_)|skip
 refine Q7 (wpAny_sequenceKey d.typeIs (by decide) ?_);refine Q7<|YT (name:=EU "__getitem__") d.typeIs Y8<|Ym Y8 d.typeIs entry_tuple_getitem ?_<|args_tuple_getitem _ _
 show Eh _ _ (LM (.ref t)>>=_) _ _ s;refine Q7<|tupleItemsOf_ d ?_;refine Q7<|JO e ?_;rw[Zs<|by decide];refine Q7<|jJ hs pl r ?_;have g:¬((((wK Dn.size 0 lo:Nat):Int)==0&&(1:Int)==1&&(wK Dn.size Dn.size c-wK Dn.size 0 lo)==Dn.size)=true):=by
  intro q;rw[Zm,Zm]at q;have v:((wK Dn.size 0 lo:Nat):Int)=0:=Vt q.1.1;have x:wK Dn.size Dn.size c-wK Dn.size 0 lo=Dn.size:=Vt q.2;exact p ⟨by lia,by lia⟩
 show Eh _ _ (if(((wK Dn.size 0 lo:Nat):Int)==0&&(1:Int)==1&&(wK Dn.size Dn.size c-wK Dn.size 0 lo)==Dn.size)=true then _ else _) _ _ s;rw[Zt g,RB]
 first
  |exact Q7 (m:=Ls _) (Ya (Za ⟨_,rfl,Za h⟩) b)
  |exact Q7 (m:=Ls _) (Ya (Q7<|Za<|Za ⟨_,rfl,Za h⟩) b)
  |exact Q7 (Q7 (m:=Ls _)<|Ya (Za<|Za ⟨_,rfl,Za h⟩) b)
  |exact Q7 (Q7 (m:=Ls _)<|Ya (Za ⟨_,rfl,Za h⟩) b)
end
end HT
namespace L2
open PySem PySem.Spec PyProof.Rows
abbrev TO:=St->Hp->(Option Int->Hp->Prop)->Prop
def PO (X:Cx)(e:Option EI)(t:TO):Prop :=
 ∀(c:De) (s:Ei) (b:St) (H:Hp) (Q:Option Int->Hp->Prop),Inv X c b H s->t b H Q ->
  Eh (Em X.prog X.w) X.A (evalPart e X.env) (fun u f=>∃o d,Inv X c b d f/\ME u o/\Q o d) X.xe s
def Tm:TO:=fun _ H Q=>Q none H
def bn (t:TE):TO:=fun c H Q=>t c H fun x b=>∃i,x=.int i/\Q (some i) b
section
variable {X:Cx}{e:EI}{te:TE}{lo hi:Option EI}{tl th:TO}{pos p2:Pos}
theorem Xd:PO X none Tm:=by
 intro b s c H Q I h;rw[evalPart_none];exact Za ⟨none,H,I,.none,h⟩
theorem v7 (h:PE X e te):PO X (some e) (bn te):=by
 intro b s l H Q I f;rw[evalPart_some];refine Ci (h b s l H _ I f) fun u n ⟨x,c,d,j,g⟩=>?_;obtain⟨i,rfl,q⟩:=g;obtain⟨t,rfl⟩:=j;exact⟨some i,c,d,.int i t,q⟩
def W9 (X:Cx)(r:V->Option Int->Option Int->Hp->VK->Prop):Prop :=
 ∀(b:De) (s:Ei) (f:St) (H:Hp) (x:V) (v d e:Ee) (lo hi:Option Int) (c:Ef) (Q:VK),Inv X b f H s->yt x v->s.heap.IsSliceOf c d e .none->ME d lo->ME e hi->r x lo hi H Q ->
  ∃T id,typeLookup (.type T) "__getitem__"=Lo (some<|.builtin id)/\s.TypeIs v T/\Eh (Em X.prog X.w) X.A (Mv v<|.ref c) (EP X b f Q) X.xe s
def tSl (r:V->Option Int->Option Int->Hp->VK->Prop)(te:TE)(tl th:TO):TE:=fun b H Q=>te b H fun x c=>tl b c fun l d=>th b d fun u e=>r x l u e Q
theorem kX (E:W9 X r)(C:PE X e te)(hl:PO X lo tl)(G:PO X hi th):PE X (.Subscript e (.Slice lo hi none p2) pos) (tSl r te tl th):=by
 intro d s f H Q I h;refine Subscript_<|Ci (C d s f H _ I h) fun v P ⟨x,n,p,O,L⟩=>?_;refine wpAny_Slice<|Ci (hl d P f n _ p L) fun g R ⟨l,o,t,J,M⟩=>Ci (G d R f o _ t M) fun i c ⟨u,j,y,K,N⟩=>?_;rw[evalPart_none];refine Za ?_;have z:Inv X d f j { c with heap:=c.heap.push { cls:=.type "slice",data:=.fields #[g,i,.none] } }:=y.kept (t':=c.toks) fun b S q=>Zd _ q;obtain⟨T,id,B,F,D⟩:=E d { c with heap:=c.heap.push { cls:=.type "slice",data:=.fields #[g,i,.none] } } f j x v g i l u c.heap.objs.size Q z O (Heap.IsSliceOf.new ..) J K N;show Eh (Em X.prog X.w) X.A (subscriptTail e (.Slice lo hi none p2) v<|.ref c.heap.objs.size) (EP X d f Q) X.xe { c with heap:=c.heap.push { cls:=.type "slice",data:=.fields #[g,i,.none] } };exact tail_any (ops:=[.ref c.heap.objs.size,v]) F B D (by with_unfolding_all rfl)
def UT (xs:Dj)(lo hi:Option Int):Dj:=(xs.drop<|HT.wK xs.length 0 lo).take<|HT.wK xs.length xs.length hi-HT.wK xs.length 0 lo
theorem X6 (xs:Dj)(lo hi:Option Int):(UT xs lo hi).length<=xs.length:=by
 unfold UT;rw[ZB,Yv];lia
end
def ah (n:Nat)(i:Int):Option Nat:=if 0<=i then(if i<n then some i.toNat else none) else if -(n:Int)<=i then some (i+n).toNat else none
def KO {α:Type}(xs:List α)(i:Int):Option α:=(ah xs.length i).bind fun j=>xs[j]?
theorem SB {j:Nat}(h:ah n i=some j):seqIndex? i n=some j/\j<n/\-(n:Int)<=i/\i<n:=by
 unfold ah at h
 by_cases c:0<=i
 ·rw[Zs c]at h
  by_cases b:i<n
  ·rw[Zs b]at h;have e:i.toNat=j:=Option.some.inj h;exact⟨by rw[seqIndex_of c b,e],by lia,by lia,b⟩
  ·rw[Zt b]at h;cases h
 ·rw[Zt c]at h
  by_cases b:-(n:Int)<=i
  ·rw[Zs b]at h;have e:(i+n).toNat=j:=Option.some.inj h;exact⟨by rw[seqIndex_neg (by lia) b,e],by lia,b,by lia⟩
  ·rw[Zt b]at h;cases h
theorem CT {α:Type}{xs:List α}{v:α}(h:KO xs i=some v):∃j,seqIndex? i xs.length=some j/\xs[j]?=some v/\j<xs.length/\-(xs.length:Int)<=i/\i<xs.length:=by
 unfold KO at h;cases e:ah xs.length i with
 |none=>rw[e]at h;cases h
 |some j =>
  rw[e]at h;obtain⟨b,c,d,f⟩:=SB e;exact⟨j,b,h,c,d,f⟩
theorem yY {α:Type}{xs:List α}{j:Nat}{v:α}(h:xs[j]?=some v):KO xs (j:Int)=some v:=by
 have b:j<xs.length:=(Zw.mp h).1;have e:ah xs.length (j:Int)=some j:=by
  unfold ah;rw[Zs<|by lia,Zs<|by lia];simp
 unfold KO;rwa[e]
def Sd (b:EI):Prop:=∀o i,subscripted b false o i=operate [o,i] (Mv o i)
def Cl (X:Cx)(r:R2):Prop :=
 ∀(value b:EI) (c:De) (s:Ei) (d:St) (H:Hp) (x y:V) (v u:Ee) (Q:VK),Inv X c d H s->yt x v->yt y u->r x y H Q ->
  subscripted b false v u=operate [v,u] (Mv v u)->Eh (Em X.prog X.w) X.A (subscriptTail value b v u) (EP X c d Q) X.xe s
def Sb (X:Cx)(id:String)(r:V->Dj->Hp->VK->Prop):Prop :=
 ∀(b:De) (s:Ei) (e:St) (H:Hp) (x:V) (d:Dj) (v:Ee) (c:Db) (Q:VK),Inv X b e H s->yt x v->yr d c->r x d H Q ->
  Eh (Em X.prog X.w) X.A (call (.builtin id) (v::c)) (EP X b e Q) X.xe s
section
variable {X:Cx}{a b:EI}{ta tb:TE}{pos:Pos}
theorem zY (f:Cl X r)(ha:PE X a ta)(hb:PE X b tb)(hs:Sd b:=by exact fun _ _=>rfl):PE X (.Subscript a b pos) (bF r ta tb):=by
 intro c s l H Q I h;exact Subscript_<|Wb ha hb I h fun v u j x y d e g i q=>f a b c j l d x y v u Q e g i q<|hs _ _
inductive wO (K:Cd)(x y:V)(H:Hp)(Q:VK):Prop
 |mk (p:Ef) (xs:Dj) (i:Int) (v:V) (e:x=.ref p) (f:y=.int i) (h:yu K H p xs) (a:KO xs i=some v) (q:Q v H):wO K x y H Q
inductive xg (K:Cd)(x y:V)(H:Hp)(Q:VK):Prop
 |mk (p:Ef) (xs:Dj) (i:Int) (v:V) (e:x=.ref p) (f:y=.int i) (h:xu K H p xs) (a:KO xs i=some v) (q:Q v H):xg K x y H Q
inductive lH (x y:V)(H:Hp)(Q:VK):Prop
 |mk (z:Str) (i:Int) (c:Nat) (e:x=.str z) (f:y=.int i) (l:z.length<=sizeLine) (a:KO z.cps.toList i=some c) (q:Q (.str ⟨#[c]⟩) H):lH x y H Q
theorem yq:Cl X (wO X.K):=by
 intro value l n s C H x y v u Q I L M h B;obtain⟨p,R,i,z,rfl,rfl,J,G,q⟩:=h;cases L;obtain⟨t,rfl⟩:=M;obtain⟨e,r,f,P⟩:=I.list J;obtain⟨j,c,D,O,E,F⟩:=CT G;obtain⟨w,o,g⟩:=r.get D;have hl:=r.length;have hn:=XF;have b:EP X n C Q w s:=⟨z,H,I,g,q⟩
 by_cases A:0<=i
 ·have d:i.toNat=j:=by
   rw[seqIndex_of A F]at c;exact Option.some.inj c
  exact item_listR f.isList A (by lia) (by rw[d];simpa using o) b B
 ·have d:(i+(e.toArray.size:Int)).toNat=j:=by
   rw[seqIndex_neg (by lia) E]at c;rw[Zy,←hl];exact Option.some.inj c
  exact subscriptTail_builtinR (x:=w) f.isList.typeIs slot_list_getitem.lookup
   (wpAny_getItem_list_neg (Q:=fun r N=>r=w/\EP X n C Q r N) f.isList (by lia) (by rw[Zy]<;>lia) (by lia) (by rw[d];simpa using o) ⟨rfl,b⟩) B
theorem yw:Cl X (xg X.K):=by
 intro value d e s g H x y v u Q I D E h B;obtain⟨p,O,i,z,rfl,rfl,A,o,q⟩:=h;cases D;obtain⟨t,rfl⟩:=E;obtain⟨C,r,f,N⟩:=I.tuple A;obtain⟨j,G,n,J,L,M⟩:=CT o;obtain⟨w,l,c⟩:=r.get n;have hl:=r.length;have hn:=XF;have b:EP X e g Q w s:=⟨z,H,I,c,q⟩;exact subscriptTail_builtinR (x:=w) f.typeIs slot_tuple_getitem.lookup
  (getItem_tuple (j:=j) (Q:=fun r F=>r=w/\EP X e g Q r F) f (by lia) (by lia) (by rwa[Zy,←hl]) (by simpa using l) ⟨rfl,b⟩) B
theorem K7:Cl X lH:=by
 intro value b A s E H x y v u Q I r w h p;obtain⟨z,i,c,rfl,rfl,C,o,q⟩:=h;obtain⟨t,rfl⟩:=r;obtain⟨D,rfl⟩:=w;obtain⟨j,d,g,B,l,n⟩:=CT o;have hl:z.cps.toList.length=z.length:=by simp[Str.length]
 rw[hl]at d l n;have hn:=XF;exact tail_any (J2 s z t) slot_str_getitem.lookup (getItem_str (c:=c) (by
  have e:decide (i < -(2 ^ 63:Int))=false:=Zo (by lia);have f:decide (i≥2 ^ 63)=false:=Zo (by lia);rw[e,f,Bool.or_false]) (by rw[d];simpa using g) ⟨.str ⟨#[c]⟩,H,I.tok _,⟨_,rfl⟩,q⟩) p
theorem FI (lo b:Option Int)(n:Nat):(Ma lo b none n).1=((HT.wK n 0 lo:Nat):Int)/\(Ma lo b none n).2.1=((HT.wK n n b:Nat):Int)/\(Ma lo b none n).2.2=1:=by
 refine⟨?_,?_,rfl⟩
 ·cases lo with
  |none=>simp[Ma,HT.wK]
  |some i =>
   simp only[Ma,HT.wK,Option.getD_none,show(1:Int)>0 by decide,if_true]
   by_cases h:i<0
   ·simp only[h,if_true]<;>lia
   ·simp only[h,JT]<;>lia
 ·cases b with
  |none=>simp[Ma,HT.wK]
  |some i =>
   simp only[Ma,HT.wK,Option.getD_none,show(1:Int)>0 by decide,if_true]
   by_cases h:i<0
   ·simp only[h,if_true]<;>lia
   ·simp only[h,JT]<;>lia
theorem G3 (b:Db)(lo c:Option Int):slicePick b.toArray lo c none=((b.drop<|HT.wK b.length 0 lo).take<|HT.wK b.length b.length c-HT.wK b.length 0 lo).toArray:=by
 obtain⟨d,e,f⟩:=FI lo c b.toArray.size;unfold slicePick;rw[d,e,f];simp only[sliceRange_one,pick_run,Zy]<;>rfl
def aY (K:Cd):V->Option Int->Option Int->Hp->VK->Prop:=fun x d c H Q=>∃a b,x=.ref a/\yu K H a b/\∀p,H p=none->Q (.ref p) (upd H p<|.lst<|UT b d c)
theorem nj:W9 X (aY X.K):=by
 intro w s C H x v A B d e z Q I u i p t h;obtain⟨a,c,rfl,j,q⟩:=h;cases u;obtain⟨n,r,f,l⟩:=I.list j;have g:=r.length;refine⟨"list",_,slot_list_getitem.lookup,f.isList.typeIs,?_⟩;refine wpAny_getItem_list_slice f.isList i p t .none (by simp) ?_ (by rw[Zy]<;>lia);rw[G3,←g];refine⟨.ref s.heap.objs.size,_,I.laid (t':=s.toks) (o:=.lst<|UT c d e) (fun b y q=>Zd _ q) (Zf _) ?_,rfl,q _<|I.hok.fresh<|Zf _⟩;exact⟨Z0 (X6 c d e) l,_,0,(r.drop<|HT.wK c.length 0 d).take<|HT.wK c.length c.length e-HT.wK c.length 0 d,Zp _ rfl⟩
theorem z7:xj X (.builtin "len") (fun xs H Q=>∃p ys,xs=[.ref p]/\(yu X.K H p ys\/xu X.K H p ys)/\Q (.int ys.length) H):=by
 intro j s n H xs l Q I r h;obtain⟨p,ys,rfl,b,q⟩:=h;obtain⟨u,rfl,i⟩:=wW r;cases i;have hn:=XF
 rcases b with b|b
 ·obtain⟨d,f,e,g⟩:=I.list b;have c:=f.length;exact Calls.call_len_list e.isList (by simp only[Zy]<;>lia) ⟨.int ys.length,H,I.tok _,⟨s.toks+1,by rw[Zy,c]⟩,q⟩
 ·obtain⟨d,f,e,g⟩:=I.tuple b;have c:=f.length;exact len_tuple e (by simp only[Zy]<;>lia) ⟨.int ys.length,H,I.tok _,⟨s.toks+1,by rw[Zy,c]⟩,q⟩
theorem xS:xj X (.builtin "len") (fun xs H Q=>∃z,xs=[.str z]/\z.length<=sizeLine/\Q (.int z.length) H):=by
 intro b s e H xs d Q I r h;obtain⟨z,rfl,c,q⟩:=h;obtain⟨u,rfl,t,rfl⟩:=wW r;have hn:=XF;exact len_str (by lia) ⟨.int z.length,H,I.tok _,⟨_,rfl⟩,q⟩
theorem xj.or (h:xj X f r)(h':xj X f r'):xj X f (fun xs H Q=>r xs H Q\/r' xs H Q):=by
 intro b s e H xs d Q I c q
 rcases q with q|q
 ·exact h b s e H xs d Q I c q
 ·exact h' b s e H xs d Q I c q
theorem vO:xj X (.type "list") (fun xs H Q=>∃p ys,xs=[.ref p]/\(yu X.K H p ys\/xu X.K H p ys)/\∀l,H l=none->Q (.ref l) (upd H l<|.lst ys)):=by
 intro A s D H xs E Q I r h;obtain⟨p,ys,rfl,j,q⟩:=h;obtain⟨u,rfl,C⟩:=wW r;cases C;have i:∀(c:Db),yr ys c->ys.length<=sizeLine->∀(d:Ev) (f:Nat),(∀b z,s.heap.get? b=some z->d.get? b=some z) ->
   d.get? s.heap.objs.size=some { cls:=.type "list",dict:=none,data:=.seq c.toArray f,slots:=#[] }->EP X A D Q (.ref s.heap.objs.size) { s with heap:=d }:=fun c g t d f kp e =>
  ⟨.ref s.heap.objs.size,_,I.laid (t':=s.toks) kp (Zf _)<|show yp X.prog X.w _ d _ (.lst ys) from⟨t,c,f,g,e⟩,rfl,q _<|I.hok.fresh<|Zf _⟩
 rcases j with j|j
 ·obtain⟨c,g,y,t⟩:=I.list j;have B:=g.length;obtain⟨o,x,v,n,hd⟩:=y.isList;exact call_list_seq p (.inl rfl) x v hd (fun d f kp e=>i c g t d f kp e) (by simp only[Zy]<;>lia)
 ·obtain⟨c,g,y,t⟩:=I.tuple j;have B:=g.length;obtain⟨o,x,v,n,hd⟩:=y;exact call_list_seq p (.inr rfl) x v hd (fun d f kp e=>i c g t d f kp e) (by simp only[Zy]<;>lia)
theorem GW:xj X (.type "tuple") (fun xs H Q=>∃p ys,xs=[.ref p]/\((yu X.K H p ys/\∀l,H l=none->Q (.ref l) (upd H l<|.tup ys))\/(xu X.K H p ys/\Q (.ref p) H))):=by
 intro i s t H xs z Q I r h;obtain⟨p,ys,rfl,h⟩:=h;obtain⟨u,rfl,x⟩:=wW r;cases x
 rcases h with⟨hq,q⟩|⟨hq,q⟩
 ·obtain⟨c,g,f,n⟩:=I.list hq;have y:=g.length;refine call_tuple_list f.isList (fun d kp=>?_) (by simp only[Zy]<;>lia);have j:Inv X i t H { s with heap:=d }:=I.kept (t':=s.toks) kp;have v:Inv X i t (upd H d.objs.size<|.tup ys) { s with heap:=d.push { cls:=.type "tuple",data:=.seq c.toArray } } :=
   j.laid (t':=s.toks) (fun b o e=>Zd _ e) (Zf _) (show yp X.prog X.w _ _ _ (.tup ys) from⟨n,c,g,TupAt.new _ _⟩)
  exact⟨.ref d.objs.size,_,v,rfl,q _<|j.hok.fresh<|Zf _⟩
 ·obtain⟨c,g,f,n⟩:=I.tuple hq;exact call_tuple_same f ⟨.ref p,H,I,rfl,q⟩
def cM (K:Cd)(T:String)(x:V)(H:Hp):Prop:=match x with
 | .str _=>T="str"
 | .int _=>T="int"
 | .ref p=>(T="list"/\∃c,yu K H p c)\/(T="tuple"/\∃o,K.lookup p=some o/\o.cls=.type "tuple"/\o.dict=none) \/
   (T="dict"/\((∃b,H p=some (.dK b))\/∃b,H p=some (.dT b)))\/(T="set"/\∃S n,H p=some (.set S n))
 |_=>False
theorem W5 (I:Inv X Do σ H s)(r:yt x v)(ty:cM X.K T x H) :
  s.TypeIs v T/\∀a,v=.ref a->∃ob,s.heap.get? a=some ob/\ob.dict=none:=by
 cases x with
 |str z =>
  obtain⟨t,rfl⟩:=r;cases(show T="str" from ty);exact⟨J2 s z t,fun _ e=>nomatch e⟩
 |int i =>
  obtain⟨t,rfl⟩:=r;cases(show T="int" from ty);exact⟨typeIs_int s i t,fun _ e=>nomatch e⟩
 |ref p =>
  cases r
  rcases ty with⟨rfl,xs,hq⟩|⟨rfl,o,hk,hc,hd⟩|⟨rfl,hk⟩|⟨rfl,S,n,hk⟩
  ·obtain⟨f,_,d,_⟩:=I.list hq;refine⟨d.isList.typeIs,fun a e=>?_⟩;cases e;obtain⟨o,n,e,c,hd,_⟩:=d;exact⟨o,e,hd⟩
  ·refine⟨⟨o,I.uq p o hk,hc⟩,fun a e=>?_⟩;cases e;exact⟨o,I.uq _ o hk,hd⟩
  ·have z:∃o,s.heap.get? p=some o/\o.ExactDict:=by
    rcases hk with⟨Dm,hk⟩|⟨Dm,hk⟩
    ·obtain⟨_,_,_,_,o,_,_,e,ex,_⟩:=I.hok p _ hk;exact⟨o,e,ex⟩
    ·obtain⟨_,_,_,_,o,_,_,e,ex,_⟩:=I.hok p _ hk;exact⟨o,e,ex⟩
   obtain⟨o,e,ex⟩:=z;refine⟨⟨o,e,ex.1⟩,fun a b=>?_⟩;cases b;exact⟨o,e,ex.2.1⟩
  ·obtain⟨o,_,_,_,e,ex,_⟩:=I.hok p _ hk;refine⟨⟨o,e,ex.1⟩,fun a b=>?_⟩;cases b;exact⟨o,e,ex.2.1⟩
 |_=>exact EG ty
def cJ (K:Cd)(T:String)(r:V->Dj->Hp->VK->Prop)(e:TE)(t:TA):TE:=fun c H Q=>e c H fun x b=>cM K T x b/\t c b fun f d=>r x f d Q
variable {o e:EI}{es:List EI}{to:TE}{t:TA}{name:Str}{Dr Dq:Pos}{T id:String}{r:V->Dj->Hp->VK->Prop}
theorem qN (B:PlainAttrs T)(slot:Slot T name id)(d:typeOf (.builtin id)=Lo (.type "method_descriptor"))(hm:Sb X id r)(A:PE X o to)(ha:PA X (e::es) t)
  (p:Lr o name X.env (E3 o X.env)=E3 o X.env:=by rfl)
  (b:((La Dq<|Eu (e::es) X.env).all (fun x=>!x.1)&&(Mp Dq<|LB [] X.env).all (fun x=>x.1.isSome) && decide ((e::es).length+([]:List Keyword).length+(if([]:List Keyword).isEmpty then 0 else 1)<30))=true:=by rfl)
  (l:(Dr.endLine==Dq.line)=true:=by rfl) (hs:Eu (e::es) X.env=(false,E3 e X.env)::Eu es X.env:=by rfl) (n:(La Dq<|Eu es X.env).any (·.1)=false:=by rfl) :
  PE X (.Call (.Attribute o name Dr) (e::es) [] Dq) (cJ X.K T r to t):=by
 intro c s f H Q I h;refine wpAny_Call_method_late p b l rfl<|Ci (A c s f H _ I h) fun v F hh=>?_;obtain⟨x,q,g,j,ty,C⟩:=hh;obtain⟨y,z⟩:=W5 g j ty;refine⟨T,id,B,slot,d,y,z,?_⟩;have i:=ha Dq c F f q _ g C;rw[hs]at i ⊢;refine Ln (by show(false||(La Dq<|Eu es X.env).any (·.1))=false;rw[n]<;>rfl) (LN ?_);exact Ci i fun J G ⟨L,u,w,E,D⟩=>hm c G f u x L v J Q w j E D
end
def cH (X:Cx)(id:String)(r:V->Dj->Hp->VK->Prop):Prop :=
 ∀(b:De) (s:Ei) (e:St) (H:Hp) (x:V) (d:Dj) (v:Ee) (c:Db) (Q:VK),Inv X b e H s->yt x v->yr d c->r x d H Q ->
  Eh (Em X.prog X.w) X.A (call (.builtin id) (v::c)) (EP X b e Q) X.xe s
theorem yr.one:∀{x:V} {us:Db},yr [x] us->∃u,us=[u]/\yt x u
 |_,_,.cons r .nil=>⟨_,rfl,r⟩
section
variable {X:Cx}{Do:De}{σ:St}{H:Hp}{s:Ei}{l b:Ef}{xs ys zs:Dj}
theorem Inv.lU {b D6:Db}{n:Nat}{f:Array Ee->Array Ee}{t':Nat}(I:Inv X Do σ H s)(c:H l=some (.lst xs))
  (e:s.heap.get? l=some { cls:=.type "list",data:=.seq b.toArray n }) (d:f b.toArray=D6.toArray) (h:yr ys D6) (hz:ys.length<=sizeLine) :
  Inv X Do σ (upd H l<|.lst ys) { s with heap:=s.heap.update l<|Lc f,toks:=t' }:=by
 have q:=PySem.IsL.update e f;rw[d]at q;refine I.write (x:=l) (e:=l) (by rw[c];exact trivial) (.inl rfl) (fun i u hb g=>(YJ s.heap (Lc f)<|EB hb).trans g) ⟨_,q⟩ ?_;exact⟨hz,D6,_,h,q⟩
theorem Inv.m6 {t':Nat}(I:Inv X Do σ H s)(b:yr ys its)(hz:ys.length<=sizeLine) :
  Inv X Do σ (upd H s.heap.objs.size<|.lst ys) { s with heap:=s.heap.push { cls:=.type "list",data:=.seq its.toArray },toks:=t' } :=
 I.laid (fun _ _ q=>Zd _ q) (Zf _) ⟨hz,its,0,b,Zp _ rfl⟩
theorem Inv.fresh (I:Inv X Do σ H s):H s.heap.objs.size=none:=I.hok.fresh<|Zf _
theorem Inv.oh (I:Inv X Do σ H s)(b:H l=some (.lst xs)):xs.length<=sizeLine/\∃(its:Db) (n:Nat),yr xs its/\xs.length=its.length/\s.heap.get? l=some { cls:=.type "list",data:=.seq its.toArray n }:=by
 obtain⟨z,its,n,r,e⟩:=I.hok l _ b;exact⟨z,its,n,r,r.length,e⟩
theorem Rp {n:Nat}(h:n<=sizeLine):L4 n=false:=by
 unfold L4;exact Zo (by lia)
end
section
variable {X:Cx}
inductive pA (x:V)(vs:Dj)(H:Hp)(Q:VK):Prop
 |mk (l:Ef) (xs:Dj) (y:V) (e:x=.ref l) (f:vs=[y]) (h:H l=some (.lst xs)) (z:xs.length<sizeLine) (q:Q .non<|upd H l<|.lst<|xs++[y]):pA x vs H Q
theorem yZ:cH X "list.append" pA:=by
 intro i s w H x p v o Q I g f h;obtain⟨l,t,y,rfl,rfl,c,j,q⟩:=h;cases g;obtain⟨u,rfl,d⟩:=f.one;obtain⟨z,b,n,r,hl,e⟩:=I.oh c;refine Vm F.slot_list_append ⟨_,e,rfl⟩ F.entry_list_append (F.args_list_append_2 _ _) (PySem.list_append l b.toArray n u (by rw[Zy];lia)) ⟨e,?_⟩;refine⟨.non,_,I.lU (D6:=b++[u]) c e (by simp) (r.append<|.cons d .nil) ?_,rfl,q⟩;rw[Zh,YO];lia
def S7:V->Dj->Hp->VK->Prop:=fun x e H Q=>∃l b c d,x=.ref l/\e=[.ref b]/\H l=some (.lst c)/\H b=some (.lst d)/\c.length+d.length<=sizeLine/\Q .non (upd H l<|.lst<|c++d)
theorem OY:cH X "list.extend" S7:=by
 intro B s L H x E v D Q I A y h;obtain⟨l,b,G,K,rfl,rfl,i,o,C,q⟩:=h;cases A;obtain⟨u,rfl,w⟩:=y.one;cases w;obtain⟨z,d,n,r,hl,e⟩:=I.oh i;obtain⟨J,c,n2,t,p,j⟩:=I.oh o;have g:d.toArray.size+c.toArray.size<=sizeLine:=by rw[Zy,Zy];lia
 have f:¬(!d.toArray.isEmpty&&L4 (d.toArray.size+c.toArray.size))=true:=by
  rw[Rp g,YR];exact ZK
 refine Vm F.slot_list_extend ⟨_,e,rfl⟩ F.entry_list_extend (F.args_list_extend_2 _ _)
  (AutoSeq1.list_extend_list_list_0 l d.toArray n b c.toArray n2 f (by rw[Zy];lia)<|by lia) ⟨e,j,?_⟩
 refine⟨.non,_,I.lU (D6:=d++c) i e (by simp) (r.append t) ?_,rfl,q⟩;rw[Zh];lia
def b5:R2:=fun x y H Q=>∃l b c d,x=.ref l/\y=.ref b/\H l=some (.lst c)/\H b=some (.lst d)/\c.length+d.length<=sizeLine/\∀p,H p=none->Q (.ref p) (upd H p<|.lst<|c++d)
theorem Fw:CD X (MA .Add) b5:=by
 intro A s F H x y v u Q I t w h;obtain⟨l,b,C,E,rfl,rfl,j,i,B,q⟩:=h;cases t;cases w;obtain⟨z,d,n,r,hl,e⟩:=I.oh j;obtain⟨D,c,n2,p,o,f⟩:=I.oh i;refine PySem.P.add_list e f ?_ (by rw[Zy,Zy];lia);have g:d.toArray++c.toArray=(d++c).toArray:=by simp
 rw[g];exact⟨.ref _,_,I.m6 (t':=s.toks) (r.append p) (by rw[Zh];lia),rfl,q _ I.fresh⟩
end
section
variable {prog:Eg}{w:Ek}{A:ED}{E:Ee->Dh}{s:Ei}
set_option maxRecDepth 100000 in
end
section
variable {κ:Type} [DecidableEq κ]
def Us (Dm:List<|κ×V)(k:κ):Option V:=(Dm.find? fun b=>decide (b.1=k)).map (·.2)
def yd (Dm:List<|κ×V)(k:κ)(v:V):List (κ×V) :=
 if(Dm.any fun b=>decide (b.1=k))=true then Dm.map (fun b=>if b.1=k then(b.1,v) else b) else Dm++[(k,v)]
theorem xG {p:κ×V}{r:List (κ×V)}{k:κ}(e:p.1=k):Us (p::r) k=some p.2:=by simp[Us,Y7,e]
theorem xI {p:κ×V}{r:List (κ×V)}{k:κ}(e:¬p.1=k):Us (p::r) k=Us r k:=by simp[Us,Y7,e]
theorem xZ (k:κ):∀Dm:List<|κ×V,(Dm.any fun kv=>decide (kv.1=k))=(Us Dm k).isSome
 |[]=>rfl
 |p::r=>by
  rw[List.any_cons]
  by_cases e:p.1=k
  ·simp only[xG e,Zg e,Bool.true_or,Option.isSome_some]
  ·rw[xI e,Zo e,Ui];exact xZ k r
theorem KJ (k j:κ)(y:V):∀Dm:List<|κ×V,Us (Dm.map fun kv=>if kv.1=k then(kv.1,y) else kv) j=(Us Dm j).map fun x=>if j=k then y else x
 |[]=>rfl
 |p::r=>by
  have b:=KJ k j y r;rw[Zu]
  by_cases h:p.1=k
  ·rw[Zs h]
   by_cases e:p.1=j
   ·rw[xG (p:=(p.1,y)) e,xG e,Yt,Zs<|e.symm.trans h]
   ·rw[xI (p:=(p.1,y)) e,xI e,b]
  ·rw[Zt h]
   by_cases e:p.1=j
   ·rw[xG (p:=p) e,xG e,Yt,Zt<|fun z=>h<|e.trans z]
   ·rw[xI (p:=p) e,xI e,b]
theorem BW (k j:κ)(y:V):∀Dm:List<|κ×V,Us Dm k=none->Us (Dm++[(k,y)]) j=if j=k then some y else Us Dm j
 |[],_=>by
  by_cases e:k=j
  ·rw[Zs e.symm];exact xG (p:=(k,y)) e
  ·rw[Zt<|fun z=>e z.symm];exact xI (p:=(k,y)) e
 |p::r,hn=>by
  rw[List.cons_append];have hk:¬p.1=k:=fun z=>by rw[xG z]at hn;cases hn
  rw[xI hk]at hn;have b:=BW k j y r hn
  by_cases e:p.1=j
  ·rw[xG e,xG e,Zt<|fun z=>hk<|e.trans z]
  ·rw[xI e,xI e,b]
theorem R6 (Dm:List<|κ×V)(k j:κ)(y:V):Us (yd Dm k y) j=if j=k then some y else Us Dm j:=by
 unfold yd
 by_cases a:(Dm.any fun c=>decide (c.1=k))=true
 ·rw[Zs a,KJ];rw[xZ]at a
  by_cases e:j=k
  ·obtain⟨x,b⟩:=Jf.mp a;rw[Zs e,e,b,Yt,Zs rfl]
  ·rw[Zt e];cases Us Dm j with
   |none=>rfl
   |some x=>rw[Yt,Zt e]
 ·rw[Zt a];refine BW k j y Dm ?_;rw[xZ]at a;cases q:Us Dm k with
  |none=>rfl
  |some x=>rw[q]at a;exact(a rfl).elim
theorem xL (Dm:List<|κ×V)(k:κ)(v:V):(yd Dm k v).length<=Dm.length+1:=by
 unfold yd
 split
 ·rw[Q8];lia
 ·rw[Zh,Zr,YS];lia
theorem RH {Dm:List (κ×V)}{k:κ}(v:V)(h:Us Dm k=none):yd Dm k v=Dm++[(k,v)]:=by
 unfold yd;rw[xZ,h];exact Zt (by decide)
theorem vm.wz (r:vm o u):o.isSome=u.isSome:=by
 cases o with
 |none=>cases u with
  |none=>rfl
  |some _=>exact(show False from r).elim
 |some _=>cases u with
  |none=>exact(show False from r).elim
  |some _=>rfl
theorem vm.getD (r:vm o u)(rd:yt d d'):yt (o.getD d) (u.getD d'):=by
 cases o with
 |none=>cases u with
  |none=>exact rd
  |some _=>exact(show False from r).elim
 |some _=>cases u with
  |none=>exact(show False from r).elim
  |some _=>exact r
theorem KV.val {Dm:List (κ×V)}{vs:List (κ×Ee)}(r:KV Dm vs)(k:κ):vm (Us Dm k) (valueAt vs k):=by
 unfold KV at r
 induction r with
 |nil=>exact Lg
 | @cons p q ps qs h t ih =>
  obtain⟨d,f⟩:=h
  by_cases e:p.1=k
  ·have c:q.1=k:=d.symm.trans e;have b:valueAt (q::qs) k=some q.2:=by simp[valueAt,Y7,c]
   rwa[xG e,b]
  ·have c:¬q.1=k:=fun z=>e<|d.trans z;have b:valueAt (q::qs) k=valueAt qs k:=by simp[valueAt,Y7,c]
   rwa[xI e,b]
theorem KV.any {Dm:List (κ×V)}{vs:List (κ×Ee)}(r:KV Dm vs)(k:κ):(Dm.any fun kv=>decide (kv.1=k))=vs.any fun kv=>decide (kv.1=k):=by
 unfold KV at r
 induction r with
 |nil=>rfl
 |cons h t ih=>rw[List.any_cons,List.any_cons,ih,h.1]
theorem KV.repl {Dm:List (κ×V)}{vs:List (κ×Ee)}(r:KV Dm vs)(k:κ){y:V}{u:Ee}(d:yt y u) :
  KV (Dm.map fun kv=>if kv.1=k then(kv.1,y) else kv) (vs.map fun kv=>if kv.1=k then(kv.1,u) else kv):=by
 unfold KV at r ⊢
 induction r with
 |nil=>exact .nil
 | @cons p q ps qs h t ih =>
  rw[Zu,Zu];refine .cons ?_ ih;obtain⟨b,c⟩:=h
  by_cases e:p.1=k
  ·rw[Zs e,Zs<|b.symm.trans e];exact⟨b,d⟩
  ·rw[Zt e,Zt<|fun z=>e<|b.trans z];exact⟨b,c⟩
theorem KV.put {Dm:List (κ×V)}{vs:List (κ×Ee)}(r:KV Dm vs)(k:κ){y:V}{u:Ee}(b:yt y u):KV (yd Dm k y) (stored vs k u):=by
 unfold yd stored;rw[r.any k]
 by_cases e:(vs.any fun c=>decide (c.1=k))=true
 ·rw[Zs e,Zs e];exact r.repl k b
 ·rw[Zt e,Zt e];exact Paired.snoc r ⟨rfl,b⟩
theorem KV.length {Dm:List (κ×V)}{vs:List (κ×Ee)}(r:KV Dm vs):Dm.length=vs.length:=Paired.length r
end
theorem UV (r:yt (kV k) u):(zc P w).is k u=true:=by
 cases k with
 |inl i=>obtain⟨t,e⟩:=(show∃t,u=Value.int i t from r);subst e;exact HP P w i t
 |inr x=>obtain⟨t,e⟩:=(show∃t,u=Mi x t from r);subst e;exact HQ P w x t
theorem BN:∀{ks:List Key} {us:Db},yr (ks.map kV) us->ItemsAre (zc P w) ks us
 |[],_,r=>by rw[YZ]at r;cases r;exact .nil
 |k::ks,_,r=>by
  rw[Zu]at r;cases r with
  |cons h t=>exact .cons (UV h)<|BN t
abbrev KT (H:Hp):List (List Key×V)->List (List Key×Ef×Ee)->Prop:=Lj fun p q=>p.1=q.1/\H q.2.1=some (.tup<|p.1.map kV)/\yt p.2 q.2.2
theorem KT.val (r:KT H Dm xs)(k:List Key):vm (Us Dm k) ((atKey xs k).map (·.2)):=by
 induction r with
 |nil=>exact Lg
 | @cons p q ps qs h t ih =>
  obtain⟨d,_,f⟩:=h
  by_cases e:p.1=k
  ·have c:q.1=k:=d.symm.trans e;have b:atKey (q::qs) k=some q.2:=by simp[atKey,Y7,c]
   rwa[xG e,b]
  ·have c:¬q.1=k:=fun z=>e<|d.trans z;have b:atKey (q::qs) k=atKey qs k:=by simp[atKey,Y7,c]
   rwa[xI e,b]
theorem KT.repl (r:KT H Dm xs)(k:List Key){y:V}{u:Ee}(f:yt y u) :
  KT H (Dm.map fun kv=>if kv.1=k then(kv.1,y) else kv) (xs.map<|putAt k u):=by
 induction r with
 |nil=>exact .nil
 | @cons p q ps qs h t ih =>
  rw[Zu,Zu];refine .cons ?_ ih;obtain⟨b,c,d⟩:=h;unfold putAt
  by_cases e:p.1=k
  ·rw[Zs e,Zs<|b.symm.trans e];exact⟨b,c,f⟩
  ·rw[Zt e,Zt<|fun z=>e<|b.trans z];exact⟨b,c,d⟩
theorem KT.put (r:KT H Dm xs)(k:List Key){b:Ef}{y:V}{u:Ee}(hb:H b=some (.tup<|k.map kV))(c:yt y u) :
  KT H (yd Dm k y) (storedH xs k b u):=by
 have e:(Dm.any fun d=>decide (d.1=k))=(atKey xs k).isSome:=by
  rw[xZ,(r.val k).wz,Ue]
 unfold yd storedH;rw[e]
 by_cases q:(atKey xs k).isSome=true
 ·rw[Zs q,Zs q];exact r.repl k c
 ·rw[Zt q,Zt q];exact Paired.snoc r ⟨rfl,hb,c⟩
theorem KT.keeps {H':Hp}(r:KT H Dm xs)(c:∀b ys,H b=some (.tup ys)->H' b=some (.tup ys)):KT H' Dm xs :=
 Paired.mj r fun _ _ z=>⟨z.1,c _ _ z.2.1,z.2.2⟩
section
variable {P:Eg}{w:Ek}{H:Hp}{h:Ev}{a:Ef}
theorem TN (ok:uh P w H h)(e:Rd H a u):yp P w H h a u:=e.ok ok
theorem Xb {Dm:Dl}(ok:uh P w H h)(e:Rd H a<|.dK Dm):Dm.length<=sizeLine/\(a==EM)=false/\∃vs,KV Dm vs/\h.DictOf (zc P w) a vs :=
 show yp P w H h a (.dK Dm) from TN ok e
theorem Ty {Dm:Dl}(ok:uh P w H h)(e:H a=some (.dK Dm)):Dm.length<=sizeLine/\(a==EM)=false/\∃vs,KV Dm vs/\h.DictOf (zc P w) a vs:=Xb ok<|.inl e
theorem U3 {ks:List Key}(ok:uh P w H h)(e:H a=some (.tup<|ks.map kV)):(Mx<|zc P w).is h ks a:=by
 obtain⟨_,b,r,o,c,d,n,f,_⟩:=(show yp P w H h a (.tup<|ks.map kV) from ok a _ e);exact⟨o,b.toArray,n,c,d,f,by simpa using BN r⟩
theorem X7 {Dm:List (List Key×V)}(ok:uh P w H h)(e:Rd H a<|.dT Dm):Dm.length<=sizeLine/\(a==EM)=false /\
  ∃xs,KT H Dm xs/\h.DictOfH (Mx<|zc P w) a xs:=by
 obtain⟨z,y,xs,r,o,d,c,f,g,i,j,n⟩:=(show yp P w H h a (.dT Dm) from TN ok e);refine⟨z,y,xs,r,o,d,c,f,g,i,j,fun x b=>?_,n⟩;have all:∀{l:List (List Key×V)} {m:List (List Key×Ef×Ee)},KT H l m->∀x∈m,(Mx<|zc P w).is h x.1 x.2.1:=by
  intro l m q
  induction q with
  |nil=>intro x b;exact nomatch b
  | @cons p q ps qs hq t ih =>
   intro x b
   rcases Zi.mp b with e|b
   ·subst e;exact U3 ok (by rw[←hq.1];exact hq.2.1)
   ·exact ih x b
 exact all r x b
theorem ar {Dm:List (List Key×V)}(ok:uh P w H h)(e:H a=some (.dT Dm)):Dm.length<=sizeLine/\(a==EM)=false /\
  ∃xs,KT H Dm xs/\h.DictOfH (Mx<|zc P w) a xs:=X7 ok<|.inl e
end
def wB (H:Hp)(a:Ef)(y:V)(r:Option V):Prop :=
 (∃c k,Rd H a (.dK c)/\y=kV k/\r=Us c k)\/∃c k b,Rd H a (.dT c)/\y=.ref b/\H b=some (.tup<|k.map kV)/\r=Us c k
def uw (H:Hp)(a:Ef)(y v:V)(H':Hp):Prop :=
 (∃c k,H a=some (.dK c)/\y=kV k/\c.length<sizeLine/\H'=upd H a (.dK<|yd c k v)) \/
 ∃c k b,H a=some (.dT c)/\y=.ref b/\H b=some (.tup<|k.map kV)/\c.length<sizeLine/\H'=upd H a (.dT<|yd c k v)
theorem wB.k {H:Hp}{a:Ef}{Dm:Dl}{k:Key}(e:H a=some (.dK Dm)):wB H a (kV k) (Us Dm k):=.inl ⟨Dm,k,.inl e,rfl,rfl⟩
theorem uw.k {H:Hp}{a:Ef}{Dm:Dl}{k:Key}(e:H a=some (.dK Dm))(hl:Dm.length<sizeLine):uw H a (kV k) v (upd H a<|.dK<|yd Dm k v):=.inl ⟨Dm,k,e,rfl,hl,rfl⟩
section
variable {X:Cx}{Do:De}{σ:St}{H:Hp}{s:Ei}{a:Ef}{y v:V}{u r:Ee}{o:Option V}{A:ED}{E:Ee->Dh}
theorem Inv.big (I:Inv X Do σ H s):EM<s.heap.objs.size:=by
 have h:Es<s.heap.objs.size:=(I.mod.glob.keeps I.bk).lt;exact Nat.lt_trans (by decide) h
theorem Ot {Q:Ee->Dh}(r:A.units+1<Lb)(I:Inv X Do σ H s)(g:wB H a y<|some v)(n:yt y u)(h:∀w' s',Inv X Do σ H s'->yt v w'->Q w' s') :
  Eh (Em X.prog X.w) A (Mv (.ref a) u) Q E s:=by
 rcases g with⟨Dm,k,e,ey,l⟩|⟨Dm,k,b,e,ey,eb,l⟩
 ·subst ey;obtain⟨z,hd,t,c,f⟩:=Xb I.hok e;obtain⟨w',j,d⟩:=vm.some_of (v:=v) (o:=valueAt t k) (by rw[l];exact c.val k);exact wpAny_getItem_of (UV n) f.mapOf j<|h w' _ (I.tok _) d
 ·subst ey;cases(show u=Et b from n);obtain⟨z,hd,x,c,f⟩:=X7 I.hok e;obtain⟨w',j,d⟩:=vm.some_of (v:=v) (o:=(atKey x k).map (·.2)) (by rw[l];exact c.val k);obtain⟨p,q,i⟩:=ZE.mp j;refine wpAny_getItem_heap (Js r) (U3 I.hok eb) f q ?_;rw[i];exact h w' _ (I.tok _) d
theorem bO {Q:Ee->Dh}(i:A.units+1<Lb)(I:Inv X Do σ H s)(g:wB H a y o)(f:yt y u)(h:∀s',Inv X Do σ H s'->Q (.bool o.isSome) s') :
  Eh (Em X.prog X.w) A (ES .In u<|.ref a) Q E s:=by
 rcases g with⟨Dm,k,e,ey,l⟩|⟨Dm,k,b,e,ey,eb,l⟩
 ·subst ey;obtain⟨z,hd,j,c,d⟩:=Xb I.hok e;refine wpAny_in_of (UV f) hd d.mapOf ?_;rw[←(c.val k).wz,←l];exact h _<|I.tok _
 ·subst ey;cases(show u=Et b from f);obtain⟨z,hd,n,c,d⟩:=X7 I.hok e;refine wpAny_in_heap (Js i) (U3 I.hok eb) hd d ?_;have q:=(c.val k).wz;rw[Ue]at q;rw[←q,←l];exact h _<|I.tok _
theorem Sn {Q:Ee->Dh}(i:A.units+1<Lb)(I:Inv X Do σ H s)(g:wB H a y o)(f:yt y u)(h:∀s',Inv X Do σ H s'->Q (.bool<|!o.isSome) s') :
  Eh (Em X.prog X.w) A (ES .NotIn u<|.ref a) Q E s:=by
 rcases g with⟨Dm,k,e,ey,l⟩|⟨Dm,k,b,e,ey,eb,l⟩
 ·subst ey;obtain⟨z,hd,j,c,d⟩:=Xb I.hok e;refine wpAny_notIn_of (UV f) hd d.mapOf ?_;rw[←(c.val k).wz,←l];exact h _<|I.tok _
 ·subst ey;cases(show u=Et b from f);obtain⟨z,hd,n,c,d⟩:=X7 I.hok e;refine wpAny_notIn_heap (Js i) (U3 I.hok eb) hd d ?_;have q:=(c.val k).wz;rw[Ue]at q;rw[←q,←l];exact h _<|I.tok _
theorem Ih {h':Ev}{t':Nat}(I:Inv X Do σ H s)(d:T6<|H a)(hs:EJ a s.heap h')(c:∃q,h'.get? a=some q)(new:yp X.prog X.w (upd H a ob) h' a ob) :
  Inv X Do σ (upd H a ob) { s with heap:=h',toks:=t' } :=
 I.write (x:=a) (e:=a) d (.inl rfl) (fun b q hb z=>(hs.2 b hb).trans z) c new
theorem KZ {H':Hp}{h':Ev}{Dm:Dl}(z:Dm.length<=sizeLine)(hd:(a==EM)=false)(b:KV Dm vs)(dd:h'.DictOf (zc P w) a vs) :
  yp P w H' h' a (.dK Dm):=⟨z,hd,vs,b,dd⟩
theorem Ou {Q:Unit->Dh}(M:A.units+1<Lb)(I:Inv X Do σ H s)(g:uw H a y v H')(x:yt y u)(t:yt v r)(h:∀s',Inv X Do σ H' s'->Q () s') :
  Eh (Em X.prog X.w) A (setItem (.ref a) u r) Q E s:=by
 rcases g with⟨Dm,k,e,ey,l,eH⟩|⟨Dm,k,b,e,ey,eb,l,eH⟩
 ·subst ey eH;obtain⟨z,hd,N,d,j⟩:=Ty I.hok e;have o:N.length<=sizeLine:=by rwa[←d.length]
  have hl:(yd Dm k v).length<=sizeLine:=by have:=xL Dm k v;lia
  refine wpAny_setItem_pairs (hsz:=o) (UV x) j fun p f n=>h _ ?_;have L:∃q,p.get? a=some q:=let ⟨q,_,_,i,_⟩:=f;⟨q,i⟩;exact Ih I (by rw[e];exact Lg) n L<|KZ hl hd (d.put k t) f
 ·subst ey eH;cases(show u=Et b from x);obtain⟨z,hd,O,d,j⟩:=ar I.hok e;have o:O.length<=sizeLine:=by rwa[←Paired.length d]
  have hl:(yd Dm k v).length<=sizeLine:=by have:=xL Dm k v;lia
  refine wpAny_setItem_heap (hsz:=o) (Js M) (U3 I.hok eb) j fun p f n=>h _ ?_;obtain⟨q,D,C,i,F,G,J,_,K⟩:=f;refine Ih I (by rw[e];exact Lg) n ⟨q,i⟩ ⟨hl,hd,_,(d.put k eb t).keeps fun c P B=>?_,q,D,C,i,F,G,J,K⟩;rwa[zH<|aJ B e<|fun z=>nomatch z]
end
def Sc (i:EI):Prop:=∀c b,subscripted i false c b=operate [c,b] (Mv c b)
theorem FN {prog:Eg}{w:Ek}{A:ED}{E:Ee->Dh}{s:Ei}{env:Env}{value b:EI}{pos:Pos}{T id:String}{Q:Ee->Dh}
  (hl:typeLookup (.type T) "__getitem__"=Lo (some<|.builtin id)) (hs:Sc b)
  (h:Eh (Em prog w) A (E3 value env) (fun o s₁=>Eh (Em prog w) A (E3 b env) (fun i s₂=>s₂.TypeIs o T/\Eh (Em prog w) A (Mv o i) Q E s₂) E s₁) E s) :
  Eh (Em prog w) A (E3 (.Subscript value b pos) env) Q E s:=by
 refine Subscript_<|Yu h (fun o s₁ f=>Yu f (fun i s₂ c=>?_) fun _ _ x=>x) fun _ _ x=>x;obtain⟨j,c⟩:=c;unfold subscriptTail;refine Q7 ?_;rw[getitemInPython_of_ne j.not_modules];refine Q7<|JU j hl ?_;have e:Eh (Em prog w) A (subscripted b false o i) (fun r d=>Eh (Em prog w) A (letTemporaryGo value o r>>=fun _=>Lo r) Q E d) E s₂:=by
  rw[hs o i];exact wpAny_operating<|Yu c (fun r d g=>Q7<|wpAny_letTemporaryGo<|Za g) fun _ _ x=>x
 first
  |exact Za (Q7 e)
  |exact Q7 (Za<|Q7 e)
  |exact Q7 e
theorem F7 (I:Inv X Do σ H s)(g:wB H a y o):s.TypeIs (.ref a) "dict":=by
 rcases g with⟨Dm,k,e,_,_⟩|⟨Dm,k,b,e,_,_,_⟩
 ·obtain⟨_,_,d,_,c⟩:=Xb I.hok e;exact c.typeIs
 ·obtain⟨_,_,f,_,c⟩:=X7 I.hok e;exact c.typeIs
def bf (e ty:TE):TE:=fun c H Q=>e c H fun x d=>ty c d fun y b=>∃a v,x=.ref a/\wB b a y (some v)/\Q v b
def TQ (g ty h:TE):TS:=fun D b H=>h b H fun v d=>g b d fun x e=>ty b e fun y f=>∃a c,x=.ref a/\uw f a y v c/\D.nx b c
section
variable {X:Cx}{o i e value:EI}{pos DG D5:Pos}{td ty tv:TE}
theorem Fy (r:X.A.units+1<Lb)(q:PE X o td)(p:PE X i ty)(hs:Sc i):PE X (.Subscript o i pos) (bf td ty):=by
 intro c s e H Q I h;refine FN PySem.F.slot_dict_getitem.lookup hs<|Ci (q c s e H _ I h) fun u C ⟨x,f,l,z,t⟩=>Ci (p c C e f _ l t) fun D E hh=>?_;obtain⟨y,j,d,B,a,v,ex,g,w⟩:=hh;subst ex;obtain rfl:u=Et a:=z;exact⟨F7 d g,Ot r d g B fun J G n b=>⟨v,j,n,b,w⟩⟩
theorem qK (w:X.A.units+1<Lb)(t:PE X o td)(q:PE X i ty)(z:PE X value tv)(hs:My value (some<|.Subscript o i DG) pos.line X.env=Lo false) :
  PS X (.Assign [.Subscript o i DG] value pos) (TQ td ty tv):=by
 intro c s b H D I h;refine wpAny_Assign_Subscript (Ci (z c s b H _ I h) fun r K ⟨v,d,j,F,B⟩=>Ci (t c K b d _ j B) fun u L ⟨x,e,l,G,C⟩=>Ci (q c L b e _ l C) fun N O hh=>?_) hs;obtain⟨y,M,n,J,a,f,ex,g,E⟩:=hh;subst ex;obtain rfl:u=Et a:=G;exact Ou w n g J F fun P p=>⟨b,f,p,E⟩
end
theorem F8 (h:Ev)(hb:EM<h.objs.size):yp P w H (h.push { cls:=.type "dict",data:=.dict #[] }) h.objs.size (.dK []) :=
 ⟨ZN _,YM.mpr<|EB<|Zz hb,[],.nil,Heap.DictOf.new h⟩
def WX:TE:=fun _ H Q=>∀p,H p=none->Q (.ref p) (upd H p<|.dK [])
section
variable {X:Cx}{pos:Pos}
theorem qQ:PE X (.Dict [] [] pos) WX:=fun b s c H Q I h =>
 wpAny_Dict_empty ⟨.ref s.heap.objs.size,_,I.laid (a:=s.heap.objs.size) (o:=.dK []) (t':=s.toks) (fun _ _ q=>Zd _ q) (Zf _)<|F8 s.heap I.big,rfl,h _<|I.hok.fresh<|Zf _⟩
end
def Nh:List (TE×TE)->St->Hp->(List (V×V)->Hp->Prop)->Prop
 |[],_,H,Q=>Q [] H
 |(tk,tv)::r,σ,H,Q=>tk σ H fun x b=>tv σ b fun y c=>Nh r σ c fun e d=>Q ((x,y)::e) d
abbrev VV:List (V×V)->List (Ee×Ee)->Prop:=Lj fun p q=>yt p.1 q.1/\yt p.2 q.2
def bC (X:Cx)(pos:Pos)(keys:List<|Option EI)(b:List EI)(c:List<|TE×TE):Prop :=
 ∀(e:De) (s:Ei) (d:St) (H:Hp) (Q:List (V×V)->Hp->Prop),Inv X e d H s->Nh c d H Q ->
  Eh (Em X.prog X.w) X.A (evalPairs<|pairTrees keys b X.env pos) (fun i h=>∃g f,Inv X e d f h/\VV g i/\Q g f) X.xe s
theorem SZ:bC X pos [] [] []:=fun b s c H Q I h=>pairTrees_nil_walk ⟨[],H,I,.nil,h⟩
theorem RC (hk:PE X k tk)(o:PE X v tv)(n:bC X pos ks vs trs) :
  bC X pos (some k::ks) (v::vs) ((tk,tv)::trs):=fun b s d H Q I h =>
 pairTrees_cons_walk (Ci (hk b s d H _ I h) fun u A ⟨x,e,i,w,q⟩=>Ci (o b A d e _ i q) fun D B ⟨y,f,j,z,r⟩ => Ci (n b B d f _ j r) fun E C ⟨p,g,l,c,t⟩=>⟨(x,y)::p,g,l,.cons ⟨w,z⟩ c,t⟩)
def U2 (Dm more:Dl):Dl:=more.foldl (fun b c=>yd b c.1 c.2) Dm
theorem KV.merge:∀{more:Dl} {rs:List (Key×Ee)} {Dm:Dl} {vs:List (Key×Ee)},KV more rs->KV Dm vs->KV (U2 Dm more) (merged vs rs):=by
 intro more rs Dm vs r;unfold KV at r
 induction r generalizing Dm vs with
 |nil=>intro q;exact q
 | @cons p q ps qs h t ih =>
  intro b;have e:KV (yd Dm p.1 p.2) (stored vs q.1 q.2):=by
   have:=b.put p.1 h.2;rwa[←h.1]
  exact ih e
theorem kZ:∀(more Dm:Dl),(U2 Dm more).length<=Dm.length+more.length
 |[],Dm=>by show Dm.length<=Dm.length+0;lia
 |p::r,Dm=>by
  have b:=kZ r<|yd Dm p.1 p.2;have c:=xL Dm p.1 p.2;show(U2 (yd Dm p.1 p.2) r).length<=_;rw[Zr];lia
theorem IG:∀{Dm:Dl} {ws:List (Ee×Ee)},VV (Dm.map fun kv=>(kV kv.1,kv.2)) ws->∃rs,Carries (zc P w) ws rs/\KV Dm rs
 |[],_,r=>by rw[YZ]at r;cases r;exact⟨[],Lg,.nil⟩
 |p::Dm,_,r=>by
  rw[Zu]at r;cases r with
  | @cons a b as bs h t =>
   obtain⟨rs,c,q⟩:=IG (P:=P) (w:=w) t;obtain⟨e,d⟩:=b;exact⟨(p.1,d)::rs,⟨UV h.1,rfl,c⟩,.cons ⟨rfl,h.2⟩ q⟩
def bg (c:List<|TE×TE):TE:=fun g H Q=>∀p,H p=none->Nh c g (upd H p<|.dK []) fun f d=>d p=some (.dK [])/\∃b:Dl,f=b.map (fun e=>(kV e.1,e.2))/\b.length<=15/\Q (.ref p) (upd d p<|.dK<|U2 [] b)
theorem SQ (h:bC X pos keys values trs)(d:keys.all (·.isSome)=true)(hl:keys.length=values.length)(t:keys≠[])
  (f:keys.length<=15):PE X (.Dict keys values pos) (bg trs):=by
 intro l s F H Q I q;have hn:=I.hok.fresh<|Zf s.heap.objs.size;have n:=I.laid (a:=s.heap.objs.size) (o:=.dK []) (h':=s.heap.push { cls:=.type "dict",data:=.dict #[] }) (t':=s.toks) (fun _ _ q=>Zd _ q) (Zf _)<|F8 s.heap I.big;refine wpAny_Dict_walk (knd:=zc X.prog X.w) d hl t f<|Ci (h l _ F _ _ n<|q _ hn) fun M L hh=>?_;obtain⟨K,G,j,g,e,i,r,J,A⟩:=hh;subst r;obtain⟨D,c,C⟩:=IG (P:=X.prog) (w:=X.w) g;obtain⟨z,hd,E,B,p⟩:=Ty j.hok e;cases B;refine⟨D,c,p,fun h' b x=>⟨.ref s.heap.objs.size,_,?_,rfl,A⟩⟩;have y:(U2 [] i).length<=sizeLine:=by
  have u:=kZ i [];rw[YS]at u;rw[Ys];lia
 have v:∃q,h'.get? s.heap.objs.size=some q:=let ⟨q,_,_,hq,_⟩:=b;⟨q,hq⟩;exact Ih j (by rw[e];exact Lg) x v<|KZ y hd (C.merge .nil) b
structure M1 (X:Cx)(o:EI)(m:Str)(Dr:Pos)(e:EI)(Dq:Pos):Prop where
 base:Lr o m X.env (E3 o X.env)=E3 o X.env
 few:((La Dq<|Eu [e] X.env).all (fun x=>!x.1)&&(Mp Dq<|LB [] X.env).all (fun x=>x.1.isSome) && decide (([e]:List EI).length+([]:List Keyword).length+(if([]:List Keyword).isEmpty then 0 else 1)<30))=true
 line:(Dr.endLine==Dq.line)=true
 trees:La Dq (Eu [e] X.env)=[(false,E3 e X.env)]
structure M2 (X:Cx)(o:EI)(m:Str)(Dr:Pos)(e f:EI)(Dq:Pos):Prop where
 base:Lr o m X.env (E3 o X.env)=E3 o X.env
 few:((La Dq<|Eu [e,f] X.env).all (fun x=>!x.1)&&(Mp Dq<|LB [] X.env).all (fun x=>x.1.isSome) && decide (([e,f]:List EI).length+([]:List Keyword).length+(if([]:List Keyword).isEmpty then 0 else 1)<30))=true
 line:(Dr.endLine==Dq.line)=true
 trees:La Dq (Eu [e,f] X.env)=[(false,E3 e X.env),(false,E3 f X.env)]
def bI (H:Hp)(a:Ef):Prop:=(∃b,Rd H a<|.dK b)\/∃b,Rd H a<|.dT b
theorem PQ (I:Inv X Do σ H s)(d:bI H a) :
  s.TypeIs (.ref a) "dict"/\(∀b,Et a=.ref b->∃ob,s.heap.get? b=some ob/\ob.dict=none)/\(a==EM)=false:=by
 rcases d with⟨Dm,e⟩|⟨Dm,e⟩
 ·obtain⟨_,hd,h,_,c⟩:=Xb I.hok e;refine⟨c.typeIs,fun b q=>?_,hd⟩;cases q;obtain⟨ob,_,_,f,g,_⟩:=c;exact⟨ob,f,g.2.1⟩
 ·obtain⟨_,hd,i,_,c⟩:=X7 I.hok e;refine⟨c.typeIs,fun b q=>?_,hd⟩;cases q;obtain⟨ob,_,_,f,g,_⟩:=c;exact⟨ob,f,g.2.1⟩
section
variable {X:Cx}{Do:De}{σ:St}{H:Hp}{s:Ei}{a:Ef}{y d:V}{u r:Ee}{o:Option V}{A:ED}{E:Ee->Dh}
theorem Wd {Q:Ee->Dh}(i:A.units+1<Lb)(I:Inv X Do σ H s)(g:wB H a y o)(f:yt y u)(h:∀w' s',Inv X Do σ H s'->yt (o.getD .non) w'->Q w' s') :
  Eh (Em X.prog X.w) A (call (.builtin "dict.get") [.ref a,u]) Q E s:=by
 rcases g with⟨Dm,k,e,ey,l⟩|⟨Dm,k,b,e,ey,eb,l⟩
 ·subst ey;obtain⟨z,hd,n,c,d⟩:=Xb I.hok e;refine Vw Y9 d.typeIs JP (PySem.F.args_dict_get_2 _ _) (meets_dict_get (zc X.prog X.w) a (UV f) hd) ⟨_,d.mapOf,h _ _ (I.tok _) ?_⟩;rw[l];exact(c.val k).getD rfl
 ·subst ey;cases(show u=Et b from f);obtain⟨z,hd,j,c,d⟩:=X7 I.hok e;refine Vw Y9 d.typeIs JP (PySem.F.args_dict_get_2 _ _) (meetsH_dict_get (Mx<|zc X.prog X.w) a b hd) ⟨Js i,k,j,U3 I.hok eb,d,h _ _ (I.tok _) ?_⟩;rw[l];exact(c.val k).getD rfl
theorem We {Q:Ee->Dh}(j:A.units+1<Lb)(I:Inv X Do σ H s)(g:wB H a y o)(i:yt y u)(rd:yt d r)(h:∀w' s',Inv X Do σ H s'->yt (o.getD d) w'->Q w' s') :
  Eh (Em X.prog X.w) A (call (.builtin "dict.get") [.ref a,u,r]) Q E s:=by
 rcases g with⟨Dm,k,e,ey,l⟩|⟨Dm,k,b,e,ey,eb,l⟩
 ·subst ey;obtain⟨z,hd,p,c,f⟩:=Xb I.hok e;refine Vw Y9 f.typeIs JP (PySem.F.args_dict_get_3 _ _ _) (meets_dict_get_default (zc X.prog X.w) a (UV i) hd r) ⟨_,f.mapOf,h _ _ (I.tok _) ?_⟩;rw[l];exact(c.val k).getD rd
 ·subst ey;cases(show u=Et b from i);obtain⟨z,hd,n,c,f⟩:=X7 I.hok e;refine Vw Y9 f.typeIs JP (PySem.F.args_dict_get_3 _ _ _) (meetsH_dict_get_default (Mx<|zc X.prog X.w) a b hd r) ⟨Js j,k,n,U3 I.hok eb,f,h _ _ (I.tok _) ?_⟩;rw[l];exact(c.val k).getD rd
end
def WV (e ty:TE):TE:=fun d H Q=>e d H fun x b=>∃a,x=.ref a/\bI b a/\ty d b fun y c=>∃o,wB c a y o/\Q (o.getD .non) c
def WW (f ty g:TE):TE:=fun b H Q=>f b H fun x c=>∃a,x=.ref a/\bI c a/\ty b c fun y e=>g b e fun z d=>∃o,wB d a y o/\Q (o.getD z) d
section
variable {X:Cx}{o e f:EI}{Dr Dq:Pos}{td ty tx:TE}
theorem jG (t:X.A.units+1<Lb)(r:PE X o td)(q:PE X e ty)(m:M1 X o "get" Dr e Dq):PE X (.Call (.Attribute o "get" Dr) [e] [] Dq) (WV td ty):=by
 intro c s i H Q I h;refine wpAny_Call_method m.base m.few m.line PySem.F.plainAttrs_dict Y9 PySem.F.type_dict_get<|Ci (r c s i H _ I h) fun u C hh=>?_;obtain⟨x,j,f,z,a,ex,d,v⟩:=hh;subst ex;obtain rfl:u=Et a:=z;obtain⟨D,E,_⟩:=PQ f d;refine⟨D,E,?_⟩;rw[m.trees];refine Ln rfl<|LN<|LC<|Ci (q c C i j _ f v) fun G K ⟨y,l,n,B,J,g,w⟩=>Mf ?_;exact Wd t n g B fun M L p b=>⟨_,l,p,b,w⟩
theorem IW (C:X.A.units+1<Lb)(B:PE X o td)(v:PE X e ty)(w:PE X f tx)(m:M2 X o "get" Dr e f Dq):PE X (.Call (.Attribute o "get" Dr) [e,f] [] Dq) (WW td ty tx):=by
 intro b s i H Q I h;refine wpAny_Call_method m.base m.few m.line PySem.F.plainAttrs_dict Y9 PySem.F.type_dict_get<|Ci (B b s i H _ I h) fun u M hh=>?_;obtain⟨x,l,j,J,a,ex,d,D⟩:=hh;subst ex;obtain rfl:u=Et a:=J;obtain⟨O,P,_⟩:=PQ j d;refine⟨O,P,?_⟩;rw[m.trees];refine Ln rfl<|LN<|LC<|Ci (v b M i l _ j D) fun S N ⟨y,n,q,K,E⟩ => LC<|Ci (w b N i n _ q E) fun R U ⟨z,p,r,L,T,g,G⟩=>Mf ?_
 exact We C r g K L fun Z Y t c=>⟨_,p,t,c,G⟩
end
end L2
namespace Att
open PySem PySem.W PySem.Calls PyProof.Rows
theorem Ia {P:Params}{h:Ev}:∀(ns:List Int) (vs:Db),WellAll P h vs (ns.map WData.int)->IntsAre vs ns:=by
 intro ns
 induction ns with
 |nil =>
  intro vs w;rw[YZ]at w;cases w;exact .nil
 |cons n ns ih =>
  intro vs w;rw[Zu]at w;cases w with
  |cons a b =>
   cases a;exact .cons _ _<|ih _ b
theorem O5 {l:OpenLaw}{n:Nat}(hn:l.most=some n){P:Params}{h:Ev}{args:List WData}{c:Db}
  (b:l.row.toRowW.claim.pre args=true) (i:WellAll P h c args) :
  ∃a vs ns,c=[Et a]/\args=[WData.list<|ns.map WData.int]/\h.get? a=some { cls:=.type "list",data:=.seq vs.toArray }/\IntsAre vs ns/\ns.length<=n:=by
 have g:WShape.hasAll [] args [.list .int]=true:=(pre_splitW b).1;have j:l.pre.holds [] { args:=args }=true:=(pre_splitW b).2;obtain⟨d,r,rfl,p,s⟩:=hasAllW_cons g;obtain rfl:=hasAllW_nil s;obtain⟨v,rfl,t⟩:=hasW_list p;obtain⟨ns,rfl⟩:=items_int t;have o:ns.length<=n:=by
  unfold OpenLaw.pre at j;have e:(WTm.not<|.lt (.lit<|.int (n:Int))<|.len<|.arg 0).holds [] { args:=[.list<|ns.map .int] }=true:=by
   have e:=(holds_andW j).1;rw[hn]at e;exact e
  have f:=condW_of e<|w_not<|w_lt w_lit<|w_len_list<|w_arg rfl;rw[Q8]at f;refine Nat.le_of_not_lt fun q=>?_;have u:(n:Int)<((ns.length:Nat):Int):=by lia
  first
   |(rw[Zg u]at f;exact absurd f<|by decide)
   |(simp at f;lia)
 cases i with
 |cons w1 w2 =>
  cases w2;cases w1 with
  |list ho hall=>exact⟨_,_,ns,rfl,rfl,ho,Ia ns _ hall,o⟩
theorem O3 (l:OpenLaw)(args:List WData):l.row.toRowW.claim.post args (.bool true) args=true :=
 postW_of (r:=l.row.toRowW) (X:=(true==true))
  (show WShape.has [] (.bool true) .bool=true by first|rfl|decide|simp[WShape.has,WShape.arms,WShape.armsAll])
  (show(WTm.eq .res<|.lit<|.bool true).value [] { args:=args,res:=some<|.bool true,after:=args }=some (.bool<|true==true) from w_eq_bool (w_res rfl) w_lit) rfl
theorem qb {l:OpenLaw}{n:Nat}{q:Eg}{b:Da}{s:(Str->Dc)->Ev->Prop}{t:Ek->Ev->Prop}{d:DefRec}
  (hn:l.most=some n) (i:d.params.defaults=[])
  (call:∀(w:Ek) (s₀ s₁:Ei) (mg mb:Str->Dc) (fa:Ef) (o:Obj) (pm cd doc:Ee) (a:Ef) (vs:Db) (ns:List Int),Ground q b [] s w s₀ mg mb s₁.heap->t w s₁.heap -> s₁.heap.get? fa=some o->o.data=.func (docDef d.name d.params d.body d.scope pm cd doc)->s₁.heap.CodeRec cd d.name->mg d.name=some (.ref fa) -> s₁.heap.get? a=some { cls:=.type "list",data:=.seq vs.toArray }->IntsAre vs ns->ns.length<=n->s₁.gens=#[] -> LS (Em l.prog w) callerA (.call (.ref fa) ⟨[.ref a],[]⟩) (fun r s'=>r=.ok (.ret<|.bool true)/\OldK s₁.heap s'.heap/\s'.os=s₁.os/\Mt s'.gens) s₁) :
  WalkO q b s t l.row.toRowW d [] (fun f vs=>PySem.call f vs):=by
 intro w s₀ s₁ mg mb G Y fa o pm cd doc A kV H hd h v j E u y K g x J p F;obtain rfl:A=.none:=Dflts.none v i;obtain rfl:kV=.none:=Dflts.noKw v;obtain⟨a,vs,ns,rfl,rfl,e,c,z⟩:=O5 hn g p;refine enter_call<|YY (call w s₀ s₁ mg mb fa o pm cd doc a vs ns G Y H (fd_plain hd) h j e c z E) fun r s' I=>?_;obtain⟨rfl,B,C,D⟩:=I;exact⟨.inl ⟨.bool true,.bool true,[],rfl,fun _=>rfl,.bool true,O3 l _,fun _=>⟨List.Pairwise.nil,fun _ hm=>(nomatch hm)⟩⟩,B,C,D⟩
end Att
namespace L2
open PySem PySem.Spec PyProof.Rows
theorem Bn:∀{vs:Db} {ns:List Int},IntsAre vs ns->yr (ns.map V.int) vs
 |_,_,.nil=>.nil
 |_,_,.cons n t h=>.cons ⟨t,rfl⟩<|Bn h
def Only (H:Hp):Prop:=∀b,H b=none\/∃o c,H b=some (.frz o<|.lst c)
theorem P1 {P:Eg}{w:Ek}{K:Cd}{mg M:Str->Dc}{CX:Pf}{k:Nat}{G a:Ef}{R:Eo}{x:Str}{sp:Sp}{c:Ei}{vs:Db}{ns:List Int}
  (O:K.In c.heap) (A:c.heap.Ns Es mg) (hb:c.heap.Ns builtinsNs M) (J:∀x:Str,x≠"__name__"->M x=LQ x) (y:c.heap.NoLimit) (hg:c.gens=#[])
  (ha:c.heap.get? a=some { cls:=.type "list",data:=.seq vs.toArray }) (U:IntsAre vs ns) (hl:ns.length<=sizeLine) (hr:wX k callerA)
  (F:∀base:Ev,K.In base->base.Ns Es mg->yx P w K mg base CX k G R [x] sp) (j:∀(s:Ei) (u:Ee),BindsTo s R ⟨[u],[]⟩ [(x,u)])
  (L:∀H:Hp,Only H->yu K H a (ns.map V.int)->sp [.ref a] H (fun v _=>v=.bl true) fun _ _ _=>False)
  (I:∀H e s',CX [] H c (fun _ _ _=>False) e s'->False) :
  LS (Em P w) callerA (.call (.ref G) ⟨[.ref a],[]⟩) (fun r s'=>r=.ok (.ret<|.bool true)/\OldK c.heap s'.heap/\s'.os=c.os/\Mt s'.gens) c:=by
 have X:=Bn U;have C:=U.length;have i:∀H:Hp,Only H->yu K H a (ns.map V.int)->uh P w H c.heap->(∀b,H b≠none->b=a)->(H a≠none->K.lookup a=none) ->
   LS (Em P w) callerA (.call (.ref G) ⟨[.ref a],[]⟩) (fun r s'=>r=.ok (.ret<|.bool true)/\OldK c.heap s'.heap/\s'.os=c.os/\Mt s'.gens) c:=by
  intro H T hS hok S hK;have f:∀{b:Ef} {o:Obj},c.heap.get? b=some o->H b=none->(Fh c.heap H).get? b=some o:=fun e n=>PN e n;have N:∀{b:Ef} {o:Obj} {p:Array Mb} {l:Nat},c.heap.get? b=some o->o.data=.dict p l->H b=none:=fun{b o p l} e d=>by
   cases q:H b with
   |none=>rfl
   |some u =>
    have E:b=a:=S b (by rw[q];simp);subst E;rw[ha]at e;cases e;have Y:Data.seq vs.toArray _=Data.dict p l:=d;cases Y
  have g:∀{b:Ef} {m:Str->Dc},c.heap.Ns b m->(Fh c.heap H).Ns b m:=fun{b m} ⟨o,p,l,e,d,r⟩=>⟨o,p,l,f e<|N e d,d,r⟩;have t:K.In (Fh c.heap H):=fun b o e=>f (O b o e) (by
   cases q:H b with
   |none=>rfl
   |some u =>
    have E:b=a:=S b (by rw[q];simp);subst E;rw[hK (by rw[q];simp)]at e;cases e)
  have hM:Mod K mg (Fh c.heap H):=⟨t,g A,⟨M,g hb,J⟩,let ⟨mc,h1,h2⟩:=y;⟨mc,g h1,h2⟩⟩;have Z:pF P w K mg (Fh c.heap H) callerA [] c H:=⟨rfl,hM,fun b o e=>SK e,J8<|OL _ _,trivial,fun b hb=>absurd (show b∈([]:Dd) from hb) (by simp),hok,.of_eq hg⟩;refine YY ((F _ t<|g A).run callerA [] c H ⟨[.ref a],[]⟩ [.ref a] [.ref a] _ _ hr Z (j c<|.ref a) (.cons rfl .nil)<|L H T hS) fun r s' h=>?_;cases r with
  |error e=>exact(I H e s' h).elim
  |ok fl =>
   cases fl with
   |next=>exact EG h
   |brk=>exact EG h
   |cont=>exact EG h
   |ret u =>
    obtain⟨v,H',os,bare,un,B,r',q⟩:=h;have q':v=.bl true:=q;subst q';obtain rfl:u=L6 true:=r';refine⟨rfl,OldK.of_keep fun b o e=>?_,os,bare⟩;cases q:H b with
    |none=>exact un.keep b o e q (by intro z;exact absurd (show b∈([]:Dd) from z) (by simp)) (by simp)
    |some u =>
     rcases T b with z|⟨ob,xs,z⟩
     ·rw[q]at z;cases z
     ·have z2:=un.vy b ob _ z;obtain⟨Q,_⟩:=hok b _ z;obtain⟨e2,_⟩:=B b _ z2;rw[e]at Q;cases Q;exact e2
 cases hk:K.lookup a with
 |some o =>
  have e:=O a o hk;rw[ha]at e;cases e;refine i (fun _=>none) (fun _=>.inl rfl) (.inr ⟨_,vs.toArray,_,hk,rfl,rfl,rfl,by rw[Zy,C];exact hl,by simpa using X⟩) (fun b u z=>by have D:(none:Option HO)=some u:=z;cases D) (fun b z=>absurd rfl z) fun z=>absurd rfl z
 |none =>
  refine i (fun b=>if b=a then some (.frz { cls:=.type "list",data:=.seq vs.toArray }<|.lst<|ns.map V.int) else none) (fun b=>?_) (.inl<|.inr ⟨{ cls:=.type "list",data:=.seq vs.toArray },Zs rfl⟩) (fun b u z=>?_) (fun b z=>?_) fun _=>hk
  ·by_cases hb:b=a
   ·exact .inr ⟨_,_,Zs hb⟩
   ·exact .inl (Zt hb)
  ·by_cases hb:b=a
   ·have D:=(Zs hb).symm.trans z;cases D;subst hb;exact⟨ha,by rw[Q8];exact hl,vs,_,X,ha⟩
   ·have D:=(Zt hb).symm.trans z;cases D
  ·by_cases hb:b=a
   ·exact hb
   ·exact absurd (Zt hb) z
theorem mZ {l:PySem.W.OpenLaw}{n k:Nat}{q:Eg}{i:Da}{E:(Str->Dc)->Ev->Prop}{D:Ek->Ev->Prop}{d:DefRec}{K:Params->Cd}{CX:Ek->Pf}{sp:Ek->Sp}{x:Str}
  (hn:l.most=some n) (z:n<=sizeLine) (t:d.params.defaults=[]) (Q:wX k callerA)
  (N:∀(w:Ek) (h:Ev),D w h->(K w.params).In h)
  (F:∀(w:Ek) (mg:Str->Dc) (fa:Ef) (h:Ev),(K w.params).In h->h.Ns Es mg->mg d.name=some (.ref fa) -> ∃fd:Eo,(∀(s:Ei) (u:Ee),BindsTo s fd ⟨[u],[]⟩ [(x,u)]) /\ ∀base:Ev,(K w.params).In base->base.Ns Es mg->yx l.prog w (K w.params) mg base (CX w) k fa fd [x] (sp w))
  (A:∀(w:Ek) (H:Hp) (a:Ef) (ns:List Int),ns.length<=n->Only H->yu (K w.params) H a (ns.map V.int)->sp w [.ref a] H (fun v _=>v=.bl true) fun _ _ _=>False)
  (r:∀(w:Ek) (H:Hp) (s:Ei) (e:Ee) (s':Ei),CX w [] H s (fun _ _ _=>False) e s'->False) :
  PySem.W.WalkO q i E D l.row.toRowW d [] (fun f vs=>PySem.call f vs):=by
 refine Att.qb hn t fun w s₀ p mg U fa o pm R I a vs ns G Y S hd O y j c B P=>?_;have C:=N w _ Y;obtain⟨fd,hb,J⟩:=F w mg fa _ C G.T.g y;exact P1 C G.T.g G.T.b G.T.builtins G.T.nolimit P j c (Z0 B z) Q J hb (fun H L M=>A w H a ns B L M) fun H e s'=>r w H p e s'
def inClass (s:EQ)(j:Nat):Stmt:=match s with
 | .ClassDef _ _ _ body _ _ _ _ _ _ _=>body.getD j<|.Pass ⟨0,0,0,0⟩
 |_=>.Pass ⟨0,0,0,0⟩
def qB (s:EQ):Arguments:=match s with
 | .FunctionDef _ a _ _ _ _ _ _ _ _=>a
 |_=>{ posonlyargs:=[],args:=[],vararg:=none,kwonlyargs:=[],kw_defaults:=[],kwarg:=none,defaults:=[] }
def xP (s:EQ):List Stmt:=match s with
 | .FunctionDef _ _ b _ _ _ _ _ _ _=>b
 |_=>[]
def zG (s:EQ):Scope:=match s with
 | .FunctionDef _ _ _ _ _ _ sc _ _ _=>sc
 |_=>{ kind:=.function,names:=[],isGenerator:=false,isCoroutine:=false }
abbrev Cn:Pf:=fun _ _ _ _ _ _=>False
abbrev E0:XK:=fun _ _ _=>False
theorem NT:v9 Cn X E0:=fun _ _ _ _ _ _ _ h=>h.elim
structure wY (K:Cd)(x qual:Str)(st:EQ)(f:Ef)(fd:Eo):Prop where
 ex:∃(oc:Ee) (od:Option Ef) (kV doc pm:Ee) (an:Option Ef) (cdv ct:Ee) (osl:Array Dc),
  fd=E7 x qual (qB st) (xP st) (zG st) .none kV doc pm an cdv ct/\K.lookup f=some ⟨oc,od,.func fd,osl⟩/\Lx K cdv qual=true
 kp:EW K (.ref f)=true
section
variable {P:Eg}{w:Ek}{K:Cd}{mg:Str->Dc}{base:Ev}
theorem wY.ok {st:EQ}{k:Nat}{sp:Sp}(F:wY K x qual st f fd)(S:zx N ps<|zG st)
  (d:∀(cdv:Ee) (A:ED) (outer:List Env) (s:Ei) (H:Hp) (vs:Dj) (Q:VK) (E:XK),wX k (A.deeper<|envOfC qual (zG st) s.heap.objs.size f cdv)->sp vs H Q E -> ∃t,sX (DE Cn P w K mg base N qual (zG st) f cdv A outer s H E).lD (xP st) t/\t { nx:=fun _ H'=>Q .non H',rt:=Q } (start N vs) H)(len:∀vs H Q E,sp vs H Q E->vs.length=ps.length:=by intro _ _ _ _ h;first|(cases h;subst_vars;rfl)|repeat first|(obtain⟨rfl,_⟩:=h;rfl)|obtain⟨_,h⟩:=h):yx P w K mg base Cn (k+1) f fd ps sp:=by
 obtain⟨n,o,kV,e,pm,l,cdv,ct,j,rfl,i,b⟩:=F.ex;refine TC i b S len fun A outer s H vs Q E g c=>?_;obtain⟨t,h,q⟩:=d cdv A outer s H vs Q E g c;exact⟨t,h.lD,q⟩
theorem wY.binds {st:EQ}{ps:Da}(F:wY K x qual st f fd)
  (h:∀(kV doc pm:Ee) (an:Option Ef) (cdv ct:Ee) (us:Db),us.length=ps.length->bindArgs (E7 x qual (qB st) (xP st) (zG st) .none kV doc pm an cdv ct) ⟨us,[]⟩=Lo (ps.zip us)):wU K fd ps []:=by
 obtain⟨e,g,kV,doc,pm,an,cdv,ct,c,rfl,d,b⟩:=F.ex;exact .all<|h kV doc pm an cdv ct
theorem U1 {x qual:Str}{st:EQ}{f:Ef}{h:Ee}{i g:Option Ef}{e:Array Dc}{kV d pm b ct:Ee}(l:K.lookup f=some ⟨h,i,.func<|E7 x qual (qB st) (xP st) (zG st) .none kV d pm g b ct,e⟩)
  (c:Lx K b qual=true) (k:EW K (.ref f)=true):wY K x qual st f (E7 x qual (qB st) (xP st) (zG st) .none kV d pm g b ct):=⟨⟨h,i,kV,d,pm,g,b,ct,e,rfl,l,c⟩,k⟩
end
theorem Hl (b:wX k A):A.units+1<cLine:=Vn (Nat.add_le_add_left (by decide:1<=64) _) b.units
section
variable {X:Cx}
theorem pv (i:Nat){x:Str}{pos:Pos}(c:X.N[i]?=some x:=by rfl)(d:bE X.env.scope x:=by first|exact EE rfl|exact Or.inr (EE rfl)|exact Or.inr (Or.inr rfl))(hd:(x==("__debug__":Str))=false:=by decide)
  (b:(x==("__classdict__":Str))=false:=by decide):PE X (.Name x pos) (bt i):=WE c d hd b
end
theorem Ur {A B:Prop}(h:B):if false=true then A else B:=by
 rwa[Zt ZK]
theorem Uo {A B:Prop}(h:A):if true=true then A else B:=by
 rwa[Zs rfl]
theorem Uw {c A B:Prop} [Decidable c](h1:c->A)(h2:¬c->B):if c then A else B:=by
 by_cases h:c
 ·rw[Zs h];exact h1 h
 ·rw[Zt h];exact h2 h
theorem TF {c A B:Prop} [Decidable c](hc:c)(h:B):if(!decide c)=true then A else B:=by
 rw[Zg hc];exact Ur h
def zz (H H':Hp):Prop:=∀b o,H b=some o->H' b=some o
theorem zz.refl (H:Hp):zz H H:=fun _ _ h=>h
theorem zz.trans (a:zz H H1)(b:zz H1 H2):zz H H2:=fun c o h=>b c o<|a c o h
theorem zz.free (e:zz H H'){l:Ef}(h:H' l=Option.none):H l=Option.none:=by
 cases q:H l with
 |none=>rfl
 |some o =>
  rw[e l o q]at h;cases h
theorem zz.seq {K:Cd}(e:zz H H')(h:yu K H a xs):yu K H' a xs:=by
 rcases h with(h|⟨o,h⟩)|h
 ·exact .inl (.inl<|e _ _ h)
 ·exact .inl (.inr ⟨o,e _ _ h⟩)
 ·exact .inr h
section
variable {κ:Type} [DecidableEq κ]
theorem GT {Dm:List (κ×V)}{k:κ}(h:Us Dm k=none):¬k∈Dm.map (·.1):=by
 intro m;obtain⟨p,b,e⟩:=Zc.mp m;have q:(Dm.any fun c=>decide (c.1=k))=true:=Yb.mpr ⟨p,b,Zg e⟩;rw[xZ,h]at q;exact absurd q (by simp)
theorem uZ {Dm:List (κ×V)}{k:κ}{v:V}(h:Us Dm k=some v):k∈Dm.map (·.1):=by
 have q:(Dm.any fun c=>decide (c.1=k))=true:=by
  rw[xZ,h]
  all_goals rfl
 obtain⟨p,b,e⟩:=Yb.mp q;exact Zc.mpr ⟨p,b,Zv e⟩
theorem jQ:∀{l:List κ} {k:κ},l.Nodup->¬k∈l->(l++[k]).Nodup
 |[],k,_,_=>by simp
 |a::r,k,h,hk=>by
  obtain⟨b,c⟩:=ZS.mp h;show(a::(r++[k])).Nodup;refine ZS.mpr ⟨fun m=>?_,jQ c fun m=>hk<|Zi.mpr<|Or.inr m⟩
  rcases ZD.mp m with q|q
  ·exact b q
  ·exact hk (Zi.mpr<|EE (Q9.mp q).symm)
end
theorem jI {α b:Type}{f:α->b->Sem (ForInStep b)}(g:b->α->b):∀(l:List α) (c:b),(∀x∈l,∀c,f x c=Lo (.yield<|g c x))->forIn l c f=Lo (l.foldl g c)
 |[],c,_=>rfl
 |x::l,c,h=>by
  rw[List.forIn_cons,h x Ze,pure_bind];exact jI g l (g c x) fun y d=>h y<|Zb _ d
def Xg (cells:List<|Str×Ef)(c:List<|Str×Ef)(x:Str×LZ):List (Str×Ef) :=
 if x.2==.free then(match cells.lookup x.1 with|some a=>(x.1,a)::c|none=>c) else c
def qR (env:Env)(sc:LX):List (Str×Ef):=sc.names.foldl (Xg env.cells) []
theorem uM {scope:LX}{env:Env}(h:∀x∈scope.names,x.2=.free->∃c,env.cells.lookup x.1=some c):closureFor scope env=Lo (qR env scope):=by
 simp only[closureFor];rw[jI (Xg env.cells) scope.names []<|fun x d c=>?_]
 ·rfl
 ·obtain⟨n,k⟩:=x;unfold Xg;cases hk:(k==NameKind.free) with
  |true =>
   have e:k=.free:=by simpa using hk
   obtain⟨a,ha⟩:=h (n,k) d e;have b:env.cells.lookup n=some a:=ha;simp only[hk,if_true,cellOf,b,pure_bind]
  |false=>simp only[hk,Z7,JT]
theorem qH {b:Type}(x n:Str)(a:b)(l:List<|Str×b):LA x ((n,a)::l)=if x=n then some a else LA x l:=by
 by_cases h:x=n
 ·have hb:(x==n)=true:=Jd.mpr h;simp only[List.lookup_cons,hb,Zs h]
 ·have hb:(x==n)=false:=YM.mpr h;simp only[List.lookup_cons,hb,Zt h]
theorem IK {cells:List (Str×Ef)}:∀(names:List<|Str×LZ) (acc:List<|Str×Ef),(∀x c,acc.lookup x=some c->cells.lookup x=some c) ->
  ∀x c,(names.foldl (Xg cells) acc).lookup x=some c->cells.lookup x=some c
 |[],acc,h=>h
 |(n,k)::r,acc,h=>IK r _ fun x c e=>by
  unfold Xg at e
  by_cases hk:((n,k).2==NameKind.free)=true
  ·rw[Zs hk]at e;dsimp only at e;cases q:cells.lookup n with
   |none=>rw[q]at e;exact h x c e
   |some a =>
    rw[q]at e;dsimp only at e;rw[qH]at e
    by_cases b:x=n
    ·rw[Zs b]at e;rwa[b,q]
    ·rw[Zt b]at e;exact h x c e
  ·rw[Zt hk]at e;exact h x c e
theorem BK:∀(names:List<|Str×LZ) (acc:List<|Str×Ef) (x:Str),(∃c,acc.lookup x=some c)->∃c,(names.foldl (Xg cells) acc).lookup x=some c
 |[],acc,x,h=>h
 | (n,k)::r,acc,x,h=>BK r _ x (by
  obtain⟨c,h⟩:=h;unfold Xg
  by_cases hk:((n,k).2==NameKind.free)=true
  ·rw[Zs hk];dsimp only;cases q:cells.lookup n with
   |none=>exact⟨c,h⟩
   |some a =>
    dsimp only;rw[qH]
    by_cases b:x=n
    ·exact⟨a,by rw[Zs b]⟩
    ·exact⟨c,by rw[Zt b];exact h⟩
  ·rw[Zt hk];exact⟨c,h⟩)
theorem F2 {cells:List (Str×Ef)}{x:Str}{c:Ef}(b:cells.lookup x=some c):∀(names:List<|Str×LZ) (acc:List<|Str×Ef),(x,NameKind.free)∈names->∃c,(names.foldl (Xg cells) acc).lookup x=some c
 |[],acc,h=>by cases h
 |(n,k)::r,acc,h=>by
  rcases Zi.mp h with e|e
  ·cases e;refine BK r _ x ⟨c,?_⟩;unfold Xg;rw[Zs<|by rfl];dsimp only;rw[b];dsimp only;rw[qH,Zs rfl]
  ·exact F2 b r _ e
theorem Nt {env:Env}{sc:LX}{x:Str}{c:Ef}(b:env.cells.lookup x=some c)(hm:(x,NameKind.free)∈sc.names):(qR env sc).lookup x=some c:=by
 obtain⟨d,h⟩:=F2 b sc.names [] hm;have e:=IK sc.names [] (fun x c e=>by cases e) x d h;rw[b]at e;cases e;exact h
theorem kJ {x:Str}{c:Ef}(h:(qR env sc).lookup x=some c):env.cells.lookup x=some c :=
 IK sc.names [] (fun x c e=>by cases e) x c h
def Kn (env:Env)(x:Str)(k:LZ):NameKind:=if(k==.free&&env.scope.kind==.function&&env.kindOf x==some .cell) then .cell else k
theorem j9 {env:Env}(x:Str):∀names:List<|Str×LZ,
  (names.map fun(n,k)=>if(k==NameKind.free&&env.scope.kind==.function&&env.kindOf n==some .cell) then(n,NameKind.cell) else(n,k)).lookup x=(names.lookup x).map (Kn env x)
 |[]=>rfl
 |(n,k)::r=>by
  have c:=j9 (env:=env) x r;rw[Zu];have e:(if(k==NameKind.free&&env.scope.kind==.function&&env.kindOf n==some .cell)=true then(n,NameKind.cell) else(n,k))=(n,Kn env n k):=by
   unfold Kn
   split<;>rfl
  dsimp only;rw[e,qH,qH]
  by_cases b:x=n
  ·rw[Zs b,Zs b,b];rfl
  ·rwa[Zt b,Zt b]
theorem XW {env:Env}{scope:LX}{cl:List (Str×Ef)}{C:Ef}(x:Str):(Mq scope cl C env).scope.names.lookup x=(scope.names.lookup x).map (Kn env x):=j9 x scope.names
def UC (src:List<|Option Nat)(b:St):St:=src.map fun o=>o.bind fun i=>(b[i]?).join
structure vh (sc:LX)(N N':Da)(src:List<|Option Nat)(scope:LX):Prop where
 nd:N'.Nodup
 len:src.length=N'.length
 kind:scope.kind=.function
 qy:∀y∈scope.names,y.2≠.cell
 names:∀y∈scope.names,y.2=.local->scope.names.lookup y.1=some .local
 free:∀y∈scope.names,y.2=.free->sc.names.lookup y.1=some .cell\/sc.names.lookup y.1=some .free
 srcs:((src.zip N').all fun(o,x)=>match o with|none=>true|some i=>N[i]?==some x&&scope.names.lookup x==some .free)=true
theorem vh.a {sc:LX}{N N':Da}{src:List (Option Nat)}{scope:LX}(nd:N'.Nodup:=by decide +kernel)(len:src.length=N'.length:=by rfl)(kind:scope.kind=.function:=by rfl)(qy:∀y∈scope.names,y.2≠.cell:=by decide +kernel)(names:∀y∈scope.names,y.2=.local->scope.names.lookup y.1=some .local:=by decide +kernel)(free:∀y∈scope.names,y.2=.free->sc.names.lookup y.1=some .cell\/sc.names.lookup y.1=some .free:=by decide +kernel)(srcs:((src.zip N').all fun(o,x)=>match o with|none=>true|some i=>N[i]?==some x&&scope.names.lookup x==some .free)=true:=by decide +kernel):vh sc N N' src scope:=⟨nd,len,kind,qy,names,free,srcs⟩
theorem vh.at (O:vh sc N N' src scope){j i:Nat}{x:Str}(c:src[j]?=some (some i))(d:N'[j]?=some x):N[i]?=some x/\scope.names.lookup x=some .free:=by
 have e:(src.zip N')[j]?=some (some i,x):=by rw[Jy];exact⟨c,d⟩
 have q:=ZU.mp O.srcs _<|Zn e;have b:(N[i]?==some x&&scope.names.lookup x==some .free)=true:=q;rw[Zm]at b;exact⟨Vt b.1,Vt b.2⟩
def Cx.comp (X:Cx)(N':Da)(scope:LX)(C:Ef)(s:Ei)(H:Hp)(b:Dd):Cx :=
 { X with N:=N',s₀:=s,H₀:=H,env:=Mq scope (qR X.env scope) C X.env,outer:=X.stack,ex:=b,fn:=fun _=>false,pn:=[],xe:=fun _ _=>False }
theorem Un.adopt {D:Ef}(u:Un fs ex H H1 h h1)(f:h.get? D=none)(c:H D=none):Un fs ex H (upd H1 D o) h h1 where
 keep:=u.keep
 slot:=u.slot
 free:=fun b d q n g=>by
  have hb:b≠D:=fun z=>by rw[z,f]at q;cases q
  rw[zH hb];exact u.free b d q n g
 there:=u.there
 tups:=fun b e q=>by rw[zH<|zR q c];exact u.tups b e q
 vy:=fun b d e q=>by rw[zH<|zR q c];exact u.vy b d e q
 ut:=fun b i q=>by rw[zH<|zR q c];exact u.ut b i q
theorem uh.adopt {D:Ef}(x:uh P w H h)(n:H D=none)(new:yp P w (upd H D o) h D o):uh P w (upd H D o) h:=fun b u e=>by
 by_cases hb:b=D
 ·subst hb;rw[zC]at e;cases e;exact new
 ·rw[zH hb]at e;exact(x b u e).stay (fun c v _ q=>q) (fun c q=>by rwa[zH<|zR q n]) fun c d q=>by rwa[zH<|zR q n]
def oU (X:Cx)(b:List EI)(f:TT):Prop :=
 ∀(e:De) (s:Ei) (d:St) (H:Hp) (Q:Bool->Hp->Prop),Inv X e d H s->f d H Q ->
  Eh (Em X.prog X.w) X.A (forIn b true fun c r=>if r=true then do let ok ←isTrue c X.env (E3 c X.env);Lo (Ms ok) else Lo (Ms r)) (TP X e d Q) X.xe s
def B3:TT:=fun _ H Q=>Q true H
theorem x9:oU X [] B3:=by
 intro b s c H Q I h;rw[List.forIn_nil];exact Za ⟨H,I,h⟩
theorem FB (g:PT X c tc):oU X [c] tc:=by
 intro d s j H Q I h;rw[List.forIn_cons];refine Q7<|Q7<|Ci (g d s j H _ I h) fun b l ⟨e,f,i⟩=>Za ?_;dsimp only;rw[List.forIn_nil];exact Za ⟨e,f,i⟩
def U9 (src:List<|Option Nat)(J:It)(g:TG)(t:TT)(s:TE)(Q:VK)(u:St)(H:Hp):Prop :=
 ∃W:Nat->Nat->Dj->St->Hp->Prop,(∃m,W 0 m [] (UC src u) H)/\∀i m f j d,W i m f j d->f.length<=sizeLine /\
 ((J.stop i d/\∀p,d p=none->Q (.ref p) (upd d p<|.lst f)) \/ (J.go i d/\∃l:Dj->St->Hp->Prop,(∀h c e,l h c e->∃o,o<m/\W (i+1) o h c e) /\ ∀x e,J.oR i d x e->g x j e fun c q=>t c q fun b n=>if b=true then s c n fun y r=>l (f++[y]) c r else l f c n))
def TV (src:List<|Option Nat)(f:TI)(g:TG)(e:TT)(d:TE):TE:=fun b H Q=>f b H fun J c=>U9 src J g e d Q b c
section
variable {X:Cx}{tg elt iter:EI}{ifs:List EI}{scope sc:LX}{N N':Da}{src:List (Option Nat)}{g:TG}{tf:TT}{te:TE}{wi:TI}{pos:Pos}
theorem P8 {prog:Eg}{w:Ek}{A:ED}{R:Result->Dh}{s:Ei}{it f:Ee}{env:Env}(I:Nat->Dh)
  (o:∀n s,I n s->Eh (Em prog w) A (L8 it) (fun r s₁=>match r with
   |none=>R (.ok .next) s₁
   | some v=>Eh (Em prog w) A (L5 tg it v) (fun _ s₂=>Eh (Em prog w) A (assign tg env v) (fun _ s₃ =>
     Eh (Em prog w) A (forIn ifs true fun c r=>if r=true then do let ok ←isTrue c env (E3 c env);Lo (Ms ok) else Lo (Ms r)) (fun ok s₄ =>
      if ok=true then Eh (Em prog w) A (E3 elt env) (fun x s₅ =>
       Eh (Em prog w) A (call (.builtin "list.append") [f,x]) (fun _ s₆=>∃m,m<n/\I m s₆) (fun _ _=>False) s₅) (fun _ _=>False) s₄
      else∃m,m<n/\I m s₄) (fun _ _=>False) s₃) (fun _ _=>False) s₂) (fun _ _=>False) s₁) (fun _ _=>False) s)
  (n:Nat) (h:I n s):LS (Em prog w) A (.compLoop (.ListComp elt [⟨tg,iter,ifs,0⟩] scope pos) 0 it f env) R s:=by
 refine codeAny_loop rfl I (fun n s p=>?_) n h;show Eh _ A ((compTurn (.ListComp elt [⟨tg,iter,ifs,0⟩] scope pos) 0 it f env).onRaise (fun x=>do noteFrame x env;theTreesLotGoes x)) _ _ s;refine wpAny_noted ?_;rw[compTurn_list];refine Q7<|wpAny_standAt<|Q7<|Yu (o n s p) (fun r s₁ d=>?_) fun _ _ b=>b.elim;cases r with
 |none=>exact Za d
 |some v =>
  refine Q7<|Yu d (fun _ s₂ g=>?_) fun _ _ b=>b.elim;refine Q7<|Yu g (fun _ s₃ i=>Q7<|Yu i (fun ok s₄ e=>?_) fun _ _ b=>b.elim) fun _ _ b=>b.elim;cases ok with
  |false=>exact Za ⟨rfl,e⟩
  |true =>
   exact Q7<|Q7<|Yu e (fun x s₅ j=>Q7<|Yu j (fun _ s₆ l=>Za<|Za ⟨rfl,l⟩) fun _ _ b=>b.elim) fun _ _ b=>b.elim
theorem Sj {f:Dd}{C:Ef}(O:vh sc N N' src scope)(g:X.env.scope=sc)(I:Inv X Do σ H s)(d:∀b∈f,Ib X Do H b)
  (t:∀b∈f,∃o,s.heap.get? b=some o) (j:s.heap.objs.size<=C):(X.comp N' scope C s H f).Ok:=by
 have hk:∀x,((Mq scope (qR X.env scope) C X.env).kindOf x=some .cell\/(Mq scope (qR X.env scope) C X.env).kindOf x=some .free)->(x,NameKind.free)∈scope.names:=fun x h=>by
  have h:(Mq scope (qR X.env scope) C X.env).scope.names.lookup x=some .cell\/(Mq scope (qR X.env scope) C X.env).scope.names.lookup x=some .free:=h;rw[XW]at h;cases q:scope.names.lookup x with
  |none=>rw[q]at h;rcases h with h|h<;>cases h
  |some k =>
   have hm:=Y5 q;rw[q]at h;cases k with
   |free=>exact hm
   |cell=>exact absurd rfl<|O.qy _ hm
   |_ =>
    exfalso
    rcases h with h|h<;>(have i:=Option.some.inj h;unfold Kn at i;simp at i)
 refine⟨I.ok.mod,O.kind,I.ok.glob,I.ok.blt,j,fun x y c n p=>I.ok.inj x y c (kJ n)<|kJ p,fun x h=>?_,fun x c h=>(by cases h),I.ok.hd,I.ok.frames,.inl rfl,fun b hb=>?_,I.bs,Z0 I.ok.oK I.sz,fun b o e hb=>?_,fun b hb z=>?_,I.stack,I.tO⟩
 ·have hm:=hk x h;have l:=O.free _ hm rfl;rw[←g]at l;obtain⟨c,r⟩:=I.ok.has x l;exact⟨c,Nt r hm⟩
 ·refine⟨?_,fun x c h=>(d b hb).2.2.2.2.1 x c<|kJ h⟩;obtain⟨o,e⟩:=t b hb;exact Zz<|ZJ (Zq e) j
 ·rcases(d b hb).2.2.2.1 with z|z
  ·exact I.ok.qi b o e z
  ·exact absurd (ZJ (ZJ (Zq e) I.ok.oK) z) (YC _)
 ·rcases Zi.mp (I.tD b z) with e|e
  ·exact(d b hb).2.1 e
  ·exact(d b hb).2.2.1 e
theorem Po {A:Dd}{C:Ef}{h':Ev}{Q:Nat}(O:vh sc N N' src scope)(n:X.env.scope=sc)(F:X.N=N)(I:Inv X Do σ H s)(G:∀b∈A,Ib X Do H b)
  (J:∀b∈A,∃o,s.heap.get? b=some o) (B:s.heap.objs.size<=C) (k:∀b o,s.heap.get? b=some o->h'.get? b=some o) {M:Str->Dc} (hn:h'.Ns C M) :
  Inv (X.comp N' scope C s H A) [] (UC src σ) H { s with heap:=h',toks:=Q }:=by
 have cells:∀x c,X.env.cells.lookup x=some c->∀v,s.heap.IsCell c v->h'.IsCell c v:=fun x c _ v ⟨o,e,d⟩=>⟨o,k c o e,d⟩;refine⟨Sj O n I G J B,rfl,I.bare,Un.kept k,⟨_,hn,fun j x v y f R=>?_⟩,fun x c e=>?_,I.hok.fresh B,fun x c e=>I.wM x c<|kJ e,fun p K=>(by cases K),I.hok.kept k,?_⟩
 ·have f:(UC src σ)[j]?=some (some v):=f;have y:N'[j]?=some x:=y;unfold UC at f;rw[Zk]at f;cases q:src[j]? with
  |none=>rw[q]at f;cases f
  |some o =>
   rw[q]at f;have f:(o.bind fun i=>(σ[i]?).join)=some v:=Option.some.inj f;cases o with
   |none=>cases f
   |some i =>
    have f:(σ[i]?).join=some v:=f;obtain⟨S,l⟩:=O.at q y;have D:=Y5 l;have E:σ[i]?=some (some v):=by
     cases r:σ[i]? with
     |none=>rw[r]at f;cases f
     |some w=>rw[r]at f;cases w with
      |none=>cases f
      |some w'=>have:w'=v:=Option.some.inj f;rw[this]
    have h:=O.free _ D rfl;rw[←n]at h;obtain⟨m,hm,hl⟩:=I.loc;obtain⟨u,P,L⟩:=hl i x v (by rwa[F]) E<|.inr h;refine⟨u,P,.inr ?_⟩;obtain⟨c,t,g⟩:∃c,X.env.cells.lookup x=some c/\s.heap.IsCell c (some u):=by
     rcases L with⟨z,_⟩|⟨_,c,t,hz⟩
     ·exfalso;have z:X.env.scope.names.lookup x=some .local:=z
      rcases h with h|h<;>(rw[h]at z;cases z)
     ·exact⟨c,t,hz⟩
    refine⟨?_,c,Nt t D,cells x c t _ g⟩;show(Mq scope (qR X.env scope) C X.env).scope.names.lookup x=some .cell\/(Mq scope (qR X.env scope) C X.env).scope.names.lookup x=some .free;rw[XW,l];show some (Kn X.env x .free)=some .cell\/some (Kn X.env x .free)=some .free;unfold Kn
    split
    ·exact .inl rfl
    ·exact .inr rfl
 ·obtain⟨v,z⟩:=I.cell x c<|kJ e;exact⟨v,cells x c (kJ e) v z⟩
 ·show(UC src σ).length=N'.length;unfold UC;rw[Q8];exact O.len
theorem Ge {Do:De}{σ:St}{H:Hp}{s:Ei}{f:Dd}{it:Ef}{tn:Nat->Ev->Prop}{J:It}{E:Ee->Dh}{RR:Ee->Ef->Result->Dh}{Fin:Dj->Hp->Prop}(O:vh sc N N' src scope)(bm:X.env.scope=sc)(hN:X.N=N)(D1:X.calm=true)
  (hg:∀C s H f,PG (X.comp N' scope C s H f) tg g) (bl:∀C s H f,oU (X.comp N' scope C s H f) ifs tf) (he:∀C s H f,PE (X.comp N' scope C s H f) elt te)
  (I:Inv X Do σ H s) (T:Turn X.prog X.w X.K tg J f it tn) (t0:tn 0 s.heap) (hf:∀b∈f,Ib X Do H b)
  (W:Nat->Nat->Dj->St->Hp->Prop) (m0:Nat) (w0:W 0 m0 [] (UC src σ) H)
  (hW:∀i m ys σ' H',W i m ys σ' H'->ys.length<=sizeLine/\((J.stop i H'/\Fin ys H') \/ (J.go i H'/\∃Nx:Dj->St->Hp->Prop,(∀ys2 σ2 H2,Nx ys2 σ2 H2->∃m',m'<m/\W (i+1) m' ys2 σ2 H2) /\ ∀x H2,J.oR i H' x H2->g x σ' H2 fun σ2 H3=>tf σ2 H3 fun b H4=>if b=true then te σ2 H4 fun y H5=>Nx (ys++[y]) σ2 H5 else Nx ys σ2 H4)))
  (bd:∀(D C:Ef) (s':Ei) (σ':St) (H':Hp) (ys:Dj) (its:Db) (n:Nat),s.heap.objs.size<=D->s.heap.objs.size<=C->Inv (X.comp N' scope C s H f) [] σ' H' s'->s'.heap.get? D=some { cls:=.type "list",data:=.seq its.toArray n }->yr ys its->ys.length<=sizeLine -> H' D=none->D≠C->Fin ys H'->RR (.ref D) C (.ok .next) s') :
  Eh (Em X.prog X.w) X.A (newList []) (fun acc s₃=>Eh (Em X.prog X.w) X.A (newFunctionEnv scope X.env.globals (qR X.env scope) [] X.env.qual none .none<|some X.env) (fun cenv s₄ => LS (Em X.prog X.w) X.A (.compStart (.ListComp elt [⟨tg,iter,ifs,0⟩] scope pos) 0 (.ref it) acc { cenv with scope:=relabel scope X.env }) (RR acc cenv.locals) s₄) E s₃) E s:=by
 refine Ya (wpAny_newFunctionEnv O.qy (by intro y hy;cases hy) (fun F j h=>?_) O.kind);dsimp only at j h ⊢;generalize ab:s.heap.push { cls:=.type "list",dict:=none,data:=.seq ([]:Db).toArray }=P2 at j h ⊢;have Z:P2.objs.size=s.heap.objs.size+1:=by rw[←ab,YB]
 have L:s.heap.objs.size≠P2.objs.size:=by rw[Z];exact Zz<|Jn _
 have b3:s.heap.objs.size<=P2.objs.size:=by rw[Z];exact JD _
 have below:∀b,b<s.heap.objs.size->b≠P2.objs.size/\b≠s.heap.objs.size:=fun b hb=>⟨by rw[Z];exact Zz<|Y0 hb,Zz hb⟩;have old:∀b o,s.heap.get? b=some o->F.get? b=some o:=fun b o e=>h.extBut b o (below b<|Zq e).1<|Zd _<|ab▸Zd _ e;have DR:F.get? s.heap.objs.size=some { cls:=.type "list",data:=.seq ([]:Db).toArray 0 }:=h.extBut _ _ L<|Zd _<|ab▸Zp _ rfl;have as:∀b∈f,∃o,s.heap.get? b=some o:=fun b hb=>let ⟨o,e,_⟩:=T.obj 0 _ t0 b hb;⟨o,e⟩;have G:∀b∈f,b<s.heap.objs.size:=fun b hb=>let ⟨o,e⟩:=as b hb;Zq e;generalize hD:s.heap.objs.size=D at *;generalize hC:P2.objs.size=C at *;have a2:∀tk,Inv (X.comp N' scope C s H f) [] (UC src σ) H { s with heap:=F,toks:=tk }:=fun tk=>Po O bm hN I hf as (by rwa[hD]) old j;have pY:(X.comp N' scope C s H f).Ok:=(a2 0).ok;have M:∀{H':Hp} {pl:De},(∀b∈f,H' b=none)->(∀p∈pl,p.1∉f)->∀b∈f,Ib (X.comp N' scope C s H f) pl H' b:=fun{H' pl} hn l b hb =>
  ⟨hn b hb,(pY.mH b hb).1,pY.pU b hb,.inl hb,(pY.mH b hb).2,fun p hm=>by
   have hm:p∈pl:=by simpa[Cx.comp] using hm
   exact fun z=>l p hm<|z▸hb⟩
 have ap:D∉(X.comp N' scope C s H f).fs:=fun hb=>by
  obtain⟨_,o,ho,_⟩:=pY.uc.mem hb;have ho:s.heap.get? D=some o:=ho;have h1:=Zq ho;rw[hD]at h1;exact YC _ h1
 have S:∀x c,(X.comp N' scope C s H f).env.cells.lookup x=some c->c≠D:=fun x c e z=>by
  obtain⟨v,o,ho,_⟩:=I.cell x c<|kJ e;have h1:=Zq ho;rw[hD,z]at h1;exact YC _ h1
 have loop:∀tk,LS (Em X.prog X.w) X.A (.compLoop (.ListComp elt [⟨tg,iter,ifs,0⟩] scope pos) 0 (.ref it) (.ref D)<|Mq scope (qR X.env scope) C X.env) (RR (.ref D) C) { s with heap:=F,toks:=tk }:=by
  intro tk;refine P8 (fun n s'=>∃i ys σ' H' its c,Inv (X.comp N' scope C s H f) [] σ' H' s'/\tn i s'.heap/\(∀b∈f,H' b=none)/\s'.heap.get? D=some { cls:=.type "list",data:=.seq (its:Db).toArray c }/\yr ys its/\H' D=none/\W i n ys σ' H') ?_ m0
   ⟨0,[],UC src σ,H,[],0,a2 tk,T.keep 0 _ _ t0 fun b _ o e=>old b o e,fun b hb=>(hf b hb).1,DR,.nil,I.hok.fresh (by rw[hD];exact Zf _),w0⟩
  rintro n s3 ⟨i,ys,t,H3,its,B,I3,a4,ax,d3,v3,a0,w3⟩;obtain⟨Dp,a8⟩:=hW i n ys t H3 w3
  rcases a8 with⟨stop,fin⟩|⟨go,Nx,hNx,step⟩
  ·have U:Inv (X.comp N' scope C s H f) [(D,{ cls:=.type "list",data:=.seq its.toArray B })] t H3 s3:=I3.vg fun p l=>by
    have e:p=(D,{ cls:=.type "list",data:=.seq its.toArray B }):=by simpa using l
    subst e;exact⟨d3,a0,L,ap,fun v z=>by cases z⟩
   refine Ci (T.done (X.comp N' scope C s H f) rfl rfl rfl D1 i _ s3 t H3 _ U (M ax fun p l z=>by
    have e:p=(D,{ cls:=.type "list",data:=.seq its.toArray B }):=by simpa using l
    rw[e]at z;exact YC _<|G D z) a4 stop) fun r s4 ⟨hr,I4⟩=>?_
   subst hr;obtain⟨d4,bo,_⟩:=I4.pin (D,{ cls:=.type "list",data:=.seq its.toArray B }) (by simp[Cx.comp]);exact bd D C s4 t H3 ys its B (by lia) (by lia) (I4.vg fun p l=>(by cases l)) d4 v3 Dp bo L fin
  ·have U:Inv (X.comp N' scope C s H f) [(D,{ cls:=.type "list",data:=.seq its.toArray B })] t H3 s3:=I3.vg fun p l=>by
    have e:p=(D,{ cls:=.type "list",data:=.seq its.toArray B }):=by simpa using l
    subst e;exact⟨d3,a0,L,ap,fun v z=>by cases z⟩
   have ay:∀p∈[((D,{ cls:=.type "list",data:=.seq its.toArray B }):Ef×Obj)],p.1∉f:=fun p l z=>by
    have e:p=(D,{ cls:=.type "list",data:=.seq its.toArray B }):=by simpa using l
    rw[e]at z;exact YC _<|G D z
   refine Ci (T.item (X.comp N' scope C s H f) rfl rfl rfl D1 i _ s3 t H3 _ U (M ax ay) a4 go) fun r s4 ⟨u,hr,h4⟩=>?_;subst hr;refine Ci h4 fun _ s5 hh=>?_;obtain⟨x,H5,I5,r5,y5,an,a9⟩:=hh;have a6:=I5.pinned (M a9 ay)<|T.obj _ _ an;have R:(D,({ cls:=.type "list",data:=.seq its.toArray B }:Obj))∈(X.comp N' scope C s H f).pn++([((D,{ cls:=.type "list",data:=.seq its.toArray B }):Ef×Obj)]++XE f s5.heap):=by simp[Cx.comp]
   have Q:∀{a5:St} {P:Hp} {s7:Ei},Inv (X.comp N' scope C s H f) ([((D,{ cls:=.type "list",data:=.seq its.toArray B }):Ef×Obj)]++XE f s5.heap) a5 P s7 ->
     tn (i+1) s7.heap/\∀b∈f,P b=none:=fun{a5 P s7} Y=>⟨T.keep _ _ _ an fun b hb o e=>(Y.pin (b,o)<|ZL _<|ZL _<|j2 hb e).1,fun b hb=>by
    obtain⟨o,e,d⟩:=T.obj _ _ an b hb;exact(Y.pin (b,o)<|ZL _<|ZL _<|j2 hb e).2.1⟩
   refine Ci (hg C s H f _ s5 t H5 x u _ a6 r5<|step x H5 y5) fun _ s6 ⟨q,H6,I6,q6⟩=>?_;refine Ci (bl C s H f _ s6 q H6 _ I6 q6) fun b s7 ⟨P,Y,q7⟩=>?_;cases b with
   |false =>
    obtain⟨m',al,w7⟩:=hNx ys q P (by simpa using q7);obtain⟨b1,b2⟩:=Q Y;obtain⟨d7,bz,_⟩:=Y.pin _ R;exact⟨m',al,i+1,ys,q,P,its,B,Y.vg fun p l=>(by cases l),b1,b2,d7,v3,bz,w7⟩
   |true =>
    have q7:te q P fun y H5=>Nx (ys++[y]) q H5:=by simpa using q7
    rw[Zs rfl];refine Ci (he C s H f _ s7 q P _ Y q7) fun u8 s8 ⟨y,H8,I8,r8,n8⟩=>?_;obtain⟨m',al,w8⟩:=hNx _ _ _ n8;obtain⟨b1,b2⟩:=Q I8;obtain⟨d8,a1,_⟩:=I8.pin _ R;have hl:=v3.length;refine wpAny_list_append_plain (items:=its.toArray) ⟨B,d8⟩ (fun h9 ⟨c9,d9⟩ a3=>?_) (by rwa[Zy,←hl]);have a7:Inv (X.comp N' scope C s H f) [] q H8 s8:=I8.vg fun p l=>by cases l
    have I9:Inv (X.comp N' scope C s H f) [] q H8 { s8 with heap:=h9 }:=a7.turned (t':=s8.toks) (it:=D) (fun b o hb e=>(a3.2 b hb).trans e) a1 L (.inr (by show s.heap.objs.size<=D;lia)) S (fun p l=>by
     have l:p∈([]:De):=by simpa[Cx.comp] using l
     cases l)
    refine⟨m',al,i+1,ys++[y],q,H8,its++[u8],c9,I9,T.keep _ _ _ b1 fun b hb o e=>(a3.2 b<|fun z=>YC _<|z▸G b hb).trans e,b2,?_,v3.append<|.cons r8 .nil,a1,w8⟩;show h9.get? D=_;rw[d9];simp
 exact codeAny_compStart_list (loop _)<|T.self _ 0 _ _ _ (T.keep 0 _ _ t0 fun b _ o e=>old b o e)<|loop _
theorem comp_back {h:St}{H':Hp}{f:Ei}{e:Dd}{C D:Ef}{g:Dj}{c:Db}{n:Nat}(I:Inv X Do σ H s)(p:∀b∈e,Ib X Do H b)
  (J:Inv (X.comp N' scope C s H e) [] h H' f) (i:s.heap.objs.size<=D) (d:f.heap.get? D=some { cls:=.type "list",data:=.seq c.toArray n }) (v:yr g c) (hl:g.length<=sizeLine) (q:H' D=none) :
  Inv X Do σ (upd H' D<|.lst g) f:=by
 have u:Un (frs X.stack) e H H' s.heap f.heap:=J.base;refine I.call' (ch:=e) J.os (u.adopt (VT i)<|I.hok.fresh i) (J.hok.adopt q ⟨hl,c,n,v,d⟩) J.bare fun b hb=>?_;obtain⟨_,j,_,l,o,f5⟩:=p b hb;exact⟨l,j,o,f5⟩
theorem BG {C:Ef}{h':Ev}(I:Inv X Do σ H s)(d:Inv X Do σ2 H2 s2)(i:s.heap.objs.size<=C)(c:H2 C=none)(j:EJ C s2.heap h'):Inv X Do σ2 H2 { s2 with heap:=h' }:=by
 obtain⟨_,f,_,g,h,f5⟩:=I.sW (H':=H2) i c;exact d.turned (t':=s2.toks) (it:=C) (fun b o hb e=>(j.2 b hb).trans e) c f g h f5
theorem xN (O:vh sc N N' src scope)(c:X.env.scope=sc)(S:X.N=N)(G:X.calm=true)(Z:PI X tg iter wi)
  (Y:∀C s H fp,PG (X.comp N' scope C s H fp) tg g) (t:∀C s H fp,oU (X.comp N' scope C s H fp) ifs tf) (U:∀C s H fp,PE (X.comp N' scope C s H fp) elt te)
  (hs:∀x,foldedSetIterable iter X.env x=Lo x:=by intro _;rfl):PE X (.ListComp elt [⟨tg,iter,ifs,0⟩] scope pos) (TV src wi g tf te):=by
 intro y s F H Q I h;rw[eval_ListComp];have b:closureFor scope X.env=Lo (qR X.env scope):=uM fun x hx hk=>I.ok.has x.1 (by
  have:=O.free x hx hk;rw[←c]at this;exact this)
 refine wpAny_comprehension_free (use:=none) rfl hs b O.kind O.names<|Ci (Z y s F H _ I h) fun v s1 L=>Ci L fun al s2 M=>?_;obtain⟨it,fp,tn,J,H2,e,j,T,u,z,W,⟨m0,w0⟩,f⟩:=M;subst e;refine Ge (RR:=fun o C=>compPost (Em X.prog X.w) X.A X.xe none (EP X y F Q) o C) (Fin:=fun E i=>∀p,i p=none->Q (.ref p) (upd i p<|.lst E)) O c S G Y t U j T u z W m0 w0 f ?_;intro D C s' an i E ab n R P l d vv hl B r q;have K:=comp_back j z l R d vv hl B;obtain⟨m,hm,_⟩:=l.loc;have nC:i C=none:=l.free;refine⟨m,hm,fun h' sb=>⟨.ref D,_,BG j K P (by rwa[zH<|EB r]) sb,rfl,q D B⟩⟩
theorem vG {k:Nat}{y:Str}{i c:Pos}(O:vh sc N N' src scope)(q:X.env.scope=sc)(hN:X.N=N)(D1:X.calm=true)(hi:PI X tg iter wi)
  (hg:∀C s H fp,PG (X.comp N' scope C s H fp) tg g) (L:∀C s H fp,oU (X.comp N' scope C s H fp) ifs tf) (he:∀C s H fp,PE (X.comp N' scope C s H fp) elt te)
  (nd:X.N.Nodup) (hk:X.N[k]?=some y) (P:Loc X.env.scope y)
  (M:My (.ListComp elt [⟨tg,iter,ifs,0⟩] scope pos) (some<|.Name y i) c.line X.env=Lo true:=by rfl)
  (hf:X.fn y=true\/X.env.scope.names.lookup y=some .local:=by first|exact .inl rfl|exact .inr rfl|assumption)
  (hs:∀x,foldedSetIterable iter X.env x=Lo x:=by intro _;rfl):PS X (.Assign [.Name y i] (.ListComp elt [⟨tg,iter,ifs,0⟩] scope pos) c) (Tl (TV src wi g tf te)<|GO k):=by
 intro u s Z H b I h;rw[exec_Assign_Name_used _ _ _ _ M];refine Q7<|wpAny_standAt<|Q7 ?_;show Eh _ X.A (do let _ ←comprehension (.ListComp elt [⟨tg,iter,ifs,0⟩] scope pos) scope X.env _ (newList []) false (E3 iter X.env) (some<|assign (.Name y i) X.env)) _ _ s;have f:closureFor scope X.env=Lo (qR X.env scope):=uM fun x P hk=>I.ok.has x.1 (by
  have:=O.free x P hk;rw[←q]at this;exact this)
 refine Q7<|Yu (wpAny_comprehension_free (use:=some<|assign (.Name y i) X.env) (Q:=fun _ j=>SP X u b .next j) rfl hs f O.kind O.names<|Ci (hi u s Z H _ I h) fun v s1 h1=>Ci h1 fun al s2 h2=>?_) (fun _ j hq=>Za<|Za hq) fun _ _ e=>e
 obtain⟨it,fp,tn,J,H2,e,l,T,R,S,W,⟨m0,w0⟩,r⟩:=h2;subst e;refine Ge (RR:=fun E C=>compPost (Em X.prog X.w) X.A X.xe (some<|assign (.Name y i) X.env) (fun _ j=>SP X u b .next j) E C) (Fin:=fun Y t=>∀p,t p=none->GO k (.ref p) Z (upd t p<|.lst Y) b.nx) O q hN D1 hg L he l T R S W m0 w0 r ?_;intro D C j an t Y ab n hD G B d vv hl U K F;have I3:=comp_back l S B hD d vv hl U;obtain⟨m,hm,_⟩:=B.loc;have nC:t C=none:=B.free;show Eh _ X.A (assign (.Name y i) X.env<|.ref D) _ _ j;refine wpAny_assign_Name<|BP I3 nd hk P (v:=.ref D) rfl (fun s4 I4 ⟨a,sa,ha⟩=>?_) hf;have aC:C≠a:=by
  rcases ha with e|e
  ·rw[e];intro z;exact YC _<|ZJ l.lt<|z▸G
  ·intro z;obtain⟨v,o,ho,_⟩:=l.cell y a e;exact YC _<|ZJ (Zq ho)<|z▸G
 refine⟨m,Heap.Ns.sameBut hm sa aC,fun h' sb=>⟨_,_,BG l I4 G (by rwa[zH<|EB K]) sb,F D U⟩⟩
end
def cn (t u:TS):TS:=fun D d H=>∃R:St->Hp->Prop,t { D with nx:=R } d H/\∀b c,R b c->u D b c
theorem xX {st:EQ}{b:List EQ}(i:PS X st t)(j:sX X b u):sX X (st::b) (cn t u):=by
 intro d s o H D I ⟨R,h,l⟩;refine Ul<|Ci (i d s o H { D with nx:=R } I h) fun f n q=>?_;cases f with
 |next =>
  obtain⟨c,e,g,q⟩:=q;exact j d n c e D g<|l c e q
 |ret v=>exact q
 |brk=>exact q
 |cont=>exact q
section
variable {K:Cd}{src:List (Option Nat)}{g:TG}{tf:TT}{te:TE}{Q:VK}{a:Ef}{xs:Dj}{σ:St}{H:Hp}
theorem CZ {J:It}(n:Nat)(d:Nat->Dj->St->Hp->Prop)(o:d 0 [] (UC src σ) H)(hz:n<=sizeLine)(hl:∀i ys σ H,i<=n->d i ys σ H->ys.length<=i)
  (l:∀ys σ H,d n ys σ H->J.stop n H) (j:∀i ys σ H,i<n->d i ys σ H->J.go i H)
  (hs:∀i ys σ H,i<n->d i ys σ H->∀x H2,J.oR i H x H2->g x σ H2 fun σ2 H3=>tf σ2 H3 fun b H4=>if b=true then te σ2 H4 fun y H5=>d (i+1) (ys++[y]) σ2 H5 else d (i+1) ys σ2 H4)
  (hd:∀ys σ H,d n ys σ H->∀p,H p=none->Q (.ref p) (upd H p<|.lst ys)):U9 src J g tf te Q σ H:=by
 refine⟨fun i m ys σ H=>m=n-i/\i<=n/\d i ys σ H,⟨n,by simp,ZN _,o⟩,?_⟩;rintro i m ys c h ⟨rfl,q,p⟩;have s:=hl i ys c h q p;refine⟨by lia,?_⟩
 by_cases f:i<n
 ·exact .inr ⟨j i ys c h f p,d<|i+1,fun r σ2 H2 z=>⟨n-(i+1),by lia,rfl,f,z⟩,fun x H2 y=>hs i ys c h f p x H2 y⟩
 ·have e:i=n:=by lia
  subst e;exact .inl ⟨l ys c h p,hd ys c h p⟩
theorem uN (c:Nat->Dj->St->Hp->Prop)(f:c 0 [] (UC src σ) H)(hz:xs.length<=sizeLine)(hl:∀i ys σ H,i<=xs.length->c i ys σ H->yu K H a xs/\ys.length<=i)
  (hs:∀i x ys σ H,xs[i]?=some x->c i ys σ H->g x σ H fun σ2 H3=>tf σ2 H3 fun b H4=>if b=true then te σ2 H4 fun y H5=>c (i+1) (ys++[y]) σ2 H5 else c (i+1) ys σ2 H4)
  (hd:∀ys σ H,c xs.length ys σ H->∀p,H p=none->Q (.ref p) (upd H p<|.lst ys)):U9 src (TZ K a) g tf te Q σ H :=
 CZ xs.length c f hz (fun i ys σ H d p=>(hl i ys σ H d p).2) (fun ys σ H p=>⟨xs,(hl _ ys σ H (Zf _) p).1,Zf _⟩) (fun i ys σ H d p=>⟨xs,xs[i],(hl i ys σ H (YK d) p).1,by simp[d]⟩)
  (fun i ys σ H d p x h y=>by
   obtain⟨e,y⟩:=y;subst e;exact hs i x ys σ _ (y xs (hl i ys σ _ (YK d) p).1) p) hd
theorem F3 (c:Nat->Dj->St->Hp->Prop)(f:c 0 [] (UC src σ) H)(hz:xs.length<=sizeLine)(hl:∀i ys σ H,i<=xs.length->c i ys σ H->xu K H a xs/\ys.length<=i)
  (hs:∀i x ys σ H,xs[i]?=some x->c i ys σ H->g x σ H fun σ2 H3=>tf σ2 H3 fun b H4=>if b=true then te σ2 H4 fun y H5=>c (i+1) (ys++[y]) σ2 H5 else c (i+1) ys σ2 H4)
  (hd:∀ys σ H,c xs.length ys σ H->∀p,H p=none->Q (.ref p) (upd H p<|.lst ys)):U9 src (T1 K a) g tf te Q σ H :=
 CZ xs.length c f hz (fun i ys σ H d p=>(hl i ys σ H d p).2) (fun ys σ H p=>⟨xs,(hl _ ys σ H (Zf _) p).1,Zf _⟩) (fun i ys σ H d p=>⟨xs,xs[i],(hl i ys σ H (YK d) p).1,by simp[d]⟩)
  (fun i ys σ H d p x h y=>by
   obtain⟨e,y⟩:=y;subst e;exact hs i x ys σ _ (y xs (hl i ys σ _ (YK d) p).1) p) hd
theorem KU {lo:Int}{n:Nat}(c:Nat->Dj->St->Hp->Prop)(f:c 0 [] (UC src σ) H)(hz:n<=sizeLine)(hl:∀i ys σ H,i<=n->c i ys σ H->ys.length<=i)
  (hs:∀i ys σ H,i<n->c i ys σ H->g (.int<|lo+i) σ H fun σ2 H3=>tf σ2 H3 fun b H4=>if b=true then te σ2 H4 fun y H5=>c (i+1) (ys++[y]) σ2 H5 else c (i+1) ys σ2 H4)
  (hd:∀ys σ H,c n ys σ H->∀p,H p=none->Q (.ref p) (upd H p<|.lst ys)):U9 src (R8 lo n) g tf te Q σ H :=
 CZ n c f hz hl (fun _ _ _ _=>Zf _) (fun _ _ _ _ d _=>d)
  (fun i ys σ H d p x h y=>by
   obtain⟨e,y⟩:=y;subst e y;exact hs i ys σ _ d p) hd
theorem Fu {te:TE}{A:V->St->Hp->Prop}{B:St->Hp->Prop}:(fun σ2 H3=>B3 σ2 H3 fun b H4=>if b=true then te σ2 H4 (fun y H5=>A y σ2 H5) else B σ2 H4)=fun(σ2:St) (H3:Hp)=>te σ2 H3 fun y H5=>A y σ2 H5:=by
 funext σ2 H3
 show(if true=true then(te σ2 H3 fun y H5=>A y σ2 H5) else B σ2 H3)=_;rw[Zs rfl]
theorem qW (b:Nat->Dj->St->Hp->Prop)(c:b 0 [] (UC src σ) H)(hz:xs.length<=sizeLine)(hl:∀i ys σ H,i<=xs.length->b i ys σ H->yu K H a xs/\ys.length<=i)
  (hs:∀i x ys σ H,xs[i]?=some x->b i ys σ H->g x σ H fun σ2 H3=>te σ2 H3 fun y H5=>b (i+1) (ys++[y]) σ2 H5)
  (hd:∀ys σ H,b xs.length ys σ H->∀p,H p=none->Q (.ref p) (upd H p<|.lst ys)):U9 src (TZ K a) g B3 te Q σ H :=
 uN b c hz hl (fun i x ys σ H e p=>by rw[Fu];exact hs i x ys σ H e p) hd
theorem qX (b:Nat->Dj->St->Hp->Prop)(c:b 0 [] (UC src σ) H)(hz:xs.length<=sizeLine)(hl:∀i ys σ H,i<=xs.length->b i ys σ H->xu K H a xs/\ys.length<=i)
  (hs:∀i x ys σ H,xs[i]?=some x->b i ys σ H->g x σ H fun σ2 H3=>te σ2 H3 fun y H5=>b (i+1) (ys++[y]) σ2 H5)
  (hd:∀ys σ H,b xs.length ys σ H->∀p,H p=none->Q (.ref p) (upd H p<|.lst ys)):U9 src (T1 K a) g B3 te Q σ H :=
 F3 b c hz hl (fun i x ys σ H e p=>by rw[Fu];exact hs i x ys σ H e p) hd
theorem XX {lo:Int}{n:Nat}(b:Nat->Dj->St->Hp->Prop)(c:b 0 [] (UC src σ) H)(hz:n<=sizeLine)(hl:∀i ys σ H,i<=n->b i ys σ H->ys.length<=i)
  (hs:∀i ys σ H,i<n->b i ys σ H->g (.int<|lo+i) σ H fun σ2 H3=>te σ2 H3 fun y H5=>b (i+1) (ys++[y]) σ2 H5)
  (hd:∀ys σ H,b n ys σ H->∀p,H p=none->Q (.ref p) (upd H p<|.lst ys)):U9 src (R8 lo n) g B3 te Q σ H :=
 KU b c hz hl (fun i ys σ H e p=>by rw[Fu];exact hs i ys σ H e p) hd
end
mutual
def Dt (K:Cd)(H:Hp):Ej->V->Prop
 | .none,v=>v=.non
 | .bool b,v=>v=.bl b
 | .int i,v=>v=.int i
 | .str x,v=>v=.str x
 | .list ds,v=>∃a c,v=.ref a/\yu K H a c/\zy K H ds c
 | .tuple ds,v=>∃a c,v=.ref a/\xu K H a c/\zy K H ds c
 | .dict _,_=>False
def zy (K:Cd)(H:Hp):Df->Dj->Prop
 |[],xs=>xs=[]
 |d::ds,xs=>∃x r,xs=x::r/\Dt K H d x/\zy K H ds r
end
theorem zz.yo {K:Cd}(e:zz H H')(h:xu K H a xs):xu K H' a xs:=by
 rcases h with(h|⟨o,h⟩)|h
 ·exact .inl (.inl<|e _ _ h)
 ·exact .inl (.inr ⟨o,e _ _ h⟩)
 ·exact .inr h
mutual
theorem Dt.same {K:Cd}(e:zz H H'):∀(d:Ej) (v:V),Dt K H d v->Dt K H' d v
 | .none,_,h=>h
 | .bool _,_,h=>h
 | .int _,_,h=>h
 | .str _,_,h=>h
 | .list ds,_,⟨a,xs,h1,h2,h3⟩=>⟨a,xs,h1,e.seq h2,zy.same e ds xs h3⟩
 | .tuple ds,_,⟨a,xs,h1,h2,h3⟩=>⟨a,xs,h1,e.yo h2,zy.same e ds xs h3⟩
 | .dict _,_,h=>h
theorem zy.same {K:Cd}(e:zz H H'):∀(ds:Df) (xs:Dj),zy K H ds xs->zy K H' ds xs
 |[],_,h=>h
 |d::ds,_,⟨x,r,h1,h2,h3⟩=>⟨x,r,h1,Dt.same e d x h2,zy.same e ds r h3⟩
end
theorem zy.length {K:Cd}:∀{ds:Df} {xs:Dj},zy K H ds xs->xs.length=ds.length
 |[],_,h=>by cases(show _=[] from h);rfl
 |d::ds,_,⟨x,r,h1,h2,h3⟩=>by rw[h1,Zr,Zr,zy.length h3]
theorem zy.append {K:Cd}:∀{ds es:Df} {xs ys:Dj},zy K H ds xs->zy K H es ys->zy K H (ds++es) (xs++ys)
 |[],_,_,_,h,h'=>by cases(show _=[] from h);exact h'
 |d::ds,_,_,_,⟨x,r,h1,h2,h3⟩,h'=>⟨x,r++_,by rw[h1];rfl,h2,zy.append h3 h'⟩
theorem zy.get {K:Cd}:∀{ds:Df} {xs:Dj} {i:Nat} {x:V},zy K H ds xs->xs[i]?=some x->∃d,ds[i]?=some d/\Dt K H d x
 |[],_,_,_,h,e=>by cases(show _=[] from h);simp at e
 |d::ds,_,0,_,⟨x,r,h1,h2,h3⟩,e=>by rw[h1]at e;simp at e;subst e;exact⟨d,rfl,h2⟩
 |d::ds,_,i+1,_,⟨x,r,h1,h2,h3⟩,e=>by
  rw[h1]at e;obtain⟨b,c,f⟩:=zy.get (i:=i) h3 (by simpa using e);exact⟨b,by simpa using c,f⟩
theorem zy.strs {K:Cd}:∀(ls:Da),zy K H (ls.map EV) (ls.map V.str)
 |[]=>rfl
 |x::ls=>⟨.str x,ls.map V.str,rfl,rfl,zy.strs ls⟩
theorem zy.vf {K:Cd}:∀{ls:Da} {xs:Dj},zy K H (ls.map EV) xs->xs=ls.map V.str
 |[],_,h=>h
 |x::ls,_,⟨v,r,h1,b,h3⟩=>by
  have b:v=V.str x:=b;rw[h1,b,zy.vf h3];rfl
section
variable {X:Cx}{Do:De}{σ:St}{H:Hp}{s:Ei}
mutual
theorem Dt.zf (I:Inv X Do σ H s):∀(d:Ej) (v:V) (u:Ee),Dt X.K H d v->yt v u->∃as,Reads s.heap u d as
 | .none,_,u,h,r=>by
  cases(show _=V.non from h);cases(show u=EF from r);exact⟨_,.none⟩
 | .bool b,_,u,h,r=>by
  cases(show _=V.bl b from h);cases(show u=L6 b from r);exact⟨_,.bool b⟩
 | .int i,_,u,h,r=>by
  cases(show _=V.int i from h);obtain⟨t,e⟩:=(show∃t,u=Value.int i t from r);cases e;exact⟨_,.int i t⟩
 | .str x,_,u,h,r=>by
  cases(show _=V.str x from h);obtain⟨t,e⟩:=(show∃t,u=Mi x t from r);cases e;exact⟨_,.str x t⟩
 | .list ds,_,u,⟨a,xs,h1,h2,h3⟩,r=>by
  subst h1;cases(show u=Et a from r);obtain⟨f,g,⟨o,n,e,c,_,d⟩,_⟩:=I.list h2;obtain⟨as,q⟩:=zy.zf I ds xs f h3 g;exact⟨_,.list e c d<|by simpa using q⟩
 | .tuple ds,_,u,⟨a,xs,h1,h2,h3⟩,r=>by
  subst h1;cases(show u=Et a from r);obtain⟨f,g,⟨o,e,c,n,d⟩,_⟩:=I.tuple h2;obtain⟨as,q⟩:=zy.zf I ds xs f h3 g;exact⟨_,.tuple e c d<|by simpa using q⟩
 | .dict _,_,_,h,_=>EG h
theorem zy.zf (I:Inv X Do σ H s):∀(ds:Df) (xs:Dj) (us:Db),zy X.K H ds xs->yr xs us->∃as,LG s.heap us ds as
 |[],_,us,h,r=>by
  cases(show _=[] from h);cases r;exact⟨_,.nil⟩
 |d::ds,_,us,⟨x,rr,h1,h2,h3⟩,r=>by
  subst h1;cases r with
  |cons r1 r2 =>
   obtain⟨as,b⟩:=Dt.zf I d x _ h2 r1;obtain⟨bs,c⟩:=zy.zf I ds rr _ h3 r2;exact⟨_,.cons b c⟩
end
end
section
variable {X:Cx}
def aQ (K:Cd):R2:=fun x y H Q=>∃d e,Dt K H d x/\Dt K H e y/\EK d=true/\EK e=true/\Q (.bl<|Ey d e) H
def WK (K:Cd):R2:=fun x y H Q=>∃d e,Dt K H d x/\Dt K H e y/\EK d=true/\EK e=true/\Q (.bl<|!Ey d e) H
theorem MU (i:X.A.units+64<Lb):CD X (ES .Eq) (aQ X.K):=by
 intro p s t H x y v u Q I n o h;obtain⟨d,e,b,c,f,g,q⟩:=h;obtain⟨r,j⟩:=Dt.zf I d x v b n;obtain⟨bs,l⟩:=Dt.zf I e y u c o;exact SeqAt.compareEq_shaped j l f g i ⟨.bl _,H,I,rfl,q⟩
theorem qY (i:X.A.units+64<Lb):CD X (ES .NotEq) (WK X.K):=by
 intro p s t H x y v u Q I n o h;obtain⟨d,e,b,c,f,g,q⟩:=h;obtain⟨r,j⟩:=Dt.zf I d x v b n;obtain⟨bs,l⟩:=Dt.zf I e y u c o;exact SeqAt.compareNe_shaped j l f g i ⟨.bl _,H,I,rfl,q⟩
theorem vK:∀{ys:Da} {us:Db},yr (ys.map V.str) us->StrsAre us ys
 |[],us,r=>by rw[YZ]at r;cases r;exact .nil
 |y::ys,us,r=>by
  rw[Zu]at r;cases r with
  |cons r1 r2 =>
   obtain⟨t,e⟩:=r1;subst e;exact .cons y t<|vK r2
theorem XI:∀{us:Db} {ys:Da},StrsAre us ys->yr (ys.map V.str) us
 |_,_,.nil=>.nil
 |_,_,.cons y t r=>.cons ⟨t,rfl⟩<|XI r
def rJoin (K:Cd):V->Dj->Hp->VK->Prop:=fun x d H Q=>∃b p c,x=.str b/\d=[.ref p]/\(yu K H p (c.map V.str)\/xu K H p (c.map V.str))/\(c.map (·.length)).sum+c.length*b.length<=16777216/\Q (.str<|Lp b c) H
theorem Ft:Sb X "str.join" (rJoin X.K):=by
 intro n s z H x w v o Q I i f h;obtain⟨j,p,y,rfl,rfl,b,e,q⟩:=h;obtain⟨t,rfl⟩:=i;obtain⟨u,rfl,g⟩:=wW f;cases g
 rcases b with b|b
 ·obtain⟨c,r,d,_⟩:=I.list b;exact join_list d.isList (by simpa using vK r) e fun l k=>⟨.str _,H,I.tok _,⟨_,rfl⟩,q⟩
 ·obtain⟨c,r,d,_⟩:=I.tuple b;exact join_tuple d (by simpa using vK r) e fun l k=>⟨.str _,H,I.tok _,⟨_,rfl⟩,q⟩
theorem XY {b:Ee}{lo:Option Int}(h:ME b lo):∃o:Option<|Int×Tok,b=partValue o/\lo=o.map (·.1):=by
 cases h with
 |none=>exact⟨none,rfl,rfl⟩
 |int i t=>exact⟨some (i,t),rfl,rfl⟩
def ce:V->Option Int->Option Int->Hp->VK->Prop:=fun x c b H Q=>∃z,x=.str z/\z.length<=sizeLine/\Q (.str<|LU z c b) H
theorem M9:W9 X ce:=by
 intro j s A H x v w y o n p Q I i b f g h;obtain⟨z,rfl,c,q⟩:=h;obtain⟨t,rfl⟩:=i;obtain⟨d,rfl,rfl⟩:=XY f;obtain⟨e,rfl,rfl⟩:=XY g;refine⟨"str",_,F.slot_str_getitem.lookup,J2 _ _ _,wpAny_getItem_str_slice (l:=d) (u:=e) (st:=none) ?_ rfl<|post_val_or_str ⟨Z0 (Txt.slice_le z _ _) c,fun r k=>⟨.str _,H,I.tok _,⟨_,rfl⟩,q⟩⟩⟩;exact b
end
section
variable {X:Cx}{Do:De}{σ:St}{H:Hp}{s:Ei}{h':Ev}
theorem Inv.rN {t':Nat}{ch:Dd}(I:Inv X Do σ H s)(g:∀b∈ch,Ib X Do H b)(k:∀b o,b∉ch->s.heap.get? b=some o->h'.get? b=some o)(th:∀b∈ch,∃o,h'.get? b=some o):Inv X Do σ H { s with heap:=h',toks:=t' }:=by
 have f:∀b u,H b=some u->b∉ch:=fun b u e z=>by rw[(g b z).1]at e;cases e
 refine I.step (g':=s.gens) (d':=s.drawn) (ch:=ch) (fun b hb=>?_) (fun b o _ _ d e _=>k b o d e) (fun b o _ _ d e _=>⟨o.slots,k b o d e⟩) (fun _ _ _ _ n=>n)
  (fun b o d e=>⟨o,k b o d e⟩) (fun _ _ e=>e) (fun _ _ _ e=>e) (fun b w e=>⟨#[],by rw[e];simp⟩) (fun m hm=>?_) (fun b u e=>?_) I.bare
 ·obtain⟨_,j,_,l,p,f5⟩:=g b hb;exact⟨l,j,p,f5⟩
 ·obtain⟨o,i,h,t,r⟩:=hm;exact⟨o,i,h,k _ o (fun z=>(g _ z).2.1 rfl) t,r⟩
 ·refine(I.hok b u e).stay (fun c v d q=>k c v ?_ q) (fun _ q=>q) fun _ _ q=>q
  rcases d with z|z
  ·rw[z];exact f b u e
  ·exact f c _ z
theorem Un.nR {D:Ef}(u:Un fs ex H H1 h h1)(g:h.get? D=none)(f:H1 D=none):Un fs ex H (upd H1 D o) h h1 where
 keep:=u.keep
 slot:=u.slot
 free:=fun b d q n i=>by
  have hb:b≠D:=fun z=>by rw[z,g]at q;cases q
  rw[zH hb];exact u.free b d q n i
 there:=u.there
 tups:=fun b c q=>by rw[zH<|zR (u.tups b c q) f];exact u.tups b c q
 vy:=fun b d c q=>by rw[zH<|zR (u.vy b d c q) f];exact u.vy b d c q
 ut:=fun b j q=>by
  obtain⟨m,e⟩:=u.ut b j q;exact⟨m,by rw[zH<|zR e f];exact e⟩
theorem Inv.oH {T:Ef}{o:HO}(I:Inv X Do σ H s)(n:H T=none)(f:X.s₀.heap.objs.size<=T)(g:T≠X.env.locals)(h:∀x c,X.env.cells.lookup x=some c->c≠T)(i:∀p∈X.pn++Do,p.1≠T)
  (new:yp X.prog X.w (upd H T o) s.heap T o):Inv X Do σ (upd H T o) s:=by
 refine⟨I.ok,I.os,I.bare,I.base.nR (VT f) n,I.loc,I.cell,?_,fun x c e=>?_,fun p b=>?_,I.hok.adopt n new,I.len⟩
 ·rw[zH<|EB g];exact I.free
 ·rw[zH<|h x c e];exact I.wM x c e
 ·obtain⟨e,j,ne,l,d⟩:=I.pin p b;exact⟨e,by rw[zH<|i p b];exact j,ne,l,d⟩
end
def ak (x:Str):It:=⟨fun i _=>i<x.length,fun i H v b=>b=H/\∃c,x.cps[i]?=some c/\v=.str ⟨#[c]⟩,fun i _=>i=x.length⟩
theorem Gp {P:Eg}{w:Ek}{K:Cd}{R:EI}{it:Ef}{x:Str}{g:Nat->Ev->Prop}(C:∀A:ED,A.handled=none->Walks P w A it [it] [it] x.cps.size (SignAt x) g)
  (Y:∀i h,g i h->∃o,h.get? it=some o/\∀v,o.data≠.cell v) (d:∀(A:ED) (i:Nat) (s:Ei) (Q:Ee->Dh) (E:Ee->Dh),g i s.heap->Q (.ref it) s->Eh (Em P w) A (pyIter<|.ref it) Q E s) :
  Turn P w K R (ak x) [it] it g where
 mem:=by simp
 obj:=fun i h st b hb=>by
  have e:b=it:=by simpa using hb
  subst e;exact Y i h st
 keep:=fun i h f st k=>(C {} rfl).frame i h f st k
 item:=by
  intro X B J z D i l s O H E I j st G;subst B J z;obtain⟨p,q,U,r,t,f5⟩:=j it (by simp);refine(C X.A<|I.ok.hd D).item i s _ _ G st fun v f N Z M L=>?_;obtain⟨c,u,F,rfl⟩:=Z;have T:Inv X l O H { s with heap:=f,toks:=N }:=I.turned (fun b o hb e=>L b o (by simpa using hb) e) p q r t f5;refine⟨_,rfl,?_⟩;have y:∃S n,Inv X l O n { s with heap:=f,toks:=N }/\yt S (.str ⟨#[c]⟩ u)/\(ak x).oR i H S n/\g (i+1) f/\∀b∈[it],n b=none :=
   ⟨.str ⟨#[c]⟩,H,T,⟨u,rfl⟩,⟨rfl,c,F,rfl⟩,M,fun b hb=>(j b hb).1⟩
  unfold L5;cases R<;>exact Za y
 done:=by
  intro X B J z D i l s O H E I j st G;subst B J z;obtain⟨p,q,U,r,t,f5⟩:=j it (by simp);exact(C X.A<|I.ok.hd D).done s _ _ (by have e:i=x.length:=G;subst e;exact st) fun f N L=>⟨rfl,I.turned (fun b o hb e=>L b o (by simpa using hb) e) p q r t f5⟩
 self:=d
section
variable {X:Cx}{tg:EI}
def bS (c:TE):TI:=fun d H R=>c d H fun x b=>∃z,x=.str z/\R (ak z) b
theorem MV (p:PE X e te):PI X tg e (bS te):=by
 intro n s w H R I h;refine Ci (p n s w H _ I h) fun v c ⟨x,f,d,u,r⟩=>?_;obtain⟨z,e,q⟩:=r;subst e;obtain⟨t,rfl⟩:=u;have fr:f c.heap.objs.size=none:=d.hok.fresh<|Zf _;cases ha:z.cps.all (·<128)
 ·refine wpAny_pyIter_wide ha ?_;refine⟨c.heap.objs.size,[c.heap.objs.size],fun i h=>h.IsStrIter c.heap.objs.size "str_iterator" z t i,_,f,rfl,d.kept (t':=c.toks) fun b o e=>Zd _ e,Gp (fun A g=>Walks.strWide g _ z t) (fun i h ⟨o,l,_,hd⟩=>⟨o,l,fun v z=>by rw[hd]at z;cases z⟩)<|fun _ _ _ _ _ st j=>wpAny_pyIter_striter_wide st j,⟨_,Zp _ rfl,rfl,rfl⟩,fun b hb=>?_,q⟩
  have e:b=c.heap.objs.size:=by simpa using hb
  subst e;exact d.sW (Zf _) fr
 ·refine wpAny_pyIter_ascii ha ?_;refine⟨c.heap.objs.size,[c.heap.objs.size],fun i h=>h.IsStrIter c.heap.objs.size "str_ascii_iterator" z t i,_,f,rfl,d.kept (t':=c.toks) fun b o e=>Zd _ e,Gp (fun A g=>Walks.strAscii g _ z t) (fun i h ⟨o,l,_,hd⟩=>⟨o,l,fun v z=>by rw[hd]at z;cases z⟩)<|fun _ _ _ _ _ st j=>wpAny_pyIter_striter_ascii st j,⟨_,Zp _ rfl,rfl,rfl⟩,fun b hb=>?_,q⟩
  have e:b=c.heap.objs.size:=by simpa using hb
  subst e;exact d.sW (Zf _) fr
end
abbrev Ol (J:It)(g:TG)(tb:TS)(D:Ends)(σ:St)(H:Hp):Prop :=
 ∃W:Nat->Nat->St->Hp->Prop,(∃m,W 0 m σ H)/\∀i m σ H,W i m σ H ->
  (J.stop i H/\D.nx σ H)\/(J.go i H/\∃N:St->Hp->Prop,(∀σ' H',N σ' H'->∃m',m'<m/\W (i+1) m' σ' H')/\∀x H',J.oR i H x H'->g x σ H' fun σ2 H2=>tb { D with nx:=N,ct:=N,bk:=D.nx } σ2 H2)
theorem NG {J:It}{g:TG}{j:TS}{D:Ends}{b:St}{H:Hp}(n:Nat)(c:Nat->St->Hp->Prop)(l:c 0 b H)(h:∀b H,c n b H->J.stop n H)(f:∀i b H,i<n->c i b H->J.go i H)
  (hs:∀i b H,i<n->c i b H->∀x H',J.oR i H x H'->g x b H' fun σ2 H2=>j { D with nx:=c<|i+1,ct:=c<|i+1,bk:=D.nx } σ2 H2) (hd:∀b H,c n b H->D.nx b H):Ol J g j D b H:=by
 refine⟨fun i m b H=>m=n-i/\i<=n/\c i b H,⟨n,by simp,ZN _,l⟩,?_⟩;rintro i m b H ⟨rfl,r,p⟩
 by_cases d:i<n
 ·exact .inr ⟨f i b H d p,c<|i+1,fun q H' o=>⟨n-(i+1),by lia,rfl,d,o⟩,fun x H' y=>hs i b H d p x H' y⟩
 ·have e:i=n:=by lia
  subst e;exact .inl ⟨h b H p,hd b H p⟩
theorem Sq {x:Str}{g:TG}{h:TS}{D:Ends}{b:St}{H:Hp}(d:Nat->St->Hp->Prop)(l:d 0 b H)
  (hs:∀i c b H,x.cps[i]?=some c->d i b H->g (.str ⟨#[c]⟩) b H fun σ2 H2=>h { D with nx:=d<|i+1,ct:=d<|i+1,bk:=D.nx } σ2 H2) (hd:∀b H,d x.length b H->D.nx b H):Ol (ak x) g h D b H :=
 NG x.length d l (fun _ _ _=>rfl) (fun _ _ _ f _=>f) (fun i b H f p v o y=>by
  obtain⟨e,c,n,j⟩:=y;subst e j;exact hs i c b _ n p) hd
def bK (K:Cd)(a:Ef):It :=
 ⟨fun i H=>∃b x,yu K H a b/\b[i]?=some x,fun i H v c=>∃T x,H T=none/\v=.ref T/\c=upd H T (.tup [.int i,x])/\∀b,yu K H a b->b[i]?=some x,fun i H=>∃b,yu K H a b/\b.length<=i⟩
theorem O8 {P:Eg}{w:Ek}{K:Cd}{DT:List EI} {x1}{D5:Pos}(a e it:Ef)(g:e≠it) :
  Turn P w K (.Tuple DT x1 D5) (bK K a) [e,it] e (fun i h=>(∃old,IsEnum h e it i old)/\h.IsListIter it a i) where
 mem:=by simp
 obj:=fun i h st b hb=>by
  obtain⟨⟨old,Y⟩,o,Z,s3,s4⟩:=st
  rcases Zi.mp hb with z|z
  ·subst z;exact⟨_,Y,fun v z=>by cases z⟩
  ·have z:b=it:=by simpa using z
   subst z;exact⟨o,Z,fun v z=>by rw[s4]at z;cases z⟩
 keep:=fun i h h' st k=>by
  obtain⟨⟨old,Y⟩,Z⟩:=st;exact⟨⟨old,k e (by simp) _ Y⟩,Z.at fun o q=>k it (by simp) o q⟩
 item:=by
  intro X J O G hc i C s σ H E I j st N;subst J O G;obtain⟨xs,x,A,Q⟩:=N;obtain⟨R,U,p,hz⟩:=I.list A;obtain⟨u,hu,ru⟩:=U.get Q;obtain⟨⟨old,c⟩,d⟩:=st;have fe:=j e (by simp);have fi:=j it (by simp);have L:H s.heap.objs.size=none:=I.hok.fresh<|Zf _;have t:e<s.heap.objs.size:=Zq c;have S:it<s.heap.objs.size:=by obtain⟨o,n,_⟩:=d;exact Zq n
  refine wpAny_pyNext_enum_item c d p.isList (x:=u) (by simpa using hu) g fun h' T f tup sz kp=>?_;refine⟨_,rfl,wpAny_letOwnedTupleGo_enum T fun l en B=>?_⟩;have D:∃old,IsEnum l e it ((i+1:Nat):Int) old:=⟨u,by push_cast;exact en⟩;have y:l.get? s.heap.objs.size=some { cls:=.type "tuple",data:=.seq #[.int i s.toks,u] }:=(B.2 _<|YW t).trans tup;have I1:Inv X C σ H { s with heap:=l,toks:=s.toks+1 }:=I.rN (ch:=[e,it]) j (fun b o hb q=>by
   have b1:b≠e:=fun z=>hb (by simp[z]);have b2:b≠it:=fun z=>hb (by simp[z]);exact(B.2 b b1).trans (kp b o b1 b2 q)) (fun b hb=>by
   rcases Zi.mp hb with z|z
   ·subst z;exact⟨_,en⟩
   ·have z:b=it:=by simpa using z
    subst z;obtain⟨o,n,_⟩:=f;exact⟨o,(B.2 b<|EB g).trans n⟩)
  have F:=I.sW (Zf _) L;have new:yp X.prog X.w (upd H s.heap.objs.size<|.tup [.int i,x]) l s.heap.objs.size (.tup [.int i,x]) :=
   ⟨by show 2<=sizeLine;decide,[.int i s.toks,u],.cons ⟨_,rfl⟩<|.cons ru .nil,⟨_,y,rfl,_,rfl,rfl⟩⟩
  have I2:Inv X C σ (upd H s.heap.objs.size<|.tup [.int i,x]) { s with heap:=l,toks:=s.toks+1 } :=
   I1.oH L (Z0 I.sz<|Zf _) F.2.1 F.2.2.2.2.1 F.2.2.2.2.2 new
  refine⟨.ref s.heap.objs.size,_,I2,rfl,⟨_,x,L,rfl,rfl,fun ys hy=>by rw[I.pQ hy A];exact Q⟩,⟨D,?_⟩,fun b hb=>?_⟩
  ·obtain⟨o,n,r⟩:=f;exact⟨o,(B.2 it<|EB g).trans n,r⟩
  ·have M:b<s.heap.objs.size:=by
    rcases Zi.mp hb with z|z
    ·subst z;exact t
    ·have z:b=it:=by simpa using z
     subst z;exact S
   rw[zH<|Zz M];exact(j b hb).1
 done:=by
  intro X J O G hc i C s σ H E I j st N;subst J O G;obtain⟨xs,A,Q⟩:=N;obtain⟨R,U,p,hz⟩:=I.list A;obtain⟨⟨old,c⟩,d⟩:=st;obtain⟨f0,f1,f2,f3,f4,f5⟩:=j it (by simp);have hl:=U.length;exact wpAny_pyNext_enum_end (I.ok.hd hc) c d p.isList (by simp;lia) fun h' eb=>⟨rfl,I.turned (t':=s.toks) (fun b o hb q=>eb b o hb q) f0 f1 f3 f4 f5⟩
 self:=fun _ _ _ _ _ st h=>wpAny_pyIter_enum st.1.choose_spec h
end L2
namespace L2
open PySem PySem.Spec PyProof.Rows
section
variable {X:Cx}{DT:List EI}{x1:Nat}{D5:Pos}
def aw (K:Cd)(c:TA):TI:=fun f H R=>c f H fun d b=>∃a,d=[.ref a]/\(∃e,yu K b a e)/\R (bK K a) b
theorem SY {a:EI}{p pos:Pos}(o:Gl X "enumerate")(hm:X.mg "enumerate"=none)(ha:PA X [a] ta)(hs:Eu [a] X.env=[(false,E3 a X.env)]:=by rfl):PI X (.Tuple DT x1 D5) (.Call (.Name "enumerate" p) [a] [] pos) (aw X.K ta):=by
 intro i s B H R I h;refine Call_<|U0 I o hm boot_enumerate<|Jm (Ci (ha pos i s B H _ I h) fun F c ⟨G,f,d,y,x⟩=>?_) hs rfl;obtain⟨j,e,⟨J,r⟩,q⟩:=x;subst e;obtain⟨u,rfl,A⟩:=wW y;cases A;obtain⟨v,E,w,D⟩:=d.list r;refine call_enumerate_list w.isList fun C g t sz kp=>wpAny_pyIter_enum g ?_;have n:f (c.heap.objs.size+1)=none:=d.hok.fresh<|JD _;have l:f c.heap.objs.size=none:=d.hok.fresh<|Zf _;refine⟨c.heap.objs.size+1,[c.heap.objs.size+1,c.heap.objs.size],_,_,f,rfl,d.kept (t':=c.toks) kp,O8 j _ _<|YW<|Jn _,⟨⟨_,g⟩,t⟩,fun b hb=>?_,q⟩
 rcases Zi.mp hb with z|z
 ·subst z;exact d.sW (JD _) n
 ·have z:b=c.heap.objs.size:=by simpa using z
  subst z;exact d.sW (Zf _) l
theorem PJ {K:Cd}{xs:Dj}{g:TG}{e:TS}{D:Ends}{b:St}{H:Hp}(c:Nat->St->Hp->Prop)(j:c 0 b H)(hl:∀i b H,i<=xs.length->c i b H->yu K H a xs)
  (hs:∀i x T b H,xs[i]?=some x->c i b H->H T=none->g (.ref T) b (upd H T<|.tup [.int i,x]) fun σ2 H2=>e { D with nx:=c<|i+1,ct:=c<|i+1,bk:=D.nx } σ2 H2) (hd:∀b H,c xs.length b H->D.nx b H):Ol (bK K a) g e D b H :=
 NG xs.length c j (fun b H p=>⟨xs,hl _ b H (Zf _) p,Zf _⟩) (fun i b H d p=>⟨xs,xs[i],hl i b H (YK d) p,by simp[d]⟩) (fun i b H d p v o y=>by
  obtain⟨T,x,l,h,f,n⟩:=y;subst h f;exact hs i x T b H (n xs<|hl i b H (YK d) p) p l) hd
def TM (K:Cd):V->Option Int->Option Int->Hp->VK->Prop:=fun x e d H Q=>∃a b,x=.ref a/\xu K H a b/\∀v c,(v=.ref a/\c=H/\UT b e d=b)\/(∃p,H p=none/\v=.ref p/\c=upd H p (.tup<|UT b e d))->Q v c
end
namespace AxT
variable {prog:Eg}{w:Ek}{A:ED}{E:Ee->Dh}{s:Ei}
open HT
theorem ud {t i:Ef}{Dn:Array Ee}{l p:Ee}{lo d:Option Int}{Q:Ee->Dh}(b:IsTup s.heap t Dn)(hs:s.heap.IsSliceOf i l p .none)(pl:ME l lo)(r:ME p d)
  (j:wK Dn.size 0 lo=0/\wK Dn.size Dn.size d=Dn.size) (h:Q (.ref t) s):Eh (Em prog w) A (Mv (.ref t)<|.ref i) Q E s:=by
 obtain⟨os,g,f,q⟩:=id hs;have e:s.TypeIs (.ref i) "slice":=⟨os,g,f⟩;unfold Mv
 try with_reducible refine ZZ ?_
 first|refine Q7 (Za ?_)|skip
 refine Q7 (wpAny_sequenceKey b.typeIs (by decide) ?_);refine Q7<|YT (name:=EU "__getitem__") b.typeIs Y8<|Ym Y8 b.typeIs entry_tuple_getitem ?_<|args_tuple_getitem _ _
 show Eh _ _ (LM (.ref t)>>=_) _ _ s;refine Q7<|tupleItemsOf_ b ?_;refine Q7<|JO e ?_;rw[Zs<|by decide];refine Q7<|jJ hs pl r ?_;have c:(((wK Dn.size 0 lo:Nat):Int)==0&&(1:Int)==1&&(wK Dn.size Dn.size d-wK Dn.size 0 lo)==Dn.size)=true:=by
  rw[j.1,j.2];simp
 show Eh _ _ (if(((wK Dn.size 0 lo:Nat):Int)==0&&(1:Int)==1&&(wK Dn.size Dn.size d-wK Dn.size 0 lo)==Dn.size)=true then _ else _) _ _ s;rw[Zs c];obtain⟨o,v,u,n,hd⟩:=id b;refine Q7 (m:=Builtin.Tuple.tupleIsExact _) ?_;unfold Builtin.Tuple.tupleIsExact;refine Q7<|JO b.typeIs<|Za ?_;rw[Zs<|by decide];exact Q7<|JQ<|Za ⟨_,rfl,Za h⟩
end AxT
section
variable {X:Cx}
theorem mY:W9 X (TM X.K):=by
 intro y s D H x v B C f g A Q I w l n p h;obtain⟨a,d,rfl,t,q⟩:=h;cases w;obtain⟨c,r,j,u⟩:=I.tuple t;have i:c.toArray.size=d.length:=by rw[Zy];exact r.length.symm
 refine⟨"tuple",_,Y8.lookup,j.typeIs,?_⟩
 by_cases e:HT.wK c.toArray.size 0 f=0/\HT.wK c.toArray.size c.toArray.size g=c.toArray.size
 ·refine AxT.ud j l n p e ⟨.ref a,H,I,rfl,q _ _<|.inl ⟨rfl,rfl,?_⟩⟩;rw[i]at e;unfold UT;rw[e.1,e.2];simp
 ·refine HT.tH j l n p e ?_ (by rwa[i]);rw[i];refine⟨.ref s.heap.objs.size,_,I.laid (t':=s.toks) (o:=.tup<|UT d f g) (fun b z q=>Zd _ q) (Zf _) ?_,rfl,q _ _<|.inr ⟨_,I.hok.fresh<|Zf _,rfl,rfl⟩⟩;exact⟨Z0 (X6 d f g) u,_,(r.drop<|HT.wK d.length 0 f).take<|HT.wK d.length d.length g-HT.wK d.length 0 f,TupAt.new _ _⟩
structure wZ (P:Eg)(w:Ek)(K:Cd)(mg:Str->Dc)(base:Ev)(k:Nat)(x:Str)(ps:Da)(sp:Sp):Prop where
 ex:∃(f:Ef) (fd:Eo),yx P w K mg base Cn k f fd ps sp/\mg x=some (.ref f)/\EW K (.ref f)=true/\wU K fd ps []
theorem zJ {e:EI}{es:List EI}{p pos:Pos}(C:wZ X.prog X.w X.K X.mg X.base k x ps sp)(h:wX k X.A)(ha:PA X (e::es) t)(g:Gl X x:=by rfl)
  (b:(x==("__debug__":Str))=false:=by decide) (d:Eu (e::es) X.env=(false,E3 e X.env)::Eu es X.env:=by rfl) (c:(La pos<|Eu es X.env).any (·.1)=false:=by rfl) :
  PE X (.Call (.Name x p) (e::es) [] pos) (TU sp [] E0 t):=by
 obtain⟨f,i,F,hm,hk,hb⟩:=C.ex;exact SO F h g hm hk hb .nil NT ha b d c
theorem wZ.mk' {K:Cd}{st:EQ}(F:wY K x qual st f fd)(G:yx P w K mg base Cn k f fd ps sp)(hm:mg x=some (.ref f))
  (b:wU K fd ps []):wZ P w K mg base k x ps sp:=⟨f,fd,G,hm,F.kp,b⟩
def KD (P:Eg)(w:Ek)(K:Cd)(a:Ef)(Dm:Dl):Prop:=∀h:Ev,K.In h->∃b,KV Dm b/\h.DictOf (zc P w) a b
def bi (P:Eg)(w:Ek)(K:Cd)(f ty:TE):TE:=fun c H Q=>f c H fun x d=>ty c d fun y e=>∃a b k v,x=.ref a/\y=kV k/\KD P w K a b/\Us b k=some v/\Q v e
theorem SR {pos:Pos}(t:PE X o td)(r:PE X i ty)(hs:Sc i):PE X (.Subscript o i pos) (bi X.prog X.w X.K td ty):=by
 intro d s g H Q I h;refine FN PySem.F.slot_dict_getitem.lookup hs<|Ci (t d s g H _ I h) fun u E ⟨x,j,p,C,A⟩=>Ci (r d E g j _ p A) fun L M hh=>?_;obtain⟨y,n,e,D,a,J,k,v,ex,q,kd,l,B⟩:=hh;subst ex q;obtain rfl:u=Et a:=C;obtain⟨G,b,f⟩:=kd _ e.uq;obtain⟨N,z,c⟩:=vm.some_of (v:=v) (o:=valueAt G k) (by rw[←l];exact b.val k);exact⟨f.typeIs,wpAny_getItem_of (UV D) f.mapOf z ⟨v,n,e.tok _,c,B⟩⟩
theorem FZ:xj X (.builtin "isinstance") (fun xs H Q=>∃y T t b,xs=[y,.ty T]/\tL X.K H y t/\ER X.K t (.type T)=some b/\Q (.bl b) H):=by
 intro g s l H xs j Q I r h;obtain⟨y,T,t,b,rfl,ty,d,q⟩:=h;obtain⟨u,f,rfl,e,c⟩:=vals2 r;cases(show f=Value.type T from c);exact q8 I e ty d fun i=>⟨.bl b,H,I.tok _,rfl,q⟩
end
theorem yp.there (x:yp P w H h a o):∃ob,h.get? a=some ob:=by
 cases o with
 |lst xs=>obtain⟨_,_,_,_,e⟩:=x;exact⟨_,e⟩
 |tup xs=>obtain⟨_,_,_,ob,e,_⟩:=x;exact⟨_,e⟩
 |dK Dm=>obtain⟨_,_,_,_,ob,_,_,e,_⟩:=x;exact⟨_,e⟩
 |dT Dm=>obtain⟨_,_,_,_,ob,_,_,e,_⟩:=x;exact⟨_,e⟩
 |set S n=>obtain⟨ob,_,_,_,e,_⟩:=x;exact⟨_,e⟩
 |ins C dx fs=>obtain⟨_,_,_,e,_⟩:=x;exact⟨_,e⟩
 |own y=>exact x
 |xd fs=>obtain⟨_,⟨_,_,_,e,_⟩,_⟩:=x;exact⟨_,e⟩
 |rng lo hi=>obtain⟨_,_,_,e⟩:=x;exact⟨_,e⟩
 |frz ob u=>obtain⟨e,_⟩:=x;exact⟨_,e⟩
 |tbl ps=>exact⟨_,(show h.get? a=some _ from x)⟩
 |met f y=>exact⟨_,(show h.get? a=some _ from x)⟩
 |ext φ=>obtain⟨_,e,_⟩:=x;exact e
def ctx0 (vs:Array Ee):Prop:=vs[2]?=some .none
theorem Xu:BB ctx0:=fun b v h=>by
 show(b.setIfInBounds 1 v)[2]?=some .none;rwa[Array.getElem?_setIfInBounds_ne<|by decide]
def ExcAt (h:Ev)(a T:Ef)(cls:Ee):Prop :=
 ∃b c d e,h.get? a=some b/\(b.cls=cls/\ctx0 c)/\b.data=.fields c/\c[1]?=some (.ref T)/\T≠a/\h.get? T=some d/\d.data=.fields e/\e[3]?=some .none
def CH (P:Eg)(w:Ek):Pf:=fun outer H s E e c=>∃a T cls b,e=.ref a/\c.os=s.os/\Mt c.gens/\Un (frs outer) [] H b s.heap c.heap/\uh P w b c.heap /\
 s.heap.get? a=none/\s.heap.get? T=none/\b a=none/\b T=none/\ExcAt c.heap a T cls/\E cls none b
section
variable {X:Cx}{Do:De}{σ:St}{H:Hp}{s:Ei}
theorem Inv.none_of (I:Inv X Do σ H s){a:Ef}(e:s.heap.get? a=none):H a=none:=by
 cases q:H a with
 |none=>rfl
 |some u =>
  obtain⟨b,z⟩:=(I.hok a u q).there;rw[e]at z;cases z
theorem Inv.wu (I:Inv X Do σ H s)(b:X.ex=[]){a:Ef}(e:s.heap.get? a=none):X.s₀.heap.get? a=none:=by
 cases q:X.s₀.heap.get? a with
 |none=>rfl
 |some o =>
  obtain⟨c,z⟩:=I.base.there a o q (by rw[b];simp);rw[e]at z;cases z
abbrev UP (h:Ev)(as:Dd)(l:List Env):Heap:=PySem.W.hideAll h<|as++frs l
theorem kG {h:Ev}{base:Ev}{l:List Env}(f:h.FunFrames base l):h.FunFrames (UP h as l) l :=
 PySem.W.funFrames_hide f fun env c b hb=>ZL _<|Jq.mpr ⟨env,c,hb⟩
theorem jZ:(UP h as l).StaysIn h:=fun _ _ q=>PySem.W.of_hideAll _ q
theorem FG (h:X.stack=X.env::X.outer)(G:X.env.frame=some X.env.locals)(j:X.ex=[])(I:Inv X Do σ H s){e:Ef}{cls:Ee}{args:Db}{h':Ev}(l:Heap.MadeExcOf s.heap h' e cls args){E:XK}(q:E cls none H)
  {Ex:Ee->Dh}:Eh (Em X.prog X.w) X.A (leaving X.env<|.ref e) (fun _ s''=>CH X.prog X.w X.outer X.H₀ X.s₀ E (.ref e) s'') Ex { s with heap:=h' }:=by
 have fr:=kG (as:=[]) I.stack;have Q:X.A.frames=some (X.env::X.outer):=by rw[I.ok.frames,h]
 obtain⟨t,S,Y,ht⟩:=l.there;have fresh:∀b,s.heap.get? b=none->(UP s.heap [] X.stack).get? b=none:=fun b hb=>by
  cases U:(UP s.heap [] X.stack).get? b with
  |none=>rfl
  |some x=>have:=jZ b x U;rw[hb]at this;cases this
 rw[h]at fr;refine Ht (base:=UP s.heap [] X.stack) (q:=ctx0) Xu Q ((by rw[h];exact fr:s.heap.FunFrames (UP s.heap [] X.stack) (X.env::X.outer)).of_keeps fun b o hb _=>⟨o,l.keeps b o hb,rfl⟩) G S (fun b o hb=>l.keeps b o<|jZ b o hb) (fresh e l.new) rfl rfl rfl fun F Z k2 L k4=>?_;obtain⟨oe,vs,T,oT,ts,t1,t2,t3,t4,t5,t6,O,P,t9⟩:=L;have stk:∀b∈frs X.stack,H b=none:=I.tO;have kp:∀b o,s.heap.get? b=some o->b∉frs X.stack->F.get? b=some o:=fun b o e hb=>Z b o (Jk _ e<|by simpa using hb);have C:∀b o,s.heap.get? b=some o->b∈frs X.stack->∃C,F.get? b=some { o with slots:=C }:=fun b o e hb=>by
  obtain⟨_,x,f,hd⟩:=I.stack.mem hb;rw[e]at f;cases f;exact k4 b o (l.keeps b o e) hd
 have nL:∀b o,X.s₀.heap.get? b=some o->b≠X.env.locals:=fun b o e=>Zz<|ZJ (Zq e) I.ok.above;have i:∀b,b∉X.ex:=fun b=>by rw[j];simp
 have N:s.heap.get? T=none:=by
  cases qT:s.heap.get? T with
  |none=>rfl
  |some o =>
   exfalso
   by_cases M:T∈frs X.stack
   ·have J:F.FunFrames (UP s.heap [] X.stack) X.stack:=by have z:=k2;rw[←h]at z;exact z
    obtain⟨_,x,f,hd⟩:=J.mem M;rw[O]at f;cases f;exact hd _ P
   ·have z:(UP s.heap [] X.stack).get? T=some o:=Jk _ qT (by simpa using M);rw[t5]at z;cases z
 refine⟨e,T,cls,H,rfl,I.os,I.bare,⟨fun b o d n hb _=>?_,fun b o d n hb _=>?_,fun b o d n _=>I.base.free b o d n<|i b,fun b o d _=>?_,I.base.tups,I.base.vy,I.base.ut⟩,fun b u d=>?_,I.wu j l.new,I.wu j N,I.none_of l.new,I.none_of N,⟨oe,vs,oT,ts,t1,t2,t3,t4,t6,O,P,t9⟩,q⟩
 ·refine kp b o (I.base.keep b o d n hb<|i b) fun z=>?_
  rcases Zi.mp (I.tD b z) with r|r
  ·exact nL b o d r
  ·exact hb r
 ·obtain⟨K,p⟩:=I.base.slot b o d n hb<|i b
  by_cases g:b∈frs X.stack
  ·obtain⟨B,D⟩:=C b _ p g;exact⟨B,D⟩
  ·exact⟨K,kp b _ p g⟩
 ·obtain⟨x,p⟩:=I.base.there b o d<|i b
  by_cases g:b∈frs X.stack
  ·obtain⟨B,D⟩:=C b _ p g;exact⟨_,D⟩
  ·exact⟨x,kp b _ p g⟩
 ·refine(I.hok b u d).stay (fun c v R r=>kp c v r fun z=>?_) (fun _ r=>r) fun _ _ r=>r;have g:=stk c z
  rcases R with y|y
  ·rw[y,d]at g;cases g
  ·rw[y]at g;cases g
end
theorem Oy {K:Cd}{h:Ev}{C:Ef}{d:Db}{b:String}(X:K.In h)(q:E9 K C d b=true) :
  ∃bm N nm q bs hdct sn sub ab col dd k0 k1 k2 k3 k5 mN,h.get? C=some (excClassObj nm q C N bs bm hdct sn sub ab col dd k0 k1 k2 k3 k5 b)/\h.Ns N mN/\mN "__init__"=none/\OwnTail h d bm:=by
 unfold E9 at q
 split at q
 ·rename_i dd j i p
  split at q
  ·rename_i t bm k0 k1 k2 k3 n k5 hm g;simp only[Zm,Jd,Uf]at q;obtain⟨⟨⟨⟨⟨rfl,rfl⟩,c⟩,r⟩,hok⟩,e⟩:=q;obtain⟨nm,bs,mro,ns,s,hd,sn,sub,ab,col,o⟩:=j;dsimp only at hm c hok e;subst hm c;have f:i=#[k0,k1,k2,k3,some<|.builtin n,k5]:=by
    obtain⟨l⟩:=i;simp only at g;rw[g]
   subst f;exact⟨bm,ns,nm,s,bs,hd,sn,sub,ab,col,dd,k0,k1,k2,k3,k5,_,X _ _ p,.of_isNs<|PySem.W.isNs_of_in X hok,PySem.W.nsMap_none_of_in X hok e,PySem.W.tail_of_in X r⟩
  ·cases q
 ·cases q
abbrev U7:Db:=[.type "ValueError",.type "Exception",.type "BaseException",.type "object"]
def Throws (X:Cx)(R:St->Hp->Ee->Prop):Prop:=∀(f:De) (d:St) (H:Hp) (s:Ei) (e:Ef) (cls:Ee) (b:Db) (c:Ev),Inv X f d H s->Heap.MadeExcOf s.heap c e cls b->R d H cls->X.xe (.ref e) { s with heap:=c }
def WZ (C:Ef)(R:St->Hp->Ee->Prop)(t:TA):TS:=fun _ b H=>t b H fun d c=>d.length<=sizeLine/\R b c (.ref C)
section
variable {X:Cx}
theorem qO {C:Ef}{c:EI}{b:List EI}{J g pos:Pos}(B:X.calm=true)(G:Throws X R)(E:Gl X x)(hm:X.mg x=some (.ref C))(j:E9 X.K C U7 "ValueError.__new__"=true)(ha:PA X (c::b) t)
  (p:Eu (c::b) X.env=(false,E3 c X.env)::Eu b X.env:=by rfl) (u:(La g<|Eu b X.env).any (·.1)=false:=by rfl) (hd:(x==("__debug__":Str))=false:=by decide) :
  PS X (.Raise (some<|.Call (.Name x J) (c::b) [] g) none pos) (WZ C R t):=by
 intro o s r H D I h;obtain⟨O,N,nm,q,bs,hdct,sn,sub,ab,col,dd,k0,k1,k2,k3,k5,mN,z,A,n,T⟩:=Oy I.ok.mod.mW j;refine wpAny_Raise_call_subU (C:=C) (nm:=nm) (q:=q) (N:=N) (bs:=bs) (bm:=O) (hdct:=hdct) (sn:=sn) (sub:=sub) (ab:=ab) (col:=col) (dd:=dd) (k0:=k0) (k1:=k1) (k2:=k2) (k3:=k3) (k5:=k5)
  F.excBase_ValueError (by decide +kernel) F.excBase_ValueError (mN:=mN) (T.hasType F.excBase_ValueError.hasBase) (I.ok.hd B) (by rw[p];show(false||(La g<|Eu b X.env).any (·.1))=false;rw[u];rfl) n (uY I E hm ⟨rfl,?_⟩ hd)
 have d:=ha g o s r H _ I h;rw[p]at d ⊢;exact LN (Yu d (fun Q f ⟨S,v,i,M,P,L⟩=>⟨rfl,by rw[←M.length];exact P,i.bk _ _ z,A.keeps i.bk,T.keeps i.bk,fun w e l=>G o r v f e _ _ w i l L⟩) fun _ _ y=>y)
theorem xV {P:Eg}{w:Ek}{K:Cd}{mg:Str->Dc}{base:Ev}{N:Da}{qual:Str}{scope:LX}{f:Ef}{b:Ee}{A:ED}{outer:List Env}{s:Ei}{H:Hp}{E:XK} :
  Throws (DE (CH P w) P w K mg base N qual scope f b A outer s H E) (fun _ H' cls=>E cls none H') :=
 fun _ _ _ _ _ _ _ _ I c q=>FG rfl rfl rfl I c q
end
def Raises (X:Cx)(R:St->Hp->Ee->Prop):Prop:=∀(d:De) (c:St) (H:Hp) (s:Ei) (e:Ee) (b:Ei),Inv X d c H s->CH X.prog X.w X.stack H s (fun cls _ f=>R c f cls) e b->X.xe e b
def WT (sp:Sp)(R:St->Hp->Ee->Prop)(t:TA):TE:=fun b H Q=>t b H fun e d=>sp e d Q<|fun cls _ c=>R b c cls
section
variable {X:Cx}{k:Nat}{f:Ef}{fd:Eo}{ps:Da}{sp:Sp}{x:Str}{p pos:Pos}{e:EI}{es:List EI}{t:TA}{R:St->Hp->Ee->Prop}
theorem N6 {g:De}{d:St}{H:Hp}{s:Ei}{Q:VK}{us:Db}{vs:Dj}(F:yx X.prog X.w X.K X.mg X.base (CH X.prog X.w) k f fd ps sp)(i:wX k X.A)(hb:wU X.K fd ps [])(j:Raises X R)
  (I:Inv X g d H s) (r:yr vs us) (h:sp vs H Q<|fun cls _ H'=>R d H' cls):Eh (Em X.prog X.w) X.A (call (.ref f) us) (EP X g d Q) X.xe s:=by
 have hl:us.length=ps.length:=by rw[←r.length];exact F.len _ _ _ _ h
 have b:=hb s us I.uq (by simpa using hl);rw[ZG]at b;refine Vl<|YY (F.run X.A X.stack s H ⟨us,[]⟩ us vs Q _ i I.env0 b r h) fun r l c=>?_;cases r with
 |error e=>exact j g d H s e l I c
 |ok fl =>
  cases fl with
  |ret u=>exact I.after c
  |next=>exact EG c
  |brk=>exact EG c
  |cont=>exact EG c
structure tW (P:Eg)(w:Ek)(K:Cd)(mg:Str->Dc)(base:Ev)(k:Nat)(x:Str)(ps:Da)(sp:Sp):Prop where
 ex:∃(f:Ef) (fd:Eo),yx P w K mg base (CH P w) k f fd ps sp/\mg x=some (.ref f)/\EW K (.ref f)=true/\wU K fd ps []
theorem yK (C:tW X.prog X.w X.K X.mg X.base k x ps sp)(l:wX k X.A)(n:Raises X R)(ha:PA X (e::es) t)(j:Gl X x:=by rfl)
  (b:(x==("__debug__":Str))=false:=by decide) (i:Eu (e::es) X.env=(false,E3 e X.env)::Eu es X.env:=by rfl) (c:(La pos<|Eu es X.env).any (·.1)=false:=by rfl) :
  PE X (.Call (.Name x p) (e::es) [] pos) (WT sp R t):=by
 obtain⟨f,fd,F,hm,hk,hb⟩:=C.ex;intro g s o H Q I h;refine Jr<|uY I j hm ?_ b;refine JN (h₀:=X.base) I.ok.mod.mW hk (Ci (ha pos g s o H _ I h) fun y v ⟨z,u,d,r,q⟩=>⟨d.uq,?_⟩) i c;exact N6 F l hb n d r q
end
def W7 (X:Cx)(d:De)(H:Hp)(b:Ef):Prop :=
 H b=none/\X.s₀.heap.get? b=none/\b≠X.env.locals/\(∀x c,X.env.cells.lookup x=some c->c≠b)/\∀p∈X.pn++d,p.1≠b
section
variable {X:Cx}{Do D0:De}{σ:St}{H:Hp}{s:Ei}{h':Ev}{R:St->Hp->Ee->Prop}
theorem Inv.lY (I:Inv X Do σ H s)(f:X.ex=[]){H':Hp}{b:Ef}(e:s.heap.get? b=none)(n:H' b=none):W7 X Do H' b:=by
 refine⟨n,I.wu f e,fun z=>?_,fun x c q z=>?_,fun p g z=>?_⟩
 ·obtain⟨m,⟨o,_,_,d,_⟩,_⟩:=I.loc;rw[←z,e]at d;cases d
 ·obtain⟨v,o,d,_⟩:=I.cell x c q;rw[z,e]at d;cases d
 ·have d:=(I.pin p g).1;rw[z,e]at d;cases d
theorem Inv.land {ch:Dd}(I:Inv X Do σ H s)(h:∀b∈ch,W7 X Do H b)(k1:(UP s.heap ch X.stack).StaysIn h')(k2:s.heap.UpToSlots h')(P:Nat):Inv X Do σ H { s with heap:=h',toks:=P }:=by
 have kp:∀b o,s.heap.get? b=some o->b∉ch->b∉frs X.stack->h'.get? b=some o:=fun b o e q hb=>k1 b o (Jk _ e (by
  intro z
  rcases ZD.mp z with z|z
  ·exact q z
  ·exact hb z))
 have any:∀b o,s.heap.get? b=some o->b∉ch->∃E,h'.get? b=some { o with slots:=E }:=fun b o e q=>by
  by_cases hb:b∈frs X.stack
  ·obtain⟨_,O,A,hd⟩:=I.stack.mem hb;rw[e]at A;cases A;exact k2 b o e hd
  ·exact⟨o.slots,kp b o e q hb⟩
 have C:∀b,b≠X.env.locals->b∉X.fs->b∉frs X.stack:=fun b K L z=>(Zi.mp<|I.tD b z).elim K L;have N:∀b o,X.s₀.heap.get? b=some o->b≠X.env.locals:=fun b o e=>Zz<|ZJ (Zq e) I.ok.above;have j:∀b o,X.s₀.heap.get? b=some o->b∉ch:=fun b o e z=>by rw[(h b z).2.1]at e;cases e
 have f:∀c v,s.heap.IsCell c v->h'.IsCell c v:=fun c v ⟨o,M,hd⟩=>by
  obtain⟨E,e⟩:=k2 c o M fun Q z=>by rw[hd]at z;cases z
  exact⟨_,e,hd⟩
 refine⟨I.ok,I.os,I.bare,⟨fun b o e n hb B=>?_,fun b o e n hb B=>?_,I.base.free,fun b o e B=>?_,I.base.tups,I.base.vy,I.base.ut⟩,?_,fun x c e=>?_,I.free,I.wM,fun p F=>?_,fun b u e=>?_,I.len⟩
 ·exact kp b o (I.base.keep b o e n hb B) (j b o e) (C b (N b o e) hb)
 ·obtain⟨E,t⟩:=I.base.slot b o e n hb B;obtain⟨D,w⟩:=any b _ t<|j b o e;exact⟨D,w⟩
 ·obtain⟨O,t⟩:=I.base.there b o e B;obtain⟨D,w⟩:=any b _ t<|j b o e;exact⟨_,w⟩
 ·obtain⟨m,hn,hl⟩:=I.loc;refine⟨m,k2.ns hn,fun i x v t w J=>?_⟩;obtain⟨u,r,l⟩:=hl i x v t w J;refine⟨u,r,?_⟩
  rcases l with l|⟨k,c,e,z⟩
  ·exact .inl l
  ·exact .inr ⟨k,c,e,f c _ z⟩
 ·obtain⟨v,z⟩:=I.cell x c e;exact⟨v,f c v z⟩
 ·obtain⟨e,n,ne,G,d⟩:=I.pin p F;exact⟨kp _ _ e (fun z=>(h _ z).2.2.2.2 p F rfl) (C _ ne G),n,ne,G,d⟩
 ·refine(I.hok b u e).stay (fun c v q r=>kp c v r (fun z=>?_) fun z=>?_) (fun _ r=>r) fun _ _ r=>r
  ·have g:=(h c z).1
   rcases q with y|y
   ·rw[y,e]at g;cases g
   ·rw[y]at g;cases g
  ·have g:=I.tO c z
   rcases q with y|y
   ·rw[y,e]at g;cases g
   ·rw[y]at g;cases g
theorem Inv.m9 (I:Inv X Do σ H s)(f:W7 X Do H T)(new:yp X.prog X.w (upd H T o) s.heap T o):Inv X Do σ (upd H T o) s:=by
 obtain⟨n,g,h,i,j⟩:=f;refine⟨I.ok,I.os,I.bare,I.base.nR g n,I.loc,I.cell,?_,fun x c e=>?_,fun p b=>?_,I.hok.adopt n new,I.len⟩
 ·rw[zH<|EB h];exact I.free
 ·rw[zH<|i x c e];exact I.wM x c e
 ·obtain⟨e,l,ne,q,d⟩:=I.pin p b;exact⟨e,by rw[zH<|j p b];exact l,ne,q,d⟩
theorem Inv.forgot (I:Inv X Do σ H s){m:Str->Dc}(hn:h'.Ns X.env.locals m)(f:EJ X.env.locals s.heap h')(D:Nat):Inv X Do (Lw X.N.length none) H { s with heap:=h',toks:=D }:=by
 have q:∀b o,X.s₀.heap.get? b=some o->b≠X.env.locals:=fun b o e=>Zz<|ZJ (Zq e) I.ok.above;refine⟨I.ok,I.os,I.bare,⟨fun b o e n hb g=>(f.2 b<|q b o e).trans<|I.base.keep b o e n hb g,fun b o e n hb g=>?_,I.base.free,fun b o e g=>?_,I.base.tups,I.base.vy,I.base.ut⟩,⟨m,hn,fun i x v _ l _=>?_⟩,fun x c e=>?_,I.free,I.wM,fun p w=>?_,fun b u e=>?_,by simp⟩
 ·obtain⟨C,j⟩:=I.base.slot b o e n hb g;exact⟨C,(f.2 b<|q b o e).trans j⟩
 ·obtain⟨B,j⟩:=I.base.there b o e g;exact⟨B,(f.2 b<|q b o e).trans j⟩
 ·rw[List.getElem?_replicate]at l
  split at l<;>cases l
 ·obtain⟨v,z⟩:=I.cell x c e;exact⟨v,z.sameBut f<|I.mR x c e⟩
 ·obtain⟨e,n,ne,A,d⟩:=I.pin p w;exact⟨(f.2 p.1 ne).trans e,n,ne,A,d⟩
 ·refine(I.hok b u e).stay (fun c v t r=>(f.2 c fun z=>?_).trans r) (fun _ r=>r) fun _ _ r=>r;have h:=I.free;rw[←z]at h
  rcases t with y|y
  ·rw[y,e]at h;cases h
  ·rw[y]at h;cases h
def Cx.oA (X:Cx)(Do:De)(R:St->Hp->Ee->Prop):Cx :=
 { X with pn:=X.pn++Do,xe:=fun e b=>∃a T cls σ H,e=.ref a/\Inv X Do σ H b/\W7 X Do H a/\W7 X Do H T/\ExcAt b.heap a T cls/\R σ H cls }
theorem Inv.into (I:Inv X Do σ H s)(R:St->Hp->Ee->Prop):Inv (X.oA Do R) [] σ H s :=
 ⟨⟨I.ok.mod,I.ok.kind,I.ok.glob,I.ok.blt,I.ok.above,I.ok.inj,I.ok.has,I.ok.cab,I.ok.hd,I.ok.frames,I.ok.stk,I.ok.mH,I.ok.bs,I.ok.oK,I.ok.qi,I.ok.pU,I.ok.uc,I.ok.nF⟩,I.os,I.bare,I.base,I.loc,I.cell,I.free,I.wM,fun p b=>I.pin p (by
  have b:p∈(X.pn++Do)++[]:=b;simpa using b),I.hok,I.len⟩
theorem Inv.sE (I:Inv (X.oA Do R) D0 σ H s):Inv X Do σ H s :=
 ⟨⟨I.ok.mod,I.ok.kind,I.ok.glob,I.ok.blt,I.ok.above,I.ok.inj,I.ok.has,I.ok.cab,I.ok.hd,I.ok.frames,I.ok.stk,I.ok.mH,I.ok.bs,I.ok.oK,I.ok.qi,I.ok.pU,I.ok.uc,I.ok.nF⟩,I.os,I.bare,I.base,I.loc,I.cell,I.free,I.wM,fun p b=>I.pin p<|ZX _ b,I.hok,I.len⟩
theorem SP.sE (h:SP (X.oA Do R) D0 D f s'):SP X Do D f s':=by
 cases f with
 |next=>obtain⟨b,c,I,q⟩:=h;exact⟨b,c,I.sE,q⟩
 |brk=>obtain⟨b,c,I,q⟩:=h;exact⟨b,c,I.sE,q⟩
 |cont=>obtain⟨b,c,I,q⟩:=h;exact⟨b,c,I.sE,q⟩
 |ret u=>obtain⟨v,b,c,I,r,q⟩:=h;exact⟨v,b,c,I.sE,r,q⟩
theorem Kk (c:X.ex=[]):Raises (X.oA Do R) R:=by
 intro D0 σ H s e o I j;obtain⟨a,T,cls,f,rfl,os,bare,un,hok,n,l,ha,i,h,q⟩:=j;have d:Inv X Do σ H s:=I.sE;have g:Inv X Do σ f o:=d.call' (ch:=[]) os un hok bare fun b z=>absurd z (by simp);exact⟨a,T,cls,σ,f,rfl,g,d.lY c n ha,d.lY c l i,h,q⟩
def Cx.p8 (X:Cx)(e:Ee):Cx:={ X with A:=X.A.mark<|some e,calm:=false,xe:=fun _ _=>False }
theorem Inv.mark (I:Inv X Do σ H s)(e:Ee):Inv (X.p8 e) Do σ H s :=
 ⟨⟨I.ok.mod,I.ok.kind,I.ok.glob,I.ok.blt,I.ok.above,I.ok.inj,I.ok.has,I.ok.cab,fun z=>(by cases z),I.ok.frames,I.ok.stk,I.ok.mH,I.ok.bs,I.ok.oK,I.ok.qi,I.ok.pU,I.ok.uc,I.ok.nF⟩,I.os,I.bare,I.base,I.loc,I.cell,I.free,I.wM,I.pin,I.hok,I.len⟩
theorem Inv.unmark {e:Ee}(ok:X.Ok)(I:Inv (X.p8 e) Do σ H s):Inv X Do σ H s :=
 ⟨ok,I.os,I.bare,I.base,I.loc,I.cell,I.free,I.wM,I.pin,I.hok,I.len⟩
end
def X0 (a:Ef)(cls:Ee):HO:=.ext fun h=>∃o b,h.get? a=some o/\o.cls=cls/\o.data=.fields b/\ctx0 b
def br (K:Cd)(C:Ef)(i:Nat)(d:(St->Hp->Ee->Prop)->TS)(th:Ef->TS):TS:=fun D e H=>∃R:St->Hp->Ee->Prop,d R D e H /\
 ∀b c cls a,R b c cls->c a=none->PySem.W.exmOne K cls (.ref C)=some true/\th a { nx:=fun _ _=>False,rt:=D.rt } (b.set i (some<|.ref a)) (upd c a<|X0 a cls)
section
variable {X:Cx}
theorem S4 {body g:List EQ}{l:EQ}{c n:Str}{C:Ef}{i:Nat}{np G pos:Pos}{tb:(St->Hp->Ee->Prop)->TS}{th:Ef->TS}(J:X.stack=X.env::X.outer)(ap:X.env.frame=some X.env.locals)(a7:X.ex=[])
  (hb:∀Do R,sX (X.oA Do R) body<|tb R) (hg:Gl X c) (hm:X.mg c=some (.ref C)) (hN:X.N.Nodup) (hi:X.N[i]?=some n) (hl:X.env.scope.names.lookup n=some .local) (hs:∀z:Ef,sX (X.p8<|.ref z) (l::g)<|th z)
  (hd:(c==("__debug__":Str))=false:=by decide):PS X (.Try body [.ExceptHandler (some<|.Name c np) (some n) (l::g) G] [] [] pos) (br X.K C i tb th):=by
 intro Do s σ H D I h;obtain⟨R,an,hh⟩:=h;refine wpAny_Try_except<|Yu (hb Do R [] s σ H D (I.into R) an) (fun f d q=>?_) fun e d q=>?_
 ·have U:SP X Do D f d:=q.sE;cases f with
  |next=>exact VX U
  |brk=>exact U
  |cont=>exact U
  |ret u=>exact U
 ·obtain⟨a,T,cls,j,x,rfl,y,fa,fT,⟨oe,vs,oT,ts,e1,e2,e3,e4,e5,e6,e7,e8⟩,r1⟩:=q;obtain⟨hx,a0⟩:=hh j x cls a r1 fa.1;have hA:X.A.frames=some (X.env::X.outer):=by rw[y.ok.frames,J]
  have E:∀b∈[a,T],W7 X Do x b:=fun b z=>by
   rcases Zi.mp z with z|z
   ·rwa[z]
   ·rwa[Q9.mp z]
  have ab:d.heap.FunFrames (UP d.heap [a,T] X.stack) (X.env::X.outer):=by have z:=kG (as:=[a,T]) y.stack;rw[J]at z ⊢;exact z
  have al:Ph ctx0 d.heap (UP d.heap [a,T] X.stack) a cls .none:=⟨oe,vs,T,oT,ts,e1,e2,e3,e4,J1 _<|by simp,e5,e6,e7,e8⟩;refine NS Xu hA ab ap al jZ (J1 _<|by simp) fun h2 Q g2 t M=>?_;refine jA (s:={ d with heap:=h2 }) Q g2 t fun S P Z p O=>?_;have I3:Inv X Do j x { d with heap:=S }:=y.land E P (M.trans O) d.toks;refine wpAny_handleBy_cons (codeAny_handlers_test ?_) (by intro z;cases z);refine uY (X:=X.p8<|.ref a) (I3.mark _) hg hm ?_ hd;obtain⟨ob,_,_,_,_,ay,⟨F,_⟩,_⟩:=id p;have LT:PySem.W.Looks (Em X.prog X.w) S (typeOf<|.ref a) cls:=F▸(PySem.W.Looks.ld ay).andThen .now;refine(PySem.W.exm_one (K:=X.K) (h:=S) I3.uq LT hx).here ?_;refine codeAny_handlers_suite_as<|jA (s:={ d with heap:=S }) P Z p fun h4 a3 a6 B a2=>?_;have I4:Inv X Do j x { d with heap:=h4 }:=y.land E a3 ((M.trans O).trans a2) d.toks;have new:yp X.prog X.w (upd x a<|X0 a cls) h4 a (X0 a cls):=by
   obtain⟨L,a4,_,_,_,Q,⟨g2,gc⟩,g3,_⟩:=B;exact⟨⟨L,a4,Q,g2,g3,gc⟩,⟨L,Q⟩,fun u1 u2 ⟨o,v,z1,z2,z3⟩ k=>⟨o,v,k o z1,z2,z3⟩⟩
  have I5:Inv X Do j (upd x a<|X0 a cls) { d with heap:=h4 }:=I4.m9 fa new;refine vZ (X:=X.p8<|.ref a) (v:=.ref a) (I5.mark _) hN hi (EE hl) rfl (fun s6 I6=>?_)<|Or.inr hl;refine Yu (hs a Do s6 _ _ _ I6 a0) (fun f s7 Y=>?_) fun _ _ z=>z.elim;cases f with
  |ret u =>
   obtain⟨v,a5,H7,I7,rv,q⟩:=Y;have r:Inv X Do a5 H7 s7:=I7.unmark y.ok;obtain⟨m,hn,_⟩:=r.loc;refine wpAny_nameGoes hl hn (by rw[r.ok.kind];rfl) fun h8 m8 ax a1=>?_;exact⟨v,_,H7,r.forgot ax a1 _,rv,q⟩
  |next=>obtain⟨_,_,_,z⟩:=Y;exact z.elim
  |brk=>obtain⟨_,_,_,z⟩:=Y;exact z.elim
  |cont=>obtain⟨_,_,_,z⟩:=Y;exact z.elim
end
section
variable {P:Eg}{w:Ek}{K:Cd}{mg:Str->Dc}{base:Ev}
theorem wY.pY {st:EQ}{k:Nat}{sp:Sp}(F:wY K x qual st f fd)(S:zx N ps<|zG st)
  (d:∀(cdv:Ee) (A:ED) (outer:List Env) (s:Ei) (H:Hp) (vs:Dj) (Q:VK) (E:XK),wX k (A.deeper<|envOfC qual (zG st) s.heap.objs.size f cdv)->sp vs H Q E -> ∃t,sX (DE (CH P w) P w K mg base N qual (zG st) f cdv A outer s H E) (xP st) t/\t { nx:=fun _ H'=>Q .non H',rt:=Q } (start N vs) H)(len:∀vs H Q E,sp vs H Q E->vs.length=ps.length:=by intro _ _ _ _ h;first|(cases h;subst_vars;rfl)|repeat first|(obtain⟨rfl,_⟩:=h;rfl)|obtain⟨_,h⟩:=h):yx P w K mg base (CH P w) (k+1) f fd ps sp:=by
 obtain⟨n,o,kV,e,pm,l,cdv,ct,j,rfl,i,b⟩:=F.ex;refine TC i b S len fun A outer s H vs Q E g c=>?_;obtain⟨t,h,q⟩:=d cdv A outer s H vs Q E g c;exact⟨t,h,q⟩
end
section
variable {X:Cx}{a:EI}{ta:TE}{K:Cd}
def cE (K:Cd)(ta:TE):TT:=fun c H Q=>ta c H fun x b=>∃k,T9 K x b k/\Q k b
theorem zS (ha:PE X a ta)(c:∀whole,isTrue a X.env whole=(do let v ←whole;standAt a.pos;MD [v] (truthy v)):=by intro _;rfl)(b:X.K=K:=by rfl):PT X a (cE K ta):=by
 subst b;exact RF ha c
def b8 (K:Cd):Dj->Hp->VK->Prop:=fun c H Q=>∃y T t b,c=[y,.ty T]/\tL K H y t/\ER K t (.type T)=some b/\Q (.bl b) H
theorem xT (b:X.K=K:=by rfl):xj X (.builtin "isinstance") (b8 K):=by
 subst b;exact FZ
end
end L2
namespace An
open PySem L2
abbrev cs (x:Str):List Nat:=x.cps.toList
theorem xq (h:cs x=cs y):x=y:=by
 obtain⟨a⟩:=x;obtain⟨b⟩:=y;have:a=b:=by simpa using h
 rw[this]
theorem zr (x y:Str):cs (x++y)=cs x++cs y:=by
 show(x.cps++y.cps).toList=_;simp
theorem zj (x:Str):x.length=(cs x).length:=by simp[Str.length]
theorem yh (x y:Str):(x++y).length=x.length+y.length:=by rw[zj,zj,zj,zr,Zh]
theorem uX:∀xs:Da,cs (MB "" xs)=xs.flatMap cs
 |[]=>rfl
 |[x]=>by show cs x=_;simp
 |x::y::r=>by
  show cs (x++""++MB "" (y::r))=_;have:cs ("":Str)=[]:=by decide +kernel
  rw[zr,zr,uX (y::r),this,ZG];simp
theorem jY:∀(a b:Da),EO (a.map .str) (b.map .str)=decide (a=b)
 |[],[]=>rfl
 |[],_::_=>rfl
 |_::_,[]=>rfl
 |x::a,y::b=>by
  show((x==y)&&EO (a.map .str) (b.map .str))=_;rw[jY a b,Yi];simp
structure Ok (n:Nat)(x:Str):Prop where
 len:x.length<=n
 ok:El x=true
theorem yU (x:Str):El x=true↔∀c∈cs x,c<1114112:=by
 unfold El;rw[←Array.all_toList,ZU];simp
theorem v5:∀ls:Da,(∀p∈ls,El p=true)->Er (ls.map .str)=true/\EA (ls.map .str)=0
 |[],_=>⟨rfl,rfl⟩
 |x::ls,h=>by
  obtain⟨b,c⟩:=v5 ls fun p d=>h p<|Zb _ d;refine⟨?_,?_⟩
  ·show(El x&&Er (ls.map .str))=true;rw[h x Ze,b];rfl
  ·show max 0 (EA<|ls.map .str)=0;rw[c];rfl
theorem kI {ls:Da}(h:∀p∈ls,El p=true):EK (.list<|ls.map .str)=true/\EK (.tuple<|ls.map .str)=true:=by
 obtain⟨b,c⟩:=v5 ls h;refine⟨?_,?_⟩
 ·show(Er (ls.map .str)&&decide (EA (ls.map .str)+1<=64))=true;rw[b,c];rfl
 ·show(Er (ls.map .str)&&decide (EA (ls.map .str)+1<=64))=true;rw[b,c];rfl
theorem zE {H:Hp}{l:Ef}(h:H l=none):zz H (upd H l o):=fun b u e=>by rwa[zH<|zR e h]
theorem zz.rZ {l:Ef}(e:zz H H2)(n:H l=none):zz H (upd H2 l o):=fun b u q=>by rw[zH<|zR q n];exact e b u q
theorem zm {n:Nat}(h:n<=16777216):n<=sizeLine:=by rwa[Ys]
theorem yN {n:Nat}(h:n<16777216):n<sizeLine:=by rwa[Ys]
theorem FX {α:Type}(x:α)(r:List α):KO (x::r) 0=some x:=yY (j:=0) rfl
theorem Uq (n:Nat)(h:n<=16777216:=by decide):n<=sizeLine:=zm h
theorem PR {c A B:Prop} [Decidable c](hc:¬c)(h:B):if decide c=true then A else B:=by
 rw[Zo hc];exact Ur h
theorem Ng {n:Nat}:∀(ys:Da),(∀y∈ys,y.length<=n)->(ys.map (·.length)).sum<=ys.length*n
 |[],_=>by simp
 |y::ys,h=>by
  have c:=Ng ys fun z b=>h z<|Zb _ b;have d:=h y Ze;rw[Zu,Yl,Zr,Nat.succ_mul];lia
theorem j7 {α:Type}{p:α->Prop}{l:List α}{x:α}(h:∀y∈l,p y)(c:p x):∀y∈l++[x],p y:=fun y b=>by
 rcases ZD.mp b with z|z
 ·exact h y z
 ·rwa[Q9.mp z]
theorem at_of {α:Type}{xs:List α}{i:Int}(c:0<=i)(d:i<xs.length):∃x,xs[i.toNat]?=some x/\KO xs i=some x:=by
 obtain⟨j,rfl⟩:=YU c;have b:j<xs.length:=by lia
 exact⟨xs[j],by simp[b],yY<|by simp[b]⟩
theorem KP {α:Type}{f:α->V}{xs:List α}{i:Int}(c:0<=i)(d:i<xs.length):∃x,xs[i.toNat]?=some x/\KO (xs.map f) i=some (f x):=by
 obtain⟨j,rfl⟩:=YU c;have b:j<xs.length:=by lia
 refine⟨xs[j],by simp[b],yY ?_⟩;rw[Zk,Zj b];rfl
theorem Wc {i:Int}(b:0<=i):UT xs none (some i)=xs.take i.toNat:=by
 obtain⟨j,rfl⟩:=YU b;unfold UT;rw[HT.pP,HT.oZ,V8];show xs.take (min j xs.length-0)=xs.take j
 by_cases h:j<=xs.length
 ·rw[Nat.min_eq_left h];rfl
 ·rw[Nat.min_eq_right<|by lia,Nat.sub_zero,ZH,Y1<|by lia]
theorem Ps {i:Int}(b:0<=i):UT xs (some i) none=xs.drop i.toNat:=by
 obtain⟨j,rfl⟩:=YU b;unfold UT;rw[HT.pP,HT.oZ];show(xs.drop<|min j xs.length).take (xs.length-min j xs.length)=xs.drop j
 by_cases h:j<=xs.length
 ·rw[Nat.min_eq_left h];exact Y1 (by rw[Yv];lia)
 ·rw[Nat.min_eq_right<|by lia,List.drop_eq_nil_of_le<|Zf _,List.drop_eq_nil_of_le<|by lia];simp
theorem UQ {A B:Prop}(h:B):if(!true)=true then A else B:=by
 show if false=true then A else B;exact Ur h
theorem PU {A B:Prop}(h:A):if(!false)=true then A else B:=by
 show if true=true then A else B;exact Uo h
def one (c:Nat):Str:=⟨#[c]⟩
theorem F6:∀l:List Nat,cs (Lp ""<|l.map one)=l:=by
 intro l;have b:Lp "" (l.map one)=MB "" (l.map one):=Lf _ _;rw[b,uX,List.flatMap_map]
 induction l with
 |nil=>rfl
 |cons c l ih =>
  rw[YF];show[c]++_=_;rw[ih<|Lf _ _];rfl
theorem Kx:∀l:List Nat,((l.map one).map (·.length)).sum=l.length
 |[]=>rfl
 |c::l=>by
  rw[Zu,Zu,Yl,Kx l,Zr];show 1+l.length=_;lia
end An
namespace L2
open PySem PySem.Spec PyProof.Rows
end L2
namespace AxT
open PySem PySem.Spec PyProof.Rows PySem.SeqAt
open AutoSeq1 (wpAny_loadPart')
end AxT
namespace L2
open PySem PySem.Spec PyProof.Rows
end L2
namespace AxR
open PySem PySem.Spec PyProof.Rows
open AutoSeq1 (wpAny_loadPart')
end AxR
namespace L2
open PySem PySem.Spec PyProof.Rows
section
variable {X:Cx}{K:Cd}
def b9:R2:=fun x y H Q=>∃i j:Str,x=.str i/\y=.str j/\Q (.bl<|!decide (j.cps.toList<i.cps.toList)) H
theorem Fx:CD X (ES .LtE) b9:=by
 intro d s f H x y v u Q I b c h;obtain⟨i,j,rfl,rfl,q⟩:=h;obtain⟨t,rfl⟩:=b;obtain⟨e,rfl⟩:=c;exact P.le_str ⟨.bl _,H,I,rfl,q⟩
theorem FR:∀{bs:List Bool} {us:Db},yr (bs.map V.bl) us->us=bs.map L6
 |[],us,h=>by cases h;rfl
 |b::bs,us,h=>by
  cases h with
  |cons r1 r2=>rw[FR r2];cases r1;rfl
def bZ (K:Cd):Dj->Hp->VK->Prop:=fun b H Q=>∃(a:Ef) (bs:List Bool),b=[.ref a]/\yu K H a (bs.map V.bl)/\Q (.bl<|bs.all id) H
theorem j6 (o:X.calm=true)(n:X.K=K:=by rfl):xj X (.builtin "all") (bZ K):=by
 subst n;intro x s J H G F Q I r h;obtain⟨a,bs,rfl,ha,q⟩:=h;obtain⟨u,rfl,t⟩:=wW r;cases t;obtain⟨c,w,p,C⟩:=I.list ha;have g:=FR w;have hl:=p.isList;have f:a<s.heap.objs.size:=by obtain⟨_,e,_⟩:=hl;exact Zq e
 refine call_all_walk<|JX hl ?_;refine⟨s.heap.objs.size,[s.heap.objs.size,a],[s.heap.objs.size],c.toArray.size,_,_,fun i=>(bs[i]?).getD true,rfl,Walks.list (A:=X.A.in1) (I.ok.hd o) _ a (Zz f) c.toArray,⟨⟨_,Zp _ rfl,rfl,rfl⟩,hl.push _⟩,fun i v D z y d j=>?_,fun B E hk=>?_⟩
 ·have d:c[i]?=some v:=by simpa using d
  rw[g,Zk]at d;cases e:bs[i]? with
  |none=>rw[e]at d;cases d
  |some b =>
   rw[e]at d;have d:L6 b=v:=Option.some.inj d;subst d;simp only[e,VO]at j;exact YX j
 ·have l:c.length=bs.length:=by rw[g,Q8]
  have e:((EC c.toArray.size).all fun i=>(bs[i]?).getD true)=bs.all id:=by
   rw[Zy,l];exact PyProof.Rows.LSm.range_all bs
  rw[e];exact⟨.bl _,H,I.kept<|PyProof.Rows.LSm.kept_iter hk,rfl,q⟩
end
mutual
def Dw (K:Cd)(H:Hp):Ej->V->Prop
 | .none,v=>v=.non
 | .bool b,v=>v=.bl b
 | .int i,v=>v=.int i
 | .str x,v=>v=.str x
 | .list ds,v=>∃a c,v=.ref a/\yu K H a c/\xf K H ds c
 | .tuple ds,v=>∃a c,v=.ref a/\xu K H a c/\xf K H ds c
 | .dict _,v=>∃a d,v=.ref a/\H a=some (.dK d)
def xf (K:Cd)(H:Hp):Df->Dj->Prop
 |[],xs=>xs=[]
 |d::ds,xs=>∃x r,xs=x::r/\Dw K H d x/\xf K H ds r
end
mutual
theorem Dw.same {K:Cd}(e:zz H H'):∀(d:Ej) (v:V),Dw K H d v->Dw K H' d v
 | .none,_,h=>h
 | .bool _,_,h=>h
 | .int _,_,h=>h
 | .str _,_,h=>h
 | .list ds,_,⟨a,xs,h1,h2,h3⟩=>⟨a,xs,h1,e.seq h2,xf.same e ds xs h3⟩
 | .tuple ds,_,⟨a,xs,h1,h2,h3⟩=>⟨a,xs,h1,e.yo h2,xf.same e ds xs h3⟩
 | .dict _,_,⟨a,Dm,h1,h2⟩=>⟨a,Dm,h1,e _ _ h2⟩
theorem xf.same {K:Cd}(e:zz H H'):∀(ds:Df) (xs:Dj),xf K H ds xs->xf K H' ds xs
 |[],_,h=>h
 |d::ds,_,⟨x,r,h1,h2,h3⟩=>⟨x,r,h1,Dw.same e d x h2,xf.same e ds r h3⟩
end
mutual
theorem Dt.dw {K:Cd}:∀{d:Ej} {v:V},Dt K H d v->Dw K H d v
 | .none,_,h=>h
 | .bool _,_,h=>h
 | .int _,_,h=>h
 | .str _,_,h=>h
 | .list ds,_,⟨a,xs,h1,h2,h3⟩=>⟨a,xs,h1,h2,zy.dw h3⟩
 | .tuple ds,_,⟨a,xs,h1,h2,h3⟩=>⟨a,xs,h1,h2,zy.dw h3⟩
 | .dict _,_,h=>h.elim
theorem zy.dw {K:Cd}:∀{ds:Df} {xs:Dj},zy K H ds xs->xf K H ds xs
 |[],_,h=>h
 |d::ds,_,⟨x,r,h1,h2,h3⟩=>⟨x,r,h1,Dt.dw h2,zy.dw h3⟩
end
theorem xf.length {K:Cd}:∀{ds:Df} {xs:Dj},xf K H ds xs->xs.length=ds.length
 |[],_,h=>by rw[show _=[] from h];rfl
 |d::ds,_,⟨x,r,h1,h2,h3⟩=>by rw[h1,Zr,Zr,xf.length h3]
theorem xf.get {K:Cd}:∀{ds:Df} {xs:Dj} {i:Nat} {x:V},xf K H ds xs->xs[i]?=some x->∃d,ds[i]?=some d/\Dw K H d x
 |[],_,i,x,h,e=>by rw[show _=[] from h]at e;cases e
 |d::ds,_,0,x,⟨x',r,h1,h2,h3⟩,e=>by
  rw[h1]at e;cases e;exact⟨d,rfl,h2⟩
 |d::ds,_,i+1,x,⟨x',r,h1,h2,h3⟩,e=>by
  rw[h1]at e;obtain⟨b,c,f⟩:=xf.get (i:=i) h3 (by simpa using e);exact⟨b,by simpa using c,f⟩
theorem xf.at {K:Cd}{i:Nat}{d:Ej}(h:xf K H ds xs)(e:ds[i]?=some d):∃x,xs[i]?=some x/\Dw K H d x:=by
 have c:i<xs.length:=by rw[h.length];exact(Zw.mp e).1
 obtain⟨f,b,q⟩:=h.get<|Zj c;rw[e]at b;cases b;exact⟨_,Zj c,q⟩
def UR:Ej->String
 | .none=>"NoneType"
 | .bool _=>"bool"
 | .int _=>"int"
 | .str _=>"str"
 | .list _=>"list"
 | .tuple _=>"tuple"
 | .dict _=>"dict"
section
variable {X:Cx}{Do:De}{σ:St}{H:Hp}{s:Ei}{A:ED}{E:Ee->Dh}{Q:Ee->Dh}{c:Ee}{b:Bool}{K:Cd}
theorem ON (I:Inv X Do σ H s)(f:yt x u)(hd:Dw X.K H d x)(e:ER X.K (.type<|UR d) c=some b)(h:∀tk,Q (.bool b) { s with toks:=tk }) :
  Eh (Em X.prog X.w) A (call (.builtin "isinstance") [u,c]) Q E s:=by
 cases d with
 |none=>cases(show x=_ from hd);exact q8 I f .non e h
 |bool y=>cases(show x=_ from hd);exact q8 I f (.bl y) e h
 |int i=>cases(show x=_ from hd);exact q8 I f (.int i) e h
 |str y=>cases(show x=_ from hd);exact q8 I f (.str y) e h
 |dict Dm=>obtain⟨a,v,rfl,r⟩:=hd;exact q8 I f (.dK r) e h
 |list ds =>
  obtain⟨a,t,rfl,l,_⟩:=hd;cases(show u=Et a from f);obtain⟨q,_,⟨o,n,g,j,_⟩,_⟩:=I.list l;exact Yn Uc I.uq ⟨o,g,j⟩ e (fun z=>nomatch z) h
 |tuple ds =>
  obtain⟨a,t,rfl,l,_⟩:=hd;cases(show u=Et a from f);obtain⟨q,_,p,_⟩:=I.tuple l;obtain⟨o,g,j,_⟩:=p;exact Yn PySem.W.kitx_tuple I.uq ⟨o,g,j⟩ e (fun z=>nomatch z) h
def aS (K:Cd):Dj->Hp->VK->Prop:=fun c H Q=>∃y T d b,c=[y,.ty T]/\Dw K H d y/\ER K (.type<|UR d) (.type T)=some b/\Q (.bl b) H
theorem z8 (e:X.K=K:=by rfl):xj X (.builtin "isinstance") (aS K):=by
 subst e;intro Do s σ H n l Q I r h;obtain⟨y,T,d,b,rfl,hd,f,q⟩:=h;obtain⟨u,i,rfl,g,c⟩:=vals2 r;cases(show i=Value.type T from c);exact ON I g hd f fun j=>⟨.bl b,H,I.tok _,rfl,q⟩
end
section
variable {src:List (Option Nat)}{g:TG}{te:TE}{Q:VK}{σ:St}{H:Hp}
theorem Bu {x:Str}(b:Nat->Dj->St->Hp->Prop)(f:b 0 [] (UC src σ) H)(hz:x.length<=sizeLine)(hl:∀i ys σ H,i<=x.length->b i ys σ H->ys.length<=i)
  (hs:∀i c ys σ H,x.cps[i]?=some c->b i ys σ H->g (.str ⟨#[c]⟩) σ H fun σ2 H3=>te σ2 H3 fun y H5=>b (i+1) (ys++[y]) σ2 H5)
  (hd:∀ys σ H,b x.length ys σ H->∀p,H p=none->Q (.ref p) (upd H p<|.lst ys)):U9 src (ak x) g B3 te Q σ H :=
 CZ x.length b f hz hl (fun _ _ _ _=>rfl) (fun _ _ _ _ d _=>d)
  (fun i ys σ H d p l j y=>by
   obtain⟨e,c,h,rfl⟩:=y;subst e;rw[Fu];exact hs i c ys σ _ h p) hd
end
end L2
namespace L2
open PySem PySem.Spec PyProof.Rows
section
variable {X:Cx}{K:Cd}{a b c d:EI}{ta tb tc td:TE}{pos:Pos}
def aR (K:Cd)(tup c:Bool):R2:=fun x y H Q=>∃(d:Ej) (b:Df),Dt K H d x/\Dt K H (if tup then .tuple b else .list b) y/\Er b=true/\d.canLay0=true/\d.depth<=60/\Q (.bl<|c !=b.any fun y=>Ey y d) H
theorem Rr (w:X.A.units+64<Lb)(g:X.K=K:=by rfl):CD X (ES .In) (aR K false false):=by
 subst g;intro p s z H x y v u Q I l n h;obtain⟨d,o,b,c,e,f,t,q⟩:=h;obtain⟨r,i⟩:=Dt.zf I d x v b l;obtain⟨bs,j⟩:=Dt.zf I _ y u c n;have hm:min (EA o) d.depth<=d.depth:=Um _ _;exact SeqAt.in_list_reads j i e f (by lia) ⟨.bl _,H,I,rfl,by simpa using q⟩
end
section
variable {X:Cx}{Do:De}{σ:St}{H:Hp}{s:Ei}
theorem G4 (p:X.stack=X.env::X.outer)(N:X.env.frame=some X.env.locals)(B:X.ex=[])(I:Inv X Do σ H s){a T:Ef}{cls:Ee}(na:X.s₀.heap.get? a=none)(nT:X.s₀.heap.get? T=none)(ha:H a=none)(hT:H T=none)(ea:ExcAt s.heap a T cls){E:XK}(q:E cls none H)
  {Ex:Ee->Dh}:Eh (Em X.prog X.w) X.A (leaving X.env<|.ref a) (fun _ s''=>CH X.prog X.w X.outer X.H₀ X.s₀ E (.ref a) s'') Ex s:=by
 have fr:=kG (as:=[a,T]) I.stack;have hA:X.A.frames=some (X.env::X.outer):=by rw[I.ok.frames,p]
 have C:∀b,b=a\/b=T->(UP s.heap [a,T] X.stack).get? b=none:=fun b hb=>by
  cases D:(UP s.heap [a,T] X.stack).get? b with
  |none=>rfl
  |some o =>
   exfalso;have z:=J1 ([a,T]++frs X.stack) (h:=s.heap) (b:=b) (ZX _<|by simpa using hb);rw[z]at D;cases D
 obtain⟨oe,vs,oT,ts,t1,t2,t3,t4,t6,t7,t8,t9⟩:=ea;have tw:Ph ctx0 s.heap (UP s.heap [a,T] X.stack) a cls .none:=⟨oe,vs,T,oT,ts,t1,t2,t3,t4,C T<|.inr rfl,t6,t7,t8,t9⟩;refine MK (base:=UP s.heap [a,T] X.stack) Xu hA (by rwa[←p]) N tw jZ (C a<|.inl rfl) fun M k1 k2 L k4=>?_;obtain⟨Y,al,f,R,ab,u1,u2,u3,u4,u5,u6,u7,u8,u9⟩:=L;have stk:∀b∈frs X.stack,H b=none:=I.tO;have kp:∀b o,s.heap.get? b=some o->b≠a->b≠T->b∉frs X.stack->M.get? b=some o:=fun b o e h3 h4 hb=>k1 b o (Jk _ e (by
  intro z
  rcases ZD.mp z with z|z
  ·have z:b=a\/b=T:=by simpa using z
   exact z.elim h3 h4
  ·exact hb z))
 have J:∀b o,s.heap.get? b=some o->b∈frs X.stack->∃J,M.get? b=some { o with slots:=J }:=fun b o e hb=>by
  obtain⟨_,Q,g,hd⟩:=I.stack.mem hb;rw[e]at g;cases g;exact k4 b o e hd
 have nL:∀b o,X.s₀.heap.get? b=some o->b≠X.env.locals:=fun b o e=>Zz<|ZJ (Zq e) I.ok.above;have j:∀b,b∉X.ex:=fun b=>by rw[B];simp
 have P:∀b o,X.s₀.heap.get? b=some o->b≠a:=fun b o e z=>by rw[z,na]at e;cases e
 have t:∀b o,X.s₀.heap.get? b=some o->b≠T:=fun b o e z=>by rw[z,nT]at e;cases e
 have F:f=T\/s.heap.get? f=none:=by
  by_cases D:f=T
  ·exact .inl D
  ·refine .inr ?_;cases qT:s.heap.get? f with
   |none=>rfl
   |some o =>
    exfalso
    by_cases hf:f∈frs X.stack
    ·have O:M.FunFrames (UP s.heap [a,T] X.stack) X.stack:=by have z:=k2;rw[←p]at z;exact z
     obtain⟨_,Q,g,hd⟩:=O.mem hf;rw[u7]at g;cases g;exact hd _ u8
    ·have z:(UP s.heap [a,T] X.stack).get? f=some o:=Jk _ qT (by
      intro z
      rcases ZD.mp z with z|z
      ·have z:f=a\/f=T:=by simpa using z
       exact z.elim u6 D
      ·exact hf z)
     rw[u5]at z;cases z
 have S:X.s₀.heap.get? f=none:=F.elim (fun z=>by rwa[z]) fun z=>I.wu B z;have U:H f=none:=F.elim (fun z=>by rwa[z]) fun z=>I.none_of z;refine⟨a,f,cls,H,rfl,I.os,I.bare,⟨fun b o d n hb _=>?_,fun b o d n hb _=>?_,fun b o d n _=>I.base.free b o d n<|j b,fun b o d _=>?_,I.base.tups,I.base.vy,I.base.ut⟩,fun b u d=>?_,na,S,ha,U,⟨Y,al,R,ab,u1,u2,u3,u4,u6,u7,u8,u9⟩,q⟩
 ·refine kp b o (I.base.keep b o d n hb<|j b) (P b o d) (t b o d) fun z=>?_
  rcases Zi.mp (I.tD b z) with r|r
  ·exact nL b o d r
  ·exact hb r
 ·obtain⟨Z,x⟩:=I.base.slot b o d n hb<|j b
  by_cases i:b∈frs X.stack
  ·obtain⟨G,K⟩:=J b _ x i;exact⟨G,K⟩
  ·exact⟨Z,kp b _ x (P b o d) (t b o d) i⟩
 ·obtain⟨Q,x⟩:=I.base.there b o d<|j b
  by_cases i:b∈frs X.stack
  ·obtain⟨G,K⟩:=J b _ x i;exact⟨_,K⟩
  ·exact⟨Q,kp b _ x (P b o d) (t b o d) i⟩
 ·have off:∀c,(c=b\/H c=some (.own b))->H c≠none:=fun c l z=>by
   rcases l with y|y
   ·rw[y,d]at z;cases z
   ·rw[y]at z;cases z
  refine(I.hok b u d).stay (fun c v l r=>kp c v r (fun z=>?_) (fun z=>?_) fun z=>?_) (fun _ r=>r) fun _ _ r=>r
  ·rw[z]at l
   rcases l with y|y
   ·rw[←y,ha]at d;cases d
   ·rw[ha]at y;cases y
  ·rw[z]at l
   rcases l with y|y
   ·rw[←y,hT]at d;cases d
   ·rw[hT]at y;cases y
  ·have i:=stk c z
   rcases l with y|y
   ·rw[y,d]at i;cases i
   ·rw[y]at i;cases i
end
theorem yX {P:Eg}{w:Ek}{K:Cd}{mg:Str->Dc}{base:Ev}{N:Da}{qual:Str}{scope:LX}{f:Ef}{d:Ee}{A:ED}{outer:List Env}{s:Ei}{H:Hp}{E:XK} :
  Raises (DE (CH P w) P w K mg base N qual scope f d A outer s H E) (fun _ H' cls=>E cls none H'):=by
 intro n t o r e p I i;obtain⟨a,T,cls,H',rfl,os,bare,un,hok,l,j,ha,h,g,q⟩:=i;have c:=I.call' (ch:=[]) os un hok bare fun b z=>absurd z (by simp);exact G4 rfl rfl rfl c (I.wu rfl l) (I.wu rfl j) ha h g q
theorem tW.mk' {K:Cd}{st:EQ}(F:wY K x qual st f fd)(G:yx P w K mg base (CH P w) k f fd ps sp)(hm:mg x=some (.ref f))
  (b:wU K fd ps []):tW P w K mg base k x ps sp:=⟨f,fd,G,hm,F.kp,b⟩
instance:DecidableEq PyData:=fun a b=>decidable_of_iff _<|same_iff (a:=a) (b:=b)
mutual
def UJ:Ej->Bool
 | .str x=>El x
 | .tuple ds=>y9 ds
 |_=>false
def y9:Df->Bool
 |[]=>true
 |d::ds=>UJ d&&y9 ds
end
mutual
def IV:Ej->Nat
 | .tuple ds=>xY ds+1
 |_=>0
def xY:Df->Nat
 |[]=>0
 |d::ds=>max (IV d)<|xY ds
end
mutual
def rJ (h:Ev):Ej->Ee->Prop
 | .str x,v=>∃t,v=.str x t
 | .tuple ds,v=>∃a o b n,v=.ref a/\h.get? a=some o/\o.cls=.type "tuple"/\o.data=.seq b n/\wN h ds b.toList
 |_,_=>False
def wN (h:Ev):Df->Db->Prop
 |[],vs=>vs=[]
 |d::ds,vs=>∃v r,vs=v::r/\rJ h d v/\wN h ds r
end
mutual
def UL (w:Ek):Ej->Int
 | .str x=>hashStr w x
 | .tuple ds=>reduceHash<|ET<|Xe w ds
 |_=>0
def Xe (w:Ek):Df->List Int
 |[]=>[]
 |d::ds=>UL w d::Xe w ds
end
mutual
def BZ:Ej->Nat
 | .tuple ds=>xD ds+1
 |_=>1
def xD:Df->Nat
 |[]=>0
 |d::ds=>BZ d+xD ds
end
theorem Gc (w:Ek):∀ds,Xe w ds=ds.map (UL w)
 |[]=>rfl
 |d::ds=>by rw[Xe,Gc w ds];rfl
theorem XV:∀(a b:Df),xD (a++b)=xD a+xD b
 |[],b=>by simp[xD]
 |d::a,b=>by
  show BZ d+xD (a++b)=(BZ d+xD a)+xD b;rw[XV a b];lia
mutual
theorem rJ.zf:∀(d:Ej) (v:Ee),rJ h d v->∃as,Reads h v d as
 | .str x,_,⟨t,e⟩=>by subst e;exact⟨_,.str x t⟩
 | .tuple ds,_,⟨a,o,vs,n,e,h1,h2,h3,h4⟩=>by
  subst e;obtain⟨as,q⟩:=wN.zf ds vs.toList h4;exact⟨_,.tuple h1 h2 h3 q⟩
 | .none,_,q=>q.elim
 | .bool _,_,q=>q.elim
 | .int _,_,q=>q.elim
 | .list _,_,q=>q.elim
 | .dict _,_,q=>q.elim
theorem wN.zf:∀(ds:Df) (vs:Db),wN h ds vs->∃as,LG h vs ds as
 |[],vs,e=>by cases(show vs=[] from e);exact⟨_,.nil⟩
 |d::ds,_,⟨v,r,e,h1,h2⟩=>by
  subst e;obtain⟨as,q⟩:=rJ.zf d v h1;obtain⟨bs,b⟩:=wN.zf ds r h2;exact⟨_,.cons q b⟩
end
mutual
theorem rJ.inj:∀(d e:Ej) (v:Ee),rJ h d v->rJ h e v->d=e
 | .str x,e,v,⟨t,h1⟩,h2=>by
  subst h1;cases e with
  |str y=>obtain⟨i,q⟩:=h2;cases q;rfl
  |tuple ds=>obtain⟨a,o,f,n,q,_⟩:=h2;cases q
  |none=>exact h2.elim
  |bool _=>exact h2.elim
  |int _=>exact h2.elim
  |list _=>exact h2.elim
  |dict _=>exact h2.elim
 | .tuple ds,e,v,⟨a,o,f,n,h1,h3,h4,h5,h6⟩,h2=>by
  subst h1;cases e with
  |str y=>obtain⟨i,q⟩:=h2;cases q
  |tuple es =>
   obtain⟨l,r,j,p,q,b,s,c,g⟩:=h2;cases q;rw[h3]at b;cases b;rw[h5]at c;cases c;rw[wN.inj ds es f.toList h6 g]
  |none=>exact h2.elim
  |bool _=>exact h2.elim
  |int _=>exact h2.elim
  |list _=>exact h2.elim
  |dict _=>exact h2.elim
 | .none,_,_,q,_=>q.elim
 | .bool _,_,_,q,_=>q.elim
 | .int _,_,_,q,_=>q.elim
 | .list _,_,_,q,_=>q.elim
 | .dict _,_,_,q,_=>q.elim
theorem wN.inj:∀(ds es:Df) (vs:Db),wN h ds vs->wN h es vs->ds=es
 |[],[],_,_,_=>rfl
 |[],e::es,vs,h1,⟨v,r,q,_⟩=>by rw[show vs=[] from h1]at q;cases q
 |d::ds,[],vs,⟨v,r,q,_⟩,h2=>by rw[show vs=[] from h2]at q;cases q
 |d::ds,e::es,_,⟨v,r,h1,h3,h4⟩,⟨v',r',q1,q3,q4⟩=>by
  subst h1;injection q1 with b c;subst b c;rw[rJ.inj d e v h3 q3,wN.inj ds es r h4 q4]
end
mutual
theorem rJ.keeps {h h':Ev}{dd:Ef}{c:Obj}{es:Array Mb}{ep:Nat}(b:h.get? dd=some c)(hd:c.data=.dict es ep)(hs:EJ dd h h'):∀(d:Ej) (v:Ee),rJ h d v->rJ h' d v
 | .str x,_,q=>q
 | .tuple ds,_,⟨a,o,vs,n,e,h1,h2,h3,h4⟩=>by
  have ne:a≠dd:=fun z=>by
   subst z;rw[h1]at b;cases b;rw[h3]at hd;cases hd
  exact⟨a,o,vs,n,e,(hs.2 a ne).trans h1,h2,h3,wN.keeps b hd hs ds vs.toList h4⟩
 | .none,_,q=>q.elim
 | .bool _,_,q=>q.elim
 | .int _,_,q=>q.elim
 | .list _,_,q=>q.elim
 | .dict _,_,q=>q.elim
theorem wN.keeps {h h':Ev}{dd:Ef}{c:Obj}{es:Array Mb}{ep:Nat}(b:h.get? dd=some c)(hd:c.data=.dict es ep)(hs:EJ dd h h'):∀(ds:Df) (vs:Db),wN h ds vs->wN h' ds vs
 |[],_,q=>q
 |d::ds,_,⟨v,r,e,h1,h2⟩=>⟨v,r,e,rJ.keeps b hd hs d v h1,wN.keeps b hd hs ds r h2⟩
end
section
variable {prog:Eg}{w:Ek}
def CP (prog:Eg)(w:Ek)(d:Ej):Prop:=∀(A:ED) (E:Ee->Dh) (s:Ei) (v:Ee) (Q:Int->Dh),A.units+IV d<Lb->rJ s.heap d v->Q (UL w d) { s with toks:=s.toks+BZ d }->Eh (Em prog w) A (pyHash v) Q E s
theorem Fb:∀{ds:Df} {d:Ej},d∈ds->IV d<=xY ds
 |[],_,h=>nomatch h
 |e::ds,d,h=>by
  show IV d<=max (IV e) (xY ds)
  rcases Zi.mp h with rfl|h
  ·lia
  ·have:=Fb h;lia
theorem K5 {g:Df}(L:∀d∈g,CP prog w d):CP prog w (.tuple g):=by
 intro A E s v Q J j h;obtain⟨a,o,M,n,rfl,u,G,hd,I⟩:=j;have q:A.units<cLine:=by lia
 have l:s.TypeIs (.ref a) "tuple":=⟨o,u,G⟩;have K:A.units+(xY g+1)<cLine:=J;unfold pyHash
 first|unfold pyHashByItsType|skip
 first|refine Q7 (wpAny_cRoomFor_or (.inr q) ?_)|skip
 refine Q7<|JU l F.slot_tuple_hash.lookup ?_;show Eh _ _ (if(some (Mm "tuple.__hash__")==some EF)=true then _ else _) Q E s;rw[Zt (by rw[beq_builtin_none];exact ZK)];refine Q7<|JU l F.slot_tuple_hash.lookup ?_;show Eh _ _ (callSpecialIfBoundUnlessNone? (.ref a) "__hash__" _>>=_) Q E s;refine Q7<|wpAny_callSpecialIfBoundUnlessNone?_slot l F.slot_tuple_hash<|Ym F.slot_tuple_hash l F.entry_tuple_hash ?_<|F.args_tuple_hash_1 _;show Eh _ _ (LM (.ref a)>>=_) _ _ s;refine Q7<|V9 u hd ?_;refine Q7 ?_;rw[←Array.forIn_toList];refine J9 _
  (fun f (b:Array Int) t=>∃done left,g=done++left/\wN s.heap left f/\b.toList=done.map (UL w)/\t={ s with toks:=s.toks+xD done })
  _ ?_ ?_ _ _ ⟨[],g,rfl,I,rfl,by simp[xD]⟩
 ·rintro x f b t ⟨done,left,e,hl,hb,rfl⟩;cases left with
  |nil=>cases(show x::f=[] from hl)
  |cons d left =>
   obtain⟨v,r,p,C,D⟩:=hl;injection p with z B;subst z B;have hm:d∈g:=by rw[e];simp
   have H:=Fb hm;have y:∃c i,g=c++i/\wN s.heap i f/\(b.push<|UL w d).toList=c.map (UL w)/\({ s with toks:=s.toks+xD done+BZ d }:Ei)={ s with toks:=s.toks+xD c } :=
    ⟨done++[d],left,by simp[e],D,by simp[hb],by rw[XV];simp[xD,Nat.add_assoc]⟩
   refine Q7 (L d hm A.in1 _ _ _ _ (by show A.units+1+IV d<Lb;lia) C ?_)
   first
    |exact Za y
    |exact Q7 (Za<|Za y)
 ·rintro b t ⟨done,left,e,hl,hb,rfl⟩;cases left with
  |cons d left=>obtain⟨v,r,p,_⟩:=hl;cases p
  |nil =>
   rw[ZG]at e;subst e;show Eh _ _ (retInt<|ET b.toList) _ _ _;rw[hb];have h:Q (reduceHash<|ET<|Xe w g) { s with toks:=s.toks+(xD g+1) }:=h;rw[Gc]at h;refine wpAny_ret_mkInt ?_;show Eh _ _ (if(decide (-(2:Int) ^ 63<=ET (g.map<|UL w))&&decide (ET (g.map<|UL w)<2 ^ 63))=true then _ else _) Q E _;unfold reduceHash at h
   by_cases j:(decide (-(2:Int) ^ 63<=ET (g.map<|UL w))&&decide (ET (g.map<|UL w)<2 ^ 63))=true
   ·rw[Zs j];rw[Zs j]at h;exact Za (by simpa[Nat.add_assoc] using h)
   ·rw[Zt j];rw[Zt j]at h;exact Q7 (JQ<|Za<|by simpa[Nat.add_assoc] using h)
mutual
theorem NK:∀d:Ej,CP prog w d
 | .str x=>fun A E s v Q _ b h=>by
  obtain⟨t,rfl⟩:=b;exact(strKind prog w).pyHash (k:=x) (by show EY x (.str x t)=true;simp[EY]) h
 | .tuple ds=>K5<|Hk ds
 | .none=>fun _ _ _ _ _ _ b _=>b.elim
 | .bool _=>fun _ _ _ _ _ _ b _=>b.elim
 | .int _=>fun _ _ _ _ _ _ b _=>b.elim
 | .list _=>fun _ _ _ _ _ _ b _=>b.elim
 | .dict _=>fun _ _ _ _ _ _ b _=>b.elim
theorem Hk:∀ds:Df,∀d∈ds,CP prog w d
 |[],_,h=>nomatch h
 |e::ds,d,h=>(Zi.mp h).elim (fun z=>z▸NK e)<|Hk ds d
end
mutual
theorem ND:∀(d e:Ej),UJ d=true->UJ e=true->Ey d e=decide (d=e)
 | .str x,.str y,_,_=>by
  show(x==y)=_;rw[Yi];simp
 | .str _,.tuple _,_,_=>by rw[Zo<|by simp];rfl
 | .tuple _,.str _,_,_=>by rw[Zo<|by simp];rfl
 | .tuple ds,.tuple es,h1,h2=>by
  show EO ds es=_;rw[He ds es h1 h2];exact VP.mpr (by simp)
 | .none,_,h,_=>by cases h
 | .bool _,_,h,_=>by cases h
 | .int _,_,h,_=>by cases h
 | .list _,_,h,_=>by cases h
 | .dict _,_,h,_=>by cases h
 | .str _,.none,_,h=>by cases h
 | .str _,.bool _,_,h=>by cases h
 | .str _,.int _,_,h=>by cases h
 | .str _,.list _,_,h=>by cases h
 | .str _,.dict _,_,h=>by cases h
 | .tuple _,.none,_,h=>by cases h
 | .tuple _,.bool _,_,h=>by cases h
 | .tuple _,.int _,_,h=>by cases h
 | .tuple _,.list _,_,h=>by cases h
 | .tuple _,.dict _,_,h=>by cases h
theorem He:∀(ds es:Df),y9 ds=true->y9 es=true->EO ds es=decide (ds=es)
 |[],[],_,_=>rfl
 |[],_::_,_,_=>rfl
 |_::_,[],_,_=>rfl
 |d::ds,e::es,b,c=>by
  have b:(UJ d&&y9 ds)=true:=b;have c:(UJ e&&y9 es)=true:=c;rw[Zm]at b c;show(Ey d e&&EO ds es)=_;rw[ND d e b.1 c.1,He ds es b.2 c.2,←Bool.decide_and];exact VP.mpr (by simp)
end
mutual
theorem FP:∀d:Ej,UJ d=true->d.canLay0=true/\d.depth<=IV d
 | .str x,h=>⟨h,Zf _⟩
 | .tuple ds,h=>by
  obtain⟨b,c⟩:=KH ds h;refine⟨b,?_⟩;show EA ds+1<=xY ds+1;lia
 | .none,h=>by cases h
 | .bool _,h=>by cases h
 | .int _,h=>by cases h
 | .list _,h=>by cases h
 | .dict _,h=>by cases h
theorem KH:∀ds:Df,y9 ds=true->Er ds=true/\EA ds<=xY ds
 |[],_=>⟨rfl,Zf _⟩
 |d::ds,h=>by
  have h:(UJ d&&y9 ds)=true:=h;rw[Zm]at h;obtain⟨b,e⟩:=FP d h.1;obtain⟨c,f⟩:=KH ds h.2;refine⟨?_,?_⟩
  ·show(d.canLay0&&Er ds)=true;rw[b,c];rfl
  ·show max d.depth (EA ds)<=max (IV d) (xY ds);lia
end
def Im (prog:Eg)(w:Ek)(d:Ej):Prop:=∀(A:ED) (E:Ee->Dh) (s:Ei) (v:Ee) (n:Nat) (Q:Bool->Dh),IV d<=n->rJ s.heap d v->Q true s->Eh (Em prog w) A (eqIsQuiet n v) Q E s
theorem Kj {c:Df}(G:∀d∈c,Im prog w d):Im prog w (.tuple c):=by
 intro A E s v n Q hn g h;obtain⟨a,o,p,m,rfl,l,B,hd,D⟩:=g;have j:s.TypeIs (.ref a) "tuple":=⟨o,l,B⟩;have hn:xY c+1<=n:=hn;obtain⟨n,rfl⟩:∃k,n=k+1:=⟨n-1,by lia⟩;unfold eqIsQuiet;refine Q7<|JU j F.slot_tuple_eq.lookup ?_;show Eh _ _ (Ml (.ref a) (.type "tuple")>>=_) _ _ s;refine Q7<|YV j isSubtype_tuple_tuple ?_;simp only[Vc,Z7,JT];refine Q7<|wpAny_seqItems l hd ?_;refine Q7 ?_;show Eh _ _ (forIn p _ _) _ _ s;rw[←Array.forIn_toList];refine J9 _ (fun b r i=>r.1=none/\i=s/\∃left,(∀d∈left,d∈c)/\wN s.heap left b) _ ?_ ?_ _ _ ⟨rfl,rfl,c,fun _ z=>z,D⟩
 ·rintro v b r i ⟨g,rfl,left,hm,hl⟩;cases left with
  |nil=>cases(show v::b=[] from hl)
  |cons d left =>
   obtain⟨K,H,u,x,y⟩:=hl;injection u with q t;subst q t;have f:=hm d Ze;have:=Fb f;refine Q7 (G d f A _ i _ n _ (by lia) x ?_);simp only[Vc,Z7,JT];exact Za ⟨rfl,rfl,left,fun e C=>hm e<|Zb _ C,y⟩
 ·rintro⟨I,J⟩ i ⟨g,rfl,_⟩;simp only at g;subst g;exact Za h
mutual
theorem Ki:∀d:Ej,Im prog w d
 | .str x=>fun A E s v n Q _ b h=>by
  obtain⟨t,rfl⟩:=b;rw[eqIsQuiet_byValue _<|by rfl];exact Za h
 | .tuple ds=>Kj<|BL ds
 | .none=>fun _ _ _ _ _ _ _ b _=>b.elim
 | .bool _=>fun _ _ _ _ _ _ _ b _=>b.elim
 | .int _=>fun _ _ _ _ _ _ _ b _=>b.elim
 | .list _=>fun _ _ _ _ _ _ _ b _=>b.elim
 | .dict _=>fun _ _ _ _ _ _ _ b _=>b.elim
theorem BL:∀ds:Df,∀d∈ds,Im prog w d
 |[],_,h=>nomatch h
 |e::ds,d,h=>(Zi.mp h).elim (fun z=>z▸Ki e)<|BL ds d
end
def yV (prog:Eg)(w:Ek):HeapKind prog w Ej where
 is:=fun h d a=>rJ h d (.ref a)/\UJ d=true/\IV d<=6
 hash:=UL w
 draws:=BZ
 room:=fun A=>A.units+8<Lb
 inj:=fun c f=>rJ.inj _ _ _ c.1 f.1
 keeps:=fun x i hd j=>⟨rJ.keeps i hd j _ _ x.1,x.2⟩
 pyHash:=fun l hk h=>NK _ _ _ _ _ _ (by have:=hk.2.2;lia) hk.1 h
 eqBool:=fun{A E s x y a b Q} l c f h=>by
  obtain⟨g,p⟩:=rJ.zf _ _ c.1;obtain⟨bs,q⟩:=rJ.zf _ _ f.1;obtain⟨n,r⟩:=FP _ c.2.1;obtain⟨o,t⟩:=FP _ f.2.1;have e:=SeqAt.eqAt_reads x y A s _ _ g bs p q n o (by have:=c.2.2;lia);rw[ND _ _ c.2.1 f.2.1]at e;exact e prog w E Q h
 quiet:=fun hk h=>Ki _ _ _ _ _ _ _ (by have:=hk.2.2;lia) hk.1 h
end
end L2
namespace L2
open PySem PySem.Spec PyProof.Rows
def Gn (d:Ef)(es:List Mb):HO:=.ext fun h=>∃o b,h.get? d=some o/\o.ExactDict/\o.data=.dict es.toArray b/\(d==EM)=false
theorem N1 {h:Ev}{d:Ef}{es:List Mb}{o:Obj}{ep:Nat}(c:h.get? d=some o)(f:o.ExactDict)(g:o.data=.dict es.toArray ep)(i:(d==EM)=false):yp P w H h d (Gn d es) :=
 ⟨⟨o,ep,c,f,g,i⟩,⟨o,c⟩,fun _ _ ⟨e,b,j,l⟩ k=>⟨e,b,k e j,l⟩⟩
mutual
theorem Dt.other {K:Cd}(n:∀xs,¬Rd H d (.tup xs)):∀(k:Ej) (v:V),UJ k=true->Dt K H k v->Dt K (upd H d o) k v
 | .str x,_,_,h=>h
 | .tuple ds,_,t,⟨a,xs,h1,b,h3⟩=>by
  refine⟨a,xs,h1,?_,zy.other n ds xs t h3⟩
  rcases b with b|b
  ·have ne:a≠d:=fun z=>n xs<|z▸b
   left
   unfold Rd;rwa[zH ne]
  ·exact .inr b
 | .none,_,t,_=>by cases t
 | .bool _,_,t,_=>by cases t
 | .int _,_,t,_=>by cases t
 | .list _,_,t,_=>by cases t
 | .dict _,_,t,_=>by cases t
theorem zy.other {K:Cd}(n:∀xs,¬Rd H d (.tup xs)):∀(ks:Df) (vs:Dj),y9 ks=true->zy K H ks vs->zy K (upd H d o) ks vs
 |[],_,_,h=>h
 |k::ks,_,t,⟨x,r,h1,h2,h3⟩=>by
  have t:(UJ k&&y9 ks)=true:=t;rw[Zm]at t;exact⟨x,r,h1,Dt.other n k x t.1 h2,zy.other n ks r t.2 h3⟩
end
section
variable {X:Cx}{Do:De}{σ:St}{H:Hp}{s:Ei}
mutual
theorem Dt.lX (I:Inv X Do σ H s):∀(d:Ej) (v:V) (u:Ee),UJ d=true->Dt X.K H d v->yt v u->rJ s.heap d u
 | .str x,_,u,_,h,r=>by
  cases(show _=V.str x from h);exact r
 | .tuple ds,_,u,t,⟨a,xs,h1,h2,h3⟩,r=>by
  subst h1;cases(show u=Et a from r);obtain⟨b,f,⟨o,e,c,n,d⟩,_⟩:=I.tuple h2;exact⟨a,o,b.toArray,n,rfl,e,c,d,by simpa using zy.lX I ds xs b t h3 f⟩
 | .none,_,_,t,_,_=>by cases t
 | .bool _,_,_,t,_,_=>by cases t
 | .int _,_,_,t,_,_=>by cases t
 | .list _,_,_,t,_,_=>by cases t
 | .dict _,_,_,t,_,_=>by cases t
theorem zy.lX (I:Inv X Do σ H s):∀(ds:Df) (xs:Dj) (us:Db),y9 ds=true->zy X.K H ds xs->yr xs us->wN s.heap ds us
 |[],_,us,_,h,r=>by
  cases(show _=[] from h);cases r;exact rfl
 |d::ds,_,us,t,⟨x,r,h1,h2,h3⟩,rv=>by
  have t:(UJ d&&y9 ds)=true:=t;rw[Zm]at t;subst h1;cases rv with
  |cons r1 r2=>exact⟨_,_,rfl,Dt.lX I d x _ t.1 h2 r1,zy.lX I ds r _ t.2 h3 r2⟩
end
def Xl (k:Ej):Prop:=UJ k=true/\IV k<=6
def wL (K:Cd)(H:Hp)(p:Ej×V)(q:Ej×Ef×Ee):Prop:=p.1=q.1/\Dt K H p.1 (.ref q.2.1)/\yt p.2 q.2.2
def ph (P:Eg)(w:Ek)(K:Cd)(H:Hp)(d:Ef)(ps:List<|Ej×V):Prop :=
 ps.length<=10000/\(∀p∈ps,Xl p.1)/\(ps.map (·.1)).Nodup/\∃b:List<|Ej×Ef×Ee,H d=some (Gn d<|b.map<|L7<|yV P w)/\Lj (wL K H) ps b
theorem wL.keys {K:Cd}:∀{ps:List (Ej×V)} {xs:List (Ej×Ef×Ee)},Lj (wL K H) ps xs->xs.map (·.1)=ps.map (·.1)
 |_,_,.nil=>rfl
 |_,_,.cons r t=>by rw[Zu,Zu,wL.keys t,r.1]
theorem wL.at {K:Cd}{k:Ej}:∀{ps:List (Ej×V)} {xs:List (Ej×Ef×Ee)},Lj (wL K H) ps xs->(atKey xs k=none/\Us ps k=none)\/∃p v,atKey xs k=some p/\Us ps k=some v/\yt v p.2
 |_,_,.nil=>.inl ⟨rfl,rfl⟩
 |p::ps,q::xs,.cons r t=>by
  unfold atKey Us;rw[Y7,Y7];have e:p.1=q.1:=r.1
  by_cases h:q.1=k
  ·rw[Zg h,Zg<|show p.1=k by rwa[e]];exact .inr ⟨q.2,p.2,rfl,rfl,r.2.2⟩
  ·rw[Zo h,Zo<|show¬p.1=k by rwa[e]];exact wL.at t
theorem wL.is (I:Inv X Do σ H s):∀{ps:List (Ej×V)} {xs:List (Ej×Ef×Ee)},(∀p∈ps,Xl p.1)->Lj (wL X.K H) ps xs->∀x∈xs,(yV X.prog X.w).is s.heap x.1 x.2.1
 |_,_,_,.nil,x,h=>nomatch h
 |p::ps,q::xs,hk,.cons r t,x,h=>by
  rcases Zi.mp h with rfl|h
  ·obtain⟨b,d⟩:=hk p Ze;rw[←r.1];exact⟨Dt.lX I _ _ _ b r.2.1 rfl,b,d⟩
  ·exact wL.is I (fun p c=>hk p<|Zb _ c) t x h
theorem ph.heap (I:Inv X Do σ H s)(T:ph X.prog X.w X.K H d ps):∃xs,H d=some (Gn d<|xs.map<|L7<|yV X.prog X.w)/\Lj (wL X.K H) ps xs/\s.heap.DictOfH (yV X.prog X.w) d xs/\(d==EM)=false:=by
 obtain⟨hl,hk,nd,xs,e,r⟩:=T;obtain⟨⟨o,b,c,f,g,h⟩,_⟩:(∃o b,s.heap.get? d=some o/\o.ExactDict/\o.data=.dict (xs.map<|L7<|yV X.prog X.w).toArray b/\(d==EM)=false)/\_:=I.hok d _ e;exact⟨xs,e,r,⟨o,_,b,c,f,g,by simp,wL.is I hk r,by rw[wL.keys r];exact nd⟩,h⟩
theorem RQ {A:ED}(b:A.units+64<Lb)(prog:Eg)(w:Ek):(yV prog w).room A.in1:=by
 show A.units+1+8<Lb;lia
theorem key_is (I:Inv X Do σ H s){k:Ej}{a:Ef}(hk:Xl k)(h:Dt X.K H k<|.ref a):(yV X.prog X.w).is s.heap k a:=⟨Dt.lX I _ _ _ hk.1 h rfl,hk⟩
end
section
variable {X:Cx}{K:Cd}
def b6 (P:Eg)(w:Ek)(K:Cd):R2:=fun y x H Q=>∃a d b k,y=.ref a/\x=.ref d/\ph P w K H d b/\Xl k/\Dt K H k (.ref a)/\Q (.bl (Us b k).isSome) H
theorem WA (c:X.A.units+64<Lb):CD X (ES .In) (b6 X.prog X.w X.K):=by
 intro g s l H y x v u Q I f e h;obtain⟨a,d,i,k,rfl,rfl,T,hk,ha,q⟩:=h;cases f;cases e;obtain⟨j,_,r,b,hd⟩:=T.heap I;refine wpAny_in_heap (RQ c _ _) (key_is I hk ha) hd b ⟨.bl _,H,I.tok _,?_,q⟩
 rcases wL.at (k:=k) r with⟨e1,e2⟩|⟨p,v,e1,e2,_⟩
 ·rw[e1,e2];rfl
 ·rw[e1,e2];rfl
def bp (P:Eg)(w:Ek)(K:Cd)(g ty:TE):TE:=fun e H Q=>g e H fun x f=>ty e f fun y b=>∃a d c k v,x=.ref d/\y=.ref a/\ph P w K b d c/\Xl k/\Dt K b k (.ref a)/\Us c k=some v/\Q v b
theorem SV {pos:Pos}(B:X.A.units+64<Lb)(z:PE X o td)(t:PE X i ty)(hs:Sc i):PE X (.Subscript o i pos) (bp X.prog X.w X.K td ty):=by
 intro c s g H Q I h;refine FN PySem.F.slot_dict_getitem.lookup hs<|Ci (z c s g H _ I h) fun u L ⟨x,j,n,G,D⟩=>Ci (t c L g j _ n D) fun C N hh=>?_;obtain⟨y,l,b,J,a,d,M,k,v,ex,q,T,hk,ha,f,E⟩:=hh;subst ex q;obtain rfl:u=Et d:=G;obtain rfl:C=Et a:=J;obtain⟨O,_,r,e,hd⟩:=T.heap b;refine⟨e.typeIs,?_⟩
 rcases wL.at (k:=k) r with⟨e1,e2⟩|⟨p,v',e1,e2,rv⟩
 ·rw[f]at e2;cases e2
 ·rw[f]at e2;cases e2;exact wpAny_getItem_heap (RQ B _ _) (key_is b hk ha) e e1 ⟨v,l,b.tok _,rv,E⟩
def aZ (P:Eg)(w:Ek)(K:Cd)(i ty j:TE):TS:=fun D c H=>j c H fun v f=>i c f fun x g=>ty c g fun y b=>∃a d e k,x=.ref d/\y=.ref a/\ph P w K b d e/\e.length<10000/\Xl k/\Dt K b k (.ref a) /\
 ∀o,ph P w K (upd b d o) d (yd e k v)->(∃h,o=Gn d h)->D.nx c (upd b d o)
theorem uJ {α b:Type}{F:α->b->Prop}:∀{l l':List α} {m m':List b},Lj F l m->Lj F l' m'->Lj F (l++l') (m++m')
 |_,_,_,_,.nil,h=>h
 |_,_,_,_,.cons r t,h=>.cons r<|uJ t h
theorem wL.repl {K:Cd}{k:Ej}(b:yt v u):∀{ps:List (Ej×V)} {xs:List (Ej×Ef×Ee)},Lj (wL K H) ps xs->Lj (wL K H) (ps.map fun p=>if p.1=k then(p.1,v) else p) (xs.map<|putAt k u)
 |_,_,.nil=>.nil
 |p::ps,q::xs,.cons r t=>by
  rw[Zu,Zu];refine .cons ?_<|wL.repl b t;have e:p.1=q.1:=r.1;unfold putAt
  by_cases h:q.1=k
  ·rw[Zs h,Zs<|show p.1=k by rwa[e]];exact⟨r.1,r.2.1,b⟩
  ·rw[Zt h,Zt<|show¬p.1=k by rwa[e]];exact r
theorem wL.put {K:Cd}{a:Ef}{ps:List (Ej×V)}{xs:List (Ej×Ef×Ee)}(r:Lj (wL K H) ps xs)(ha:Dt K H k<|.ref a)(c:yt v u):Lj (wL K H) (yd ps k v) (storedH xs k a u):=by
 have e:(ps.any fun b=>decide (b.1=k))=(atKey xs k).isSome:=by
  rcases wL.at (k:=k) r with⟨e1,e2⟩|⟨p,v',e1,e2,_⟩
  ·rw[e1];refine Yx.mpr fun z=>?_;obtain⟨b,hm,hk⟩:=Yb.mp z;exact GT e2<|Zc.mpr ⟨b,hm,Zv hk⟩
  ·obtain⟨b,hm,hk⟩:=Zc.mp<|uZ e2;rw[e1,Yb.mpr ⟨b,hm,Zg hk⟩];rfl
 unfold yd storedH;rw[e]
 split
 ·exact wL.repl c r
 ·exact uJ r (.cons ⟨rfl,ha,c⟩ .nil)
theorem RJ {ps:List (Ej×V)}(h:∀p∈ps,Xl p.1)(hk:Xl k):∀p∈yd ps k v,Xl p.1:=by
 unfold yd
 split
 ·intro p b;obtain⟨q,c,rfl⟩:=Zc.mp b
  split
  ·exact h q c
  ·exact h q c
 ·intro p b
  rcases ZD.mp b with b|b
  ·exact h p b
  ·rwa[Q9.mp b]
theorem S6 {ps:List (Ej×V)}(h:(ps.map (·.1)).Nodup):((yd ps k v).map (·.1)).Nodup:=by
 unfold yd
 split
 ·have e:(ps.map fun b=>if b.1=k then(b.1,v) else b).map (·.1)=ps.map (·.1):=by
   rw[ZC];refine ZQ fun p _=>?_;show(if p.1=k then(p.1,v) else p).1=p.1
   split<;>rfl
  rwa[e]
 ·rename_i hn;rw[Zl];refine jQ h fun z=>hn ?_;obtain⟨p,c,e⟩:=Zc.mp z;exact Yb.mpr ⟨p,c,Zg e⟩
theorem S1 {pos E:Pos}(hu:X.A.units+64<Lb)(ho:PE X o td)(hi:PE X i ty)(hv:PE X value tv)(hs:My value (some<|.Subscript o i E) pos.line X.env=Lo false) :
  PS X (.Assign [.Subscript o i E] value pos) (aZ X.prog X.w X.K td ty tv):=by
 intro n s l H D I h;refine wpAny_Assign_Subscript (Ci (hv n s l H _ I h) fun r s1 ⟨v,L,N,rv,q1⟩=>Ci (ho n s1 l L _ N q1) fun u s2 ⟨x,M,O,rx,q2⟩=>Ci (hi n s2 l M _ O q2) fun iv s3 hh=>?_) hs;obtain⟨y,f,q,ry,a,d,c,k,ex,S,T,hl,hk,ha,q3⟩:=hh;subst ex S;obtain rfl:u=Et d:=rx;obtain rfl:iv=Et a:=ry;obtain⟨b,e,j,Q,hd⟩:=T.heap q;have hz:b.length<=sizeLine:=by rw[←Paired.length j];exact An.zm (by lia)
 refine wpAny_setItem_heap (hsz:=hz) (RQ hu _ _) (key_is q hk ha) Q fun h' t C=>?_;obtain⟨J,es,R,F,U,Y,Z,_,_⟩:=t;have B:J.data=.dict ((storedH b k a r).map<|L7<|yV X.prog X.w).toArray R:=by rw[Y,←Z]
 have mu:T6 (f d):=by rw[e];exact Lg
 have P:=Ih (t':=s3.toks+(yV X.prog X.w).draws k) q mu C ⟨J,F⟩<|N1 (H:=upd f d<|Gn d<|(storedH b k a r).map<|L7<|yV X.prog X.w) F U B hd;have G:∀b,¬Rd f d (.tup b):=fun ys z=>by
  rcases z with z|⟨o',z⟩
  ·rw[e]at z;cases z
  ·rw[e]at z;cases z
 refine⟨l,_,P,q3 _ ⟨?_,RJ T.2.1 hk,S6 T.2.2.1,storedH b k a r,zC,?_⟩ ⟨_,rfl⟩⟩
 ·have:=xL c k v;lia
 ·have r2:Lj (wL X.K<|upd f d<|Gn d<|(storedH b k a r).map<|L7<|yV X.prog X.w) c b:=by
   have key:∀{c:List (Ej×V)} {b:List (Ej×Ef×Ee)},(∀p∈c,Xl p.1)->Lj (wL X.K f) c b->∀o,Lj (wL X.K<|upd f d o) c b:=by
    intro c b g r
    induction r with
    |nil=>intro _;exact .nil
    |cons r1 _ ih=>intro o;exact .cons ⟨r1.1,Dt.other G _ _ (g _ Ze).1 r1.2.1,r1.2.2⟩<|ih (fun p hp=>g p<|Zb _ hp) o
   exact key T.2.1 j _
  exact wL.put r2 (Dt.other G _ _ hk.1 ha) rv
theorem Rx {pos:Pos}:PE X (.Dict [] [] pos) (fun _ H Q=>∀p o,H p=none->ph X.prog X.w X.K (upd H p o) p []->(∃es,o=Gn p es)->Q (.ref p) (upd H p o)):=by
 intro c s d H Q I h;have hn:H s.heap.objs.size=none:=I.hok.fresh<|Zf _;have b:(s.heap.objs.size==EM)=false:=YM.mpr<|EB<|Zz I.big;exact wpAny_Dict_empty ⟨.ref s.heap.objs.size,_,I.laid (a:=s.heap.objs.size) (o:=Gn s.heap.objs.size []) (t':=s.toks) (fun _ _ q=>Zd _ q) (Zf _)<|N1 (ep:=0) (Zp _ rfl) ⟨rfl,rfl,rfl⟩ rfl b,rfl,h _ _ hn ⟨ZN _,fun _ z=>(nomatch z),Yw,[],zC,.nil⟩ ⟨_,rfl⟩⟩
end
end L2
namespace L2
open PySem PySem.Spec PyProof.Rows
structure Met (P:Eg)(w:Ek)(K:Cd)(mg:Str->Dc)(base:Ev)(C:Ef)(k:Nat)(m:Str)(ps:Da)(sp:Sp):Prop where
 ex:∃(f:Ef) (fd:Eo),yx P w K mg base Cn k f fd ps sp/\Meth K C m f/\wU K fd ps []
structure tQ (P:Eg)(w:Ek)(K:Cd)(mg:Str->Dc)(base:Ev)(C:Ef)(k:Nat)(m:Str)(ps:Da)(sp:Sp):Prop where
 ex:∃(f:Ef) (fd:Eo),yx P w K mg base (CH P w) k f fd ps sp/\Meth K C m f/\wU K fd ps []
def WY (C:Ef)(m:Str)(sp:Sp)(R:St->Hp->Ee->Prop)(g:TE)(t:TA):TE:=fun b H Q=>g b H fun x c=>∃a f fs,x=.ref a/\c a=some (.ins C f fs)/\fs.lookup m=none /\
 t b c fun h e=>sp (x::h) e Q<|fun cls _ d=>R b d cls
section
variable {X:Cx}{C:Ef}{k:Nat}{m:Str}{ps:Da}{sp:Sp}{o e:EI}{es:List EI}{ta:TE}{t:TA}{Dr pos:Pos}{R:St->Hp->Ee->Prop}
theorem Xi {pl:Sem Bool}(g:PE X o ta)(c:Cls X.K C)(M:Met X.prog X.w X.K X.mg X.base C k m ps sp)(h:wX k X.A)(ha:PA X (e::es) t)
  (d:Eu (e::es) X.env=(false,E3 e X.env)::Eu es X.env:=by rfl) (b:(La pos<|Eu es X.env).any (·.1)=false:=by rfl)
  (i:E3 (.Call (.Attribute o m Dr) (e::es) [] pos) X.env=(do
   let ov ←E3 o X.env
   standAt Dr.atName
   let (f,first) ←MD [ov] (Mz ov m pl)
   callWith pos f first (La pos<|Eu (e::es) X.env) (Mp pos<|LB [] X.env)):=by rfl) :
  PE X (.Call (.Attribute o m Dr) (e::es) [] pos) (Ob C m sp [] E0 ta t):=by
 obtain⟨f,j,F,hm,hb⟩:=M.ex;exact SU (pl:=pl) g c hm F h hb .nil NT ha d b i
theorem uS {pl:Sem Bool}(b:PE X o ta)(c:Cls X.K C)(M:Met X.prog X.w X.K X.mg X.base C k m ps sp)(d:wX k X.A)
  (e:E3 (.Call (.Attribute o m Dr) [] [] pos) X.env=(do
   let ov ←E3 o X.env
   standAt Dr.atName
   let (f,first) ←MD [ov] (Mz ov m pl)
   callWith pos f first (La pos<|Eu [] X.env) (Mp pos<|LB [] X.env)):=by rfl) :
  PE X (.Call (.Attribute o m Dr) [] [] pos) (Ob C m sp [] E0 ta Gd):=by
 obtain⟨f,g,F,hm,hb⟩:=M.ex;exact Ry (pl:=pl) b c hm F d hb .nil NT e
theorem xO {pl:Sem Bool}(y:PE X o ta)(c:Cls X.K C)(M:tQ X.prog X.w X.K X.mg X.base C k m ps sp)(z:wX k X.A)(D:Raises X R)(ha:PA X (e::es) t)
  (d:Eu (e::es) X.env=(false,E3 e X.env)::Eu es X.env:=by rfl) (b:(La pos<|Eu es X.env).any (·.1)=false:=by rfl)
  (B:E3 (.Call (.Attribute o m Dr) (e::es) [] pos) X.env=(do
   let ov ←E3 o X.env
   standAt Dr.atName
   let (f,first) ←MD [ov] (Mz ov m pl)
   callWith pos f first (La pos<|Eu (e::es) X.env) (Mp pos<|LB [] X.env)):=by rfl) :
  PE X (.Call (.Attribute o m Dr) (e::es) [] pos) (WY C m sp R ta t):=by
 obtain⟨f,O,F,hm,hb⟩:=M.ex;intro g s n H Q I h;refine VF (pl:=pl) (Ci (y g s n H _ I h) fun u J hh=>?_) B;obtain⟨x,p,i,G,a,N,fs,ex,v,l,q⟩:=hh;subst ex;obtain rfl:u=Et a:=G;refine vL i v c hm l ?_;refine JN (first:=[.ref a]) (h₀:=X.base) I.ok.mod.mW hm.kp (Ci (ha pos g J n p _ i q) fun us P ⟨vs,L,j,r,E⟩=>⟨j.uq,?_⟩) d b;exact N6 (us:=.ref a::us) (vs:=.ref a::vs) F z hb D j (.cons rfl r) E
end
structure jz (P:Eg)(w:Ek)(K:Cd)(mg:Str->Dc)(base:Ev)(C:Ef)(k:Nat)(x:Str)(ps:Da)(sp:Sp):Prop where
 ex:∃(f:Ef) (fd:Eo),yx P w K mg base Cn k f fd ps sp/\Mk K C f/\wU K fd ps []/\mg x=some (.ref C)
theorem Fz {X:Cx}{e:EI}{es:List EI}{p pos:Pos}(M:jz X.prog X.w X.K X.mg X.base C k x ps sp)(h:wX (k+1) X.A)(ha:PA X (e::es) t)(g:Gl X x:=by rfl)
  (b:(x==("__debug__":Str))=false:=by decide) (d:Eu (e::es) X.env=(false,E3 e X.env)::Eu es X.env:=by rfl) (c:(La pos<|Eu es X.env).any (·.1)=false:=by rfl) :
  PE X (.Call (.Name x p) (e::es) [] pos) (TW C sp [] E0 t):=by
 obtain⟨f,j,F,hm,hb,i⟩:=M.ex;exact SS hm F h g i hb .nil NT ha b d c
theorem B8 (x:Str)(i j:Nat):An.cs (Lh x i j)=((An.cs x).take j).drop i:=by
 show(x.cps.extract i j).toList=_;rw[Array.toList_extract,List.extract_eq_drop_take,List.drop_take]
theorem X9 (x:Str)(c i:Nat)(t u:Tok)(r:List Nat)(d:E1 x ⟨#[c]⟩ 0 x.length 1=i::r)(hz:x.length<=100000):Meets (Builtin.«str.partition» ⟨[.str x t,.str ⟨#[c]⟩ u],[]⟩)
  (fun _ R s=>R (.ok<|.ret<|.ref s.heap.objs.size) { s with heap:=s.heap.push { cls:=.type "tuple",data:=.seq #[.str (Lh x 0 i) s.toks,.str ⟨#[c]⟩ u,.str (Lh x (i+1) x.length)<|s.toks+1] },toks:=s.toks+1+1 }) :=
 .of_wp fun prog w A R s h=>by
  obtain⟨b,e⟩:=partition_tree x ⟨#[c]⟩ t u;rw[e,Zt<|show¬((⟨#[c]⟩:Str).length==0)=true from(by show¬(1==0)=true;decide),d];have f:(Lh x 0 i).length<=sizeLine:=by
   rw[An.zj,B8,Yv,ZB];refine An.zm ?_;rw[←An.zj];lia
  have g:(Lh x (i+(⟨#[c]⟩:Str).length) x.length).length<=sizeLine:=by
   rw[An.zj,B8,Yv,ZB];refine An.zm ?_;rw[←An.zj];lia
  refine Q7<|wpAny_mkStr ?_ f;refine Q7<|wpAny_mkStr ?_ g;refine Q7 (wpAny_newTuple ?_ (by show 3<=sizeLine;decide));exact Za ⟨_,rfl,h⟩
section
variable {X:Cx}
def TL:V->Dj->Hp->VK->Prop:=fun x b H Q=>∃(u v:Str) (c:Nat),x=.str (u++⟨#[c]⟩++v)/\b=[.str ⟨#[c]⟩]/\c∉An.cs u/\(u++⟨#[c]⟩++v).length<=100000/\∀p,H p=none->Q (.ref p) (upd H p<|.tup [.str u,.str ⟨#[c]⟩,.str v])
theorem vN:Sb X "str.partition" TL:=by
 intro u s B H x A v y Q I p n h;obtain⟨a,b,c,rfl,rfl,j,l,q⟩:=h;obtain⟨t,rfl⟩:=p;obtain⟨w,rfl,t',rfl⟩:=wW n;have d:An.cs (a++⟨#[c]⟩++b)=An.cs a++c::An.cs b:=by
  rw[An.zr,An.zr];show An.cs a++[c]++An.cs b=_;simp
 have e:(An.cs<|a++⟨#[c]⟩++b)[(An.cs a).length]?=some c:=by rw[d];simp
 have f:∃r,E1 (a++⟨#[c]⟩++b) ⟨#[c]⟩ 0 (a++⟨#[c]⟩++b).length 1=(An.cs a).length::r:=by
  rcases StrLaws.occ_head_from (a++⟨#[c]⟩++b) ⟨#[c]⟩ 0 1 (Zf 1) with⟨h0,hn⟩|⟨k,r,h0,hlo,hk,hn⟩
  ·exact absurd ((Mg _ c _).mpr e) (hn _<|ZN _)
  ·have hm:=(Mg _ c k).mp hk;have hm:(An.cs<|a++⟨#[c]⟩++b)[k]?=some c:=hm
   rcases Vx k (An.cs a).length with z|z|z
   ·rw[d,Yj z]at hm;exact absurd (Zn hm) j
   ·exact⟨r,by rw[h0,z]⟩
   ·exact absurd ((Mg _ c _).mpr e) (hn _ (ZN _) z)
 obtain⟨r,f⟩:=f;refine Vm F.slot_str_partition (J2 s _ t) F.entry_str_partition (F.args_str_partition_2 _ _) (X9 _ c _ t t' r f l) ?_;have g:Lh (a++⟨#[c]⟩++b) 0 (An.cs a).length=a:=An.xq (by rw[B8,d,V8,List.take_left]);have i:Lh (a++⟨#[c]⟩++b) ((An.cs a).length+1) (a++⟨#[c]⟩++b).length=b:=An.xq (by
  rw[B8,An.zj,ZH,d];rw[show An.cs a++c::An.cs b=(An.cs a++[c])++An.cs b by simp];rw[show(An.cs a).length+1=(An.cs a++[c]).length by simp];exact List.drop_left)
 rw[g,i];have hn:H s.heap.objs.size=none:=I.hok.fresh<|Zf _;refine⟨.ref s.heap.objs.size,_,I.laid (t':=s.toks+1+1) (a:=s.heap.objs.size) (o:=.tup [.str a,.str ⟨#[c]⟩,.str b]) (fun _ _ q=>Zd _ q) (Zf _) ?_,rfl,q _ hn⟩;exact⟨by show 3<=sizeLine;decide,_,.cons ⟨_,rfl⟩<|.cons ⟨_,rfl⟩<|.cons ⟨_,rfl⟩ .nil,⟨_,Zp _ rfl,rfl,_,rfl,rfl⟩⟩
def Ux (n:Nat):Str:=EU<|LY ((n:Nat):Int)
theorem Op:xj X (.type "int") (fun xs H Q=>∃n:Nat,xs=[.str<|Ux n]/\n<10000000000/\Q (.int n) H):=by
 intro b s d H xs c Q I r h;obtain⟨n,rfl,hn,q⟩:=h;obtain⟨u,rfl,t,rfl⟩:=wW r;exact PySem.W.KIN.call_num (by lia) (by lia) ⟨.int n,H,I.tok _,⟨_,rfl⟩,q⟩
def tF3 (e:TE)(y:Str)(f:TE):TE:=fun b H Q=>e b H fun v c=>∃x:Str,v=.str x/\x.length<=100000/\y.length<=1000/\f b c fun u d=>∃n:Nat,u=.int n/\n<1000000/\Q (.str<|x++y++Ux n) d
theorem aO {y:Str}{k:Nat}{C i D pos:Pos}(A:PE X e1 t1)(B:PE X e2 t2):PE X (.JoinedStr [.FormattedValue e1 (-1) none C,.Constant (.str y) k i,.FormattedValue e2 (-1) none D] pos) (tF3 t1 y t2):=by
 intro c s d H Q I h;refine JoinedStr_many<|joinParts_cons<|FormattedValue_plain<|Ci (A c s d H _ I h) fun v P hh=>?_;obtain⟨Z,f,p,F,x,ex,xl,yl,E⟩:=hh;subst ex;obtain⟨t,rfl⟩:=F;refine formatField_str (fun S M=>⟨?_,?_⟩) (An.zm<|by lia)
 ·show(Mj++x).length<=sizeLine;rw[An.yh];exact An.zm (by show 0+x.length<=_;lia)
 refine joinParts_cons<|Ci ((zq:PE X (.Constant (.str y) k i) _) c _ d f (fun v j=>v=.str y/\j=f) (p.tok M) ⟨rfl,rfl⟩) fun U K hh=>?_;obtain⟨x2,l,q,G,e2,u⟩:=hh;subst e2 u;obtain⟨L,rfl⟩:=G;refine⟨?_,?_⟩
 ·show(Mj++x++y).length<=sizeLine;rw[An.yh,An.yh];exact An.zm (by show 0+x.length+y.length<=_;lia)
 refine joinParts_cons<|FormattedValue_plain<|Ci (B c K d l _ q E) fun Y R hh=>?_;obtain⟨x3,o,r,J,n,w,N,O⟩:=hh;subst w;obtain⟨T,rfl⟩:=J;have b:((n:Int)).natAbs.log2<1920:=by
  rw[Ua]
  rcases JR n with z|z
  ·subst z;decide
  ·have:n.log2<20:=(Nat.log2_lt<|by lia).mpr (by lia);lia
 have g:(Mj++x++y++Ux n).length<=sizeLine:=by
  rw[An.yh,An.yh,An.yh];have:=VQ b;exact An.zm (by show 0+x.length+y.length+(Ux n).length<=_;have e:(Ux n).length<=1921:=this;lia)
 refine formatField_int_small b ⟨g,joinParts_nil ⟨.str _,o,r.tok _,⟨_,rfl⟩,?_⟩ g⟩;have e:Mj++x++y++(EU<|LY (n:Int))=x++y++Ux n:=An.xq (by
  rw[An.zr,An.zr,An.zr,An.zr,An.zr];rfl)
 rwa[e]
theorem IP:∀{Dm:Dl} {vs:List (Key×Ee)} {us:Db},KV Dm vs->us.length=vs.length->(∀(j:Nat) (v:Ee),us[j]?=some v->∃k x,vs[j]?=some (k,x)/\(zc P w).is k v=true)->yr (Dm.map fun kv=>kV kv.1) us
 |[],_,[],.nil,_,_=>.nil
 |[],_,_::_,.nil,hl,_=>by cases hl
 |_::_,_,[],.cons _ _,hl,_=>by cases hl
 |p::_,q::_,u::us,.cons r1 r2,hl,hm=>by
  obtain⟨k,x,e,hk⟩:=hm 0 u rfl;have e:q=(k,x):=by simpa using e
  have b:p.1=k:=by rw[show p.1=q.1 from r1.1,e]
  refine .cons (by
   show yt (kV p.1) u;rw[b];cases k with
   |inl i =>
    have hk:Mo i u=true:=hk;cases u<;>simp[Mo]at hk;subst hk;exact⟨_,rfl⟩
   |inr z =>
    obtain⟨t,rfl⟩:=YD<|show EY z u=true from hk;exact⟨t,rfl⟩) (IP (P:=P) (w:=w) r2 (by simpa using hl) fun j v c=>?_)
  obtain⟨d,h,f,g⟩:=hm (j+1) v (by simpa using c);exact⟨d,h,by simpa using f,g⟩
theorem KS (z:X.calm=true):xj X (.type "list") (fun xs H Q=>∃a Dm,xs=[.ref a]/\H a=some (.dK Dm)/\∀l,H l=none->Q (.ref l) (upd H l<|.lst<|Dm.map fun kv=>kV kv.1)):=by
 intro J s M H xs L Q I r h;obtain⟨a,Dm,rfl,ha,q⟩:=h;obtain⟨u,rfl,E⟩:=wW r;cases E;obtain⟨D,y,b,f,o,t,ep,A,C,hd,hk,B,i⟩:Dm.length<=sizeLine/\(a==EM)=false/\∃b,KV Dm b/\s.heap.DictOf (zc X.prog X.w) a b:=I.hok a _ ha;have p:s.heap.DictAt (zc X.prog X.w) a b ep:=⟨o,t,A,C,hd,hk,B,i⟩;have K:Dm.length=b.length:=Paired.length f;refine PySem.W.kdl_call (PySem.W.kdl_dict (knd:=zc X.prog X.w) (kvs:=b) (ep:=ep) y) (I.ok.hd z) p (by lia) fun x G d c g hl n=>?_;have F:yr (Dm.map fun kv=>kV kv.1) d.toList:=IP f (by rw[Zx];exact n.1) fun j v e=>n.2 j v (by rwa[←ZY]);exact⟨.ref s.heap.objs.size,_,I.laid (t':=G) g (Zf _)<|show yp X.prog X.w _ x _ (.lst<|Dm.map fun kv=>kV kv.1) from⟨by rw[Q8];exact D,d.toList,c,F,hl⟩,rfl,q _<|I.hok.fresh<|Zf _⟩
end
end L2
namespace An
open PySem L2
def UD (c:Nat):Bool:=decide (32<=c)&&decide (c<=126)&&decide (c≠37)
def UH (x:Str):Bool:=decide (x.length<=20)&&(cs x).all UD
def UI (c:Nat):Bool:=decide (97<=c)&&decide (c<=122)
def zP (x:Str):Bool:=decide (1<=x.length)&&decide (x.length<=8)&&(cs x).all UI
def UW:Ej->Bool
 | .str x=>UH x
 |_=>false
def UZ:Ej->Bool
 | .tuple ds=>ds.all UW
 |_=>false
def vP:Ej->Bool
 | .str x=>zP x
 |_=>false
def UA:Ej->Bool
 | .str _=>true
 |_=>false
def UY:Ej->Bool
 | .tuple [l,n]=>vP l&&UA n
 |_=>false
mutual
def small:Ej->Bool
 | .str x=>decide (x.length<=1000)
 | .list ds=>decide (ds.length<=1000)&&yE ds
 | .tuple ds=>decide (ds.length<=1000)&&yE ds
 |_=>true
def yE:Df->Bool
 |[]=>true
 |d::ds=>small d&&yE ds
end
theorem yR:∀{ds:Df} {i:Nat} {d:Ej},yE ds=true->ds[i]?=some d->small d=true
 |[],_,_,_,h=>by cases h
 |e::ds,0,d,h,q=>by
  have h:(small e&&yE ds)=true:=h;have q:e=d:=Option.some.inj q;rw[Zm]at h;rw[←q];exact h.1
 |e::ds,i+1,d,h,q=>by
  have h:(small e&&yE ds)=true:=h;rw[Zm]at h;exact yR h.2 (by simpa using q)
theorem qJ {b:Df}(h:small (.tuple b)=true):b.length<=1000/\yE b=true:=by
 have h:(decide (b.length<=1000)&&yE b)=true:=h;rw[Zm]at h;exact⟨Zv h.1,h.2⟩
theorem Rc (a c:Nat):[a]<[c]↔a<c:=by
 rw[YE];constructor
 ·rintro(h|⟨_,h⟩)
  ·exact h
  ·exact absurd h (by simp)
 ·exact .inl
theorem B7 {p q:Prop} [Decidable p] [Decidable q](h:¬p↔q):(!decide p)=decide q:=by
 by_cases b:p
 ·rw[Zg b,Zo<|fun z=>h.mpr z b];rfl
 ·rw[Zo b,Zg<|h.mp b];rfl
theorem P3 (c a:Nat)(x:Str)(b:x.cps.toList=[a]):(!decide ((⟨#[c]⟩:Str).cps.toList<x.cps.toList))=decide (a<=c):=by
 rw[b];exact B7 (by show¬[c]<[a]↔_;rw[Rc];lia)
theorem one_le (c a:Nat)(x:Str)(b:x.cps.toList=[a]):(!decide (x.cps.toList<(⟨#[c]⟩:Str).cps.toList))=decide (c<=a):=by
 rw[b];exact B7 (by show¬[a]<[c]↔_;rw[Rc];lia)
def RZ:Sp:=fun b H Q _=>∃c:Nat,b=[.str ⟨#[c]⟩]/\Q (.bl<|UD c) H
def Nc (K:Cd):Sp:=fun c H Q _=>∃(d:Ej) (v:V),c=[v]/\Dw K H d v/\small d=true/\∀b,zz H b->Q (.bl<|UW d) b
def FL (K:Cd):Sp:=fun c H Q _=>∃(d:Ej) (v:V),c=[v]/\Dw K H d v/\small d=true/\∀b,zz H b->Q (.bl<|UZ d) b
def FK (K:Cd):Sp:=fun c H Q _=>∃(d:Ej) (v:V),c=[v]/\Dw K H d v/\small d=true/\∀b,zz H b->Q (.bl<|vP d) b
def TR (K:Cd):Sp:=fun c H Q _=>∃(d:Ej) (v:V),c=[v]/\Dw K H d v/\small d=true/\∀b,zz H b->Q (.bl<|UY d) b
theorem y7 {α:Type}{l:List α}{f:α->Bool}{i:Nat}{c:α}(h:l[i]?=some c):(l.take<|i+1).map f=(l.take i).map f++[f c]:=by
 rw[Yy,h,Zl];rfl
theorem Pr {x:Str}{i c:Nat}(h:x.cps[i]?=some c):(cs x)[i]?=some c:=by rw[←h];simp
theorem all_map (l:List α)(f:α->Bool):(l.map f).all id=l.all f:=by
 rw[List.all_map];rfl
end An
namespace L2
open PySem PySem.Spec PyProof.Rows
end L2
namespace An
open PySem L2
mutual
def qD:Ej->Bool
 | .list _=>false
 | .dict _=>false
 | .tuple ds=>yA ds
 |_=>true
def yA:Df->Bool
 |[]=>true
 |d::ds=>qD d&&yA ds
end
mutual
def kM:Ej->Bool
 | .dict _=>false
 | .list ds=>xE ds
 | .tuple ds=>xE ds
 |_=>true
def xE:Df->Bool
 |[]=>true
 |d::ds=>kM d&&xE ds
end
mutual
theorem Dw.dt {K:Cd}:∀(d:Ej) (v:V),kM d=true->Dw K H d v->Dt K H d v
 | .none,_,_,h=>h
 | .bool _,_,_,h=>h
 | .int _,_,_,h=>h
 | .str _,_,_,h=>h
 | .list ds,_,t,⟨a,xs,h1,h2,h3⟩=>⟨a,xs,h1,h2,xf.dt ds xs t h3⟩
 | .tuple ds,_,t,⟨a,xs,h1,h2,h3⟩=>⟨a,xs,h1,h2,xf.dt ds xs t h3⟩
 | .dict _,_,t,_=>by cases t
theorem xf.dt {K:Cd}:∀(ds:Df) (xs:Dj),xE ds=true->xf K H ds xs->zy K H ds xs
 |[],_,_,h=>h
 |d::ds,_,t,⟨x,r,h1,h2,h3⟩=>by
  have t:(kM d&&xE ds)=true:=t;rw[Zm]at t;exact⟨x,r,h1,Dw.dt d x t.1 h2,xf.dt ds r t.2 h3⟩
end
mutual
theorem Py:∀d:Ej,qD d=true->Ey d d=true
 | .none,_=>rfl
 | .bool b,_=>by cases b<;>rfl
 | .int i,_=>by show(i==i)=true;exact beq_self_eq_true i
 | .str x,_=>by show(x==x)=true;exact beq_self_eq_true x
 | .list _,t=>by cases t
 | .tuple ds,t=>kO ds t
 | .dict _,t=>by cases t
theorem kO:∀ds:Df,yA ds=true->EO ds ds=true
 |[],_=>rfl
 |d::ds,t=>by
  have t:(qD d&&yA ds)=true:=t;rw[Zm]at t;show(Ey d d&&EO ds ds)=true;rw[Py d t.1,kO ds t.2];rfl
end
theorem jX:∀ls:Da,yA (ls.map .str)=true
 |[]=>rfl
 |l::ls=>by
  show(true&&yA (ls.map .str))=true;rw[jX ls];rfl
mutual
theorem XZ:∀d:Ej,qD d=true->kM d=true
 | .none,_=>rfl
 | .bool _,_=>rfl
 | .int _,_=>rfl
 | .str _,_=>rfl
 | .list _,t=>by cases t
 | .tuple ds,t=>vQ ds t
 | .dict _,t=>by cases t
theorem vQ:∀ds:Df,yA ds=true->xE ds=true
 |[],_=>rfl
 |d::ds,t=>by
  have t:(qD d&&yA ds)=true:=t;rw[Zm]at t;show(kM d&&xE ds)=true;rw[XZ d t.1,vQ ds t.2];rfl
end
end An
namespace An
open PySem L2
structure En where
 h:Str
 n:Nat
 d:Ej
abbrev Di:=List En
def dot:Str:=⟨#[46]⟩
theorem Pw:(".":Str)=dot:=by decide +kernel
def En.nm (e:En):Str:=e.h++dot++Ux e.n
def xx (S:Di)(h:Str):Option Nat:=S.foldl (fun b e=>if e.h=h then some (max (b.getD 0)<|e.n+1) else b) none
theorem X3 (S:Di)(e:En)(h:Str):xx (S++[e]) h=if e.h=h then some (max ((xx S h).getD 0)<|e.n+1) else xx S h:=by
 unfold xx;rw[Y2];rfl
structure nQ (e:En):Prop where
 key:Xl e.d
 free:46∉cs e.h
 num:e.n<1000000
 hl:e.h.length<=100
structure ux (S:Di):Prop where
 ent:∀e∈S,nQ e
 nd:(S.map (·.d)).Nodup
 nn:(S.map En.nm).Nodup
 len:S.length<=2000
theorem ux.nil:ux []:=⟨fun _ h=>(nomatch h),Yw,Yw,ZN _⟩
theorem ux.snoc (g:ux S)(h:nQ e)(b:e.d∉S.map (·.d))(c:e.nm∉S.map En.nm)(f:S.length<2000):ux (S++[e]) :=
 ⟨j7 g.ent h,by rw[Zl];exact jQ g.nd b,by rw[Zl];exact jQ g.nn c,by rw[Zh,YO];lia⟩
def Off (c:Dd)(H H':Hp):Prop:=∀b o,b∉c->H b=some o->H' b=some o
theorem Off.refl (b:Dd)(H:Hp):Off b H H:=fun _ _ _ h=>h
theorem Off.trans (a:Off fp H H1)(b:Off fp H1 H2):Off fp H H2:=fun c o n h=>b c o n<|a c o n h
theorem Off.of (s:zz H H'):Off fp H H':=fun b o _ h=>s b o h
theorem Off.upd {a:Ef}{o:HO}(h:Off fp H H')(m:a∈fp):Off fp H (L2.upd H' a o):=fun b u n e=>by
 have ne:b≠a:=fun z=>n (by rwa[z]);rw[zH ne];exact h b u n e
def PF (b c d:Ef):List (Str×V):=[("thing_by_name",.ref b),("name_by_thing",.ref c),("next_numbers",.ref d)]
def rM (H:Hp)(d:Dd):Prop:=∀b∈d,∃o,H b=some o/\(∀c,o≠.tup c)/\(∀c,o≠.lst c)/\∀u v,o≠.frz u v
structure yg (P:Eg)(w:Ek)(K:Cd)(C:Ef)(H:Hp)(a:Ef)(fp:Dd)(S:Di):Prop where
 good:ux S
 at_:∃(dx d1 d2 d3:Ef) (ts:Dd) (nx:Dl),fp=[a,dx,d1,d2,d3]/\(fp).Nodup/\H a=some (.ins C dx<|PF d1 d2 d3)/\H dx=some (.own a)/\ts.length=S.length /\
  H d1=some (.dK<|(S.zip ts).map fun e=>((Ep e.1.nm:Key),V.ref e.2))/\ph P w K H d2 (S.map fun e=>(e.d,V.str e.nm)) /\
  H d3=some (.dK nx)/\nx.length<=S.length/\(∀h,Us nx (Ep h:Key)=(xx S h).map fun n:Nat=>V.int (n:Int)) /\
  ∀(i:Nat) (e:En) (t:Ef),S[i]?=some e->ts[i]?=some t->Dt K H e.d (.ref t)
theorem Gw {H:Hp}{b:Ef}{o:HO}(h:H b=some o)(c:∀xs,o≠.tup xs)(d:∀u v,o≠.frz u v):∀xs,¬Rd H b (.tup xs):=fun xs z=>by
 rcases z with z|⟨u,z⟩
 ·rw[h]at z;exact c xs<|Option.some.inj z
 ·rw[h]at z;exact d u _<|Option.some.inj z
mutual
theorem Dt.off {K:Cd}{d:Dd}(n:∀b∈d,∀xs,¬Rd H b (.tup xs))(o:Off d H H'):∀(k:Ej) (v:V),UJ k=true->Dt K H k v->Dt K H' k v
 | .str x,_,_,h=>h
 | .tuple ds,_,t,⟨a,xs,h1,c,h3⟩=>by
  refine⟨a,xs,h1,?_,zy.off n o ds xs t h3⟩
  rcases c with c|c
  ·have ne:a∉d:=fun z=>n a z xs c
   rcases c with c|⟨u,c⟩
   ·exact .inl (.inl<|o a _ ne c)
   ·exact .inl (.inr ⟨u,o a _ ne c⟩)
  ·exact .inr c
 | .none,_,t,_=>by cases t
 | .bool _,_,t,_=>by cases t
 | .int _,_,t,_=>by cases t
 | .list _,_,t,_=>by cases t
 | .dict _,_,t,_=>by cases t
theorem zy.off {K:Cd}{c:Dd}(n:∀b∈c,∀xs,¬Rd H b (.tup xs))(o:Off c H H'):∀(ks:Df) (vs:Dj),y9 ks=true->zy K H ks vs->zy K H' ks vs
 |[],_,_,h=>h
 |k::ks,_,t,⟨x,r,h1,h2,h3⟩=>by
  have t:(UJ k&&y9 ks)=true:=t;rw[Zm]at t;exact⟨x,r,h1,Dt.off n o k x t.1 h2,zy.off n o ks r t.2 h3⟩
end
theorem ph.off {K:Cd}{f:Dd}{d:Ef}(n:∀b∈f,∀xs,¬Rd H b (.tup xs))(o:Off f H H')(e:H' d=H d)(T:ph P w K H d ps):ph P w K H' d ps:=by
 obtain⟨hl,hk,nd,xs,g,r⟩:=T;refine⟨hl,hk,nd,xs,by rw[e];exact g,?_⟩;have key:∀{ps:List (Ej×V)} {xs:List (Ej×Ef×Ee)},(∀p∈ps,Xl p.1)->Lj (wL K H) ps xs->Lj (wL K H') ps xs:=by
  intro ps xs c r
  induction r with
  |nil=>exact .nil
  |cons r1 _ ih=>exact .cons ⟨r1.1,Dt.off n o _ _ (c _ Ze).1 r1.2.1,r1.2.2⟩<|ih fun p h=>c p<|Zb _ h
 exact key hk r
theorem yg.off {K:Cd}{c gp:Dd}(n:∀b∈gp,∀xs,¬Rd H b (.tup xs))(o:Off gp H H')(dj:∀b∈c,b∉gp)(h:yg P w K C H a c S):yg P w K C H' a c S:=by
 obtain⟨g,l,d,f,j,F,nx,rfl,nd,s,v,x,y,q,z,A,B,D⟩:=h;have k:∀b u,b∈[a,l,d,f,j]->H b=some u->H' b=some u:=fun b u m e=>o b u (dj b m) e;obtain⟨xs,p,_⟩:=q.2.2.2;refine⟨g,l,d,f,j,F,nx,rfl,nd,k _ _ (by simp) s,k _ _ (by simp) v,x,k _ _ (by simp) y,ph.off n o ?_ q,k _ _ (by simp) z,A,B,fun i e t r E=>Dt.off n o _ _ (g.ent e<|Zn r).key.1<|D i e t r E⟩;rw[p];exact k _ _ (by simp) p
theorem yg.same {K:Cd}(s:zz H H')(h:yg P w K C H a fp S):yg P w K C H' a fp S :=
 h.off (gp:=[]) (fun b m=>(nomatch m)) (Off.of s) (fun b _=>by simp)
theorem yg.wR {K:Cd}(h:yg P w K C H a fp S):rM H fp:=by
 obtain⟨g,p,l,n,o,u,nx,rfl,nd,d,e,q,f,i,j,r,s,t⟩:=h;obtain⟨v,c,_⟩:=i.2.2.2;intro b m;simp only[Zi,Yq,J3]at m
 rcases m with rfl|rfl|rfl|rfl|rfl
 ·exact⟨_,d,fun _ z=>(nomatch z),fun _ z=>(nomatch z),fun _ _ z=>(nomatch z)⟩
 ·exact⟨_,e,fun _ z=>(nomatch z),fun _ z=>(nomatch z),fun _ _ z=>(nomatch z)⟩
 ·exact⟨_,f,fun _ z=>(nomatch z),fun _ z=>(nomatch z),fun _ _ z=>(nomatch z)⟩
 ·exact⟨_,c,fun _ z=>(nomatch z),fun _ z=>(nomatch z),fun _ _ z=>(nomatch z)⟩
 ·exact⟨_,j,fun _ z=>(nomatch z),fun _ z=>(nomatch z),fun _ _ z=>(nomatch z)⟩
theorem rM.tup (h:rM H fp):∀b∈fp,∀xs,¬Rd H b (.tup xs):=fun b m xs=>by
 obtain⟨o,e,n1,_,n2⟩:=h b m;exact Gw e n1 n2 xs
theorem kC {κ:Type} [DecidableEq κ]{Dm:List (κ×V)}{k:κ}{v:V}(h:k∉Dm.map (·.1)):yd Dm k v=Dm++[(k,v)]:=by
 unfold yd;rw[Zt];intro z;obtain⟨b,hm,e⟩:=Yb.mp z;exact h<|Zc.mpr ⟨b,hm,Zv e⟩
theorem vM {κ:Type} [DecidableEq κ]:∀{Dm:List (κ×V)} {k:κ} {v:V},(Dm.map (·.1)).Nodup->(k,v)∈Dm->Us Dm k=some v
 |[],_,_,_,h=>(nomatch h)
 |p::r,k,v,nd,h=>by
  rw[Zu,ZS]at nd;unfold Us;rw[Y7]
  rcases Zi.mp h with e|h
  ·subst e;rw[Zg<|show((k,v):κ×V).1=k from rfl];rfl
  ·rw[Zo<|show¬p.1=k from fun z=>nd.1<|Zc.mpr ⟨(k,v),h,z.symm⟩];exact vM nd.2 h
theorem TJ (e:En):cs e.nm=cs e.h++46::cs (Ux e.n):=by
 unfold En.nm;rw[zr,zr];show cs e.h++[46]++cs (Ux e.n)=_;simp
theorem HU (h:Ux m=Ux n):m=n:=by
 have b:cs (Ux m)=cs (Ux n):=by rw[h]
 have e:=VG m;have f:=VG n;have c:=PySem.W.KIN.val_back m;have d:=PySem.W.KIN.val_back n;rw[←e]at c;rw[←f]at d;have b:(EU<|LY ((m:Nat):Int)).cps.toList=(EU<|LY ((n:Nat):Int)).cps.toList:=b;rw[b]at c;exact c.symm.trans d
theorem N9:∀{a b r s:List Nat},¬(46∈a)->¬(46∈b)->a++46::r=b++46::s->a=b/\r=s
 |[],[],r,s,_,_,h=>⟨rfl,by injection h⟩
 |[],y::b,r,s,_,hb,h=>by
  injection h with c d;exact absurd (by rw[←c];exact Ze) hb
 |x::a,[],r,s,ha,_,h=>by
  injection h with c d;exact absurd (by rw[c];exact Ze) ha
 |x::a,y::b,r,s,ha,hb,h=>by
  injection h with c d;obtain⟨e,f⟩:=N9 (fun z=>ha<|Zb _ z) (fun z=>hb<|Zb _ z) d;exact⟨by rw[c,e],f⟩
theorem Wx {e f:En}(d:46∉cs e.h)(g:46∉cs f.h)(h:e.nm=f.nm):e.h=f.h/\e.n=f.n:=by
 have:=congrArg cs h;rw[TJ,TJ]at this;obtain⟨b,c⟩:=N9 d g this;exact⟨xq b,HU<|xq c⟩
theorem SF:∀{S:Di} {e:En},e∈S->e.n<(xx S e.h).getD 0:=by
 have key:∀(S:Di) (b:Option Nat) (h:Str),b.getD 0<=(S.foldl (fun b e=>if e.h=h then some (max (b.getD 0)<|e.n+1) else b) b).getD 0/\∀e∈S,e.h=h->e.n<(S.foldl (fun b e=>if e.h=h then some (max (b.getD 0)<|e.n+1) else b) b).getD 0:=by
  intro S
  induction S with
  |nil=>intro b h;exact⟨Zf _,fun e c=>(nomatch c)⟩
  |cons f S ih =>
   intro b h;rw[JC];obtain⟨g,i⟩:=ih (if f.h=h then some (max (b.getD 0)<|f.n+1) else b) h;have mono:b.getD 0<=(if f.h=h then some (max (b.getD 0)<|f.n+1) else b).getD 0:=by
    split
    ·exact Nat.le_max_left _ _
    ·exact Zf _
   refine⟨Z0 mono g,fun e c d=>?_⟩
   rcases Zi.mp c with rfl|c
   ·rw[Zs d]at g ⊢;have:e.n+1<=(some<|max (b.getD 0)<|e.n+1).getD 0:=Nat.le_max_right _ _;lia
   ·exact i e c d
 intro S e c;exact(key S none e.h).2 e c rfl
theorem Rm (g:ux S){h:Str}{d:Ej}(i:46∉cs h):(En.mk h ((xx S h).getD 0) d).nm∉S.map En.nm:=fun z=>by
 obtain⟨e,f,q⟩:=Zc.mp z;obtain⟨b,c⟩:=Wx (g.ent e f).free i q;have:=SF f;have b:e.h=h:=b;have c:e.n=(xx S h).getD 0:=c;rw[b]at this;lia
end An
namespace An
open PySem L2
def dig (n:Nat):Str:=EU<|LY ((n:Nat):Int)
def enc (p:Str):List Nat:=cs (dig p.length)++58::cs p
inductive Th where
 |leaf (ls:Da)
 |tree (rows:Dg)
 |note (t:Str) (ps:Da) (w:Str)
def z9:Dg->Da
 |[]=>[]
 |r::rs=>r.1::r.2::z9 rs
theorem jU:∀(a b:Dg),z9 (a++b)=z9 a++z9 b
 |[],_=>rfl
 |(x,y)::a,b=>by
  show x::y::z9 (a++b)=x::y::(z9 a++z9 b);rw[jU a b]
def Th.word:Th->Str
 | .leaf _=>"leaf"|.tree _=>"tree"|.note _ _ _=>"note"
def Th.letter:Th->Str
 | .leaf _=>"L"|.tree _=>"T"|.note _ _ _=>"N"
def Th.parts:Th->Da
 | .leaf ls=>ls
 | .tree rows=>z9 rows
 | .note t ps w=>[t,dig ps.length]++ps++[w]
def counted (p:Str):Str:=dig p.length++":"++p
def more (x p:Str):Str:=x++dig p.length++":"++p
def Th.sp (t:Th):Str:=t.parts.foldl more t.letter
theorem F4:cs (":":Str)=[58]:=by decide +kernel
theorem KY (p:Str):cs (counted p)=enc p:=by
 unfold counted enc;rw[zr,zr,F4];simp
theorem Sk (x p:Str):cs (more x p)=cs x++enc p:=by
 unfold more enc;rw[zr,zr,zr,F4];simp
theorem F5:∀(ps:Da) (x:Str),cs (ps.foldl more x)=cs x++ps.flatMap enc
 |[],x=>by simp
 |p::ps,x=>by
  rw[JC,F5 ps,Sk,YF,Z6]
theorem am (t:Th):cs t.sp=cs t.letter++t.parts.flatMap enc:=F5 _ _
theorem bb (t:Th):t.letter++Lp "" (t.parts.map counted)=t.sp:=by
 apply xq
 rw[zr,am];have e:cs (Lp ""<|t.parts.map counted)=t.parts.flatMap enc:=by
  show cs (Builtin.Str.glued ""<|t.parts.map counted)=_;rw[Lf];rw[uX,List.flatMap_map]
  congr 1
  funext p
  exact KY p
 rw[e]
theorem kW (t:Th):cs t.letter=[match t with|.leaf _=>76|.tree _=>84|.note _ _ _=>78]:=by
 cases t
 ·show cs ("L":Str)=[76]
  decide +kernel
 ·show cs ("T":Str)=[84]
  decide +kernel
 ·show cs ("N":Str)=[78]
  decide +kernel
def ao (n:Int)(c:Nat):Int:=(31*n+c) % 97
def dg (x:Str):Int:=(cs x).foldl ao 0
def zb (r:Str×Str):PyData:=.tuple [.str r.1,.str r.2]
def Th.dat:Th->Ej
 | .leaf ls=>.tuple [.str "leaf",.tuple<|ls.map .str]
 | .tree rows=>.tuple [.str "tree",.tuple<|rows.map zb]
 | .note t ps w=>.tuple [.str "note",.str t,.tuple<|ps.map .str,.str w]
theorem Hd:∀(a b:Dg),EO (a.map zb) (b.map zb)=decide (a=b)
 |[],[]=>rfl
 |[],_::_=>rfl
 |_::_,[]=>rfl
 |(x,y)::a,(z,w)::b=>by
  show(((x==z)&&((y==w)&&true))&&EO (a.map zb) (b.map zb))=_;rw[Hd a b,Yi];simp[and_assoc]
theorem j5 {x y:Str}{xs b:Df}(h:(x==y)=false):Ey (.tuple (.str x::xs)) (.tuple (.str y::b))=false:=by
 show((x==y)&&EO xs b)=false;rw[h];rfl
theorem NC (a b:Th):Ey a.dat b.dat=true↔a=b:=by
 have c:(("leaf":Str)=="tree")=false:=by decide +kernel
 have d:(("leaf":Str)=="note")=false:=by decide +kernel
 have e:(("tree":Str)=="leaf")=false:=by decide +kernel
 have f:(("tree":Str)=="note")=false:=by decide +kernel
 have g:(("note":Str)=="leaf")=false:=by decide +kernel
 have h:(("note":Str)=="tree")=false:=by decide +kernel
 cases a with
 |leaf ls =>
  cases b with
  |leaf ms =>
   show((("leaf":Str)=="leaf")&&(EO (ls.map .str) (ms.map .str)&&true))=true↔_;rw[jY];simp
  |tree _ =>
   exact Vy (fun z=>absurd ((j5 c).symm.trans z) ZK) (fun z=>by cases z)
  |note _ _ _ =>
   exact Vy (fun z=>absurd ((j5 d).symm.trans z) ZK) (fun z=>by cases z)
 |tree rs =>
  cases b with
  |leaf ms =>
   exact Vy (fun z=>absurd ((j5 e).symm.trans z) ZK) (fun z=>by cases z)
  |tree qs =>
   show((("tree":Str)=="tree")&&(EO (rs.map zb) (qs.map zb)&&true))=true↔_;rw[Hd];simp
  |note _ _ _ =>
   exact Vy (fun z=>absurd ((j5 f).symm.trans z) ZK) (fun z=>by cases z)
 |note t ps w =>
  cases b with
  |leaf ms =>
   exact Vy (fun z=>absurd ((j5 g).symm.trans z) ZK) (fun z=>by cases z)
  |tree qs =>
   exact Vy (fun z=>absurd ((j5 h).symm.trans z) ZK) (fun z=>by cases z)
  |note t' ps' w' =>
   show((("note":Str)=="note")&&((t==t')&&(EO (ps.map .str) (ps'.map .str)&&((w==w')&&true))))=true↔_;rw[jY];simp
def Th.Good (t:Th):Prop:=t.parts.length<=1000/\∀p∈t.parts,Ok 1000 p
end An
namespace L2
open PySem PySem.Spec PyProof.Rows
section
variable {X:Cx}{Do:De}{σ:St}{H:Hp}{s:Ei}{d:Ef}{Dm:Dl}
theorem Inv.freeze (I:Inv X Do σ H s)(e:H d=some (.dK Dm)):∃ob:Obj,Inv X Do σ (upd H d<|.frz ob<|.dK Dm) s:=by
 obtain⟨r,l,c,h,o,j,i,g,p,hd,hk,n,f⟩:Dm.length<=sizeLine/\(d==EM)=false/\∃c,KV Dm c/\s.heap.DictOf (zc X.prog X.w) d c:=I.hok d _ e;refine⟨o,?_⟩;have t:T6 (H d):=by rw[e];trivial
 exact I.write (x:=d) (e:=d) (h':=s.heap) (t':=s.toks) t (.inl rfl) (fun b u _ q=>q) ⟨o,g⟩ ⟨g,r,l,c,h,o,j,i,g,p,hd,hk,n,f⟩
theorem M5 {k:Key}{u:Ee}(h:(zc P w).is k u=true):yt (kV k) u:=by
 cases k with
 |inl i =>
  have h:Mo i u=true:=h;cases u<;>simp[Mo]at h;subst h;exact⟨_,rfl⟩
 |inr x =>
  obtain⟨t,rfl⟩:=YD<|show EY x u=true from h;exact⟨t,rfl⟩
theorem jK {α b:Type}{F:α->b->Prop}:∀{l₁:List α} {l₂:List b} {i:Nat} {y:b},Lj F l₁ l₂->l₂[i]?=some y->∃x,l₁[i]?=some x/\F x y
 |_,_,_,_,.nil,h=>by cases h
 |_,_,0,_,.cons r _,h=>by cases h;exact⟨_,rfl,r⟩
 |_,_,i+1,_,.cons _ t,h=>by
  obtain⟨x,c,d⟩:=jK (i:=i) t (by simpa using h);exact⟨x,by simpa using c,d⟩
theorem K3 {g:Obj}(z:yp P w H h d<|.frz g<|.dK Dm):∃vs es ep,g.data=.dict es ep/\KV Dm vs/\h.DictAt (zc P w) d vs ep/\(d==EM)=false/\Dm.length<=sizeLine:=by
 obtain⟨j,r,n,vs,i,o,b,e,l,q,c,hk,p,f⟩:=z;rw[j]at l;cases l;exact⟨vs,b,e,c,i,⟨g,b,j,q,c,hk,p,f⟩,n,r⟩
theorem Ic {e:Obj}{es:Array Mb}{ep:Nat}(hd:e.data=.dict es ep)(z:yp P w H h d<|.frz e<|.dK Dm):∃vs,KV Dm vs/\h.DictAt (zc P w) d vs ep/\(d==EM)=false:=by
 obtain⟨vs,i,g,b,c,f,j,_⟩:=K3 z;rw[hd]at b;cases b;exact⟨vs,c,f,j⟩
def bJ (d:Ef)(Dm:Dl)(b:Obj):It where
 go:=fun i H=>H d=some (.frz b<|.dK Dm)/\i<Dm.length
 oR:=fun i H x c=>c=H/\∃k v,Dm[i]?=some (k,v)/\x=kV k
 stop:=fun i H=>H d=some (.frz b<|.dK Dm)/\i=Dm.length
theorem O9 {K:Cd}{N:Obj}{es:Array Mb}{ep:Nat}(hd:N.data=.dict es ep)(it:Ef):Turn P w K tg (bJ d Dm N) [it] it (fun i h=>h.IsKeyIter it d i Dm.length ep) where
 mem:=by simp
 obj:=fun i h st b hb=>by
  have e:b=it:=by simpa using hb
  subst e;obtain⟨o,e,c,r⟩:=st;exact⟨o,e,fun v z=>by rw[r]at z;cases z⟩
 keep:=fun i h n st k=>by
  obtain⟨o,e,c⟩:=st;exact⟨o,k it (by simp) o e,c⟩
 item:=by
  intro X C F B J i Do s σ H E I p st D;subst C F B;obtain⟨j,L⟩:=D;obtain⟨g,f,q,U⟩:=Ic hd<|I.hok d _ j;have hl:Dm.length=g.length:=Paired.length f;rw[hl]at st;have M:g[i]?=some (g[i]'(by lia)):=Zj (by lia);obtain⟨t,u,S,x,y,f5⟩:=p it (by simp);refine wpAny_pyNext_dict_item (k:=(g[i]'(by lia)).1) (v:=(g[i]'(by lia)).2) st q M fun key n O l Z=>?_;have Q:Inv X Do σ H { s with heap:=n }:=I.turned (t':=s.toks) (fun b o hb e=>(Z.2 b hb).trans e) t u x y f5;rw[←hl]at l;obtain⟨o,e,c,r⟩:=id l;have hk:∃v,Dm[i]?=some ((g[i]'(by lia)).1,v):=by
   obtain⟨⟨Y,G⟩,T,A,_⟩:=jK f M;have A:Y=_:=A;subst A;exact⟨G,T⟩
  obtain⟨G,hk⟩:=hk;exact⟨key,rfl,NJ (s:={ s with heap:=n }) e c r (by decide) ⟨kV (g[i]'(by lia)).1,H,Q,M5 O,⟨rfl,_,G,hk,rfl⟩,l,fun b hb=>(p b hb).1⟩⟩
 done:=by
  intro X C F B J i Do s σ H E I p st D;subst C F B;obtain⟨j,L⟩:=D;subst L;obtain⟨g,f,q,U⟩:=Ic hd<|I.hok d _ j;have hl:Dm.length=g.length:=Paired.length f;obtain⟨t,u,S,x,y,f5⟩:=p it (by simp);rw[hl]at st;exact wpAny_pyNext_dict_end (I.ok.hd J) st q (Yf<|by lia) fun n R=>⟨rfl,I.turned (t':=s.toks) (fun b o hb e=>R b o hb e) t u x y f5⟩
 self:=fun _ _ _ _ _ st h=>wpAny_pyIter_keyiter st h
def bB (d:Ef)(Dm:Dl)(b:Obj):It where
 go:=fun i H=>H d=some (.frz b<|.dK Dm)/\i<Dm.length
 oR:=fun i H x c=>∃T k v,Dm[i]?=some (k,v)/\H T=none/\x=.ref T/\c=upd H T (.tup [kV k,v])
 stop:=fun i H=>H d=some (.frz b<|.dK Dm)/\i=Dm.length
theorem Ni {P:Eg}{w:Ek}{K:Cd}{DT:List EI} {x1}{D5:Pos}{Y:Obj}{es:Array Mb}{ep:Nat}(hd:Y.data=.dict es ep)(it:Ef) :
  Turn P w K (.Tuple DT x1 D5) (bB d Dm Y) [it] it (fun i h=>∃ok ov,IsItemIter h it d i Dm.length ep ok ov) where
 mem:=by simp
 obj:=fun i h st b hb=>by
  have e:b=it:=by simpa using hb
  subst e;obtain⟨ok,ov,e⟩:=st;exact⟨_,e,fun v z=>by cases z⟩
 keep:=fun i h Q st k=>by
  obtain⟨ok,ov,e⟩:=st;exact⟨ok,ov,k it (by simp) _ e⟩
 item:=by
  intro X D J C R i Do s σ H E I x st G;subst D J C;obtain⟨f,S⟩:=G;obtain⟨r,c,y,hS⟩:=Ic hd<|I.hok d _ f;have hl:Dm.length=r.length:=Paired.length c;obtain⟨ok,ov,st⟩:=st;rw[hl]at st;obtain⟨⟨U,t⟩,T⟩:∃p,r[i]?=some p:=⟨_,Zj<|show i<r.length by lia⟩;obtain⟨⟨g,n⟩,h0,B,M⟩:=jK c T;have B:g=U:=B;have M:yt n t:=M;have fi:=x it (by simp);have F:H s.heap.objs.size=none:=I.hok.fresh<|Zf _;have j:it<s.heap.objs.size:=Zq st;refine wpAny_pyNext_items_item (k:=U) (v:=t) st y T fun key Q DS L tup sz kp=>?_;refine⟨_,rfl,wpAny_letOwnedTupleGo_items L fun u O Z=>?_⟩;have l:u.get? s.heap.objs.size=some { cls:=.type "tuple",data:=.seq #[key,t] }:=(Z.2 _<|YW j).trans tup;have I1:Inv X Do σ H { s with heap:=u }:=I.rN (t':=s.toks) (ch:=[it]) x (fun b o hb q=>by
   have N:b≠it:=fun z=>hb (by simp[z]);exact(Z.2 b N).trans (kp b o N q)) (fun b hb=>by
   have z:b=it:=by simpa using hb
   subst z;exact⟨_,O⟩)
  have A:=I.sW (Zf _) F;have new:yp X.prog X.w (upd H s.heap.objs.size<|.tup [kV g,n]) u s.heap.objs.size (.tup [kV g,n]) :=
   ⟨by show 2<=sizeLine;decide,[key,t],.cons (by rw[B];exact M5 DS)<|.cons M .nil,⟨_,l,rfl,_,rfl,rfl⟩⟩
  have I2:Inv X Do σ (upd H s.heap.objs.size<|.tup [kV g,n]) { s with heap:=u } :=
   I1.oH F (Z0 I.sz<|Zf _) A.2.1 A.2.2.2.2.1 A.2.2.2.2.2 new
  refine⟨.ref s.heap.objs.size,_,I2,rfl,⟨_,g,n,h0,F,rfl,rfl⟩,⟨key,t,by rw[hl];exact O⟩,fun b hb=>?_⟩;have z:b=it:=by simpa using hb
  subst z;rw[zH<|Zz j];exact fi.1
 done:=by
  intro X D J C R i Do s σ H E I x st G;subst D J C;obtain⟨f,S⟩:=G;subst S;obtain⟨r,c,y,hS⟩:=Ic hd<|I.hok d _ f;have hl:Dm.length=r.length:=Paired.length c;obtain⟨f0,f1,f2,f3,f4,f5⟩:=x it (by simp);obtain⟨ok,ov,st⟩:=st;rw[hl]at st;exact wpAny_pyNext_items_end (I.ok.hd R) st y (Yf<|by lia) fun Q eb=>⟨rfl,I.turned (t':=s.toks) (fun b o hb e=>eb b o hb e) f0 f1 f3 f4 f5⟩
 self:=fun _ _ _ _ _ st h=>by
  obtain⟨ok,ov,st⟩:=st;exact PySem.W.kcp_self st h
end
section
variable {X:Cx}{tg:EI}
def cy (t:TE):TE:=fun f H Q=>t f H fun v c=>∃d b,v=.ref d/\c d=some (.dK b)/\∀e,Q v<|upd c d<|.frz e<|.dK b
theorem XB (h:PE X e t):PE X e (cy t):=by
 intro b s i H Q I q;refine Ci (h b s i H _ I q) fun v n hh=>?_;obtain⟨x,l,c,r,d,j,ex,hd,q⟩:=hh;subst ex;obtain⟨g,f⟩:=c.freeze hd;exact⟨.ref d,_,f,r,q g⟩
def az (f:TE):TI:=fun g H R=>f g H fun v c=>∃d e b,v=.ref d/\c d=some (.frz e<|.dK b)/\R (bJ d b e) c
theorem FC (hl:PE X l tl):PI X tg l (az tl):=by
 intro j s p H R I h;refine Ci (hl j s p H _ I h) fun v c hh=>?_;obtain⟨x,w,g,r,d,D,t,ex,hd,q⟩:=hh;subst ex;cases r;obtain⟨n,C,A,f,i,z,B,_⟩:=K3<|g.hok d _ hd;have u:t.length=n.length:=Paired.length i;refine wpAny_pyIter_dict B z ?_;have y:Inv X j p w { c with heap:=c.heap.push { cls:=.type "dict_keyiterator",data:=.fields #[.ref d,.int 0 0,.int n.length 0,.int A 0] } }:=g.kept (t':=c.toks) fun b o e=>Zd _ e;refine⟨c.heap.objs.size,[c.heap.objs.size],_,_,_,rfl,y,O9 f _,?_,fun b hb=>?_,q⟩
 ·exact⟨_,Zp _ rfl,rfl,by rw[u];rfl⟩
 ·have e:b=c.heap.objs.size:=by simpa using hb
  subst e;exact g.sW (Zf _)<|g.hok.fresh<|Zf _
def Wo (f:TE):TI:=fun g H R=>f g H fun v c=>∃d e b,v=.ref d/\c d=some (.frz e<|.dK b)/\R (bB d b e) c
theorem IM {E:List EI}{C z y:Pos}(S:PE X o td)(G:Lr o "items" X.env (E3 o X.env)=E3 o X.env:=by rfl)(D:(z.endLine==y.line)=true:=by rfl) :
  PI X (.Tuple E x1 C) (.Call (.Attribute o "items" z) [] [] y) (Wo td):=by
 intro u s B H R I h;refine wpAny_Call_method0_late G D<|Ci (S u s B H _ I h) fun v c hh=>?_;obtain⟨x,L,A,r,d,Y,J,ex,hd,q⟩:=hh;subst ex;cases r;obtain⟨t,T,M,f,p,j,Q,_⟩:=K3<|A.hok d _ hd;have K:J.length=t.length:=Paired.length p;have i:=j.dictOf;obtain⟨n,N,O,P,U⟩:=id j;refine⟨"dict","dict.items",F.plainAttrs_dict,Mh,F.type_dict_items,i.typeIs,fun b q=>by cases q;exact⟨n,O,P.2.1⟩,Ln rfl<|PySem.evalArgs_none ?_⟩;refine Vw Mh i.typeIs F.entry_dict_items (F.args_dict_items_1 _) (meets_dict_items (zc X.prog X.w) d Q) ⟨⟨t,i⟩,?_⟩;have g:Inv X u B L { c with heap:=c.heap.push { cls:=.type "dict_items",data:=.fields #[.ref d] } }:=A.kept (t':=c.toks) fun b o e=>Zd _ e;have l:(c.heap.push { cls:=.type "dict_items",data:=.fields #[.ref d] }).DictAt (zc X.prog X.w) d t M:=j.at' fun o e=>Zd _ e;refine wpAny_pyIter_items (v:=c.heap.objs.size) (d:=d) ⟨_,Zp _ rfl,rfl,rfl⟩ l ?_;refine⟨_,[_],_,_,_,rfl,g.kept (t':=c.toks) fun b o e=>Zd _ e,Ni f _,⟨_,_,by rw[K];exact Zp _ rfl⟩,fun b hb=>?_,q⟩;have e:=Q9.mp hb;subst e;exact g.sW (Zf _)<|g.hok.fresh<|Zf _
section
variable {d:Ef}{Dm:Dl}{ob:Obj}{g:TG}{tb:TS}{D:Ends}{σ:St}{H:Hp}
theorem IS (b:Nat->St->Hp->Prop)(h:b 0 σ H)(hl:∀i σ H,i<=Dm.length->b i σ H->H d=some (.frz ob<|.dK Dm))
  (hs:∀i k v σ H,Dm[i]?=some (k,v)->b i σ H->g (kV k) σ H fun σ2 H2=>tb { D with nx:=b<|i+1,ct:=b<|i+1,bk:=D.nx } σ2 H2) (hd:∀σ H,b Dm.length σ H->D.nx σ H):Ol (bJ d Dm ob) g tb D σ H :=
 NG Dm.length b h (fun σ H p=>⟨hl _ σ H (Zf _) p,rfl⟩) (fun i σ H c p=>⟨hl i σ H (YK c) p,c⟩) (fun i σ H c p v l y=>by
  obtain⟨e,k,x,j,f⟩:=y;subst f e;exact hs i k x σ _ j p) hd
theorem BU (b:Nat->St->Hp->Prop)(h:b 0 σ H)(hl:∀i σ H,i<=Dm.length->b i σ H->H d=some (.frz ob<|.dK Dm))
  (hs:∀i k v T σ H,Dm[i]?=some (k,v)->b i σ H->H T=none->g (.ref T) σ (upd H T<|.tup [kV k,v]) fun σ2 H2=>tb { D with nx:=b<|i+1,ct:=b<|i+1,bk:=D.nx } σ2 H2) (hd:∀σ H,b Dm.length σ H->D.nx σ H):Ol (bB d Dm ob) g tb D σ H :=
 NG Dm.length b h (fun σ H p=>⟨hl _ σ H (Zf _) p,rfl⟩) (fun i σ H c p=>⟨hl i σ H (YK c) p,c⟩) (fun i σ H c p v n y=>by
  obtain⟨T,k,x,l,j,f,e⟩:=y;subst f e;exact hs i k x T σ H l p j) hd
end
def b7:R2:=fun y x H Q=>∃a o,x=.ref a/\wB H a y o/\Q (.bl o.isSome) H
theorem Rs (f:X.A.units+64<Lb):CD X (ES .In) b7:=by
 intro e s j H y x v u Q I d c h;obtain⟨a,o,rfl,g,q⟩:=h;cases c;exact bO (by lia) I g d fun i b=>⟨.bl _,H,b,rfl,q⟩
theorem Sw {H:Hp}{a:Ef}{b:Obj}{Dm:Dl}(e:H a=some (.frz b<|.dK Dm)):wB H a (kV k) (Us Dm k):=.inl ⟨Dm,k,.inr ⟨b,e⟩,rfl,rfl⟩
theorem Bc:∀{Dm:Dl} {vs:List (Key×Ee)} {us:Db},KV Dm vs->us.length=vs.length->(∀(j:Nat) (v:Ee),us[j]?=some v->∃k x,vs[j]?=some (k,x)/\(zc P w).is k v=true)->yr (Dm.map fun kv=>kV kv.1) us:=IP
inductive mX (K:Cd)(H:Hp)(kb:Dl):Dl->Bool->Prop
 |nil:mX K H kb [] true
 |miss {k:Key} {v:V} {r:Dl}:Us kb k=none->mX K H kb ((k,v)::r) false
 |hit {k:Key} {v y:V} {d e:Ej} {r:Dl} {b:Bool}:Us kb k=some y->Dt K H d v->Dt K H e y->EK d=true->EK e=true->mX K H kb r b->mX K H kb ((k,v)::r) (Ey d e&&b)
end
section
variable {X:Cx}{K:Cd}
theorem Ru (w:X.A.units+64<Lb)(g:X.K=K:=by rfl):CD X (ES .NotIn) (aR K true true):=by
 subst g;intro p s z H x y v u Q I l n h;obtain⟨d,o,b,c,e,f,t,q⟩:=h;obtain⟨r,i⟩:=Dt.zf I d x v b l;obtain⟨bs,j⟩:=Dt.zf I _ y u c n;have hm:min (EA o) d.depth<=d.depth:=Um _ _;exact SeqAt.notIn_tuple_reads j i e f (by lia) ⟨.bl _,H,I,rfl,by simpa using q⟩
end
end L2
namespace An
open PySem L2
theorem Gz (x:Str):0<=dg x/\dg x<97:=by
 unfold dg;have:∀(l:List Nat) (n:Int),(0<=n/\n<97)->0<=l.foldl ao n/\l.foldl ao n<97:=by
  intro l
  induction l with
  |nil=>intro n h;exact h
  |cons c l ih =>
   intro n _;rw[JC];refine ih _ ?_;unfold ao;lia
 exact this _ 0 ⟨by decide,by decide⟩
theorem Rq (x:Str):EU (LY<|dg x)=Ux (dg x).toNat:=by
 unfold Ux;rw[Int.toNat_of_nonneg (Gz x).1]
theorem HV {n:Nat}(h:n<97):(Ux n).length<=10:=JH (by lia) (by decide) (by
 have:n<10 ^ 9:=by lia
 lia)
theorem Bq (x:Str)(n:Nat):cs (LU x none<|some (n:Int))=(cs x).take n:=by
 by_cases h:n<=x.length
 ·have e:=Vt (VU (x:=x) (j:=(n:Int)) (by lia)<|by lia);rw[e];show((x.cps.toList.drop (0:Int).toNat).take ((n:Int)-0).toNat).toArray.toList=_;simp[cs]
 ·have e:=Vt (VU (x:=x) (j:=(x.length:Int)) (by lia)<|by lia);rw[PyProof.Rows.slice_to_beyond<|by lia,e];have hl:(cs x).length<=n:=by rw[←zj];lia
  rw[Y1 hl];show((x.cps.toList.drop (0:Int).toNat).take ((x.length:Int)-0).toNat).toArray.toList=_;have:((x.length:Int)-0).toNat=x.cps.toList.length:=by simp[Str.length]
  rw[this];show(x.cps.toList.take x.cps.toList.length)=cs x;rw[ZH]
theorem Nv (x:Str)(n:Nat)(h:n<=x.length):cs (LU x (some (n:Int)) none)=(cs x).drop n:=by
 have e:=Vt (PyProof.Rows.slice_closes_fromL (x:=x) (i:=(n:Int)) (b:=(x.length:Int)) (by lia) (by lia) rfl);rw[e];show((x.cps.toList.drop (n:Int).toNat).take ((x.length:Int)-n).toNat).toArray.toList=_;have:((x.length:Int)-n).toNat=(x.cps.toList.drop n).length:=by rw[Yv];simp[Str.length]
 rw[this];show(x.cps.toList.drop n).take (x.cps.toList.drop n).length=(cs x).drop n;rw[ZH]
theorem snoc_ind {α:Type}{p:List α->Prop}(h0:p [])(h1:∀l x,p l->p (l++[x]))(l:List α):p l:=by
 have:∀l:List α,p l.reverse:=by
  intro l
  induction l with
  |nil=>exact h0
  |cons x l ih=>rw[List.reverse_cons];exact h1 _ _ ih
 have:=this l.reverse
 rwa[List.reverse_reverse]at this
theorem m5 (S:Di)(h:Str):(xx S h).getD 0=0\/∃e∈S,e.h=h/\e.n+1=(xx S h).getD 0:=by
 induction S using snoc_ind with
 |h0=>exact .inl rfl
 |h1 S e ih =>
  rw[X3]
  by_cases q:e.h=h
  ·rw[Zs q];show max ((xx S h).getD 0) (e.n+1)=0\/_
   rcases Nat.le_total ((xx S h).getD 0) (e.n+1) with z|z
   ·exact .inr ⟨e,by simp,q,(Nat.max_eq_right z).symm⟩
   ·have d:max ((xx S h).getD 0) (e.n+1)=(xx S h).getD 0:=Nat.max_eq_left z
    rcases ih with i|⟨f,c,h1,b⟩
    ·exact .inl (d.trans i)
    ·exact .inr ⟨f,by simp[c],h1,b.trans d.symm⟩
  ·rw[Zt q]
   rcases ih with i|⟨f,c,h1,b⟩
   ·exact .inl i
   ·exact .inr ⟨f,by simp[c],h1,b⟩
theorem NR {S:Di}(b:∀e∈S,e.n<S.length)(h:Str):(xx S h).getD 0<=S.length:=by
 rcases m5 S h with i|⟨f,c,_,d⟩
 ·lia
 ·have:=b f c;lia
theorem MR (n:Nat):El (Ux n)=true:=by
 rw[yU];intro c b;have b:c∈(EU<|LY ((n:Nat):Int)).cps.toList:=b;rw[VG]at b;obtain⟨d,hd,rfl⟩:=Zc.mp b;show d.val.toNat<1114112
 rcases d.valid with h|⟨_,h⟩
 ·exact Nat.lt_trans h (by decide)
 ·exact h
theorem MT {x y:Str}(d:El x=true)(e:El y=true):El (x++y)=true:=by
 rw[yU]at *;intro c b;rw[zr,ZD]at b;exact b.elim (d c)<|e c
theorem Pk (xs:Da)(x:Str):(xs.map EV).any (fun y=>Ey y<|.str x)=decide (x∈xs):=by
 induction xs with
 |nil=>rfl
 |cons y xs ih =>
  show((y==x)||(xs.map EV).any (fun y=>Ey y<|.str x))=_;rw[ih,Yi,VY,ZF,ZF,Zi,Jd];exact⟨fun h=>h.elim (fun z=>.inl z.symm) .inr,fun h=>h.elim (fun z=>.inl z.symm) .inr⟩
theorem Ww {S:Di}(nd:(S.map (·.d)).Nodup){e f:En}(j:e∈S)(l:f∈S)(h:e.d=f.d):e=f:=by
 induction S with
 |nil=>cases j
 |cons x S ih =>
  rw[Zu,ZS]at nd
  rcases Zi.mp j with i|c
  ·rcases Zi.mp l with g|b
   ·rw[i,g]
   ·exact absurd (Zc.mpr ⟨f,b,by rw[←i];exact h.symm⟩) nd.1
  ·rcases Zi.mp l with g|b
   ·exact absurd (Zc.mpr ⟨e,c,by rw[←g];exact h⟩) nd.1
   ·exact ih nd.2 c b
def Ex (H:Hp)(X:Dd):Prop:=∀c∈X,∃o,H c=some o
theorem Ex.not {c:Ef}(h:Ex H X)(n:H c=none):c∉X:=fun z=>by
 obtain⟨o,e⟩:=h c z;rw[n]at e;cases e
section
variable {P:Eg}{w:Ek}{K:Cd}{C:Ef}{H H' H0:Hp}{S:Di}
theorem yg.ex (h:yg P w K C H a fp S):Ex H fp:=fun c b=>by
 obtain⟨o,e,_⟩:=h.wR c b;exact⟨o,e⟩
end
theorem Iz {α:Type}{l:List α}{i:Nat}{x:α}(nd:l.Nodup)(h:l[i]?=some x):x∉l.take i:=fun z=>by
 obtain⟨j,d,e⟩:=ZP.mp z;rw[ZB]at d;rw[List.getElem_take]at e;obtain⟨c,b⟩:=Zw.mp h;exact Jz.mp nd j i (by lia) c (by lia)<|e.trans b.symm
def Uz (t:Th):Str:=t.letter++Ux (dg t.sp).toNat
def G5 (S:Di)(t:Th):En:=⟨Uz t,(xx S<|Uz t).getD 0,t.dat⟩
theorem IU (t:Th):t.letter.length=1:=by rw[zj,kW];rfl
theorem Hv (t:Th):46∉cs t.letter:=by
 rw[kW];cases t
 ·show 46∉[76];decide
 ·show 46∉[84];decide
 ·show 46∉[78];decide
theorem j4 (t:Th):46∉cs (Uz t):=by
 unfold Uz;rw[zr,ZD,not_or];exact⟨Hv t,fun h=>(PyProof.Rows.intText_free_46 _).mp h⟩
theorem uU (t:Th):(Uz t).length<=100:=by
 unfold Uz;have b:=HV (n:=(dg t.sp).toNat) (by have:=Gz t.sp;lia);rw[yh,IU];lia
theorem OS (t:Th):El t.letter=true:=by
 rw[yU,kW];intro c b;rw[Q9.mp b];cases t
 ·show 76<1114112;decide
 ·show 84<1114112;decide
 ·show 78<1114112;decide
theorem Gm:∀{ls:Da},(∀l∈ls,El l=true)->y9 (ls.map .str)=true/\xY (ls.map .str)=0
 |[],_=>⟨rfl,rfl⟩
 |l::ls,h=>by
  obtain⟨b,c⟩:=Gm fun x d=>h x<|Zb _ d;refine⟨?_,?_⟩
  ·show(El l&&y9 (ls.map .str))=true;rw[h l Ze,b];rfl
  ·show max 0 (xY<|ls.map .str)=0;rw[c];rfl
theorem KG:∀{rs:Dg},(∀p∈z9 rs,El p=true)->y9 (rs.map zb)=true/\xY (rs.map zb)<=1
 |[],_=>⟨rfl,ZN _⟩
 |(x,y)::rs,h=>by
  obtain⟨b,d⟩:=KG (rs:=rs) fun p c=>h p<|Zb _<|Zb _ c;refine⟨?_,?_⟩
  ·show((El x&&(El y&&true))&&y9 (rs.map zb))=true;rw[h x Ze,h y<|Zb _ Ze,b];rfl
  ·show max (max 0 (max 0 0)+1) (xY<|rs.map zb)<=1;lia
theorem Fa {t:Th}(g:t.Good):Xl t.dat:=by
 have c:∀p∈t.parts,El p=true:=fun p e=>(g.2 p e).ok;cases t with
 |leaf ls =>
  obtain⟨b,d⟩:=Gm (ls:=ls) c;refine⟨?_,?_⟩
  ·show(El "leaf"&&(y9 (ls.map .str)&&true))=true;rw[b];decide +kernel
  ·show max 0 (max (xY (ls.map .str)+1) 0)+1<=6;rw[d];decide
 |tree rs =>
  obtain⟨b,d⟩:=KG (rs:=rs) c;refine⟨?_,?_⟩
  ·show(El "tree"&&(y9 (rs.map zb)&&true))=true;rw[b];decide +kernel
  ·show max 0 (max (xY (rs.map zb)+1) 0)+1<=6;lia
 |note x ps y =>
  have f:∀p∈ps,El p=true:=fun p e=>c p (by show p∈[x,dig ps.length]++ps++[y];simp[e]);have h:El x=true:=c x (by show x∈[x,dig ps.length]++ps++[y];simp);have i:El y=true:=c y (by show y∈[x,dig ps.length]++ps++[y];simp);obtain⟨b,d⟩:=Gm f;refine⟨?_,?_⟩
  ·show(El "note"&&(El x&&(y9 (ps.map .str)&&(El y&&true))))=true;rw[b,h,i];decide +kernel
  ·show max 0 (max 0<|max (xY (ps.map .str)+1)<|max 0 0)+1<=6;rw[d];decide
theorem B6 {a b:Th}(h:a.dat=b.dat):a=b:=(NC a b).mp (by
 rw[h];exact(NC b b).mpr rfl)
def BH (e:En):Prop:=∃t:Th,e.d=t.dat/\t.Good/\e.h=Uz t
def Oi (e:En):Str:=match e.d with|.tuple (.str x::_)=>x|_=>""
theorem R7 (t:Th)(h:Str)(n:Nat):Oi ⟨h,n,t.dat⟩=t.word:=by cases t<;>rfl
theorem kF {e:En}{t:Th}(h:e.d=t.dat):Oi e=t.word:=by
 obtain⟨a,b,c⟩:=e;have h:c=t.dat:=h;subst h;exact R7 t a b
def yC (S:Di)(x:Str)(b:Da):Bool:=S.any fun e=>decide (e.nm=x)&&decide (Oi e∈b)
def namesOk (S:Di):Th->Bool
 | .leaf _=>true
 | .tree rows=>rows.all fun r=>yC S r.2 ["leaf","tree"]
 | .note t ps _=>yC S t ["tree"]&&ps.all fun p=>yC S p ["note"]
theorem NH (g:ux S){e:En}(d:e∈S)(n:Da):yC S e.nm n=decide (Oi e∈n):=by
 unfold yC;rw[Yi,Yb,ZF];constructor
 ·rintro⟨f,o,h⟩;rw[Zm,ZF,ZF]at h;obtain⟨i,p,b⟩:=ZP.mp d;obtain⟨j,q,c⟩:=ZP.mp o;have:i=j:=by
   have l:=Jz.mp g.nn
   rcases Vx i j with z|z|z
   ·exact absurd (by rw[ZV,ZV,b,c];exact h.1.symm) (l i j (by rwa[Q8]) (by rwa[Q8]) z)
   ·exact z
   ·exact absurd (by rw[ZV,ZV,b,c];exact h.1) (l j i (by rwa[Q8]) (by rwa[Q8]) z)
  subst this;rw[←b,c];exact h.2
 ·intro h;exact⟨e,d,by rw[Zg rfl,Zg h];rfl⟩
theorem IE {S:Di}{x:Str}(h:x∉S.map En.nm)(c:Da):yC S x c=false:=by
 unfold yC;rw[Vv];intro e b z;rw[Zm,ZF]at z;exact h<|Zc.mpr ⟨e,b,z.1⟩
end An
namespace AxS
open PySem PySem.Spec PyProof.Rows
theorem X8 (t:E4)(n:Nat):(t.orStandIn n).led=t.led/\(t.plain=false->(t.orStandIn n).plain=false):=by
 unfold SetTable.orStandIn
 split
 ·exact⟨rfl,id⟩
 ·exact⟨rfl,fun _=>rfl⟩
theorem Fm (t:E4)(es:Array<|Int×Ee)(h:Int)(x:Ee):(layNew t es h x).2.1.led=t.led/\(t.plain=false->(layNew t es h x).2.1.plain=false):=by
 unfold layNew
 split
 ·rename_i slot b _;have m:=X8 (t.put slot).1 (SetTable.insertAt es (t.put slot).2 (h,x)).size;exact⟨m.1,m.2⟩
 ·exact⟨rfl,fun _=>rfl⟩
theorem MI {mask finger moves:Nat}{led plain:Bool}{hs:Array Int}{t:E4}{o:Array Nat}(h:SetTable.laid mask finger moves led plain hs=some (t,o)):t.led=led/\t.plain=plain:=by
 unfold SetTable.laid at h;simp only[Option.bind_eq_bind,Option.bind_eq_some_iff,Option.pure_def,Option.some.injEq,Prod.mk.injEq]at h;obtain⟨_,_,h,_⟩:=h;rw[←h];exact⟨rfl,rfl⟩
theorem Gj (t:E4)(es:Array<|Int×Ee)(n:Nat):(relayAll t es n).2.1.led=t.led/\(t.plain=false->(relayAll t es n).2.1.plain=false):=by
 unfold relayAll
 split
 ·rename_i d b c;have m:=MI c;dsimp only
  split
  ·exact⟨m.1,fun z=>m.2.trans z⟩
  ·exact⟨rfl,fun _=>rfl⟩
 ·exact⟨rfl,fun _=>rfl⟩
def keyOf (e:Int×Ee):Str:=match e.2 with
 | .str k _=>k
 |_=>""
def Pj (prog:Eg)(w:Ek)(es:Array<|Int×Ee)(t:E4)(ks:Da):Prop :=
 Mw (strKind prog w) es.toList/\(es.toList.map keyOf).Perm ks/\es.size<Mc/\t.fits es.size=true/\t.led=!(w.params.followText "set-order")/\(es.size≠0->t.plain=false)
def yj (prog:Eg)(w:Ek)(h:Ev)(a:Ef)(ks:Da):Prop:=∃o b c t,h.get? a=some o/\o.ExactSet/\o.data=.set b c t/\Pj prog w b t ks
section
variable {prog:Eg}{w:Ek}{A:ED}{E:Ee->Dh}{s:Ei}
theorem yj.at {h':Ev}(x:yj prog w h a ks)(e:∀o,h.get? a=some o->h'.get? a=some o):yj prog w h' a ks:=by
 obtain⟨o,c,b,t,d,r⟩:=x;exact⟨o,c,b,t,e _ d,r⟩
theorem key_is {es:Array (Int×Ee)}(h:Mw (strKind prog w) es.toList){e:Int×Ee}(g:e∈es.toList)(k:Str):(strKind prog w).is k e.2=true↔keyOf e=k:=by
 obtain⟨⟨d,b,_⟩,_⟩:=h e g;obtain⟨t,f⟩:=YD b;have c:keyOf e=d:=by unfold keyOf;rw[f]
 constructor
 ·intro z;rw[c];exact(strKind prog w).inj e.2 d k b z
 ·intro z;rwa[←z,c]
theorem HN {es:Array (Int×Ee)}{ks:Da}(h:Mw (strKind prog w) es.toList)(p:(es.toList.map keyOf).Perm ks)(k:Str):k∈ks↔∃e∈es.toList,(strKind prog w).is k e.2=true:=by
 rw[←p.mem_iff,Zc];exact⟨fun⟨e,b,z⟩=>⟨e,b,(key_is h b k).mpr z⟩,fun⟨e,b,z⟩=>⟨e,b,(key_is h b k).mp z⟩⟩
theorem XJ {es:Array (Int×Ee)}{t:E4}{ks:Da}(x:Pj prog w es t ks):es.size=ks.length:=by
 rw[←x.2.1.length_eq,Q8,Zx]
theorem Nl {k:Str}{D:Tok}{Q:Bool->Dh}(hS:yj prog w s.heap a ks)(ax:ks.length+1<Mc)
  (h:∀h' r,EJ a s.heap h'->yj prog w h' a (if k∈ks then ks else ks++[k])->Q r { s with heap:=h' }) :
  Eh (Em prog w) A (setAddHashed a (.str k D)<|hashStr w k) Q E s:=by
 obtain⟨o,y,Y,t,O,F,hd,X⟩:=hS;have Dp:=XJ X;obtain⟨l,T,hb,Z,n,as⟩:=X;have DS:(strKind prog w).is k (.str k D)=true:=by show EY k (.str k D)=true;simp[EY]
 have I:(Mi k D).scannable=true:=rfl;have hh:hashStr w k=(strKind prog w).hash k:=rfl;rw[hh];unfold setAddHashed setAddHashedIn;refine ZZ<|Q7<|ZT O hd Z ?_;dsimp only;rw[byScan_of (knd:=strKind prog w) I hb l];simp only[↓reduceIte];unfold setAddByScan;refine Q7<|Q7<|JQ<|Q7<|wpAny_setScan_of (knd:=strKind prog w) DS O hd Z l ?_;cases hr:List.findIdx? (fun e=>(strKind prog w).is k e.2) y.toList with
 |some j =>
  obtain⟨hj,ap,_⟩:=List.findIdx?_eq_some_iff_getElem.mp hr;have hk:k∈ks:=(HN l T k).mpr ⟨y.toList[j],YL hj,ap⟩;have:=h s.heap false (Heap.SameBut.refl a s.heap) (by rw[Zs hk];exact⟨o,y,Y,t,O,F,hd,l,T,hb,Z,n,as⟩);exact Za<|Za this
 |none =>
  have hk:k∉ks:=fun z=>by
   obtain⟨e,he,q⟩:=(HN l T k).mp z;have:=List.findIdx?_eq_none_iff.mp hr e he;rw[q]at this;cases this
  rw[Zt hk]at h;have M:∀(b:Bool) {u:Ei} {U:Unit->Dh},U () u->Eh (Em prog w) A (match b with|true=>rule "set.scan.the-table-gave-way"|false=>Lo ()) U E u:=by
   intro b u U hq;cases b
   ·exact Za hq
   ·exact JQ hq
  have d:=layNew_perm t y ((strKind prog w).hash k)<|.str k D;have g:=layNew_fits t y ((strKind prog w).hash k)<|.str k D;have x:=Fm t y ((strKind prog w).hash k)<|.str k D;dsimp only;generalize layNew t y ((strKind prog w).hash k) (.str k D)=L at d g x ⊢;obtain⟨c,t1,wd,ay⟩:=L;dsimp only at d g x ⊢;rw[Array.toList_push]at d;have a1:c.size=y.size+1:=by rw[←Zx,d.length_eq,Zh,Zx];rfl
  have B:Mw (strKind prog w) c.toList:=(l.push DS I).perm d;have P:(c.toList.map keyOf).Perm (ks++[k]):=by
   refine(d.map keyOf).trans ?_;rw[Zl];exact T.append<|List.Perm.refl _
  have K:c.size<scanBound:=by lia
  refine Q7<|M _ ?_;have C:∀(f:E4),f.fits c.size=true->f.led=t.led->f.plain=false->Eh (Em prog w) A (do
    storeSet a c f
    if(!wd&&f.tooFull)=true then do
      (match(relayAll f c<|Ly c.size).2.2 with|true=>rule "set.scan.the-table-gave-way"|false=>Lo ())
      storeSet a (relayAll f c<|Ly c.size).1 (relayAll f c<|Ly c.size).2.1
      Lo (some true)
     else Lo (some true)) (fun r s'=>r=some true/\Q true s') E s:=by
   intro f ab N R;refine Q7<|JY O hd ?_<|Vz K;have S:=EH s.heap a<|LD c f;have H:(s.heap.update a<|LD c f).get? a=some { o with data:=.set c (Y+1) f }:=by
    have:=Ye (LD c f) O (by rw[putSet_of c f hd];rfl);rw[putSet_of c f hd]at this;exact this
   split
   ·have p:=relayAll_perm f c<|Ly c.size;have G:=relayAll_fits f c<|Ly c.size;have v:=Gj f c<|Ly c.size;generalize relayAll f c (Ly c.size)=Rl at p G v ⊢;obtain⟨i,J,gv⟩:=Rl;dsimp only at p G v ⊢;have a0:i.size=c.size:=by rw[←Zx,p.length_eq,Zx]
    refine Q7 (M _<|Q7<|JY H rfl ?_<|Vz<|by lia);have al:((s.heap.update a<|LD c f).update a<|LD i J).get? a=some { o with data:=.set i (Y+1+1) J }:=by
     have:=Ye (LD i J) H (by rw[putSet_of i J rfl];rfl);rw[putSet_of i J rfl]at this;exact this
    exact Za ⟨rfl,h _ true (S.trans<|EH _ a _) ⟨_,i,_,J,al,F,rfl,B.perm p,((p.map keyOf)).trans P,by lia,G,v.1.trans<|N.trans n,fun _=>v.2 R⟩⟩
   ·exact Za ⟨rfl,h _ true S ⟨_,c,_,f,H,F,rfl,B,P,K,ab,N.trans n,fun _=>R⟩⟩
  split
  ·refine Q7 ?_;rw[hashByValue_scannable 8 I];refine Za ?_;refine Yu (C { t1 with plain:=false } (SetTable.fits_plain_off g) x.1 rfl) (fun r s' q=>?_) fun _ _ z=>z;obtain⟨rfl,q⟩:=q;exact Za q
  ·rename_i an;refine Q7<|Za ?_;simp only[↓reduceIte];refine Yu (C t1 g x.1<|by simpa using an) (fun r s' q=>?_) fun _ _ z=>z;obtain⟨rfl,q⟩:=q;exact Za q
def step (ks:Da)(k:Str):Da:=if k∈ks then ks else ks++[k]
def uniq (xs:Da):Da:=xs.foldl step []
theorem BI (xs:Da)(k:Str):uniq (xs++[k])=step (uniq xs) k:=by unfold uniq;rw[Y2];rfl
theorem Kt (ks:Da)(k:Str):(step ks k).length<=ks.length+1:=by unfold step;split<;>simp
theorem tE:∀(n:Nat) (xs:Da),xs.length=n->(uniq xs).length<=n
 | 0,xs,h=>by rw[Yp h];exact Zf _
 |n+1,xs,h=>by
  have b:xs≠[]:=fun z=>by rw[z]at h;cases h
  rw[←List.dropLast_concat_getLast b,BI];have:=tE n xs.dropLast (by rw[List.length_dropLast];lia);have:=Kt (uniq xs.dropLast)<|xs.getLast b;lia
theorem Pc {xs:Da}{i:Nat}{k:Str}(h:xs[i]?=some k):uniq (xs.take<|i+1)=if k∈uniq (xs.take i) then uniq (xs.take i) else uniq (xs.take i)++[k]:=by
 have e:xs.take (i+1)=xs.take i++[k]:=by rw[Yy,h];rfl
 rw[e,BI];rfl
end
section
variable {prog:Eg}{w:Ek}{A:ED}{R:Result->Dh}{I:Ef}{fp wr:Dd}{G:Array GenState->Array GenState->Prop}{n:Nat}{P:Nat->Ee->Prop}{St:Nat->Dh}
theorem Of (W:WalksS prog w A.in1 I fp wr G n P St)(S:Ef)(j:S∉fp)(xs:Da)(hn:xs.length=n)(y:∀i v,P i v->∃k t,xs[i]?=some k/\v=.str k t)(hb:n+1<Mc) :
  ∀(m i:Nat) (s:Ei),n-i=m->i<=n->St i s->yj prog w s.heap S (uniq<|xs.take i) ->
   (∀s',Moved (S::wr) G s s'->yj prog w s'.heap S (uniq xs)->R (.ok<|.ret .none) s')->LS (Em prog w) A (.builtin "set.update.loop" ⟨[.ref S,.ref I],[]⟩) R s:=by
 have l:S∉wr:=fun h=>j<|W.sub _ h;have c:∀b∈wr,b∈S::wr:=fun b hb=>Zb _ hb;intro m
 induction m with
 |zero =>
  intro i s hk J d z B;have D:i=n:=by lia
  subst D;refine YI Va ?_;rw[E8 Jl _];show Eh _ A.in1 (L8 (.ref I)>>=_) _ _ s;refine Q7<|W.done s _ _ d fun s' hm=>?_;show Eh _ A.in1 (ret EF) _ _ s';rw[←hn,ZH]at z;exact Za<|B s' (hm.mono c)<|z.at fun o e=>hm.heap S _ l e
 |succ m ih =>
  intro i s hk J d z B;have p:i<n:=by lia
  refine YI Va ?_;rw[E8 Jl _];show Eh _ A.in1 (L8 (.ref I)>>=_) _ _ s;refine Q7<|W.item i s _ _ p d fun v s' H x hm=>?_;obtain⟨k,t,E,rfl⟩:=y i v H;have C:=z.at (h':=s'.heap) fun o e=>hm.heap S _ l e;show Eh _ A.in1 (MD [Mi k t] (setAdd S<|.str k t)>>=_) _ _ s';refine Q7<|ZZ ?_;unfold setAdd;refine ZZ ?_;refine Q7 ((strKind prog w).pyHash (k:=k) (by show EY k (.str k t)=true;simp[EY]) ?_);have hl:=tE _ (xs.take i) rfl;rw[ZB]at hl;refine Nl (s:={ s' with toks:=s'.toks+1 }) C (by lia) fun h' r u g=>?_;rw[←Pc E]at g;refine Za ⟨Vd Jl _,ih (i+1) _ (by lia) p (W.frame _ s' _ _ x (JD _) fun b hb o e=>?_) g fun F q f=>?_⟩
  ·rw[u.2 b (fun h:b=S=>j<|by rwa[←h])];exact e
  ·refine B F (Moved.trans W.gtrans ((hm.mono c).then_heap (JD _) fun b o hb e=>?_) q) f;rw[u.2 b (fun h:b=S=>hb (by rw[h];exact Ze))];exact e
end
section
variable {prog:Eg}{w:Ek}{A:ED}{E:Ee->Dh}{s:Ei}
def zO (w:Ek):Obj:={ cls:=.type "set",dict:=none,data:=.set #[] 0 (.fresh 0 0<|!(w.params.followText "set-order")) }
theorem IN {h:Ev}{a:Ef}{xs:Da}(e:h.get? a=some (zO w)):yj prog w h a (uniq<|xs.take 0) :=
 ⟨_,#[],0,_,e,⟨rfl,rfl,rfl⟩,rfl,fun _ z=>by simp at z,List.Perm.refl _,by decide,by rfl,rfl,fun z=>absurd rfl z⟩
theorem FH (a:Ee){Q₁:Ee->Dh}(h:Q₁ (.ref s.heap.objs.size) { s with heap:=s.heap.push (zO w) }) :
  LS (Em prog w) A (.call (.builtin "set.__new__") ⟨[.type "set",a],[]⟩) (wants Q₁ E) s:=by
 refine VZ ?_;show Eh _ A.in1 (do checkBuiltinCall "set.__new__" ⟨[.type "set",a],[]⟩;again (.builtin "set.__new__" ⟨[.type "set",a],[]⟩)) _ _ s;refine Q7<|J4 (F.newCall_set_1 a)<|Za ⟨Vd F.plain_set_new _,YI F.entry_set_new ?_⟩;rw[E8 F.plain_set_new _];unfold Builtin.«set.__new__» Builtin.Frozenset.newClass;have b:=sub_set_self;obtain⟨c,g,d,e,os⟩:=s;dsimp only
 wp_walk
 refine Je<|Za ?_;dsimp only;simp only[newObj];refine Q7<|wpAny_alloc<|Za ?_;exact Za h
theorem sub_list_set:isSubtype (.type "list") (.type "set")=Lo false:=by rw[Ji];kernel_rfl
theorem sub_list_frozenset:isSubtype (.type "list") (.type "frozenset")=Lo false:=by rw[Ji];kernel_rfl
theorem sub_tuple_set:isSubtype (.type "tuple") (.type "set")=Lo false:=by rw[Ji];kernel_rfl
theorem sub_tuple_frozenset:isSubtype (.type "tuple") (.type "frozenset")=Lo false:=by rw[Ji];kernel_rfl
end
section
variable {M:Model}{A:ED}{E:Ee->Dh}{s:Ei}
theorem FS {src:Source}{n:Nat}{Q:Nat->Dh}(hn:n≠0)(h:∀i,i<n->Q i { s with drawn:=s.drawn.bump src }):Eh M A (choose src n) Q E s :=
 fun b p _=>⟨hn,h _<|Nat.mod_lt _<|Nat.pos_of_ne_zero hn⟩
theorem GB {α:Type}{xs:List α}{i:Nat}{x:α}(h:xs[i]?=some x):(x::xs.eraseIdx i).Perm xs:=by
 induction xs generalizing i with
 |nil=>cases h
 |cons y ys ih =>
  cases i with
  |zero =>
   have h:y=x:=Option.some.inj h;subst h;exact List.Perm.refl _
  |succ i =>
   have h:ys[i]?=some x:=by simpa using h
   show(x::y::ys.eraseIdx i).Perm (y::ys);exact(List.Perm.swap y x _).trans (List.Perm.cons y<|ih h)
theorem jO {α:Type}:∀(n:Nat) (xs:List α) (s:Ei) {Q:List α->Dh},xs.length<=n->(∀ys d,ys.Perm xs->Q ys { s with drawn:=d })->Eh M A (drawOrder n xs) Q E s
 | 0,xs,s,Q,hl,h=>by
  have e:xs=[]:=Yp (by lia);subst e;exact Za<|h [] s.drawn<|List.Perm.refl _
 |n+1,[],s,Q,hl,h=>Za<|h [] s.drawn<|List.Perm.refl _
 |n+1,x::xs,s,Q,hl,h=>by
  refine Q7 (FS (by simp) fun i b=>?_);have c:(x::xs)[i]?=some ((x::xs)[i]):=Zj b;have f:=GB c;show Eh M A (match(x::xs)[i]? with|some x_1=>_|none=>_) Q E _;rw[c];refine Q7 (jO n _ _ (by rw[List.length_eraseIdx_of_lt b];simp at hl ⊢;lia) fun ys d g=>?_);exact Za<|h _ d<|(List.Perm.cons _ g).trans f
theorem NV {α:Type}(next:Nat->Nat):∀(fuel k:Nat) (left:List α) (out:Array α),left.length=fuel->(pickOrder.go next fuel k left out).toList.Perm (out.toList++left)
 | 0,k,left,out,h=>by
  rw[Yp h,ZG];exact List.Perm.refl _
 |fuel+1,k,left,out,h=>by
  unfold pickOrder.go;have b:next k % left.length<left.length:=Nat.mod_lt _ (by lia);have c:left[next k % left.length]?=some (left[next k % left.length]):=Zj b;rw[c];refine(NV next fuel (k+1) _ _ (by rw[List.length_eraseIdx_of_lt b];lia)).trans ?_;rw[Array.toList_push,Z6];exact List.Perm.append_left _<|GB c
theorem uO {α:Type}(next:Nat->Nat)(xs:Array α):(Md next xs).toList.Perm xs.toList:=by
 have:=NV next xs.size 0 xs.toList #[] (by simp);simpa[Md] using this
end
section
variable {prog:Eg}{w:Ek}{A:ED}{E:Ee->Dh}{s:Ei}
def byText (w:Ek):Bool:=w.params.followText "set-order"
theorem IB {a:Ef}{o:Obj}{es:Array (Int×Ee)}{ep:Nat}{t:E4}{Q:Bool->Dh}(c:s.heap.get? a=some o)(hd:o.data=.set es ep t)(b:t.fits es.size=true)
  (h:Q (!byText w&&(!t.plain&&decide (es.size>1))) s):Eh (Em prog w) A (setDrawn a) Q E s:=by
 unfold setDrawn MC;refine Q7<|ZT c hd b ?_;refine Q7<|Q7<|Je<|Za ?_;exact Za h
theorem K0:entryFor table "set.__iter__"=some Builtin.«frozenset.__iter__» :=
 entryFor_alias (id':="frozenset.__iter__") (by kernel_rfl) (by first|rfl|decide +kernel|(unfold String.splitOn;simp +decide [String.splitOnAux])) (by decide +kernel) (by kernel_rfl)
theorem Ka:Manifest.owners.lookup (String.ofList ['r','o','t','a','r','e','t','i','_','t','e','s'].reverse)=some Manifest.sig_set_iterator:=by kernel_rfl
theorem slot_next:Slot "set_iterator" "__next__" "set_iterator.__next__" :=
 .of (owner:="set_iterator") (n:="__next__") (by rw[typeLookup_type,VH];kernel_rfl) (by decide +kernel) (by decide +kernel) (by decide +kernel)
  (by first|exact .inl (by decide +kernel)|exact .inr (by decide +kernel)) (by rw[Ji];kernel_rfl)
theorem entry_next:entryFor table "set_iterator.__next__"=some Builtin.«set_iterator.__next__»:=entryFor_of_tree (by kernel_rfl)
theorem args_next (a:Ee):argsOk "set_iterator.__next__" ⟨[a],[]⟩:=by
 unfold argsOk;rw[signature?_of (id:="set_iterator.__next__") (n:=['_','_','t','x','e','n','_','_']) (o:=['r','o','t','a','r','e','t','i','_','t','e','s']) (by kernel_rfl) Ka];kernel_rfl
theorem XS:Slot "set_iterator" "__iter__" "set_iterator.__iter__" :=
 .of (owner:="set_iterator") (n:="__iter__") (by rw[typeLookup_type,VH];kernel_rfl) (by decide +kernel) (by decide +kernel) (by decide +kernel)
  (by first|exact .inl (by decide +kernel)|exact .inr (by decide +kernel)) (by rw[Ji];kernel_rfl)
theorem FW (a:Ee):argsOk "set_iterator.__iter__" ⟨[a],[]⟩:=by
 unfold argsOk;rw[signature?_of (id:="set_iterator.__iter__") (n:=['_','_','r','e','t','i','_','_']) (o:=['r','o','t','a','r','e','t','i','_','t','e','s']) (by kernel_rfl) Ka];kernel_rfl
theorem Fe:entryFor table "set_iterator.__iter__"=some Builtin.«dict_keyiterator.__iter__» :=
 entryFor_alias (id':="dict_keyiterator.__iter__") (by kernel_rfl) (by first|rfl|decide +kernel|(unfold String.splitOn;simp +decide [String.splitOnAux])) (by decide +kernel) (by kernel_rfl)
def NL (first:Ee)(i:Int)(a:Ef)(n ep:Nat):Obj:={ cls:=.type "set_iterator",data:=.fields #[first,EZ i,.ref a,EZ n,EZ ep] }
theorem PV {a:Ef}{o:Obj}{es:Array (Int×Ee)}{ep:Nat}{t:E4}{Q:Ee->Dh}(b:s.heap.get? a=some o)(n:o.ExactSet)(hd:o.data=.set es ep t)(c:t.fits es.size=true)(hz:es.size<=1000)
  (j:(!byText w&&(!t.plain&&decide (es.size>1)))=false->Q (.ref s.heap.objs.size) { s with heap:=s.heap.push (NL (EZ 0) 0 a es.size ep) })
  (l:(!byText w&&(!t.plain&&decide (es.size>1)))=true->∀(ps:List Nat) d tk,ps.Perm (EC es.size)->Q (.ref<|s.heap.objs.size+1) { s with heap:=(s.heap.push { cls:=.type "tuple",data:=.seq (ps.map fun i=>EZ (i:Nat)).toArray }).push (NL (.ref s.heap.objs.size) 0 a es.size ep),drawn:=d,toks:=tk }) :
  Eh (Em prog w) A (pyIter<|.ref a) Q E s:=by
 have g:s.TypeIs (.ref a) "set":=⟨o,b,n.1⟩;refine wpAny_pyIter_slot g PySem.F.slot_set_iter<|Ym PySem.F.slot_set_iter g K0 ?_<|PySem.F.args_set_iter_1 _;unfold Builtin.«frozenset.__iter__»;refine Q7 (m:=Builtin.Frozenset.slot0 _ _)<|J4 (a:=a) rfl ?_;unfold Builtin.Frozenset.sizeOf;refine Q7<|Q7<|JI b hd c<|Za ?_;refine Q7<|IB b hd c ?_;cases q:(!byText w&&(!t.plain&&decide (es.size>1))) with
 |false =>
  rw[Zt<|by decide];refine Q7<|Za<|Q7<|wpAny_setEpoch_of b hd c ?_;simp only[newFields];refine Q7<|Ya ?_;exact Za ⟨_,rfl,"set_iterator",_,⟨_,Zp _ rfl,rfl⟩,slot_next.lookup,j q⟩
 |true =>
  rw[Zs rfl];refine Q7 (jO es.size (EC es.size) s (by rw[Yz];exact Zf _) fun ps d h=>?_);have p:ps.length=es.size:=by rw[h.length_eq,Yz]
  simp only[newTuple];refine Q7<|Ya ?_ ?_
  ·have f:(s.heap.push { cls:=.type "tuple",data:=.seq (ps.map fun i=>EZ (i:Nat)).toArray }).get? a=some o:=Zd _ b;refine Q7<|wpAny_setEpoch_of (s:={ s with heap:=s.heap.push { cls:=.type "tuple",data:=.seq (ps.map fun i=>EZ (i:Nat)).toArray },drawn:=d }) f hd c ?_;simp only[newFields];refine Q7<|Ya ?_;have e:(s.heap.push { cls:=.type "tuple",data:=.seq (ps.map fun i=>EZ (i:Nat)).toArray }).objs.size=s.heap.objs.size+1:=YB _ _;refine Za ⟨_,rfl,"set_iterator",_,⟨_,Zp _ rfl,rfl⟩,slot_next.lookup,?_⟩;have:=l q ps d s.toks h;rw[←e]at this;exact this
  ·show(ps.map fun i=>EZ (i:Nat)).toArray.size<=sizeLine;rw[Zy,Q8,p,Ys];lia
theorem qG {it:Ef}(h:s.heap.get? it=some (NL f i a n ep)):s.TypeIs (.ref it) "set_iterator":=⟨_,h,rfl⟩
theorem Bo {it a:Ef}{o:Obj}{es:Array (Int×Ee)}{ep:Nat}{t:E4}{slot i DZ:Nat}{x:Ee}{Q:Dc->Dh}(b:s.heap.get? it=some (NL (EZ slot) i a es.size ep))(g:a≠it)(j:s.heap.get? a=some o)(hd:o.data=.set es ep t)(f:t.fits es.size=true)
  (hn:∀(A:ED) (E:Ee->Dh) (Q:Option (Ee×Nat)->Dh),Q (some (x,DZ)) s->Eh (Em prog w) A (setNext a slot i ep) Q E s)
  (h:∀h',h'.get? it=some (NL (EZ DZ) (i+1) a es.size ep)->EJ it s.heap h'->Q (some x) { s with heap:=h' }):Eh (Em prog w) A (L8<|.ref it) Q E s:=by
 unfold L8;refine Q7<|Ve<|YT (name:=EU "__next__") (qG b) slot_next<|Ym slot_next (qG b) entry_next ?_<|args_next _
 unfold Builtin.«set_iterator.__next__»;refine Q7<|J4 (a:=(Et it,[])) rfl ?_;refine Q7<|Ub b rfl ?_;show Eh _ _ (setEntries a>>=_) _ _ s;refine Q7<|JI j hd f ?_;have d:(((es.size:Nat):Int) !=((es.size:Nat):Int))=false:=by simp
 rw[Zt (by rw[d];decide)];show Eh _ _ (setNext a slot i ep>>=_) _ _ s;refine Q7<|hn _ _ _ ?_;show Eh _ _ (setField (.ref it) 0 (EZ DZ)>>=_) _ _ s;refine Q7 (Jh b rfl (by simp) ?_);have c:=Ye (LI (·.setIfInBounds 0 (EZ (DZ:Nat)))) b rfl;refine Q7 (Jh c rfl (by simp) ?_);have e:=Ye (LI (·.setIfInBounds 1 (EZ<|(i:Int)+1))) c rfl;exact Za ⟨x,rfl,Za<|h _ e<|(EH ..).trans<|EH ..⟩
theorem kR {it a:Ef}{o:Obj}{es:Array (Int×Ee)}{ep:Nat}{t:E4}{slot i:Nat}{Q:Dc->Dh}(d:A.handled=none)(c:s.heap.get? it=some (NL (EZ slot) i a es.size ep))(g:s.heap.get? a=some o)(hd:o.data=.set es ep t)(f:t.fits es.size=true)
  (hn:∀(A:ED) (E:Ee->Dh) (Q:Option (Ee×Nat)->Dh),Q none s->Eh (Em prog w) A (setNext a slot i ep) Q E s)
  (h:∀h',Heap.ExtBut it s.heap h'->Q none { s with heap:=h' }):Eh (Em prog w) A (L8<|.ref it) Q E s:=by
 unfold L8;refine Q7<|Ve<|YT (name:=EU "__next__") (qG c) slot_next<|Ym slot_next (qG c) entry_next ?_<|args_next _
 unfold Builtin.«set_iterator.__next__»;refine Q7<|J4 (a:=(Et it,[])) rfl ?_;refine Q7<|Ub c rfl ?_;show Eh _ _ (setEntries a>>=_) _ _ s;refine Q7<|JI g hd f ?_;have e:(((es.size:Nat):Int) !=((es.size:Nat):Int))=false:=by simp
 rw[Zt (by rw[e];decide)];show Eh _ _ (setNext a slot i ep>>=_) _ _ s;refine Q7<|hn _ _ _ ?_;show Eh _ _ (setField (.ref it) 2 .none>>=_) _ _ s;refine Q7 (Jh c rfl (by simp) ?_);refine Q7 ?_;simp only[newExc,newTuple];refine Q7 (Ya ?_<|by size_fits);refine Q7 (m:=firstArgMember _ _) (J4 (a:=EF) (by first|rfl|(simp only[firstArgMember];rfl)) ?_);refine Ya ?_ (by size_fits);simp only[raiseNew];refine Q7<|wpAny_handled ?_
 first|rw[show A.in1.handled=none from d]|rw[d]
 refine Q7<|Za<|wpAny_throw ?_;refine Q7<|YV (T:="StopIteration") (b:=true) ⟨_,Zp _ rfl,rfl⟩ isSubtype_stop ?_;refine Za<|h _ ?_;refine((Heap.ExtBut.push ?_ _).push _);exact(EH ..).extBut
def Tq (ps:List Nat):Obj:={ cls:=.type "tuple",data:=.seq (ps.map fun i=>EZ (i:Nat)).toArray }
theorem MP {it a u:Ef}{o:Obj}{es:Array (Int×Ee)}{ep:Nat}{t:E4}{i p:Nat}{ps:List Nat}{e:Int×Ee}{Q:Dc->Dh}(b:s.heap.get? it=some (NL (.ref u) i a es.size ep))(r:s.heap.get? u=some (Tq ps))(f:s.heap.get? a=some o)(hd:o.data=.set es ep t)(d:t.fits es.size=true)
  (q:ps[i]?=some p) (n:es[p]?=some e) (h:∀h',h'.get? it=some (NL (.ref u) (i+1) a es.size ep)->EJ it s.heap h'->Q (some e.2) { s with heap:=h' }):Eh (Em prog w) A (L8<|.ref it) Q E s:=by
 unfold L8;refine Q7<|Ve<|YT (name:=EU "__next__") (qG b) slot_next<|Ym slot_next (qG b) entry_next ?_<|args_next _
 unfold Builtin.«set_iterator.__next__»;refine Q7<|J4 (a:=(Et it,[])) rfl ?_;refine Q7<|Ub b rfl ?_;show Eh _ _ (setEntries a>>=_) _ _ s;refine Q7<|JI f hd d ?_;have g:(((es.size:Nat):Int) !=((es.size:Nat):Int))=false:=by simp
 rw[Zt (by rw[g];decide)];show Eh _ _ (seqItems? (.ref u)>>=_) _ _ s;refine Q7<|wpAny_seqItems r rfl ?_;have c:(ps.map fun i=>EZ ((i:Nat):Int)).toArray[i]?=some (EZ (p:Nat)):=by
  rw[VI,Zk,q];rfl
 show Eh _ _ (match(ps.map fun i=>EZ ((i:Nat):Int)).toArray[i]? with|some (.int place _)=>_|some _=>_|none=>_) _ _ s;rw[c];show Eh _ _ (setNextDrawn a p ep>>=_) _ _ s;unfold setNextDrawn;refine Q7<|Q7<|ZT f hd d ?_;have j:(ep !=ep)=false:=by simp
 dsimp only;rw[Zt (by rw[j];decide)];rw[n];refine Za ?_;show Eh _ _ (setField (.ref it) 1 (EZ<|(i:Int)+1)>>=_) _ _ s;refine Q7 (Jh b rfl (by simp) ?_);have l:=Ye (LI (·.setIfInBounds 1 (EZ<|(i:Int)+1))) b rfl;exact Za ⟨e.2,rfl,Za<|h _ l<|EH ..⟩
theorem IH {it a u:Ef}{o:Obj}{es:Array (Int×Ee)}{ep:Nat}{t:E4}{i:Nat}{ps:List Nat}{Q:Dc->Dh}(e:A.handled=none)(c:s.heap.get? it=some (NL (.ref u) i a es.size ep))(p:s.heap.get? u=some (Tq ps))(l:s.heap.get? a=some o)(hd:o.data=.set es ep t)(j:t.fits es.size=true)
  (n:ps[i]?=none) (h:∀h',Heap.ExtBut it s.heap h'->Q none { s with heap:=h' }):Eh (Em prog w) A (L8<|.ref it) Q E s:=by
 unfold L8;refine Q7<|Ve<|YT (name:=EU "__next__") (qG c) slot_next<|Ym slot_next (qG c) entry_next ?_<|args_next _
 unfold Builtin.«set_iterator.__next__»;refine Q7<|J4 (a:=(Et it,[])) rfl ?_;refine Q7<|Ub c rfl ?_;show Eh _ _ (setEntries a>>=_) _ _ s;refine Q7<|JI l hd j ?_;have f:(((es.size:Nat):Int) !=((es.size:Nat):Int))=false:=by simp
 rw[Zt (by rw[f];decide)];show Eh _ _ (seqItems? (.ref u)>>=_) _ _ s;refine Q7<|wpAny_seqItems p rfl ?_;have d:(ps.map fun i=>EZ ((i:Nat):Int)).toArray[i]?=none:=by
  rw[VI,Zk,n];rfl
 show Eh _ _ (match(ps.map fun i=>EZ ((i:Nat):Int)).toArray[i]? with|some (.int place _)=>_|some _=>_|none=>_) _ _ s;rw[d];show Eh _ _ (setField (.ref it) 0 (EZ 0)>>=_) _ _ s;refine Q7 (Jh c rfl (by simp) ?_);have g:=Ye (LI (·.setIfInBounds 0 (EZ 0))) c rfl;refine Q7 (Jh g rfl (by simp) ?_);refine Q7 ?_;simp only[newExc,newTuple];refine Q7 (Ya ?_<|by size_fits);refine Q7 (m:=firstArgMember _ _) (J4 (a:=EF) (by first|rfl|(simp only[firstArgMember];rfl)) ?_);refine Ya ?_ (by size_fits);simp only[raiseNew];refine Q7<|wpAny_handled ?_
 first|rw[show A.in1.handled=none from e]|rw[e]
 refine Q7<|Za<|wpAny_throw ?_;refine Q7<|YV (T:="StopIteration") (b:=true) ⟨_,Zp _ rfl,rfl⟩ isSubtype_stop ?_;refine Za<|h _ ?_;refine((Heap.ExtBut.push ?_ _).push _);exact((EH ..).trans<|EH ..).extBut
end
section
variable {prog:Eg}{w:Ek}{A:ED}{E:Ee->Dh}{s:Ei}{a:Ef}{o:Obj}{es:Array (Int×Ee)}{ep:Nat}{t:E4}
theorem vR {slot i:Nat}{Q:Option (Ee×Nat)->Dh}(hb:byText w=true)(d:s.heap.get? a=some o)(hd:o.data=.set es ep t)(c:t.fits es.size=true)
  (h:Q (((Md (w.params.setOrder a ep) es)[i]?).map fun e=>(e.2,slot)) s):Eh (Em prog w) A (setNext a slot i ep) Q E s:=by
 have b:(Setting.mk (Em prog w).prog (Em prog w).w.params).params.followText "set-order"=true:=hb;unfold setNext MC;refine Q7<|ZT d hd c ?_;refine Q7<|Q7<|Je<|Za ?_;dsimp only;rw[Zs b];have f:(ep !=ep)=false:=by simp
 rw[Zt (by rw[f];decide)];unfold setWalk MC;refine Q7<|Q7<|ZT d hd c ?_;refine Q7<|Q7<|Je<|Za ?_;dsimp only;rw[Zs b];refine Q7<|Je ?_;exact Za<|Za h
theorem X4 {slot i:Nat}{Q:Option (Ee×Nat)->Dh}(hb:byText w=false)(hl:t.led=true)(g:es.size<=1)(f:s.heap.get? a=some o)(hd:o.data=.set es ep t)(e:t.fits es.size=true)
  (h:Q (match es[Ld t.place slot]?,t.place[Ld t.place slot]? with|some (_,x),some j=>some (x,j+1)|_,_=>none) s):Eh (Em prog w) A (setNext a slot i ep) Q E s:=by
 have b:(Setting.mk (Em prog w).prog (Em prog w).w.params).params.followText "set-order"=false:=hb;have c:(!t.plain&&decide (es.size>1))=false:=by rw[Zo<|by lia,YR]
 have d:(!t.led&&!es.isEmpty)=false:=by rw[hl];rfl
 unfold setNext MC;refine Q7<|ZT f hd e ?_;refine Q7<|Q7<|Je<|Za ?_;dsimp only;rw[Zt (by rw[b];decide)];refine Q7<|Za ?_;show Eh _ _ (if(!t.plain&&decide (es.size>1))=true then _ else _) _ _ _;rw[Zt (by rw[c];decide)];refine Q7 ?_;show Eh _ _ (if(!t.led&&!es.isEmpty)=true then _ else _) _ _ _;rw[Zt (by rw[d];decide)];exact Za<|Za h
theorem Fj {it:Ef}{Q:Ee->Dh}(b:s.heap.get? it=some (NL f i a n ep))(h:Q (.ref it) s):Eh (Em prog w) A (pyIter<|.ref it) Q E s:=by
 refine wpAny_pyIter_slot (qG b) XS<|Ym XS (qG b) Fe ?_<|FW _;show Eh _ _ (ret<|.ref it) _ _ s;exact Za ⟨_,rfl,"set_iterator",_,qG b,slot_next.lookup,h⟩
theorem bv (u:A.handled=none)(I:Ef)(c:a≠I)(hb:byText w=true)(hd:o.data=.set es ep t)(d:t.fits es.size=true) :
  Walks prog w A I [I,a] [I] es.size (fun i v=>((Md (w.params.setOrder a ep) es).toList.map (·.2))[i]?=some v) (fun i h=>h.get? I=some (NL (EZ (0:Nat)) (i:Nat) a es.size ep)/\h.get? a=some o) where
 sub:=fun b hb=>by simp at hb;simp[hb]
 frame:=fun _ _ _ st hk=>⟨hk I (by simp) _ st.1,hk a (by simp) _ st.2⟩
 item:=fun i s Q E y st g=>by
  have hl:(Md (w.params.setOrder a ep) es).toList.length=es.size:=by rw[(uO _ es).length_eq,Zx]
  have j:(Md (w.params.setOrder a ep) es).toList[i]?=some ((Md (w.params.setOrder a ep) es).toList[i]'(by lia)):=Zj (by lia);generalize (Md (w.params.setOrder a ep) es).toList[i]'(by lia)=e at j;refine Bo (slot:=0) (DZ:=0) (x:=e.2) st.1 c st.2 hd d (fun A E Q q=>vR hb st.2 hd d ?_) fun f r n=>?_
  ·rwa[←ZY,j]
  ·exact g _ f s.toks (by rw[Zk,j];rfl) ⟨r,(n.2 a c).trans st.2⟩ fun b l hb e=>(n.2 b<|by simpa using hb).trans e
 done:=fun s Q E st g=>by
  have hl:(Md (w.params.setOrder a ep) es).toList.length=es.size:=by rw[(uO _ es).length_eq,Zx]
  refine kR (slot:=0) u st.1 st.2 hd d (fun A E Q q=>vR hb st.2 hd d ?_) fun f p=>g f s.toks fun b l hb e=>p b l (by simpa using hb) e;rwa[←ZY,Yf<|by lia]
 self:=fun _ _ _ _ st h=>Fj st.1 h
theorem bx (H:A.handled=none)(I u:Ef)(n:a≠I)(r:u≠I)(ps:List Nat)(f:ps.Perm<|EC es.size)(hd:o.data=.set es ep t)(C:t.fits es.size=true) :
  Walks prog w A I [I,a,u] [I] es.size (fun i v=>(ps.filterMap fun p=>(es[p]?).map (·.2))[i]?=some v) (fun i h=>h.get? I=some (NL (.ref u) (i:Nat) a es.size ep)/\h.get? a=some o/\h.get? u=some (Tq ps)) where
 sub:=fun b hb=>by simp at hb;simp[hb]
 frame:=fun _ _ _ st hk=>⟨hk I (by simp) _ st.1,hk a (by simp) _ st.2.1,hk u (by simp) _ st.2.2⟩
 item:=fun i s Q E K st l=>by
  have hl:ps.length=es.size:=by rw[f.length_eq,Yz]
  have d:ps[i]?=some (ps[i]'(by lia)):=Zj (by lia);have hm:ps[i]'(by lia)<es.size:=YQ.mp<|f.mem_iff.mp<|YL _;have B:es[ps[i]'(by lia)]?=some (es[ps[i]'(by lia)]'hm):=ZW hm;have all:ps.filterMap (fun p=>(es[p]?).map (·.2))=ps.map fun p=>(((es[p]?).map (·.2)).getD .none):=by
   have:∀c:List Nat,(∀q∈c,q<es.size)->c.filterMap (fun p=>(es[p]?).map (·.2))=c.map fun p=>(((es[p]?).map (·.2)).getD .none):=fun c=>by
    induction c with
    |nil=>intro _;rfl
    |cons q c ih =>
     intro g;have x:es[q]?=some (es[q]'(g q Ze)):=ZW _;rw[YN,Zu,x];simp only[Yt,VO];rw[ih fun z J=>g z<|Zb _ J]
   exact this ps fun q g=>YQ.mp<|f.mem_iff.mp g
  refine MP st.1 st.2.2 st.2.1 hd C d B fun j G y=>?_;refine l _ j s.toks ?_ ⟨G,(y.2 a n).trans st.2.1,(y.2 u r).trans st.2.2⟩ fun b D hb e=>(y.2 b<|by simpa using hb).trans e;rw[all,Zk,d];simp only[Yt,B,VO]
 done:=fun s Q E st l=>by
  have hl:ps.length=es.size:=by rw[f.length_eq,Yz]
  exact IH H st.1 st.2.2 st.2.1 hd C (Yf<|by lia) fun j F=>l j s.toks fun b D hb e=>F b D (by simpa using hb) e
 self:=fun _ _ _ _ st h=>Fj st.1 h
theorem Iw (xs:Array Nat)(h:xs.size<=1):Ld xs 0=0:=by
 unfold Ld;have b:xs.size=0\/xs.size=1:=by lia
 rcases b with e|e
 ·rw[e];rfl
 ·rw[e];unfold SetTable.below.go;rw[Zs<|by decide];show(if xs.getD 0 0<0 then _ else _)=_;rw[Zt<|by lia];rfl
theorem On (xs:Array Nat)(h:xs.size=1):Ld xs (xs.getD 0 0+1)=1:=by
 unfold Ld;rw[h];unfold SetTable.below.go;rw[Zs<|by decide];show(if xs.getD 0 (xs.getD 0 0+1)<xs.getD 0 0+1 then _ else _)=_;have e:∀d,xs.getD 0 d=xs[0]'(by lia):=fun d=>by
  rw[ZO,ZW<|by lia];rfl
 rw[e,e,Zs<|by lia];rfl
def mU (t:E4):Nat->Nat
 | 0=>0
 |_+1=>t.place.getD 0 0+1
theorem bw (F:A.handled=none)(I:Ef)(d:a≠I)(hb:byText w=false)(hl:t.led=true)(f:es.size<=1)(hd:o.data=.set es ep t)(c:t.fits es.size=true) :
  Walks prog w A I [I,a] [I] es.size (fun i v=>(es.toList.map (·.2))[i]?=some v) (fun i h=>h.get? I=some (NL (EZ ((mU t i:Nat):Int)) (i:Nat) a es.size ep)/\h.get? a=some o) where
 sub:=fun b hb=>by simp at hb;simp[hb]
 frame:=fun _ _ _ st hk=>⟨hk I (by simp) _ st.1,hk a (by simp) _ st.2⟩
 item:=fun i s Q E p st l=>by
  have G:i=0:=by lia
  subst G;have r:t.place.size=es.size:=by
   unfold Mn at c;rw[Zm]at c;exact Vt c.1
  have u:es[0]?=some (es[0]'p):=ZW p;have y:t.place[0]?=some (t.place[0]'(by lia)):=ZW (by lia);have n:t.place.getD 0 0=t.place[0]'(by lia):=by rw[ZO,y];rfl
  refine Bo (slot:=0) (DZ:=t.place.getD 0 0+1) (x:=(es[0]'p).2) st.1 d st.2 hd c (fun A E Q q=>X4 hb hl f st.2 hd c ?_) fun g f B=>?_
  ·rwa[Iw _<|by lia,u,y,←n]
  ·refine l _ g s.toks ?_ ⟨f,(B.2 a d).trans st.2⟩ fun b z hb e=>(B.2 b<|by simpa using hb).trans e;rw[Zk,ZY,u];rfl
 done:=fun s Q E st l=>by
  have r:t.place.size=es.size:=by
   unfold Mn at c;rw[Zm]at c;exact Vt c.1
  refine kR (slot:=mU t es.size) F st.1 st.2 hd c (fun A E Q q=>X4 hb hl f st.2 hd c ?_) fun g C=>l g s.toks fun b z hb e=>C b z (by simpa using hb) e;have D:es.size=0\/es.size=1:=by lia
  rcases D with e|e
  ·rw[e];show Q (match es[Ld t.place 0]?,t.place[Ld t.place 0]? with|some (_,x),some j=>some (x,j+1)|_,_=>none) s;rwa[Iw _<|by lia,Y3<|by lia]
  ·rw[e];show Q (match es[Ld t.place<|t.place.getD 0 0+1]?,t.place[Ld t.place<|t.place.getD 0 0+1]? with|some (_,x),some j=>some (x,j+1)|_,_=>none) s;rwa[On _<|by lia,Y3<|by lia]
 self:=fun _ _ _ _ st h=>Fj st.1 h
end
def x4 (vs:Db)(b:Da):Prop:=vs.length=b.length/\∀(i:Nat) (v:Ee),vs[i]?=some v->∃k t,b[i]?=some k/\v=.str k t
section
variable {prog:Eg}{w:Ek}{A:ED}{E:Ee->Dh}{s:Ei}{a:Ef}{ks:Da}
theorem GI {l:List (Int×Ee)}(h:Mw (strKind prog w) l):x4 (l.map (·.2)) (l.map keyOf):=by
 refine⟨by rw[Q8,Q8],fun i v e=>?_⟩;rw[Zk]at e;cases q:l[i]? with
 |none=>rw[q]at e;cases e
 |some x =>
  rw[q]at e;have e:x.2=v:=Option.some.inj e;obtain⟨⟨k,hk,_⟩,_⟩:=h x<|Zn q;obtain⟨t,b⟩:=YD hk;exact⟨k,t,by rw[Zk,q];show some (keyOf x)=_;unfold keyOf;rw[b],by rw[←e];exact b⟩
theorem Ts {Q:Ee->Dh}(O:yj prog w s.heap a ks)(hk:ks.length<=1000)(D:A.handled=none)
  (h:∀(I:Ef) (fp:Dd) (h':Ev) d tk (vs:Db) (zs:Da) (St:Nat->Ev->Prop),s.heap.objs.size<=I->(∀b∈fp,b=a\/s.heap.objs.size<=b)->(∀b o,s.heap.get? b=some o->h'.get? b=some o)->zs.Perm ks->x4 vs zs -> Walks prog w A I fp [I] ks.length (fun i v=>vs[i]?=some v) St->St 0 h'->Q (.ref I) { s with heap:=h',drawn:=d,toks:=tk }):Eh (Em prog w) A (pyIter<|.ref a) Q E s:=by
 obtain⟨o,es,ep,t,x,R,hd,X⟩:=O;have g:=XJ X;obtain⟨f,G,hb,C,l,H⟩:=X;have n:a<s.heap.objs.size:=Zq x;have r:a≠s.heap.objs.size:=Zz n;refine PV x R hd C (by lia) (fun q=>?_)<|fun q B d tk y=>?_
 ·have kp:∀b u,s.heap.get? b=some u->(s.heap.push<|NL (EZ 0) 0 a es.size ep).get? b=some u:=fun b u e=>Zd _ e;have j:∀b∈[s.heap.objs.size,a],b=a\/s.heap.objs.size<=b:=fun b hb=>by
   rcases Zi.mp hb with z|z
   ·exact .inr (J8 z.symm)
   ·exact .inl (Q9.mp z)
  cases c:byText w with
  |true =>
   have W:=bv (prog:=prog) (A:=A) (es:=es) (ep:=ep) (t:=t) (o:=o) D s.heap.objs.size r c hd C;have K:=uO (w.params.setOrder a ep) es;rw[g]at W;exact h _ _ _ s.drawn s.toks _ _ _ (Zf _) j kp ((K.map keyOf).trans G) (GI<|f.perm K) W ⟨by rw[←g];exact Zp _ rfl,Zd _ x⟩
  |false =>
   have N:es.size<=1:=by
    rw[c]at q
    by_cases z:es.size>1
    ·rw[H<|by lia,Zg z]at q;cases q
    ·lia
   have hl:t.led=true:=by rw[l];show(!byText w)=true;rw[c];rfl
   have W:=bw (prog:=prog) (A:=A) (es:=es) (ep:=ep) (t:=t) (o:=o) D s.heap.objs.size r c hl N hd C;rw[g]at W;exact h _ _ _ s.drawn s.toks _ _ _ (Zf _) j kp G (GI f) W ⟨by rw[←g];exact Zp _ rfl,Zd _ x⟩
 ·have F:a≠s.heap.objs.size+1:=Zz<|Y0 n;have W:=bx (prog:=prog) (w:=w) (A:=A) (es:=es) (ep:=ep) (t:=t) (o:=o) (a:=a) D (s.heap.objs.size+1) s.heap.objs.size F (Zz<|Jn _) B y hd C;have J:(B.filterMap fun p=>es[p]?).Perm es.toList:=by
   refine(y.filterMap _).trans ?_;have e:=Vb es.toList;rw[Zx]at e;have L:(EC es.size).filterMap (fun p=>es[p]?)=(EC es.size).filterMap fun i=>es.toList[i]?:=by congr 1;funext p;exact(ZY ..).symm
   rw[L,e]
  have P:(B.filterMap fun p=>(es[p]?).map (·.2))=(B.filterMap fun p=>es[p]?).map (·.2):=by rw[List.map_filterMap]
  rw[g]at W;rw[P]at W;have M:(s.heap.push<|Tq B).objs.size=s.heap.objs.size+1:=YB _ _;refine h _ _ _ d tk _ _ _ (JD _) (fun b hb=>?_) (fun b u e=>Zd _<|Zd _ e) ((J.map keyOf).trans G) (GI<|f.perm J) W ⟨?_,Zd _<|Zd _ x,Zd _<|Zp _ rfl⟩
  ·rcases Zi.mp hb with z|z
   ·exact .inr (by rw[z];exact JD _)
   ·rcases Zi.mp z with z|z
    ·exact .inl z
    ·exact .inr (J8 (Q9.mp z).symm)
  ·rw[←M,←g];exact Zp _ rfl
theorem PP (e:s.TypeIs (.ref a) "set"){Q:Bool->Dh}(h:Q false s):Eh (Em prog w) A (Builtin.List.listLengthHint<|.ref a) Q E s:=by
 unfold Builtin.List.listLengthHint;refine Q7<|JU e PySem.F.slot_set_len.lookup ?_;generalize d:("set.__len__":String)=f;wp_delta;rw[show splitId f=some ("set","__len__") from by subst d;decide +kernel];subst d;refine Q7 (YV (T:="set") (b:=true) e (by rw[Ji];kernel_rfl) ?_);refine Yr (fun c=>absurd c<|by decide) (fun _=>?_);refine Yr (fun _=>?_) (fun c=>absurd (by decide +kernel) c);refine Q7<|JO e ?_;exact Za h
open PySem.Calls PyProof.V in
theorem Pb {R:Result->Dh}(X:A.handled=none)(v:yj prog w s.heap a ks)(hk:ks.length<=1000)(S:Ef)(n:S≠a)(res:Ee)(l:Nat)(J:s.heap.get? S=some { cls:=.type "list",data:=.seq #[] l })
  (U:∀h' d tk DL c' (zs:Da),(∀b o,b≠S->s.heap.get? b=some o->h'.get? b=some o)->h'.get? S=some { cls:=.type "list",dict:=none,data:=.seq DL c',slots:=#[] }->zs.Perm ks->x4 DL.toList zs->R (.ok<|.ret res) { s with heap:=h',drawn:=d,toks:=tk }) :
  Eh (Em prog w) A.in1 (LK (.ref S) (.ref a) res)
   (fun fin s'=>match fin with|.done f=>R (.ok f) s'|.again c'=>c'.quiet=true/\LS (Em prog w) A c' R s') (fun e s'=>R (.error e) s') s:=by
 have q:S<s.heap.objs.size:=Zq J;have ty:s.TypeIs (.ref a) "set":=by obtain⟨o,N,M,t,B,D,_⟩:=v;exact⟨o,B,D.1⟩
 unfold LK;refine Q7<|JO (T:="set") ty ?_;have P:Builtin.List.listSameRef (.ref S) (.ref a)=false:=by simp[Builtin.List.listSameRef,n]
 have Z:(Value.type "set"==Value.type "list")=false:=by decide
 have nt:(Value.type "set"==Value.type "tuple")=false:=by decide
 simp only[P,Z,nt,Bool.or_false,Z7,JT];refine Q7<|Ts (A:=A.in1) v hk X fun I O h' d tk K zs St Q y kp hz tx W st=>?_;have G:LJ { s with heap:=h',drawn:=d,toks:=tk } (.ref a) "set":=by obtain⟨o,N,M,t,B,D,_⟩:=v;exact⟨o,kp _ _ B,D.1⟩
 refine Q7<|ZZ<|PP G ?_;have p:S∉O:=fun z=>by
  rcases y S z with e|e
  ·exact n e
  ·exact YC _ (ZJ q e)
 have c:=kp _ _ J;refine Yr (fun _=>?_) (fun z=>absurd (by decide) z);refine Q7<|JQ ?_;refine Q7 ?_;show Eh _ _ (updateSeq S (·.push .none)>>=fun _=>updateSeq S (·.pop)) _ _ _;refine Q7<|wpAny_updateSeq c rfl ?_;have g:=Ye (Lc (·.push EF)) c rfl;refine wpAny_updateSeq (hz:=by seq_fits) g rfl ?_;have j:=Ye (Lc (·.pop)) g rfl;refine Za ⟨Vd PySem.F.plain_extend_loop _,?_⟩;have r:∀b o,b≠S->h'.get? b=some o->((h'.update S (Lc (·.push EF))).update S (Lc (·.pop))).get? b=some o:=fun b o hb e =>
  (YJ _ _<|EB hb).trans ((YJ _ _<|EB hb).trans e)
 have E:=W.frame 0 _ _ st fun b hb o e=>r b o (fun z=>p<|z▸hb) e;refine codeAny_extend_loopS W.toS (by rw[Ys];lia) S p res ks.length 0 _ #[] _ rfl (ZN _) E j (ItemsOf.nil _) fun s' DL c' hm u H=>?_;rw[Moved.eq_with hm];have C:DL.toList=K:=by
  have hl:DL.toList.length=K.length:=by rw[Zx,H.1,tx.1,hz.length_eq]
  refine Ug fun i=>?_
  by_cases Y:i<DL.size
  ·have e:=ZW Y;rw[ZY,e];exact(H.2 i _ e).symm
  ·rw[Yf (by rw[Zx];lia),Yf (by rw[←hl,Zx];lia)]
 refine U s'.heap d s'.toks DL c' zs (fun b o hb e=>hm.heap b o (fun h=>?_)<|r b o hb<|kp b o e) u hz (by rwa[C])
 rcases Zi.mp h with L|h
 ·exact hb L
 ·have x:b=I:=Q9.mp h;exact absurd (x▸Zq e)<|Nat.not_lt.mpr Q
open PySem.Calls PyProof.V PySem.W in
theorem Nm {R:Db->Dh}(D:A.handled=none)(z:yj prog w s.heap a ks)(hk:ks.length<=1000)
  (h:∀(h':Ev) d (tk:Nat) (vs:Db) (zs:Da),(∀b o,s.heap.get? b=some o->h'.get? b=some o)->zs.Perm ks->x4 vs zs->R vs { s with heap:=h',drawn:=d,toks:=tk }):Eh (Em prog w) A (collect<|.ref a) R E s:=by
 have u:a<s.heap.objs.size:=by obtain⟨o,I,H,t,G,_⟩:=z;exact Zq G
 unfold collect;refine Q7<|wpAny_runValue<|YI entry_proto_collect' ?_;rw[E8 PySem.F.plain_proto_collect _];show Eh _ A.in1 (newList []>>=fun l=>again<|.builtin "list.__iadd__" ⟨[l,.ref a],[]⟩) _ _ s;refine Q7<|Ya ?_;refine Za ⟨Vd PySem.F.plain_list_iadd _,YI entry_list_iadd' ?_⟩;rw[E8 PySem.F.plain_list_iadd _];have g:(s.heap.push { cls:=.type "list",data:=.seq ([]:Db).toArray }).get? s.heap.objs.size=some { cls:=.type "list",data:=.seq #[] }:=Zp _ rfl;show Eh _ A.in1 (LK (.ref s.heap.objs.size) (.ref a)<|.ref s.heap.objs.size) _ _ _;have key:=Pb (prog:=prog) (w:=w) (A:=A) (a:=a) (ks:=ks) (s:={ s with heap:=s.heap.push { cls:=.type "list",data:=.seq ([]:Db).toArray } })
  (R:=fun(q:Result) (v:Ei)=>∃(h':Ev) (d:Drawn) (tk:Nat) (i:Array Ee) (j:Nat) (zs:Da),q=.ok (.ret<|.ref s.heap.objs.size)/\v={ s with heap:=h',drawn:=d,toks:=tk } /\ (∀b o,s.heap.get? b=some o->h'.get? b=some o)/\h'.get? s.heap.objs.size=some { cls:=.type "list",dict:=none,data:=.seq i j,slots:=#[] }/\zs.Perm ks/\x4 i.toList zs)
  D (z.at fun o e=>Zd _ e) hk s.heap.objs.size (YW u) (.ref s.heap.objs.size) 0 g
  (fun h' d tk i j zs hk c n p=>⟨h',d,tk,i,j,zs,rfl,rfl,fun b o e=>hk b o (Zz<|Zq e)<|Zd _ e,c,n,p⟩)
 refine Yu key (fun r v x=>?_) fun e v x=>?_
 ·cases r with
  |done f =>
   obtain⟨h',d,tk,i,j,zs,e,rfl,hk,c,n,p⟩:=x;cases e;show Eh _ A (load s.heap.objs.size>>=_) _ _ _;refine Q7<|wpAny_load c ?_;exact Za<|h h' d tk _ zs hk n p
  |again c₁ =>
   refine⟨x.1,YY x.2 fun q B y=>?_⟩;obtain⟨h',d,tk,i,j,zs,rfl,rfl,hk,c,n,p⟩:=y;show Eh _ A (load s.heap.objs.size>>=_) _ _ _;refine Q7<|wpAny_load c ?_;exact Za<|h h' d tk _ zs hk n p
 ·obtain⟨_,_,_,_,_,_,C,_⟩:=x;cases C
end
section
variable {prog:Eg}{w:Ek}{A:ED}{E:Ee->Dh}{s:Ei}
set_option maxHeartbeats 6400000 in
theorem call_set_list {l:Ef}{Dn:Array Ee}{xs:Da}{Q:Ee->Dh}(hh:A.handled=none)(hl:s.heap.IsList l Dn)(Dp:xs.length=Dn.size)(hi:∀(i:Nat) (v:Ee),Dn[i]?=some v->∃k t,xs[i]?=some k/\v=.str k t)(hb:Dn.size+1<Mc)
  (h:∀(h':Ev) (tk:Nat),yj prog w h' s.heap.objs.size (uniq xs)->(∀b o,s.heap.get? b=some o->h'.get? b=some o)->Q (.ref s.heap.objs.size) { s with heap:=h',toks:=tk }):Eh (Em prog w) A (call (.type "set") [.ref l]) Q E s:=by
 obtain⟨c,tl,X⟩:=F.called_set.mro;have M:=F.called_set.made;have ab:=F.called_set.sub;have h1:=F.called_set.notType;have h2:=F.called_set.canCreate;have ap:=F.typeCall_set_1<|.ref l;refine Vl<|VZ ?_;show Eh _ _ (callAny (.type "set") _) _ _ _;refine Za ⟨L9 _<|by decide +kernel,YI F.entry_type_call ?_⟩;rw[Around.under_plain (VJ "set" [.ref l] []) rfl]
 repeat (any_goals (first|assumption|wp_step))
 refine YY (FH (.ref l) (E:=E) (Q₁:=fun obj f=>obj=.ref s.heap.objs.size/\f={ s with heap:=s.heap.push (zO w) }) ⟨rfl,rfl⟩) fun r f O=>?_;cases r with
 |error e=>exact O
 |ok fl =>
  cases fl with
  |ret obj =>
   obtain⟨rfl,rfl⟩:=O;have G:(s.heap.push<|zO w).get? s.heap.objs.size=some (zO w):=Zp _ rfl;have hT:LJ { s with heap:=s.heap.push (zO w) } (.ref s.heap.objs.size) "set":=⟨_,G,rfl⟩;have as:=F.called_set.init.lookup;have an:=F.called_set.init.bind<|.ref s.heap.objs.size
   repeat (any_goals (first|assumption|wp_step))
   refine YY (JE (R:=wants (fun r g=>r=.none/\∃h' tk,g={ s with heap:=h',toks:=tk }/\yj prog w h' s.heap.objs.size (uniq xs) /\ (∀b o,s.heap.get? b=some o->h'.get? b=some o)) E) F.called_set.init.plain F.entry_set_init (check_set_init_1 hT ?_)) fun B g d=>?_
   ·have n:(s.heap.push<|zO w).IsList l Dn:=hl.push _;obtain⟨ol,N,q,nl,u⟩:=id n;have y:l<s.heap.objs.size:=by obtain⟨_,e,_⟩:=hl;exact Zq e
    obtain⟨al,S,P,C⟩:=ol;simp only at q u;subst q;subst u;have Z:=sub_list_set;have Y:=sub_list_frozenset;have ax:(Value.type "list"==Value.type "dict")=false:=by decide
    unfold zO at G N;unfold Builtin.«set.__init__» noKeywords EX;generalize D:pyIter=PI;unfold zO
    wp_walk
    subst D;refine JX n ?_;refine Q7<|wpAny_runValue ?_;have K:A.in1.in1.in1.handled=none:=by simp[hh]
    have z:l≠(s.heap.push<|zO w).objs.size:=by
     rw[YB];exact Zz<|Y0 y
    have H:s.heap.objs.size∉[(s.heap.push<|zO w).objs.size,l]:=by
     rw[YB];simp only[Zi,Q9,Yq,J3,not_or];exact⟨Zz<|Jn _,YW y⟩
    refine Of ((Walks.list K _ l z Dn).toS) s.heap.objs.size H xs Dp hi hb (Dn.size-0) 0 _ (by lia) (ZN _)
     ⟨⟨_,Zp _ rfl,rfl,rfl⟩,(n.push _)⟩ ?hS0 ?hR
    case hS0 =>
     have x:((s.heap.push<|zO w).push { cls:=.type "list_iterator",data:=.fields #[.ref l,.int 0 0] }).get? s.heap.objs.size=some (zO w):=Zd _ G;exact IN x
    case hR =>
     intro s' hm j;obtain⟨h',g',d',U,T⟩:=s';have eg:g'=s.gens:=hm.gens;have ed:d'=s.drawn:=hm.drawn;have eo:T=s.os:=hm.os;subst eg;subst ed;subst eo;show Eh _ _ _ _ _ _;refine Za ?_;show Eh _ _ (ret EF) _ _ _;refine Za ⟨rfl,h',U,rfl,j,fun b o e=>?_⟩;have p:=Zq e;have I:b≠s.heap.objs.size:=Zz p;have J:b≠(s.heap.push<|zO w).objs.size:=by
      rw[YB];exact Zz<|Y0 p
     exact hm.heap b o (by simp only[Zi,Q9,Yq,J3,not_or];exact⟨I,J⟩)<|Zd _<|Zd _ e
   ·cases B with
    |error e=>exact d
    |ok fl₂ =>
     cases fl₂ with
     |ret r =>
      obtain⟨rfl,h',tk,rfl,j,L⟩:=d
      repeat (any_goals (first|assumption|wp_step))
      exact h _ _ j L
     |_=>exact d.elim
  |_=>exact O.elim
set_option maxHeartbeats 6400000 in
theorem ID {l:Ef}{Dn:Array Ee}{xs:Da}{Q:Ee->Dh}(hh:A.handled=none)(hl:s.heap.IsTuple l Dn)(Dp:xs.length=Dn.size)(hi:∀(i:Nat) (v:Ee),Dn[i]?=some v->∃k t,xs[i]?=some k/\v=.str k t)(hb:Dn.size+1<Mc)
  (h:∀(h':Ev) (tk:Nat),yj prog w h' s.heap.objs.size (uniq xs)->(∀b o,s.heap.get? b=some o->h'.get? b=some o)->Q (.ref s.heap.objs.size) { s with heap:=h',toks:=tk }):Eh (Em prog w) A (call (.type "set") [.ref l]) Q E s:=by
 obtain⟨c,tl,X⟩:=F.called_set.mro;have M:=F.called_set.made;have ab:=F.called_set.sub;have h1:=F.called_set.notType;have h2:=F.called_set.canCreate;have ap:=F.typeCall_set_1<|.ref l;refine Vl<|VZ ?_;show Eh _ _ (callAny (.type "set") _) _ _ _;refine Za ⟨L9 _<|by decide +kernel,YI F.entry_type_call ?_⟩;rw[Around.under_plain (VJ "set" [.ref l] []) rfl]
 repeat (any_goals (first|assumption|wp_step))
 refine YY (FH (.ref l) (E:=E) (Q₁:=fun obj f=>obj=.ref s.heap.objs.size/\f={ s with heap:=s.heap.push (zO w) }) ⟨rfl,rfl⟩) fun r f O=>?_;cases r with
 |error e=>exact O
 |ok fl =>
  cases fl with
  |ret obj =>
   obtain⟨rfl,rfl⟩:=O;have G:(s.heap.push<|zO w).get? s.heap.objs.size=some (zO w):=Zp _ rfl;have hT:LJ { s with heap:=s.heap.push (zO w) } (.ref s.heap.objs.size) "set":=⟨_,G,rfl⟩;have as:=F.called_set.init.lookup;have an:=F.called_set.init.bind<|.ref s.heap.objs.size
   repeat (any_goals (first|assumption|wp_step))
   refine YY (JE (R:=wants (fun r g=>r=.none/\∃h' tk,g={ s with heap:=h',toks:=tk }/\yj prog w h' s.heap.objs.size (uniq xs) /\ (∀b o,s.heap.get? b=some o->h'.get? b=some o)) E) F.called_set.init.plain F.entry_set_init (check_set_init_1 hT ?_)) fun B g d=>?_
   ·have n:(s.heap.push<|zO w).IsTuple l Dn:=hl.push _;obtain⟨ol,N,q,nl,u⟩:=id n;have y:l<s.heap.objs.size:=by obtain⟨_,e,_⟩:=hl;exact Zq e
    obtain⟨al,S,P,C⟩:=ol;simp only at q u;subst q;subst u;have Z:=sub_tuple_set;have Y:=sub_tuple_frozenset;have ax:(Value.type "tuple"==Value.type "dict")=false:=by decide
    unfold zO at G N;unfold Builtin.«set.__init__» noKeywords EX;generalize D:pyIter=PI;unfold zO
    wp_walk
    subst D;refine V7 n ?_;refine Q7<|wpAny_runValue ?_;have K:A.in1.in1.in1.handled=none:=by simp[hh]
    have z:l≠(s.heap.push<|zO w).objs.size:=by
     rw[YB];exact Zz<|Y0 y
    have H:s.heap.objs.size∉[(s.heap.push<|zO w).objs.size,l]:=by
     rw[YB];simp only[Zi,Q9,Yq,J3,not_or];exact⟨Zz<|Jn _,YW y⟩
    refine Of ((Walks.tuple K _ l z Dn).toS) s.heap.objs.size H xs Dp hi hb (Dn.size-0) 0 _ (by lia) (ZN _)
     ⟨⟨_,Zp _ rfl,rfl,rfl⟩,(n.push _)⟩ ?hS0 ?hR
    case hS0 =>
     have x:((s.heap.push<|zO w).push { cls:=.type "tuple_iterator",data:=.fields #[.ref l,.int 0 0] }).get? s.heap.objs.size=some (zO w):=Zd _ G;exact IN x
    case hR =>
     intro s' hm j;obtain⟨h',g',d',U,T⟩:=s';have eg:g'=s.gens:=hm.gens;have ed:d'=s.drawn:=hm.drawn;have eo:T=s.os:=hm.os;subst eg;subst ed;subst eo;show Eh _ _ _ _ _ _;refine Za ?_;show Eh _ _ (ret EF) _ _ _;refine Za ⟨rfl,h',U,rfl,j,fun b o e=>?_⟩;have p:=Zq e;have I:b≠s.heap.objs.size:=Zz p;have J:b≠(s.heap.push<|zO w).objs.size:=by
      rw[YB];exact Zz<|Y0 p
     exact hm.heap b o (by simp only[Zi,Q9,Yq,J3,not_or];exact⟨I,J⟩)<|Zd _<|Zd _ e
   ·cases B with
    |error e=>exact d
    |ok fl₂ =>
     cases fl₂ with
     |ret r =>
      obtain⟨rfl,h',tk,rfl,j,L⟩:=d
      repeat (any_goals (first|assumption|wp_step))
      exact h _ _ j L
     |_=>exact d.elim
  |_=>exact O.elim
end
end AxS
namespace L2
open PySem PySem.Spec PyProof.Rows AxS
def UF (P:Eg)(w:Ek)(a:Ef)(ks:Da):HO:=.ext fun h=>yj P w h a ks
theorem B9 (x:yj P w h a ks):yp P w H h a (UF P w a ks):=by
 obtain⟨o,d,c,t,b,r⟩:=id x;exact⟨x,⟨o,b⟩,fun f g z k=>yj.at z fun o e=>k o e⟩
theorem vU (x:yp P w H h a<|UF P w a ks):yj P w h a ks:=x.1
section
variable {X:Cx}{K:Cd}
def S8 (P:Eg)(w:Ek):Dj->Hp->VK->Prop:=fun c H Q=>∃(a:Ef) (b:Da),c=[.ref a]/\H a=some (UF P w a b)/\Q (.int b.length) H
theorem Oq:xj X (.builtin "len") (S8 X.prog X.w):=by
 intro j s x H v p Q I r h;obtain⟨a,n,rfl,ha,q⟩:=h;obtain⟨u,rfl,i⟩:=wW r;cases i;obtain⟨o,e,l,t,g,b,hd,c⟩:=vU<|I.hok a _ ha;have d:=XJ c;obtain⟨_,_,hb,f,_⟩:=c;have hb:e.size<4096:=hb;refine call_len_set g b hd f (by lia) ?_;rw[d];exact⟨.int _,H,I.tok _,⟨_,rfl⟩,q⟩
theorem Inv.drew {d:Drawn}(I:Inv X Do σ H s):Inv X Do σ H { s with drawn:=d } :=
 ⟨I.ok,I.os,I.bare,I.base,I.loc,I.cell,I.free,I.wM,I.pin,I.hok,I.len⟩
theorem vf:∀{vs:Db} {zs:Da},x4 vs zs->StrsAre vs zs
 |[],[],_=>.nil
 |[],_::_,h=>by cases h.1
 |_::_,[],h=>by cases h.1
 |v::vs,z::zs,h=>by
  obtain⟨k,t,e,rfl⟩:=h.2 0 v rfl;have e:z=k:=Option.some.inj e;subst e;exact .cons _ _ (vf ⟨by have:=h.1;simpa using this,fun i v e=>by
   obtain⟨k,t,b,c⟩:=h.2 (i+1) v (by simpa using e);exact⟨k,t,by simpa using b,c⟩⟩)
def RN (P:Eg)(w:Ek):Dj->Hp->VK->Prop:=fun d H Q=>∃(a:Ef) (b:Da),d=[.ref a]/\H a=some (UF P w a b)/\b.length<64/\∀l c,H l=none->c.Perm b->sortedS c=true->Q (.ref l) (upd H l<|.lst<|c.map V.str)
theorem jT (S:X.calm=true):xj X (.builtin "sorted") (RN X.prog X.w):=by
 intro J s Z H xs us Q I r h;obtain⟨a,ks,rfl,ha,O,q⟩:=h;obtain⟨u,rfl,Y⟩:=wW r;cases Y;have P:=vU<|I.hok a _ ha;refine LW kind_sorted plain_sorted entry_sorted (args_sorted1 _) ?_;unfold Builtin.«sorted»;refine Q7 (m:=checkCount "sorted" 1 1 _)<|Za ?_;refine Q7 (Nm (A:=X.A.in1) (I.ok.hd S) P (by lia) fun f d y c zs n p E=>?_);have g:=vf E;have R:c.length<64:=by rwa[E.1,p.length_eq]
 have DH:64<=sizeLine:=by rw[Ys];decide
 refine Q7 (Uj ?_<|by lia);have i:(f.push<|Li "list" c.toArray 0).get? f.objs.size=some (Li "list" c.toArray 0):=Zp _ rfl;refine Q7 (ZZ<|Ym slot_list_sort ⟨_,i,rfl⟩ entry_list_sort (list_sort_treeK strKind_oneLt i g.keysOf (fun F G D e=>keyKind_strs<|by rwa[←e]) (by lia) fun l K L=>⟨_,rfl,?_⟩) (args_list_sort _));obtain⟨j,M,B,N⟩:=sorted_out_str g K L;refine Za ⟨_,rfl,?_⟩;obtain⟨e,T⟩:=sortedHeap_at (out:=(arrOf l).map (·.2)) i;have U:=XI M;have z:Inv X J Z H { s with heap:=f,drawn:=d,toks:=y }:=(I.kept (t':=y) n).drew (d:=d);have v:∀b x,f.get? b=some x->(sortedHeap (f.push<|Li "list" c.toArray 0) f.objs.size c ((arrOf l).map (·.2))).get? b=some x:=fun b x C=>by
  have hb:b<f.objs.size:=Zq C;rw[sortedHeap_old (Zz hb) (by rw[YB];exact Y0 hb)];exact Zd _ C
 have fr:H f.objs.size=none:=z.hok.fresh<|Zf _;have t:(j.map V.str).length<=sizeLine:=by
  have:=B.length_eq;have:=p.length_eq;rw[Q8];lia
 exact⟨.ref f.objs.size,_,z.laid (o:=.lst<|j.map V.str) (t':=y) v (Zf _) ⟨t,_,e,U,T⟩,rfl,q _ j fr (B.trans p) N⟩
def cc (K:Cd)(P:Eg)(w:Ek):Dj->Hp->VK->Prop:=fun c H Q=>∃(a:Ef) (b:Da),c=[.ref a]/\(yu K H a (b.map V.str)\/xu K H a (b.map V.str))/\b.length<=1000/\∀p,H p=none->Q (.ref p) (upd H p<|UF P w p<|uniq b)
theorem Gr {ls:Da}(r:yr (ls.map V.str) us):x4 us ls:=by
 refine⟨by rw[←r.length,Q8],fun i v e=>?_⟩;have b:i<ls.length:=by have:=(Zw.mp e).1;rw[←r.length,Q8]at this;exact this
 obtain⟨u,c,d⟩:=r.get (show(ls.map V.str)[i]?=some (V.str ls[i]) by rw[Zk,Zj b];rfl);rw[c]at e;cases e;obtain⟨t,rfl⟩:=d;exact⟨_,t,Zj b,rfl⟩
theorem GJ (p:X.calm=true)(A:X.K=K:=by rfl):xj X (.type "set") (cc K X.prog X.w):=by
 subst A;intro z s C H E D Q I r h;obtain⟨a,t,rfl,ha,hl,q⟩:=h;obtain⟨u,rfl,B⟩:=wW r;cases B;have d:∀(f:Ev) (n:Nat),yj X.prog X.w f s.heap.objs.size (uniq t)->(∀b o,s.heap.get? b=some o->f.get? b=some o)->EP X z C Q (.ref s.heap.objs.size) { s with heap:=f,toks:=n }:=fun f n x k =>
  ⟨.ref s.heap.objs.size,_,I.laid (o:=UF X.prog X.w s.heap.objs.size<|uniq t) (t':=n) k (Zf _)<|B9 x,rfl,q _<|I.hok.fresh<|Zf _⟩
 have y:Mc=4096:=rfl
 rcases ha with ha|ha
 ·obtain⟨g,l,j,_⟩:=I.list ha;have c:=Gr l;exact call_set_list (I.ok.hd p) j.isList (by rw[Zy];exact c.1.symm) (fun i v e=>c.2 i v<|by simpa using e) (by rw[Zy,c.1,y];lia) d
 ·obtain⟨g,l,j,_⟩:=I.tuple ha;have c:=Gr l;exact ID (I.ok.hd p) j (by rw[Zy];exact c.1.symm) (fun i v e=>c.2 i v<|by simpa using e) (by rw[Zy,c.1,y];lia) d
end
end L2
namespace An
open PySem PySem.Spec PyProof.Rows L2
def Pd (a b:Str):Prop:=¬b.cps.toList<a.cps.toList
theorem OQ (d:Pd a b)(e:Pd b c):Pd a c:=by
 have d:a.cps.toList<=b.cps.toList:=J5.mp d;have e:b.cps.toList<=c.cps.toList:=J5.mp e;exact J5.mpr<|List.le_trans d e
theorem vV (c:Pd a b)(d:Pd b a):a=b:=by
 have e:a.cps.toList=b.cps.toList:=List.le_antisymm (J5.mp c)<|J5.mp d;exact xq e
theorem BO:∀(l:Da) (p:Str),risingS p l=true->(p::l).Pairwise Pd
 |[],p,_=>JJ _ _
 |x::r,p,h=>by
  have h:(!ltCps x.cps.toList p.cps.toList&&risingS x r)=true:=h;rw[Zm,ltCps_eq]at h;have c:Pd p x:=fun z=>by rw[Zg z]at h;exact absurd h.1 (by decide)
  have d:=BO r x h.2;refine Vo.mpr ⟨fun y b=>?_,d⟩
  rcases Zi.mp b with rfl|b
  ·exact c
  ·exact OQ c ((Vo.mp d).1 y b)
theorem kT:∀{l:Da},sortedS l=true->l.Pairwise Pd
 |[],_=>List.Pairwise.nil
 |x::r,h=>BO r x h
def Xf:Da->Bool
 |[]=>true
 |x::r=>r.all (fun y=>decide (x.cps.toList<y.cps.toList))&&Xf r
theorem sS:∀{l:Da},Xf l=true↔l.Pairwise Pd/\l.Nodup
 |[]=>⟨fun _=>⟨List.Pairwise.nil,Yw⟩,fun _=>rfl⟩
 |x::r=>by
  show(r.all _&&Xf r)=true↔_;rw[Zm,sS,ZU,Vo,ZS];constructor
  ·rintro⟨b,d,e⟩;refine⟨⟨fun y c=>?_,d⟩,fun z=>?_,e⟩
   ·have:=Zv<|b y c;exact fun z=>J6 _<|List.lt_trans this z
   ·exact J6 _ (Zv<|b x z)
  ·rintro⟨⟨b,d⟩,e,f⟩;refine⟨fun y c=>Zg ?_,d,f⟩
   by_cases z:x.cps.toList<y.cps.toList
   ·exact z
   ·have:=vV (b y c) z;exact absurd (this▸c) e
theorem vC {ks:Da}{k:Str}(h:ks.Nodup):(AxS.step ks k).Nodup:=by
 unfold AxS.step
 split
 ·exact h
 ·rename_i z;rw[Y4];exact⟨h,by simp,fun a ha b hb=>by rw[Q9.mp hb];exact fun e=>z<|e▸ha⟩
theorem Gk:∀(xs ks:Da),ks.Nodup->(xs.foldl AxS.step ks).Nodup
 |[],ks,h=>h
 |x::xs,ks,h=>Gk xs _<|vC h
theorem fold_all:∀(xs ks:Da),(ks++xs).Nodup->xs.foldl AxS.step ks=ks++xs
 |[],ks,_=>by rw[ZG];rfl
 |x::xs,ks,h=>by
  have e:AxS.step ks x=ks++[x]:=by
   unfold AxS.step;rw[Zt];intro z;exact(Y4.mp h).2.2 x z x Ze rfl
  rw[JC,e,fold_all xs (ks++[x])<|by rwa[Z6],Z6];rfl
theorem Iv (xs:Da):(AxS.uniq xs).Nodup:=Gk xs [] Yw
theorem BD {xs:Da}(h:xs.Nodup):AxS.uniq xs=xs:=fold_all xs [] h
theorem Hj:∀(xs ks:Da) {x:Str},x∈xs.foldl AxS.step ks->x∈ks\/x∈xs
 |[],ks,x,h=>.inl h
 |y::xs,ks,x,h=>by
  rcases Hj xs _ h with z|z
  ·unfold AxS.step at z
   split at z
   ·exact .inl z
   ·rcases ZD.mp z with z|z
    ·exact .inl z
    ·exact .inr (Zi.mpr<|.inl<|Q9.mp z)
  ·exact .inr (Zb _ z)
theorem KI {xs:Da}{x:Str}(h:x∈AxS.uniq xs):x∈xs:=(Hj xs [] h).elim (fun z=>nomatch z) id
theorem Nb {xs ss:Da}(c:ss.Perm<|AxS.uniq xs)(hs:sortedS ss=true):decide (xs=ss)=Xf xs:=by
 rw[Yi,ZF,sS];constructor
 ·intro e;subst e;exact⟨kT hs,c.nodup_iff.mpr<|Iv _⟩
 ·rintro⟨d,f⟩;rw[BD f]at c;exact(JG (fun a b _ _=>vV) (kT hs) d c).symm
end An
namespace PySem.SeqAt
open MeetsSeq PyProof.Rows
end PySem.SeqAt
namespace L2
open PySem PySem.Spec PyProof.Rows
end L2
namespace PySem.W
open PySem PySem.Spec PySem.Calls PyProof.Rows Builtin Builtin.ObjectAttr Builtin.Getset_descriptor
section
variable {prog:Eg}{w:Ek}{A:ED}{E:Ee->Dh}{s:Ei}{K:Frag}{x D:Ef}{ox:Obj}
structure uy (K:Frag)(D:Ef):Prop where
 ga:findIn K (.ref D) "__getattribute__"=some (some<|.builtin "BaseException.__getattribute__")
 hk:findIn K (.ref D) "__getattr__"=some none
 ha:findIn K (.ref D) "__class__"=some (some<|.builtin "object.__class__")
 hn:specialIn K (.builtin "object.__class__") "__get__"=some (some<|.builtin "getset_descriptor.__get__")
 htk:takesIn K (.builtin "object.__class__")=some true
 hm:mroIn K D (.type "object")=some true
 hb:subIn K (.ref D) (.type "BaseException")=some true
 cl:(clsIn K D).isSome=true
structure sy (h:Ev)(x D:Ef):Prop where
 ex:∃o,h.get? x=some o/\o.cls=.ref D/\notCls o=true
theorem sy.type {M:Model}(I:sy h x D):Looks M h (typeOf<|.ref x) (.ref D):=by
 obtain⟨o,c,b,_⟩:=I.ex;exact b▸(Looks.ld c).andThen .now
theorem GZ {R:Result->Dh}{b:Ee}(X:K.In s.heap)(I:sy s.heap x D)(hm:mroIn K D (.type "object")=some true)
  (h:R (.ok<|.ret<|.ref D) s):LS (Em prog w) A (.call (.builtin "getset_descriptor.__get__") ⟨[.builtin "object.__class__",.ref x,b],[]⟩) R s:=by
 obtain⟨f,g,e,t,os⟩:=s;have c:=I.type (M:=Em prog w);have d:=looks_mroIn (M:=Em prog w) X hm;refine JE KF.slot_gs.plain KF.entry_gs<|KF.slot_gs.check _ _ _ _ _ _ _ _ KF.type_class (KF.args_gs _ _ _) ?_;unfold Builtin.«getset_descriptor.__get__» descrGet;rw[dga_obj];refine Q7<|Za ?_;unfold descrGetter descrCheckInstance descrNameAndClass Ml;simp only[KF.owner_class]
 repeat lk
 refine⟨L9 _<|by decide +kernel,YI KF.entry_class ?_⟩;unfold Builtin.«object.__class__» shownTypeOf
 repeat lk
 exact h
theorem Pz {M:Model}{h:Ev}(X:K.In h)(k:uy K D):Looks M h (find (.ref x) (.ref D) "__class__") (.bind (.builtin "getset_descriptor.__get__")<|.builtin "object.__class__"):=by
 have b:=looks_findIn (M:=M) X k.ha;have c:=looks_specialIn (M:=M) X k.hn;have d:=looks_takesIn (M:=M) X k.htk;unfold find;exact b.andThen<|Looks.andThen c<|Looks.andThen (d.andThen .now)<|Looks.tag .now
theorem Ov {M:Model}{b:Ee}{Q:Unit->Dh}(k:uy K D)(X:K.In s.heap)(I:sy s.heap x D)(e:Q () s):Eh M A (checkBuiltinCall "BaseException.__getattribute__" ⟨[.ref x,b],[]⟩) Q E s:=by
 have hk:builtinKind "BaseException.__getattribute__"=some .slot:=by decide +kernel
 have c:splitId "BaseException.__getattribute__"=some ("BaseException","__getattribute__"):=by decide +kernel
 have ha:=F.args_bexc_ga (.ref x) b;obtain⟨i,g,d,t,os⟩:=s;have f:=I.type (M:=M);have h:=looks_subIn (M:=M) X k.hb;simp only[checkBuiltinCall,hk,c];refine Q7 ?_
 ·unfold Ml
  repeat (first|lk|wp_step)
  exact e
theorem Ox {h:Tok}{Q:Fin->Dh}(k:uy K D)(X:K.In s.heap)(I:sy s.heap x D)(f:Q (.done<|.ret<|.ref D) s) :
  Eh (Em prog w) A (Builtin.«object.__getattribute__» ⟨[.ref x,.str "__class__" h],[]⟩) Q E s:=by
 obtain⟨e,g,d,t,os⟩:=s;have b:=I.type (M:=Em prog w);have c:=Pz (M:=Em prog w) (x:=x) X k;unfold Builtin.«object.__getattribute__»;refine Q7<|Za<|Q7<|Za<|Q7<|b.at (Q7<|c.at ?_);show Eh _ _ (bindTo _ _ _ _) _ _ _;show Eh _ _ (MD [Mm "object.__class__"] (call (Mm "getset_descriptor.__get__") [Mm "object.__class__",Et x,Et D])>>=ret) _ _ _;exact Q7<|ZZ<|Vl<|GZ (s:=⟨e,g,d,t,os⟩) X I k.hm<|Za f
theorem Ow {Q:Dc->Dh}(k:uy K D)(X:K.In s.heap)(I:sy s.heap x D)(h:Q (some<|.ref D) { s with toks:=s.toks+1 }):Eh (Em prog w) A (getAttr? (.ref x) "__class__") Q E s:=by
 obtain⟨f,g,d,t,os⟩:=s;have b:=I.type (M:=Em prog w);have c:=looks_findIn (M:=Em prog w) X k.ga;have e:=looks_findIn (M:=Em prog w) X k.hk;unfold getAttr? getAttrBy? getAttrBy;refine Q7<|wpAny_mkText<|Q7<|Ve<|ZZ<|Q7<|b.at (Q7<|c.at ?_);show Eh _ _ (getAttrByItsOwn _ _ _ _ _ _) _ _ _;unfold getAttrByItsOwn hookBefore;refine Q7<|e.at ?_;refine Q7<|Ve<|ZZ ?_;show Eh _ _ (boundAndCalled _ _ _) _ _ _;unfold boundAndCalled;rw[F.attr_ValueError.ga.bind];refine Q7<|Za ?_;refine Vl<|JE F.attr_ValueError.ga.plain F.entry_bexc_ga<|Ov k X I<|Ox k X I ?_;exact handed_on (s:=⟨f,g,d,t+1,os⟩) rfl<|Za h
theorem nY (k:uy K D):KitX K (.ref x) (.ref D) (fun h=>sy h x D) where
 ty:=fun _ _ _ I=>I.type
 it:=fun _ _ X _=>by
  obtain⟨d,b⟩:=Jf.mp k.cl;unfold clsIn at b
  split at b
  ·rename_i j l c i f;intro r t s v k q;unfold isType loadHead;exact Q7<|wpAny_loadPart (k _ _<|X _ _ f)<|Za q
  ·cases b
 ne:=fun h p u o n w X g=>by
  obtain⟨d,b⟩:=Jf.mp k.cl;refine Yx.mpr fun q=>?_;have e:D=p:=Value.ref.inj<|Jd.mp q;subst e;unfold clsIn at b
  split at b
  ·rename_i j l c i f;have z:=(X _ _ f).symm.trans g;cases z
  ·cases b
 ca:=fun X I q=>Ow k X I q
end
end PySem.W
namespace L2
open PySem PySem.Spec PyProof.Rows
section
variable {X:Cx}{K:Cd}
def aU (K:Cd)(c:Ee)(d:V):Dj->Hp->VK->Prop:=fun e H Q=>∃(a D:Ef) (b:Bool),e=[.ref a,d]/\H a=some (X0 a<|.ref D)/\PySem.W.uy K D/\ER K (.ref D) c=some b/\Q (.bl b) H
theorem SA {a D:Ef}{b:Bool}{c:Ee}{Q:VK}(I:Inv X Do σ H s)(ha:H a=some (X0 a<|.ref D))(k:PySem.W.uy X.K D)(e:ER X.K (.ref D) c=some b)(q:Q (.bl b) H) :
  Eh (Em X.prog X.w) X.A (call (.builtin "isinstance") [.ref a,c]) (EP X Do σ Q) X.xe s:=by
 obtain⟨⟨o,i,d,f,g,_⟩,_⟩:=(I.hok a _ ha);refine Yn (PySem.W.nY k) I.uq ⟨o,d,f,?_⟩ e (fun z=>nomatch z) fun h=>⟨.bl b,H,I.tok _,rfl,q⟩;unfold PySem.W.notCls;rw[g]
theorem CU (d:X.K=K:=by rfl){C:Ef}:xj X (.builtin "isinstance") (aU K (.ref C)<|.ref C):=by
 subst d;intro i s n H l j Q I r h;obtain⟨a,D,b,rfl,ha,k,e,q⟩:=h;obtain⟨u,g,rfl,f,c⟩:=vals2 r;cases(show u=Et a from f);cases(show g=Et C from c);exact SA I ha k e q
end
section
variable {X:Cx}
def S9:V->Dj->Hp->VK->Prop:=fun x c H Q=>∃a b:Str,x=.str a/\c=[.str b]/\Q (.bl<|Lk a b) H
theorem jH:Sb X "str.startswith" S9:=by
 intro f s j H x i v g Q I d c h;obtain⟨a,b,rfl,rfl,q⟩:=h;obtain⟨t,rfl⟩:=d;obtain⟨u,rfl,e,rfl⟩:=wW c;exact call_gives F.slot_str_startswith (J2 s a t) F.entry_str_startswith (F.args_str_startswith_2 _ _) (gives_str_startswith a b t e) ⟨.bl _,H,I,rfl,q⟩
theorem k8:∀{l:List (Str×Tok)} {ys:Da},l.map (·.1)=ys->yr (ys.map V.str) (strValues l)
 |[],_,h=>by rw[←h];exact .nil
 |p::l,_,h=>by
  rw[←h];exact .cons ⟨p.2,rfl⟩<|k8 rfl
def WM:V->Dj->Hp->VK->Prop:=fun x b H Q=>∃(a:Str) (c:Nat),x=.str a/\b=[.str ⟨#[c]⟩]/\a.length<=100000/\∀l,H l=none->Q (.ref l) (upd H l<|.lst<|(Lz a ⟨#[c]⟩).map V.str)
theorem Gu:Sb X "str.split" WM:=by
 intro n s r H x p v o Q I j i h;obtain⟨a,c,rfl,rfl,ha,q⟩:=h;obtain⟨t,rfl⟩:=j;obtain⟨u,rfl,t',rfl⟩:=wW i;have g:a.length<=sizeLine:=An.zm (by lia);have f:((⟨#[c]⟩:Str).length==0)=false:=rfl;have hn:(Lu a (E1 a ⟨#[c]⟩ 0 a.length<|a.length+1) (⟨#[c]⟩:Str).length).length<=200000:=by
  unfold Lu;have:=StrLaws.occ_length_le a ⟨#[c]⟩ 0 a.length<|a.length+1;simp only[Q8,List.length_zip,Zr,Zh,YS];lia
 cases b:(decide (a.length<(⟨#[c]⟩:Str).length)||decide (Builtin.Str.strKind a<Builtin.Str.strKind ⟨#[c]⟩))
 ·cases d:(E1 a ⟨#[c]⟩ 0 a.length<|a.length+1).isEmpty
  ·have e:Lz a ⟨#[c]⟩=Lu a (E1 a ⟨#[c]⟩ 0 a.length<|a.length+1) (⟨#[c]⟩:Str).length:=(Zt<|V3 b).trans<|Zt<|V3 d;refine Vm F.slot_str_split (J2 s a t) F.entry_str_split (F.args_str_split_2 _ _) (meets_str_split_sep a ⟨#[c]⟩ t t' b f d g<|An.zm<|by lia) ?_;rw[strsFrom_eq];refine⟨.ref _,_,I.m6 (k8<|numbered_texts _ _) (by rw[Q8];exact An.zm<|by lia),rfl,?_⟩;rw[←e];exact q _ I.fresh
  ·have e:Lz a ⟨#[c]⟩=[a]:=(Zt<|V3 b).trans<|Zs d;rw[e]at q;refine Vm F.slot_str_split (J2 s a t) F.entry_str_split (F.args_str_split_2 _ _) (meets_str_split_not_found a ⟨#[c]⟩ t t' b f d) ?_;exact⟨.ref _,_,I.m6 (t':=s.toks) (k8 (l:=[(a,t)]) rfl) (by show 1<=sizeLine;decide),rfl,q _ I.fresh⟩
 ·have e:Lz a ⟨#[c]⟩=[a]:=Zs b;rw[e]at q;refine Vm F.slot_str_split (J2 s a t) F.entry_str_split (F.args_str_split_2 _ _) (meets_str_split_cannot_occur a ⟨#[c]⟩ t t' b) ?_;exact⟨.ref _,_,I.m6 (t':=s.toks) (k8 (l:=[(a,t)]) rfl) (by show 1<=sizeLine;decide),rfl,q _ I.fresh⟩
def b0 (K:Cd):Dj->Hp->VK->Prop:=fun b H Q=>∃(a:Ef) (bs:List Bool),b=[.ref a]/\yu K H a (bs.map V.bl)/\Q (.bl<|bs.any id) H
theorem Pm {K:Cd}(o:X.calm=true)(n:X.K=K:=by rfl):xj X (.builtin "any") (b0 K):=by
 subst n;intro x s J H G F Q I r h;obtain⟨a,bs,rfl,ha,q⟩:=h;obtain⟨u,rfl,t⟩:=wW r;cases t;obtain⟨c,w,p,C⟩:=I.list ha;have g:=FR w;have hl:=p.isList;have f:a<s.heap.objs.size:=by obtain⟨_,e,_⟩:=hl;exact Zq e
 refine call_any_walk<|JX hl ?_;refine⟨s.heap.objs.size,[s.heap.objs.size,a],[s.heap.objs.size],c.toArray.size,_,_,fun i=>(bs[i]?).getD false,rfl,Walks.list (A:=X.A.in1) (I.ok.hd o) _ a (Zz f) c.toArray,⟨⟨_,Zp _ rfl,rfl,rfl⟩,hl.push _⟩,fun i v D z y d j=>?_,fun B E hk=>?_⟩
 ·have d:c[i]?=some v:=by simpa using d
  rw[g,Zk]at d;cases e:bs[i]? with
  |none=>rw[e]at d;cases d
  |some b =>
   rw[e]at d;have d:L6 b=v:=Option.some.inj d;subst d;simp only[e,VO]at j;exact YX j
 ·have l:c.length=bs.length:=by rw[g,Q8]
  have e:((EC c.toArray.size).any fun i=>(bs[i]?).getD false)=bs.any id:=by
   rw[Zy,l];exact PyProof.Rows.LSm.range_any bs
  rw[e];exact⟨.bl _,H,I.kept<|PyProof.Rows.LSm.kept_iter hk,rfl,q⟩
theorem Rj {K:Cd}(b:X.K=K:=by rfl):Sb X "str.join" (rJoin K):=by
 subst b;exact Ft
theorem Rw {K:Cd}{e:EI}{es:List EI}{name:Str}{f b:Pos}{T id:String}(n:PlainAttrs T)(slot:Slot T name id)(d:typeOf (.builtin id)=Lo (.type "method_descriptor"))(hm:Sb X id r)(l:PE X o to)(ha:PA X (e::es) t)
  (i:Lr o name X.env (E3 o X.env)=E3 o X.env:=by rfl)
  (c:((La b<|Eu (e::es) X.env).all (fun x=>!x.1)&&(Mp b<|LB [] X.env).all (fun x=>x.1.isSome) && decide ((e::es).length+([]:List Keyword).length+(if([]:List Keyword).isEmpty then 0 else 1)<30))=true:=by rfl)
  (g:(f.endLine==b.line)=true:=by rfl) (hs:Eu (e::es) X.env=(false,E3 e X.env)::Eu es X.env:=by rfl) (h:(La b<|Eu es X.env).any (·.1)=false:=by rfl) (j:X.K=K:=by rfl) :
  PE X (.Call (.Attribute o name f) (e::es) [] b) (cJ K T r to t):=by
 subst j;exact qN n slot d hm l ha i c g hs h
end
end L2
namespace An
open PySem L2
def WS:Str:=⟨#[47]⟩
theorem Xs:("/":Str)=WS:=by decide +kernel
def jn:List (List Nat)->List Nat
 |[]=>[]
 |[x]=>x
 |x::y::r=>x++47::jn (y::r)
def CC:List Nat->List (List Nat)
 |[]=>[[]]
 |c::r=>if c=47 then[]::CC r else match CC r with
  |[]=>[[c]]
  |p::ps=>(c::p)::ps
theorem XM:∀l,CC l≠[]
 |[]=>by simp[CC]
 |c::r=>by
  unfold CC
  split
  ·simp
  ·split<;>simp
theorem Io {x:List Nat}{r:List (List Nat)}(h:r≠[]):jn (x::r)=x++47::jn r:=by
 cases r with
 |nil=>exact absurd rfl h
 |cons y r=>rfl
theorem Gh:∀l,jn (CC l)=l
 |[]=>rfl
 |c::r=>by
  have b:=Gh r;unfold CC
  split
  ·rename_i e;rw[Io<|XM r,b,e];rfl
  ·cases q:CC r with
   |nil=>exact absurd q<|XM r
   |cons p ps =>
    rw[q]at b;cases ps with
    |nil=>show c::p=_;rw[show p=r from b]
    |cons y ps =>
     show(c::p)++47::jn (y::ps)=_;rw[←b];rfl
theorem FM:∀(a b:List Nat),CC (a++47::b)=CC a++CC b
 |[],b=>by
  show(if 47=47 then[]::CC b else _)=[[]]++CC b;rw[Zs rfl];rfl
 |c::a,b=>by
  have d:=FM a b;show CC (c::(a++47::b))=_;rw[CC,CC,d]
  split
  ·rfl
  ·cases q:CC a with
   |nil=>exact absurd q<|XM a
   |cons p ps=>rfl
theorem GH:∀{p:List Nat},47∉p->CC p=[p]
 |[],_=>rfl
 |c::p,h=>by
  have b:=GH (p:=p) fun z=>h<|Zb _ z;unfold CC;rw[Zt<|fun z=>h (by rw[z];exact Ze),b]
theorem Nf:∀{ps:List (List Nat)},ps≠[]->(∀p∈ps,47∉p)->CC (jn ps)=ps
 |[],h,_=>absurd rfl h
 |[p],_,h=>GH<|h p Ze
 |p::q::r,_,h=>by
  rw[Io<|by simp,FM,GH<|h p Ze,Nf (ps:=q::r) (by simp) fun x b=>h x<|Zb _ b];rfl
theorem K8:∀{a b:List (List Nat)},a≠[]->b≠[]->jn (a++b)=jn a++47::jn b
 |[],_,h,_=>absurd rfl h
 |[x],b,_,hb=>Io hb
 |x::y::r,b,_,hb=>by
  show x++47::jn ((y::r)++b)=(x++47::jn (y::r))++47::jn b;rw[K8 (a:=y::r) (by simp) hb];simp
theorem PY:∀{ps:List (List Nat)} {p:List Nat},p∈ps->p.length<=(jn ps).length
 |[],_,h=>by cases h
 |[x],p,h=>by rw[Q9.mp h];exact Zf _
 |x::y::r,p,h=>by
  show _<=(x++47::jn (y::r)).length;rw[Zh,Zr]
  rcases Zi.mp h with rfl|h
  ·lia
  ·have:=PY h;lia
theorem PX:∀{ps:List (List Nat)},ps.length<=(jn ps).length+1
 |[]=>by simp
 |[x]=>by simp
 |x::y::r=>by
  show _<=(x++47::jn (y::r)).length+1;have:=PX (ps:=y::r);have b:(x++47::jn (y::r)).length=x.length+((jn (y::r)).length+1):=by rw[Zh,Zr]
  have c:(x::y::r).length=(y::r).length+1:=Zr;lia
theorem Rv {l p:List Nat}:(∃t,l=p++47::t)↔∃i,i+1<(CC l).length/\p=jn ((CC l).take<|i+1):=by
 constructor
 ·rintro⟨t,rfl⟩;rw[FM];have b:0<(CC p).length:=Y6.mpr<|XM p;have c:0<(CC t).length:=Y6.mpr<|XM t;refine⟨(CC p).length-1,by rw[Zh];lia,?_⟩;rw[show(CC p).length-1+1=(CC p).length by lia,List.take_left,Gh]
 ·rintro⟨i,d,rfl⟩;refine⟨jn<|(CC l).drop<|i+1,?_⟩;rw[←K8,Yg,Gh]
  ·intro z;have:=congrArg List.length z;rw[ZB,YS]at this;lia
  ·intro z;have:=congrArg List.length z;rw[Yv,YS]at this;lia
def aj (l:List Nat):Str:=⟨l.toArray⟩
theorem nH (l:List Nat):cs (aj l)=l:=by simp[aj,cs]
theorem mD (x:Str):aj (cs x)=x:=xq<|nH _
theorem qI:∀ys:Da,cs (Lp "/" ys)=jn (ys.map cs):=by
 intro ys;have e:Lp "/" ys=MB "/" ys:=Lf "/" ys;rw[e];clear e
 induction ys with
 |nil=>rfl
 |cons x r ih =>
  cases r with
  |nil=>rfl
  |cons y r =>
   show cs (x++"/"++MB "/" (y::r))=cs x++47::jn ((y::r).map cs);have:cs ("/":Str)=[47]:=by decide +kernel
   rw[zr,zr,ih,this];simp
theorem R0 (x:Str):Lz x "/"=(CC<|cs x).map aj:=by
 have c:cs (MB "/"<|Lz x "/")=cs x:=by rw[StrLaws.join_split]
 have e:Lp "/" (Lz x "/")=MB "/" (Lz x "/"):=Lf "/" _;rw[←e,qI]at c;have b:Lz x "/"≠[]:=by
  unfold Lz
  split
  ·simp
  ·split
   ·simp
   ·unfold Lu;intro z;have:=congrArg List.length z;simp at this
 have d:=Nf (ps:=(Lz x "/").map cs) (by simpa using b) (fun p g=>by
  obtain⟨y,f,rfl⟩:=Zc.mp g;rw[Xs]at f;exact StrLaws.split_free x 47 y f)
 rw[c]at d;rw[d,ZC];have:(aj∘cs)=(id:Str->Str):=funext mD;rw[this,VW]
def Ut (x:Str):Da:=Lz x "/"
theorem kH (x:Str):(Ut x).map cs=CC (cs x):=by
 unfold Ut;rw[R0,ZC];have:(cs∘aj)=(id:List Nat->List Nat):=funext nH;rw[this,VW]
theorem Hr {y:Str}(h:y∈Ut x):y.length<=x.length:=by
 rw[zj,zj,←Gh (cs x),←kH];exact PY<|List.mem_map_of_mem h
theorem vW (x:Str):(Ut x).length<=x.length+1:=by
 have:=PX (ps:=CC<|cs x);rw[Gh,←kH,Q8]at this;rwa[zj]
theorem P0 (x:Str):0<(Ut x).length:=by
 have:=Y6.mpr<|XM<|cs x;rw[←kH,Q8]at this;exact this
theorem qA {c:Da}(h:c≠[])(g:∀y∈c,47∉cs y):Ut (Lp "/" c)=c:=by
 have:(Ut<|Lp "/" c).map cs=c.map cs:=by
  rw[kH,qI,Nf<|by simpa using h];intro p i;obtain⟨y,j,rfl⟩:=Zc.mp i;exact g y j
 have inj:∀{a b:Da},a.map cs=b.map cs->a=b:=by
  intro a
  induction a with
  |nil =>
   intro b e;cases b with
   |nil=>rfl
   |cons _ _=>cases e
  |cons x a ih =>
   intro b e;cases b with
   |nil=>cases e
   |cons y b =>
    rw[Zu,Zu]at e;injection e with d f;rw[xq d,ih f]
 exact inj this
def GR (x:Str):Bool:=decide ((Ut x).length<=4)&&(Ut x).all zP
def XR:Ej->Bool
 | .str x=>GR x
 |_=>false
theorem y8 (h:zP y=true):47∉cs y:=by
 unfold zP at h;rw[Zm]at h;intro z;exact absurd (ZU.mp h.2 47 z) (by decide)
theorem Bl {b:Da}(c:b≠[])(d:b.length<=4)(h:∀y∈b,zP y=true):GR (Lp "/" b)=true:=by
 unfold GR;rw[qA c fun y e=>y8<|h y e,Zg d,ZU.mpr h];rfl
def G8 (x:Str):Da:=(EC<|(Ut x).length-1).map fun i=>Lp "/"<|(Ut x).take<|i+1
def UB (p q:Str):Bool:=Lk q<|p++"/"
theorem qt:UB p q=true↔∃t,cs q=cs p++47::t:=by
 unfold UB Lk;rw[StrLaws.subAt_eq,V8,VA,Zm,ZM,Jd];have e:(p++"/":Str).cps.toList=cs p++[47]:=by
  have:cs ("/":Str)=[47]:=by decide +kernel
  show cs (p++"/")=_;rw[zr,this]
 have b:(p++"/":Str).length=(cs p).length+1:=by
  rw[zj];show(cs<|p++"/").length=_;rw[show cs (p++"/")=cs p++[47] from e,Zh];rfl
 rw[e,b];constructor
 ·rintro⟨d,c⟩;refine⟨(cs q).drop<|(cs p).length+1,?_⟩;have:=Yg ((cs p).length+1)<|cs q;rw[c,Z6]at this;exact this.symm
 ·rintro⟨t,h⟩;rw[zj,h];refine⟨by simp,?_⟩;show(cs q).take _=_;rw[h];rw[show cs p++47::t=(cs p++[47])++t by simp];rw[List.take_left'<|by simp]
theorem pN {p:Str}:p∈G8 q↔UB p q=true:=by
 rw[qt,Rv];unfold G8;rw[Zc];have hl:(CC<|cs q).length=(Ut q).length:=by rw[←kH,Q8]
 constructor
 ·rintro⟨i,b,rfl⟩;have:=YQ.mp b;refine⟨i,by lia,?_⟩;rw[qI,Vf,kH]
 ·rintro⟨i,b,h⟩;refine⟨i,YQ.mpr<|by lia,xq ?_⟩;rw[qI,Vf,kH,h]
theorem HZ (p t:Str):UB p (p++"/"++t)=true:=by
 rw[qt];refine⟨cs t,?_⟩;have:cs ("/":Str)=[47]:=by decide +kernel
 rw[zr,zr,this];simp
abbrev Fi:=Da×Da
abbrev Dk:=List Fi
def Cc (ls:Da):Str:=Lp "/" ls
structure xr (S:Di):Prop where
 good:ux S
 th:∀e∈S,BH e
 num:∀e∈S,e.n<S.length
def At (S:Di)(x:Str)(t:Th):Prop:=∃e∈S,e.nm=x/\e.d=t.dat
section
variable {S T:Di}{x y:Str}{t u:Th}
theorem Rn (g:(S.map En.nm).Nodup){e f:En}(b:e∈S)(c:f∈S)(h:e.nm=f.nm):e=f:=by
 obtain⟨i,d,rfl⟩:=ZP.mp b;obtain⟨j,l,rfl⟩:=ZP.mp c;have:=(Jc (h₀:=by simpa using d) (h₁:=by simpa using l) g).mp (by rwa[ZV,ZV]);subst this;rfl
theorem At.thing (g:xr S)(h:At S x t)(k:At S x u):t=u:=by
 obtain⟨e,c,rfl,hd⟩:=h;obtain⟨f,d,fn,b⟩:=k;have:=Rn g.good.nn d c fn;subst this;exact B6<|hd.symm.trans b
theorem At.name (g:xr S)(h:At S x t)(k:At S y t):x=y:=by
 obtain⟨e,c,rfl,hd⟩:=h;obtain⟨f,d,rfl,b⟩:=k;rw[Ww g.good.nd c d<|hd.trans b.symm]
theorem At.more (h:At S x t):At (S++T) x t:=let ⟨e,he,a⟩:=h;⟨e,ZX _ he,a⟩
theorem At.mem (h:At S x t):x∈S.map En.nm:=let ⟨e,he,a,_⟩:=h;Zc.mpr ⟨e,he,a⟩
end
noncomputable def CO (S:Di)(x:Str):Option Th:=open Classical in if h:∃t,At S x t then some (choose h) else none
theorem jV (g:xr S)(h:At S x t):CO S x=some t:=by
 unfold CO;have ex:∃t,At S x t:=⟨t,h⟩;rw[dif_pos ex];exact congrArg some<|At.thing g (JW ex) h
noncomputable def zf:Nat->Di->Str->Dk
 | 0,_,_=>[]
 |d+1,S,x=>match CO S x with
  |some (.leaf ls)=>[([],ls)]
  |some (.tree rows)=>rows.flatMap fun r=>(zf d S r.2).map fun f=>(r.1::f.1,f.2)
  |_=>[]
theorem yH {ls:Da}{d:Nat}(g:xr S)(h:At S x<|.leaf ls):zf (d+1) S x=[([],ls)]:=by
 show(match CO S x with|some (.leaf ls)=>[([],ls)]|some (.tree rows)=>_|_=>_)=_;rw[jV g h]
theorem yJ {rows:Dg}{d:Nat}(g:xr S)(h:At S x<|.tree rows):zf (d+1) S x=rows.flatMap fun r=>(zf d S r.2).map fun f=>(r.1::f.1,f.2):=by
 show(match CO S x with|some (.leaf ls)=>[([],ls)]|some (.tree rows)=>_|_=>_)=_;rw[jV g h]
def Cs (a b:Str):Prop:=cs a<cs b
def Tree:Nat->Di->Str->Prop
 | 0,_,_=>False
 |d+1,S,x=>(∃b,At S x<|.leaf b)\/∃rows,At S x (.tree rows)/\(rows.map (·.1)).Pairwise Cs/\∀r∈rows,zP r.1=true/\Tree d S r.2/\zf d S r.2≠[]
theorem Tree.more {S T:Di}(g:xr<|S++T)(b:xr S):∀{d:Nat} {x:Str},Tree d S x->Tree d (S++T) x/\zf d (S++T) x=zf d S x
 | 0,_,h=>absurd h<|fun z=>z
 |d+1,x,h=>by
  rcases h with⟨ls,h⟩|⟨rows,h,so,hr⟩
  ·exact⟨.inl ⟨ls,h.more⟩,by rw[yH g h.more,yH b h]⟩
  ·have c:∀r∈rows,Tree d (S++T) r.2/\zf d (S++T) r.2=zf d S r.2:=fun r m=>Tree.more g b (hr r m).2.1;refine⟨.inr ⟨rows,h.more,so,fun r m=>⟨(hr r m).1,(c r m).1,by rw[(c r m).2];exact(hr r m).2.2⟩⟩,?_⟩;rw[yJ g h.more,yJ b h];rw[JK,JK]
   congr 1
   exact ZQ fun r m=>by rw[(c r m).2]
theorem Tree.mem (h:Tree d S x):x∈S.map En.nm:=by
 cases d with
 |zero=>exact absurd h<|fun z=>z
 |succ d =>
  rcases h with⟨ls,h⟩|⟨rows,h,_⟩
  ·exact h.mem
  ·exact h.mem
theorem Rb:∀{a b:List Nat} (s t:List Nat),(∀c∈b,47<c)->(s=[]\/∃r,s=47::r)->a<b->a++s<b++t
 |[],[],_,_,_,_,h=>absurd h<|J6 _
 |[],c::b,s,t,hb,hs,_=>by
  rcases hs with rfl|⟨r,rfl⟩
  ·exact List.nil_lt_cons _ _
  ·exact YE.mpr (.inl<|hb c<|Ze ..)
 |_::_,[],_,_,_,_,h=>absurd h<|List.not_lt_nil _
 |x::a,y::b,s,t,hb,hs,h=>by
  rcases YE.mp h with d|⟨e,d⟩
  ·exact YE.mpr (.inl d)
  ·exact YE.mpr (.inr ⟨e,Rb s t (fun c f=>hb c<|Zb _ f) hs d⟩)
theorem x5 (l:Str){p:Da}(h:p≠[]):cs (Cc (l::p))=cs l++47::cs (Cc p):=by
 unfold Cc;rw[qI,qI,Zu,Io<|by simpa using h]
theorem jN (l:Str):cs (Cc [l])=cs l:=by
 unfold Cc;rw[qI];rfl
theorem Kd (l:Str)(p:Da):∃s,cs (Cc (l::p))=cs l++s/\(s=[]\/∃r,s=47::r):=by
 by_cases h:p=[]
 ·subst h;exact⟨[],by rw[jN,ZG],.inl rfl⟩
 ·exact⟨_,x5 l h,.inr ⟨_,rfl⟩⟩
theorem PZ (h:zP l=true):∀c∈cs l,47<c:=fun c b=>by
 unfold zP at h;rw[Zm]at h;have:=ZU.mp h.2 c b;unfold UI at this;rw[Zm,ZM]at this;lia
theorem RG (p q:Da)(hm:zP m=true)(h:Cs l m):Cs (Cc (l::p)) (Cc (m::q)):=by
 obtain⟨s,e,c⟩:=Kd l p;obtain⟨t,b,_⟩:=Kd m q;unfold Cs;rw[e,b];exact Rb s t (PZ hm) c h
theorem KM:∀(a:List Nat) {s t:List Nat},s<t->a++s<a++t
 |[],_,_,h=>h
 |x::a,_,_,h=>YE.mpr<|.inr ⟨rfl,KM a h⟩
theorem MZ {l:Str}{p q:Da}(b:p≠[])(c:q≠[])(h:Cs (Cc p)<|Cc q):Cs (Cc (l::p)) (Cc (l::q)):=by
 unfold Cs;rw[x5 l b,x5 l c];exact KM _<|YE.mpr<|.inr ⟨rfl,h⟩
theorem Tree.rise (g:xr S):∀{d:Nat} {x:Str},Tree d S x->(zf d S x).Pairwise (fun f h=>Cs (Cc f.1)<|Cc h.1)/\((∃ls,zf d S x=[([],ls)])\/∀f∈zf d S x,f.1≠[])
 | 0,_,h=>absurd h<|fun z=>z
 |d+1,x,h=>by
  rcases h with⟨ls,h⟩|⟨rows,h,so,hr⟩
  ·rw[yH g h];exact⟨JJ _ _,.inl ⟨ls,rfl⟩⟩
  ·rw[yJ g h];refine⟨?_,.inr fun f e=>?_⟩
   ·rw[JK,List.pairwise_flatten];refine⟨fun l hl=>?_,?_⟩
    ·obtain⟨r,i,rfl⟩:=Zc.mp hl;obtain⟨n,c⟩:=Tree.rise g (hr r i).2.1;rw[Yc]
     rcases c with⟨ls,c⟩|c
     ·rw[c];exact JJ _ _
     ·exact n.imp_of_mem fun{a b} ha hb z=>MZ (c a ha) (c b hb) z
    ·rw[Yc];rw[Yc]at so;refine so.imp_of_mem fun{a b} ha hb z f e k hk=>?_;obtain⟨j,_,rfl⟩:=Zc.mp e;obtain⟨o,_,rfl⟩:=Zc.mp hk;exact RG _ _ (hr b hb).1 z
   ·obtain⟨r,_,e⟩:=Yd.mp e;obtain⟨j,_,rfl⟩:=Zc.mp e;exact ZR _ _
theorem NQ (h:Cs a b)(k:Cs b a):False:=List.lt_asymm h k
theorem Iy (h:Cs a b):a≠b:=fun z=>by subst z;exact J6 _ h
theorem BJ {l m:Dk}(c:l.Pairwise<|fun f h=>Cs (Cc f.1)<|Cc h.1)(d:m.Pairwise<|fun f h=>Cs (Cc f.1)<|Cc h.1)(e:∀f,f∈l↔f∈m):l=m:=by
 have nd:∀{l:Dk},l.Pairwise (fun f h=>Cs (Cc f.1)<|Cc h.1)->l.Nodup:=fun{l} h=>ZI.mpr (h.imp fun{a b} z q=>by subst q;exact J6 _ z);exact JG (fun a b _ _ z q=>absurd q<|fun q=>NQ z q) c d ((Jt (nd c)<|nd d).mpr e)
theorem Bf (A:∀{x y:Str},Tree d S x->Tree d S y->zf d S x=zf d S y->x=y):∀{a b:Dg},(a.map (·.1)).Pairwise Cs->(b.map (·.1)).Pairwise Cs ->
  (∀r∈a,Tree d S r.2/\zf d S r.2≠[])->(∀r∈b,Tree d S r.2/\zf d S r.2≠[]) ->
  (a.flatMap fun r=>(zf d S r.2).map fun f=>((r.1::f.1,f.2):Fi))=(b.flatMap fun r=>(zf d S r.2).map fun f=>((r.1::f.1,f.2):Fi))->a=b
 |[],[],_,_,_,_,_=>rfl
 |[],s::b,_,_,_,hb,e=>by
  rw[VR,YF]at e;have:=(JS.mp e.symm).1;exact absurd (V4.mp this) (hb s<|Ze ..).2
 |r::a,[],_,_,ha,_,e=>by
  rw[VR,YF]at e;have:=(JS.mp e).1;exact absurd (V4.mp this) (ha r<|Ze ..).2
 |r::a,s::b,oa,ob,ha,hb,e=>by
  obtain⟨j,n⟩:=ha r<|Ze ..;obtain⟨p,t⟩:=hb s<|Ze ..;rw[Zu,Vo]at oa ob;rw[YF,YF]at e;have g:r.1=s.1:=by
   cases B:zf d S r.2 with
   |nil=>exact absurd B n
   |cons f fs =>
    cases C:zf d S s.2 with
    |nil=>exact absurd C t
    |cons k ks =>
     rw[B,C]at e;have:=congrArg List.head? e;have:(some ((r.1::f.1,f.2):Fi))=some (s.1::k.1,k.2):=this;have:=congrArg Prod.fst<|Option.some.inj this;exact(List.cons.inj this).1
  have key:∀{c:Dg} {z:Str×Str} {l:Str},z.1=l->(∀y∈c.map (·.1),Cs l y)->(((zf d S z.2).map fun f=>((z.1::f.1,f.2):Fi))++c.flatMap fun r=>(zf d S r.2).map fun f=>((r.1::f.1,f.2):Fi)).filter (fun f=>decide (f.1.head?=some l))=(zf d S z.2).map fun f=>((z.1::f.1,f.2):Fi):=by
   intro c z l F J;rw[Vp,List.filter_eq_self.mpr,List.filter_eq_nil_iff.mpr,ZG]
   ·intro f h q;obtain⟨w,i,h⟩:=Yd.mp h;obtain⟨G,_,rfl⟩:=Zc.mp h;have:some w.1=some l:=Zv q;have:=Option.some.inj this;exact Iy (J w.1<|Zc.mpr ⟨w,i,rfl⟩) this.symm
   ·intro f h;obtain⟨G,_,rfl⟩:=Zc.mp h;exact Zg<|congrArg some F
  have u:=congrArg (List.filter (fun f:Fi=>decide (f.1.head?=some r.1))) e;rw[key rfl oa.1,key g.symm (by rw[g];exact ob.1),g]at u;have v:zf d S r.2=zf d S s.2:=by
   refine(List.map_inj_right fun f k z=>?_).mp u;have H:=congrArg Prod.fst z;have I:=congrArg Prod.snd z;exact LF (List.cons.inj H).2 I
  have D:=A j p v;rw[g,v]at e;have E:=List.append_cancel_left e;have:=Bf A oa.2 ob.2 (fun w i=>ha w<|Zb _ i) (fun w i=>hb w<|Zb _ i) E;have o:r=s:=LF g D;rw[this,o]
theorem Tree.one (g:xr S):∀{d:Nat} {x y:Str},Tree d S x->Tree d S y->zf d S x=zf d S y->x=y
 | 0,_,_,h,_,_=>absurd h<|fun z=>z
 |d+1,x,y,h,k,e=>by
  have c:∀{rows:Dg} {b:Da},(rows.flatMap fun r=>(zf d S r.2).map fun f=>((r.1::f.1,f.2):Fi))≠[([],b)]:=fun{rows b} z=>by
   have:(([],b):Fi)∈(rows.flatMap fun r=>(zf d S r.2).map fun f=>((r.1::f.1,f.2):Fi)):=by rw[z];exact Q9.mpr rfl
   obtain⟨r,_,i⟩:=Yd.mp this;obtain⟨n,_,q⟩:=Zc.mp i;exact absurd (congrArg Prod.fst q)<|ZR _ _
  rcases h with⟨b,h⟩|⟨rows,h,so,hr⟩<;>rcases k with⟨ls',k⟩|⟨rows',k,so',hr'⟩
  ·rw[yH g h,yH g k]at e;have:=congrArg Prod.snd (List.cons.inj e).1;have this:b=ls':=this;subst this;exact h.name g k
  ·rw[yH g h,yJ g k]at e;exact absurd e.symm c
  ·rw[yJ g h,yH g k]at e;exact absurd e c
  ·rw[yJ g h,yJ g k]at e;have:=Bf (fun j l z=>Tree.one g j l z) so so' (fun r m=>(hr r m).2) (fun r m=>(hr' r m).2) e;subst this;exact h.name g k
noncomputable def Cr (S:Di)(t:Th):List En×Str:=open Classical in if h:∃x,At S x t then(S,choose h) else(S++[G5 S t],(G5 S t).nm)
section
variable {S T:Di}{x:Str}{t:Th}
theorem NY (g:xr S)(h:At S x t):Cr S t=(S,x):=by
 unfold Cr;have ex:∃x,At S x t:=⟨x,h⟩;rw[dif_pos ex];exact congrArg (Prod.mk S)<|At.name g (JW ex) h
theorem Kh (h:∀e∈S,e.d≠t.dat):Cr S t=(S++[G5 S t],(G5 S t).nm):=by
 unfold Cr;rw[dif_neg];rintro⟨x,e,b,_,hd⟩;exact h e b hd
theorem Wh {e:En}(h:e.h=Uz t)(hn:e.n<1000000):Ok 1000 e.nm:=by
 refine⟨?_,?_⟩
 ·have b:=uU t;have c:(Ux e.n).length<=10:=JH (by lia) (by decide) (by
   have:e.n<10 ^ 9:=by lia
   lia)
  unfold En.nm;rw[yh,yh,h];have:dot.length=1:=rfl;lia
 ·unfold En.nm;rw[h];exact MT (MT (MT (OS t)<|MR _)<|by decide +kernel)<|MR _
theorem xr.nm (g:xr S){e:En}(b:e∈S):Ok 1000 e.nm:=by
 obtain⟨t,_,_,h⟩:=g.th e b;exact Wh h (g.good.ent e b).num
theorem xr.snoc (g:xr S)(c:t.Good)(l:S.length<2000)(h:∀e∈S,e.d≠t.dat):xr (S++[G5 S t]):=by
 have f:=NR g.num<|Uz t;refine⟨g.good.snoc ⟨Fa c,j4 t,?_,uU t⟩ (fun z=>?_) (Rm g.good<|j4 t) l,fun e b=>?_,fun e b=>?_⟩
 ·show(xx S<|Uz t).getD 0<1000000;lia
 ·obtain⟨e,b,hd⟩:=Zc.mp z;exact h e b hd
 ·rcases ZD.mp b with z|z
  ·exact g.th e z
  ·rw[Q9.mp z];exact⟨t,rfl,c,rfl⟩
 ·rw[Zh,YO]
  rcases ZD.mp b with z|z
  ·have:=g.num e z;lia
  ·rw[Q9.mp z];show(xx S<|Uz t).getD 0<_;lia
theorem FE (g:xr S)(c:t.Good)(l:S.length<2000):xr (Cr S t).1/\At (Cr S t).1 (Cr S t).2 t/\(Cr S t).1.length<=S.length+1/\∃T,(Cr S t).1=S++T/\∀e∈T,e.nm=(Cr S t).2:=by
 by_cases z:∃x,At S x t
 ·obtain⟨x,h⟩:=z;rw[NY g h];exact⟨g,h,JD _,[],(ZG _).symm,fun e b=>(nomatch b)⟩
 ·have h:∀e∈S,e.d≠t.dat:=fun e b hd=>z ⟨e.nm,e,b,rfl,hd⟩;rw[Kh h];exact⟨g.snoc c l h,⟨_,ZL _<|Q9.mpr rfl,rfl,rfl⟩,by rw[Zh];exact Zf _,[G5 S t],rfl,fun e b=>by rw[Q9.mp b]⟩
end
noncomputable def met:Nat->Di->Str->Da
 | 0,_,_=>[]
 |d+1,S,x=>x::match CO S x with
  |some (.tree rows)=>rows.flatMap fun r=>met d S r.2
  |_=>[]
theorem vX {ls:Da}{d:Nat}(g:xr S)(h:At S x<|.leaf ls):met (d+1) S x=[x]:=by
 show x::(match CO S x with|some (.tree rows)=>_|_=>_)=_;rw[jV g h]
theorem kK {rows:Dg}{d:Nat}(g:xr S)(h:At S x<|.tree rows):met (d+1) S x=x::rows.flatMap fun r=>met d S r.2:=by
 show x::(match CO S x with|some (.tree rows)=>_|_=>_)=_;rw[jV g h]
theorem Ri {x:Str}{d:Nat}:x∈met (d+1) S x:=Ze ..
theorem Tree.tG {S T:Di}(g:xr<|S++T)(b:xr S):∀{d:Nat} {x:Str},Tree d S x->met d (S++T) x=met d S x
 | 0,_,h=>absurd h<|fun z=>z
 |d+1,x,h=>by
  rcases h with⟨ls,h⟩|⟨rows,h,so,hr⟩
  ·rw[vX g h.more,vX b h]
  ·rw[kK g h.more,kK b h,JK,JK]
   congr 2
   exact ZQ fun r m=>Tree.tG g b (hr r m).2.1
def ai (a b:Str×Str):Bool:=!decide (cs b.1<cs a.1)
def Uy (rows:Dg):Dg:=rows.mergeSort ai
theorem vo:ai a b=true↔cs a.1<=cs b.1:=by
 unfold ai;rw[Uf,Vu];exact J5
theorem Kr (rows:Dg):(Uy rows).Pairwise (fun a b=>ai a b=true) :=
 List.pairwise_mergeSort (le:=ai) (fun a b c d e=>vo.mpr<|List.le_trans (vo.mp d)<|vo.mp e) (fun a b=>by
  rw[VY,vo (a:=a) (b:=b),vo (a:=b) (b:=a)];exact List.le_total _ _) rows
theorem xF (rows:Dg):(Uy rows).Perm rows:=List.mergeSort_perm rows ai
theorem GK {rows:Dg}(nd:(rows.map (·.1)).Nodup):((Uy rows).map (·.1)).Pairwise Cs:=by
 have c:((Uy rows).map (·.1)).Nodup:=((xF rows).map _).nodup_iff.mpr nd;have d:((Uy rows).map (·.1)).Pairwise (fun a b=>cs a<=cs b):=Yc.mpr<|(Kr rows).imp fun{a b} h=>vo.mp h;exact(d.and<|ZI.mp c).imp fun{a b} h=>by
  by_cases z:cs a<cs b
  ·exact z
  ·exact absurd (xq<|List.le_antisymm h.1<|J5.mp z) h.2
theorem RX {rows ss:Dg}(nd:(rows.map (·.1)).Nodup)(p:ss.Perm rows)(l:ss.Pairwise<|fun a b=>cs a.1<=cs b.1):ss=Uy rows:=by
 refine JG (le:=fun a b=>cs a.1<=cs b.1) (fun a b ha hb c d=>?_) l ((Kr rows).imp fun{a b} h=>vo.mp h) (p.trans (xF rows).symm);have e:=xq<|List.le_antisymm c d;have ha:=p.mem_iff.mp ha;have hb:=(xF rows).mem_iff.mp hb;obtain⟨i,f,rfl⟩:=ZP.mp ha;obtain⟨j,g,rfl⟩:=ZP.mp hb;have:=(Jc (h₀:=by simpa using f) (h₁:=by simpa using g) nd).mp (by rwa[ZV,ZV]);subst this;rfl
theorem Xy {α c:Type}{f:α->c}{l:List α}(h:(l.map f).Nodup):l.Nodup:=by
 rw[ZI]at h ⊢;rw[Yc]at h;exact h.imp fun{a b} n e=>n (by rw[e])
def UE (ls:Da):Prop:=ls.length<=63/\∀l∈ls,UH l=true
structure za (d:Nat)(fs:Dk):Prop where
 wV:∀f∈fs,f.1≠[]/\f.1.length<=d/\(∀l∈f.1,zP l=true)/\UE f.2
 nd:(fs.map (·.1)).Nodup
 pre:∀f∈fs,∀k∈fs,∀t,k.1=f.1++t->t=[]
def Ck (fs:Dk):List (Str×Da):=fs.filterMap fun f=>match f.1 with
 |[a]=>some (a,f.2)
 |_=>none
def Xh (l:Str)(f:Fi):Option Fi:=match f.1 with
 |a::b::r=>if a=l then some (b::r,f.2) else none
 |_=>none
def sub (fs:Dk)(l:Str):Dk:=fs.filterMap<|Xh l
def qC (L:Da)(p:Str):Da:=if p∈L then L else L++[p]
def Cm (fs:Dk):Da:=fs.foldl (fun L f=>match f.1 with
 |a::_::_=>qC L a
 |_=>L) []
theorem MO {q:Str}:q∈qC L p↔q∈L\/q=p:=by
 unfold qC
 split
 ·rename_i h;exact⟨.inl,fun z=>z.elim id<|fun z=>z▸h⟩
 ·rw[ZD,Q9]
theorem Om {L:Da}(h:L.Nodup):(qC L p).Nodup:=by
 unfold qC
 split
 ·exact h
 ·rename_i z;exact jQ h z
theorem j8 (fs:Dk)(f:Fi):Cm (fs++[f])=match f.1 with
 |a::_::_=>qC (Cm fs) a
 |_=>Cm fs:=by
 unfold Cm;rw[Y2];rfl
theorem xJ (fs:Dk):(Cm fs).Nodup/\∀l,l∈Cm fs↔∃f∈fs,∃b r,f.1=l::b::r:=by
 induction fs using snoc_ind with
 |h0=>exact⟨Yw,fun l=>⟨fun h=>(nomatch h),fun⟨f,c,_⟩=>(nomatch c)⟩⟩
 |h1 fs f ih =>
  rw[j8];have old:∀l,(∃k∈fs++[f],∃b r,k.1=l::b::r)↔(∃k∈fs,∃b r,k.1=l::b::r)\/∃b r,f.1=l::b::r:=fun l=>by
   constructor
   ·rintro⟨k,hk,z⟩
    rcases ZD.mp hk with q|q
    ·exact .inl ⟨k,q,z⟩
    ·rw[Q9.mp q]at z;exact .inr z
   ·rintro(⟨k,hk,z⟩|z)
    ·exact⟨k,ZX _ hk,z⟩
    ·exact⟨f,ZL _<|Q9.mpr rfl,z⟩
  match e:f.1 with
  |[]=>exact⟨ih.1,fun l=>by rw[old,ih.2,e];exact⟨.inl,fun z=>z.elim id fun⟨b,r,z⟩=>(nomatch z)⟩⟩
  |[a]=>exact⟨ih.1,fun l=>by rw[old,ih.2,e];exact⟨.inl,fun z=>z.elim id fun⟨b,r,z⟩=>(nomatch z)⟩⟩
  |a::b::r =>
   refine⟨Om ih.1,fun l=>?_⟩;show l∈qC (Cm fs) a↔_;rw[MO,ih.2,old,e];exact or_congr Iff.rfl ⟨fun z=>⟨b,r,by rw[z]⟩,fun⟨_,_,z⟩=>(List.cons.inj z).1.symm⟩
theorem wH {k:Fi}:k∈sub fs l↔k.1≠[]/\(l::k.1,k.2)∈fs:=by
 unfold sub;rw[Jq];constructor
 ·rintro⟨f,c,e⟩;unfold Xh at e
  split at e
  ·rename_i a b r q
   split at e
   ·rename_i z;subst z;cases e;refine⟨ZR _ _,?_⟩;have:f=(a::b::r,f.2):=LF q rfl;rwa[←this]
   ·cases e
  ·cases e
 ·rintro⟨d,c⟩;refine⟨_,c,?_⟩;cases q:k.1 with
  |nil=>exact absurd q d
  |cons b r =>
   unfold Xh;show(if l=l then some ((b::r,k.2):Fi) else none)=some k;rw[Zs rfl]
   congr 1
   exact LF q.symm rfl
theorem wG {a:Str}{ls:Da}:(a,ls)∈Ck fs↔([a],ls)∈fs:=by
 unfold Ck;rw[Jq];constructor
 ·rintro⟨f,c,e⟩
  split at e
  ·rename_i b q;cases e;have:f=([a],f.2):=LF q rfl;rwa[←this]
  ·cases e
 ·intro h;exact⟨_,h,rfl⟩
theorem za.sub {d:Nat}(h:za (d+1) fs)(l:Str):za d (sub fs l):=by
 refine⟨fun k hk=>?_,?_,fun k hk m hm t e=>?_⟩
 ·obtain⟨i,c⟩:=wH.mp hk;obtain⟨_,g,j,n⟩:=h.wV _ c;have g:k.1.length+1<=d+1:=g;exact⟨i,by lia,fun z p=>j z<|Zb _ p,n⟩
 ·have:((An.sub fs l).map fun k=>l::k.1).Sublist (fs.map (·.1)):=by
   unfold An.sub;have:∀fs:Dk,((fs.filterMap<|Xh l).map fun k=>l::k.1).Sublist (fs.map (·.1)):=by
    intro fs
    induction fs with
    |nil=>exact List.Sublist.slnil
    |cons f fs ih =>
     rw[YN,Zu];cases q:Xh l f with
     |none=>exact ih.cons _
     |some k =>
      show((l::k.1)::_).Sublist _;have e:l::k.1=f.1:=by
       unfold Xh at q
       split at q
       ·rename_i a b r e
        split at q
        ·rename_i z;subst z;cases q;exact e.symm
        ·cases q
       ·cases q
      rw[e];exact ih.cons₂ _
   exact this fs
  have:=this.nodup h.nd;have e:((An.sub fs l).map fun k=>l::k.1)=((An.sub fs l).map (·.1)).map (List.cons l):=by rw[ZC];rfl
  rw[e]at this;exact Xy this
 ·obtain⟨_,c⟩:=wH.mp hk;obtain⟨_,o⟩:=wH.mp hm;exact h.pre _ c _ o t (by show l::m.1=l::k.1++t;rw[e];rfl)
noncomputable def Cf (a:List En×Dg)(f:Str×Da):List En×Dg:=((Cr a.1<|.leaf f.2).1,a.2++[(f.1,(Cr a.1<|.leaf f.2).2)])
noncomputable def Uv:Nat->Di->Dk->List En×Str
 | 0,S,_=>(S,"")
 |d+1,S,fs =>
  let b:=(Cm fs).foldl (fun a l=>((Uv d a.1<|sub fs l).1,a.2++[(l,(Uv d a.1<|sub fs l).2)])) ((Ck fs).foldl Cf (S,[]))
  Cr b.1 (.tree<|Uy b.2)
structure Fo (d:Nat)(S0 S:Di)(rows:Dg)(ps:List<|Str×Dk):Prop where
 ok:xr S
 new:∃T,S=S0++T/\∀e∈T,∃r∈rows,e.nm∈met d S r.2
 wV:rows.map (·.1)=ps.map (·.1)
 rd:∀(i:Nat) (r:Str×Str) (p:Str×Dk),rows[i]?=some r->ps[i]?=some p->Tree d S r.2/\∀f,f∈zf d S r.2↔f∈p.2
theorem Fo.nil (g:xr S):Fo d S S [] []:=⟨g,⟨[],(ZG _).symm,fun e b=>(nomatch b)⟩,rfl,fun i r p h=>(nomatch h)⟩
theorem Fo.len (h:Fo d S0 S rows ps):rows.length=ps.length:=by
 have:=congrArg List.length h.wV;rw[Q8,Q8]at this;exact this
theorem Fo.step {T:Di}(h:Fo d S0 S rows ps){l n:Str}{g:Dk}(ok:xr<|S++T)(new:∀e∈T,e.nm∈met d (S++T) n)(A:Tree d (S++T) n)(rd:∀f,f∈zf d (S++T) n↔f∈g):Fo d S0 (S++T) (rows++[(l,n)]) (ps++[(l,g)]):=by
 obtain⟨s,u,v⟩:=h.new;refine⟨ok,⟨s++T,by rw[←Z6,←u],fun e w=>?_⟩,by rw[Zl,Zl,h.wV];rfl,fun i r p b c=>?_⟩
 ·rcases ZD.mp w with z|z
  ·obtain⟨r,j,m⟩:=v e z;obtain⟨i,b⟩:=Ja.mp j;have hl:=(Zw.mp b).1;obtain⟨t,_⟩:=h.rd i r _ b (Zj<|by rwa[←h.len]);exact⟨r,ZX _ j,by rw[t.tG ok h.ok];exact m⟩
  ·exact⟨(l,n),ZL _<|Q9.mpr rfl,new e z⟩
 ·by_cases z:i<rows.length
  ·rw[Yj z]at b;rw[Yj<|by rwa[←h.len]]at c;obtain⟨t,k⟩:=h.rd i r p b c;obtain⟨y,x⟩:=t.more ok h.ok;exact⟨y,by rw[x];exact k⟩
  ·rw[Yo<|by lia]at b;rw[Yo (by rw[←h.len];lia)]at c;have o:i-rows.length=0:=by
    rcases JR (i-rows.length) with q|q
    ·exact q
    ·rw[List.getElem?_eq_none_iff.mpr (by show 1<=_;lia)]at b;cases b
   rw[o]at b;rw[←h.len,o]at c;cases b;cases c;exact⟨A,rd⟩
theorem wF:∀rs:Dg,(z9 rs).length=2*rs.length
 |[]=>rfl
 |r::rs=>by
  show(z9 rs).length+1+1=2*(rs.length+1);rw[wF rs];lia
theorem HM:∀{rs:Dg} {p:Str},p∈z9 rs->∃r∈rs,p=r.1\/p=r.2
 |r::rs,p,h=>by
  rcases Zi.mp h with q|h
  ·exact⟨r,Ze ..,.inl q⟩
  ·rcases Zi.mp h with q|h
   ·exact⟨r,Ze ..,.inr q⟩
   ·obtain⟨s,b,q⟩:=HM h;exact⟨s,Zb _ b,q⟩
structure wD (d:Nat)(S:Di)(fs:Dk)(q:List En×Str):Prop where
 ok:xr q.1
 new:∃T,q.1=S++T/\∀e∈T,e.nm∈met d q.1 q.2
 tree:Tree d q.1 q.2
 rd:∀f,f∈zf d q.1 q.2↔f∈fs
 node:∃rows,At q.1 q.2<|.tree rows
theorem uR (h:zP x=true):Ok 1000 x:=by
 unfold zP at h;rw[Zm,Zm,ZM,ZM]at h;refine⟨by lia,?_⟩;rw[yU];intro c b;have:=ZU.mp h.2 c b;unfold UI at this;simp only[Zm,ZM]at this;lia
theorem Tp (g:xr S){rows:Dg}(hl:rows.length<=63)(h:∀r∈rows,zP r.1=true/\r.2∈S.map En.nm):(Th.tree rows).Good:=by
 refine⟨by show(z9 rows).length<=1000;rw[wF];lia,fun p i=>?_⟩;obtain⟨r,j,q⟩:=HM i;obtain⟨c,d⟩:=h r j
 rcases q with q|q
 ·rw[q];exact uR c
 ·obtain⟨e,f,b⟩:=Zc.mp d;rw[q,←b];exact g.nm f
theorem Fo.put (h:Fo d S0 S rows ps)(hl:rows.length<=63)(nd:(ps.map (·.1)).Nodup)(x:∀p∈ps,zP p.1=true/\p.2≠[])(ls:S.length<2000):wD (d+1) S0 (ps.flatMap fun p=>p.2.map fun f=>(p.1::f.1,f.2)) (Cr S<|.tree<|Uy rows)/\(Cr S<|.tree<|Uy rows).1.length<=S.length+1:=by
 have at_:∀r∈rows,∃p∈ps,r.1=p.1/\Tree d S r.2/\∀f,f∈zf d S r.2↔f∈p.2:=fun r b=>by
  obtain⟨i,q⟩:=Ja.mp b;have hl:=(Zw.mp q).1;have c:=Zj (l:=ps) (i:=i) (by rwa[←h.len]);have e:=congrArg (fun l=>l[i]?) h.wV;simp only[Zk,q,c,Yt]at e;exact⟨_,YL _,Option.some.inj e,h.rd i r _ q c⟩
 have G:∀p∈ps,∃r∈rows,r.1=p.1/\Tree d S r.2/\∀f,f∈zf d S r.2↔f∈p.2:=fun p w=>by
  obtain⟨i,c⟩:=Ja.mp w;have hl:=(Zw.mp c).1;have q:=Zj (l:=rows) (i:=i) (by rwa[h.len]);have e:=congrArg (fun l=>l[i]?) h.wV;simp only[Zk,q,c,Yt]at e;exact⟨_,YL _,Option.some.inj e,h.rd i _ p q c⟩
 have s:∀{r},r∈Uy rows↔r∈rows:=(xF rows).mem_iff;have B:(Th.tree<|Uy rows).Good:=Tp h.ok (by rwa[(xF rows).length_eq]) fun r b=>by
  obtain⟨p,c,e,t,_⟩:=at_ r<|s.mp b;exact⟨by rw[e];exact(x p c).1,t.mem⟩
 obtain⟨ok,g,F,T,n,D⟩:=FE h.ok B ls;refine⟨?_,F⟩;have ne:∀r∈rows,zf d S r.2≠[]:=fun r b=>by
  obtain⟨p,c,e,t,k⟩:=at_ r b;intro z;refine(x p c).2 (JL.mpr fun f o=>?_);rw[←k,z]at o;cases o
 rw[n]at ok g;have u:∀r∈rows,Tree d (S++T) r.2/\zf d (S++T) r.2=zf d S r.2:=fun r b=>by
  obtain⟨p,c,e,t,k⟩:=at_ r b;exact t.more ok h.ok
 obtain⟨y,A,C⟩:=h.new;refine⟨by rw[n];exact ok,⟨y++T,by rw[n,A,Z6],fun e E=>?_⟩,?_,fun f=>?_,⟨_,by rw[n];exact g⟩⟩
 ·rw[n,kK ok g]
  rcases ZD.mp E with z|z
  ·obtain⟨r,b,m⟩:=C e z;obtain⟨p,c,_,t,_⟩:=at_ r b;exact Zb _ (Yd.mpr ⟨r,s.mpr b,by rw[t.tG ok h.ok];exact m⟩)
  ·rw[D e z];exact Ze ..
 ·rw[n];refine .inr ⟨_,g,GK<|by rwa[h.wV],fun r b=>?_⟩;have b:=s.mp b;obtain⟨p,c,e,t,_⟩:=at_ r b;exact⟨by rw[e];exact(x p c).1,(u r b).1,by rw[(u r b).2];exact ne r b⟩
 ·rw[n,yJ ok g,Yd,Yd];constructor
  ·rintro⟨r,b,o⟩;have b:=s.mp b;obtain⟨p,c,e,t,k⟩:=at_ r b;obtain⟨v,j,rfl⟩:=Zc.mp o;rw[(u r b).2,k]at j;exact⟨p,c,Zc.mpr ⟨v,j,by rw[e]⟩⟩
  ·rintro⟨p,c,o⟩;obtain⟨r,b,e,t,k⟩:=G p c;obtain⟨v,j,rfl⟩:=Zc.mp o;exact⟨r,s.mpr b,Zc.mpr ⟨v,by rw[(u r b).2,k];exact j,by rw[e]⟩⟩
def wt (fs:Dk):Nat:=(fs.map fun f=>f.1.length).sum
theorem Nn (a b:Dk):wt (a++b)=wt a+wt b:=by
 unfold wt;rw[Zl,Vi]
theorem Hw (h:UH x=true):Ok 1000 x:=by
 unfold UH at h;rw[Zm,ZM]at h;refine⟨by lia,?_⟩;rw[yU];intro c b;have:=ZU.mp h.2 c b;unfold UD at this;simp only[Zm,ZM]at this;lia
theorem NO (h:UE ls):(Th.leaf ls).Good:=⟨by show ls.length<=1000;have:=h.1;lia,fun p b=>Hw<|h.2 p b⟩
theorem Ik {d:Nat}:∀(vs:List<|Str×Da) {S:Di} {rows:Dg} {ps:List (Str×Dk)},Fo (d+1) S0 S rows ps->(∀v∈vs,UE v.2)->S.length+vs.length<=2000 ->
  Fo (d+1) S0 (vs.foldl Cf (S,rows)).1 (vs.foldl Cf (S,rows)).2 (ps++vs.map fun v=>(v.1,[([],v.2)]))/\(vs.foldl Cf (S,rows)).1.length<=S.length+vs.length
 |[],S,rows,ps,h,_,_=>⟨by rw[YZ,ZG];exact h,Zf _⟩
 |v::vs,S,rows,ps,h,hv,hl=>by
  have hl:S.length+(vs.length+1)<=2000:=hl;obtain⟨ok,b,p,T,g,c⟩:=FE h.ok (NO<|hv v<|Ze ..) (by lia);rw[JC];show Fo (d+1) S0 (vs.foldl Cf<|Cf (S,rows) v).1 (vs.foldl Cf<|Cf (S,rows) v).2 _/\(vs.foldl Cf<|Cf (S,rows) v).1.length<=S.length+(vs.length+1);have e:Cf (S,rows) v=((Cr S<|.leaf v.2).1,rows++[(v.1,(Cr S<|.leaf v.2).2)]):=rfl;rw[e,Zu,show ps++(v.1,[(([],v.2):Fi)])::vs.map (fun v=>(v.1,[(([],v.2):Fi)]))=(ps++[(v.1,[(([],v.2):Fi)])])++vs.map (fun v=>(v.1,[(([],v.2):Fi)])) by simp];have st:Fo (d+1) S0 (Cr S<|.leaf v.2).1 (rows++[(v.1,(Cr S<|.leaf v.2).2)]) (ps++[(v.1,[(([],v.2):Fi)])]):=by
   generalize (Cr S<|.leaf v.2).2=n at b c ⊢;rw[g]at ok b ⊢;exact h.step ok (fun e j=>by rw[c e j];exact Ri) (.inl ⟨_,b⟩) (fun f=>by rw[yH ok b])
  obtain⟨i,o⟩:=Ik vs st (fun w l=>hv w<|Zb _ l) (by lia);exact⟨i,by lia⟩
noncomputable def Cj (d:Nat)(fs:Dk)(a:List En×Dg)(l:Str):List En×Dg:=((Uv d a.1<|sub fs l).1,a.2++[(l,(Uv d a.1<|sub fs l).2)])
theorem NX (d:Nat)(S:Di)(fs:Dk):Uv (d+1) S fs=Cr ((Cm fs).foldl (Cj d fs)<|(Ck fs).foldl Cf (S,[])).1 (.tree<|Uy ((Cm fs).foldl (Cj d fs)<|(Ck fs).foldl Cf (S,[])).2):=rfl
theorem K1 {S0:Di}:∀(ls:Da) (H:∀l∈ls,∀S,xr S->S.length+1+wt (sub fs l)<=2000->wD e S (sub fs l) (Uv d S<|sub fs l)/\(Uv d S<|sub fs l).1.length<=S.length+1+wt (sub fs l)) {S:Di} {rows:Dg} {ps:List (Str×Dk)},
  Fo e S0 S rows ps->S.length+(ls.map fun l=>1+wt (sub fs l)).sum<=2000 ->
  Fo e S0 (ls.foldl (Cj d fs) (S,rows)).1 (ls.foldl (Cj d fs) (S,rows)).2 (ps++ls.map fun l=>(l,sub fs l))/\(ls.foldl (Cj d fs) (S,rows)).1.length<=S.length+(ls.map fun l=>1+wt (sub fs l)).sum
 |[],_,S,rows,ps,h,_=>⟨by rw[YZ,ZG];exact h,Zf _⟩
 |l::ls,H,S,rows,ps,h,hl=>by
  rw[Zu,Yl]at hl;obtain⟨o,q⟩:=H l (Ze ..) S h.ok (by lia);rw[JC,Zu,Zu,Yl];have f:Cj d fs (S,rows) l=((Uv d S<|sub fs l).1,rows++[(l,(Uv d S<|sub fs l).2)]):=rfl;rw[f,show ps++(l,sub fs l)::ls.map (fun l=>(l,sub fs l))=(ps++[(l,sub fs l)])++ls.map (fun l=>(l,sub fs l)) by simp];obtain⟨ok,⟨T,g,b⟩,c,rd,_⟩:=o;have st:Fo e S0 (Uv d S<|sub fs l).1 (rows++[(l,(Uv d S<|sub fs l).2)]) (ps++[(l,sub fs l)]):=by
   generalize (Uv d S<|sub fs l).2=n at b c rd ⊢;rw[g]at ok b c rd ⊢;exact h.step ok b c rd
  obtain⟨i,p⟩:=K1 ls (fun w j=>H w<|Zb _ j) st (by lia);exact⟨i,by lia⟩
theorem Kw {g g':Str->Nat}{a:Str}{c:Nat}(h:∀l,l≠a->g' l=g l)(ha:g' a<=g a+c):∀{L:Da},L.Nodup->(L.map g').sum<=(L.map g).sum+c
 |[],_=>ZN _
 |l::L,nd=>by
  rw[ZS]at nd;rw[Zu,Zu,Yl,Yl]
  by_cases z:l=a
  ·subst z;have:L.map g'=L.map g:=ZQ fun m hm=>h m fun q=>nd.1<|q▸hm;rw[this];lia
  ·have:=Kw h ha nd.2;rw[h l z];lia
theorem sub_snoc (fs:Dk)(f:Fi)(l:Str):sub (fs++[f]) l=sub fs l++(Xh l f).toList:=by
 unfold sub;rw[List.filterMap_append]
 congr 1
theorem R1 {f:Fi}(h:f.1=[]):Xh l f=none:=by unfold Xh;rw[h]
theorem Kv {f:Fi}{a:Str}(h:f.1=[a]):Xh l f=none:=by unfold Xh;rw[h]
theorem v6 {f:Fi}{a b:Str}{r:Da}(h:f.1=a::b::r):Xh l f=if a=l then some (b::r,f.2) else none:=by unfold Xh;rw[h]
theorem vY (fs:Dk)(f:Fi):Ck (fs++[f])=Ck fs++(match f.1 with|[a]=>[(a,f.2)]|_=>[]):=by
 unfold Ck;rw[List.filterMap_append]
 congr 1
 rw[YN]
 match f.1 with
 |[]=>rfl
 |[a]=>rfl
 |a::b::r=>rfl
theorem many (fs:Dk):(Ck fs).length+((Cm fs).map fun l=>1+wt (sub fs l)).sum<=wt fs:=by
 induction fs using snoc_ind with
 |h0=>exact Zf _
 |h1 fs f ih =>
  have same:(∀l,Xh l f=none)->∀l,sub (fs++[f]) l=sub fs l:=fun h l=>by rw[sub_snoc,h l];exact ZG _
  rw[Nn,vY,j8,Zh];have o:wt [f]=f.1.length:=by unfold wt;simp
  rw[o]
  match e:f.1 with
  |[] =>
   have:=same fun l=>R1 e;rw[show(fun l=>1+wt (sub (fs++[f]) l))=fun l=>1+wt (sub fs l) from funext fun l=>by rw[this l]];show(Ck fs).length+0+((Cm fs).map fun l=>1+wt (sub fs l)).sum<=wt fs+0;lia
  |[a] =>
   have:=same fun l=>Kv e;rw[show(fun l=>1+wt (sub (fs++[f]) l))=fun l=>1+wt (sub fs l) from funext fun l=>by rw[this l]];show(Ck fs).length+1+((Cm fs).map fun l=>1+wt (sub fs l)).sum<=wt fs+1;lia
  |a::b::r =>
   show(Ck fs).length+0+((qC (Cm fs) a).map fun l=>1+wt (sub (fs++[f]) l)).sum<=wt fs+(r.length+1+1);have i:∀l,l≠a->1+wt (sub (fs++[f]) l)=1+wt (sub fs l):=fun l hl=>by
    rw[sub_snoc,v6 e,Zt<|EB hl];show 1+wt (sub fs l++[])=_;rw[ZG]
   have ha:1+wt (sub (fs++[f]) a)=1+wt (sub fs a)+(r.length+1):=by
    rw[sub_snoc,v6 e,Zs rfl];show 1+wt (sub fs a++[(b::r,f.2)])=_;rw[Nn];show 1+(wt (sub fs a)+((b::r).length+0))=_;rw[Zr];lia
   have bump:=Kw (g:=fun l=>1+wt (sub fs l)) (g':=fun l=>1+wt (sub (fs++[f]) l)) (a:=a) (c:=r.length+1) i (J8 ha) (xJ fs).1;unfold qC
   split
   ·lia
   ·rename_i z;rw[Zl,Vi];have n:sub fs a=[]:=JL.mpr fun k hk=>by
     obtain⟨h0,j⟩:=wH.mp hk;refine z<|((xJ fs).2 a).mpr ⟨_,j,?_⟩;cases q:k.1 with
     |nil=>exact absurd q h0
     |cons b r=>exact⟨b,r,rfl⟩
    have d:(Cm fs).map (fun l=>1+wt (sub (fs++[f]) l))=(Cm fs).map (fun l=>1+wt (sub fs l)):=ZQ fun l hl=>i l fun q=>z<|q▸hl;rw[d];show(Ck fs).length+0+(((Cm fs).map fun l=>1+wt (sub fs l)).sum+((1+wt (sub (fs++[f]) a))+0))<=_;rw[ha,n];show _+(_+(1+0+(r.length+1)+0))<=_;lia
def pieces (fs:Dk):List (Str×Dk):=(Ck fs).map (fun v=>(v.1,[([],v.2)]))++(Cm fs).map fun l=>(l,sub fs l)
theorem MW (g:za d fs)(f:Fi):f∈((pieces fs).flatMap fun p=>p.2.map fun k=>(p.1::k.1,k.2))↔f∈fs:=by
 rw[Yd];constructor
 ·rintro⟨p,j,c⟩;obtain⟨k,hk,rfl⟩:=Zc.mp c
  rcases ZD.mp j with z|z
  ·obtain⟨v,n,rfl⟩:=Zc.mp z;rw[Q9.mp hk];exact wG.mp n
  ·obtain⟨l,hl,rfl⟩:=Zc.mp z;exact(wH.mp hk).2
 ·intro c;obtain⟨i,_⟩:=g.wV f c
  match e:f.1 with
  |[]=>exact absurd e i
  |[a] =>
   have h:f=([a],f.2):=LF e rfl;exact⟨(a,[([],f.2)]),ZX _<|Zc.mpr ⟨(a,f.2),wG.mpr<|h▸c,rfl⟩,Zc.mpr ⟨([],f.2),Q9.mpr rfl,h.symm⟩⟩
  |a::b::r =>
   have h:f=(a::b::r,f.2):=LF e rfl;exact⟨(a,sub fs a),ZL _<|Zc.mpr ⟨a,((xJ fs).2 a).mpr ⟨f,c,b,r,e⟩,rfl⟩,Zc.mpr ⟨(b::r,f.2),wH.mpr ⟨ZR _ _,h▸c⟩,h.symm⟩⟩
theorem Rf {fs:Dk}(nd:(fs.map (·.1)).Nodup):((Ck fs).map (·.1)).Nodup:=by
 have:((Ck fs).map fun v=>[v.1]).Sublist (fs.map (·.1)):=by
  unfold Ck
  induction fs with
  |nil=>exact List.Sublist.slnil
  |cons f fs ih =>
   rw[Zu,ZS]at nd;rw[YN,Zu]
   match e:f.1 with
   |[]=>exact(ih nd.2).cons _
   |[a]=>exact(ih nd.2).cons₂ _
   |a::b::r=>exact(ih nd.2).cons _
 have:=this.nodup nd;have e:((Ck fs).map fun v=>[v.1])=((Ck fs).map (·.1)).map fun a=>[a]:=by rw[ZC];rfl
 rw[e]at this;exact Xy this
theorem Xz (g:za d fs):((pieces fs).map (·.1)).Nodup:=by
 unfold pieces;rw[Zl,ZC,ZC,Y4];refine⟨Rf g.nd,by rw[show((fun p:Str×Dk=>p.1)∘fun l=>(l,sub fs l))=id from rfl,VW];exact(xJ fs).1,fun a ha b hb z=>?_⟩;subst z;obtain⟨v,c,e⟩:=Zc.mp ha;obtain⟨l,hl,rfl⟩:=Zc.mp hb;have e:v.1=l:=e;obtain⟨f,i,b,r,h⟩:=((xJ fs).2 l).mp hl;have c:([v.1],v.2)∈fs:=wG.mp c;have:=g.pre _ c f i (b::r) (by rw[h,e];rfl);cases this
theorem Bt (g:za d fs):∀p∈pieces fs,zP p.1=true/\p.2≠[]:=fun p h=>by
 rcases ZD.mp h with z|z
 ·obtain⟨v,i,rfl⟩:=Zc.mp z;exact⟨(g.wV _<|wG.mp i).2.2.1 _<|Q9.mpr rfl,ZR _ _⟩
 ·obtain⟨l,hl,rfl⟩:=Zc.mp z;obtain⟨f,e,b,r,c⟩:=((xJ fs).2 l).mp hl;refine⟨(g.wV f e).2.2.1 _ (by rw[c];exact Ze ..),List.ne_nil_of_mem (a:=(b::r,f.2))<|wH.mpr ⟨ZR _ _,?_⟩⟩;have:f=(l::b::r,f.2):=LF c rfl;exact this▸e
theorem sub_len:(sub fs l).length<=fs.length:=List.length_filterMap_le _ _
theorem qV (fs:Dk):(Ck fs).length+(Cm fs).length<=fs.length:=by
 induction fs using snoc_ind with
 |h0=>exact Zf _
 |h1 fs f ih =>
  rw[vY,j8,Zh,Zh]
  match e:f.1 with
  |[]=>show(Ck fs).length+0+(Cm fs).length<=fs.length+1;lia
  |[a]=>show(Ck fs).length+1+(Cm fs).length<=fs.length+1;lia
  |a::b::r =>
   show _+0+(qC (Cm fs) a).length<=_+1;unfold qC
   split
   ·lia
   ·rw[Zh];show _+0+(_+1)<=_+1;lia
theorem Kg {d e:Nat}(ok:xr S)(g:za n fs)(hl:fs.length<=63)(hs:S.length+1+wt fs<=2000)
  (H:∀l∈Cm fs,∀S,xr S->S.length+1+wt (sub fs l)<=2000->wD (e+1) S (sub fs l) (Uv d S<|sub fs l)/\(Uv d S<|sub fs l).1.length<=S.length+1+wt (sub fs l)) :
  wD (e+2) S fs (Uv (d+1) S fs)/\(Uv (d+1) S fs).1.length<=S.length+1+wt fs:=by
 have hm:=many fs;have r:=qV fs;obtain⟨o,t⟩:=Ik (d:=e) (Ck fs) (Fo.nil ok) (fun v p=>(g.wV _<|wG.mp p).2.2.2) (by lia);have b:=K1 (Cm fs) H (S:=((Ck fs).foldl Cf (S,[])).1) (rows:=((Ck fs).foldl Cf (S,[])).2) o (by lia);obtain⟨c,i⟩:=b;rw[NX];rw[V0]at c;have j:pieces fs=(Ck fs).map (fun v=>(v.1,[(([],v.2):Fi)]))++(Cm fs).map fun l=>(l,sub fs l):=rfl;rw[←j]at c;have c:Fo (e+1) S ((Cm fs).foldl (Cj d fs)<|(Ck fs).foldl Cf (S,[])).1 ((Cm fs).foldl (Cj d fs)<|(Ck fs).foldl Cf (S,[])).2 (pieces fs):=c;have i:((Cm fs).foldl (Cj d fs)<|(Ck fs).foldl Cf (S,[])).1.length<=_:=i;generalize (Cm fs).foldl (Cj d fs) ((Ck fs).foldl Cf (S,[]))=q at c i ⊢;have s:q.2.length<=63:=by
  rw[c.len,j,Zh,Q8,Q8];lia
 obtain⟨h,r⟩:=c.put s (Xz g) (Bt g) (by lia);exact⟨⟨h.ok,h.new,h.tree,fun f=>by rw[h.rd,MW g],h.node⟩,by lia⟩
theorem Il:∀(d:Nat) {S:Di} {fs:Dk},xr S->za (d+1) fs->fs.length<=63->S.length+1+wt fs<=2000->wD (d+2) S fs (Uv (d+1) S fs)/\(Uv (d+1) S fs).1.length<=S.length+1+wt fs
 | 0,S,fs,ok,g,hl,hs=>Kg ok g hl hs fun l hl=>by
  obtain⟨f,i,b,r,h⟩:=((xJ fs).2 l).mp hl;have:=(g.wV f i).2.1;rw[h,Zr,Zr]at this;lia
 |d+1,S,fs,ok,g,hl,hs=>Kg ok g hl hs fun l _ j e c=>Il d e (g.sub l) (Z0 sub_len hl) c
end An
namespace AxK
structure TO (β:Type) where
 lt:β->β->Bool
 lE:∀a b,lt a b=true->lt b a=false
 lO:∀a b c,lt b a=false->lt c b=false->lt c a=false
 lZ:∀a b,lt a b=false->lt b a=false->a=b
section
variable {β γ:Type}{O:TO β}
def TO.le (O:TO β)(a b:β):Prop:=O.lt b a=false
theorem TO.refl (O:TO β)(a:β):O.le a a:=by
 show O.lt a a=false;cases h:O.lt a a with
 |false=>rfl
 |true=>exact h.symm.trans<|O.lE a a h
theorem TO.of_lt {a b:β}(h:O.lt a b=true):O.le a b:=O.lE a b h
theorem TO.trans {a b c:β}(d:O.le a b)(e:O.le b c):O.le a c:=O.lO a b c d e
def TO.nat:TO Nat:=⟨fun a b=>decide (a<b),fun a b h=>by have:=Zv h;exact Zo<|by lia,fun a b c d e=>by
 have:=Ju d;have:=Ju e;exact Zo<|by lia,fun a b d e=>by
 have:=Ju d;have:=Ju e;lia⟩
def yO (O:TO β):List β->List β->Bool
 |[],[]=>false
 |[],_::_=>true
 |_::_,[]=>false
 |a::as,b::bs=>O.lt a b||(!O.lt b a&&yO O as bs)
theorem Hy (O:TO β):∀a b:List β,yO O a b=true->yO O b a=false
 |[],[],h=>nomatch h
 |[],_::_,_=>rfl
 |_::_,[],h=>nomatch h
 |a::as,b::bs,h=>by
  unfold yO at h ⊢;cases c:O.lt a b with
  |true =>
   rw[O.lE _ _ c];simp
  |false =>
   rw[c]at h;have h:O.lt b a=false/\yO O as bs=true:=by simpa using h
   rw[h.1,Hy O as bs h.2];rfl
theorem Hx (O:TO β):∀a b:List β,yO O a b=false->yO O b a=false->a=b
 |[],[],_,_=>rfl
 |[],_::_,h,_=>nomatch h
 |_::_,[],_,h=>nomatch h
 |a::as,b::bs,c,d=>by
  unfold yO at c d;have c:=JF.mp c;have d:=JF.mp d;have e:=O.lZ _ _ c.1 d.1;have f:yO O as bs=false:=by have:=c.2;rw[d.1]at this;simpa using this
  have g:yO O bs as=false:=by have:=d.2;rw[c.1]at this;simpa using this
  rw[e,Hx O as bs f g]
theorem HE (O:TO β):∀a b c:List β,yO O b a=false->yO O c b=false->yO O c a=false
 |[],[],c,_,h=>h
 |[],_::_,[],_,_=>rfl
 |[],_::_,_::_,_,_=>rfl
 |_::_,[],c,h,_=>nomatch h
 |_::_,_::_,[],_,h=>nomatch h
 |a::as,b::bs,c::cs,d,e=>by
  unfold yO at d e ⊢;have d:=JF.mp d;have e:=JF.mp e;rw[O.lO _ _ _ d.1 e.1,Ui];cases q:O.lt a c with
  |true=>rfl
  |false =>
   have f:a=c:=O.lZ _ _ q<|O.lO _ _ _ d.1 e.1;have g:O.lt a b=false:=by rw[f];exact e.1
   have i:O.lt b c=false:=by rw[←f];exact d.1
   have j:yO O bs as=false:=by have:=d.2;rw[g]at this;simpa using this
   have l:yO O cs bs=false:=by have:=e.2;rw[i]at this;simpa using this
   rw[HE O as bs cs j l];rfl
def TO.list (O:TO β):TO (List β):=⟨yO O,Hy O,HE O,Hx O⟩
def TO.by_ (O:TO β)(f:γ->β)(h:∀a b,f a=f b->a=b):TO γ:=⟨fun a b=>O.lt (f a)<|f b,fun a b=>O.lE _ _,fun a b c=>O.lO _ _ _,fun a b d e=>h a b<|O.lZ _ _ d e⟩
end
open PySem PySem.W PyProof.Rows
def run {b:Type}(lt:Nat->Nat->Bool):KasT b->b
 | .ret a=>a
 | .ask i j k=>run lt<|k<|lt i j
theorem run_bind {b c:Type}{f:b->KasT c}:∀t:KasT b,run lt (t.bind f)=run lt (f<|run lt t)
 | .ret _=>rfl
 | .ask i j k=>run_bind<|k<|lt i j
section
variable {β:Type}{O:TO β}{key:Nat->β}
def kn (key:Nat->β)(p:Array Nat)(i:Nat):β:=key<|p.getD i 0
def Up (O:TO β)(key:Nat->β)(p:Array Nat)(n:Nat):Prop:=∀i j,i<=j->j<n->O.le (kn key p i) (kn key p j)
def Down (O:TO β)(key:Nat->β)(p:Array Nat)(n:Nat):Prop:=∀i j,i<=j->j<n->O.le (kn key p j) (kn key p i)
theorem Hn {p q:Array Nat}{i j:Nat}(h:p[i]?=q[j]?):kn key p i=kn key q j:=by
 unfold kn;rw[ZO,ZO,h]
theorem Up.snoc {n:Nat}(c:1<=n)(h:Up O key p n)(hl:O.le (kn key p<|n-1)<|kn key p n):Up O key p (n+1):=fun i j b d=>by
 by_cases z:j<n
 ·exact h i j b z
 ·have z:j=n:=by lia
  subst z
  by_cases z:i=j
  ·subst z;exact O.refl _
  ·exact TO.trans (h i (j-1) (by lia)<|by lia) hl
theorem Down.snoc {n:Nat}(c:1<=n)(h:Down O key p n)(hl:O.le (kn key p n)<|kn key p<|n-1):Down O key p (n+1):=fun i j b d=>by
 by_cases z:j<n
 ·exact h i j b z
 ·have z:j=n:=by lia
  subst z
  by_cases z:i=j
  ·subst z;exact O.refl _
  ·exact TO.trans hl (h i (j-1) (by lia)<|by lia)
theorem one_up (p:Array Nat):Up O key p 1:=fun i j b c=>by
 have:i=j:=by lia
 subst this;exact O.refl _
theorem KN:∀(f n:Nat),1<=n->Up O key p n->∃m,run (fun i j=>O.lt (key i)<|key j) (kas_asc p f n)=m/\n<=m/\m<=n+f/\Up O key p m/\(m=n+f\/O.lt (kn key p m) (kn key p<|m-1)=true)
 | 0,n,_,h=>⟨n,rfl,Zf _,Zf _,h,.inl rfl⟩
 |f+1,n,h1,h=>by
  unfold kas_asc;show∃m,run _ (if O.lt (kn key p n) (kn key p<|n-1)=true then KasT.ret n else kas_asc p f (n+1))=m/\_;cases q:O.lt (kn key p n) (kn key p<|n-1) with
  |true=>exact⟨n,by rw[Zs rfl];rfl,Zf _,by lia,h,.inr q⟩
  |false =>
   rw[Zt<|by decide];obtain⟨m,e,a,b,c,d⟩:=KN f (n+1) (by lia)<|h.snoc h1 q;exact⟨m,e,by lia,by lia,c,d.imp (fun z=>by lia) id⟩
theorem M6 {p:Array Nat}{i j:Nat}(b:j<=p.size)(k:Nat):kn key (kas_rev p i j) k=if i<=k/\k<j then kn key p (i+j-1-k) else kn key p k:=by
 have e:=getElem?_mirror_all (i:=i) b k;unfold kas_rev
 by_cases z:i<=k/\k<j
 ·rw[Zs z]at e ⊢;exact Hn e
 ·rw[Zt z]at e ⊢;exact Hn e
theorem IY {p:Array Nat}{i j:Nat}(b:j<=p.size)(h:∀k,i<=k->k<j->kn key p k=kn key p (j-1))(k:Nat):kn key (kas_rev p i j) k=kn key p k:=by
 rw[M6 b]
 split
 ·rw[h _ (by lia)<|by lia,h k (by lia)<|by lia]
 ·rfl
theorem xH (p:Array Nat)(i j:Nat):(kas_rev p i j).Perm p:=mirror_perm _ _ _ _
theorem Down.oJ (h:Down O key p n)(e:∀k,kn key q k=kn key p k):Down O key q n:=fun i j b c=>by
 rw[e,e];exact h i j b c
def Flat (key:Nat->β)(p:Array Nat)(n q:Nat):Prop:=q+1<=n/\∀i,n-(q+1)<=i->i<n->kn key p i=kn key p (n-1)
theorem GL {n:Nat}(h:1<=n):Flat key p n 0:=⟨h,fun i b c=>by
 have:i=n-1:=by lia
 rw[this]⟩
theorem Ir:∀(f:Nat) (p:Array Nat) (n q:Nat),1<=n->n+f<=p.size->Down O key p n->Flat key p n q ->
  ∃p' n' q',run (fun i j=>O.lt (key i)<|key j) (kas_desc f p n q)=(p',n',q')/\p'.Perm p/\n<=n'/\n'<=n+f/\Down O key p' n'/\Flat key p' n' q'
 | 0,p,n,q,_,_,h,hq=>⟨p,n,q,rfl,Array.Perm.refl _,Zf _,Zf _,h,hq⟩
 |f+1,p,n,q,h1,hz,h,hq=>by
  unfold kas_desc;show∃p' n' q',run (fun i j=>O.lt (key i)<|key j) (if O.lt (kn key p n) (kn key p<|n-1)=true then(if q>0 then kas_desc f (kas_rev p (n-(q+1)) n) (n+1) 0 else kas_desc f p (n+1) 0)
   else .ask (p.getD (n-1) 0) (p.getD n 0) fun d=>if d=true then .ret (p,n,q) else kas_desc f p (n+1) (q+1))=(p',n',q')/\_
  cases c:O.lt (kn key p n) (kn key p<|n-1) with
  |true =>
   rw[Zs rfl];have hd:=h.snoc h1<|TO.of_lt c
   by_cases z:q>0
   ·rw[Zs z];have o:=IY (key:=key) (p:=p) (i:=n-(q+1)) (j:=n) (by lia) hq.2;obtain⟨p',n',q',e,a,b,d,g,k⟩:=Ir f (kas_rev p (n-(q+1)) n) (n+1) 0 (by lia) (by rw[(xH p _ _).size_eq];lia) (hd.oJ o) (GL<|by lia);exact⟨p',n',q',e,a.trans<|xH _ _ _,by lia,by lia,g,k⟩
   ·rw[Zt z];obtain⟨p',n',q',e,a,b,d,g,k⟩:=Ir f p (n+1) 0 (by lia) (by lia) hd (GL<|by lia);exact⟨p',n',q',e,a,by lia,by lia,g,k⟩
  |false =>
   rw[Zt<|by decide];show∃p' n' q',run (fun i j=>O.lt (key i)<|key j) (if O.lt (kn key p<|n-1) (kn key p n)=true then KasT.ret (p,n,q) else kas_desc f p (n+1) (q+1))=(p',n',q')/\_;cases d:O.lt (kn key p<|n-1) (kn key p n) with
   |true=>exact⟨p,n,q,by rw[Zs rfl];rfl,Array.Perm.refl _,Zf _,by lia,h,hq⟩
   |false =>
    rw[Zt<|by decide];have eq:kn key p n=kn key p (n-1):=O.lZ _ _ c d;have o:Flat key p (n+1) (q+1):=⟨by have:=hq.1;lia,fun i r s=>by
     rw[show n+1-1=n by lia]
     by_cases z:i=n
     ·rw[z]
     ·rw[eq];exact hq.2 i (by lia)<|by lia⟩
    obtain⟨p',n',q',e,a,b,g,k,l⟩:=Ir f p (n+1) (q+1) (by lia) (by lia) (h.snoc h1 d) o;exact⟨p',n',q',e,a,by lia,by lia,k,l⟩
theorem Ky {p:Array Nat}{n Ds:Nat}(d:1<=n)(hn:n<=Ds)(hz:Ds<=p.size)(h:Down O key p n) :
  ∃m p',run (fun i j=>O.lt (key i)<|key j) (kas_tail3 n Ds p)=(m,p')/\p'.Perm p/\1<=m/\m<=Ds/\Up O key p' m:=by
 have g:Up O key (kas_rev p 0 n) n:=fun i j f l=>by
  rw[M6<|by lia,M6<|by lia,Zs<|by lia,Zs<|by lia];exact h _ _ (by lia) (by lia)
 obtain⟨m,e,a,b,c,_⟩:=KN (Ds-n) n d g;refine⟨m,kas_rev p 0 n,?_,xH _ _ _,by lia,by lia,c⟩;unfold kas_tail3;rw[run_bind,e];rfl
theorem X1 {p:Array Nat}{n Ds:Nat}(hn:n+1<=Ds)(hz:Ds<=p.size)(h:Down O key p<|n+1) :
  ∃m p',run (fun i j=>O.lt (key i)<|key j) (kas_descPart n Ds p)=(m,p')/\p'.Perm p/\1<=m/\m<=Ds/\Up O key p' m:=by
 obtain⟨p',g,l,e,a,b,c,d,v⟩:=Ir (Ds-(n+1)) p (n+1) 0 (by lia) (by lia) h (GL<|by lia);have u:Ds<=p'.size:=by rwa[a.size_eq]
 unfold kas_descPart;rw[run_bind,e];show∃m f,run _ (if l>0 then kas_tail3 g Ds (kas_rev p' (g-(l+1)) g) else kas_tail3 g Ds p')=(m,f)/\_
 by_cases z:l>0
 ·rw[Zs z];have w:=IY (key:=key) (p:=p') (i:=g-(l+1)) (j:=g) (by lia) v.2;obtain⟨m,f,t,o,q,r,s⟩:=Ky (Ds:=Ds) (by lia) (by lia) (by rwa[(xH p' _ _).size_eq]) (d.oJ w);exact⟨m,f,t,(o.trans<|xH _ _ _).trans a,q,r,s⟩
 ·rw[Zt z];obtain⟨m,f,t,o,q,r,s⟩:=Ky (Ds:=Ds) (by lia) (by lia) u d;exact⟨m,f,t,o.trans a,q,r,s⟩
theorem Pq {p:Array Nat}{Ds:Nat}(y:1<=Ds)(hz:Ds<=p.size) :
  ∃m p',run (fun i j=>O.lt (key i)<|key j) (kas_count Ds p)=(m,p')/\p'.Perm p/\1<=m/\m<=Ds/\Up O key p' m:=by
 obtain⟨n,e,a,b,c,d⟩:=KN (O:=O) (key:=key) (p:=p) (Ds-1) 1 (Zf _)<|one_up p;unfold kas_count;rw[run_bind,e]
 by_cases z:n=Ds
 ·rw[Zs<|by simpa using z];exact⟨n,p,rfl,Array.Perm.refl _,a,by lia,c⟩
 rw[Zt<|by simpa using z];have h:O.lt (kn key p n) (kn key p<|n-1)=true:=d.resolve_left (by lia)
 by_cases g:n>1
 ·rw[Zs g];show∃m p',run _ (if O.lt (kn key p 0) (kn key p<|n-1)=true then KasT.ret (n,p) else kas_descPart n Ds (kas_rev p 0 n))=(m,p')/\_;cases q:O.lt (kn key p 0) (kn key p<|n-1) with
  |true =>
   rw[Zs rfl];exact⟨n,p,rfl,Array.Perm.refl _,a,by lia,c⟩
  |false =>
   rw[Zt<|by decide];have f:∀k,0<=k->k<n->kn key p k=kn key p (n-1):=fun k _ hk =>
    O.lZ _ _ (TO.trans q<|c 0 k (by lia) hk) (c k (n-1) (by lia)<|by lia)
   have x:=IY (key:=key) (p:=p) (i:=0) (j:=n) (by lia) f;have v:Down O key p n:=fun i j l o=>by
    rw[f i (by lia)<|by lia,f j (by lia) o];exact O.refl _
   obtain⟨m,p',w,r,s,t,u⟩:=X1 (O:=O) (key:=key) (p:=kas_rev p 0 n) (n:=n) (Ds:=Ds) (by lia) (by rwa[(xH p _ _).size_eq]) ((v.snoc a<|TO.of_lt h).oJ x);exact⟨m,p',w,r.trans<|xH _ _ _,s,t,u⟩
 ·rw[Zt g];have g:n=1:=by lia
  subst g;exact X1 (by lia) hz (Down.snoc (Zf _) (fun i j l o=>by
   have:i=j:=by lia
   subst this;exact O.refl _)<|TO.of_lt h)
theorem Gq (hs:Up O key p k):∀(f l r:Nat),l<=r->r<=k->r-l<=f->(∀i,i<l->O.le (kn key p i) (kn key p k))->(∀i,r<=i->i<k->O.lt (kn key p k) (kn key p i)=true) ->
  ∃m,run (fun i j=>O.lt (key i)<|key j) (kas_place p k f l r)=m/\m<=k/\(∀i,i<m->O.le (kn key p i) (kn key p k))/\(∀i,m<=i->i<k->O.lt (kn key p k) (kn key p i)=true)
 | 0,l,r,h1,h2,h3,h4,h5=>⟨l,rfl,by lia,h4,fun i c b=>h5 i (by lia) b⟩
 |f+1,l,r,h1,h2,h3,h4,h5=>by
  unfold kas_place
  by_cases z:l≥r
  ·rw[Zs z];exact⟨l,rfl,by lia,h4,fun i c b=>h5 i (by lia) b⟩
  rw[Zt z];show∃m,run _ (if O.lt (kn key p k) (kn key p<|(l+r) / 2)=true then kas_place p k f l ((l+r) / 2) else kas_place p k f ((l+r) / 2+1) r)=m/\_;cases q:O.lt (kn key p k) (kn key p<|(l+r) / 2) with
  |true =>
   rw[Zs rfl];refine Gq hs f l ((l+r) / 2) (by lia) (by lia) (by lia) h4 fun i c b=>?_;cases w:O.lt (kn key p k) (kn key p i) with
   |true=>rfl
   |false =>
    have:=O.lO _ _ _ (hs _ _ c b) w;rw[q]at this;exact this.symm
  |false =>
   rw[Zt<|by decide];exact Gq hs f ((l+r) / 2+1) r (by lia) (by lia) (by lia) (fun i c=>TO.trans (hs i ((l+r) / 2) (by lia)<|by lia) q) h5
theorem G9 {p:Array Nat}{k l:Nat}(hk:k<p.size)(hl:l<=k)(i:Nat):kn key (bubble p k<|k-l) i=if i=l then kn key p k else if l<i/\i<=k then kn key p (i-1) else kn key p i:=by
 have e:=getElem?_bubble hk (k-l) (by lia) i;rw[show k-(k-l)=l by lia]at e
 by_cases z:i=l
 ·rw[Zs z]at e ⊢;exact Hn e
 ·rw[Zt z]at e ⊢
  by_cases z:l<i/\i<=k
  ·rw[Zs z]at e ⊢;exact Hn e
  ·rw[Zt z]at e ⊢;exact Hn e
theorem Pl:∀(f:Nat) (p:Array Nat) (k:Nat),k+f<=p.size->Up O key p k->∃p',run (fun i j=>O.lt (key i)<|key j) (kas_bin f p k)=p'/\p'.Perm p/\Up O key p' (k+f)
 | 0,p,k,_,h=>⟨p,rfl,Array.Perm.refl _,h⟩
 |f+1,p,k,hz,h=>by
  obtain⟨m,e,a,b,c⟩:=Gq h k 0 k (by lia) (Zf _) (by lia) (fun i q=>by lia) (fun i s t=>by lia);have o:Up O key (bubble p k<|k-m) (k+1):=fun i j n r=>by
   rw[G9 (by lia) a,G9 (by lia) a]
   repeat' split
   all_goals first
    |(exfalso;lia)
    |exact O.refl _
    |exact b _ (by lia)
    |exact TO.of_lt (c _ (by lia)<|by lia)
    |exact h _ _ (by lia) (by lia)
  obtain⟨p',l,d,g⟩:=Pl f (bubble p k<|k-m) (k+1) (by rw[bubble_size];lia) o;unfold kas_bin;rw[run_bind,e];exact⟨p',l,d.trans<|bubble_perm _ _ _,by rw[show k+(f+1)=k+1+f by lia];exact g⟩
theorem Ti {n:Nat}(q:1<=n):∃p',run (fun i j=>O.lt (key i)<|key j) (kas_sort n)=p'/\p'.Perm (Le<|EC n)/\Up O key p' n:=by
 have h:(Le<|EC n).size=n:=by simp
 obtain⟨m,p',e,a,b,c,d⟩:=Pq (O:=O) (key:=key) (p:=Le<|EC n) (Ds:=n) q<|J8 h.symm;unfold kas_sort;rw[run_bind,e];show∃f,run _ (if m<n then kas_bin (n-max m 1) p' (max m 1) else KasT.ret p')=f/\_;have em:max m 1=m:=by lia
 rw[em]
 by_cases z:m<n
 ·rw[Zs z];obtain⟨f,o,l,g⟩:=Pl (n-m) p' m (by rw[a.size_eq,h];lia) d;exact⟨f,o,l.trans a,by rw[show m+(n-m)=n by lia]at g;exact g⟩
 ·rw[Zt z];have z:m=n:=by lia
  rw[z]at d;exact⟨p',rfl,a,d⟩
end
def Asks (n:Nat){c:Type}(R:c->Prop):KasT c->Prop
 | .ret a=>R a
 | .ask i j k=>i<n/\j<n/\∀b,Asks n R<|k b
theorem Asks.bind {c g:Type}{R:c->Prop}{d:g->Prop}{f:c->KasT g}(e:∀a,R a->Asks n d (f a)):∀{t:KasT c},Asks n R t->Asks n d (t.bind f)
 | .ret a,h=>e a h
 | .ask i j k,h=>⟨h.1,h.2.1,fun b=>Asks.bind e<|h.2.2 b⟩
theorem Asks.wp {n:Nat}{c:Type}{R:c->Prop}{b:Nat->Nat->(Bool->Dh)->Dh}{lt:Nat->Nat->Bool}{s:Ei}(d:∀i j,i<n->j<n->∀C:Bool->Dh,C (lt i j) s->b i j C s){Q:c->Dh} :
  ∀{t:KasT c},Asks n R t->Q (run lt t) s->t.kasWp b Q s
 | .ret _,_,q=>q
 | .ask i j k,h,q=>d i j h.1 h.2.1 _<|Asks.wp d (h.2.2 _) q
def Bd (n:Nat)(p:Array Nat):Prop:=∀i:Nat,p.getD i 0<n
theorem Bd.perm {q:Array Nat}(h:Bd n p)(e:q.Perm p):Bd n q:=fun i=>by
 rw[ZO]
 rcases VB i q.size with z|z
 ·rw[getElem?_pos q i z];have hm:q[i]∈p:=e.mem_iff.mp<|Array.getElem_mem z;obtain⟨j,c,b⟩:=Array.getElem_of_mem hm;have:=h j;rw[ZO,getElem?_pos p j c,b]at this;exact this
 ·rw[Y3 z];have:=h p.size;rw[ZO,Y3<|Zf _]at this;exact this
theorem IO (h:Bd n p):∀f m:Nat,Asks n (fun _=>True) (kas_asc p f m)
 | 0,m=>trivial
 | f+1,m=>⟨h _,h _,fun c=>by
  show Asks n _ (if c=true then KasT.ret m else kas_asc p f (m+1))
  split
  ·trivial
  ·exact IO h f (m+1)⟩
theorem uA:∀(f:Nat) (p:Array Nat) (m q:Nat),Bd n p->Asks n (fun r=>Bd n r.1) (kas_desc f p m q)
 | 0,p,m,q,h=>h
 | f+1,p,m,q,h=>⟨h _,h _,fun c=>by
  cases c with
  |true =>
   show Asks n _ (if q>0 then kas_desc f (kas_rev p (m-(q+1)) m) (m+1) 0 else kas_desc f p (m+1) 0)
   split
   ·exact uA f _ _ _ (h.perm<|xH _ _ _)
   ·exact uA f _ _ _ h
  |false =>
   refine⟨h _,h _,fun d=>?_⟩;cases d with
   |true=>exact h
   |false=>exact uA f _ _ _ h⟩
theorem II {m r:Nat}(h:Bd n p):Asks n (fun r=>Bd n r.2) (kas_tail3 m r p):=by
 have b:Bd n (kas_rev p 0 m):=h.perm<|xH _ _ _;unfold kas_tail3;refine Asks.bind (fun a _=>?_)<|IO b _ _;exact b
theorem kS {m r:Nat}(h:Bd n p):Asks n (fun r=>Bd n r.2) (kas_descPart m r p):=by
 refine Asks.bind (fun a ha=>?_)<|uA _ _ _ _ h;show Asks n _ (if a.2.2>0 then _ else _)
 split
 ·exact II (Bd.perm ha<|xH _ _ _)
 ·exact II ha
theorem KW {r:Nat}(h:Bd n p):Asks n (fun r=>Bd n r.2) (kas_count r p):=by
 refine Asks.bind (fun a _=>?_)<|IO h _ _;show Asks n _ (if(a==r)=true then _ else _)
 split
 ·exact h
 ·split
  ·refine⟨h _,h _,fun c=>?_⟩;cases c with
   |true=>exact h
   |false=>exact kS<|h.perm<|xH _ _ _
  ·exact kS h
theorem vD {k:Nat}(h:Bd n p):∀f l r:Nat,Asks n (fun _=>True) (kas_place p k f l r)
 | 0,l,r=>trivial
 |f+1,l,r=>by
  unfold kas_place
  split
  ·trivial
  ·refine⟨h _,h _,fun c=>?_⟩;cases c with
   |true=>exact vD h f _ _
   |false=>exact vD h f _ _
theorem FY:∀(f:Nat) (p:Array Nat) (k:Nat),Bd n p->Asks n (fun r=>Bd n r) (kas_bin f p k)
 | 0,p,k,h=>h
 |f+1,p,k,h=>Asks.bind (fun l _=>FY f _ _<|h.perm<|bubble_perm _ _ _) (vD h _ _ _)
theorem O6 {n:Nat}(b:1<=n):Asks n (fun r=>Bd n r) (kas_sort n):=by
 have h:Bd n (Le<|EC n):=fun i=>by
  rw[ZO,VI]
  rcases VB i n with z|z
  ·rwa[V5 z]
  ·rw[Yf<|by rwa[Yz]];exact b
 refine Asks.bind (fun a ha=>?_)<|KW h;show Asks n _ (if a.1<n then _ else _)
 split
 ·exact FY _ _ _ ha
 ·exact ha
end AxK
namespace L2
open PySem PyProof.Rows
mutual
def W8:Ej->Ej->Bool->Prop
 | .int a,.int b,r=>r=decide (a<b)
 | .str a,.str b,r=>r=decide (a.cps.toList<b.cps.toList)
 | .tuple xs,.tuple ys,r=>Tw xs ys r
 |_,_,_=>False
def Tw:Df->Df->Bool->Prop
 |[],ys,r=>r=decide (0<ys.length)
 |_::_,[],r=>r=false
 |x::xs,y::ys,r=>(Ey x y=true/\Tw xs ys r)\/(Ey x y=false/\W8 x y r)
end
section
variable {prog:Eg}{w:Ek}
def No (prog:Eg)(w:Ek)(A:ED)(r:Bool)(b:Bool)(s:Ei):List (Ee×Ee)->Prop
 |[]=>b=r
 |p::l=>(∀(Q:Bool->Dh) (E:Ee->Dh),Q true s->Eh (Em prog w) A (eqBool p.1 p.2) Q E s)/\No prog w A r b s l \/
  (∀(Q:Bool->Dh) (E:Ee->Dh),Q false s->Eh (Em prog w) A (eqBool p.1 p.2) Q E s) /\
  (∀(Q:Ee->Dh) (E:Ee->Dh),Q (.bool r) s->Eh (Em prog w) A (richCompare .Lt p.1 p.2) Q E s)
theorem G6 {A:ED}{E:Ee->Dh}{s:Ei}{a b:Ef}{t g:Obj}{xs e:Array Ee}{y z:Nat}{r:Bool}{P:Fin->Dh}
  (q:s.heap.get? a=some t) (o:t.data=.seq xs y) (f:s.heap.get? b=some g) (n:g.cls=.type "tuple") (p:g.data=.seq e z)
  (x:No prog w A r (decide (xs.size<e.size)) s (xs.toList.zip e.toList)) (h:P (.done<|.ret<|.bool r) s) :
  Eh (Em prog w) A (Builtin.«tuple.__lt__» ⟨[.ref a,.ref b],[]⟩) P E s:=by
 have j:s.TypeIs (.ref b) "tuple":=⟨g,f,n⟩;show Eh _ _ (Ml (.ref b) (.type "tuple")>>=_) _ _ s;refine Q7<|YV j isSubtype_tuple_tuple ?_;simp only[Vc,Z7,JT];refine Q7<|V9 q o<|Q7<|V9 f p<|Q7 ?_;refine J9 _ (fun d c i=>c.1=none/\i=s/\No prog w A r (decide (xs.size<e.size)) s d) _ ?_ ?_ _ _ ⟨rfl,rfl,x⟩
 ·rintro⟨u,v⟩ d c i ⟨l,rfl,ha⟩
  rcases ha with⟨h1,h2⟩|⟨h1,h2⟩
  ·refine Q7 (h1 _ _ ?_);simp only[Vc,Z7,JT];exact Za ⟨rfl,rfl,h2⟩
  ·refine Q7 (h1 _ _ ?_);simp only[Bool.not_false,if_true];refine Q7<|JQ<|Q7<|h2 _ _<|Q7<|Za<|Za ?_;exact Za h
 ·rintro⟨B,C⟩ i ⟨l,rfl,ha⟩;simp only at l;subst l;refine Za ?_;have ha:decide (xs.size<e.size)=r:=ha;show P (.done<|.ret<|.bool<|decide (xs.size<e.size)) i;rwa[ha]
def Pg (prog:Eg)(w:Ek)(d:Ej):Prop:=∀(e:Ej) (r:Bool) (A:ED) (s:Ei) (a b:Ee) (c bs:Dd),Reads s.heap a d c->Reads s.heap b e bs->d.canLay0=true->e.canLay0=true->A.units+min d.depth e.depth<Lb->W8 d e r ->
  ∀(Q:Ee->Dh) (E:Ee->Dh),Q (.bool r) s->Eh (Em prog w) A (richCompare .Lt a b) Q E s
def FU (prog:Eg)(w:Ek)(xs:Df):Prop:=∀(b:Df) (r:Bool) (A:ED) (s:Ei) (d c:Db) (e bs:Dd),LG s.heap d xs e->LG s.heap c b bs->Er xs=true->Er b=true->A.units+min (EA xs) (EA b)<Lb->Tw xs b r ->
  ∀k:Nat,No prog w A r (decide (k+d.length<k+c.length)) s (d.zip c)
theorem OV (i:Int):Pg prog w (.int i):=by
 intro e r A s a b f bs c d _ _ _ h Q E q;cases e with
 |int j =>
  cases c;cases d;cases(show r=_ from h);exact(lt_int q:Eh _ _ (ES .Lt _ _) _ _ _)
 |_=>exact EG h
theorem OW (i:Str):Pg prog w (.str i):=by
 intro e r A s a b f bs c d _ _ _ h Q E q;cases e with
 |str j =>
  cases c;cases d;cases(show r=_ from h);exact(lt_str q:Eh _ _ (ES .Lt _ _) _ _ _)
 |_=>exact EG h
theorem OX (f:FU prog w xs):Pg prog w (.tuple xs):=by
 intro e r A s a b j bs g i ha hb d h Q E q;cases e with
 |tuple ys =>
  cases g with
  |tuple h1 h2 h3 h4 =>
   cases i with
   |tuple k1 k2 k3 k4 =>
    have c:=f ys r A.in1 s _ _ _ _ h4 k4 ha hb (SeqAt.room_in d) h 0;rw[VA,VA,Zx,Zx]at c;exact wpAny_richCompare_same_room (op:=.Lt) ⟨_,h1,h2⟩ ⟨_,k1,k2⟩ F.slot_tuple_lt
     (Ym F.slot_tuple_lt ⟨_,h1,h2⟩ F.entry_tuple_lt (G6 h1 h3 k1 k2 k3 (r:=r) c ⟨_,rfl,(fun e=>nomatch e),q⟩)<|F.args_tuple_lt_2 _ _) (SeqAt.room_here d)
 |_=>exact EG h
theorem SE:FU prog w []:=by
 intro f r A s i b g bs c d _ _ _ h k;cases c;have e:b.length=f.length:=SeqAt.ReadsAll.length _ _ _ d;rw[List.zip_nil_left];show decide (k+0<k+b.length)=r;rw[show r=_ from h,e];exact VP.mpr (by lia)
theorem Re (p:Pg prog w x)(t:FU prog w xs):FU prog w (x::xs):=by
 intro f r A s j i C bs n o z B l h k;cases f with
 |nil =>
  cases o;cases n;rw[List.zip_nil_right];show decide (k+_<k+0)=r;rw[show r=_ from h];exact Zo (by lia)
 |cons y f =>
  have b:x.canLay0=true/\Er xs=true:=by simpa[Er] using z
  have c:y.canLay0=true/\Er f=true:=by simpa[Er] using B
  have d:A.units+min x.depth y.depth<cLine:=SeqAt.room_head l;have g:A.units+min (EA xs) (EA f)<cLine:=SeqAt.room_tail l;cases n with
  | @cons v j _ _ _ _ p1 p2 =>
   cases o with
   | @cons u i _ _ _ _ q1 q2 =>
    rw[List.zip_cons_cons];have h:(Ey x y=true/\Tw xs f r)\/(Ey x y=false/\W8 x y r):=h
    rcases h with⟨e,h⟩|⟨e,h⟩
    ·refine .inl ⟨fun Q E q=>LO prog w A E s _ _ _ _ _ _ Q p1 q1 b.1 c.1 d<|by rwa[e],?_⟩;have D:=t f r A s _ _ _ _ p2 q2 b.2 c.2 g h<|k+1;rwa[Zr,Zr,show k+(j.length+1)=k+1+j.length by lia,show k+(i.length+1)=k+1+i.length by lia]
    ·exact .inr ⟨fun Q E q=>LO prog w A E s _ _ _ _ _ _ Q p1 q1 b.1 c.1 d<|by rwa[e],fun Q E q=>p y r A s _ _ _ _ p1 q1 b.1 c.1 d h Q E q⟩
mutual
theorem P9:∀d:Ej,Pg prog w d
 | .int i=>OV i
 | .str i=>OW i
 | .tuple xs=>OX<|Ra xs
 | .none=>fun e r A s a b c bs f g _ _ _ h=>EG h
 | .bool _=>fun e r A s a b c bs f g _ _ _ h=>EG h
 | .list _=>fun e r A s a b c bs f g _ _ _ h=>EG h
 | .dict _=>fun e r A s a b c bs f g _ _ _ h=>EG h
theorem Ra:∀xs:Df,FU prog w xs
 |[]=>SE
 |x::xs=>Re (P9 x)<|Ra xs
end
end
end L2
namespace L2
open PySem PySem.Spec PyProof.Rows PySem.W AxK
section
variable {prog:Eg}{w:Ek}{A:ED}{E:Ee->Dh}{s:Ei}
theorem Na {a:Ef}{vs:Db}{n:Nat}{κ:SortKind}{lt:Nat->Nat->Bool}{P:PySem.Fin->Dh}(x:s.heap.get? a=some (Li "list" vs.toArray n))(y:vs.length<64)
  (hk:2<=vs.length->∀s1:Ei,(∀b o,b≠a->s.heap.get? b=some o->s1.heap.get? b=some o)->(∀(Q:SortKind->Dh) (E':Ee->Dh),Q κ s1->Eh (Em prog w) A (keyKind' vs.toArray) Q E' s1) /\ ∀i j,i<vs.length->j<vs.length->∀C:Bool->Dh,C (lt i j) s1->kas_ask prog w A κ vs i j C s1)
  (h:∀p:Array Nat,(vs.length<2/\p=Le (EC vs.length))\/(2<=vs.length/\p=run lt (kas_sort vs.length))->P (.done<|.ret .none) { s with heap:=sortedHeap s.heap a vs (Le<|p.toList.map fun i=>vs.getD i EF) }) :
  Eh (Em prog w) A (Builtin.«list.sort» ⟨[.ref a],[]⟩) P E s:=by
 have ha:a<s.heap.objs.size:=Zq x;have O:=EH s.heap a<|Lc fun _=>(#[]:Array Ee);obtain⟨n1,t⟩:∃H,(s.heap.update a<|Lc fun _=>(#[]:Array Ee)).get? a=some (Li "list" #[] H):=⟨_,get?_update_seq x fun _=>#[]⟩;have d:(((s.heap.update a<|Lc fun _=>(#[]:Array Ee)).push (Li "tuple" vs.toArray 0)).push (Li "list" #[] 0)).get? a=some (Li "list" #[] n1):=Zd _<|Zd _ t;have keep:∀b o,b≠a->s.heap.get? b=some o->(((s.heap.update a<|Lc fun _=>(#[]:Array Ee)).push (Li "tuple" vs.toArray 0)).push (Li "list" #[] 0)).get? b=some o:=fun b o hb q =>
  Zd _ (Zd _<|by rwa[Heap.get?_update_ne _ _ _ _ hb])
 have c:vs.toArray.size=vs.length:=by simp
 rw[list_sort_plain];refine Q7 (listItems_at x rfl<|Q7<|listUpdate_at x rfl (Q7<|seqEpoch_at t rfl<|Q7<|wpAny_newTuple (Q7<|Uj (ZZ ?_)<|ZN _) (by show vs.length<=_;rw[Ys];lia)) (by rw[Zy,Ys];lia)<|ZN _);show Eh (Em prog w) A _ P E { s with heap:=((s.heap.update a<|Lc fun _=>#[]).push<|Li "tuple" vs.toArray 0).push (Li "list" #[] 0) };dsimp only
 by_cases J:vs.length<2
 ·have r:=h (Le<|EC vs.length)<|.inl ⟨J,rfl⟩;have I:(Le<|(Le<|EC vs.length).toList.map fun i=>vs.getD i EF)=(vs.toArray.zip vs.toArray).map (·.2):=by
   have e:=kas_range<|vs.toArray.zip vs.toArray;rw[show(vs.toArray.zip vs.toArray).size=vs.length by simp]at e;exact(kat_snds (ks:=vs) (vs:=vs) (st:=SortSt.mk' general' (vs.toArray.zip vs.toArray) #[] 7 none) rfl e.symm).symm
  rw[I]at r;rw[Zs<|by rwa[c],Zs<|by rwa[c]];refine Q7<|Za ?_;rw[StateT.run_pure];refine Q7<|Za ?_;dsimp only;refine Q7 (seqEpoch_at d rfl<|Q7<|listUpdate_at d rfl ?_ (ZN _) (by rw[VC,Array.size_zip,c,Nat.min_self,Ys];lia));simp only[bne_self_eq_false,Z7,JT];exact Za r
 ·have l:2<=vs.length:=by lia
  rw[Zt<|by rwa[c],Zt<|by rwa[c]];obtain⟨M,N⟩:=hk l { s with heap:=((s.heap.update a<|Lc fun _=>(#[]:Array Ee)).push (Li "tuple" vs.toArray 0)).push (Li "list" #[] 0) } keep;refine Q7<|M _ _ ?_;have g:(kas_sort vs.length).kasWp (kas_ask prog w A κ vs) (fun p v=>p=run lt (kas_sort vs.length)/\v={ s with heap:=((s.heap.update a<|Lc fun _=>(#[]:Array Ee)).push (Li "tuple" vs.toArray 0)).push (Li "list" #[] 0) })
    { s with heap:=((s.heap.update a<|Lc fun _=>(#[]:Array Ee)).push (Li "tuple" vs.toArray 0)).push (Li "list" #[] 0) }:=(O6<|by lia).wp N ⟨rfl,rfl⟩
  refine Q7 (Yu (kat_run (Q:=fun f v=>arrOf f=(run lt<|kas_sort vs.length).map (kas_item<|vs.toArray.zip vs.toArray)/\failedOf f=none/\(run lt<|kas_sort vs.length).size=vs.length/\v={ s with heap:=((s.heap.update a<|Lc fun _=>(#[]:Array Ee)).push (Li "tuple" vs.toArray 0)).push (Li "list" #[] 0) }) rfl l y (fun R f v B D F G=>by obtain⟨rfl,rfl⟩:=G;exact⟨D,F,B,rfl⟩) g) ?_ fun _ _ e=>e)
  rintro⟨⟨⟩,f⟩ v ⟨z,K,L,rfl⟩;dsimp only;have u:=kat_snds rfl z;rw[u];refine Q7 (seqEpoch_at d rfl<|Q7<|listUpdate_at d rfl ?_ (ZN _) (by rw[Zy,Q8,Zx,L,Ys];lia));rw[K];simp only[bne_self_eq_false,Z7,JT];exact Za<|h _<|.inr ⟨l,rfl⟩
def Gi (T:String):Ej->Prop
 | .tuple (.int _::_)=>T="int"
 | .tuple (.str _::_)=>T="str"
 | .tuple (.tuple _::_)=>T="tuple"
 |_=>False
def T5 (h h':Ev)(d:Ej):Prop:=∀(v:Ee) (b:Dd),d.canLay0=true->Reads h v d b->Reads h' v d b
def R9 (h h':Ev)(b:Df):Prop:=∀(d:Db) (c:Dd),Er b=true->LG h d b c->LG h' d b c
mutual
theorem M4 {h h':Ev}(k:∀b o,h.get? b=some o->h'.get? b=some o):∀d:Ej,T5 h h' d
 | .none=>fun v c _ r=>by cases r;exact .none
 | .bool _=>fun v c _ r=>by cases r;exact .bool _
 | .int _=>fun v c _ r=>by cases r;exact .int _ _
 | .str _=>fun v c _ r=>by cases r;exact .str _ _
 | .list xs=>fun v c l r=>by
  have e:=x6 k xs;cases r with
  |list h1 h2 h3 h4=>exact .list (k _ _ h1) h2 h3<|e _ _ l h4
 | .tuple xs=>fun v c l r=>by
  have e:=x6 k xs;cases r with
  |tuple h1 h2 h3 h4=>exact .tuple (k _ _ h1) h2 h3<|e _ _ l h4
 | .dict Dm=>fun v c l r=>nomatch l
theorem x6 {h h':Ev}(k:∀b o,h.get? b=some o->h'.get? b=some o):∀ds:Df,R9 h h' ds
 |[]=>fun g c _ r=>by cases r;exact .nil
 |d::ds=>fun g c l r=>by
  have e:=M4 k d;have f:=x6 k ds;have l:d.canLay0=true/\Er ds=true:=by simpa[Er] using l
  cases r with
  |cons h1 h2=>exact .cons (e _ _ l.1 h1)<|f _ _ l.2 h2
end
theorem Bb {h:Ev}:∀{ds:Df} {us:Db} {as:Dd},LG h us ds as->(∀d∈ds,Gi T d)->∃fs:Db,fs.length=ds.length/\KatTups h us fs/\∀v∈fs,(T="int"/\∃i t,v=.int i t)\/(T="str"/\∃i t,v=.str i t)\/(T="tuple"/\∃a o,v=.ref a/\h.get? a=some o/\o.cls=.type "tuple")
 |[],_,_,r,_=>by
  cases r;exact⟨[],rfl,KatTups.nil,fun v b=>(nomatch b)⟩
 |d::ds,_,_,r,hf=>by
  cases r with
  |cons r1 r2 =>
   obtain⟨fs,e,f,g⟩:=Bb r2 fun x j=>hf x<|Zb _ j;have hd:=hf d<|Ze ..;unfold Gi at hd
   split at hd
   all_goals first
    |exact hd.elim
    | (cases r1 with
     |tuple h1 h2 h3 h4 =>
      rename_i c nx;cases q:c.toList with
      |nil=>rw[q]at h4;cases h4
      |cons v0 vr =>
       rw[q]at h4;have p:c[0]?=some v0:=by rw[←ZY,q];rfl
       cases h4 with
       |cons g1 g2 =>
        refine⟨v0::fs,by rw[Zr,Zr,e],KatTups.cons h1 h2 h3 p f,fun v b=>?_⟩
        rcases Zi.mp b with rfl|b
        ·cases g1
         first
          |exact .inl ⟨hd,_,_,rfl⟩
          |exact .inr (.inl ⟨hd,_,_,rfl⟩)
          |(rename_i l n s u;exact .inr<|.inr ⟨hd,_,_,rfl,l,n⟩)
        ·exact g v b)
theorem SC {b:Df}{us:Db}{as:Dd}(r:LG s.heap us b as)(f:∀d∈b,Gi T d)(hn:0<b.length){Q:SortKind->Dh}(q:Q (tuples'<|Value.type T !=Value.type "tuple") s) :
  Eh (Em prog w) A (keyKind' us.toArray) Q E s:=by
 obtain⟨fs,h,c,e⟩:=Bb r f;refine kat_kind c (by lia) (T:=.type T) (fun v g=>?_) (by simp) q
 rcases e v g with⟨rfl,i,t,rfl⟩|⟨rfl,i,t,rfl⟩|⟨rfl,a,o,rfl,ho,hc⟩
 ·exact .now
 ·exact .now
 ·rw[←hc];exact(Looks.ld ho).andThen .now
def T7 (x y:Ej):Prop:=(∃i j,x=.int i/\y=.int j)\/(∃i j,x=.str i/\y=.str j)
theorem Wu {b:Bool}{Q:Bool->Dh}{r:Bool}(q:Q r s)(xs:Df):∀(ys:Df) (vs us:Db) (as bs:Dd) (i k:Nat),LG s.heap vs xs as->LG s.heap us ys bs->Er xs=true->Er ys=true->A.units+min (EA xs) (EA ys)<Lb ->
  Tw xs ys r->(b=true->i=0->∀x xs' y ys',xs=x::xs'->ys=y::ys'->T7 x y)->KatLex prog w A b (decide (k+vs.length<k+us.length)) Q (vs.zip us) i s:=by
 induction xs with
 |nil =>
  intro ys vs us as bs i k j l _ _ _ h _;cases j;have e:us.length=ys.length:=SeqAt.ReadsAll.length _ _ _ l;rw[List.zip_nil_left];show Q (decide (k+0<k+us.length)) s;rw[show decide (k+0<k+us.length)=r by rw[show r=_ from h,e];exact VP.mpr<|by lia];exact q
 |cons x xs t =>
  intro ys vs us as bs i k j l B C p h hb;cases ys with
  |nil =>
   cases l;cases j with
   | @cons v vs _ _ _ _ p1 p2 =>
    rw[List.zip_nil_right];show Q (decide (k+(vs.length+1)<k+0)) s;rw[show decide (k+(vs.length+1)<k+0)=r by rw[show r=_ from h];exact Zo<|by lia];exact q
  |cons y ys =>
   have d:x.canLay0=true/\Er xs=true:=by simpa[Er] using B
   have f:y.canLay0=true/\Er ys=true:=by simpa[Er] using C
   have g:A.units+min x.depth y.depth<cLine:=SeqAt.room_head p;have n:A.units+min (EA xs) (EA ys)<cLine:=SeqAt.room_tail p;cases j with
   | @cons v vs _ _ _ _ p1 p2 =>
    cases l with
    | @cons u us _ _ _ _ q1 q2 =>
     rw[List.zip_cons_cons];refine kat_cons ?_;have h:(Ey x y=true/\Tw xs ys r)\/(Ey x y=false/\W8 x y r):=h
     rcases h with⟨e,h⟩|⟨e,h⟩
     ·refine LO prog w A _ s _ _ _ _ _ _ _ p1 q1 d.1 f.1 g ?_;rw[e];refine kat_yes ?_;have t:=t ys vs us _ _ (i+1) (k+1) p2 q2 d.2 f.2 n h (fun _ z=>by lia);rwa[Zr,Zr,show k+(vs.length+1)=k+1+vs.length by lia,show k+(us.length+1)=k+1+us.length by lia]
     ·refine LO prog w A _ s _ _ _ _ _ _ _ p1 q1 d.1 f.1 g ?_;rw[e];refine kat_no ?_;cases c:(b&&i==0) with
      |true =>
       have o:b=true/\i=0:=by simpa using c
       rcases hb o.1 o.2 x xs y ys rfl rfl with⟨i1,j1,rfl,rfl⟩|⟨i1,j1,rfl,rfl⟩
       ·cases p1;cases q1;refine kat_lt_int ?_;rwa[←(show r=_ from h)]
       ·cases p1;cases q1;refine kas_lt_str ?_;rwa[←(show r=_ from h)]
      |false=>exact kat_one _ _<|P9 x y r A s _ _ _ _ p1 q1 d.1 f.1 g h _ _ q
theorem OP {d e:Ej}{u v:Ee}{as bs:Dd}{C:Bool->Dh}(o:Reads s.heap u d as)(p:Reads s.heap v e bs)(g:Gi T d)(f:Gi T e)(ld:d.canLay0=true)(le:e.canLay0=true)(n:A.units+min d.depth e.depth<Lb)(h:W8 d e r)(c:C r s) :
  Eh (Em prog w) A (keyLt' (tuples'<|Value.type T !=Value.type "tuple") u v) C (fun _ _=>False) s:=by
 cases d with
 |tuple xs =>
  cases e with
  |tuple ys =>
   cases o with
   |tuple h1 h2 h3 h4 =>
    cases p with
    |tuple k1 k2 k3 k4 =>
     refine kat_lt h1 h3 k1 k3 ?_;have:=Wu (prog:=prog) (w:=w) (A:=A) (b:=(Value.type T !=Value.type "tuple")) c xs ys _ _ _ _ 0 0 h4 k4 ld le (by
      have i:(PyData.tuple xs).depth=EA xs+1:=rfl;have j:(PyData.tuple ys).depth=EA ys+1:=rfl;rw[i,j]at n;lia) h (fun hb _ x q y t ex l=>by
      subst ex l;unfold Gi at g f
      split at g
      ·rename_i e;cases e
       split at f
       ·rename_i e;cases e;exact .inl ⟨_,_,rfl,rfl⟩
       ·rw[g]at f;exact absurd f (by decide)
       ·rw[g]at f;exact absurd f (by decide)
       ·exact f.elim
      ·rename_i e;cases e
       split at f
       ·rw[g]at f;exact absurd f (by decide)
       ·rename_i e;cases e;exact .inr ⟨_,_,rfl,rfl⟩
       ·rw[g]at f;exact absurd f (by decide)
       ·exact f.elim
      ·subst g;simp at hb
      ·exact g.elim)
     simpa using this
  |_=>exact f.elim
 |_=>exact g.elim
end
section
variable {X:Cx}{K:Cd}
theorem Bj:∀{vs:Dj} {us:Db},yr vs us->∀(p:List Nat),(∀i∈p,i<vs.length)->yr (p.map fun i=>vs.getD i .non) (p.map fun i=>us.getD i EF)
 |vs,us,r,[],_=>.nil
 |vs,us,r,i::p,h=>by
  refine .cons ?_<|Bj r p fun j d=>h j<|Zb _ d;have c:=h i<|Ze ..;have go:∀{vs:Dj} {us:Db} (i:Nat),yr vs us->i<vs.length->yt (vs.getD i .non) (us.getD i EF):=fun{vs us} i r c=>by
   induction i generalizing vs us with
   |zero =>
    cases r with
    |nil=>exact absurd c<|JV _
    |cons a b=>exact a
   |succ i ih =>
    cases r with
    |nil=>exact absurd c<|JV _
    |cons a b=>exact ih b (by simpa using c)
  exact go i r c
theorem NB (h:zy K H ds vs):∀(p:List Nat),(∀i∈p,i<vs.length)->zy K H (p.map fun i=>ds.getD i .none) (p.map fun i=>vs.getD i .non)
 |[],_=>rfl
 |i::p,hp=>by
  have b:=hp i<|Ze ..;obtain⟨d,c,f⟩:=h.get<|Zj b;refine⟨vs.getD i .non,_,rfl,?_,NB h p fun j e=>hp j<|Zb _ e⟩;show Dt K H (ds.getD i .none) (vs.getD i .non);rwa[YH,YH,c,Zj b]
theorem Xr {h:Ev}:∀{ds:Df} {us:Db} {as:Dd} (i:Nat),LG h us ds as->i<ds.length->∃bs,Reads h (us.getD i EF) (ds.getD i .none) bs
 |[],_,_,i,_,hi=>absurd hi<|JV _
 |d::ds,_,_,0,r,_=>by
  cases r with
  |cons r1 r2=>exact⟨_,r1⟩
 |d::ds,_,_,i+1,r,hi=>by
  cases r with
  |cons r1 r2=>exact Xr i r2 (by simpa using hi)
theorem RA {b:Type}{l:List b}{z:b}:(EC l.length).map (fun i=>l.getD i z)=l:=by
 apply Ug
 intro i;rw[Zk]
 rcases VB i l.length with q|q
 ·rw[V5 q,Zj q];simp[YH,Zj q]
 ·rw[Yf<|by rwa[Yz],Yf q];rfl
end
end L2
namespace AxS
open PySem PySem.Spec PyProof.Rows
def f5 (N i:Nat):Nat:=(i*5+1) % N
def O1 (N:Nat):Nat->Nat->Nat
 | 0,i=>i
 |k+1,i=>O1 N k<|f5 N i
theorem Ii (N:Nat):∀(a b i:Nat),O1 N (a+b) i=O1 N b (O1 N a i)
 | 0,b,i=>by rw[VA];rfl
 |a+1,b,i=>by
  rw[show a+1+b=(a+b)+1 by lia];show O1 N (a+b) (f5 N i)=O1 N b (O1 N a<|f5 N i);exact Ii N a b<|f5 N i
def WC (N:Nat):Nat->Nat->List Nat
 | 0,_=>[]
 |n+1,i=>i::WC N n (f5 N i)
theorem HY:∀{n i s:Nat},s∈WC N n i->∃k,k<n/\O1 N k i=s
 |n+1,i,s,h=>by
  rcases Zi.mp h with rfl|h
  ·exact⟨0,by lia,rfl⟩
  ·obtain⟨k,hk,e⟩:=HY h;exact⟨k+1,by lia,e⟩
structure Full (N:Nat):Prop where
 all:∀s,s<N->∃k,k<N/\O1 N k 0=s
 per:O1 N N 0=0
theorem vF {N:Nat}(b:(EC N).all (fun s=>(WC N N 0).contains s)=true)(c:O1 N N 0=0):Full N:=⟨fun s d=>by
 have:=ZU.mp b s<|YQ.mpr d;exact HY<|List.contains_iff_mem.mp this,c⟩
theorem TD:Full 8:=vF (by decide +kernel) (by decide +kernel)
theorem Wl:Full 16:=vF (by decide +kernel) (by decide +kernel)
theorem Wm:Full 32:=vF (by decide +kernel) (by decide +kernel)
theorem Wn:Full 64:=vF (by decide +kernel) (by decide +kernel)
theorem Su:Full 128:=vF (by decide +kernel) (by decide +kernel)
theorem Sv:Full 256:=vF (by decide +kernel) (by decide +kernel)
theorem Full.any (h:Full N){i s:Nat}(e:i<N)(hs:s<N):∃k,k<N/\O1 N k i=s:=by
 obtain⟨a,ha,c⟩:=h.all i e;obtain⟨b,hb,d⟩:=h.all s hs
 by_cases z:a<=b
 ·refine⟨b-a,by lia,?_⟩;rw[←c,←Ii,show a+(b-a)=b by lia,d]
 ·refine⟨N-a+b,by lia,?_⟩;rw[←c,←Ii,show a+(N-a+b)=N+b by lia,Ii,h.per,d]
section
variable {mask:Nat}{owner:Array (Option Nat)}
theorem Fg {i k:Nat}(h:((EC<|LH mask i+1-i).find? fun k=>(owner.getD (i+k)<|some 0).isNone)=some k):owner.getD (i+k) (some 0)=none:=by
 have:=Vj h;exact Option.isNone_iff_eq_none.mp this
theorem Be {i:Nat}(h:((EC<|LH mask i+1-i).find? fun k=>(owner.getD (i+k)<|some 0).isNone)=none):owner.getD i (some 0)≠none:=by
 have:=Vq.mp h 0 (YQ.mpr (by unfold LH;split<;>lia));intro z;rw[Nat.add_zero,z]at this;exact this rfl
theorem OD:∀(n fuel i:Nat),(∃k,k<=n/\owner.getD (O1 (mask+1) k i) (some 0)=none)->n<fuel->∃j,SetTable.layClean.free mask owner fuel i 0=some j/\owner.getD j (some 0)=none:=by
 intro n
 induction n with
 |zero =>
  intro fuel i ⟨k,hk,e⟩ b;have:k=0:=by lia
  subst this;obtain⟨f,rfl⟩:∃f,fuel=f+1:=⟨fuel-1,by lia⟩;unfold SetTable.layClean.free;cases q:(EC<|LH mask i+1-i).find? fun k=>(owner.getD (i+k)<|some 0).isNone with
  |some k=>exact⟨_,rfl,Fg q⟩
  |none=>exact absurd e<|Be q
 |succ n ih =>
  intro fuel i ⟨k,hk,e⟩ b;obtain⟨f,rfl⟩:∃f,fuel=f+1:=⟨fuel-1,by lia⟩;unfold SetTable.layClean.free;cases q:(EC<|LH mask i+1-i).find? fun k=>(owner.getD (i+k)<|some 0).isNone with
  |some k=>exact⟨_,rfl,Fg q⟩
  |none =>
   cases k with
   |zero=>exact absurd e<|Be q
   |succ k =>
    exact ih f _ ⟨k,by lia,e⟩ (by lia)
theorem OC (F:Full<|mask+1)(g:∃s,s<mask+1/\owner.getD s (some 0)=none):∀(m fuel i p:Nat),p<32 ^ m->m+(mask+1)<=fuel->i<mask+1->∃j,SetTable.layClean.free mask owner fuel i p=some j/\owner.getD j (some 0)=none:=by
 obtain⟨s,l,d⟩:=g;intro m
 induction m with
 |zero =>
  intro fuel i p c h b;have:p=0:=by lia
  subst this;obtain⟨k,hk,e⟩:=F.any b l;exact OD mask fuel i ⟨k,by lia,by rw[e];exact d⟩ (by lia)
 |succ m ih =>
  intro fuel i p c h b;obtain⟨f,rfl⟩:∃f,fuel=f+1:=⟨fuel-1,by lia⟩;unfold SetTable.layClean.free;cases q:(EC<|LH mask i+1-i).find? fun k=>(owner.getD (i+k)<|some 0).isNone with
  |some k=>exact⟨_,rfl,Fg q⟩
  |none =>
   refine ih f _ _ ?_ (by lia) (Nat.mod_lt _<|by lia);rw[Nat.pow_succ]at c;exact Nat.div_lt_of_lt_mul (by lia)
end
theorem Sg (h:Int):Lv h<32 ^ 13:=by
 unfold Lv;have b:0<=h % (2 ^ 64:Int):=V1 _ (by decide);have c:h % (2 ^ 64:Int)<2 ^ 64:=Vr _ (by decide);have:(2 ^ 64:Int)<(32 ^ 13:Nat):=by decide
 lia
theorem Kq {k:Nat}:∀{l:List (Option Nat)} {j:Nat},l[j]?=some none->((l.set j (some k)).filterMap id).Perm (k::l.filterMap id)
 |x::l,0,h=>by
  have:x=none:=Option.some.inj h;subst this;exact List.Perm.refl _
 |x::l,j+1,h=>by
  have b:=Kq (k:=k) (l:=l) (j:=j) h;rw[List.set_cons_succ];cases x with
  |none=>exact b
  |some y =>
   show(y::(l.set j (some k)).filterMap id).Perm (k::y::l.filterMap id);exact(b.cons y).trans (List.Perm.swap ..)
theorem X5:∀{l:List (Option Nat)},(l.filterMap id).length<l.length->∃j,j<l.length/\l[j]?=some none
 |[],h=>absurd h<|JV _
 |none::l,_=>⟨0,by simp,rfl⟩
 |some x::l,h=>by
  have h:(l.filterMap id).length+1<l.length+1:=h;obtain⟨j,b,e⟩:=X5 (l:=l) (by lia);exact⟨j+1,by simp;lia,e⟩
structure Laid (N k:Nat)(owner:Array<|Option Nat):Prop where
 sz:owner.size=N
 pm:(owner.toList.filterMap id).Perm<|EC k
theorem Ip {mask:Nat}(F:Full<|mask+1):∀(hs:List Int) (owner:Array<|Option Nat) (k:Nat),Laid (mask+1) k owner->k+hs.length<=mask->∃owner',Laid (mask+1) (k+hs.length) owner' /\
  (hs.foldl (fun acc h=>do
   let (owner,k) ←acc
   let j ←SetTable.layClean.free mask owner (SetTable.turns mask) (Lv h % (mask+1)) (Lv h)
   Lo (owner.setIfInBounds j<|some k,k+1)) (some (owner,k)):Option<|Array (Option Nat)×Nat)=some (owner',k+hs.length):=by
 intro hs
 induction hs with
 |nil=>intro owner k L _;exact⟨owner,L,rfl⟩
 |cons h hs ih =>
  intro owner k L hk;rw[Zr]at hk;have q:=L.pm.length_eq;rw[Yz]at q;have r:owner.toList.length=mask+1:=by rw[Zx];exact L.sz
  obtain⟨s,p,e⟩:=X5 (l:=owner.toList) (by lia);have d:owner.getD s (some 0)=none:=by
   rw[ZY]at e;rw[ZO,e];rfl
  obtain⟨j,o,b⟩:=OC (owner:=owner) F ⟨s,by lia,d⟩ 13 (SetTable.turns mask) (Lv h % (mask+1)) (Lv h) (Sg h) (by unfold SetTable.turns;lia) (Nat.mod_lt _<|by lia);have f:j<owner.size:=by
   rcases VB j owner.size with z|z
   ·exact z
   ·rw[ZO,Y3 z]at b;cases b
  have g:Laid (mask+1) (k+1) (owner.setIfInBounds j<|some k):=by
   refine⟨by rw[Array.size_setIfInBounds];exact L.sz,?_⟩;rw[Array.toList_setIfInBounds];have c:owner.toList[j]?=some none:=by
    rw[ZY,ZW f];rw[ZO,ZW f]at b;exact congrArg some b
   refine(Kq c).trans ((L.pm.cons k).trans ?_);rw[List.range_succ];exact(List.perm_append_singleton k<|EC k).symm
  obtain⟨owner',i,n⟩:=ih (owner.setIfInBounds j<|some k) (k+1) g (by lia);refine⟨owner',by rw[Zr,show k+(hs.length+1)=k+1+hs.length by lia];exact i,?_⟩;rw[JC,Zr,show k+(hs.length+1)=k+1+hs.length by lia,←n]
  congr 1
  show(do
   let j ←SetTable.layClean.free mask owner (SetTable.turns mask) (Lv h % (mask+1)) (Lv h)
   Lo (owner.setIfInBounds j<|some k,k+1):Option<|Array (Option Nat)×Nat)=_
  rw[o];rfl
theorem P5 (owner:Array<|Option Nat):∀n,n=owner.size->((EC n).filterMap fun j=>(owner.getD j none).map (j,·)).map (·.2)=owner.toList.filterMap id:=by
 intro n hn;have e:owner.toList=(EC n).map fun j=>owner.getD j none:=by
  apply Ug
  intro i;rw[ZY,Zk]
  by_cases z:i<n
  ·rw[V5 z,ZW<|by lia,Yt,ZO,ZW<|by lia];rfl
  ·rw[Yf (by simp;lia),Y3<|by lia];rfl
 rw[e,List.filterMap_map,List.map_filterMap]
 congr 1
 funext j
 show((owner.getD j none).map (j,·)).map (·.2)=id (owner.getD j none);cases owner.getD j none<;>rfl
theorem NN {mask finger moves:Nat}{led plain:Bool}{hs:Array Int}(F:Full<|mask+1)(hn:hs.size<=mask):∃t order,SetTable.laid mask finger moves led plain hs=some (t,order)/\order.toList.Perm (EC hs.size)/\t.place.size=hs.size/\t.dummies=#[]/\t.mask=mask/\t.led=led/\t.plain=plain:=by
 have d:Laid (mask+1) 0 (Array.replicate (mask+1) none):=by
  refine⟨Array.size_replicate,?_⟩;rw[Array.toList_replicate];have:∀n,(Lw n (none:Option Nat)).filterMap id=[]:=fun n=>by
   induction n with
   |zero=>rfl
   |succ n ih=>rwa[List.replicate_succ]
  rw[this];exact List.Perm.refl _
 obtain⟨b,L,e⟩:=Ip F hs.toList _ 0 d (by rw[Zx];lia);rw[VA,Zx]at L e;have f:SetTable.layClean mask hs=some b:=by
  unfold SetTable.layClean;rw[←Array.foldl_toList];exact congrArg (Option.map (·.1)) e
 have h:=P5 b (mask+1) L.sz.symm;have c:=L.pm;rw[←h]at c;have g:=c.length_eq;rw[Q8,Yz]at g;refine⟨_,_,by unfold SetTable.laid;rw[f];rfl,by simpa using c,?_,rfl,rfl,rfl,rfl⟩;show(List.map _ _).toArray.size=_;rwa[Zy,Q8]
theorem GQ {n:Nat}(h:n<256):Full (Ew n)/\n<Ew n:=by
 have go:∀n,n<256->(Ew n=8\/Ew n=16\/Ew n=32\/Ew n=64\/Ew n=128\/Ew n=256)/\n<Ew n:=by decide +kernel
 obtain⟨b,c⟩:=go n h;refine⟨?_,c⟩
 rcases b with e|e|e|e|e|e<;>rw[e]
 ·exact TD
 ·exact Wl
 ·exact Wm
 ·exact Wn
 ·exact Su
 ·exact Sv
theorem Gy {es:Array (Int×Ee)}{b:Array Nat}(h:b.toList.Perm<|EC es.size):(b.filterMap (es[·]?)).toList.Perm es.toList/\(b.filterMap (es[·]?)).size=es.size:=by
 have c:(b.filterMap (es[·]?)).toList.Perm es.toList:=by
  rw[Array.toList_filterMap];refine(h.filterMap _).trans ?_;have e:=Vb es.toList;rw[Zx]at e;have d:(EC es.size).filterMap (fun p=>es[p]?)=(EC es.size).filterMap fun i=>es.toList[i]?:=by congr 1;funext p;exact(ZY ..).symm
  rw[d,e]
 exact⟨c,by rw[←Zx,c.length_eq,Zx]⟩
section
variable {prog:Eg}{w:Ek}{A:ED}{E:Ee->Dh}{s:Ei}
theorem RO {a:Ef}{o:Obj}{es:Array (Int×Ee)}{ep n:Nat}{t:E4}{Q:Unit->Dh}(e:s.heap.get? a=some o)(hd:o.data=.set es ep t)(l:t.fits es.size=true)(hn:n<256)(j:es.size<=n)
  (h:∀es' t',es'.toList.Perm es.toList->t'.fits es'.size=true->t'.led=t.led->t'.plain=t.plain->t'.dummies=#[]->t'.mask=Ew n-1->Q () { s with heap:=s.heap.update a (LD es' t') }):Eh (Em prog w) A (setRelay a n) Q E s:=by
 obtain⟨F,p⟩:=GQ hn;have q:Ew n-1+1=Ew n:=by lia
 obtain⟨t',b,g,pm,f,d,mk,le,u⟩:=NN (mask:=Ew n-1) (finger:=t.finger) (moves:=t.movedTo<|Ew n-1) (led:=t.led) (plain:=t.plain) (hs:=es.map (·.1)) (by rw[q];exact F) (by rw[VC];lia);rw[VC]at pm f;obtain⟨r,c⟩:=Gy pm;have v:¬Ew n>sizeLine:=by
  have:∀n,n<256->Ew n<=256:=by decide +kernel
  have:=this n hn;rw[Ys];lia
 unfold setRelay;refine Q7<|ZT e hd l ?_;dsimp only;rw[Zt v];have i:t.relaid (es.map (·.1)) n=some (t',b):=g;rw[i];refine Q7 ?_;wp_delta;dsimp only;rw[Zt (by rw[c];simp)];refine Za ?_;refine JY e hd (h _ t' r (by unfold Mn SetTable.fill;rw[f,d,c,mk];simp;lia) le u d mk) ?_;rw[Ys,c];lia
theorem FF {h:Ev}{a:Ef}{o:Obj}{es b:Array (Int×Ee)}{ep:Nat}{t t':E4}(c:h.get? a=some o)(hd:o.data=.set es ep t):(h.update a<|LD b t').get? a=some { o with data:=.set b (ep+1) t' }:=by
 have:=Ye (LD b t') c (by rw[putSet_of b t' hd];rfl);rw[putSet_of b t' hd]at this;exact this
theorem Xx {Q:Bool->Dh}(h:Q (byText w) s):Eh (Em prog w) A MC Q E s:=by
 unfold MC;exact Q7<|Je<|Za h
theorem N4 {a:Ef}{o:Obj}{es:Array (Int×Ee)}{ep n:Nat}{t:E4}{Q:Unit->Dh}(c:s.heap.get? a=some o)(hd:o.data=.set es ep t)(b:t.fits es.size=true)(hn:(es.size+n)*2<256)
  (e:t.roomFor n=none->Q () s)
  (f:∀es' t',es'.toList.Perm es.toList->t'.fits es'.size=true->t'.led=t.led->t'.plain=t.plain->t'.dummies=#[]->t'.mask=Ew ((es.size+n)*2)-1->Q () { s with heap:=s.heap.update a (LD es' t') }):Eh (Em prog w) A (setRoomFor a n) Q E s:=by
 unfold setRoomFor;refine Q7<|ZT c hd b ?_;have g:t.place.size=es.size:=by
  unfold Mn at b;have:=(Bool.and_eq_true_iff.mp b).1;exact Jd.mp this
 dsimp only;cases q:t.roomFor n with
 |none=>exact Za<|e q
 |some wanted =>
  have d:wanted=(es.size+n)*2:=by
   unfold SetTable.roomFor at q
   split at q
   ·cases q;rw[g]
   ·cases q
  subst d;exact RO c hd b hn (by lia) f
theorem RS {a:Ef}{o:Obj}{es:Array (Int×Ee)}{ep n:Nat}{t:E4}{Q:Unit->Dh}(b:s.heap.get? a=some o)(d:o.ExactSet)(hd:o.data=.set es ep t)(c:t.fits es.size=true)(hn:(es.size+n)*2<256)
  (h:∀(h1:Ev) (o':Obj) (es':Array<|Int×Ee) (ep':Nat) (t':E4),EJ a s.heap h1->h1.get? a=some o'->o'.ExactSet->o'.data=.set es' ep' t'->es'.toList.Perm es.toList->t'.fits es'.size=true->t'.led=t.led->t'.plain=t.plain->Q () { s with heap:=h1 }):Eh (Em prog w) A (setRoomFor a n) Q E s :=
 N4 b hd c hn (fun _=>h s.heap o es ep t (Heap.SameBut.refl a s.heap) b d hd (List.Perm.refl _) c rfl rfl) fun es' t' pm e f g _ _=>h _ _ es' (ep+1) t' (EH s.heap a _) (FF b hd) d rfl pm e f g
theorem Tu {a b:Ef}{o K:Obj}{es g:Array (Int×Ee)}{ep p:Nat}{t B:E4}{Q:Array (Int×Ee)->Dh}(I:s.heap.get? a=some o)(hd:o.data=.set es ep t)(G:t.fits es.size=true)(i:Mw (strKind prog w) es.toList)(hl:t.led=!byText w)(N:t.plain=false)
  (y:s.heap.get? b=some K) (u:K.data=.set g p B) (v:B.fits g.size=true) (P:Mw (strKind prog w) g.toList) (H:B.led=!byText w) (J:B.plain=false)
  (h:∀W d,W.toList.Perm es.toList->Q W { s with drawn:=d }):Eh (Em prog w) A (setWalkUnseen a [b]<|some b) Q E s:=by
 have j:∀{es:Array (Int×Ee)},Mw (strKind prog w) es.toList->∀e∈es.toList,∀r,e.2≠.ref r:=fun{es} i e F r z=>by
  have:=(i e F).2;rw[z]at this;cases this
 have wk:(byText w=true\/es.size<=1)->Eh (Em prog w) A (setWalk a) Q E s:=fun c=>by
  unfold setWalk;refine Q7<|ZT I hd G ?_;dsimp only;refine Q7<|Xx ?_;cases q:byText w with
  |true =>
   simp only[↓reduceIte];exact Q7<|Je<|Za<|h _ s.drawn<|uO _ _
  |false =>
   have c1:es.size<=1:=c.resolve_left (by rw[q];decide);simp only[Z7,↓reduceIte];refine Yr (fun z=>?_)<|fun _=>?_
   ·exfalso;have z:(!t.plain&&decide (es.size>1))=true:=z;rw[Zo<|by lia,YR]at z;cases z
   ·refine Q7 ?_;wp_delta;rw[hl,q];refine Yr (fun z=>?_)<|fun _=>?_
    ·exfalso;have z:(!(!false)&&decide (es.size>1))=true:=z;cases z
    ·exact Za (Za<|h es s.drawn<|List.Perm.refl _)
 unfold setWalkUnseen;refine Q7<|ZT I hd G ?_;dsimp only;refine Q7<|Xx ?_;refine Yr (fun z=>?_)<|fun z=>?_
 ·refine wk ?_;rw[N,YR,Bool.or_false,VY]at z;exact z.imp id Zv
 ·refine Q7 ?_;have quiet:∀(l:Dd),(∀c∈l,∃o es ep t,s.heap.get? c=some o/\o.data=.set es ep t/\t.fits es.size=true/\Mw (strKind prog w) es.toList)->∀{D:Bool->Dh},D true s->Eh (Em prog w) A (setsQuiet l) D E s:=fun l hl D X=>by
   unfold setsQuiet;refine Q7 ?_;refine J9 _ (fun f q C=>C=s/\q=(none,())/\∀c∈f,∃o es ep t,s.heap.get? c=some o/\o.data=.set es ep t/\t.fits es.size=true/\Mw (strKind prog w) es.toList) _ ?_ ?_ l _ ⟨rfl,rfl,hl⟩
   ·rintro c f q C ⟨rfl,rfl,n⟩;obtain⟨o,es,ep,t,R,S,T,U⟩:=n c<|Ze ..;refine Q7 ?_;unfold setEntries;refine Q7<|ZT R S T<|Za ?_;refine Q7 ?_;refine MeetsSeq2.wpAny_forIn_array _ (fun f q M=>M=C/\q=(none,())/\∀e∈f,∀r,e.2≠.ref r) _ ?_ ?_ _ _ ⟨rfl,rfl,j U⟩
    ·rintro⟨Y,x⟩ L q2 M ⟨rfl,rfl,O⟩;have Z:=O (Y,x)<|Ze ..;cases x with
     |ref r=>exact absurd rfl<|Z r
     |_=>exact Za ⟨rfl,rfl,fun e F=>O e<|Zb _ F⟩
    ·rintro q2 M ⟨rfl,rfl,_⟩;exact Za ⟨rfl,rfl,fun d hd=>n d<|Zb _ hd⟩
   ·rintro q C ⟨rfl,rfl,_⟩;exact Za X
  refine quiet [a,b] (fun c n=>?_) ?_
  ·rcases Zi.mp n with rfl|n
   ·exact⟨o,es,ep,t,I,hd,G,i⟩
   ·rw[Q9.mp n];exact⟨K,g,p,B,y,u,v,P⟩
  ·simp only[Vc,Z7,↓reduceIte];refine Q7<|JQ ?_;refine Q7<|ZT y u v ?_;dsimp only;refine Yr (fun z=>?_)<|fun _=>?_
   ·exfalso;rw[hl,H,N,J]at z;cases q:byText w<;>rw[q]at z<;>cases z
   ·exact Za (h es s.drawn<|List.Perm.refl _)
theorem rW {x:Str}:x∈step ks k↔x∈ks\/x=k:=by
 unfold step
 split
 ·rename_i h;exact⟨.inl,fun z=>z.elim id fun e=>by rw[e];exact h⟩
 ·rw[ZD,Q9]
theorem vC {ks:Da}(h:ks.Nodup):(step ks k).Nodup:=by
 unfold step
 split
 ·exact h
 ·rename_i n;refine Y4.mpr ⟨h,ZS.mpr ⟨by simp,Yw⟩,fun x c y b e=>n ?_⟩;rw[Q9]at b;rwa[←b,←e]
theorem BM {t:E4}{n:Nat}(b:t.fits n=true):t.place.size=n:=Jd.mp (Bool.and_eq_true_iff.mp b).1
structure Both (ks1 ks2 ks:Da):Prop where
 mem:∀x,x∈ks↔x∈ks1\/x∈ks2
 nd:ks1.Nodup->ks2.Nodup->ks.Nodup
 len:ks.length<=ks1.length+ks2.length
theorem R5 {i:Sem Unit}{Q:Unit->Dh}(hS:yj prog w s.heap a ks1)(hO:yj prog w s.heap b ks2)(ne:a≠b)(n1:ks1≠[])(hb:(ks1.length+ks2.length)*2<256)
  (hE:∀(s':Ei) (Q':Unit->Dh),s'.heap.get? b=s.heap.get? b->Q' () s'->Eh (Em prog w) A i Q' E s')
  (h:∀h' d ks',EJ a s.heap h'->yj prog w h' a ks'->Both ks1 ks2 ks'->Q () { s with heap:=h',drawn:=d }):Eh (Em prog w) A (setMerge a b i) Q E s:=by
 obtain⟨o,es,ep,t,ho,hx,hd,X⟩:=id hS;obtain⟨o2,L,a0,t2,an,a3,C,X2⟩:=id hO;have hl:=XJ X;have a2:=XJ X2;obtain⟨al,hp,a1,hf,p,S⟩:=X;obtain⟨Ed,R,ay,D,G,T⟩:=X2;have k0:0<ks1.length:=Y6.mpr n1;unfold setMerge;refine Yr (fun z=>absurd (Jd.mp z) ne) (fun _=>?_);refine Q7<|ZT an C D ?_;dsimp only;refine Yr (fun z=>?_)<|fun z=>?_
 ·have e:L.size=0:=by simpa[Array.isEmpty] using z
  have e:ks2=[]:=Yp (by lia);subst e;exact Za (h s.heap s.drawn ks1 (Heap.SameBut.refl a s.heap) hS ⟨fun x=>by simp,fun n _=>n,by lia⟩)
 ·have e2:L.size≠0:=fun e=>z (by simpa[Array.isEmpty] using e);refine Q7 (RS ho hx hd hf (by lia) fun M o' K ab t' U H ap B pm f O q=>?_);have a5:K.size=es.size:=by rw[←Zx,pm.length_eq,Zx]
  have P:M.get? b=some o2:=by rwa[U.2 b ne.symm]
  refine Q7<|ZT (s:={ s with heap:=M }) H B f ?_;dsimp only;have rd:t'.road t2=.oneByOne:=by
   unfold SetTable.road SetTable.fill;rw[BM f];exact Zs (bne_iff_ne.mpr<|by lia)
  rw[rd];dsimp only;have l:=al.perm pm;refine Q7 (Tu (s:={ s with heap:=M }) P C D Ed G (T e2) H B f l (O.trans p) (q.trans<|S<|by lia) fun W d wp=>?_);have as:yj prog w M a ks1:=⟨o',K,ab,t',H,ap,B,l,(pm.map keyOf).trans hp,by lia,f,O.trans p,fun _=>q.trans<|S<|by lia⟩;have N:=Ed.perm wp;have wl:W.toList.length=ks2.length:=by rwa[wp.length_eq,Zx]
  refine Q7 ?_;refine MeetsSeq2.wpAny_forIn_array _ (fun c _ s2=>∃(done:List<|Int×Ee) (v:Ev) (I:Da),W.toList=done++c/\s2={ s with heap:=v,drawn:=d }/\EJ a s.heap v/\yj prog w v a I/\Both ks1 (done.map keyOf) I) _ ?_ ?_ W _ ⟨[],M,ks1,rfl,rfl,U,as,fun x=>by simp,fun n _=>n,by simp⟩
  ·rintro⟨J,x⟩ c _ s2 ⟨done,v,I,j,rfl,g,tx,u⟩;have mem:(J,x)∈W.toList:=by rw[j];exact ZL _<|Ze ..
   obtain⟨⟨k,hk,F⟩,_⟩:=N (J,x) mem;obtain⟨tk,et⟩:=YD<|show EY k x=true from hk;have F:J=hashStr w k:=F;have ek:keyOf (J,x)=k:=by unfold keyOf;rw[et]
   dsimp only;rw[et,F];have dl:done.length+c.length+1=ks2.length:=by
    rw[j,Zh,Zr]at wl;lia
   have kl:=u.len;rw[Q8]at kl;have a4:Mc=4096:=rfl;refine Q7 (ZZ<|Nl (s:={ s with heap:=v,drawn:=d }) tx (by lia) fun Z r Y ax=>?_);have e3:Z.get? b=s.heap.get? b:=(Y.2 b ne.symm).trans<|g.2 b ne.symm;refine Q7<|hE _ _ e3 ?_;refine Q7 (ZT (s:={ s with heap:=Z,drawn:=d }) (show Z.get? b=some o2 by rwa[e3]) C D ?_);refine Yr (fun z=>absurd z<|by simp) (fun _=>?_);refine Za ⟨done++[(J,x)],Z,step I k,by rw[j,Z6];rfl,rfl,g.trans Y,ax,fun y=>?_,fun n m=>vC<|u.nd n (by rw[Zl]at m;exact(Y4.mp m).1),?_⟩
   ·rw[rW,u.mem,Zl,ZD];show _↔y∈ks1\/y∈done.map keyOf\/y∈[keyOf (J,x)];rw[ek,Q9,or_assoc]
   ·have:=Kt I k;rw[Q8,Zh,YO];lia
  ·rintro _ s2 ⟨done,v,I,j,rfl,g,tx,u⟩;rw[ZG]at j;refine Za (h v d I g tx ⟨fun x=>?_,fun n m=>u.nd n (by rw[←j];exact((wp.map keyOf).trans R).nodup_iff.mpr m),?_⟩)
   ·rw[u.mem,←j];have pk:(W.toList.map keyOf).Perm ks2:=(wp.map keyOf).trans R;rw[pk.mem_iff]
   ·have:=u.len;rw[Q8,←j,wl]at this;exact this
theorem IZ {a:Ef}{n:Nat}{Q:Unit->Dh}(c:s.heap.get? a=some (zO w))(hn:n*2<256)
  (h:∀(h1:Ev) (o':Obj) (ep':Nat) (t':E4),EJ a s.heap h1->h1.get? a=some o'->o'.ExactSet->o'.data=.set #[] ep' t'->t'.fits 0=true->t'.led=!byText w->t'.plain=true->t'.dummies=#[]->Full (t'.mask+1)->n<=t'.mask->Q () { s with heap:=h1 }):Eh (Em prog w) A (setRoomFor a n) Q E s:=by
 refine N4 (es:=#[]) c rfl rfl (by show(0+n)*2<256;lia) (fun z=>?_) fun b t' pm e f g i f5=>?_
 ·refine h s.heap _ 0 _ (Heap.SameBut.refl a s.heap) c ⟨rfl,rfl,rfl⟩ rfl rfl rfl rfl rfl TD ?_;unfold SetTable.roomFor at z
  split at z
  ·cases z
  ·rename_i q;have q:¬(0+n)*5≥7*3:=q;show n<=7;lia
 ·have d:b=#[]:=by
   have:=pm.length_eq;rw[Zx]at this;exact Array.eq_empty_of_size_eq_zero this
  subst d;have f5:t'.mask=Ew (n*2)-1:=by
   rw[f5];show Ew ((0+n)*2)-1=_;rw[VA]
  obtain⟨F,j⟩:=GQ hn;refine h _ _ 1 t' (EH s.heap a _) (FF c rfl) ⟨rfl,rfl,rfl⟩ rfl e f g i ?_ (by lia);rw[f5,show Ew (n*2)-1+1=Ew (n*2) by lia];exact F
theorem Oe {a:Ef}{q:Sem Unit}{Q:Unit->Dh}(D:s.heap.get? a=some (zO w))(X:yj prog w s.heap b ks2)(ne:a≠b)(hb:ks2.length*2<256)
  (h:∀h',EJ a s.heap h'->(ks2=[]->h'.get? a=some (zO w))->yj prog w h' a ks2->Q () { s with heap:=h' }):Eh (Em prog w) A (setMerge a b q) Q E s:=by
 obtain⟨o2,i,T,p,J,Z,G,M⟩:=id X;have I:=XJ M;obtain⟨L,v,c,t,o,n⟩:=M;unfold setMerge;refine Yr (fun z=>absurd (Jd.mp z) ne) (fun _=>?_);refine Q7<|ZT J G t ?_;dsimp only;refine Yr (fun z=>?_)<|fun z=>?_
 ·have e:i.size=0:=by simpa[Array.isEmpty] using z
  have e:ks2=[]:=Yp (by lia);subst e;exact Za<|h s.heap (Heap.SameBut.refl a s.heap) (fun _=>D)<|IN (xs:=[]) D
 ·have B:i.size≠0:=fun e=>z (by simpa[Array.isEmpty] using e);have n2:ks2≠[]:=fun e=>B (by rw[I,e];rfl);refine Q7 (IZ D (by lia) fun C o' S l y g x f r u Y H F hn=>?_);refine Q7<|ZT (s:={ s with heap:=C }) g f r ?_;dsimp only;have U:l.fill=0:=by unfold SetTable.fill;rw[BM r,H];rfl
  have d:p.led=!byText w:=o;cases rd:l.road p with
  |oneByOne =>
   exfalso;unfold SetTable.road at rd;rw[U]at rd;rw[Zt<|by simp]at rd
   split at rd<;>cases rd
  |slotForSlot =>
   refine JY (s:={ s with heap:=C }) g f ?_<|Vz c;refine h _ (y.trans<|EH _ a _) (fun z=>absurd z n2) ⟨_,i,_,_,FF g f,x,rfl,L,v,c,t,?_,fun _=>?_⟩
   ·show(l.led&&p.led)=!byText w;rw[u,d,Bool.and_self]
   ·show(l.plain&&p.plain)=false;rw[n B,YR]
  |clean =>
   obtain⟨t3,K,R,pm,O,P,mk,le,pl⟩:=NN (mask:=l.mask) (finger:=l.finger) (moves:=l.moves) (led:=l.led&&p.led) (plain:=l.plain&&p.plain) (hs:=i.map (·.1)) F (by rw[VC];lia);rw[VC]at pm O;obtain⟨N,j⟩:=Gy pm;dsimp only;rw[R];refine Q7 ?_;wp_delta;dsimp only;rw[Zt (by rw[j];simp)];refine Za ?_;refine JY (s:={ s with heap:=C }) g f ?_ (by rw[j];exact Vz c);refine h _ (y.trans<|EH _ a _) (fun z=>absurd z n2) ⟨_,_,_,t3,FF g f,x,rfl,L.perm N,(N.map keyOf).trans v,by rw[j];exact c,?_,?_,fun _=>?_⟩
   ·unfold Mn SetTable.fill;rw[O,P,j,mk];simp;lia
   ·rw[le,u,d,Bool.and_self];rfl
   ·rw[pl,n B,YR]
theorem Px:entryFor table "set.__or__"=some Builtin.«frozenset.__or__» :=
 entryFor_alias (id':="frozenset.__or__") (by kernel_rfl) (by first|rfl|decide +kernel|(unfold String.splitOn;simp +decide [String.splitOnAux])) (by decide +kernel) (by kernel_rfl)
theorem Xc {h:Ev}{s:Ei}(x:yj prog w s.heap a ks):s.TypeIs (.ref a) "set":=by
 obtain⟨o,e,d,t,b,c,_⟩:=x;exact⟨o,b,c.1⟩
theorem CS {a:Ef}{Q:Bool->Dh}(b:s.TypeIs (.ref a) "set")(h:Q true s):Eh (Em prog w) A (E2<|.ref a) Q E s:=by
 unfold E2;show Eh _ _ (Ml (.ref a) (.type "set")>>=_) _ _ _;refine Q7<|YV b sub_set_self ?_;exact Za h
theorem bu {Q:Ee->Dh}(B:yj prog w s.heap a ks1)(n:yj prog w s.heap b ks2)(ne:a≠b)(hb:(ks1.length+ks2.length)*2<256)
  (h:∀h' d ks',(∀x o,s.heap.get? x=some o->h'.get? x=some o)->yj prog w h' s.heap.objs.size ks'->Both ks1 ks2 ks'->Q (.ref s.heap.objs.size) { s with heap:=h',drawn:=d }) :
  Eh (Em prog w) A (call (.builtin "set.__or__") [.ref a,.ref b]) Q E s:=by
 have i:=Xc (h:=s.heap) B;have C:=Xc (h:=s.heap) n;refine Ym PySem.F.slot_set_or i Px ?_<|PySem.F.args_set_or_2 _ _;unfold Builtin.«frozenset.__or__»;wp_delta;refine Q7 ?_;show Eh _ _ (Lo (Et a,Et b)) _ _ _;refine Za ?_;dsimp only;refine Q7 ?_;show Eh _ _ (E2 (.ref a)>>=_) _ _ _;refine Q7<|CS i ?_;show Eh _ _ (E2<|.ref b) _ _ _;refine CS C ?_;simp only[Vc,Z7,↓reduceIte];refine Q7<|Za ?_;refine Q7 ?_;wp_delta;refine Q7 ?_;unfold Builtin.Frozenset.copyOf Builtin.Frozenset.baseOf newSet;refine Q7<|Q7<|YV i sub_set_self<|Za ?_;simp only[↓reduceIte];refine Q7<|Q7<|Xx ?_;simp only[newObj];refine Q7<|wpAny_alloc<|Za ?_;have P:(s.heap.push<|zO w).get? s.heap.objs.size=some (zO w):=Zp _ rfl;have kp:∀x o,s.heap.get? x=some o->(s.heap.push<|zO w).get? x=some o:=fun x o e=>Zd _ e;have S:a<s.heap.objs.size:=by obtain⟨o,_,_,_,e,_⟩:=B;exact Zq e
 have T:b<s.heap.objs.size:=by obtain⟨o,_,_,_,e,_⟩:=n;exact Zq e
 refine Q7<|Za ?_;refine Q7 ?_;refine Oe (s:={ s with heap:=s.heap.push (zO w) }) P (B.at (kp a)) (YW S) (by lia) fun g G lY H=>?_;have c:∀x o,s.heap.get? x=some o->g.get? x=some o:=fun x o e=>(G.2 x<|Zz<|Zq e).trans<|kp x o e;refine Za ?_;rw[Zs<|by simpa using fun z=>ne z.symm];refine Q7<|Za ?_;refine Q7<|ZZ ?_;unfold EX;have t:LJ { s with heap:=g } (.ref b) "set":=Xc (h:=g)<|n.at (c b);refine Q7<|CS (s:={ s with heap:=g }) t ?_;simp only[↓reduceIte];refine Q7<|Za ?_;unfold Builtin.Frozenset.merge;obtain⟨U,O,N,t2,D,R,u,L⟩:=id<|n.at (c b);have v:=L.2.2.2.1;refine Q7 ?_;unfold setEpoch;refine Q7<|ZT (s:={ s with heap:=g }) D u v<|Za ?_;have J:s.heap.objs.size≠b:=YW T;have r:∀(f:Ev) (d:Drawn) (p:Da),EJ s.heap.objs.size g f->yj prog w f s.heap.objs.size p->Both ks1 ks2 p->Q (.ref s.heap.objs.size) { s with heap:=f,drawn:=d }:=fun f d p X Y y =>
  h f d p (fun x o e=>(X.2 x<|Zz<|Zq e).trans<|c x o e) Y y
 by_cases I:ks1=[]
 ·subst I;refine Oe (s:={ s with heap:=g }) (lY rfl) (n.at (c b)) J (by lia) fun f j _ l=>?_;exact Za (Za ⟨_,rfl,r f s.drawn ks2 j l ⟨fun x=>by simp,fun _ m=>m,by lia⟩⟩)
 ·refine R5 (s:={ s with heap:=g }) H (n.at (c b)) J I hb (fun K Z M q=>?_) fun f d p j l y=>?_
  ·unfold Builtin.Frozenset.unchanged setEpoch;refine Q7 (Q7<|ZT (s:=K) (show K.heap.get? b=some U by rwa[M]) u v<|Za ?_);refine Yr (fun z=>absurd z<|by simp) (fun _=>Za q)
  ·exact Za (Za ⟨_,rfl,r f d p j l y⟩)
end
end AxS
namespace L2
open PySem PySem.Spec PyProof.Rows AxS
section
variable {X:Cx}
def cb (P:Eg)(w:Ek):R2:=fun x y H Q=>∃(a b:Ef) (c d:Da),x=.ref a/\y=.ref b/\H a=some (UF P w a c)/\H b=some (UF P w b d)/\a≠b/\(c.length+d.length)*2<256/\∀p e,H p=none->Both c d e->Q (.ref p) (upd H p<|UF P w p e)
theorem WB:CD X (MA .BitOr) (cb X.prog X.w):=by
 intro t s B H x y v u Q I l p h;obtain⟨a,b,i,j,rfl,rfl,ha,hb,ne,n,q⟩:=h;cases l;cases p;have f:=vU<|I.hok a _ ha;have e:=vU<|I.hok b _ hb;refine wpAny_binaryOp_same (op:=.BitOr) (Xc (h:=s.heap) f) (Xc (h:=s.heap) e) PySem.F.fills_set_or PySem.F.slot_set_or<|bu f e ne n fun A d c k r g=>⟨fun z=>(nomatch z),?_⟩;exact⟨.ref s.heap.objs.size,_,(I.laid (o:=UF X.prog X.w s.heap.objs.size c) (t':=s.toks) k (Zf _)<|B9 r).drew (d:=d),rfl,q _ c (I.hok.fresh<|Zf _) g⟩
end
section
variable {X:Cx}{Do:De}{σ:St}{H:Hp}{s:Ei}{d:Ef}{Dm:Dl}
theorem Km (I:Inv X Do σ H s)(e:Rd H d<|.dK Dm):∃vs ep,KV Dm vs/\s.heap.DictAt (zc X.prog X.w) d vs ep/\(d==EM)=false/\Dm.length<=sizeLine:=by
 obtain⟨z,hd,vs,f,o,g,ep,h,j,b,hk,i,c⟩:=Xb I.hok e;exact⟨vs,ep,f,⟨o,g,h,j,b,hk,i,c⟩,hd,z⟩
theorem Gv {α c:Type}{F G:α->c->Prop}(h:∀a b,F a b->G a b){l:List α}{m:List c}(r:Lj F l m):Lj G l m:=Paired.mj r h
theorem yp.nJ {t:Obj}{x:HO}(hd:H d=some (.frz t x)){y:HO}(ok:yp P w H h b u):yp P w (upd H d y) h b u:=by
 have keep:∀{c:Ef} {z:HO},H c=some z->(∀o v,z≠.frz o v)->upd H d y c=some z:=fun{c z} e n=>by
  rw[zH fun q=>by rw[q,hd]at e;exact n _ _ (Option.some.inj e).symm];exact e
 induction u generalizing b with
 |lst g=>exact ok
 |tup g=>exact ok
 |dK Dm=>exact ok
 |dT Dm =>
  obtain⟨i,j,g,s,l⟩:=ok;exact⟨i,j,g,Gv (fun p q r=>⟨r.1,keep r.2.1 (fun o v z=>(nomatch z)),r.2.2⟩) s,l⟩
 |set S n=>exact ok
 |ins C dx fs=>exact⟨keep ok.1 (fun o v z=>(nomatch z)),ok.2⟩
 |own x=>exact ok
 |xd fs=>exact ok
 |rng lo hi=>exact ok
 |frz o u ih=>exact⟨ok.1,ih ok.2⟩
 |tbl ps=>exact ok
 |met f x=>exact ok
 |ext φ=>exact ok
theorem Inv.nJ {y:Obj}(I:Inv X Do σ H s)(hd:H d=some (.frz y<|.dK Dm))(w:∀o u,X.H₀ d≠some (.frz o u)):Inv X Do σ (upd H d<|.dK Dm) s:=by
 have ne:∀{b:Ef},H b=none->b≠d:=fun{b} e z=>by rw[z,hd]at e;cases e
 have h:∀{b:Ef} {z:HO},H b=some z->(∀o v,z≠.frz o v)->b≠d:=fun{b z} e n q=>by rw[q,hd]at e;exact n _ _ (Option.some.inj e).symm
 refine⟨I.ok,I.os,I.bare,⟨I.base.keep,I.base.slot,fun b o f l r=>?_,I.base.there,fun b B f=>?_,fun b o u f=>?_,fun b A f=>?_⟩,I.loc,I.cell,?_,fun x c f=>?_,fun p t=>?_,fun b u f=>?_,I.len⟩
 ·have:=I.base.free b o f l r;rwa[zH<|ne this]
 ·have:=I.base.tups b B f;rwa[zH<|h this fun o v z=>(nomatch z)]
 ·have:=I.base.vy b o u f;rw[zH fun z=>w o u<|by rwa[←z]];exact this
 ·obtain⟨more,this⟩:=I.base.ut b A f;exact⟨more,by rw[zH<|h this fun o v z=>(nomatch z)];exact this⟩
 ·rw[zH<|ne I.free];exact I.free
 ·have:=I.wM x c f;rwa[zH<|ne this]
 ·obtain⟨i,g,j⟩:=I.pin p t;exact⟨i,by rw[zH<|ne g];exact g,j⟩
 ·by_cases z:b=d
  ·rw[z,zC]at f;cases f;rw[z];exact(I.hok d _ hd).2
  ·rw[zH z]at f;exact(I.hok b u f).nJ hd
end
section
variable {X:Cx}{tg:EI}
def WJ:Dj->Hp->VK->Prop:=fun d H Q=>∃a b,d=[.ref a]/\Rd H a (.dK b)/\∀l,H l=none->Q (.ref l) (upd H l<|.lst<|b.map fun c=>kV c.1)
theorem qZ (x:X.calm=true):xj X (.type "list") WJ:=by
 intro C s G H F E Q I r h;obtain⟨a,f,rfl,ha,q⟩:=h;obtain⟨u,rfl,z⟩:=wW r;cases z;obtain⟨n,ep,d,o,t,y⟩:=Km I ha;have D:f.length=n.length:=Paired.length d;refine PySem.W.kdl_call (PySem.W.kdl_dict (knd:=zc X.prog X.w) (kvs:=n) (ep:=ep) t) (I.ok.hd x) o (by lia) fun p B b c g hl l=>?_;have A:yr (f.map fun i=>kV i.1) b.toList:=Bc d (by rw[Zx];exact l.1) fun j v e=>l.2 j v (by rwa[←ZY]);exact⟨.ref s.heap.objs.size,_,I.laid (t':=B) g (Zf _)<|show yp X.prog X.w _ p _ (.lst<|f.map fun i=>kV i.1) from⟨by rw[Q8];exact y,b.toList,c,A,hl⟩,rfl,q _<|I.hok.fresh<|Zf _⟩
def U4 (kv:Key×V):Str:=match kv.1 with
 | .inr x=>x
 | .inl _=>""
def Pe (Dm:Dl):Prop:=∀b∈Dm,b.1=.inr (U4 b)
theorem K9 {us:Db}(f:Pe Dm)(c:KV Dm vs)(hl:us.length=vs.length)(hm:∀(j:Nat) (v:Ee),us[j]?=some v->∃k x,vs[j]?=some (k,x)/\(zc P w).is k v=true):x4 us (Dm.map U4):=by
 have n:Dm.length=vs.length:=Paired.length c;refine⟨by rw[Q8];lia,fun i v e=>?_⟩;obtain⟨k,x,h,hk⟩:=hm i v e;obtain⟨p,d,b,_⟩:=jK c h;have b:p.1=k:=b;have g:=f p<|Zn d;rw[←b,g]at hk;obtain⟨t,l⟩:=YD<|show EY (U4 p) v=true from hk;exact⟨U4 p,t,by rw[Zk,d];rfl,l⟩
def RM:Dj->Hp->VK->Prop:=fun d H Q=>∃a b,d=[.ref a]/\Rd H a (.dK b)/\Pe b/\b.length<64/\∀l c,H l=none->c.Perm (b.map U4)->sortedS c=true->Q (.ref l) (upd H l<|.lst<|c.map V.str)
theorem CW (hc:X.calm=true):xj X (.builtin "sorted") RM:=by
 intro O s σ H xs us Q I r h;obtain⟨a,E,rfl,ha,S,Z,q⟩:=h;obtain⟨u,rfl,ru⟩:=wW r;cases ru;obtain⟨L,ep,n,Y,hS,hz⟩:=Km I ha;have Dp:E.length=L.length:=Paired.length n;refine LW kind_sorted plain_sorted entry_sorted (args_sorted1 _) ?_;unfold Builtin.«sorted»;refine Q7 (m:=checkCount "sorted" 1 1 _)<|Za ?_;refine Q7 (PySem.W.kdu_collect (A:=X.A.in1) (PySem.W.kdl_dict (knd:=zc X.prog X.w) (kvs:=L) (ep:=ep) hS) (I.ok.hd hc) Y (by lia) fun d B f t D=>?_);have C:x4 f.toList (E.map U4):=K9 S n (by rw[Zx];exact D.1) fun j v e=>D.2 j v (by rwa[←ZY]);generalize f.toList=c at C ⊢;have g:=vf C;have ab:c.length<64:=by rwa[C.1,Q8]
 have DH:64<=sizeLine:=by rw[Ys];decide
 refine Q7 (Uj ?_<|by lia);have i:(d.push<|Li "list" c.toArray 0).get? d.objs.size=some (Li "list" c.toArray 0):=Zp _ rfl;refine Q7 (ZZ<|Ym slot_list_sort ⟨_,i,rfl⟩ entry_list_sort (list_sort_treeK strKind_oneLt i g.keysOf (fun M N K e=>keyKind_strs<|by rwa[←e]) (by lia) fun p P R=>⟨_,rfl,?_⟩) (args_list_sort _));obtain⟨l,T,G,U⟩:=sorted_out_str g P R;refine Za ⟨_,rfl,?_⟩;obtain⟨e,he⟩:=sortedHeap_at (out:=(arrOf p).map (·.2)) i;have nl:=XI T;have F:Inv X O σ H { s with heap:=d,toks:=B }:=I.kept (t':=B) t;have y:∀b z,d.get? b=some z->(sortedHeap (d.push<|Li "list" c.toArray 0) d.objs.size c ((arrOf p).map (·.2))).get? b=some z:=fun b z J=>by
  have hb:b<d.objs.size:=Zq J;rw[sortedHeap_old (Zz hb) (by rw[YB];exact Y0 hb)];exact Zd _ J
 have fr:H d.objs.size=none:=F.hok.fresh<|Zf _;have x:(l.map V.str).length<=sizeLine:=by
  have:=G.length_eq;rw[Q8]at this ⊢;lia
 exact⟨.ref d.objs.size,_,F.laid (o:=.lst<|l.map V.str) (t':=B) y (Zf _) ⟨x,_,e,nl,he⟩,rfl,q _ l fr G U⟩
def putAll (Dm more:Dl):Dl:=more.foldl (fun b c=>yd b c.1 c.2) Dm
theorem KV.putAll:∀{more:Dl} {um:List (Key×Ee)} {Dm:Dl} {vs:List (Key×Ee)},KV Dm vs->KV more um->KV (putAll Dm more) (merged vs um)
 |[],_,_,_,r,.nil=>r
 |p::more,q::um,Dm,vs,r,.cons h t=>by
  have e:p.1=q.1:=h.1;have:=KV.putAll (Dm:=yd Dm p.1 p.2) (vs:=stored vs q.1 q.2) (by rw[←e];exact r.put p.1 h.2) t;exact this
theorem kP:∀(more Dm:Dl),(putAll Dm more).length<=Dm.length+more.length
 |[],Dm=>Zf _
 |p::more,Dm=>by
  have:=kP more<|yd Dm p.1 p.2;have:=xL Dm p.1 p.2;show(putAll (yd Dm p.1 p.2) more).length<=_;rw[Zr];lia
end
end L2
namespace An10
end An10
namespace An12
open PySem L2 An An10
end An12
namespace An10
open PySem L2 An
end An10
namespace An12
open PySem L2 An An10
end An12
namespace AnJ
section
variable {α:Type}
inductive Pt (α:Type) where
 |same (ls:List α)
 |clash (b m y:List α)
end
open An10
open AxK
open PySem L2 An An12
def yo (ls:Da):PyData:=.tuple<|ls.map .str
theorem qd (l m:Da):Ey (yo l) (yo m)=decide (l=m):=by
 show EO (l.map .str) (m.map .str)=_;exact jY l m
def lW (ls:Da):Prop:=∀l∈ls,El l=true
theorem pW (h:lW ls):(yo ls).canLay0=true/\(yo ls).depth<=1:=by
 obtain⟨a,b⟩:=v5 ls h;refine⟨a,?_⟩;show EA (ls.map .str)+1<=1;rw[b];lia
theorem Ip {e:Type}{f:e->Ej}{n:Nat}:∀{l:List e},(∀x∈l,(f x).canLay0=true/\(f x).depth<=n)->Er (l.map f)=true/\EA (l.map f)<=n
 |[],_=>⟨rfl,ZN _⟩
 |x::l,h=>by
  obtain⟨a,b⟩:=Ip fun y g=>h y<|Zb _ g;obtain⟨c,d⟩:=h x<|Ze ..;constructor
  ·show((f x).canLay0&&Er (l.map f))=true;rw[a,c];rfl
  ·show max (f x).depth (EA<|l.map f)<=n;lia
theorem BT {d:Ej}(h:d.canLay0=true)(n:d.depth<=60):EK d=true:=by
 unfold EK;rw[h,Zg<|by lia];rfl
theorem uv {c:Type}{f:c->Ej}{n:Nat}(hn:n<=50){l:List c}(h:∀x∈l,(f x).canLay0=true/\(f x).depth<=n):EK (.list<|l.map f)=true:=by
 obtain⟨a,b⟩:=Ip h;exact BT a (by show EA (l.map f)+1<=60;lia)
theorem NP:∀a b:List Nat,decide (a<b)=yO TO.nat a b
 |[],[]=>by decide
 |[],_::_=>by simp[yO]
 |_::_,[]=>by simp[yO]
 |a::as,b::bs=>by
  have d:=NP as bs;unfold yO;rw[←d,Yi,ZF,YE];show _↔(decide (a<b)||(!decide (b<a)&&decide (as<bs)))=true;rw[VY,Zm,ZF,ZF,Uf,Vu];constructor
  ·rintro(h|⟨h,c⟩)
   ·exact .inl h
   ·exact .inr ⟨by lia,c⟩
  ·rintro(h|⟨h,c⟩)
   ·exact .inl h
   ·by_cases z:a<b
    ·exact .inl z
    ·exact .inr ⟨by lia,c⟩
def wg:TO Str:=TO.by_ (TO.list TO.nat) cs fun a b h=>xq h
theorem oY (a b:Str):wg.lt a b=decide (a.cps.toList<b.cps.toList):=(NP _ _).symm
theorem pq:∀a b:Da,Tw (a.map .str) (b.map .str) ((TO.list wg).lt a b)
 |[],[]=>by
  show false=decide (0<0);rfl
 |[],_::_=>by
  show true=decide (0<_);simp
 |_::_,[]=>rfl
 |x::a,y::b=>by
  show((x==y)=true/\Tw (a.map .str) (b.map .str) (yO wg (x::a) (y::b)))\/((x==y)=false/\yO wg (x::a) (y::b)=decide (x.cps.toList<y.cps.toList))
  by_cases e:x=y
  ·subst e;refine .inl ⟨by simp,?_⟩;unfold yO;have:wg.lt x x=false:=wg.refl x;rw[this];exact pq a b
  ·refine .inr ⟨by simpa using e,?_⟩;unfold yO;rw[←oY];cases q:wg.lt x y with
   |true=>rfl
   |false =>
    cases c:wg.lt y x with
    |true=>rfl
    |false=>exact absurd (wg.lZ _ _ q c) e
end AnJ
namespace L2
open PySem PySem.Spec PyProof.Rows PySem.W AxK An
def lays:Hp->List (Ef×Dj)->Hp
 |H,[]=>H
 |H,p::r=>lays (upd H p.1<|.tup p.2) r
theorem kU:∀{l:List (Ef×Dj)} {H:Hp} {b:Ef},b∉l.map (·.1)->lays H l b=H b
 |[],_,_,_=>rfl
 |p::r,H,b,h=>by
  rw[Zu,Zi,not_or]at h;show lays (upd H p.1<|.tup p.2) r b=_;rw[kU h.2,zH h.1]
theorem Fn:∀{l:List (Ef×Dj)} {H:Hp} {p:Ef×Dj},(l.map (·.1)).Nodup->p∈l->lays H l p.1=some (.tup p.2)
 |q::r,H,p,nd,h=>by
  rw[Zu,ZS]at nd;show lays (upd H q.1<|.tup q.2) r p.1=_
  rcases Zi.mp h with rfl|h
  ·rw[kU nd.1,zC]
  ·exact Fn nd.2 h
theorem oN:∀{l:List (Ef×Dj)} {H:Hp} {b:Ef} {o:HO},(l.map (·.1)).Nodup->lays H l b=some o->H b=some o\/∃xs,(b,xs)∈l/\o=.tup xs:=fun{l H b o} nd h=>by
 by_cases z:b∈l.map (·.1)
 ·obtain⟨p,c,rfl⟩:=Zc.mp z;rw[Fn nd c]at h;exact .inr ⟨p.2,c,(Option.some.inj h).symm⟩
 ·rw[kU z]at h;exact .inl h
theorem BR {l:List (Ef×Dj)}{H:Hp}(f:∀p∈l,H p.1=none):zz H (lays H l):=fun b o e=>by
 rw[kU]
 ·exact e
 ·intro z;obtain⟨p,c,rfl⟩:=Zc.mp z;rw[f p c]at e;cases e
section
variable {X:Cx}{Do:De}{σ:St}{H:Hp}{s:Ei}{h':Ev}{K:Cd}
theorem Inv.lays {t':Nat}(I:Inv X Do σ H s){l:List (Ef×Dj)}(nd:(l.map (·.1)).Nodup)(k:∀b u,s.heap.get? b=some u->h'.get? b=some u)(g:∀p∈l,s.heap.objs.size<=p.1)(new:∀p∈l,yp X.prog X.w (lays H l) h' p.1<|.tup p.2) :
  Inv X Do σ (lays H l) { s with heap:=h',toks:=t' }:=by
 have fr:∀p∈l,H p.1=none:=fun p m=>I.hok.fresh<|g p m;have d:=BR fr;have nx:∀b u,s.heap.get? b=some u->b∉l.map (·.1):=fun b u q z=>by
  obtain⟨p,m,rfl⟩:=Zc.mp z;exact absurd (Zq q)<|Nat.not_lt.mpr<|g p m
 refine I.un ⟨fun b u q _ _ _=>k b u q,fun b u q _ _ _=>⟨u.slots,k b u q⟩,fun b u q n _=>by rw[kU<|nx b u q];exact n,fun b u q _=>⟨u,k b u q⟩,fun b f q=>d _ _ q,fun b u f q=>d _ _ q,fun b h q=>⟨#[],by rw[d _ _ q];simp⟩⟩ fun b u e=>?_
 rcases oN nd e with z|⟨f,m,rfl⟩
 ·exact(I.hok b u z).stay (fun c v _ q=>k c v q) (fun c q=>d _ _ q) fun c f q=>d _ _ q
 ·exact new _ m
theorem IQ:∀{ps:Dg},(∀p∈ps,El p.1=true/\El p.2=true)->Er (ps.map An.zb)=true
 |[],_=>rfl
 |p::ps,h=>by
  obtain⟨b,c⟩:=h p<|Ze ..;show(((El p.1)&&((El p.2)&&true))&&Er (ps.map An.zb))=true;rw[b,c,IQ fun q d=>h q<|Zb _ d];rfl
def GX:Ej->Da
 | .tuple xs=>xs.map fun d=>match d with
  | .str x=>x
  |_=>""
 |_=>[]
theorem IA {ps:Dg}{i:Nat}(h:i<ps.length):(ps.map An.zb).getD i .none=An.zb (ps.getD i ("","")):=by
 rw[YH,YH,Zk,Zj h];rfl
theorem WP {a b:Str×Str}(h:(TO.list AnJ.wg).le (GX<|An.zb a)<|GX<|An.zb b):cs a.1<=cs b.1:=by
 have h:yO AnJ.wg [b.1,b.2] [a.1,a.2]=false:=h;have h:(AnJ.wg.lt b.1 a.1||(!AnJ.wg.lt a.1 b.1&&yO AnJ.wg [b.2] [a.2]))=false:=h;rw[JF,AnJ.oY,Vu]at h;exact J5.mp h.1
def W0 (K:Cd)(i:TE):TE:=fun σ H Q=>i σ H fun v f=>∃(d:Ef) (e:Dg),v=.ref d/\Rd f d (.dK<|e.map fun p=>((.inr p.1:Key),V.str p.2))/\e.length<64/\(∀p∈e,El p.1=true/\El p.2=true) /\
 ∀(l:Ef) (g:Dg) (h:Dj) (c:Hp),g.Perm e->(g.Pairwise fun a b=>cs a.1<=cs b.1)->zz f c->f l=none->c l=some (.lst h)->zy K c (g.map An.zb) h->Q (.ref l) c
theorem Rz {p Dr Dq pos:Pos}(hc:X.calm=true)(hu:X.A.units+64<Lb)(hg:Gl X x)(hm:X.mg x=none)(hv:LQ x=some (.builtin "sorted"))(ho:PE X o td)
  (DY:Lr o "items" X.env (E3 o X.env)=E3 o X.env:=by rfl) (DH:(Dr.endLine==Dq.line)=true:=by rfl) (hn:x≠"__name__":=by decide) (a8:(x==("__debug__":Str))=false:=by decide)
  (he:Eu [.Call (.Attribute o "items" Dr) [] [] Dq] X.env=(false,E3 (.Call (.Attribute o "items" Dr) [] [] Dq) X.env)::Eu [] X.env:=by rfl) (bl:(La pos<|Eu [] X.env).any (·.1)=false:=by rfl) (hK:X.K=K:=by rfl) :
  PE X (.Call (.Name x p) [.Call (.Attribute o "items" Dr) [] [] Dq] [] pos) (W0 K td):=by
 subst hK;intro Do s σ H Q I h;refine Jr<|U0 I hg hm hv ?_ hn a8;refine VN ?_ he bl;rw[he];show Eh _ _ (spliced ((false,E3 (.Call (.Attribute o "items" Dr) [] [] Dq) X.env)::La pos (Eu [] X.env))) _ _ s;refine LC ?_;refine wpAny_Call_method0_late DY DH<|Ci (ho Do s σ H _ I h) fun v B hh=>?_;obtain⟨x,J,I1,r,d,f,ex,hd,a6,hok,q⟩:=hh;subst ex;cases r;obtain⟨vs,ep,Y,da,hS,bo⟩:=Km I1 hd;have dO:=da.dictOf;obtain⟨b4,ca,h1,h2,h3⟩:=id da;refine⟨"dict","dict.items",F.plainAttrs_dict,Mh,F.type_dict_items,dO.typeIs,fun b q=>by cases q;exact⟨b4,h1,h2.2.1⟩,Ln rfl<|PySem.evalArgs_none ?_⟩;refine Vw Mh dO.typeIs F.entry_dict_items (F.args_dict_items_1 _) (meets_dict_items (zc X.prog X.w) d hS) ⟨⟨vs,dO⟩,?_⟩;refine Mf ?_;have I2:Inv X Do σ J { B with heap:=B.heap.push { cls:=.type "dict_items",data:=.fields #[.ref d] } }:=I1.kept (t':=B.toks) fun b o e=>Zd _ e;have al:(B.heap.push { cls:=.type "dict_items",data:=.fields #[.ref d] }).DictAt (zc X.prog X.w) d vs ep:=da.at' fun o e=>Zd _ e;have a3:(B.heap.push { cls:=.type "dict_items",data:=.fields #[.ref d] }).IsItemsView B.heap.objs.size d:=⟨_,Zp _ rfl,rfl,rfl⟩;have Dp:(f.map fun p=>((.inr p.1:Key),V.str p.2)).length=vs.length:=Paired.length Y;rw[Q8]at Dp;have DH:64<=sizeLine:=by rw[Ys];decide
 refine LW kind_sorted plain_sorted entry_sorted (args_sorted1 _) ?_;unfold Builtin.«sorted»;refine Q7 (m:=checkCount "sorted" 1 1 _)<|Za ?_;refine Q7 (kdx_collect (A:=X.A.in1) (knd:=zc X.prog X.w) (I.ok.hd hc) a3 al (by lia) fun h' tk l ay hl R=>?_);have N:∀b o,(B.heap.push { cls:=.type "dict_items",data:=.fields #[.ref d] }).get? b=some o->h'.get? b=some o:=ay;generalize B.heap.push { cls:=.type "dict_items",data:=.fields #[.ref d] }=h0 at I2 R N;clear al a3 ay;have ln:l.length=f.length:=by rw[hl,←Dp]
 have a4:l.Nodup:=ZI.mpr<|R.rise.imp fun{a b} z=>Zz z;have z1:((l.zip f).map fun(q:Ef×(Str×Str))=>(q.1,[V.str q.2.1,V.str q.2.2])).map (·.1)=l:=by
  rw[ZC];exact VS (by lia)
 have I3:Inv X Do σ (lays J<|(l.zip f).map fun(q:Ef×(Str×Str))=>(q.1,[V.str q.2.1,V.str q.2.2])) { B with heap:=h',toks:=tk }:=by
  refine Inv.lays (s:={ B with heap:=h0 }) I2 (by rwa[z1]) N (fun p y=>?_)<|fun p y=>?_
  ·obtain⟨c,D,rfl⟩:=Zc.mp y;exact YK<|R.above _ (Vh D).1
  ·obtain⟨c,D,rfl⟩:=Zc.mp y;obtain⟨j,u⟩:=Ja.mp D;rw[Jy]at u;obtain⟨key,k,x,e1,hk,e2⟩:=R.pairs j _ u.1;obtain⟨p,L,P,rx⟩:=jK Y e1;rw[Zk,u.2]at L;have L:=(Option.some.inj L).symm;subst L;have P:(Ep c.2.1:Key)=k:=P;rw[←P]at hk;obtain⟨t,et⟩:=YD<|show EY c.2.1 key=true from hk;exact⟨by show 2<=_;lia,[key,x],.cons ⟨t,et⟩<|.cons rx .nil,_,e2,rfl,0,rfl,rfl⟩
 have sm:zz J (lays J<|(l.zip f).map fun(q:Ef×(Str×Str))=>(q.1,[V.str q.2.1,V.str q.2.2])):=BR fun p y=>by
  obtain⟨c,D,rfl⟩:=Zc.mp y;exact I2.hok.fresh<|YK<|R.above _ (Vh D).1
 have E:zy X.K (lays J<|(l.zip f).map fun(q:Ef×(Str×Str))=>(q.1,[V.str q.2.1,V.str q.2.2])) (f.map An.zb) (l.map V.ref):=by
  have at_:∀(j:Nat) (a:Ef) (p:Str×Str),l[j]?=some a->f[j]?=some p->lays J ((l.zip f).map fun(q:Ef×(Str×Str))=>(q.1,[V.str q.2.1,V.str q.2.2])) a=some (.tup [V.str p.1,V.str p.2]):=fun j a p ha y =>
   Fn (p:=(a,[V.str p.1,V.str p.2])) (by rwa[z1]) (Zc.mpr ⟨(a,p),Zn (i:=j)<|Jy.mpr ⟨ha,y⟩,rfl⟩)
  generalize lays J ((l.zip f).map fun(q:Ef×(Str×Str))=>(q.1,[V.str q.2.1,V.str q.2.2]))=Hs at at_;clear I3 sm z1 a4 R hl hok q hd Y a6 Dp bo
  induction l generalizing f with
  |nil =>
   cases f with
   |nil=>rfl
   |cons p f=>cases ln
  |cons a l ih =>
   cases f with
   |nil=>cases ln
   |cons p f =>
    have h0:=at_ 0 a p rfl rfl;exact⟨.ref a,l.map V.ref,rfl,⟨a,[V.str p.1,V.str p.2],rfl,xu.of h0,_,_,rfl,rfl,_,_,rfl,rfl,rfl⟩,ih f (by simpa using ln) fun j b q' hb bm=>at_ (j+1) b q' hb bm⟩
 generalize lays J ((l.zip f).map fun(q:Ef×(Str×Str))=>(q.1,[V.str q.2.1,V.str q.2.2]))=Hs at I3 sm E;have rv:yr (l.map V.ref) (l.map Et):=by
  clear R hl a4 ln z1 E I3
  induction l with
  |nil=>exact .nil
  |cons a l ih=>exact .cons rfl ih
 obtain⟨ab,rd⟩:=zy.zf I3 _ _ _ E rv;have rd:LG h' (l.map Et) (f.map An.zb) ab:=rd;have b3:Er (f.map An.zb)=true:=IQ hok;have l1:(l.map V.ref).length=(f.map An.zb).length:=by rwa[Q8,Q8]
 have l2:(l.map Et).length=(f.map An.zb).length:=by rwa[Q8,Q8]
 have l3:(f.map An.zb).length<64:=by rwa[Q8]
 have S:∀d∈f.map An.zb,Gi "str" d/\d.canLay0=true/\d.depth<=60:=fun d hd=>by
  obtain⟨p,y,rfl⟩:=Zc.mp hd;obtain⟨h1,h2⟩:=hok p y;refine⟨rfl,?_,by show max 0 (max 0 0)+1<=60;decide⟩;show(El p.1&&(El p.2&&true))=true;rw[h1,h2];rfl
 have bd:∀d∈f.map An.zb,∀e∈f.map An.zb,W8 d e ((TO.list AnJ.wg).lt (GX d)<|GX e):=fun d hd e he=>by
  obtain⟨p,y,rfl⟩:=Zc.mp hd;obtain⟨p',cd,rfl⟩:=Zc.mp he;exact AnJ.pq [p.1,p.2] [p'.1,p'.2]
 generalize l.map Et=g at rd rv l2;generalize l.map V.ref=Z at rv E l1;refine Q7 (Uj ?_ (by rw[l2];lia));have M:(h'.push<|Li "list" g.toArray 0).get? h'.objs.size=some (Li "list" g.toArray 0):=Zp _ rfl;have kp:∀b o,h'.get? b=some o->(h'.push<|Li "list" g.toArray 0).get? b=some o:=fun b o z=>Zd _ z;show Eh _ _ _ _ _ { B with heap:=h'.push<|Li "list" g.toArray 0,toks:=tk };generalize h'.push (Li "list" g.toArray 0)=ap at M kp;refine Q7<|ZZ<|Ym slot_list_sort ⟨_,M,rfl⟩ entry_list_sort ?body<|args_list_sort _;refine Na (s:={ B with heap:=ap,toks:=tk }) (κ:=tuples'<|Value.type "str" !=Value.type "tuple") (lt:=fun i j=>(TO.list AnJ.wg).lt (GX<|(f.map An.zb).getD i .none)<|GX<|(f.map An.zb).getD j .none) M (by lia) (fun h2 s2 k1=>?_) fun p y=>⟨_,rfl,Za ⟨_,rfl,?_⟩⟩
 ·have U:LG s2.heap g (f.map An.zb) ab:=x6 (fun b o z=>k1 b o (Zz<|Zq z)<|kp b o z) _ _ _ b3 rd;refine⟨fun Q' E' z=>SC U (fun d a7=>(S d a7).1) (by lia) z,fun i j G u C c=>?_⟩;obtain⟨b1,r1⟩:=Xr i U (by lia);obtain⟨b2,r2⟩:=Xr j U (by lia);have m:∀k,k<g.length->(f.map An.zb).getD k .none∈f.map An.zb:=fun k hk=>by
   rw[YH,Zj<|by lia];exact YL _
  have d1:=S _<|m i G;have d2:=S _<|m j u;exact OP r1 r2 d1.1 d2.1 d1.2.1 d2.2.1 (by show X.A.units+1+1+_<_;lia) (bd _ (m i G) _<|m j u) c
 ·have pp:p.Perm (Le<|EC g.length)/\Up (TO.list AnJ.wg) (fun i=>GX<|(f.map An.zb).getD i .none) p g.length:=by
   rcases y with⟨n2,rfl⟩|⟨n2,rfl⟩
   ·refine⟨Array.Perm.refl _,fun(i j:Nat) (ax:i<=j) (u:j<g.length)=>?_⟩;have:i=j:=by lia
    subst this;exact(TO.list AnJ.wg).refl _
   ·obtain⟨p',e,a1,a2⟩:=Ti (O:=TO.list AnJ.wg) (key:=fun i=>GX<|(f.map An.zb).getD i .none) (n:=g.length) (by lia);rw[e];exact⟨a1,a2⟩
  obtain⟨pp,up⟩:=pp;have T:p.toList.Perm (EC g.length):=by simpa using Array.perm_iff_toList_perm.mp pp
  have pm:∀i∈p.toList,i<Z.length:=fun i G=>by
   have:=YQ.mp<|T.mem_iff.mp G;lia
  obtain⟨e,a9⟩:=sortedHeap_at (out:=Le<|p.toList.map fun i=>g.getD i EF) M;have nl:=Bj rv p.toList pm;have bz:∀b ob,h'.get? b=some ob->(sortedHeap ap h'.objs.size g<|Le<|p.toList.map fun i=>g.getD i EF).get? b=some ob:=fun b ob q1=>by
   have hb:b<h'.objs.size:=Zq q1;rw[sortedHeap_old (Zz hb)<|Zq<|kp b ob q1];exact kp b ob q1
  have a0:p.toList.length=g.length:=by rw[T.length_eq,Yz]
  have an:Hs h'.objs.size=none:=I3.hok.fresh<|Zf _;have lY:J h'.objs.size=none:=sm.free an;have a5:=zE (o:=.lst<|p.toList.map fun i=>Z.getD i .non) an;refine⟨.ref h'.objs.size,_,I3.laid (o:=.lst<|p.toList.map fun i=>Z.getD i .non) (t':=tk) bz (Zf _) ⟨by rw[Q8,a0,Ys];lia,_,e,nl,a9⟩,rfl,q _ (p.toList.map fun i=>f.getD i ("","")) _ _ ?_ ?_ (sm.trans a5) lY zC ?_⟩
  ·have:=T.map fun i=>f.getD i ("","");rw[show g.length=f.length by rw[l2,Q8],RA]at this;exact this
  ·rw[Jz];intro i j G u ax;rw[ZV,ZV];have:=up i j (YK ax) (by rw[Q8,a0]at u;exact u);unfold kn at this;rw[Q8,Zx]at G u;rw[ZO,ZO,getElem?_pos p i G,getElem?_pos p j u]at this;have pi:p[i]<f.length:=by
    have:=pm p[i] (by rw[←J7 G];exact YL _);rw[l1,Q8]at this;exact this
   have pj:p[j]<f.length:=by
    have:=pm p[j] (by rw[←J7 u];exact YL _);rw[l1,Q8]at this;exact this
   rw[J7 G,J7 u];have this:(TO.list AnJ.wg).le (GX<|(f.map An.zb).getD p[i] .none) (GX<|(f.map An.zb).getD p[j] .none):=by simpa using this
   rw[IA pi,IA pj]at this;exact WP this
  ·have:=zy.same a5 _ _<|NB E p.toList pm;rw[show(p.toList.map fun i=>(f.map An.zb).getD i .none)=(p.toList.map fun i=>f.getD i ("","")).map An.zb by
    rw[ZC];refine ZQ fun i G=>IA ?_;have:=pm i G;rw[l1,Q8]at this;exact this]at this
   exact this
end
section
variable {X:Cx}
def W3 (H₀:Hp)(t:TS):TS:=fun D g H=>t { D with nx:=fun b e=>∃d f c,e d=some (.frz f<|.dK c)/\(∀o u,H₀ d≠some (.frz o u))/\D.nx b (upd e d<|.dK c) } g H
theorem U5 {st:EQ}(h:PS X st t):PS X st (W3 X.H₀ t):=by
 intro c s i H D I q;refine Ci (h c s i H _ I q) fun f o z=>?_;cases f with
 |next =>
  obtain⟨b,l,e,d,n,j,hd,g,q⟩:=z;exact⟨b,_,e.nJ hd g,q⟩
 |ret v=>exact z
 |brk=>exact z
 |cont=>exact z
def aV (K:Cd):Dj->Hp->VK->Prop:=fun d H Q=>∃a T c b,d=[.ref a,.ty T]/\Rd H a (.dK c)/\ER K (.type "dict") (.type T)=some b/\Q (.bl b) H
theorem CV {K:Cd}(e:X.K=K:=by rfl):xj X (.builtin "isinstance") (aV K):=by
 subst e;intro n s y H x v Q I r h;obtain⟨a,T,l,b,rfl,ha,f,q⟩:=h;obtain⟨u,j,rfl,i,c⟩:=vals2 r;cases(show j=Value.type T from c);cases i;obtain⟨w,o,g,d,p,_⟩:=Km I ha;exact Yn Ud I.uq d.dictOf.typeIs f (fun z=>nomatch z) fun t=>⟨.bl b,H,I.tok _,rfl,q⟩
end
end L2
namespace An13
open PySem L2 An
seal L2.PS L2.sX L2.PE L2.PT L2.PW L2.PA L2.PG L2.oX L2.PI L2.oU L2.PC
def top (i:Nat):Stmt:=PySem.Challenge.pw_annals_k13_changed_trees.main.body.getD i<|.Pass ⟨0,0,0,0⟩
def kinds:List String:=["NoneType","bool","int","str","list","tuple","dict"]
def xM:Dl:=[(Ep "leaf",.str "L"),(Ep "tree",.str "T"),(Ep "note",.str "N")]
theorem ML (t:Th):Us xM (Ep t.word:Key)=some (.str t.letter):=by
 cases t
 ·show Us xM (Ep "leaf":Key)=some (.str "L")
  decide +kernel
 ·show Us xM (Ep "tree":Key)=some (.str "T")
  decide +kernel
 ·show Us xM (Ep "note":Key)=some (.str "N")
  decide +kernel
section
variable {K:Cd}{H:Hp}
theorem Fp {ls:Da}{v:V}(h:Dt K H (Th.leaf ls).dat v):∃a b,v=.ref a/\xu K H a [.str "leaf",.ref b]/\xu K H b (ls.map V.str):=by
 obtain⟨a,n,rfl,e,i,j,rfl,c,l,g,rfl,⟨b,o,rfl,hb,f⟩,d⟩:=h;have c:i=.str "leaf":=c;have d:g=[]:=d;subst c d;rw[zy.vf f]at hb;exact⟨a,b,rfl,e,hb⟩
theorem FO {rs:Dg}{v:V}(h:Dt K H (Th.tree rs).dat v):∃a b,v=.ref a/\xu K H a [.str "tree",.ref b]/\Dt K H (.tuple<|rs.map zb) (.ref b):=by
 obtain⟨a,o,rfl,e,i,l,rfl,c,n,g,rfl,⟨b,j,rfl,hb,f⟩,d⟩:=h;have c:i=.str "tree":=c;have d:g=[]:=d;subst c d;exact⟨a,b,rfl,e,b,j,rfl,hb,f⟩
theorem Fv {t:Str}{ps:Da}{w:Str}{v:V}(h:Dt K H (Th.note t ps w).dat v):∃a b,v=.ref a/\xu K H a [.str "note",.str t,.ref b,.str w]/\xu K H b (ps.map V.str):=by
 obtain⟨a,u,rfl,g,l,p,rfl,c,n,q,rfl,d,s,r,rfl,⟨b,x,rfl,hb,i⟩,o,j,rfl,e,f⟩:=h;have c:l=.str "note":=c;have d:n=.str t:=d;have e:o=.str w:=e;have f:j=[]:=f;subst c d e f;rw[zy.vf i]at hb;exact⟨a,b,rfl,g,hb⟩
theorem uP {t:Th}(h:Dt K H t.dat v):∃a r,v=.ref a/\xu K H a (.str t.word::r):=by
 cases t with
 |leaf ls=>obtain⟨a,b,e,c,_⟩:=Fp h;exact⟨a,_,e,c⟩
 |tree rs=>obtain⟨a,b,e,c,_⟩:=FO h;exact⟨a,_,e,c⟩
 |note t ps w=>obtain⟨a,b,e,c,_⟩:=Fv h;exact⟨a,_,e,c⟩
theorem WN (h:Dt K H (zb r) v):∃a,v=.ref a/\xu K H a [.str r.1,.str r.2]:=by
 obtain⟨a,l,rfl,e,g,j,rfl,b,i,f,rfl,c,d⟩:=h;have b:g=.str r.1:=b;have c:i=.str r.2:=c;have d:f=[]:=d;subst b c d;exact⟨a,rfl,e⟩
theorem Kp {rs:Dg}{i:Nat}{x:V}(h:zy K H (rs.map zb) xs)(e:xs[i]?=some x):∃r a,rs[i]?=some r/\x=.ref a/\xu K H a [.str r.1,.str r.2]:=by
 obtain⟨d,b,c⟩:=h.get e;rw[Zk]at b;cases q:rs[i]? with
 |none=>rw[q]at b;cases b
 |some r =>
  rw[q]at b;have b:zb r=d:=Option.some.inj b;subst b;obtain⟨a,f,g⟩:=WN c;exact⟨r,a,rfl,f,g⟩
end
def GD (K:Cd):Sp:=fun b H Q _=>∃v t,b=[v]/\Dt K H (Th.dat t) v/\Q (.str t.letter) H
def XU (K:Cd):Sp:=fun c H Q _=>∃v b,c=[v]/\Dt K H (.tuple<|b.map zb) v/\b.length<=1000/\∀l,H l=none->Q (.ref l) (upd H l<|.lst<|(z9 b).map V.str)
def N7 (K:Cd):Sp:=fun c H Q _=>∃v t,c=[v]/\Dt K H (Th.dat t) v/\t.Good/\∀l b,zz H b->H l=none->b l=some (.lst<|t.parts.map V.str)->Q (.ref l) b
def B5:Sp:=fun b H Q _=>∃x,b=[.str x]/\x.length<=1000/\Q (.str<|counted x) H
def BE (K:Cd):Sp:=fun c H Q _=>∃v t,c=[v]/\Dt K H (Th.dat t) v/\t.Good/\∀b,zz H b->Q (.str t.sp) b
def Ks (K:Cd):Sp:=fun c H Q _=>∃v t,c=[v]/\Dt K H (Th.dat t) v/\t.Good/\∀b,zz H b->Q (.int<|dg t.sp) b
structure Txt (P:Eg)(w:Ek)(K:Cd)(mg:Str->Dc)(t1 t2 t3 t4 t5 t6 t7:Tok)(aL aC aN aT aA b1 b2:Ef):Prop where
 len:mg "len"=none
 all:mg "all"=none
 ord:mg "ord"=none
 isinstance:mg "isinstance"=none
 str:mg "str"=none
 set:mg "set"=none
 sorted:mg "sorted"=none
 tuple:mg "tuple"=none
 list:mg "list"=none
 max:mg "max"=none
 int:mg "int"=none
 bool:mg "bool"=none
 range:mg "range"=none
 dict:mg "dict"=none
 any:mg "any"=none
 enumerate:mg "enumerate"=none
 rn:mg "LONGEST_LINE"=some (.int 20 t1)
 rP:mg "LONGEST_LABEL"=some (.int 8 t2)
 qz:mg "MOST_PARENTS"=some (.int 2 t3)
 PERCENT:mg "PERCENT"=some (.int 37 t4)
 p7:mg "MOST_LABELS"=some (.int 4 t7)
 rO:mg "DIGEST_FACTOR"=some (.int 31 t5)
 rC:mg "DIGEST_BOUND"=some (.int 97 t6)
 LETTERS:mg "LETTERS"=some (.ref aL)
 rH:mg "NoName"=some (.ref aN)
 ni:mg "NoThing"=some (.ref aT)
 pZ:mg "AnnalsError"=some (.ref aA)
 m7:mg "BadPath"=some (.ref b1)
 rQ:mg "BadFiles"=some (.ref b2)
 lK:mg "Shelf"=some (.ref aC)
 rA:E9 K aN U7 "ValueError.__new__"=true
 lg:PySem.W.exmOne K (.ref aN) (.ref aA)=some true
 ekN:PySem.W.uy K aN
 kN4:ER K (.ref aN) (.ref aN)=some true
 nU:E9 K aT U7 "ValueError.__new__"=true
 oF:E9 K b1 U7 "ValueError.__new__"=true
 tB:E9 K b2 U7 "ValueError.__new__"=true
 kd:KD P w K aL xM
 cls:Cls K aC
 n1:vq K aC "thing_by_name"
 n2:vq K aC "name_by_thing"
 n3:vq K aC "next_numbers"
 kit:∀a∈kinds,∀b∈kinds,ER K (.type a) (.type b)=some (a==b||(a=="bool"&&b=="int"))
theorem Rk (d:Ej):UR d∈kinds:=by cases d<;>simp[UR,kinds]
def KC:Ej->Str
 | .str x=>x
 |_=>""
def jF:Ej->Bool
 | .tuple ds=>ds.all UA&&(decide (ds.length<=2)&&decide ((AxS.uniq<|ds.map KC).length=ds.length))
 |_=>false
inductive tU (K:Cd)(vs:Dj)(H:Hp)(Q:VK)(e3:XK):Prop
 |mk (d:Ej) (v:V) (h0:vs=[v]) (h1:Dw K H d v) (h2:small d=true) (h3:∀H',zz H H'->Q (.bl<|jF d) H'):tU K vs H Q e3
theorem Kz {K:Cd}:∀{ds:Df} {xs:Dj},xf K H ds xs->ds.all UA=true->xs=(ds.map KC).map V.str
 |[],_,h,_=>by rw[show _=[] from h];rfl
 | .str x::ds,_,⟨v,r,e,hv,hr⟩,h=>by
  rw[List.all_cons,Zm]at h;rw[e,Kz hr h.2,show v=V.str x from hv];rfl
 | .none::_,_,_,h=>by cases h
 | .bool _::_,_,_,h=>by cases h
 | .int _::_,_,_,h=>by cases h
 | .list _::_,_,_,h=>by cases h
 | .tuple _::_,_,_,h=>by cases h
 | .dict _::_,_,_,h=>by cases h
theorem vB (d:Ej):(UR d=="str"||(UR d=="bool"&&"str"=="int"))=UA d:=by cases d<;>rfl
def UM:Ej->Str
 | .tuple (.str l::_)=>l
 |_=>""
def Bm:Ej->Bool
 | .tuple ds=>ds.all UY&&Xf (ds.map UM)
 |_=>false
inductive pM (K:Cd)(vs:Dj)(H:Hp)(Q:VK)(e3:XK):Prop
 |mk (d:Ej) (v:V) (h0:vs=[v]) (h1:Dw K H d v) (h2:small d=true) (h3:(∀ds,d=.tuple ds->ds.length<=63)) (h4:∀H',zz H H'->Q (.bl<|Bm d) H'):pM K vs H Q e3
theorem N5 {K:Cd}(h:Dw K H d v)(r:UY d=true):∃(t:Ef) (y:V),v=.ref t/\xu K H t [.str<|UM d,y]/\zP (UM d)=true:=by
 match d,r with
 | .tuple [l,n],r =>
  have r:(vP l&&UA n)=true:=r;rw[Zm]at r;obtain⟨t,p,rfl,c,g,o,rfl,b,i,f,rfl,j,e⟩:=h;have e:f=[]:=e;subst e;cases l with
  |str x=>cases(show g=_ from b);exact⟨t,i,rfl,c,r.1⟩
  |none=>cases r.1
  |bool _=>cases r.1
  |int _=>cases r.1
  |list _=>cases r.1
  |tuple _=>cases r.1
  |dict _=>cases r.1
theorem By (h:zP x=true):El x=true:=by
 unfold zP at h;rw[Zm]at h;rw[yU];intro c b;have:=ZU.mp h.2 c b;unfold UI at this;rw[Zm]at this;have:=Zv this.2;lia
def CL (b:Df)(i:Nat):PyData:=(b[i]?).getD .none
def US (word:Str)(b:Df):Bool:=decide (word="leaf")&&(decide (b.length=1)&&UZ (CL b 0))
def UN (word:Str)(b:Df):Bool:=decide (word="tree")&&(decide (b.length=1)&&Bm (CL b 0))
inductive tY (K:Cd)(b:Str->Df->Bool)(vs:Dj)(H:Hp)(Q:VK)(e3:XK):Prop
 |mk (word:Str) (a:Ef) (ds:Df) (xs:Dj) (h0:vs=[.str word,.ref a]) (h1:xu K H a xs) (h2:xf K H ds xs) (h3:yE ds=true) (h4:ds.length<=63) (h5:(∀e∈ds,∀es,e=.tuple es->es.length<=63)) (h6:∀H',zz H H'->Q (.bl<|b word ds) H'):tY K b vs H Q e3
def UU (word:Str)(b:Df):Bool:=decide (word="note")&&(decide (b.length=3)&&(UA (CL b 0)&&(jF (CL b 1)&&UW (CL b 2))))
def k6:Ej->Bool
 | .tuple (.str word::ds)=>US word ds||(UN word ds||UU word ds)
 |_=>false
def narrow (d:Ej):Prop:=∀b,d=.tuple b->b.length<=63/\∀e∈b,∀c,e=.tuple c->c.length<=63
inductive su (K:Cd)(vs:Dj)(H:Hp)(Q:VK)(e3:XK):Prop
 |mk (d:Ej) (v:V) (h0:vs=[v]) (h1:Dw K H d v) (h2:small d=true) (h3:narrow d) (h4:∀H',zz H H'->Q (.bl<|k6 d) H'):su K vs H Q e3
theorem Sm {K:Cd}{H':Hp}{lo:Option Int}{v:V}(hs:xu K H a xs)(h:(v=.ref a/\H'=H/\UT xs lo hi=xs)\/(∃p,H p=none/\v=.ref p/\H'=upd H p (.tup<|UT xs lo hi))) :
  ∃p:Ef,v=.ref p/\zz H H'/\xu K H' p (UT xs lo hi):=by
 rcases h with⟨rfl,rfl,e2⟩|⟨p,np,rfl,rfl⟩
 ·exact⟨a,rfl,zz.refl _,by rw[e2];exact hs⟩
 ·exact⟨p,rfl,zE np,xu.of zC⟩
inductive pH (K:Cd)(aT:Ef)(vs:Dj)(H:Hp)(Q:VK)(E:XK):Prop
 |mk (d:Ej) (v:V) (h0:vs=[v]) (h1:Dw K H d v) (h2:small d=true) (h3:narrow d) (h4:(k6 d=true->∀H',zz H H'->Q v H')) (h5:(k6 d=false->∀H',zz H H'->E (.ref aT) none H')):pH K aT vs H Q E
def U8 (S:Di):Ej->Bool
 | .str x=>decide (x∈S.map En.nm)
 |_=>false
inductive rB (P:Eg)(w:Ek)(K:Cd)(C:Ef)(vs:Dj)(H:Hp)(Q:VK)(e3:XK):Prop
 |mk (a:Ef) (fp:Dd) (S:Di) (e:En) (t:Ef) (h0:vs=[.ref a,.str e.nm,.ref t]) (h1:yg P w K C H a fp S) (h2:nQ e) (h3:Dt K H e.d<|.ref t) (h4:e.d∉S.map (·.d)) (h5:e.nm∉S.map En.nm) (h6:S.length<2000) (h7:∀H',Off fp H H'->yg P w K C H' a fp (S++[e])->Q .non H'):rB P w K C vs H Q e3
inductive sU (P:Eg)(w:Ek)(K:Cd)(C:Ef)(vs:Dj)(H:Hp)(Q:VK)(e3:XK):Prop
 |mk (a:Ef) (fp:Dd) (S:Di) (h0:vs=[.ref a]) (h1:yg P w K C H a fp S) (h2:∀l,H l=none->Q (.ref l) (upd H l<|.lst<|S.map fun e=>V.str e.nm)):sU P w K C vs H Q e3
def av (Dm:Dl):Ej->Bool
 | .str x=>(Us Dm (Ep x:Key)).isSome
 |_=>false
inductive nW (K:Cd)(vs:Dj)(H:Hp)(Q:VK)(e3:XK):Prop
 |mk (d1:Ef) (Dm:Dl) (d:Ej) (v:V) (h0:vs=[.ref d1,v]) (h1:H d1=some (.dK Dm)) (h2:Dw K H d v) (h3:Q (.bl<|av Dm d) H):nW K vs H Q e3
inductive tV (P:Eg)(w:Ek)(K:Cd)(C aN:Ef)(vs:Dj)(H:Hp)(Q:VK)(E:XK):Prop
 |mk (a:Ef) (fp:Dd) (S:Di) (d:Ej) (v:V) (h0:vs=[.ref a,v]) (h1:yg P w K C H a fp S) (h2:Dw K H d v) (h3:(U8 S d=true->Q .non H)) (h4:(U8 S d=false->E (.ref aN) none H)):tV P w K C aN vs H Q E
inductive pO (P:Eg)(w:Ek)(K:Cd)(C:Ef)(vs:Dj)(H:Hp)(Q:VK)(e3:XK):Prop
 |mk (a:Ef) (fp:Dd) (S:Di) (d:Ej) (v:V) (h0:vs=[.ref a,v]) (h1:yg P w K C H a fp S) (h2:Dw K H d v) (h3:Q (.bl<|U8 S d) H):pO P w K C vs H Q e3
inductive wC (P:Eg)(w:Ek)(K:Cd)(C aN:Ef)(vs:Dj)(H:Hp)(Q:VK)(E:XK):Prop
 |mk (a:Ef) (fp:Dd) (S:Di) (d:Ej) (v:V) (h0:vs=[.ref a,v]) (h1:yg P w K C H a fp S) (h2:Dw K H d v) (h3:(∀e∈S,d=.str e.nm->∀t,Dt K H e.d (.ref t)->Q (.ref t) H)) (h4:(U8 S d=false->E (.ref aN) none H)):wC P w K C aN vs H Q E
inductive rE (P:Eg)(w:Ek)(K:Cd)(C aN:Ef)(vs:Dj)(H:Hp)(Q:VK)(E:XK):Prop
 |mk (a f:Ef) (fp:Dd) (S:Di) (x:Str) (ws:Da) (h0:vs=[.ref a,.str x,.ref f]) (h1:yg P w K C H a fp S) (h2:(∀e∈S,BH e)) (h3:xu K H f<|ws.map V.str) (h4:(∀y∈ws,El y=true)) (h5:(yC S x ws=true->Q .non H)) (h6:(yC S x ws=false->E (.ref aN) none H)):rE P w K C aN vs H Q E
inductive rm (P:Eg)(w:Ek)(K:Cd)(C aN:Ef)(vs:Dj)(H:Hp)(Q:VK)(E:XK):Prop
 |mk (a:Ef) (fp:Dd) (S:Di) (t:Th) (v:V) (h0:vs=[.ref a,v]) (h1:yg P w K C H a fp S) (h2:(∀e∈S,BH e)) (h3:Dt K H t.dat v) (h4:(namesOk S t=true->∀H',zz H H'->Q .non H')) (h5:(namesOk S t=false->∀H',zz H H'->E (.ref aN) none H')):rm P w K C aN vs H Q E
def T8 (P:Eg)(w:Ek)(K:Cd)(C:Ef)(H:Hp)(a:Ef)(f:Dd)(S:Di)(t:Th)(c:Hp)(b:Di)(e:En):Prop :=
 Off f H c/\yg P w K C c a f b/\e∈b/\e.d=t.dat/\(b=S\/(b=S++[e]/\e=G5 S t/\t.dat∉S.map (·.d)))
inductive tZ (P:Eg)(w:Ek)(K:Cd)(C aN aT:Ef)(vs:Dj)(H:Hp)(Q:VK)(E:XK):Prop
 |mk (a:Ef) (fp:Dd) (S:Di) (d:Ej) (v:V) (h0:vs=[.ref a,v]) (h1:yg P w K C H a fp S) (h2:(∀e∈S,BH e)) (h3:Dw K H d v) (h4:small d=true) (h5:narrow d) (h6:(k6 d=true->∃t:Th,d=t.dat/\t.Good)) (h7:S.length<2000) (h8:(∀h,(xx S h).getD 0<1000000)) (h9:(k6 d=false->∀H',zz H H'->E (.ref aT) none H')) (h10:(∀t,d=t.dat->k6 d=true->namesOk S t=false->∀H',zz H H'->E (.ref aN) none H')) (h11:(∀t,d=t.dat->k6 d=true->namesOk S t=true->∀H2 S' e,T8 P w K C H a fp S t H2 S' e->Q (.str e.nm) H2)):tZ P w K C aN aT vs H Q E
inductive pL (P:Eg)(w:Ek)(K:Cd)(C:Ef)(vs:Dj)(H:Hp)(Q:VK)(e3:XK):Prop
 |mk (x dx:Ef) (b:V) (S:Di) (h0:vs=[.ref x,b]) (h1:H x=some (.ins C dx [])) (h2:H dx=some (.own x)) (h3:dx≠x) (h4:((b=.non/\S=[])\/∃a fp0,b=.ref a/\yg P w K C H a fp0 S/\x∉fp0/\dx∉fp0/\S.length<2000)) (h5:∀fp H',(∀c∈fp,c=x\/c=dx\/H c=none)->Off [x] H H'->yg P w K C H' x fp S->Q .non H'):pL P w K C vs H Q e3
section
variable {P:Eg}{w:Ek}{K:Cd}{mg:Str->Dc}{base:Ev}{t1 t2 t3 t4 t5 t6 t7:Tok}{aL aC aN aT aA b1 b2:Ef}
theorem Txt.is {T:String}(t:Txt P w K mg t1 t2 t3 t4 t5 t6 t7 aL aC aN aT aA b1 b2)(b:T∈kinds):ER K (.type<|UR d) (.type T)=some (UR d==T||(UR d=="bool"&&T=="int")):=t.kit _ (Rk d) _ b
namespace Aa
abbrev st:Stmt:=top 14
theorem sc:zx ["sign"] ["sign"] (zG st):=Cp
theorem ok (F:wY K "is_sign" "is_sign" st f fd)(T:Txt P w K mg t1 t2 t3 t4 t5 t6 t7 aL aC aN aT aA b1 b2):yx P w K mg base Cn 1 f fd ["sign"] RZ:=by
 refine F.ok sc fun _ _ _ _ H i Q E g h=>?_;obtain⟨c,rfl,k⟩:=h;refine⟨_,(zF<|zM<|xB (Gx Fx Fx zq (pv 0) zq)<|xK<|yL HX (zK F0 (by rfl) T.ord PyProof.Rows.boot_ord<|zA (pv 0) zB) (jE (v:=.int 37) rfl T.PERCENT ⟨_,rfl⟩)<|zW _),?_⟩;refine⟨_,rfl,_,_,rfl,rfl,_,rfl,?_⟩;rw[P3 c 32 " "<|by decide +kernel];refine Uw (fun b=>?_)<|fun b=>?_
 ·refine⟨_,_,rfl,rfl,_,rfl,?_⟩;rw[one_le c 126 "~"<|by decide +kernel];refine Uw (fun d=>?_)<|fun d=>?_
  ·refine⟨_,rfl,_,rfl,rfl,rfl,?_⟩;have e:UD c=!decide (V.int (((⟨#[c]⟩:Str).cps.getD 0 0:Nat):Int)=V.int 37):=by
    unfold UD;rw[b,d];show decide (c≠37)=!decide (V.int (c:Int)=V.int 37);rw[eq_comm];exact B7 ⟨fun h z=>h (by rw[z];rfl),fun h z=>h (by injection z with z;lia)⟩
   rw[e]at k;exact k
  ·have e:UD c=false:=by
    unfold UD;rw[b,Yx.mpr d];rfl
   rw[e]at k;exact k
 ·have e:UD c=false:=by
   unfold UD;rw[Yx.mpr b];rfl
  rw[e]at k;exact⟨_,rfl,k⟩
end Aa
namespace Ab
abbrev st:Stmt:=top 15
theorem sc:zx ["thing"] ["thing"] (zG st):=Cp
theorem ok (F:wY K "is_line" "is_line" st f fd)(T:Txt P w K mg t1 t2 t3 t4 t5 t6 t7 aL aC aN aT aA b1 b2)(q:wZ P w K mg base 1 "is_sign" ["sign"] RZ):yx P w K mg base Cn 2 f fd ["thing"] (Nc K):=by
 refine F.ok sc fun _ _ _ _ H A Q E s h=>?_;obtain⟨d,v,rfl,hd,u,k⟩:=h;refine⟨_,(zF<|zM<|xB (zK (z8 (K:=K)) (by rfl) T.isinstance ZA<|zA (pv 0)<|zA (yS (v:=.ty "str") rfl T.str Yh rfl) zB)<|xB (yL HW (zK xS (by rfl) T.len Z5<|zA (pv 0) zB) (jE (v:=.int 20) rfl T.rn ⟨_,rfl⟩)<|zW _)<|xK<|zK (j6 rfl) (by rfl) T.all Jb<|zA (xN (sc:=zG st) (N:=["thing"]) (N':=["sign"]) (src:=[none]) .a rfl rfl rfl (MV<|pv 0) (fun _ _ _ _=>(zQ (i:=0) (show(["sign"]:Da).Nodup by decide +kernel) rfl (EE rfl))) (fun _ _ _ _=>x9) (fun _ _ _ _=>(zJ q s.m<|zA (pv 0) zB))) zB),?_⟩;refine⟨_,rfl,_,_,d,_,rfl,hd,T.is<|by simp[kinds],_,rfl,?_⟩;cases d with
 |str x =>
  cases(show v=_ from hd);have B:x.length<=1000:=Zv u;refine Uo ⟨_,rfl,x,rfl,zm<|by lia,_,_,rfl,rfl,_,rfl,Uw (fun g=>?_)<|fun g=>?_⟩
  ·have g:x.length<=20:=by have:=Zv g;lia
   refine⟨_,rfl,_,rfl,Bu (fun i l n j=>∃o,n=[o]/\j=H/\l=(((cs x).take i).map UD).map V.bl) ⟨none,rfl,rfl,rfl⟩ (zm<|by lia) ?_ ?_ ?_⟩
   ·rintro i l n j y ⟨o,rfl,rfl,rfl⟩;rw[Q8,Q8,ZB];lia
   ·rintro i c l n j r ⟨o,rfl,rfl,rfl⟩;refine⟨_,rfl,c,rfl,_,rfl,rfl,?_⟩;rw[y7<|Pr r,Zl];rfl
   ·rintro l n j ⟨o,rfl,rfl,rfl⟩ p t;refine⟨p,_,rfl,yu.of zC,?_⟩;rw[zj,ZH,all_map];have e:UW (.str x)=(cs x).all UD:=by
     show(decide (x.length<=20)&&(cs x).all UD)=_;rw[Zg g];rfl
    rw[e]at k;exact k _<|zE t
  ·have e:UW (.str x)=false:=by
    show(decide (x.length<=20)&&(cs x).all UD)=_;rw[Zo<|fun z=>g<|Zg<|by lia];rfl
   rw[e]at k;exact k _<|zz.refl _
 |none=>exact Ur<|k _<|zz.refl _
 |bool b=>exact Ur<|k _<|zz.refl _
 |int i=>exact Ur<|k _<|zz.refl _
 |list ds=>exact Ur<|k _<|zz.refl _
 |tuple ds=>exact Ur<|k _<|zz.refl _
 |dict Dm=>exact Ur<|k _<|zz.refl _
end Ab
namespace Ac
abbrev st:Stmt:=top 16
theorem sc:zx ["thing"] ["thing"] (zG st):=Cp
theorem ok (F:wY K "is_lines" "is_lines" st f fd)(T:Txt P w K mg t1 t2 t3 t4 t5 t6 t7 aL aC aN aT aA b1 b2)(q:wZ P w K mg base 2 "is_line" ["thing"]<|Nc K):yx P w K mg base Cn 3 f fd ["thing"] (FL K):=by
 refine F.ok sc fun _ _ _ _ H D Q E t h=>?_;obtain⟨d,v,rfl,hd,z,k⟩:=h;refine⟨_,(zF<|zM<|xB (zK (z8 (K:=K)) (by rfl) T.isinstance ZA<|zA (pv 0)<|zA (yS (v:=.ty "tuple") rfl T.tuple YG rfl) zB)<|xK<|zK (j6 rfl) (by rfl) T.all Jb<|zA (xN (sc:=zG st) (N:=["thing"]) (N':=["line"]) (src:=[none]) .a rfl rfl rfl (kB<|pv 0) (fun _ _ _ _=>(zQ (i:=0) (show(["line"]:Da).Nodup by decide +kernel) rfl (EE rfl))) (fun _ _ _ _=>x9) (fun _ _ _ _=>(zJ q t.m<|zA (pv 0) zB))) zB),?_⟩;refine⟨_,rfl,_,_,d,_,rfl,hd,T.is<|by simp[kinds],_,rfl,?_⟩;cases d with
 |tuple ds =>
  obtain⟨a,xs,rfl,l,ha⟩:=hd;obtain⟨C,sa⟩:=qJ z;have n:=ha.length;refine Uo ⟨_,rfl,a,rfl,⟨_,l⟩,qX (K:=K) (a:=a) (xs:=xs) (fun i g j e=>∃o,j=[o]/\zz H e/\g=((ds.take i).map UW).map V.bl) ⟨none,rfl,zz.refl _,rfl⟩ (zm<|by lia) ?_ ?_ ?_⟩
  ·rintro i g j e B ⟨o,rfl,c,rfl⟩;refine⟨c.yo l,?_⟩;rw[Q8,Q8,ZB];lia
  ·rintro i x g j e u ⟨o,rfl,c,rfl⟩;obtain⟨d,hd,r⟩:=ha.get u;refine⟨_,rfl,d,x,rfl,r.same c,yR sa hd,fun A s=>⟨_,rfl,c.trans s,?_⟩⟩;rw[y7 hd,Zl];rfl
  ·rintro g j e ⟨o,rfl,c,rfl⟩ p y;refine⟨p,_,rfl,yu.of zC,?_⟩;rw[n,ZH,all_map];exact k _<|c.trans<|zE y
 |none=>exact Ur<|k _<|zz.refl _
 |bool b=>exact Ur<|k _<|zz.refl _
 |int i=>exact Ur<|k _<|zz.refl _
 |list ds=>exact Ur<|k _<|zz.refl _
 |str x=>exact Ur<|k _<|zz.refl _
 |dict Dm=>exact Ur<|k _<|zz.refl _
end Ac
namespace Ad
abbrev st:Stmt:=top 17
theorem sc:zx ["thing"] ["thing"] (zG st):=Cp
theorem ok (F:wY K "is_label" "is_label" st f fd)(T:Txt P w K mg t1 t2 t3 t4 t5 t6 t7 aL aC aN aT aA b1 b2):yx P w K mg base Cn 1 f fd ["thing"] (FK K):=by
 refine F.ok sc fun _ _ _ _ H B Q E A h=>?_;obtain⟨d,v,rfl,hd,u,k⟩:=h;refine⟨_,(zD (yI (yW<|zS (K:=K)<|zK (z8 (K:=K)) (by rfl) T.isinstance ZA<|zA (pv 0)<|zA (yS (v:=.ty "str") rfl T.str Yh rfl) zB) (zF<|zM qL) zT)<|zF<|zM<|xB (Gx HW HW zI (zK xS (by rfl) T.len Z5<|zA (pv 0) zB)<|jE (v:=.int 8) rfl T.rP ⟨_,rfl⟩)<|xK<|zK (j6 rfl) (by rfl) T.all Jb<|zA (xN (sc:=zG st) (N:=["thing"]) (N':=["sign"]) (src:=[none]) .a rfl rfl rfl (MV<|pv 0) (fun _ _ _ _=>(zQ (i:=0) (show(["sign"]:Da).Nodup by decide +kernel) rfl (EE rfl))) (fun _ _ _ _=>x9) (fun _ _ _ _=>(Gx Fx Fx zq (pv 0) zq))) zB),?_⟩
 refine⟨_,rfl,_,_,d,_,rfl,hd,T.is<|by simp[kinds],_,rfl,?_⟩;cases d with
 |str x =>
  cases(show v=_ from hd);have C:x.length<=1000:=Zv u;refine Ur ?_;refine⟨_,rfl,x,rfl,zm<|by lia,_,_,rfl,rfl,_,rfl,Uw (fun g=>?_)<|fun g=>?_⟩
  ·refine⟨_,_,rfl,rfl,_,rfl,Uw (fun j=>?_)<|fun j=>?_⟩
   ·have g:1<=x.length:=by have:=Zv g;lia
    have j:x.length<=8:=by have:=Zv j;lia
    refine⟨_,rfl,_,rfl,Bu (fun i n q l=>∃o,q=[o]/\l=H/\n=(((cs x).take i).map UI).map V.bl) ⟨none,rfl,rfl,rfl⟩ (zm<|by lia) ?_ ?_ ?_⟩
    ·rintro i n q l y ⟨o,rfl,rfl,rfl⟩;rw[Q8,Q8,ZB];lia
    ·rintro i c n q l s ⟨o,rfl,rfl,rfl⟩;rw[y7<|Pr s,Zl];refine⟨_,rfl,_,_,rfl,rfl,_,rfl,?_⟩;rw[P3 c 97 "a"<|by decide +kernel];refine Uw (fun r=>?_)<|fun r=>?_
     ·refine⟨_,_,rfl,rfl,?_⟩;rw[one_le c 122 "z"<|by decide +kernel];have e:UI c=decide (c<=122):=by unfold UI;rw[r];rfl
      rw[e];exact⟨_,rfl,rfl,rfl⟩
     ·have e:UI c=false:=by unfold UI;rw[Yx.mpr r];rfl
      rw[e];exact⟨_,rfl,rfl,rfl⟩
    ·rintro n q l ⟨o,rfl,rfl,rfl⟩ p t;refine⟨p,_,rfl,yu.of zC,?_⟩;rw[zj,ZH,all_map];have e:vP (.str x)=(cs x).all UI:=by
      show(decide (1<=x.length)&&decide (x.length<=8)&&(cs x).all UI)=_;rw[Zg g,Zg j];rfl
     rw[e]at k;exact k _<|zE t
   ·have e:vP (.str x)=false:=by
     show(decide (1<=x.length)&&decide (x.length<=8)&&(cs x).all UI)=_;rw[Zo (p:=x.length<=8)<|fun z=>j<|Zg<|by lia,YR];rfl
    rw[e]at k;exact k _<|zz.refl _
  ·have e:vP (.str x)=false:=by
    show(decide (1<=x.length)&&decide (x.length<=8)&&(cs x).all UI)=_;rw[Zo (p:=1<=x.length)<|fun z=>g<|Zg<|by lia];rfl
   rw[e]at k;exact⟨_,rfl,k _<|zz.refl _⟩
 |none=>exact Uo<|k _<|zz.refl _
 |bool b=>exact Uo<|k _<|zz.refl _
 |int i=>exact Uo<|k _<|zz.refl _
 |list ds=>exact Uo<|k _<|zz.refl _
 |tuple ds=>exact Uo<|k _<|zz.refl _
 |dict Dm=>exact Uo<|k _<|zz.refl _
end Ad
namespace Ae
abbrev st:Stmt:=top 18
theorem sc:zx ["thing"] ["thing"] (zG st):=Cp
theorem ok (F:wY K "is_row" "is_row" st f fd)(T:Txt P w K mg t1 t2 t3 t4 t5 t6 t7 aL aC aN aT aA b1 b2)(r:wZ P w K mg base 1 "is_label" ["thing"]<|FK K):yx P w K mg base Cn 2 f fd ["thing"] (TR K):=by
 refine F.ok sc fun _ _ _ _ H B Q E s h=>?_;obtain⟨d,v,rfl,hd,t,k⟩:=h;refine⟨_,(zF<|zM<|xB (zK (z8 (K:=K)) (by rfl) T.isinstance ZA<|zA (pv 0)<|zA (yS (v:=.ty "tuple") rfl T.tuple YG rfl) zB)<|xB (yL qM (zK z7 (by rfl) T.len Z5<|zA (pv 0) zB) zI<|zW _)<|xB (zJ r s.m<|zA (zY (yw:Cl _<|xg K) (pv 0) zI) zB)<|xK<|zK (z8 (K:=K)) (by rfl) T.isinstance ZA<|zA (zY (yw:Cl _<|xg K) (pv 0) zI)<|zA (yS (v:=.ty "str") rfl T.str Yh rfl) zB),?_⟩;refine⟨_,rfl,_,_,d,_,rfl,hd,T.is<|by simp[kinds],_,rfl,?_⟩;cases d with
 |tuple ds =>
  obtain⟨a,u,rfl,p,ha⟩:=hd;obtain⟨A,sa⟩:=qJ t;have q:=ha.length;refine Uo ⟨_,rfl,a,_,rfl,.inr p,rfl,_,rfl,Uw (fun c=>?_)<|fun c=>?_⟩
  ·have c:u.length=2:=by have:=Zv c;injection this with z;lia
   match ds,ha,q,sa,k with
   |[l,n],⟨x0,r0,e0,d0,x1,r1,e1,d1,j⟩,_,sa,k =>
    have j:r1=[]:=j;subst j e1 e0;refine⟨_,rfl,a,_,_,_,rfl,rfl,p,rfl,l,_,rfl,d0,yR (i:=0) sa rfl,fun y g=>⟨_,rfl,Uw (fun o=>?_)<|fun o=>?_⟩⟩
    ·refine⟨_,rfl,a,_,_,_,rfl,rfl,g.yo p,rfl,_,_,n,_,rfl,d1.same g,T.is<|by simp[kinds],?_⟩;have e:UY (.tuple [l,n])=(UR n=="str"||(UR n=="bool"&&"str"=="int")):=by
      show(vP l&&UA n)=_;rw[o];cases n<;>rfl
     rw[e]at k;exact k _ g
    ·have e:UY (.tuple [l,n])=false:=by
      show(vP l&&UA n)=_;rw[Yx.mpr o];rfl
     rw[e]at k;exact k _ g
   |[],_,hl,_,_=>exact absurd (hl.symm.trans c) (by simp)
   |[_],_,hl,_,_=>exact absurd (hl.symm.trans c) (by simp)
   |_::_::_::_,_,hl,_,_=>exact absurd (hl.symm.trans c) (by simp)
  ·have e:UY (.tuple ds)=false:=by
    match ds,q with
    |[_,_],hl=>exact absurd (Zg (by rw[hl];rfl)) c
    |[],_=>rfl
    |[_],_=>rfl
    |_::_::_::_,_=>rfl
   rw[e]at k;exact k _<|zz.refl _
 |none=>exact Ur<|k _<|zz.refl _
 |bool b=>exact Ur<|k _<|zz.refl _
 |int i=>exact Ur<|k _<|zz.refl _
 |list ds=>exact Ur<|k _<|zz.refl _
 |str x=>exact Ur<|k _<|zz.refl _
 |dict Dm=>exact Ur<|k _<|zz.refl _
end Ae
namespace Af
abbrev st:Stmt:=top 20
theorem sc:zx ["thing"] ["thing"] (zG st):=Cp
theorem ok (F:wY K "is_parents" "is_parents" st f fd)(T:Txt P w K mg t1 t2 t3 t4 t5 t6 t7 aL aC aN aT aA b1 b2):yx P w K mg base Cn 1 f fd ["thing"] (tU K):=by
 refine F.ok sc fun _ _ _ _ H L Q E J h=>?_;obtain⟨d,v,rfl,hd,G,k⟩:=h;refine⟨_,(zD (yI (PW.pt<|uL (yW<|zS (K:=K)<|zK (z8 (K:=K)) (by rfl) T.isinstance ZA<|zA (pv 0)<|zA (yS (v:=.ty "tuple") rfl T.tuple YG rfl) zB)<|jW<|yW<|zS (K:=K)<|zK (j6 rfl) (by rfl) T.all Jb<|zA (xN (sc:=zG st) (N:=["thing"]) (N':=["name"]) (src:=[none]) .a rfl rfl rfl (kB<|pv 0) (fun _ _ _ _=>(zQ (i:=0) (show(["name"]:Da).Nodup by decide +kernel) rfl (EE rfl))) (fun _ _ _ _=>x9) (fun _ _ _ _=>(zK (z8 (K:=K)) (by rfl) T.isinstance ZA<|zA (pv 0)<|zA (yS (v:=.ty "str") rfl T.str Yh rfl) zB))) zB) (zF<|zM qL) zT) (zF<|zM<|xB (yL HW (zK z7 (by rfl) T.len Z5<|zA (pv 0) zB) (jE (v:=.int 2) rfl T.qz ⟨_,rfl⟩)<|zW _)<|xK<|yL qM (zK Oq (by rfl) T.len Z5<|zA (z6 (GJ (K:=K) rfl) (by rfl) T.set Jw (zA (pv 0) zB)) zB) (zK z7 (by rfl) T.len Z5<|zA (pv 0) zB) (zW _))),?_⟩
 refine⟨_,rfl,_,_,d,_,rfl,hd,T.is<|by simp[kinds],_,rfl,?_⟩;cases d with
 |tuple ds =>
  obtain⟨a,xs,rfl,c,ha⟩:=hd;obtain⟨D,sa⟩:=qJ G;have t:=ha.length;refine Ur ⟨_,rfl,a,rfl,⟨_,c⟩,qX (K:=K) (a:=a) (xs:=xs) (fun i j l g=>∃o,l=[o]/\g=H/\j=((ds.take i).map UA).map V.bl) ⟨none,rfl,rfl,rfl⟩ (zm<|by lia) ?_ ?_ ?_⟩
  ·rintro i j l g I ⟨o,rfl,rfl,rfl⟩;refine⟨c,?_⟩;rw[Q8,Q8,ZB];lia
  ·rintro i x j l g A ⟨o,rfl,rfl,rfl⟩;obtain⟨d,hd,y⟩:=ha.get A;refine⟨_,rfl,_,_,d,_,rfl,y,T.is<|by simp[kinds],_,rfl,rfl,?_⟩;rw[vB,y7 hd,Zl];rfl
  ·rintro j l g ⟨o,rfl,rfl,rfl⟩ p C;refine⟨p,_,rfl,yu.of zC,?_⟩;rw[t,ZH,all_map];have u:=zE (o:=.lst<|(ds.map UA).map V.bl) C;cases q:ds.all UA with
   |false =>
    have e:jF (.tuple ds)=false:=by show(ds.all UA&&_)=false;rw[q];rfl
    rw[e]at k;exact⟨_,rfl,Uo<|k _ u⟩
   |true =>
    have ex:=Kz ha q;rw[ex]at c;refine⟨_,rfl,Ur ?_⟩;refine⟨_,rfl,a,_,rfl,.inr<|u.yo c,_,_,rfl,rfl,_,rfl,Uw (fun n=>?_)<|fun n=>?_⟩
    ·refine⟨_,rfl,a,ds.map KC,rfl,.inr<|u.yo c,by rw[Q8];exact D,fun r n2=>?_⟩;have s:=zE (o:=UF P w r<|AxS.uniq<|ds.map KC) n2;refine⟨r,_,rfl,zC,_,rfl,a,_,rfl,.inr<|(u.trans s).yo c,rfl,?_⟩;have B:ds.length<=2:=by have:=Zv n;rw[Q8,Q8]at this;lia
     have e:jF (.tuple ds)=decide (V.int (((AxS.uniq<|ds.map KC).length:Nat):Int)=V.int (((((ds.map KC).map V.str).length:Nat)):Int)):=by
      show(ds.all UA&&(decide (ds.length<=2)&&decide _))=_;rw[q,Zg B,Uk,Uk,Yi,ZF,ZF,Q8,Q8];constructor
      ·intro z;rw[z]
      ·intro z;injection z with z;lia
     rw[e]at k;exact k _<|u.trans s
    ·have e:jF (.tuple ds)=false:=by
      show(ds.all UA&&(decide (ds.length<=2)&&_))=false;rw[Zo (p:=ds.length<=2)<|fun z=>n<|Zg (by rw[Q8,Q8];lia),Jp,YR]
     rw[e]at k;exact k _ u
 |none=>exact Uo<|k _<|zz.refl _
 |bool b=>exact Uo<|k _<|zz.refl _
 |int i=>exact Uo<|k _<|zz.refl _
 |list ds=>exact Uo<|k _<|zz.refl _
 |str x=>exact Uo<|k _<|zz.refl _
 |dict Dm=>exact Uo<|k _<|zz.refl _
end Af
namespace Ag
abbrev st:Stmt:=top 19
theorem sc:zx ["thing","labels"] ["thing"] (zG st):=Cp
theorem ok (F:wY K "is_rows" "is_rows" st f fd)(T:Txt P w K mg t1 t2 t3 t4 t5 t6 t7 aL aC aN aT aA b1 b2)(Y:wZ P w K mg base 2 "is_row" ["thing"]<|TR K):yx P w K mg base Cn 3 f fd ["thing"] (pM K):=by
 refine F.ok sc fun _ _ _ _ H vs Q E U h=>?_;obtain⟨d,v,rfl,hd,sm,B,k⟩:=h;refine⟨_,(zD (yI (PW.pt<|uL (yW<|zS (K:=K)<|zK (z8 (K:=K)) (by rfl) T.isinstance ZA<|zA (pv 0)<|zA (yS (v:=.ty "tuple") rfl T.tuple YG rfl) zB)<|jW<|yW<|zS (K:=K)<|zK (j6 rfl) (by rfl) T.all Jb<|zA (xN (sc:=zG st) (N:=["thing","labels"]) (N':=["row"]) (src:=[none]) .a rfl rfl rfl (kB<|pv 0) (fun _ _ _ _=>(zQ (i:=0) (show(["row"]:Da).Nodup by decide +kernel) rfl (EE rfl))) (fun _ _ _ _=>x9) (fun _ _ _ _=>(zJ Y U.m<|zA (pv 0) zB))) zB) (zF<|zM qL) zT) (zD (vG (sc:=zG st) (N:=["thing","labels"]) (N':=["row"]) (src:=[none]) .a rfl rfl rfl (kB<|pv 0) (fun _ _ _ _=>(zQ (i:=0) (show(["row"]:Da).Nodup by decide +kernel) rfl (EE rfl))) (fun _ _ _ _=>x9) (fun _ _ _ _=>(zY (yw:Cl _<|xg K) (pv 0) zI)) sc.nd rfl (EE rfl) (k:=1)) (zF<|zM<|yL (MU U.units) (pv 1) (zK (jT rfl) (by rfl) T.sorted Jg<|zA (z6 (GJ (K:=K) rfl) (by rfl) T.set Jw (zA (pv 1) zB)) zB) (zW _)))),?_⟩
 refine⟨_,rfl,_,_,d,_,rfl,hd,T.is<|by simp[kinds],_,rfl,?_⟩;cases d with
 |tuple ds =>
  have B:=B ds rfl;obtain⟨a,xs,rfl,D,ha⟩:=hd;obtain⟨sl,sa⟩:=qJ sm;have R:=ha.length;refine Ur ⟨_,rfl,a,rfl,⟨_,D⟩,qX (K:=K) (a:=a) (xs:=xs) (fun i g n c=>∃o,n=[o]/\zz H c/\g=((ds.take i).map UY).map V.bl) ⟨none,rfl,zz.refl _,rfl⟩ (zm<|by lia) ?_ ?_ ?_⟩
  ·rintro i g n c hi ⟨o,rfl,A,rfl⟩;refine⟨A.yo D,?_⟩;rw[Q8,Q8,ZB];lia
  ·rintro i x g n c r ⟨o,rfl,A,rfl⟩;obtain⟨d,hd,I⟩:=ha.get r;refine⟨_,rfl,d,x,rfl,I.same A,yR sa hd,fun H3 e3=>⟨_,rfl,A.trans e3,?_⟩⟩;rw[y7 hd,Zl];rfl
  ·rintro g n c ⟨o,rfl,A,rfl⟩ p np;refine⟨p,_,rfl,yu.of zC,?_⟩;rw[R,ZH,all_map];have u:=A.trans<|zE (o:=.lst<|(ds.map UY).map V.bl) np;cases q:ds.all UY with
   |false =>
    have e:Bm (.tuple ds)=false:=by show(ds.all UY&&_)=false;rw[q];rfl
    rw[e]at k;exact⟨_,rfl,Uo<|k _ u⟩
   |true =>
    refine⟨_,rfl,Ur ?_⟩;show Tn _ _ _ _ (upd c p<|.lst<|(ds.map UY).map V.bl);generalize upd c p (.lst<|(ds.map UY).map V.bl)=G at u;have C:=xf.same u _ _ ha;refine⟨_,rfl,a,rfl,⟨_,u.yo D⟩,qX (K:=K) (a:=a) (xs:=xs) (fun i g n c=>∃o,n=[o]/\c=G/\g=((ds.take i).map UM).map V.str) ⟨none,rfl,rfl,rfl⟩ (zm<|by lia) ?_ ?_ ?_⟩
    ·rintro i g n c hi ⟨o,rfl,rfl,rfl⟩;refine⟨u.yo D,?_⟩;rw[Q8,Q8,ZB];lia
    ·rintro i x g n c r ⟨o,rfl,rfl,rfl⟩;obtain⟨d,hd,I⟩:=C.get r;obtain⟨t,y,rfl,ht,_⟩:=N5 I<|ZU.mp q d<|Zn hd;refine⟨_,rfl,t,_,_,_,rfl,rfl,ht,rfl,_,rfl,rfl,?_⟩;have e1:ds.take (i+1)=ds.take i++[d]:=by rw[Yy,hd];rfl
     rw[e1,Zl,Zl];rfl
    ·rintro g n c ⟨o,rfl,rfl,rfl⟩ l nl;rw[R,ZH];have v1:=zE (o:=.lst<|(ds.map UM).map V.str) nl;have ul:=AxS.tE _ (ds.map UM) rfl;rw[Q8]at ul;refine⟨_,rfl,_,rfl,l,ds.map UM,rfl,.inl<|yu.of zC,by rw[Q8];lia,fun O n2=>?_⟩;have X:=v1.trans<|zE (o:=UF P w O<|AxS.uniq<|ds.map UM) n2;refine⟨O,_,rfl,zC,by lia,fun l3 s n3 S L=>?_⟩;have v3:=X.trans<|zE (o:=.lst<|s.map V.str) n3;have lW:∀x∈ds.map UM,El x=true:=fun x r=>by
      obtain⟨d,hd,rfl⟩:=Zc.mp r;obtain⟨j,hj⟩:=List.getElem?_of_mem hd;obtain⟨z,hz,Z⟩:=C.at hj;obtain⟨_,_,_,_,hl⟩:=N5 Z<|ZU.mp q d hd;exact By hl
     have M:∀x∈s,El x=true:=fun x r=>lW x<|KI<|S.mem_iff.mp r;have ab:=(X.trans<|zE (o:=.lst<|s.map V.str) n3);have J:=(((zE (o:=UF P w O<|AxS.uniq<|ds.map UM) n2).trans<|zE (o:=.lst<|s.map V.str) n3)) _ _<|zC (H:=c) (a:=l) (o:=.lst<|(ds.map UM).map V.str);refine⟨.list<|(ds.map UM).map .str,.list<|s.map .str,⟨l,_,rfl,yu.of J,zy.strs _⟩,⟨l3,_,rfl,yu.of zC,zy.strs _⟩,(kI lW).1,(kI M).1,?_⟩;have ev:Ey (.list<|(ds.map UM).map .str) (.list<|s.map .str)=decide (ds.map UM=s):=jY _ _;rw[ev,Nb S L];have e:Bm (.tuple ds)=Xf (ds.map UM):=by show(ds.all UY&&_)=_;rw[q];rfl
     rw[e]at k;exact k _<|u.trans v3
 |none=>exact Uo<|k _<|zz.refl _
 |bool b=>exact Uo<|k _<|zz.refl _
 |int i=>exact Uo<|k _<|zz.refl _
 |list ds=>exact Uo<|k _<|zz.refl _
 |str x=>exact Uo<|k _<|zz.refl _
 |dict Dm=>exact Uo<|k _<|zz.refl _
end Ag
namespace Ah
abbrev st:Stmt:=top 21
theorem sc:zx ["word","parts"] ["word","parts"] (zG st):=Cp
theorem ok (F:wY K "is_leaf" "is_leaf" st f fd)(T:Txt P w K mg t1 t2 t3 t4 t5 t6 t7 aL aC aN aT aA b1 b2)(n:wZ P w K mg base 3 "is_lines" ["thing"]<|FL K):yx P w K mg base Cn 4 f fd ["word","parts"] (tY K US):=by
 refine F.ok sc fun _ _ _ _ H A Q E s h=>?_;obtain⟨word,a,b,v,rfl,i,ha,sa,o,r,k⟩:=h;refine⟨_,(zF<|zM<|xB (yL qM (pv 0) zq<|zW _)<|xB (yL qM (zK z7 (by rfl) T.len Z5<|zA (pv 1) zB) zI<|zW _)<|xK<|zJ n s.m<|zA (zY (yw:Cl _<|xg K) (pv 1) zI) zB),?_⟩;have l:=ha.length;refine⟨_,rfl,rfl,_,rfl,Uw (fun c=>?_)<|fun c=>?_⟩
 ·have c:V.str word=V.str "leaf":=Zv c;have c:word="leaf":=by injection c
  refine⟨_,rfl,a,_,rfl,.inr i,rfl,_,rfl,Uw (fun g=>?_)<|fun g=>?_⟩
  ·have g:v.length=1:=by have:=Zv g;injection this with z;lia
   have d:b[0]?=some (CL b 0):=by
    have:b[0]?=some (b[0]'(by lia)):=Zj _;unfold CL;rw[this];rfl
   obtain⟨x,t,q⟩:=ha.at d;refine⟨_,rfl,a,_,_,_,rfl,rfl,i,yY (j:=0) t,CL b 0,_,rfl,q,yR sa d,fun y u=>?_⟩;have e:US word b=UZ (CL b 0):=by
    unfold US;rw[Zg c,Zg<|show b.length=1 by lia];rfl
   rw[e]at k;exact k _ u
  ·have e:US word b=false:=by
    unfold US;rw[Zo (p:=b.length=1)<|fun z=>g<|Zg (by rw[l,z];rfl),Jp,YR]
   rw[e]at k;exact k _<|zz.refl _
 ·have e:US word b=false:=by
   unfold US;rw[Zo (p:=word="leaf")<|fun z=>c<|Zg<|by rw[z],Jp]
  rw[e]at k;exact k _<|zz.refl _
end Ah
namespace Ai
abbrev st:Stmt:=top 22
theorem sc:zx ["word","parts"] ["word","parts"] (zG st):=Cp
theorem ok (F:wY K "is_tree" "is_tree" st f fd)(T:Txt P w K mg t1 t2 t3 t4 t5 t6 t7 aL aC aN aT aA b1 b2)(o:wZ P w K mg base 3 "is_rows" ["thing"]<|pM K):yx P w K mg base Cn 4 f fd ["word","parts"] (tY K UN):=by
 refine F.ok sc fun _ _ _ _ H C Q E u h=>?_;obtain⟨word,a,b,A,rfl,l,ha,sa,q,i,k⟩:=h;refine⟨_,(zF<|zM<|xB (yL qM (pv 0) zq<|zW _)<|xB (yL qM (zK z7 (by rfl) T.len Z5<|zA (pv 1) zB) zI<|zW _)<|xK<|zJ o u.m<|zA (zY (yw:Cl _<|xg K) (pv 1) zI) zB),?_⟩;have n:=ha.length;refine⟨_,rfl,rfl,_,rfl,Uw (fun c=>?_)<|fun c=>?_⟩
 ·have c:V.str word=V.str "tree":=Zv c;have c:word="tree":=by injection c
  refine⟨_,rfl,a,_,rfl,.inr l,rfl,_,rfl,Uw (fun g=>?_)<|fun g=>?_⟩
  ·have g:A.length=1:=by have:=Zv g;injection this with z;lia
   have d:b[0]?=some (CL b 0):=by
    have:b[0]?=some (b[0]'(by lia)):=Zj _;unfold CL;rw[this];rfl
   obtain⟨x,v,r⟩:=ha.at d;refine⟨_,rfl,a,_,_,_,rfl,rfl,l,yY (j:=0) v,CL b 0,_,rfl,r,yR sa d,fun s t=>i _ (Zn d) s t,fun B y=>?_⟩;have e:UN word b=Bm (CL b 0):=by
    unfold UN;rw[Zg c,Zg<|show b.length=1 by lia];rfl
   rw[e]at k;exact k _ y
  ·have e:UN word b=false:=by
    unfold UN;rw[Zo (p:=b.length=1)<|fun z=>g<|Zg (by rw[n,z];rfl),Jp,YR]
   rw[e]at k;exact k _<|zz.refl _
 ·have e:UN word b=false:=by
   unfold UN;rw[Zo (p:=word="tree")<|fun z=>c<|Zg<|by rw[z],Jp]
  rw[e]at k;exact k _<|zz.refl _
end Ai
namespace Aj
abbrev st:Stmt:=top 23
theorem sc:zx ["word","parts"] ["word","parts"] (zG st):=Cp
theorem ok (F:wY K "is_note" "is_note" st f fd)(T:Txt P w K mg t1 t2 t3 t4 t5 t6 t7 aL aC aN aT aA b1 b2)(B:wZ P w K mg base 1 "is_parents" ["thing"]<|tU K)(C:wZ P w K mg base 2 "is_line" ["thing"]<|Nc K):yx P w K mg base Cn 3 f fd ["word","parts"] (tY K UU):=by
 refine F.ok sc fun _ _ _ _ H O Q E u h=>?_;obtain⟨word,a,b,J,rfl,c,ha,sa,D,G,k⟩:=h;refine⟨_,(zD (yI (PW.pt<|uL (zX HX (pv 0) zq<|zW _)<|jW<|zX HX (zK z7 (by rfl) T.len Z5<|zA (pv 1) zB) zI<|zW _) (zF<|zM qL) zT)<|zF<|zM<|xB (zK (z8 (K:=K)) (by rfl) T.isinstance ZA<|zA (zY (yw:Cl _<|xg K) (pv 1) zI)<|zA (yS (v:=.ty "str") rfl T.str Yh rfl) zB)<|xB (zJ B u.m<|zA (zY (yw:Cl _<|xg K) (pv 1) zI) zB)<|xK<|zJ C u.m<|zA (zY (yw:Cl _<|xg K) (pv 1) zI) zB),?_⟩
 have A:=ha.length
 by_cases d:word="note"
 ·refine⟨_,rfl,rfl,_,rfl,TF (by rw[d]) ?_⟩
  by_cases g:b.length=3
  ·refine⟨_,rfl,a,_,rfl,.inr c,rfl,_,rfl,TF (by rw[A,g];rfl) ?_⟩;have get:∀i,i<3->b[i]?=some (CL b i):=fun i N=>by
    have:b[i]?=some (b[i]'(by lia)):=Zj _;unfold CL;rw[this];rfl
   obtain⟨R,r,n⟩:=ha.at (get 0<|by decide);obtain⟨S,s,o⟩:=ha.at (get 1<|by decide);obtain⟨U,t,q⟩:=ha.at (get 2<|by decide);have e:UU word b=(UA (CL b 0)&&(jF (CL b 1)&&UW (CL b 2))):=by
    unfold UU;rw[Zg d,Zg g];rfl
   rw[e]at k;refine⟨_,rfl,a,_,_,_,rfl,rfl,c,yY (j:=0) r,_,_,CL b 0,_,rfl,n,T.is<|by simp[kinds],_,rfl,?_⟩;rw[vB];cases x:UA (CL b 0) with
   |false =>
    rw[x]at k;exact Ur<|k _<|zz.refl _
   |true =>
    rw[x]at k;refine Uo ⟨_,rfl,a,_,_,_,rfl,rfl,c,yY (j:=1) s,CL b 1,_,rfl,o,yR sa<|get 1<|by decide,fun L l=>⟨_,rfl,?_⟩⟩;cases y:jF (CL b 1) with
    |false =>
     rw[y]at k;exact Ur<|k _ l
    |true =>
     rw[y]at k;exact Uo ⟨_,rfl,a,_,_,_,rfl,rfl,l.yo c,yY (j:=2) t,CL b 2,_,rfl,q.same l,yR sa<|get 2<|by decide,fun M I=>k _<|l.trans I⟩
  ·have e:UU word b=false:=by
    unfold UU;rw[Zo g,Jp,YR]
   rw[e]at k;refine⟨_,rfl,a,_,rfl,.inr c,rfl,_,rfl,?_⟩;rw[Zo (p:=V.int ((J.length:Nat):Int)=V.int 3)<|fun z=>g (by injection z with z;lia)];exact Uo<|k _<|zz.refl _
 ·have e:UU word b=false:=by
   unfold UU;rw[Zo d,Jp]
  rw[e]at k;refine⟨_,rfl,rfl,_,rfl,?_⟩;rw[Zo (p:=V.str word=V.str "note")<|fun z=>d<|by injection z];exact Uo<|Uo<|k _<|zz.refl _
end Aj
namespace Ak
abbrev st:Stmt:=top 24
theorem sc:zx ["thing","word","parts"] ["thing"] (zG st):=Cp
theorem ok (F:wY K "is_thing" "is_thing" st f fd)(T:Txt P w K mg t1 t2 t3 t4 t5 t6 t7 aL aC aN aT aA b1 b2)(L:wZ P w K mg base 4 "is_leaf" ["word","parts"]<|tY K US)(M:wZ P w K mg base 4 "is_tree" ["word","parts"]<|tY K UN)(N:wZ P w K mg base 3 "is_note" ["word","parts"]<|tY K UU) :
  yx P w K mg base Cn 5 f fd ["thing"] (su K):=by
 refine F.ok sc fun _ _ _ _ H vs Q E y h=>?_;obtain⟨d,v,rfl,hd,U,A,k⟩:=h;refine⟨_,(zD (yI (PW.pt<|uL (yW<|zS (K:=K)<|zK (z8 (K:=K)) (by rfl) T.isinstance ZA<|zA (pv 0)<|zA (yS (v:=.ty "tuple") rfl T.tuple YG rfl) zB)<|uL (zX qM (zK z7 (by rfl) T.len Z5<|zA (pv 0) zB) zI<|zW _)<|jW<|yW<|zS (K:=K)<|zK (z8 (K:=K)) (by rfl) T.isinstance ZA<|zA (zY (yw:Cl _<|xg K) (pv 0) zI)<|zA (yS (v:=.ty "str") rfl T.str Yh rfl) zB) (zF<|zM qL) zT)<|zD (Co (i:=1) sc.nd<|zY (yw:Cl _<|xg K) (pv 0) zI)<|zD (Co (i:=2) sc.nd<|kX (mY:W9 _<|TM K) (pv 0) (v7 zI) Xd)<|zF<|zM<|NU (zJ L y.m<|zA (pv 1)<|zA (pv 2) zB)<|NU (zJ M y.m<|zA (pv 1)<|zA (pv 2) zB)<|xK<|zJ N y.m<|zA (pv 1)<|zA (pv 2) zB),?_⟩
 refine⟨_,rfl,_,_,d,_,rfl,hd,T.is<|by simp[kinds],_,rfl,?_⟩;cases d with
 |tuple ds =>
  obtain⟨n1,n2⟩:=A ds rfl;obtain⟨a,X,rfl,p,ha⟩:=hd;obtain⟨sl,sa⟩:=qJ U;have s:=ha.length;refine Ur ?_
  match ds,ha,s,sa,n1,n2,k with
  |[],ha,s,sa,n1,n2,k =>
   refine⟨_,rfl,a,_,rfl,.inr p,rfl,_,rfl,?_⟩;rw[Zg (show V.int ((X.length:Nat):Int)=V.int 0 by rw[s];rfl)];exact Uo<|Uo<|k _<|zz.refl _
  |d0::ds,⟨x0,r,ex,hd0,hr'⟩,s,sa,n1,n2,k =>
   subst ex;refine⟨_,rfl,a,_,rfl,.inr p,rfl,_,rfl,PR (fun z=>by injection z with z;simp at z;lia) ?_⟩;refine⟨_,rfl,a,_,_,_,rfl,rfl,p,yY (j:=0) rfl,_,_,d0,_,rfl,hd0,T.is<|by simp[kinds],_,rfl,?_⟩;rw[vB];cases d0 with
   |str word =>
    cases(show x0=_ from hd0);refine Ur ?_;refine⟨_,rfl,a,_,_,_,rfl,rfl,p,yY (j:=0) rfl,?_⟩;refine⟨_,rfl,_,rfl,a,_,rfl,p,fun v J R=>?_⟩;obtain⟨q,rfl,B,o⟩:=Sm p R;rw[Ps<|by decide]at o;have o:xu K J q r:=o;have n:yE ds=true:=by
     have sa:(small (.str word)&&yE ds)=true:=sa;rw[Zm]at sa;exact sa.2
    have g:ds.length<=63:=by have:=n1;simp at this;lia
    have l:∀e∈ds,∀D,e=.tuple D->D.length<=63:=fun e O=>n2 e<|Zb _ O;refine⟨_,rfl,_,rfl,word,q,ds,r,rfl,o,xf.same B _ _ hr',n,g,l,fun Y t=>⟨_,rfl,?_⟩⟩;have k:∀C,zz H C->Q (.bl (US word ds||(UN word ds||UU word ds))) C:=k;cases G:US word ds with
    |true =>
     rw[G]at k;exact Uo<|k _<|B.trans t
    |false =>
     rw[G,Ui]at k;have c:=B.trans t;refine Ur ⟨_,rfl,_,rfl,word,q,ds,r,rfl,t.yo o,xf.same c _ _ hr',n,g,l,fun Z u=>⟨_,rfl,?_⟩⟩;cases I:UN word ds with
     |true =>
      rw[I]at k;exact Uo<|k _<|c.trans u
     |false =>
      rw[I,Ui]at k;exact Ur ⟨_,rfl,_,rfl,word,q,ds,r,rfl,(t.trans u).yo o,xf.same (c.trans u) _ _ hr',n,g,l,fun H4 S=>k _<|(c.trans u).trans S⟩
   |none=>exact Uo<|k _<|zz.refl _
   |bool _=>exact Uo<|k _<|zz.refl _
   |int _=>exact Uo<|k _<|zz.refl _
   |list _=>exact Uo<|k _<|zz.refl _
   |tuple _=>exact Uo<|k _<|zz.refl _
   |dict _=>exact Uo<|k _<|zz.refl _
 |none=>exact Uo<|Uo<|k _<|zz.refl _
 |bool b=>exact Uo<|Uo<|k _<|zz.refl _
 |int i=>exact Uo<|Uo<|k _<|zz.refl _
 |list ds=>exact Uo<|Uo<|k _<|zz.refl _
 |str x=>exact Uo<|Uo<|k _<|zz.refl _
 |dict Dm=>exact Uo<|Uo<|k _<|zz.refl _
end Ak
namespace Al
abbrev st:Stmt:=top 25
theorem sc:zx ["thing"] ["thing"] (zG st):=Cp
theorem ok (F:wY K "need_thing" "need_thing" st f fd)(T:Txt P w K mg t1 t2 t3 t4 t5 t6 t7 aL aC aN aT aA b1 b2)(e:wZ P w K mg base 5 "is_thing" ["thing"]<|su K):yx P w K mg base (CH P w) 6 f fd ["thing"] (pH K aT):=by
 refine F.pY sc fun _ _ _ _ H o Q E g h=>?_;obtain⟨d,v,rfl,hd,l,b,i,j⟩:=h;refine⟨_,(zD (yI (yW<|zS (K:=K)<|zJ e g.m<|zA (pv 0) zB) (zF<|qO rfl xV rfl T.ni T.nU<|zA zq zB) zT)<|zF<|zM<|pv 0),?_⟩
 refine⟨_,rfl,d,v,rfl,hd,l,b,fun n c=>⟨_,rfl,?_⟩⟩;cases q:k6 d with
 |true=>exact Ur ⟨_,rfl,i q _ c⟩
 |false=>exact Uo ⟨Uq 1,j q _ c⟩
end Al
namespace Am
abbrev st:Stmt:=top 26
theorem sc:zx ["thing"] ["thing"] (zG st):=Cp
theorem ok (F:wY K "letter_of" "letter_of" st f fd)(T:Txt P w K mg t1 t2 t3 t4 t5 t6 t7 aL aC aN aT aA b1 b2):yx P w K mg base Cn 1 f fd ["thing"] (GD K):=by
 refine F.ok sc fun _ _ _ _ H d Q E c h=>?_;obtain⟨v,t,rfl,hd,k⟩:=h;refine⟨_,(zF<|zM<|SR (jE (v:=.ref aL) rfl T.LETTERS rfl) (zY (yw:Cl _<|xg K) (pv 0) zI)<|fun _ _=>rfl),?_⟩;obtain⟨a,r,rfl,b⟩:=uP hd;exact⟨_,rfl,a,_,_,_,rfl,rfl,b,FX _ _,_,_,Ep t.word,_,rfl,rfl,T.kd,ML t,k⟩
end Am
namespace Ao
abbrev st:Stmt:=top 27
theorem sc:zx ["rows","parts","label","name"] ["rows"] (zG st):=Cp
theorem wF:∀rs:Dg,(z9 rs).length=2*rs.length
 |[]=>rfl
 |r::rs=>by
  show(z9 rs).length+2=2*(rs.length+1);rw[wF rs];lia
theorem ok (F:wY K "tree_parts" "tree_parts" st f fd)(T:Txt P w K mg t1 t2 t3 t4 t5 t6 t7 aL aC aN aT aA b1 b2):yx P w K mg base Cn 1 f fd ["rows"] (XU K):=by
 refine F.ok sc fun _ _ _ _ H C Q E B h=>?_;obtain⟨v,c,rfl,hd,hl,k⟩:=h;obtain⟨a,xs,rfl,q,s⟩:=hd;have o:xs.length=c.length:=by rw[s.length,Q8]
 refine⟨_,(zD (Co (i:=1) sc.nd<|xU zB)<|zD (xA EL rfl (kB<|pv 0) (XA rfl<|yM (zQ (i:=2) sc.nd rfl<|EE rfl)<|yM (zQ (i:=3) sc.nd rfl<|EE rfl) kD)<|zD (yD<|qN Z2 Z3 Z4 yZ (pv 1)<|zA (pv 2) zB)<|zF<|yD<|qN Z2 Z3 Z4 yZ (pv 1)<|zA (pv 3) zB)<|zF<|zM<|pv 1),?_⟩
 refine⟨ZN _,fun l j=>?_⟩;refine⟨_,rfl,a,rfl,⟨_,(zE j).yo q⟩,Ff (K:=K) (a:=a) (xs:=xs) (fun i n g=>∃(x y:Option V),n=[some<|.ref a,some<|.ref l,x,y]/\g=upd H l (.lst<|(z9<|c.take i).map V.str)) ⟨none,none,rfl,rfl⟩ (fun i n g _ ⟨_,_,_,e⟩=>by rw[e];exact(zE j).yo q) ?_ ?_⟩
 ·rintro i x n g t ⟨z,A,rfl,rfl⟩;obtain⟨r,b,p,rfl,hb⟩:=Kp s t;have u:i<c.length:=(Zw.mp p).1;have d:((z9<|c.take i).map V.str).length<=2000:=by
   rw[Q8,wF,ZB];lia
  refine⟨b,_,rfl,(zE j).yo hb,rfl,_,_,rfl,_,_,rfl,rfl,?_⟩;refine⟨_,rfl,.inl ⟨rfl,_,yu.of zC⟩,_,rfl,l,_,_,rfl,rfl,zC,Vn d (by rw[Ys];decide),?_⟩;refine⟨_,rfl,.inl ⟨rfl,_,yu.of zC⟩,_,rfl,l,_,_,rfl,rfl,zC,?_,?_⟩
  ·rw[Zh,YO];exact Vn (Nat.succ_le_succ d) (by rw[Ys];decide)
  ·refine⟨_,_,rfl,?_⟩;rw[Oh,Oh]
   congr 2
   rw[Yy,p];show _=(z9<|c.take i++[r]).map V.str;rw[jU,Zl];show _=(z9<|c.take i).map V.str++[V.str r.1,V.str r.2];rw[Z6];rfl
 ·rintro n g ⟨z,A,rfl,rfl⟩;refine⟨_,rfl,?_⟩;rw[o,ZH];exact k l j
end Ao
theorem aF {c A B:Prop} [Decidable c](hc:c)(h:A):if decide c=true then A else B:=by
 rw[Zg hc];exact Uo h
theorem PR {c A B:Prop} [Decidable c](hc:¬c)(h:B):if decide c=true then A else B:=by
 rw[Zo hc];exact Ur h
theorem Fd {n:Nat}(h:n<=100000):(dig n).length<=10:=JH (by lia) (by decide) (by
 have:(10:Int) ^ 10=10000000000:=by decide
 rw[this];lia)
theorem Br {n:Nat}(h:n<=1900):((n:Int)).natAbs.log2<1920:=by
 rw[Ua];exact Vn (Nat.log2_le_self n) (by lia)
theorem OI {rs:Dg}(g:(Th.tree rs).Good):rs.length<=1000:=by
 have h:=g.1;have e:(z9 rs).length<=1000:=h;rw[Ao.wF]at e;lia
theorem OH {x:Str}{ps:Da}{w:Str}(g:(Th.note x ps w).Good):ps.length<=1000:=by
 have h:=g.1;have e:([x,dig ps.length]++ps++[w]).length<=1000:=h;simp at e;lia
namespace Ap
abbrev st:Stmt:=top 28
theorem sc:zx ["thing","parents"] ["thing"] (zG st):=Cp
theorem ok (F:wY K "parts_of" "parts_of" st f fd)(T:Txt P w K mg t1 t2 t3 t4 t5 t6 t7 aL aC aN aT aA b1 b2)(C:wZ P w K mg base 1 "tree_parts" ["rows"]<|XU K):yx P w K mg base Cn 2 f fd ["thing"] (N7 K):=by
 refine F.ok sc fun _ _ _ _ H L Q E D h=>?_;obtain⟨v,t,rfl,hd,g,k⟩:=h;refine⟨_,(zD (yI (zX qM (zY (yw:Cl _<|xg K) (pv 0) zI) zq<|zW _) (zF<|zM<|z6 vO (by rfl) T.list Yk<|zA (zY (yw:Cl _<|xg K) (pv 0) zI) zB) zT)<|zD (yI (zX qM (zY (yw:Cl _<|xg K) (pv 0) zI) zq<|zW _) (zF<|zM<|zJ C D.m<|zA (zY (yw:Cl _<|xg K) (pv 0) zI) zB) zT)<|zD (Co (i:=1) sc.nd<|zY (yw:Cl _<|xg K) (pv 0) zI)<|zF<|zM<|zV Fw (zV Fw (xU<|zA (zY (yw:Cl _<|xg K) (pv 0) zI)<|zA (z6 jM (by rfl) T.str Yh<|zA (zK z7 (by rfl) T.len Z5<|zA (pv 1) zB) zB) zB)<|z6 vO (by rfl) T.list Yk<|zA (pv 1) zB)<|xU<|zA (zY (yw:Cl _<|xg K) (pv 0) zI) zB),?_⟩
 cases t with
 |leaf ls =>
  obtain⟨a,b,rfl,c,hb⟩:=Fp hd;refine⟨_,rfl,a,_,_,_,rfl,rfl,c,rfl,rfl,_,rfl,aF rfl ?_⟩;exact⟨_,rfl,a,_,_,_,rfl,rfl,c,rfl,b,_,rfl,.inr hb,fun l d=>k l _ (zE d) d zC⟩
 |tree rs =>
  obtain⟨a,b,rfl,c,hb⟩:=FO hd;refine⟨_,rfl,a,_,_,_,rfl,rfl,c,rfl,rfl,_,rfl,PR (by decide +kernel) ?_⟩;refine⟨_,rfl,a,_,_,_,rfl,rfl,c,rfl,rfl,_,rfl,aF rfl ?_⟩;exact⟨_,rfl,a,_,_,_,rfl,rfl,c,rfl,_,rs,rfl,hb,OI g,fun l d=>k l _ (zE d) d zC⟩
 |note x ps y =>
  obtain⟨a,b,rfl,c,hb⟩:=Fv hd;have J:=OH g;refine⟨_,rfl,a,_,_,_,rfl,rfl,c,rfl,rfl,_,rfl,PR (by decide +kernel) ?_⟩;refine⟨_,rfl,a,_,_,_,rfl,rfl,c,rfl,rfl,_,rfl,PR (by decide +kernel) ?_⟩;refine⟨_,rfl,a,_,_,_,rfl,rfl,c,rfl,?_⟩;refine⟨_,rfl,a,_,_,_,rfl,rfl,c,rfl,_,rfl,b,_,rfl,.inr hb,_,rfl,?_,Uq 2,fun n n1=>?_⟩
  ·rw[Q8];exact Br (by lia)
  have z:=zE (o:=.lst [V.str x,V.str<|EU<|LY (((ps.map V.str).length:Nat):Int)]) n1;refine⟨_,rfl,b,_,rfl,.inr<|z.yo hb,fun p n2=>?_⟩;have I:=z.trans<|zE (o:=.lst<|ps.map V.str) n2;have e:n≠p:=zR zC n2;refine⟨n,p,_,_,rfl,rfl,(by rw[zH e];exact zC),zC,(by rw[Q8];exact zm (by simp only[Zr,YS];lia)),fun q n3=>?_⟩;have A:=I.trans<|zE (o:=.lst<|[V.str x,V.str<|EU<|LY (((ps.map V.str).length:Nat):Int)]++ps.map V.str) n3;refine⟨_,rfl,a,_,_,_,rfl,rfl,A.yo c,rfl,Uq 1,fun r s=>?_⟩;have B:=A.trans<|zE (o:=.lst [V.str y]) s;have j:q≠r:=zR zC s;refine⟨q,r,_,_,rfl,rfl,(by rw[zH j];exact zC),zC,?_,fun G u=>?_⟩
  ·rw[Zh,Q8];exact zm (by simp only[Zr,YS];lia)
  ·refine k G _ (B.trans<|zE u) (B.free u) ?_;rw[zC]
   congr 2
   show _=([x,dig ps.length]++ps++[y]).map V.str;rw[Zl,Zl];show([V.str x,V.str<|EU<|LY (((ps.map V.str).length:Nat):Int)]++ps.map V.str)++[V.str y]=_;rw[Q8];rfl
end Ap
namespace Aq
abbrev st:Stmt:=top 29
theorem sc:zx ["part"] ["part"] (zG st):=Cp
theorem ok (F:wY K "counted" "counted" st f fd)(T:Txt P w K mg t1 t2 t3 t4 t5 t6 t7 aL aC aN aT aA b1 b2):yx P w K mg base Cn 1 f fd ["part"] B5:=by
 refine F.ok sc fun _ _ _ _ H g Q E e h=>?_;obtain⟨x,rfl,hl,k⟩:=h;refine⟨_,(zF<|zM<|zV zL (zV zL (z6 jM (by rfl) T.str Yh<|zA (zK xS (by rfl) T.len Z5<|zA (pv 0) zB) zB) zq)<|pv 0),?_⟩;have d:=Fd (n:=x.length) (by lia);have c:(""++":":String).length=1:=by decide
 have b:(":":Str).length=1:=by decide +kernel
 refine⟨_,rfl,x,rfl,zm<|by lia,_,rfl,Br<|by lia,_,_,rfl,rfl,zm (by rw[b];exact Z0 (Nat.add_le_add_right d 1)<|by decide),_,rfl,_,_,rfl,rfl,zm ?_,k⟩;show(dig x.length++":").length+x.length<=_;rw[yh,b];lia
end Aq
namespace Ar
abbrev st:Stmt:=top 30
theorem sc:zx ["thing"] ["thing"] (zG st):=Cp
theorem Hu {x:Str}(h:x.length<=1000):(counted x).length<=1011:=by
 have d:=Fd (n:=x.length) (by lia);have b:(":":Str).length=1:=by decide +kernel
 show(dig x.length++":"++x).length<=_;rw[yh,yh,b];lia
theorem ok (F:wY K "spelled" "spelled" st f fd)(T:Txt P w K mg t1 t2 t3 t4 t5 t6 t7 aL aC aN aT aA b1 b2)(A:wZ P w K mg base 1 "letter_of" ["thing"]<|GD K)(s:wZ P w K mg base 2 "parts_of" ["thing"]<|N7 K)
  (u:wZ P w K mg base 1 "counted" ["part"] B5):yx P w K mg base Cn 3 f fd ["thing"] (BE K):=by
 refine F.ok sc fun _ _ _ _ H Y Q E n h=>?_;obtain⟨v,t,rfl,hd,g,k⟩:=h;refine⟨_,(zF<|zM<|zV zL (zJ A n.m<|zA (pv 0) zB)<|qN Z8 VL VM Ft zq<|zA (xN (sc:=zG st) (N:=["thing"]) (N':=["part"]) (src:=[none]) .a rfl rfl rfl (xC<|zJ s n.m<|zA (pv 0) zB) (fun _ _ _ _=>(zQ (i:=0) (show(["part"]:Da).Nodup by decide +kernel) rfl (EE rfl))) (fun _ _ _ _=>x9) (fun _ _ _ _=>(zJ u n.m<|zA (pv 0) zB))) zB),?_⟩;refine⟨_,rfl,v,t,rfl,hd,rfl,_,rfl,v,t,rfl,hd,g,fun l r M X hl=>?_⟩;have R:(t.parts.map V.str).length<=1000:=by rw[Q8];exact g.1
 refine⟨l,rfl,⟨_,yu.of hl⟩,qW (K:=K) (a:=l) (xs:=t.parts.map V.str) (fun i d j c=>∃x,j=[x]/\c=r/\d=((t.parts.take i).map counted).map V.str) ⟨none,rfl,rfl,rfl⟩ (zm<|by lia) (fun i d j c b ⟨x,_,e,D⟩=>⟨by rw[e];exact yu.of hl,?_⟩) ?_ ?_⟩
 ·rw[D,Q8,Q8,ZB];exact Nat.min_le_left _ _
 ·rintro i x d j c b ⟨O,rfl,rfl,rfl⟩;rw[Zk]at b;cases q:t.parts[i]? with
  |none=>rw[q]at b;cases b
  |some p =>
   rw[q]at b;have b:V.str p=x:=Option.some.inj b;subst b;have G:=g.2 p<|Zn q;refine⟨_,rfl,p,rfl,G.len,_,rfl,rfl,?_⟩;rw[Yy,q,Zl,Zl];rfl
 ·rintro d j c ⟨O,rfl,rfl,rfl⟩ p L;have e:(t.parts.take (t.parts.map V.str).length)=t.parts:=by rw[Q8,ZH]
  rw[e];have b1:∀y∈t.parts.map counted,y.length<=1011:=fun y I=>by
   obtain⟨z,J,rfl⟩:=Zc.mp I;exact Hu (g.2 z J).len
  have b2:=Ng _ b1;have B:(t.parts.map counted).length<=1000:=by rw[Q8];exact g.1
  have S:(t.parts.map counted).length*1011<=1011000:=Nat.mul_le_mul_right 1011 B;have o:("":Str).length=0:=by decide +kernel
  have U:t.letter.length=1:=by rw[zj,kW];rfl
  refine⟨_,p,t.parts.map counted,rfl,rfl,.inl<|yu.of zC,by rw[o];lia,_,_,rfl,rfl,?_,?_⟩
  ·have:=StrLaws.join_length_le ""<|t.parts.map counted;have C:Lp "" (t.parts.map counted)=MB "" (t.parts.map counted):=Lf _ _;rw[C];rw[o]at this;exact zm (by lia)
  ·rw[bb];exact k _<|M.trans<|zE L
end Ar
namespace As
abbrev st:Stmt:=top 31
theorem sc:zx ["thing","number","sign"] ["thing"] (zG st):=Cp
theorem ok (F:wY K "digest" "digest" st f fd)(T:Txt P w K mg t1 t2 t3 t4 t5 t6 t7 aL aC aN aT aA b1 b2)(l:wZ P w K mg base 3 "spelled" ["thing"]<|BE K):yx P w K mg base Cn 4 f fd ["thing"] (Ks K):=by
 refine F.ok sc fun _ _ _ _ H q Q E o h=>?_;obtain⟨v,t,rfl,hd,g,k⟩:=h;refine⟨_,(zD (Co (i:=1) sc.nd zI)<|zD (xA EL rfl (MV<|zJ l o.m<|zA (pv 0) zB) (zQ (i:=2) sc.nd rfl<|EE rfl)<|zF<|Co (i:=1) sc.nd<|zV qP (zV xQ (zV XL (jE (v:=.int 31) rfl T.rO ⟨_,rfl⟩)<|pv 1)<|zK F0 (by rfl) T.ord PyProof.Rows.boot_ord<|zA (pv 2) zB)<|jE (v:=.int 97) rfl T.rC ⟨_,rfl⟩)<|zF<|zM<|pv 1),?_⟩
 refine⟨_,rfl,v,t,rfl,hd,g,fun j p=>⟨_,rfl,Sq (fun i e b=>∃x,e=[some v,some<|.int<|((cs t.sp).take i).foldl ao 0,x]/\b=j) ⟨none,rfl,rfl⟩ ?_ ?_⟩⟩
 ·rintro i c e b n ⟨x,rfl,rfl⟩;refine⟨_,rfl,_,_,rfl,rfl,.inl ⟨by decide,by decide⟩,_,rfl,_,rfl,rfl,_,_,rfl,rfl,_,_,rfl,rfl,(by show(0:Int)<97;decide),some<|.str ⟨#[c]⟩,?_,rfl⟩;have d:(cs t.sp)[i]?=some c:=by rw[←n];simp
  rw[Yy,d,Y2];rfl
 ·rintro e b ⟨x,rfl,rfl⟩;refine⟨_,rfl,?_⟩;rw[zj,ZH];exact k _ p
end As
namespace Au
abbrev st:Stmt:=inClass (top 57) 7
theorem sc:zx ["self"] ["self"] (zG st):=Cp
theorem ok (F:wY K "names" "Shelf.names" st f fd)(T:Txt P w K mg t1 t2 t3 t4 t5 t6 t7 aL aC aN aT aA b1 b2):yx P w K mg base Cn 1 f fd ["self"] (sU P w K aC):=by
 refine F.ok sc fun _ _ _ _ H B Q E A h=>?_;obtain⟨a,r,S,rfl,sh,k⟩:=h;refine⟨_,(zF<|zM<|z6 (KS rfl) (by rfl) T.list Yk<|zA (kA (pv 0) rfl) zB),?_⟩;obtain⟨g,d,c,p,q,b,nx,rfl,nd,i,s,t,j,u,v,x,y,z⟩:=sh;refine⟨_,rfl,a,aC,d,_,_,rfl,i,T.cls,T.n1,rfl,c,_,rfl,j,fun l o=>?_⟩;have e:(((S.zip b).map fun e=>((Ep e.1.nm:Key),V.ref e.2)).map fun n=>kV n.1)=S.map fun e=>V.str e.nm:=by
  rw[ZC];have:(S.zip b).map (·.1)=S:=VS (by lia)
  conv=>rhs;rw[←this]
  rw[ZC];rfl
 rw[e];exact k l o
end Au
namespace Av
abbrev st:Stmt:=inClass (top 57) 1
theorem sc:zx ["self","name","thing","halves","head"] ["self","name","thing"] (zG st):=Cp
theorem ok (F:wY K "take" "Shelf.take" st f fd)(T:Txt P w K mg t1 t2 t3 t4 t5 t6 t7 aL aC aN aT aA b1 b2):yx P w K mg base Cn 1 f fd ["self","name","thing"] (rB P w K aC):=by
 refine F.ok sc fun _ _ _ _ H vs Q E hr h=>?_;obtain⟨a,fp,S,e,t,rfl,sh,u,ht,hd,hn,hl,k⟩:=h;have hu:=Hl hr;refine⟨_,(zD (Co (i:=3) sc.nd<|qN Z8 PySem.F.slot_str_partition PySem.F.type_str_partition vN (pv 1)<|zA zq zB)<|zD (Co (i:=4) sc.nd<|zY (yw:Cl _<|xg K) (pv 3) zI)<|zD (qK hu (kA (pv 0) rfl) (pv 4) (zK (Os rfl) (by rfl) T.max PyProof.Rows.boot_max<|zA (IW hu (kA (pv 0) rfl) (pv 4) zI ⟨rfl,rfl,rfl,rfl⟩)<|zA (zV xQ (z6 Op (by rfl) T.int Jx<|zA (zY (yw:Cl _<|xg K) (pv 3) zI) zB) zI) zB) rfl)<|zD (qK hu (kA (pv 0) rfl) (pv 1) (pv 2) rfl)<|zF<|S1 hr.units (kA (pv 0) rfl) (pv 2) (pv 1) rfl),?_⟩
 obtain⟨g,r,c,l,b,j,nx,rfl,nd,h1,h2,h3,h4,h5,h6,h7,h8,h9⟩:=id sh;have wR:=sh.wR.tup;have nl:(Ux e.n).length<=2000:=by
  have U:((e.n:Int)).natAbs.log2<1920:=by
   have:=u.num;rw[Ua]
   rcases JR e.n with z|z
   ·rw[z];decide
   ·have:e.n.log2<20:=(Nat.log2_lt<|by lia).mpr (by lia);lia
  have:=VQ U;have G:(Ux e.n).length<=1921:=this;lia
 have a3:e.nm.length<=100000:=by
  have:=u.hl;have e1:dot.length=1:=rfl;unfold En.nm;rw[yh,yh,e1];lia
 simp only[ZS,Zi,Yq,J3,not_or,Yw,and_true,not_false_eq_true]at nd;obtain⟨⟨a2,X,Y,Z⟩,⟨ab,al,an⟩,⟨y,A⟩,B⟩:=nd;refine⟨_,rfl,rfl,e.h,Ux e.n,46,rfl,by rw[Pw];rfl,u.free,a3,fun p np=>?_⟩;have D:=zE (o:=.tup [V.str e.h,V.str ⟨#[46]⟩,V.str<|Ux e.n]) np;have hp:xu K (upd H p<|.tup [V.str e.h,V.str ⟨#[46]⟩,V.str<|Ux e.n]) p [V.str e.h,V.str ⟨#[46]⟩,V.str<|Ux e.n]:=xu.of zC;show Tn _ _ _ _ (upd H p<|.tup [V.str e.h,V.str ⟨#[46]⟩,V.str<|Ux e.n]);generalize upd H p (.tup [V.str e.h,V.str ⟨#[46]⟩,V.str<|Ux e.n])=s at D hp;have g1:=D _ _ h1;have g4:=D _ _ h4;have g6:=D _ _ h6;refine⟨_,rfl,p,_,_,_,rfl,rfl,hp,rfl,?_⟩;refine⟨_,rfl,a,aC,r,_,_,rfl,g1,T.cls,T.n3,rfl,b,rfl,.inl ⟨_,.inl g6⟩,_,rfl,_,wB.k (k:=(Ep e.h:Key)) g6,?_⟩;obtain⟨m,em,en⟩:∃m:Nat,(Us nx (Ep e.h:Key)).getD (V.int 0)=V.int (m:Int)/\m=(xx S e.h).getD 0:=by
  rw[h8];cases xx S e.h with
  |none=>exact⟨0,rfl,rfl⟩
  |some m=>exact⟨m,rfl,rfl⟩
 rw[em];refine⟨_,rfl,p,_,_,_,rfl,rfl,hp,rfl,e.n,rfl,by have:=u.num;lia,_,_,rfl,rfl,_,_,rfl,?_⟩;have I:(if(e.n:Int)+1>(m:Int) then(e.n:Int)+1 else(m:Int))=((max m (e.n+1):Nat):Int):=by
  split<;>lia
 rw[I];have a4:nx.length<2000:=by lia
 refine⟨_,rfl,a,aC,r,_,_,rfl,g1,T.cls,T.n3,rfl,_,rfl,b,_,rfl,uw.k (k:=(Ep e.h:Key)) g6<|yN<|by lia,?_⟩;have o1:Off [a,r,c,l,b] H (upd s b<|.dK<|yd nx (Ep e.h:Key)<|V.int ((max m (e.n+1):Nat):Int)):=(Off.of D).upd (by simp);have J:upd s b (.dK<|yd nx (Ep e.h:Key)<|V.int ((max m (e.n+1):Nat):Int)) a=some (.ins aC r<|PF c l b):=by rwa[zH Z]
 have M:upd s b (.dK<|yd nx (Ep e.h:Key)<|V.int ((max m (e.n+1):Nat):Int)) c=some (.dK<|(S.zip j).map fun e=>((Ep e.1.nm:Key),V.ref e.2)):=by rwa[zH A]
 have ax:upd s b (.dK<|yd nx (Ep e.h:Key)<|V.int ((max m (e.n+1):Nat):Int)) b=some (.dK<|yd nx (Ep e.h:Key)<|V.int ((max m (e.n+1):Nat):Int)):=zC;have ap:upd s b (.dK<|yd nx (Ep e.h:Key)<|V.int ((max m (e.n+1):Nat):Int)) r=some (.own a):=by rw[zH an];exact D _ _ h2
 obtain⟨a5,e5,_⟩:=h5.2.2.2;have as:upd s b (.dK<|yd nx (Ep e.h:Key)<|V.int ((max m (e.n+1):Nat):Int)) l=H l:=by rw[zH B,e5];exact D _ _ e5
 show Tn _ _ _ _ (upd s b<|.dK<|yd nx (Ep e.h:Key)<|V.int ((max m (e.n+1):Nat):Int));generalize upd s b (.dK<|yd nx (Ep e.h:Key)<|V.int ((max m (e.n+1):Nat):Int))=v at o1 J M ax ap as;have zl:((S.zip j).map fun e=>((Ep e.1.nm:Key),V.ref e.2)).length<=2000:=by rw[Q8,List.length_zip];lia
 refine⟨_,rfl,_,rfl,a,aC,r,_,_,rfl,J,T.cls,T.n1,rfl,_,rfl,c,_,rfl,uw.k (k:=(Ep e.nm:Key)) M<|yN<|by lia,?_⟩;have ek:((S.zip j).map fun e=>((Ep e.1.nm:Key),V.ref e.2)).map (·.1)=S.map fun e=>(Ep e.nm:Key):=by
  rw[ZC];have:(S.zip j).map (·.1)=S:=VS (by lia)
  conv=>rhs;rw[←this]
  rw[ZC];rfl
 have hk:(Ep e.nm:Key)∉((S.zip j).map fun e=>((Ep e.1.nm:Key),V.ref e.2)).map (·.1):=fun z=>by
  rw[ek]at z;obtain⟨G,ay,q⟩:=Zc.mp z;exact hn<|Zc.mpr ⟨G,ay,Sum.inr.inj q⟩
 rw[kC hk];have o2:Off [a,r,c,l,b] H (upd v c<|.dK<|(S.zip j).map (fun e=>((Ep e.1.nm:Key),V.ref e.2))++[(Ep e.nm,V.ref t)]):=o1.upd (by simp);have x:upd v c (.dK<|(S.zip j).map (fun e=>((Ep e.1.nm:Key),V.ref e.2))++[(Ep e.nm,V.ref t)]) a=some (.ins aC r<|PF c l b):=by rwa[zH X]
 have L:upd v c (.dK<|(S.zip j).map (fun e=>((Ep e.1.nm:Key),V.ref e.2))++[(Ep e.nm,V.ref t)]) r=some (.own a):=by rwa[zH ab]
 have N:upd v c (.dK<|(S.zip j).map (fun e=>((Ep e.1.nm:Key),V.ref e.2))++[(Ep e.nm,V.ref t)]) c=some (.dK<|(S.zip j).map (fun e=>((Ep e.1.nm:Key),V.ref e.2))++[(Ep e.nm,V.ref t)]):=zC;have O:upd v c (.dK<|(S.zip j).map (fun e=>((Ep e.1.nm:Key),V.ref e.2))++[(Ep e.nm,V.ref t)]) l=H l:=by rwa[zH<|EB y]
 have R:upd v c (.dK<|(S.zip j).map (fun e=>((Ep e.1.nm:Key),V.ref e.2))++[(Ep e.nm,V.ref t)]) b=some (.dK<|yd nx (Ep e.h:Key)<|V.int ((max m (e.n+1):Nat):Int)):=by rwa[zH<|EB A]
 generalize upd v c (.dK<|(S.zip j).map (fun e=>((Ep e.1.nm:Key),V.ref e.2))++[(Ep e.nm,V.ref t)])=H3 at o2 x L N O R;have T3:ph P w K H3 l (S.map fun e=>(e.d,V.str e.nm)):=ph.off wR o2 O h5;have a1:Dt K H3 e.d (.ref t):=Dt.off wR o2 _ _ u.key.1 ht;refine⟨_,rfl,_,rfl,a,aC,r,_,_,rfl,x,T.cls,T.n2,rfl,_,rfl,t,l,_,e.d,rfl,rfl,T3,by rw[Q8];lia,u.key,a1,fun o T4 ⟨es,eo⟩=>?_⟩;have a0:e.d∉(S.map fun e=>(e.d,V.str e.nm)).map (·.1):=by rwa[ZC]
 rw[kC a0]at T4;have o3:Off [a,r,c,l,b] H (upd H3 l o):=o2.upd (by simp);refine k _ o3 ⟨g.snoc u hd hn<|by lia,r,c,l,b,j++[t],_,rfl,by simp[a2,X,Y,Z,ab,al,an,y,A,B],by rw[zH Y];exact x,by rw[zH al];exact L,by rw[Zh,Zh,h3];rfl,?_,?_,by rw[zH<|EB B];exact R,?_,?_,?_⟩
 ·rw[zH y,N,List.zip_append h3.symm,Zl];rfl
 ·rw[Zl];exact T4
 ·have:=xL nx (Ep e.h:Key)<|V.int ((max m (e.n+1):Nat):Int);rw[Zh,YO];lia
 ·intro h;rw[R6,X3]
  by_cases q:e.h=h
  ·rw[Zs<|by rw[q],Zs q,←q,←en];rfl
  ·rw[Zt<|fun z=>q (Sum.inr.inj z).symm,Zt q];exact h8 h
 ·intro i G t' C q2
  rcases Vx i S.length with z|z|z
  ·rw[Yj z]at C;rw[Yj<|by lia]at q2;exact Dt.off wR o3 _ _ (g.ent G<|Zn C).key.1<|h9 i G t' C q2
  ·subst z;rw[Yo<|Zf _,Nat.sub_self]at C;rw[Yo<|by lia,h3,Nat.sub_self]at q2;cases C;cases q2;exact Dt.off wR o3 _ _ u.key.1 ht
  ·rw[Yf (by rw[Zh,YO];lia)]at C;cases C
end Av
theorem NM {S:Di}{b:Dd}(h:b.length=S.length):((S.zip b).map fun e=>((Ep e.1.nm:Key),V.ref e.2)).map (·.1)=S.map fun e=>(Ep e.nm:Key):=by
 rw[ZC];have:(S.zip b).map (·.1)=S:=VS (by lia)
 conv=>rhs;rw[←this]
 rw[ZC];rfl
theorem Sz {S:Di}{d:Dd}(h:d.length=S.length)(x:Str):(Us ((S.zip d).map fun e=>((Ep e.1.nm:Key),V.ref e.2)) (Ep x:Key)).isSome=decide (x∈S.map En.nm):=by
 have f:=NM h;rw[Yi,ZF];constructor
 ·intro z;obtain⟨v,c⟩:=Jf.mp z;have:=uZ c;rw[f]at this;obtain⟨e,b,q⟩:=Zc.mp this;exact Zc.mpr ⟨e,b,Sum.inr.inj q⟩
 ·intro z;obtain⟨e,b,q⟩:=Zc.mp z;cases c:Us ((S.zip d).map fun e=>((Ep e.1.nm:Key),V.ref e.2)) (Ep x:Key) with
  |some v=>rfl
  |none =>
   refine absurd ?_<|GT c;rw[f];exact Zc.mpr ⟨e,b,by rw[q]⟩
theorem Wa {c:Dd}(g:ux S)(h:c.length=S.length){i:Nat}{e:En}{t:Ef}(f:S[i]?=some e)(j:c[i]?=some t):Us ((S.zip c).map fun e=>((Ep e.1.nm:Key),V.ref e.2)) (Ep e.nm:Key)=some (V.ref t):=by
 have d:(((S.zip c).map fun e=>((Ep e.1.nm:Key),V.ref e.2)).map (·.1)).Nodup:=by
  rw[NM h];have:=List.Pairwise.map (S:=fun a b:Key=>a≠b) (fun x=>(Ep x:Key)) (fun a b h z=>h<|Sum.inr.inj z) g.nn;rw[ZC]at this;exact this
 have hm:((Ep e.nm:Key),V.ref t)∈(S.zip c).map fun e=>((Ep e.1.nm:Key),V.ref e.2) :=
  Zc.mpr ⟨(e,t),Zn (i:=i) (by rw[Jy];exact⟨f,j⟩),rfl⟩
 exact vM d hm
namespace Aw
abbrev st:Stmt:=top 54
theorem sc:zx ["table","thing"] ["table","thing"] (zG st):=Cp
theorem ok (F:wY K "is_key" "is_key" st f fd)(T:Txt P w K mg t1 t2 t3 t4 t5 t6 t7 aL aC aN aT aA b1 b2):yx P w K mg base Cn 1 f fd ["table","thing"] (nW K):=by
 refine F.ok sc fun _ _ _ _ H l Q E j h=>?_;obtain⟨e,c,d,v,rfl,g,hd,k⟩:=h;refine⟨_,(zF<|zM<|xB (zK (z8 (K:=K)) (by rfl) T.isinstance ZA<|zA (pv 1)<|zA (yS (v:=.ty "str") rfl T.str Yh rfl) zB)<|xK<|yL (Rs j.units) (pv 1) (pv 0)<|by with_unfolding_all rfl),?_⟩;refine⟨_,rfl,_,_,d,_,rfl,hd,T.is<|by simp[kinds],_,rfl,?_⟩;cases d with
 |str x =>
  cases(show v=_ from hd);exact Uo ⟨_,rfl,_,rfl,e,_,rfl,wB.k (k:=(Ep x:Key)) g,k⟩
 |none=>exact Ur k
 |bool b=>exact Ur k
 |int i=>exact Ur k
 |list ds=>exact Ur k
 |tuple ds=>exact Ur k
 |dict c=>exact Ur k
end Aw
theorem Sy {S:Di}{c:Dd}(h:c.length=S.length)(d:Ej):av ((S.zip c).map fun e=>((Ep e.1.nm:Key),V.ref e.2)) d=U8 S d:=by
 cases d with
 |str x=>exact Sz h x
 |none=>rfl
 |bool b=>rfl
 |int i=>rfl
 |list ds=>rfl
 |tuple ds=>rfl
 |dict Dm=>rfl
namespace Ax
abbrev st:Stmt:=inClass (top 57) 5
theorem sc:zx ["self","name"] ["self","name"] (zG st):=Cp
theorem ok (F:wY K "has" "Shelf.has" st f fd)(T:Txt P w K mg t1 t2 t3 t4 t5 t6 t7 aL aC aN aT aA b1 b2)(b:wZ P w K mg base 1 "is_key" ["table","thing"]<|nW K):yx P w K mg base Cn 2 f fd ["self","name"] (pO P w K aC):=by
 refine F.ok sc fun _ _ _ _ H A Q E n h=>?_;obtain⟨a,q,S,d,v,rfl,sh,hd,k⟩:=h;refine⟨_,(zF<|zM<|zJ b n.m<|zA (kA (pv 0) rfl)<|zA (pv 1) zB),?_⟩;obtain⟨g,e,c,o,p,z,nx,rfl,nd,i,r,j,l,s,t,u,x,y⟩:=sh;refine⟨_,rfl,a,aC,e,_,_,rfl,i,T.cls,T.n1,rfl,_,rfl,c,_,d,v,rfl,l,hd,?_⟩;rwa[Sy j d]
end Ax
namespace Ay
abbrev st:Stmt:=top 55
theorem sc:zx ["store","name"] ["store","name"] (zG st):=Cp
theorem ok (F:wY K "need_name" "need_name" st f fd)(T:Txt P w K mg t1 t2 t3 t4 t5 t6 t7 aL aC aN aT aA b1 b2)(b:Met P w K mg base aC 2 "has" ["self","name"]<|pO P w K aC):yx P w K mg base (CH P w) 3 f fd ["store","name"] (tV P w K aC aN):=by
 refine F.pY sc fun _ _ _ _ H G Q E j h=>?_;obtain⟨a,s,S,d,v,rfl,sh,hd,l,n⟩:=h;refine⟨_,(zF<|yI (yW<|zS (K:=K)<|Xi (pv 0) T.cls b j.m<|zA (pv 1) zB) (zF<|qO rfl xV rfl T.rH T.rA<|zA zq zB) zT),?_⟩
 obtain⟨g,c,o,p,r,D,nx,e,nd,i,t,u,x,y,z,A,B,C⟩:=id sh;refine⟨_,rfl,a,c,_,rfl,i,rfl,_,rfl,a,_,S,d,v,rfl,sh,hd,_,rfl,?_⟩;cases q:U8 S d with
 |false=>exact Uo ⟨Uq 1,n q⟩
 |true=>exact Ur<|l q
end Ay
namespace Az
abbrev st:Stmt:=inClass (top 57) 6
theorem sc:zx ["self","name"] ["self","name"] (zG st):=Cp
theorem ok (F:wY K "thing" "Shelf.thing" st f fd)(T:Txt P w K mg t1 t2 t3 t4 t5 t6 t7 aL aC aN aT aA b1 b2)(r:tW P w K mg base 3 "need_name" ["store","name"]<|tV P w K aC aN):yx P w K mg base (CH P w) 4 f fd ["self","name"] (wC P w K aC aN):=by
 refine F.pY sc fun _ _ _ _ H vs Q E n h=>?_;obtain⟨a,O,S,d,v,rfl,sh,hd,J,L⟩:=h;have G:=Hl n;refine⟨_,(zD (yD<|yK r n.m yX<|zA (pv 0)<|zA (pv 1) zB)<|zF<|zM<|Fy G (kA (pv 0) rfl) (pv 1)<|fun _ _=>rfl),?_⟩
 obtain⟨g,t,s,M,N,j,nx,u,nd,z,R,A,B,U,X,Y,Z,C⟩:=id sh;refine⟨_,rfl,_,rfl,a,_,S,d,v,rfl,sh,hd,fun q=>?_,L⟩;cases d with
 |str x =>
  cases(show v=_ from hd);have q:x∈S.map En.nm:=Zv q;obtain⟨e,l,rfl⟩:=Zc.mp q;obtain⟨i,D,y⟩:=ZP.mp l;have c:i<j.length:=by lia
  have o:S[i]?=some e:=by rw[Zj D,y]
  have p:j[i]?=some j[i]:=Zj c;have I:=Wa g A o p;exact⟨_,rfl,a,aC,t,_,_,rfl,z,T.cls,T.n1,rfl,_,rfl,s,_,rfl,by rw[←I];exact wB.k (k:=(Ep e.nm:Key)) B,J e l rfl _<|C i e _ o p⟩
 |none=>cases q
 |bool b=>cases q
 |int i=>cases q
 |list ds=>cases q
 |tuple ds=>cases q
 |dict Dm=>cases q
end Az
namespace AA
abbrev st:Stmt:=inClass (top 57) 4
theorem sc:zx ["self","name","forms"] ["self","name","forms"] (zG st):=Cp
theorem ok (F:wY K "need_form" "Shelf.need_form" st f fd)(T:Txt P w K mg t1 t2 t3 t4 t5 t6 t7 aL aC aN aT aA b1 b2)(v:tQ P w K mg base aC 4 "thing" ["self","name"]<|wC P w K aC aN):yx P w K mg base (CH P w) 5 f fd ["self","name","forms"] (rE P w K aC aN):=by
 refine F.pY sc fun _ _ _ _ H X Q E p h=>?_;obtain⟨a,B,O,S,x,b,rfl,sh,th,G,l,I,u⟩:=h;refine⟨_,(zF<|yI (zX (Ru (K:=K) p.units) (zY (yw:Cl _<|xg K) (xO (pv 0) T.cls v p.m yX<|zA (pv 1) zB) zI) (pv 2)<|by with_unfolding_all rfl) (zF<|qO rfl xV rfl T.rH T.rA<|zA zq zB) zT),?_⟩
 obtain⟨g,y,L,M,N,U,nx,A,nd,C,_⟩:=id sh;refine⟨_,rfl,a,y,_,rfl,C,rfl,_,rfl,a,_,S,.str x,.str x,rfl,sh,rfl,fun e o ex t s=>?_,fun j=>?_⟩
 ·have ex:x=e.nm:=by injection ex
  obtain⟨i,n,R,_⟩:=th e o;rw[n]at s;obtain⟨c,r,z,D⟩:=uP s;cases z;have J:=kF n;have d:=NH g o b;rw[←ex,J]at d;refine⟨t,_,_,_,rfl,rfl,D,FX _ _,_,rfl,.str i.word,b.map .str,rfl,⟨B,_,rfl,G,zy.strs b⟩,(v5 b l).1,?_,(show 0<=60 by decide),!decide (i.word∈b),?_,?_⟩
  ·cases i
   ·show El "leaf"=true;decide +kernel
   ·show El "tree"=true;decide +kernel
   ·show El "note"=true;decide +kernel
  ·rw[Pk];cases decide (i.word∈b)<;>rfl
  ·cases q:decide (i.word∈b) with
   |true=>rw[q]at d;exact Ur<|I d
   |false=>rw[q]at d;exact Uo ⟨Uq 1,u d⟩
 ·have j:x∉S.map En.nm:=Ju j;exact u<|IE j b
end AA
theorem aH:∀y∈(["leaf","tree"]:Da),El y=true:=fun y b=>by
 rcases Zi.mp b with rfl|b
 ·decide +kernel
 ·rw[Q9.mp b];decide +kernel
theorem cG:∀y∈(["tree"]:Da),El y=true:=fun y b=>by
 rw[Q9.mp b];decide +kernel
theorem bV:∀y∈(["note"]:Da),El y=true:=fun y b=>by
 rw[Q9.mp b];decide +kernel
namespace AB
abbrev st:Stmt:=inClass (top 57) 3
theorem sc:zx ["self","thing","row","parent"] ["self","thing"] (zG st):=Cp
theorem ok (F:wY K "need_names" "Shelf.need_names" st f fd)(T:Txt P w K mg t1 t2 t3 t4 t5 t6 t7 aL aC aN aT aA b1 b2)(N:tQ P w K mg base aC 5 "need_form" ["self","name","forms"]<|rE P w K aC aN):yx P w K mg base (CH P w) 6 f fd ["self","thing"] (rm P w K aC aN):=by
 refine F.pY sc fun _ A _ _ H vs Q E X h=>?_;obtain⟨a,R,S,t,v,rfl,sh,th,hd,Z,k2⟩:=h;refine⟨_,(xX (yI (zX qM (zY (yw:Cl _<|xg K) (pv 1) zI) zq<|zW _) (zF<|xA LL rfl (kB<|zY (yw:Cl _<|xg K) (pv 1) zI) (zQ (i:=2) sc.nd rfl<|EE rfl)<|zF<|yD<|xO (pv 0) T.cls N X.m yX<|zA (zY (yw:Cl _<|xg K) (pv 2) zI)<|zA (yQ<|zA zq<|zA zq zB) zB) zT)<|zF<|yI (zX qM (zY (yw:Cl _<|xg K) (pv 1) zI) zq<|zW _) (zD (yD<|xO (pv 0) T.cls N X.m yX<|zA (zY (yw:Cl _<|xg K) (pv 1) zI)<|zA (yQ<|zA zq zB) zB)<|zF<|xA LL rfl (kB<|zY (yw:Cl _<|xg K) (pv 1) zI) (zQ (i:=3) sc.nd rfl<|EE rfl)<|zF<|yD<|xO (pv 0) T.cls N X.m yX<|zA (pv 3)<|zA (yQ<|zA zq zB) zB) zT),?_⟩
 obtain⟨g,O,d1,d2,d3,ts,nx,ap,nd,U,_⟩:=id sh;cases t with
 |leaf ls =>
  obtain⟨p,b,rfl,s,hb⟩:=Fp hd;refine⟨fun d l=>d=[some<|.ref a,some<|.ref p,none,none]/\l=H,⟨_,rfl,p,_,_,_,rfl,rfl,s,rfl,rfl,false,congrArg V.bl<|by decide +kernel,Ur (A:=False) ⟨rfl,rfl⟩⟩,?_⟩;rintro d l ⟨rfl,rfl⟩;exact⟨_,rfl,p,_,_,_,rfl,rfl,s,rfl,rfl,false,congrArg V.bl<|by decide +kernel,Ur (A:=False)<|Z rfl _<|zz.refl _⟩
 |tree rs =>
  obtain⟨p,b,rfl,s,hb⟩:=FO hd;obtain⟨b',xs,e,L,hx⟩:=hb;cases e;have Y:xs.length=rs.length:=by rw[hx.length,Q8]
  refine⟨fun d l=>∃o,d=[some<|.ref a,some<|.ref p,o,none]/\zz H l/\(rs.all fun r=>yC S r.2 ["leaf","tree"])=true,?_,?_⟩
  ·refine⟨_,rfl,p,_,_,_,rfl,rfl,s,rfl,rfl,true,congrArg V.bl<|Zg rfl,Uo (B:=False) ?_⟩;refine⟨_,rfl,p,_,_,_,rfl,rfl,s,rfl,b,rfl,⟨_,L⟩,Ff (K:=K) (a:=b) (xs:=xs) (fun i I C=>∃o,I=[some<|.ref a,some<|.ref p,o,none]/\zz H C/\((rs.take i).all fun r=>yC S r.2 ["leaf","tree"])=true) ⟨none,rfl,zz.refl _,rfl⟩ (fun i I C _ ⟨_,_,e,_⟩=>e.yo L) ?_ ?_⟩
   ·rintro i x I C D ⟨o,rfl,j,n⟩;obtain⟨r,c,J,rfl,hc⟩:=Kp hx D;refine⟨_,rfl,a,O,_,rfl,j _ _ U,rfl,_,rfl,c,_,_,_,rfl,rfl,j.yo hc,rfl,Uq 2,fun q nq=>?_⟩;have u:=j.trans<|zE (o:=.tup [V.str "leaf",V.str "tree"]) nq;refine⟨a,q,R,S,r.2,["leaf","tree"],rfl,sh.same u,th,xu.of zC,aH,fun ok=>⟨_,rfl,u,?_⟩,fun M=>?_⟩
    ·rw[Yy,J,List.all_append,n];show(yC S r.2 ["leaf","tree"]&&true)=true;rw[ok];rfl
    ·refine k2 ?_ _ u;show(rs.all fun r=>yC S r.2 ["leaf","tree"])=false;rw[List.all_eq_false];exact⟨r,Zn J,by rw[M];decide⟩
   ·rintro I C ⟨o,rfl,j,n⟩;rw[Y,ZH]at n;exact⟨o,rfl,j,n⟩
  ·rintro d l ⟨o,rfl,j,n⟩;exact⟨_,rfl,p,_,_,_,rfl,rfl,j.yo s,rfl,rfl,false,congrArg V.bl<|by decide +kernel,Ur (A:=False)<|Z n _ j⟩
 |note x ps y =>
  obtain⟨p,b,rfl,s,hb⟩:=Fv hd;refine⟨fun d l=>d=[some<|.ref a,some<|.ref p,none,none]/\l=H,⟨_,rfl,p,_,_,_,rfl,rfl,s,rfl,rfl,false,congrArg V.bl<|by decide +kernel,Ur (A:=False) ⟨rfl,rfl⟩⟩,?_⟩;rintro d l ⟨rfl,rfl⟩;refine⟨_,rfl,p,_,_,_,rfl,rfl,s,rfl,rfl,true,congrArg V.bl<|Zg rfl,Uo (B:=False) ?_⟩;refine⟨_,rfl,a,O,_,rfl,U,rfl,_,rfl,p,_,_,_,rfl,rfl,s,rfl,Uq 1,fun q nq=>?_⟩;have u:=zE (o:=.tup [V.str "tree"]) nq;refine⟨a,q,R,S,x,["tree"],rfl,sh.same u,th,xu.of zC,cG,fun ok=>?_,fun M=>k2 ?_ _ u⟩
  ·show TX _ _ (upd l q<|.tup [V.str "tree"]);generalize upd l q (.tup [V.str "tree"])=G at u;refine⟨_,rfl,p,_,_,_,rfl,rfl,u.yo s,rfl,b,rfl,⟨_,u.yo hb⟩,Ff (K:=K) (a:=b) (xs:=ps.map V.str) (fun i I C=>∃o,I=[some<|.ref a,some<|.ref p,none,o]/\zz l C/\((ps.take i).all fun r=>yC S r ["note"])=true) ⟨none,rfl,u,rfl⟩ (fun i I C _ ⟨_,_,e,_⟩=>e.yo hb) ?_ ?_⟩
   ·rintro i z I C D ⟨o,rfl,j,n⟩;rw[Zk]at D;cases J:ps[i]? with
    |none=>rw[J]at D;cases D
    |some r =>
     rw[J]at D;have D:V.str r=z:=Option.some.inj D;subst D;refine⟨_,rfl,a,O,_,rfl,j _ _ U,rfl,_,rfl,Uq 1,fun q2 ab=>?_⟩;have s4:=j.trans<|zE (o:=.tup [V.str "note"]) ab;refine⟨a,q2,R,S,r,["note"],rfl,sh.same s4,th,xu.of zC,bV,fun an=>⟨_,rfl,s4,?_⟩,fun M=>k2 ?_ _ s4⟩
     ·rw[Yy,J,List.all_append,n];show(yC S r ["note"]&&true)=true;rw[an];rfl
     ·show(yC S x ["tree"]&&ps.all fun p=>yC S p ["note"])=false;rw[ok,Uk,List.all_eq_false];exact⟨r,Zn J,by rw[M];decide⟩
   ·rintro I C ⟨o,rfl,j,n⟩;rw[Q8,ZH]at n;refine Z ?_ _ j;show(yC S x ["tree"]&&ps.all fun p=>yC S p ["note"])=true;rw[ok,n];rfl
  ·show(yC S x ["tree"]&&ps.all fun p=>yC S p ["note"])=false;rw[M];rfl
end AB
theorem zZ:Raises X (fun _ _ _=>False):=by
 intro c f H s e d I b;obtain⟨_,_,_,_,_,_,_,_,_,_,_,_,_,_,q⟩:=b;exact q.elim
theorem SG (g:ux S){e f:En}(l:e∈S)(n:f∈S)(h:e.nm=f.nm):e=f:=by
 obtain⟨i,o,b⟩:=ZP.mp l;obtain⟨j,p,c⟩:=ZP.mp n;have d:=Jz.mp g.nn;have:i=j:=by
  rcases Vx i j with z|z|z
  ·exact absurd (by rwa[ZV,ZV,b,c]) (d i j (by rwa[Q8]) (by rwa[Q8]) z)
  ·exact z
  ·exact absurd (by rw[ZV,ZV,b,c];exact h.symm) (d j i (by rwa[Q8]) (by rwa[Q8]) z)
 subst this;rw[←b,c]
theorem KB:∀rs:Dg,yA (rs.map zb)=true
 |[]=>rfl
 |r::rs=>by
  show(qD (zb r)&&yA (rs.map zb))=true;rw[KB rs];rfl
theorem Tr (t:Th):qD t.dat=true:=by
 cases t with
 |leaf ls=>show(true&&(yA (ls.map .str)&&true))=true;rw[jX];rfl
 |tree rs=>show(true&&(yA (rs.map zb)&&true))=true;rw[KB];rfl
 |note x ps y=>show(true&&(true&&(yA (ps.map .str)&&(true&&true))))=true;rw[jX];rfl
theorem Wf {K:Cd}{t:Th}(h:Dw K H t.dat v):Dt K H t.dat v:=Dw.dt _ _ (XZ _<|Tr t) h
namespace AC
abbrev st:Stmt:=inClass (top 57) 2
theorem sc:zx ["self","thing","head","number","name"] ["self","thing"] (zG st):=Cp
theorem ok (F:wY K "put" "Shelf.put" st f fd)(T:Txt P w K mg t1 t2 t3 t4 t5 t6 t7 aL aC aN aT aA b1 b2)(QS:tW P w K mg base 6 "need_thing" ["thing"]<|pH K aT)(QT:tQ P w K mg base aC 6 "need_names" ["self","thing"]<|rm P w K aC aN)
  (Qq:wZ P w K mg base 1 "letter_of" ["thing"]<|GD K) (QU:wZ P w K mg base 4 "digest" ["thing"]<|Ks K) (Qs:Met P w K mg base aC 1 "take" ["self","name","thing"]<|rB P w K aC):yx P w K mg base (CH P w) 7 f fd ["self","thing"] (tZ P w K aC aN aT):=by
 refine F.pY sc fun _ A _ _ H vs Q E j h=>?_;obtain⟨a,fp,S,d,v,rfl,sh,th,hd,sm,al,tg,hl,hn,k1,k2,R⟩:=h;have hu:=Hl j;refine⟨_,(zD (yD<|yK QS j.m yX<|zA (pv 1) zB)<|zD (yD<|xO (pv 0) T.cls QT j.m yX<|zA (pv 1) zB)<|zD (yI (zX (WA j.units) (pv 1) (kA (pv 0) rfl)<|by with_unfolding_all rfl) (zF<|zM<|SV j.units (kA (pv 0) rfl) (pv 1)<|fun _ _=>rfl) zT)<|zD (Co (i:=2) sc.nd<|zV zL (zJ Qq j.m<|zA (pv 1) zB)<|z6 jM (by rfl) T.str Yh<|zA (zJ QU j.m<|zA (pv 1) zB) zB)<|zD (Co (i:=3) sc.nd<|IW hu (kA (pv 0) rfl) (pv 2) zI ⟨rfl,rfl,rfl,rfl⟩)<|zD (Co (i:=4) sc.nd<|aO (pv 2)<|pv 3)<|zD (yD<|Xi (pv 0) T.cls Qs j.m<|zA (pv 4)<|zA (pv 1) zB)<|zF<|zM<|pv 4),?_⟩
 refine⟨_,rfl,d,v,rfl,hd,sm,al,fun M H1 x=>?_,fun M H1 x=>k1 M _ x⟩;obtain⟨t,rfl,gt⟩:=tg M;have hd:=Wf hd;obtain⟨y,ev⟩:∃t,v=.ref t:=by
  obtain⟨c,r,e,_⟩:=uP hd;exact⟨c,e⟩
 subst ev;have g:=sh.same x;have o:=Dt.same x _ _ hd;obtain⟨Y,s,d1,U,d3,ts,nx,B,nd,l,Z,h3,h4,O,h6,h7,h8,h9⟩:=id g;refine⟨_,rfl,a,s,_,rfl,l,rfl,_,rfl,a,fp,S,t,.ref y,rfl,g,th,o,fun an H2 J=>?_,fun no H2 J=>k2 t rfl M no _<|x.trans J⟩;have R:=R t rfl M an;have I:=x.trans J;have q:=g.same J;have b:=Dt.same J _ _ o;clear g Z h3 h4 O h6 h7 h8 h9 l o B nd;obtain⟨Y,s,d1,U,d3,ts,nx,B,nd,l,Z,h3,h4,O,h6,h7,h8,h9⟩:=id q;have kt:=Fa gt;refine⟨_,rfl,_,rfl,a,aC,s,_,_,rfl,l,T.cls,T.n2,rfl,y,U,_,t.dat,rfl,rfl,O,kt,b,_,rfl,?_⟩;cases hv:Us (S.map fun e=>(e.d,V.str e.nm)) t.dat with
 |some u =>
  obtain⟨p,hp,e⟩:=Zc.mp<|uZ hv;obtain⟨N,C,rfl⟩:=Zc.mp hp;have e:N.d=t.dat:=e;have ab:Us (S.map fun e=>(e.d,V.str e.nm)) t.dat=some (V.str N.nm):=vM (by rw[ZC];exact Y.nd) (Zc.mpr ⟨N,C,by rw[e]⟩);exact Uo ⟨_,rfl,a,aC,s,_,_,rfl,l,T.cls,T.n2,rfl,_,rfl,y,U,_,t.dat,_,rfl,rfl,O,kt,b,ab,R _ S N ⟨Off.of I,q,C,e,.inl rfl⟩⟩
 |none =>
  have D:t.dat∉S.map (·.d):=fun z=>by
   have:=GT hv;rw[ZC]at this;exact this z
  refine Ur (A:=False) ?_;have db:=Gz t.sp;have G:=hn<|Uz t;refine⟨_,rfl,.ref y,t,rfl,b,_,rfl,.ref y,t,rfl,b,gt,fun H3 L=>⟨_,rfl,?_,_,_,rfl,rfl,?_,?_⟩⟩
  ·have hz:(dg t.sp).natAbs<97:=by lia
   rcases JR (dg t.sp).natAbs with z|z
   ·rw[z];decide
   ·have:(dg t.sp).natAbs.log2<7:=(Nat.log2_lt<|by lia).mpr (by lia);lia
  ·rw[Rq];have l:=HV (n:=(dg t.sp).toNat) (by lia);have Z:=IU t;exact zm (by lia)
  rw[Rq];show GO 2 (V.str<|Uz t) _ H3 _;have ap:=q.same L;have g1:=L _ _ l;have g6:=L _ _ h6;refine⟨_,rfl,a,aC,s,_,_,rfl,g1,T.cls,T.n3,rfl,d3,rfl,.inl ⟨_,.inl g6⟩,_,rfl,_,wB.k (k:=(Ep (Uz t):Key)) g6,?_⟩;have em:(Us nx (Ep (Uz t):Key)).getD (V.int 0)=V.int (((xx S<|Uz t).getD 0:Nat):Int):=by
   rw[h8];cases xx S (Uz t) with
   |none=>rfl
   |some m=>rfl
  rw[em];have dl:(".":Str).length=1:=by decide +kernel
  refine⟨_,rfl,_,rfl,by have:=uU t;lia,by rw[dl];decide,_,rfl,_,rfl,G,?_⟩;have X:Uz t++"."++Ux ((xx S<|Uz t).getD 0)=(G5 S t).nm:=by unfold En.nm G5;rw[Pw]
  rw[X];refine⟨_,rfl,a,s,_,rfl,g1,rfl,_,rfl,_,rfl,a,fp,S,G5 S t,y,rfl,ap,⟨kt,j4 t,G,uU t⟩,Dt.same L _ _ b,D,Rm Y<|j4 t,hl,fun H4 o4 as=>?_⟩;exact⟨_,rfl,R _ _ _ ⟨(Off.of<|I.trans L).trans o4,as,by simp,rfl,.inr ⟨rfl,rfl,D⟩⟩⟩
end AC
namespace AD
abbrev st:Stmt:=inClass (top 57) 0
theorem sc:zx ["self","base","name"] ["self","base"] (zG st):=Cp
theorem ok (F:wY K "__init__" "Shelf.__init__" st f fd)(T:Txt P w K mg t1 t2 t3 t4 t5 t6 t7 aL aC aN aT aA b1 b2)(Qf:Met P w K mg base aC 1 "names" ["self"]<|sU P w K aC)(Qs:Met P w K mg base aC 1 "take" ["self","name","thing"]<|rB P w K aC)
  (Qa:tQ P w K mg base aC 4 "thing" ["self","name"]<|wC P w K aC aN):yx P w K mg base Cn 5 f fd ["self","base"] (pL P w K aC):=by
 refine F.ok sc fun _ A _ _ H vs Q E hr h=>?_;obtain⟨x,n,b,S,rfl,hx,I,ne,hb,k⟩:=h;refine⟨_,(zD (MY (pv 0) qQ rfl)<|zD (MY (pv 0) Rx rfl)<|zD (MY (pv 0) qQ rfl)<|zF<|yI (zX SN (pv 1) q9<|zW _) (zF<|xA EL rfl (xC<|uS (pv 1) T.cls Qf hr.m) (zQ (i:=2) sc.nd rfl<|EE rfl)<|zF<|yD<|Xi (pv 0) T.cls Qs hr.m<|zA (pv 2)<|zA (xO (pv 1) T.cls Qa hr.m zZ<|zA (pv 2) zB) zB) zT),?_⟩
 refine fun g n1=>⟨_,rfl,x,aC,n,_,rfl,(zE n1) _ _ hx,T.cls,T.n1,by decide,?_⟩;have N:x≠g:=zR hx n1;have ax:n≠g:=zR I n1;refine fun d o2 n2 T2 e2=>?_;obtain⟨es,rfl⟩:=e2;have bm:d≠x/\d≠g/\H d=none:=by
  refine⟨fun z=>?_,fun z=>?_,?_⟩
  ·rw[z,zC]at n2;cases n2
  ·rw[z,zH<|EB N,zC]at n2;cases n2
  ·have a1:d≠x:=fun z=>by rw[z,zC]at n2;cases n2
   have a2:d≠g:=fun z=>by rw[z,zH<|EB N,zC]at n2;cases n2
   rw[zH a1,zH a2]at n2;exact n2
 obtain⟨C,O,R⟩:=bm;have ay:n≠d:=zR I R;refine⟨_,rfl,x,aC,n,[("thing_by_name",V.ref g)],rfl,by rw[zH<|EB C,zC];rfl,T.cls,T.n2,(show 1<1000 by decide),?_⟩;refine fun j n3=>?_;have bo:j≠x/\j≠d/\j≠g/\H j=none:=by
  have a1:j≠x:=fun z=>by rw[z,zC]at n3;cases n3
  have a2:j≠d:=fun z=>by rw[z,zH C,zC]at n3;cases n3
  have a3:j≠g:=fun z=>by rw[z,zH<|EB N,zH<|EB O,zH<|EB N,zC]at n3;cases n3
  refine⟨a1,a2,a3,?_⟩;rw[zH a1,zH a2,zH a1,zH a3]at n3;exact n3
 obtain⟨X,as,ap,U⟩:=bo;have a0:n≠j:=zR I U;refine⟨_,rfl,x,aC,n,[("thing_by_name",V.ref g),("name_by_thing",V.ref d)],rfl,by rw[zH<|EB X,zC];rfl,T.cls,T.n3,(show 2<1000 by decide),?_⟩;obtain⟨p,J⟩:∃p,p=upd (upd (upd (upd (upd (upd H g<|.dK []) x<|.ins aC n<|Uv "thing_by_name" (V.ref g) []) d<|Gn d es) x<|.ins aC n<|Uv "name_by_thing" (V.ref d) [("thing_by_name",V.ref g)]) j<|.dK []) x (.ins aC n<|Uv "next_numbers" (V.ref j) [("thing_by_name",V.ref g),("name_by_thing",V.ref d)]):=⟨_,rfl⟩;have q0:p x=some (.ins aC n<|PF g d j):=by rw[J,zC];rfl
 have q1:p g=some (.dK []):=by rw[J,zH<|EB N,zH<|EB ap,zH<|EB N,zH<|EB O,zH<|EB N,zC]
 have q2:p d=some (Gn d es):=by rw[J,zH C,zH<|EB as,zH C,zC]
 have q3:p j=some (.dK []):=by rw[J,zH X,zC]
 have qx:p n=some (.own x):=by rwa[J,zH ne,zH a0,zH ne,zH ay,zH ne,zH ax]
 have ab:Off [x] H p:=fun c o y e=>by
  have cx:c≠x:=fun z=>y (by rw[z];exact Ze);rwa[J,zH cx,zH<|zR e U,zH cx,zH<|zR e R,zH cx,zH<|zR e n1]
 have G:∀c∈[x,n,g,d,j],c=x\/c=n\/H c=none:=fun c y=>by
  simp only[Zi,Yq,J3]at y
  rcases y with rfl|rfl|rfl|rfl|rfl
  ·exact .inl rfl
  ·exact .inr (.inl rfl)
  ·exact .inr (.inr n1)
  ·exact .inr (.inr R)
  ·exact .inr (.inr U)
 have al:yg P w K aC p x [x,n,g,d,j] []:=by
  obtain⟨_,_,_,xs,a6,r⟩:=T2;cases r;rw[zC]at a6;have b3:p d=some (Gn d<|List.map (L7<|yV P w) []):=q2.trans a6;exact⟨ux.nil,n,g,d,j,[],[],rfl,by simp[EB ne,N,EB C,EB X,ax,ay,a0,EB O,EB ap,EB as],q0,qx,rfl,q1,⟨ZN _,fun _ z=>(nomatch z),Yw,[],b3,.nil⟩,q3,ZN _,fun h=>rfl,fun i e t z=>by cases z⟩
 rw[←J];clear J
 rcases hb with⟨rfl,rfl⟩|⟨a,fp0,rfl,sh0,x0,dx0,Sl⟩
 ·exact⟨_,rfl,rfl,false,congrArg V.bl (by rw[Zg rfl];rfl),Ur (A:=False)<|k _ _ G ab al⟩
 ·refine⟨_,rfl,rfl,true,congrArg V.bl (by rw[Zo<|fun z=>by cases z];rfl),Uo (B:=False) ?_⟩;have dj:∀c∈fp0,c∉[x,n,g,d,j]:=fun c y z=>by
   obtain⟨o,eo,_⟩:=sh0.wR c y
   rcases G c z with rfl|rfl|q
   ·exact x0 y
   ·exact dx0 y
   ·rw[eo]at q;cases q
  have D:yg P w K aC p a fp0 S:=sh0.off (gp:=[x]) (fun b hb xs z=>by
   rw[Q9.mp hb]at z
   rcases z with z|⟨u,z⟩
   ·rw[hx]at z;cases z
   ·rw[hx]at z;cases z) ab (fun c y z=>x0<|by rwa[←Q9.mp z])
  obtain⟨gS,dy,e1,e2,e3,ts,nx,b4,nd,h1,h2,h3,h4,h5,h6,h7,h8,h9⟩:=id D;refine⟨_,rfl,a,dy,_,rfl,h1,rfl,a,fp0,S,rfl,D,fun l nl=>?_⟩;have ul:=zE (o:=.lst<|S.map fun e=>V.str e.nm) nl;have Y:upd p l (.lst<|S.map fun e=>V.str e.nm) l=some (.lst<|S.map fun e=>V.str e.nm):=zC;have an:=al.same ul;have L:=D.same ul;have bd:l∉[x,n,g,d,j]:=fun z=>by
   obtain⟨o,eo,_⟩:=al.wR l z;rw[eo]at nl;cases nl
  have a7:Off [x] H (upd p l<|.lst<|S.map fun e=>V.str e.nm):=ab.trans<|Off.of ul;refine⟨l,rfl,⟨_,yu.of Y⟩,?_⟩;generalize upd p l (.lst<|S.map fun e=>V.str e.nm)=H5 at ul Y an L a7;have bz:=an.wR.tup;refine jC (K:=K) (a:=l) (xs:=S.map fun e=>V.str e.nm) (fun i σ H6=>∃o,σ=[some<|.ref x,some<|.ref a,o]/\Off [x,n,g,d,j] H5 H6/\yg P w K aC H6 x [x,n,g,d,j] (S.take i)) ⟨none,rfl,Off.refl _ _,an⟩ (fun i σ H6 hi ⟨_,_,o6,_⟩=>yu.of<|o6 _ _ bd Y) ?_ ?_
  ·rintro i v σ H6 Z ⟨o,rfl,o6,s⟩;rw[Zk]at Z;cases q:S[i]? with
   |none=>rw[q]at Z;cases Z
   |some e =>
    rw[q]at Z;have Z:V.str e.nm=v:=Option.some.inj Z;subst Z;have he:=Zn q;have M:=L.off bz o6 dj;obtain⟨_,a8,_,_,_,_,_,_,_,k1,_⟩:=id M;obtain⟨_,a4,_,_,_,_,_,_,_,z1,_⟩:=id s;refine⟨_,rfl,x,a4,_,rfl,z1,rfl,_,rfl,_,rfl,a,a8,_,rfl,k1,rfl,_,rfl,a,fp0,S,.str e.nm,.str e.nm,rfl,M,rfl,fun e2 a9 ex t ht=>?_,fun no=>(Ju no<|Zc.mpr ⟨e,he,rfl⟩)⟩;cases SG gS he a9 (by injection ex);refine⟨x,_,S.take i,e,t,rfl,s,gS.ent e he,ht,?_,?_,by rw[ZB];lia,fun H7 o7 ca=>?_⟩
    ·rw[Vf];exact Iz gS.nd (by rw[Zk,q];rfl)
    ·rw[Vf];exact Iz gS.nn (by rw[Zk,q];rfl)
    ·refine⟨_,rfl,o6.trans o7,?_⟩;rwa[Yy,q]
  ·rintro σ H6 ⟨o,rfl,o6,s⟩;rw[Q8,ZH]at s;refine k _ _ G (fun c u y e=>?_) s;have e5:=a7 c u y e
   by_cases z:c∈[x,n,g,d,j]
   ·rcases G c z with q|q|q
    ·exact absurd (by rw[q];exact Ze) y
    ·subst q;obtain⟨_,a4,y1,y2,y3,_,_,a5,_,_,z2,_⟩:=id s;injection a5 with w1 w2;injection w2 with w2 w3;subst w2;rw[I]at e;cases e;exact z2
    ·rw[e]at q;cases q
   ·exact o6 c u z e5
end AD
end
end An13
namespace An
open PySem L2 AnJ
theorem uV (h:UE ls):UJ (yo ls)=true:=(Fa<|NO h).1 |> fun z=>by
 have z:(UJ (.str "leaf")&&(UJ (yo ls)&&true))=true:=z;rw[Zm,Zm]at z;exact z.2.1
structure ye (K:Cd)(H:Hp)(fs:Dk)(Dm:Dl):Prop where
 keys:Dm.map (·.1)=fs.map fun f=>(.inr (Cc f.1):Key)
 val:∀(i:Nat) (f:Fi) (kv:Key×V),fs[i]?=some f->Dm[i]?=some kv->Dt K H (yo f.2) kv.2/\UE f.2
section
variable {K:Cd}{H H':Hp}{fs:Dk}{Dm:Dl}
theorem ye.nil:ye K H [] []:=⟨rfl,fun i f b h=>(nomatch h)⟩
theorem ye.len (h:ye K H fs Dm):Dm.length=fs.length:=by
 have:=congrArg List.length h.keys;rw[Q8,Q8]at this;exact this
theorem ye.same (h:ye K H fs Dm)(e:zz H H'):ye K H' fs Dm:=⟨h.keys,fun i f c a b=>⟨Dt.same e _ _ (h.val i f c a b).1,(h.val i f c a b).2⟩⟩
theorem ye.off {X:Dd}(h:ye K H fs Dm)(n:∀b∈X,∀xs,¬Rd H b (.tup xs))(o:Off X H H'):ye K H' fs Dm:=⟨h.keys,fun i f c a b=>⟨Dt.off n o _ _ (uV (h.val i f c a b).2) (h.val i f c a b).1,(h.val i f c a b).2⟩⟩
theorem ye.get (h:ye K H fs Dm){i:Nat}{k:Key}{v:V}(e:Dm[i]?=some (k,v)):∃f,fs[i]?=some f/\k=.inr (Cc f.1)/\Dt K H (yo f.2) v/\UE f.2:=by
 have hl:=(Zw.mp e).1;have c:=Zj (l:=fs) (i:=i) (by rwa[←h.len]);have d:=congrArg (fun l=>l[i]?) h.keys;simp only[Zk,e,c,Yt]at d;obtain⟨a,b⟩:=h.val i _ _ c e;exact⟨_,c,Option.some.inj d,a,b⟩
theorem ye.snoc (h:ye K H fs Dm){f:Fi}{v:V}(d:Dt K H (yo f.2) v)(hl:UE f.2):ye K H (fs++[f]) (Dm++[(.inr<|Cc f.1,v)]):=by
 refine⟨by rw[Zl,Zl,h.keys];rfl,fun i g e a b=>?_⟩
 by_cases z:i<fs.length
 ·rw[Yj z]at a;rw[Yj<|by rwa[h.len]]at b;exact h.val i g e a b
 ·rw[Yo<|by lia]at a;rw[Yo (by rw[h.len];lia)]at b;have c:i-fs.length=0:=by
   rcases JR (i-fs.length) with q|q
   ·exact q
   ·rw[List.getElem?_eq_none_iff.mpr (by show 1<=_;lia)]at a;cases a
  rw[c]at a;rw[h.len,c]at b;cases a;cases b;exact⟨d,hl⟩
end
theorem qF {d:Nat}{a b:Da}(ha:a≠[])(hb:b≠[])(h:∀l∈a,zP l=true)(i:∀l∈b,zP l=true)(e:Cc a=Cc b):a=b:=by
 have f:=qA ha fun y c=>y8<|h y c;have g:=qA hb fun y c=>y8<|i y c;unfold Cc at e;rw[←f,←g,e]
def Ct (rows:Dg):Dl:=rows.map fun p=>((.inr p.1:Key),V.str p.2)
theorem kN (rows:Dg):(Ct rows).map (·.1)=rows.map fun p=>(.inr p.1:Key):=by unfold Ct;rw[ZC];rfl
theorem N2 {rows:Dg}{l n:Str}(h:l∉rows.map (·.1)):yd (Ct rows) (.inr l) (.str n)=Ct (rows++[(l,n)]):=by
 rw[kC]
 ·unfold Ct;rw[Zl];rfl
 ·rw[kN];intro z;obtain⟨p,b,e⟩:=Zc.mp z;cases e;exact h<|Zc.mpr ⟨p,b,rfl⟩
def Cw (b:List<|Str×Ef):Dl:=b.map fun p=>((.inr p.1:Key),V.ref p.2)
theorem Hg (b:List<|Str×Ef):(Cw b).map (·.1)=b.map fun p=>(.inr p.1:Key):=by unfold Cw;rw[ZC];rfl
theorem Wk {c:List (Str×Ef)}(nd:(c.map (·.1)).Nodup):((Cw c).map (·.1)).Nodup:=by
 rw[Hg];have:(c.map fun p=>(.inr p.1:Key))=(c.map (·.1)).map Sum.inr:=by rw[ZC];rfl
 rw[this];exact List.Pairwise.map _ (fun a b n e=>by cases e;exact n rfl) nd
theorem vH {b:List (Str×Ef)}(nd:(b.map (·.1)).Nodup){p:Str×Ef}(h:p∈b):Us (Cw b) (.inr p.1)=some (.ref p.2):=vM (Wk nd)<|Zc.mpr ⟨p,h,rfl⟩
theorem PD {b:List (Str×Ef)}{l:Str}(h:l∉b.map (·.1)):Us (Cw b) (.inr l)=none:=by
 cases e:Us (Cw b) (.inr l) with
 |none=>rfl
 |some v =>
  have:=uZ e;rw[Hg]at this;obtain⟨p,c,z⟩:=Zc.mp this;cases z;exact absurd (Zc.mpr ⟨p,c,rfl⟩) h
theorem Hh {c:List (Str×Ef)}{l:Str}{b:Ef}(h:l∉c.map (·.1)):yd (Cw c) (.inr l) (.ref b)=Cw (c++[(l,b)]):=by
 rw[RH _<|PD h];unfold Cw;rw[Zl];rfl
theorem Hi {b:List (Str×Ef)}(nd:(b.map (·.1)).Nodup){p:Str×Ef}(h:p∈b):yd (Cw b) (.inr p.1) (.ref p.2)=Cw b:=by
 unfold yd;rw[Zs (by rw[xZ,vH nd h];rfl)];unfold Cw;rw[ZC];refine ZQ fun q d=>?_;show(if(.inr q.1:Key)=.inr p.1 then((.inr q.1:Key),V.ref p.2) else(.inr q.1,V.ref q.2))=(.inr q.1,V.ref q.2)
 split
 ·rename_i e;have e:q.1=p.1:=Sum.inr.inj e;have:V.ref q.2=V.ref p.2:=by
   have c:=vH nd d;rw[e,vH nd h]at c;exact(Option.some.inj c).symm
  rw[this]
 ·rfl
structure wI (K:Cd)(H1 H:Hp)(fs:Dk)(fa:List<|Str×Ef):Prop where
 wV:fa.map (·.1)=Cm fs
 nd:(fa.map (·.2)).Nodup
 new:∀p∈fa,H1 p.2=none
 at_:∀p∈fa,∃Dm,H p.2=some (.dK Dm)/\ye K H (sub fs p.1) Dm
section
variable {K:Cd}{H1 H H':Hp}{fs:Dk}{fa:List (Str×Ef)}
theorem wI.nil:wI K H1 H [] []:=⟨rfl,Yw,fun p h=>(nomatch h),fun p h=>(nomatch h)⟩
theorem wI.off {X:Dd}(h:wI K H1 H fs fa)(ex:∀c∈X,∃o,H1 c=some o)(n:∀b∈X,∀xs,¬Rd H b (.tup xs))(o:Off X H H'):wI K H1 H' fs fa:=⟨h.wV,h.nd,h.new,fun p d=>by
 obtain⟨f,a,b⟩:=h.at_ p d;refine⟨f,o _ _ (fun z=>?_) a,b.off n o⟩;obtain⟨q,e⟩:=ex _ z;rw[h.new p d]at e;cases e⟩
theorem wI.same (h:wI K H1 H fs fa)(e:zz H H'):wI K H1 H' fs fa:=⟨h.wV,h.nd,h.new,fun p d=>by
 obtain⟨c,a,b⟩:=h.at_ p d;exact⟨c,e _ _ a,b.same e⟩⟩
theorem wI.one (h:wI K H1 H fs fa){f:Fi}{a:Str}(e:f.1=[a]):wI K H1 H (fs++[f]) fa:=⟨by rw[j8,e];exact h.wV,h.nd,h.new,fun p c=>by
 rw[sub_snoc,Kv e];show∃b,_/\ye K H (sub fs p.1++[]) b;rw[ZG];exact h.at_ p c⟩
theorem wI.sV (h:wI K H1 H fs fa):(fa.map (·.1)).Nodup:=by rw[h.wV];exact(xJ fs).1
theorem yF {c:Ef}:Off [c] H (upd H c o):=(Off.refl _ _).upd<|Q9.mpr rfl
theorem yB {c:Ef}{Dm:Dl}(h:H c=some (.dK Dm)):∀b∈[c],∀xs,¬Rd H b (.tup xs):=fun b hb xs=>by
 rw[Q9.mp hb];exact Gw h (fun _ z=>(nomatch z)) (fun _ _ z=>(nomatch z)) xs
theorem wI.old (h:wI K H1 H fs fa){p:Str×Ef}(d:p∈fa){Dm:Dl}(hk:H p.2=some (.dK Dm))(x:ye K H (sub fs p.1) Dm){f:Fi}{b:Str}{r:Da}(e:f.1=p.1::b::r){v:V}(C:Dt K H (yo f.2) v)(hl:UE f.2) :
  wI K H1 (upd H p.2<|.dK<|Dm++[(.inr<|Cc (b::r),v)]) (fs++[f]) fa:=by
 have l:=yB hk;have o:Off [p.2] H (upd H p.2<|.dK<|Dm++[((.inr (Cc (b::r)):Key),v)]):=yF;have inl:p.1∈Cm fs:=by rw[←h.wV];exact Zc.mpr ⟨p,d,rfl⟩
 refine⟨?_,h.nd,h.new,fun q g=>?_⟩
 ·rw[j8,e];show _=qC (Cm fs) p.1;unfold qC;rw[Zs inl];exact h.wV
 ·rw[sub_snoc,v6 e]
  by_cases z:p.1=q.1
  ·rw[Zs z];have eq:p.2=q.2:=by
    have s:=vH h.sV g;rw[←z,vH h.sV d]at s;injection (Option.some.inj s)
   refine⟨_,by rw[←eq];exact zC,?_⟩;rw[←z];exact(x.off l o).snoc (f:=(b::r,f.2)) (Dt.off l o _ _ (uV hl) C) hl
  ·rw[Zt z];obtain⟨t,u,w⟩:=h.at_ q g;have ne:q.2≠p.2:=fun y=>by
    obtain⟨i,A,n⟩:=ZP.mp d;obtain⟨j,B,c⟩:=ZP.mp g;have:=(Jc (h₀:=by simpa using A) (h₁:=by simpa using B) h.nd).mp (by rw[ZV,ZV,n,c];exact y.symm);subst this;rw[n]at c;exact z (by rw[c])
   refine⟨t,by rw[zH ne];exact u,?_⟩;show ye K _ (sub fs q.1++[]) t;rw[ZG];exact w.off l o
theorem wI.mQ (h:wI K H1 H fs fa){l b:Str}{r:Da}(g:l∉Cm fs){c:Ef}(u:H c=some (.dK []))(n1:H1 c=none)(j:∀p∈fa,p.2≠c){f:Fi}(e:f.1=l::b::r){v:V}(x:Dt K H (yo f.2) v)(hl:UE f.2) :
  wI K H1 (upd H c<|.dK [(.inr<|Cc (b::r),v)]) (fs++[f]) (fa++[(l,c)]):=by
 have n:=yB u;have o:Off [c] H (upd H c<|.dK [((.inr (Cc (b::r)):Key),v)]):=yF;have A:sub fs l=[]:=JL.mpr fun k hk=>by
  obtain⟨t,w⟩:=wH.mp hk;refine g<|((xJ fs).2 l).mpr ⟨_,w,?_⟩;cases q:k.1 with
  |nil=>exact absurd q t
  |cons b r=>exact⟨b,r,rfl⟩
 refine⟨?_,?_,fun p d=>?_,fun p d=>?_⟩
 ·rw[j8,e,Zl,h.wV];show _=qC (Cm fs) l;unfold qC;rw[Zt g];rfl
 ·rw[Zl];refine jQ h.nd fun z=>?_;obtain⟨p,d,s⟩:=Zc.mp z;exact j p d s
 ·rcases ZD.mp d with z|z
  ·exact h.new p z
  ·rwa[Q9.mp z]
 ·rw[sub_snoc,v6 e]
  rcases ZD.mp d with z|z
  ·have ne:l≠p.1:=fun y=>g (by rw[y,←h.wV];exact Zc.mpr ⟨p,z,rfl⟩);rw[Zt ne];obtain⟨i,a,b⟩:=h.at_ p z;refine⟨i,by rw[zH<|j p z];exact a,?_⟩;show ye K _ (sub fs p.1++[]) i;rw[ZG];exact b.off n o
  ·rw[Q9.mp z,Zs rfl,A];exact⟨_,zC,ye.snoc (fs:=[]) ye.nil (f:=(b::r,f.2)) (Dt.off n o _ _ (uV hl) x) hl⟩
end
end An
namespace An13
open PySem L2 An
seal L2.PS L2.sX L2.PE L2.PT L2.PW L2.PA L2.PG L2.oX L2.PI L2.oU L2.PC
inductive rG (K:Cd)(vs:Dj)(H:Hp)(Q:VK)(e3:XK):Prop
 |mk (d:Ej) (v:V) (h0:vs=[v]) (h1:Dw K H d v) (h2:small d=true) (h3:∀H',zz H H'->Q (.bl<|XR d) H'):rG K vs H Q e3
inductive rU (K:Cd)(aP:Ef)(vs:Dj)(H:Hp)(Q:VK)(E:XK):Prop
 |mk (d:Ej) (v:V) (h0:vs=[v]) (h1:Dw K H d v) (h2:small d=true) (h3:(∀x,d=.str x->GR x=true->∀p H',zz H H'->yu K H' p ((Ut x).map V.str)->Q (.ref p) H')) (h4:(XR d=false->∀H',zz H H'->E (.ref aP) none H')):rU K aP vs H Q E
inductive pG (K:Cd)(vs:Dj)(H:Hp)(Q:VK)(e3:XK):Prop
 |mk (x:Str) (h0:vs=[.str x]) (h1:x.length<=1000) (h2:∀p H',zz H H'->yu K H' p ((G8 x).map V.str)->Q (.ref p) H'):pG K vs H Q e3
inductive pI (K:Cd)(vs:Dj)(H:Hp)(Q:VK)(e3:XK):Prop
 |mk (d e:Ej) (v u:V) (h0:vs=[v,u]) (h1:Dw K H d v) (h2:Dw K H e u) (h3:small d=true) (h4:small e=true) (h5:∀H',zz H H'->Q (.bl<|XR d&&UZ e) H'):pI K vs H Q e3
theorem RW:[V.str "/"]=[V.str ⟨#[47]⟩]:=by rw[Xs];rfl
theorem MH (x:Str):PySem.Txt.split x ⟨#[47]⟩=Ut x:=by unfold Ut;rw[Xs];rfl
theorem pK:UH x=true↔x.length<=20/\(cs x).all UD=true:=by
 unfold UH;rw[Zm,ZM]
theorem sZ:zP x=true↔1<=x.length/\x.length<=8/\(cs x).all UI=true:=by
 unfold zP;rw[Zm,Zm,ZM,ZM,and_assoc]
def Xw (t:Th):Prop:=t.Good/\k6 t.dat=true/\small t.dat=true/\narrow t.dat
theorem Xa (h:UH x=true):Ok 1000 x:=by
 obtain⟨e,b⟩:=pK.mp h;refine⟨by lia,?_⟩;rw[yU];intro c d;have:=ZU.mp b c d;unfold UD at this;simp only[Zm,ZM]at this;lia
theorem Hq (h:zP x=true):Ok 1000 x:=⟨by have:=(sZ.mp h).2.1;lia,By h⟩
theorem j0:∀{ls:Da},(∀l∈ls,l.length<=1000)->yE (ls.map .str)=true
 |[],_=>rfl
 |l::ls,h=>by
  show(decide (l.length<=1000)&&yE (ls.map .str))=true;rw[Zg<|h l Ze,j0 fun x b=>h x<|Zb _ b];rfl
theorem Go:∀{rs:Dg},(∀r∈rs,r.1.length<=1000/\r.2.length<=1000)->yE (rs.map zb)=true
 |[],_=>rfl
 |r::rs,h=>by
  obtain⟨b,c⟩:=h r Ze;show((decide (2<=1000)&&(decide (r.1.length<=1000)&&(decide (r.2.length<=1000)&&true)))&&yE (rs.map zb))=true;rw[Zg b,Zg c,Go fun x d=>h x<|Zb _ d];rfl
theorem OF {ls:Da}(h:∀l∈ls,UH l=true)(hl:ls.length<=63):Xw (.leaf ls):=by
 have d:∀l∈ls,l.length<=1000:=fun l hl=>(Xa<|h l hl).len;refine⟨⟨by show ls.length<=1000;lia,fun p g=>Xa<|h p g⟩,?_,?_,fun c e=>?_⟩
 ·show((decide (("leaf":Str)="leaf")&&(decide (1=1)&&((ls.map EV).all UW)))||_)=true;have:(ls.map EV).all UW=true:=by rwa[List.all_map,ZU]
  rw[this,Zg rfl];rfl
 ·show(decide (2<=1000)&&(decide (("leaf":Str).length<=1000)&&((decide ((ls.map EV).length<=1000)&&yE (ls.map .str))&&true)))=true;rw[j0 d,Q8,Zg<|show ls.length<=1000 by lia,Zg<|show("leaf":Str).length<=1000 by decide +kernel];rfl
 ·have e:[EV "leaf",.tuple<|ls.map .str]=c:=by injection e
  subst e;refine⟨by show 2<=63;decide,fun e f i b=>?_⟩
  rcases Zi.mp f with q|q
  ·rw[q]at b;cases b
  ·rw[Q9.mp q]at b;cases b;rwa[Q8]
theorem OJ {rs:Dg}(h:∀r∈rs,zP r.1=true/\Ok 1000 r.2)(c:Xf (rs.map (·.1))=true)(hl:rs.length<=63):Xw (.tree rs):=by
 have j:∀rs:Dg,(∀r∈rs,zP r.1=true/\Ok 1000 r.2)->∀p∈z9 rs,Ok 1000 p:=by
  intro rs
  induction rs with
  |nil=>intro _ p b;cases b
  |cons r rs ih =>
   intro h p b
   rcases Zi.mp b with q|b
   ·rw[q];exact Hq (h r Ze).1
   ·rcases Zi.mp b with q|b
    ·rw[q];exact(h r Ze).2
    ·exact ih (fun x n=>h x<|Zb _ n) p b
 refine⟨⟨?_,j rs h⟩,?_,?_,fun f e=>?_⟩
 ·show(z9 rs).length<=1000;rw[Ao.wF];lia
 ·show((decide (("tree":Str)="leaf")&&(decide (1=1)&&UZ (.tuple<|rs.map zb)))||((decide (("tree":Str)="tree")&&(decide (1=1)&&((rs.map zb).all UY&&Xf ((rs.map zb).map UM))))||_))=true;have g:(rs.map zb).all UY=true:=by
   rw[List.all_map,ZU];intro r c;show(zP r.1&&true)=true;rw[(h r c).1];rfl
  have i:(rs.map zb).map UM=rs.map (·.1):=by rw[ZC];rfl
  rw[g,i,c,Zo<|show¬("tree":Str)="leaf" by decide +kernel,Zg<|show("tree":Str)="tree" from rfl];rfl
 ·show(decide (2<=1000)&&(decide (("tree":Str).length<=1000)&&((decide ((rs.map zb).length<=1000)&&yE (rs.map zb))&&true)))=true;rw[Go fun r c=>⟨(Hq (h r c).1).len,(h r c).2.len⟩,Q8,Zg<|show rs.length<=1000 by lia,Zg<|show("tree":Str).length<=1000 by decide +kernel];rfl
 ·have e:[EV "tree",.tuple<|rs.map zb]=f:=by injection e
  subst e;refine⟨by show 2<=63;decide,fun e l o d=>?_⟩
  rcases Zi.mp l with q|q
  ·rw[q]at d;cases d
  ·rw[Q9.mp q]at d;cases d;rwa[Q8]
theorem OG {ps:Da}(l:Ok 1000 x)(c:UH y=true)(f:∀p∈ps,Ok 1000 p)(nd:ps.Nodup)(hl:ps.length<=2):Xw (.note x ps y):=by
 refine⟨⟨?_,fun p h=>?_⟩,?_,?_,fun g e=>?_⟩
 ·show([x,dig ps.length]++ps++[y]).length<=1000;simp;lia
 ·have h:p∈[x,dig ps.length]++ps++[y]:=h;simp at h
  rcases h with z|z|z|z
  ·rwa[z]
  ·rw[z];exact⟨Z0 (Fd<|by lia)<|by decide,MR _⟩
  ·exact f p z
  ·rw[z];exact Xa c
 ·show((decide (("note":Str)="leaf")&&(decide (3=1)&&UZ (.str x)))||((decide (("note":Str)="tree")&&(decide (3=1)&&Bm (.str x)))||(decide (("note":Str)="note")&&(decide (3=3)&&(true&&(((ps.map EV).all UA&&(decide ((ps.map EV).length<=2)&&decide ((AxS.uniq<|(ps.map EV).map KC).length=(ps.map EV).length)))&&UH y))))))=true;have i:(ps.map EV).all UA=true:=by rw[List.all_map,ZU];exact fun _ _=>rfl
  have j:(ps.map EV).map KC=ps:=by rw[ZC];exact VW _
  rw[i,j,BD nd,Q8,c,Zg hl,Zg<|show ps.length=ps.length from rfl,Zo<|show¬("note":Str)="leaf" by decide +kernel,Zo<|show¬("note":Str)="tree" by decide +kernel,Zg<|show("note":Str)="note" from rfl];rfl
 ·show(decide (4<=1000)&&(decide (("note":Str).length<=1000)&&(decide (x.length<=1000)&&((decide ((ps.map EV).length<=1000)&&yE (ps.map .str))&&(decide (y.length<=1000)&&true)))))=true;rw[j0 fun p h=>(f p h).len,Q8,Zg<|show ps.length<=1000 by lia,Zg l.len,Zg (Xa c).len,Zg<|show("note":Str).length<=1000 by decide +kernel];rfl
 ·have e:[EV "note",.str x,.tuple<|ps.map .str,.str y]=g:=by injection e
  subst e;refine⟨by show 4<=63;decide,fun e d n b=>?_⟩;simp only[Zi,Yq,J3]at d
  rcases d with q|q|q|q
  ·rw[q]at b;cases b
  ·rw[q]at b;cases b
  ·rw[q]at b;cases b;rw[Q8];lia
  ·rw[q]at b;cases b
theorem Tc {l:Da}(h:l.Pairwise Cs):Xf l=true:=sS.mpr ⟨h.imp fun{a b} z q=>List.lt_asymm z q,ZI.mpr<|h.imp fun{a b} z=>Iy z⟩
theorem Sr (h:yC S x ws=true):x∈S.map En.nm:=by
 unfold yC at h;obtain⟨e,b,q⟩:=Yb.mp h;rw[Zm,ZM]at q;exact Zc.mpr ⟨e,b,q.1⟩
theorem OA {ls:Da}(h:At S x<|.leaf ls):yC S x ["leaf","tree"]=true:=by
 obtain⟨e,b,rfl,hd⟩:=h;refine Yb.mpr ⟨e,b,?_⟩;rw[Zm,ZF,ZF,kF hd];exact⟨rfl,Ze ..⟩
theorem OB {rows:Dg}(h:At S x<|.tree rows):yC S x ["leaf","tree"]=true:=by
 obtain⟨e,b,rfl,hd⟩:=h;refine Yb.mpr ⟨e,b,?_⟩;rw[Zm,ZF,ZF,kF hd];exact⟨rfl,Zb _<|Ze ..⟩
theorem Ss (h:Tree d S x):yC S x ["leaf","tree"]=true:=by
 cases d with
 |zero=>exact absurd h<|fun z=>z
 |succ d =>
  rcases h with⟨ls,h⟩|⟨rows,h,_⟩
  ·exact OA h
  ·exact OB h
theorem RI {K:Cd}{o p:Ef}{Q:VK}{E:XK}(sh:yg P w K C H a fp S)(ok:xr S)(g:Xw t)(d:namesOk S t=true)(l:S.length<2000)(u:Dt K H t.dat v)
  (k:∀H2,Off fp H H2->yg P w K C H2 a fp (Cr S t).1->Q (.str (Cr S t).2) H2):tZ P w K C o p [.ref a,v] H Q E:=by
 refine⟨a,fp,S,t.dat,v,rfl,sh,ok.th,Dt.dw u,g.2.2.1,g.2.2.2,fun _=>⟨t,rfl,g.1⟩,l,fun h=>by have:=NR ok.num h;lia,fun z=>?_,fun B e _ j=>?_,fun B e _ _ H2 D i y=>?_⟩
 ·rw[g.2.1]at z;cases z
 ·have:=B6 e;subst this;rw[d]at j;cases j
 ·have:=B6 e;subst this;obtain⟨of,b,c,r,q⟩:=y
  rcases q with q|⟨q,n,A⟩
  ·rw[q]at c b;have f:=NY ok (x:=i.nm) ⟨i,c,rfl,r⟩;rw[f]at k;exact k H2 of b
  ·have f:=Kh (S:=S) (t:=t) fun e s hd=>A<|Zc.mpr ⟨e,s,hd⟩;rw[f]at k;rw[n]at q;rw[q]at b;rw[n];exact k H2 of b
inductive ug (P:Eg)(w:Ek)(K:Cd)(C:Ef)(vs:Dj)(H:Hp)(Q:VK)(e3:XK):Prop
 |mk (a d:Ef) (fp:Dd) (S:Di) (rows:Dg) (h0:vs=[.ref a,.ref d]) (h1:yg P w K C H a fp S) (h2:xr S) (h3:Rd H d<|.dK<|Ct rows) (h4:(rows.map (·.1)).Nodup) (h5:(∀r∈rows,zP r.1=true/\yC S r.2 ["leaf","tree"]=true)) (h6:rows.length<=63) (h7:S.length<2000) (h8:∀H',Off fp H H'->yg P w K C H' a fp (Cr S<|.tree<|Uy rows).1->Q (.str (Cr S<|.tree<|Uy rows).2) H'):ug P w K C vs H Q e3
section
variable {P:Eg}{w:Ek}{K:Cd}{mg:Str->Dc}{base:Ev}{t1 t2 t3 t4 t5 t6 t7:Tok}{aL aC aN aT aA b1 b2:Ef}
theorem XG (h:yg P w K C H a fp S):∃dx d1 d2 d3,H a=some (.ins C dx<|PF d1 d2 d3):=by
 obtain⟨_,dx,d1,d2,d3,_,_,_,_,b,_⟩:=h;exact⟨dx,d1,d2,d3,b⟩
namespace AE
abbrev st:Stmt:=top 34
theorem sc:zx ["thing","labels"] ["thing"] (zG st):=Cp
theorem ok (F:wY K "is_path" "is_path" st f fd)(T:Txt P w K mg t1 t2 t3 t4 t5 t6 t7 aL aC aN aT aA b1 b2)(t:wZ P w K mg base 1 "is_label" ["thing"]<|FK K):yx P w K mg base Cn 2 f fd ["thing"] (rG K):=by
 refine F.ok sc fun _ _ _ _ H L Q E A h=>?_;obtain⟨d,v,rfl,hd,G,k⟩:=h;refine⟨_,(zD (yI (yW<|zS (K:=K)<|zK (z8 (K:=K)) (by rfl) T.isinstance ZA<|zA (pv 0)<|zA (yS (v:=.ty "str") rfl T.str Yh rfl) zB) (zF<|zM qL) zT)<|zD (Co (i:=1) sc.nd<|qN Z8 VD VE Gu (pv 0)<|zA zq zB)<|zF<|zM<|xB (yL HW (zK z7 (by rfl) T.len Z5<|zA (pv 1) zB) (jE (v:=.int 4) rfl T.p7 ⟨_,rfl⟩)<|zW _)<|xK<|zK (j6 rfl) (by rfl) T.all Jb<|zA (xN (sc:=zG st) (N:=["thing","labels"]) (N':=["label"]) (src:=[none]) .a rfl rfl rfl (xC<|pv 1) (fun _ _ _ _=>(zQ (i:=0) (show(["label"]:Da).Nodup by decide +kernel) rfl (EE rfl))) (fun _ _ _ _=>x9) (fun _ _ _ _=>(zJ t A.m<|zA (pv 0) zB))) zB),?_⟩
 refine⟨_,rfl,_,_,d,_,rfl,hd,T.is<|by simp[kinds],_,rfl,?_⟩;cases d with
 |str x =>
  cases(show v=_ from hd);have M:x.length<=1000:=Zv G;have cl:=vW x;refine Ur ⟨_,rfl,rfl,x,47,rfl,RW,by lia,fun l B=>?_⟩;rw[MH];have u:=zE (o:=.lst<|(Ut x).map V.str) B;refine⟨_,rfl,l,_,rfl,.inl<|yu.of zC,_,_,rfl,rfl,_,rfl,Uw (fun j=>?_)<|fun j=>?_⟩
  ·have j:(Ut x).length<=4:=by have:=Zv j;rw[Q8]at this;lia
   refine⟨_,rfl,l,rfl,⟨_,yu.of zC⟩,qW (K:=K) (a:=l) (xs:=(Ut x).map V.str) (fun i r s n=>∃o,s=[o]/\zz (upd H l<|.lst<|(Ut x).map V.str) n/\r=(((Ut x).take i).map zP).map V.bl) ⟨none,rfl,zz.refl _,rfl⟩ (zm (by rw[Q8];lia)) ?_ ?_ ?_⟩
   ·rintro i r s n J ⟨o,rfl,g,rfl⟩;refine⟨yu.of<|g _ _ zC,?_⟩;rw[Q8,Q8,ZB];lia
   ·rintro i y r s n c ⟨o,rfl,g,rfl⟩;rw[Zk]at c;cases q:(Ut x)[i]? with
    |none=>rw[q]at c;cases c
    |some z =>
     rw[q]at c;have c:V.str z=y:=Option.some.inj c;subst c;have O:=Hr<|Zn q;refine⟨_,rfl,.str z,_,rfl,rfl,Zg<|by lia,fun I D=>⟨_,rfl,g.trans D,?_⟩⟩;rw[y7 q,Zl];rfl
   ·rintro r s n ⟨o,rfl,g,rfl⟩ p C;refine⟨p,_,rfl,yu.of zC,?_⟩;rw[Q8,ZH,all_map];have e:XR (.str x)=(Ut x).all zP:=by
     show(decide ((Ut x).length<=4)&&(Ut x).all zP)=_;rw[Zg j];rfl
    rw[e]at k;exact k _<|(u.trans g).trans<|zE C
  ·have e:XR (.str x)=false:=by
    show(decide ((Ut x).length<=4)&&(Ut x).all zP)=_;rw[Zo (p:=(Ut x).length<=4)<|fun z=>j<|Zg (by rw[Q8];lia)];rfl
   rw[e]at k;exact k _ u
 |none=>exact Uo<|k _<|zz.refl _
 |bool b=>exact Uo<|k _<|zz.refl _
 |int i=>exact Uo<|k _<|zz.refl _
 |list ds=>exact Uo<|k _<|zz.refl _
 |tuple ds=>exact Uo<|k _<|zz.refl _
 |dict Dm=>exact Uo<|k _<|zz.refl _
end AE
namespace AF
abbrev st:Stmt:=top 35
theorem sc:zx ["path"] ["path"] (zG st):=Cp
theorem ok (F:wY K "labels_of" "labels_of" st f fd)(T:Txt P w K mg t1 t2 t3 t4 t5 t6 t7 aL aC aN aT aA b1 b2)(g:wZ P w K mg base 2 "is_path" ["thing"]<|rG K):yx P w K mg base (CH P w) 3 f fd ["path"] (rU K b1):=by
 refine F.pY sc fun _ _ _ _ H s Q E j h=>?_;obtain⟨d,v,rfl,hd,e,n,o⟩:=h;refine⟨_,(zD (yI (yW<|zS (K:=K)<|zJ g j.m<|zA (pv 0) zB) (zF<|qO rfl xV rfl T.m7 T.oF<|zA zq zB) zT)<|zF<|zM<|qN Z8 VD VE Gu (pv 0)<|zA zq zB),?_⟩
 refine⟨_,rfl,d,v,rfl,hd,e,fun r c=>⟨_,rfl,?_⟩⟩;cases q:XR d with
 |true =>
  cases d with
  |str x =>
   cases(show v=_ from hd);have t:x.length<=1000:=Zv e;refine Ur ⟨_,rfl,rfl,x,47,rfl,RW,by lia,fun l p=>?_⟩;rw[MH];exact n x rfl q l _ (c.trans<|zE p)<|yu.of zC
  |none=>cases q
  |bool b=>cases q
  |int i=>cases q
  |list ds=>cases q
  |tuple ds=>cases q
  |dict Dm=>cases q
 |false=>exact Uo ⟨Uq 1,o q _ c⟩
end AF
namespace AG
abbrev st:Stmt:=top 36
theorem sc:zx ["path","labels"] ["path"] (zG st):=Cp
theorem ok (F:wY K "folders_of" "folders_of" st f fd)(T:Txt P w K mg t1 t2 t3 t4 t5 t6 t7 aL aC aN aT aA b1 b2):yx P w K mg base Cn 1 f fd ["path"] (pG K):=by
 refine F.ok sc fun _ _ _ _ H G Q E D h=>?_;obtain⟨x,rfl,I,k⟩:=h;refine⟨_,(zD (Co (i:=1) sc.nd<|qN Z8 VD VE Gu (pv 0)<|zA zq zB)<|zF<|zM<|xN (sc:=zG st) (N:=["path","labels"]) (N':=["count","labels"]) (src:=[none,some 1]) .a rfl rfl rfl (O2 rfl T.range<|zA zI<|zA (zK z7 (by rfl) T.len Z5<|zA (pv 1) zB) zB) (fun _ _ _ _=>(zQ (i:=0) (show(["count","labels"]:Da).Nodup by decide +kernel) rfl (EE rfl))) (fun _ _ _ _=>x9) (fun _ _ _ _=>(Rw (K:=K) Z8 VL VM (Rj (K:=K)) zq<|zA (kX (nj:W9 _<|aY K) (pv 1) Xd<|v7<|pv 0) zB))),?_⟩
 have cl:=vW x;have A:=P0 x;have j:("/":Str).length=1:=by decide +kernel
 refine⟨_,rfl,rfl,x,47,rfl,RW,by lia,fun l z=>?_⟩;rw[MH];have u:=zE (o:=.lst<|(Ut x).map V.str) z;refine⟨_,rfl,l,_,rfl,.inl<|yu.of zC,1,(((Ut x).map V.str).length:Int),rfl,⟨by decide,by decide,by lia,by rw[Q8];lia⟩,?_⟩;have q:((((Ut x).map V.str).length:Int)-1).toNat=(Ut x).length-1:=by rw[Q8];lia
 rw[q];refine XX (fun i d e c=>∃o,e=[o,some<|.ref l]/\zz (upd H l<|.lst<|(Ut x).map V.str) c/\d=((EC i).map fun i=>PySem.Txt.join "/"<|(Ut x).take<|i+1).map V.str) ⟨none,rfl,zz.refl _,rfl⟩ (zm<|by lia) ?_ ?_ ?_
 ·rintro i d e c t ⟨o,rfl,b,rfl⟩;rw[Q8,Q8,Yz];exact Zf _
 ·rintro i d e c t ⟨o,rfl,b,rfl⟩;refine⟨rfl,_,rfl,_,rfl,_,rfl,l,_,rfl,yu.of<|b _ _ zC,fun p g=>?_⟩;have r:UT ((Ut x).map V.str) none (some<|1+(i:Int))=((Ut x).take<|i+1).map V.str:=by
   rw[Wc<|by lia,Vf]
   congr 1
   lia
  rw[r];refine⟨"/",p,(Ut x).take<|i+1,rfl,rfl,.inl<|yu.of zC,?_,_,rfl,b.trans<|zE g,?_⟩
  ·have B:=Ng (n:=1000) ((Ut x).take<|i+1) (fun y v=>by have:=Hr<|Jj v;lia);have s:((Ut x).take<|i+1).length<=1001:=by rw[ZB];lia
   have C:((Ut x).take<|i+1).length*1000<=1001*1000:=Nat.mul_le_mul_right _ s;refine zm ?_;rw[j];lia
  ·rw[List.range_succ,Zl,Zl];rfl
 ·rintro d e c ⟨o,rfl,b,rfl⟩ p g;exact k p _ ((u.trans b).trans<|zE g)<|yu.of zC
end AG
namespace AH
abbrev st:Stmt:=top 37
theorem sc:zx ["path","lines"] ["path","lines"] (zG st):=Cp
theorem ok (F:wY K "is_file" "is_file" st f fd)(T:Txt P w K mg t1 t2 t3 t4 t5 t6 t7 aL aC aN aT aA b1 b2)(j:wZ P w K mg base 2 "is_path" ["thing"]<|rG K)(i:wZ P w K mg base 3 "is_lines" ["thing"]<|FL K):yx P w K mg base Cn 4 f fd ["path","lines"] (pI K):=by
 refine F.ok sc fun _ _ _ _ H s Q E g h=>?_;obtain⟨d,e,v,u,rfl,hd,l,o,p,k⟩:=h;refine⟨_,(zF<|zM<|xB (zJ j g.m<|zA (pv 0) zB)<|xK<|zJ i g.m<|zA (pv 1) zB),?_⟩;refine⟨_,rfl,d,v,rfl,hd,o,fun q c=>⟨_,rfl,Uw (fun b=>?_)<|fun b=>?_⟩⟩
 ·rw[b,Uk]at k;exact⟨_,rfl,e,u,rfl,Dw.same c _ _ l,p,fun r n=>k _<|c.trans n⟩
 ·have b:=Yx.mpr b;rw[b]at k;exact k _ c
end AH
namespace AI
abbrev st:Stmt:=top 43
theorem sc:zx ["shelf","rows"] ["shelf","rows"] (zG st):=Cp
theorem ok (F:wY K "put_rows" "put_rows" st f fd)(T:Txt P w K mg t1 t2 t3 t4 t5 t6 t7 aL aC aN aT aA b1 b2)(I:tQ P w K mg base aC 7 "put" ["self","thing"]<|tZ P w K aC aN aT):yx P w K mg base Cn 8 f fd ["shelf","rows"] (ug P w K aC):=by
 refine F.ok sc fun _ _ _ _ H vs Q E B h=>?_;obtain⟨a,d,fp,S,rows,rfl,sh,ok,hd,nd,i,rl,X,k⟩:=h;refine⟨_,(zF<|zM<|xO (pv 0) T.cls I B.m zZ<|zA (yQ<|zA zq<|zA (z6 GW (by rfl) T.tuple YG<|zA (Rz (K:=K) rfl B.units (by rfl) T.sorted Jg<|pv 1) zB) zB) zB),?_⟩;obtain⟨O,i1,i2,i3,t⟩:=XG sh;have j:∀r∈rows,zP r.1=true/\Ok 1000 r.2:=fun r m=>by
  obtain⟨e,N,L⟩:=Zc.mp<|Sr (i r m).2;exact⟨(i r m).1,by rw[←L];exact ok.nm N⟩
 refine⟨_,rfl,a,O,_,rfl,t,rfl,_,rfl,d,rows,rfl,hd,by lia,fun p A=>⟨(uR (j p A).1).ok,(j p A).2.ok⟩,fun l ss s z pm Z Y nl hl dt=>?_⟩;have M:=RX nd pm Z;subst M;refine⟨l,_,rfl,.inl ⟨yu.of hl,fun n n2=>?_⟩⟩;have D:=zE (o:=.tup s) n2;refine⟨Uq 2,fun q R=>?_⟩;have y:=zE (o:=.tup [V.str "tree",V.ref n]) R;have c:=(Y.trans D).trans y;have J:Dt K (upd (upd z n<|.tup s) q<|.tup [V.str "tree",V.ref n]) (Th.tree<|Uy rows).dat (.ref q):=⟨q,_,rfl,xu.of zC,_,_,rfl,rfl,_,_,rfl,⟨n,s,rfl,xu.of<|y _ _ zC,zy.same (D.trans y) _ _ dt⟩,rfl⟩;have C:∀{r},r∈Uy rows↔r∈rows:=(xF rows).mem_iff;have g:Xw (.tree<|Uy rows):=OJ (fun r m=>j r<|C.mp m) (Tc<|GK nd) (by rwa[(xF rows).length_eq]);have u:namesOk S (.tree<|Uy rows)=true:=ZU.mpr fun r m=>(i r<|C.mp m).2;delta Gd;dsimp only;show tZ P w K aC aN aT [V.ref a,V.ref q] (upd (upd z n<|.tup s) q<|.tup [V.str "tree",V.ref n]) _ _;exact RI (sh.same c) ok g u X J fun G v x=>k G (fun b o U e=>v b o U<|c _ _ e) x
end AI
end
end An13
namespace An
open PySem L2
theorem Tv (fs:Dk)(i:Nat):wt (fs.take i)<=wt fs:=by
 have:=Nn (fs.take i)<|fs.drop i;rw[Yg]at this;lia
theorem Rg {fs:Dk}{i:Nat}{v:Str×Da}(h:v∈Ck (fs.take i)):v∈Ck fs:=by
 obtain⟨a,b⟩:=v;exact wG.mpr<|Jj<|wG.mp h
theorem aI (ok:xr S)(g:za n fs)(hs:S.length+1+wt fs<=2000)(i:Nat) :
  xr ((Ck<|fs.take i).foldl Cf (S,[])).1/\((Ck<|fs.take i).foldl Cf (S,[])).1.length<2000/\((Ck<|fs.take i).foldl Cf (S,[])).2.map (·.1)=(Ck<|fs.take i).map (·.1):=by
 have hm:=many<|fs.take i;have f:=Tv fs i;obtain⟨b,e⟩:=Ik (d:=0) (Ck<|fs.take i) (Fo.nil ok) (fun v c=>(g.wV _<|wG.mp<|Rg c).2.2.2) (by lia);refine⟨b.ok,by lia,?_⟩;rw[b.wV,V0,ZC];rfl
theorem TB {d:Nat}(ok:xr S)(g:za (d+1) fs)(hl:fs.length<=63)(hs:S.length+1+wt fs<=2000)(ls c:Da)(e:ls++c=Cm fs) :
  Fo (d+1) S (ls.foldl (Cj d fs)<|(Ck fs).foldl Cf (S,[])).1 (ls.foldl (Cj d fs)<|(Ck fs).foldl Cf (S,[])).2 ((Ck fs).map (fun v=>(v.1,[(([],v.2):Fi)]))++ls.map fun l=>(l,sub fs l)) /\
  (ls.foldl (Cj d fs)<|(Ck fs).foldl Cf (S,[])).1.length+(c.map fun l=>1+wt (sub fs l)).sum<=S.length+wt fs:=by
 have hm:=many fs;rw[←e,Zl,Vi]at hm;obtain⟨n,w⟩:=Ik (d:=d) (Ck fs) (Fo.nil ok) (fun v t=>(g.wV _<|wG.mp t).2.2.2) (by lia);rw[V0]at n;have H:∀l∈ls,∀S,xr S->S.length+1+wt (sub fs l)<=2000->wD (d+1) S (sub fs l) (Uv d S<|sub fs l)/\(Uv d S<|sub fs l).1.length<=S.length+1+wt (sub fs l):=fun l h u j i=>by
  cases d with
  |zero =>
   obtain⟨f,s,b,r,q⟩:=((xJ fs).2 l).mp (by rw[←e];exact ZX _ h);have:=(g.wV f s).2.1;rw[q,Zr,Zr]at this;lia
  |succ d=>exact Il d j (g.sub l) (Z0 sub_len hl) i
 obtain⟨p,o⟩:=K1 ls H (S:=((Ck fs).foldl Cf (S,[])).1) (rows:=((Ck fs).foldl Cf (S,[])).2) n (by lia);refine⟨p,?_⟩;have o:(ls.foldl (Cj d fs)<|(Ck fs).foldl Cf (S,[])).1.length<=_:=o;lia
theorem bP {d:Nat}(ok:xr S)(g:za (d+1) fs)(hl:fs.length<=63)(hs:S.length+1+wt fs<=2000){j:Nat}{l:Str}(e:(Cm fs)[j]?=some l) :
  xr (((Cm fs).take j).foldl (Cj d fs)<|(Ck fs).foldl Cf (S,[])).1/\(((Cm fs).take j).foldl (Cj d fs)<|(Ck fs).foldl Cf (S,[])).1.length+1+wt (sub fs l)<=2000 /\
  (((Cm fs).take j).foldl (Cj d fs)<|(Ck fs).foldl Cf (S,[])).2.map (·.1)=(Ck fs).map (·.1)++(Cm fs).take j:=by
 obtain⟨b,c⟩:=TB ok g hl hs ((Cm fs).take j) ((Cm fs).drop j)<|Yg _ _;have hd:(Cm fs).drop j=l::(Cm fs).drop (j+1):=by
  have:=(Zw.mp e);rw[←this.2];exact JA this.1
 rw[hd,Zu,Yl]at c;refine⟨b.ok,by lia,?_⟩;rw[b.wV,Zl,ZC,ZC]
 congr 1
 exact VW _
theorem au {d:Nat}(ok:xr S)(g:za (d+1) fs)(hl:fs.length<=63)(hs:S.length+1+wt fs<=2000){q:List En×Dg}(e:q=(Cm fs).foldl (Cj d fs) ((Ck fs).foldl Cf (S,[]))) :
  xr q.1/\q.1.length<2000/\(q.2.map (·.1)).Nodup/\(∀r∈q.2,zP r.1=true/\∃e,Tree e q.1 r.2)/\q.2.length<=63:=by
 subst e;obtain⟨b,f⟩:=TB ok g hl hs (Cm fs) []<|ZG _;have b:Fo (d+1) S _ _ (pieces fs):=b;have f:_+0<=S.length+wt fs:=f;have o:=qV fs;refine⟨b.ok,by lia,by rw[b.wV];exact Xz g,fun r j=>?_,?_⟩
 ·obtain⟨i,c⟩:=Ja.mp j;have n:=(Zw.mp c).1;have h:=Zj (l:=pieces fs) (i:=i) (by rwa[←b.len]);have e:=congrArg (fun l=>l[i]?) b.wV;simp only[Zk,c,h,Yt]at e;exact⟨by rw[Option.some.inj e];exact(Bt g _<|YL _).1,d+1,(b.rd i r _ c h).1⟩
 ·rw[b.len];unfold pieces;rw[Zh,Q8,Q8];lia
theorem Kf (l:Str):Cc [l]=l:=xq<|jN l
theorem S5 (l b:Str)(r:Da):Cc (l::b::r)=l++⟨#[47]⟩++Cc (b::r):=xq (by
 rw[x5 l<|ZR _ _,zr,zr];show _=cs l++[47]++_;simp)
theorem WH (l b:Str)(r:Da):l≠Cc (l::b::r):=fun z=>by
 have:=congrArg (fun x=>(cs x).length) z;simp only[x5 l<|ZR b r,Zh,Zr]at this;lia
theorem Iu:∀{p:Da},(∀l∈p,zP l=true)->(cs<|Cc p).length<=9*p.length
 |[],_=>by
  show(cs<|Lp "/" []).length<=0;rw[qI];exact Zf _
 |[l],h=>by
  have:=h l<|Q9.mpr rfl;rw[jN];unfold zP at this;rw[Zm,Zm,ZM,ZM,zj]at this;show _<=9;lia
 |l::b::r,h=>by
  have c:=h l<|Ze ..;have e:=Iu (p:=b::r) fun x d=>h x<|Zb _ d;rw[x5 l<|ZR _ _,Zh,Zr];unfold zP at c;rw[Zm,Zm,ZM,ZM,zj]at c;rw[Zr]at e ⊢;rw[Zr];lia
theorem Tk (g:za n fs){i:Nat}{f:Fi}{l b:Str}{r:Da}(o:fs[i]?=some f)(e:f.1=l::b::r):(.inr (Cc (b::r)):Key)∉(sub (fs.take i) l).map fun k=>(.inr (Cc k.1):Key):=fun z=>by
 obtain⟨k,hk,q⟩:=Zc.mp z;have q:Cc k.1=Cc (b::r):=Sum.inr.inj q;obtain⟨v,hk⟩:=wH.mp hk;have y:=(g.wV _<|Jj hk).2.2.1;have w:=(g.wV _<|Zn o).2.2.1;have q:=qF (d:=0) v (ZR _ _) (fun x h=>y x<|Zb _ h) (fun x h=>w x (by rw[e];exact Zb _ h)) q;obtain⟨j,c⟩:=Ja.mp hk;rw[List.getElem?_take]at c
 split at c
 ·rename_i C;have t:(fs.map (·.1))[j]?=some f.1:=by rw[Zk,c];show some (l::k.1)=_;rw[q,e]
  have u:(fs.map (·.1))[i]?=some f.1:=by rw[Zk,o];rfl
  obtain⟨A,p⟩:=Zw.mp t;obtain⟨B,s⟩:=Zw.mp u;have:=(Jc g.nd).mp<|p.trans s.symm;lia
 ·cases c
end An
namespace L2
open PySem PySem.Spec PyProof.Rows
theorem HK (x:Str)(c:Nat)(t u:Tok)(d:E1 x ⟨#[c]⟩ 0 x.length 1=[]):Meets (Builtin.«str.partition» ⟨[.str x t,.str ⟨#[c]⟩ u],[]⟩)
  (fun _ R s=>R (.ok<|.ret<|.ref s.heap.objs.size) { s with heap:=s.heap.push { cls:=.type "tuple",data:=.seq #[.str x t,.str Mj s.toks,.str Mj s.toks] },toks:=s.toks+1 }) :=
 .of_wp fun prog w A R s h=>by
  obtain⟨b,e⟩:=partition_tree x ⟨#[c]⟩ t u;rw[e,Zt<|show¬((⟨#[c]⟩:Str).length==0)=true from(by show¬(1==0)=true;decide),d];refine Q7<|JQ ?_;refine Q7<|wpAny_mkStr ?_<|ZN _;refine Q7 (wpAny_newTuple ?_ (by show 3<=sizeLine;decide));exact Za ⟨_,rfl,h⟩
section
variable {X:Cx}
def RL:V->Dj->Hp->VK->Prop:=fun x b H Q=>∃(u:Str) (c:Nat),x=.str u/\b=[.str ⟨#[c]⟩]/\c∉An.cs u/\∀p,H p=none->Q (.ref p) (upd H p<|.tup [.str u,.str "",.str ""])
def WL:V->Dj->Hp->VK->Prop:=fun x b H Q=>TL x b H Q\/RL x b H Q
theorem G2:Sb X "str.partition" RL:=by
 intro g s l H x j v i Q I f e h;obtain⟨a,c,rfl,rfl,b,q⟩:=h;obtain⟨t,rfl⟩:=f;obtain⟨w,rfl,t',rfl⟩:=wW e;have d:E1 a ⟨#[c]⟩ 0 a.length 1=[]:=by
  rcases StrLaws.occ_head_from a ⟨#[c]⟩ 0 1 (Zf 1) with⟨h0,hn⟩|⟨k,r,h0,hlo,hk,hn⟩
  ·exact h0
  ·have hm:=(Mg _ c k).mp hk;have hm:(An.cs a)[k]?=some c:=hm;exact absurd (Zn hm) b
 refine Vm F.slot_str_partition (J2 s _ t) F.entry_str_partition (F.args_str_partition_2 _ _) (HK _ c t t' d) ?_;have hn:H s.heap.objs.size=none:=I.hok.fresh<|Zf _;refine⟨.ref s.heap.objs.size,_,I.laid (t':=s.toks+1) (a:=s.heap.objs.size) (o:=.tup [.str a,.str "",.str ""]) (fun _ _ q=>Zd _ q) (Zf _) ?_,rfl,q _ hn⟩;exact⟨by show 3<=sizeLine;decide,_,.cons ⟨_,rfl⟩<|.cons ⟨_,rfl⟩<|.cons ⟨_,rfl⟩ .nil,⟨_,Zp _ rfl,rfl,_,rfl,rfl⟩⟩
theorem G1:Sb X "str.partition" WL:=by
 intro b s g H x f v e Q I d c h
 rcases h with h|h
 ·exact vN b s g H x f v e Q I d c h
 ·exact G2 b s g H x f v e Q I d c h
end
end L2
namespace An13
open PySem L2 An
seal L2.PS L2.sX L2.PE L2.PT L2.PW L2.PA L2.PG L2.oX L2.PI L2.oU L2.PC
def GA (P:Eg)(w:Ek)(K:Cd)(C:Ef):Nat->Sp
 | 0=>fun _ _ _ _=>False
 |d+1=>fun g H Q _=>∃(a c:Ef) (b:Dd) (S:Di) (fs:Dk) (f:Dl),g=[.ref a,.ref c]/\yg P w K C H a b S/\xr S/\H c=some (.dK f)/\c∉b/\ye K H fs f/\za (d+1) fs/\fs.length<=63/\S.length+1+wt fs<=2000 /\
  ∀e,Off b H e->yg P w K C e a b (Uv (d+1) S fs).1->Q (.str (Uv (d+1) S fs).2) e
theorem yc {α:Type}{l:List α}{i:Nat}{x:α}(h:l[i]?=some x):l.take (i+1)=l.take i++[x]:=by rw[Yy,h];rfl
theorem Gf {g:TG}{f:TS}{D:Ends}{b:St}{H:Hp}{d:Ef}{e:Obj}{Dm:Dl}(c:Nat->St->Hp->Prop)(j:c 0 b H)(hl:∀i b H,i<=Dm.length->c i b H->H d=some (.frz e<|.dK Dm))
  (hs:∀i k v T b H,Dm[i]?=some (k,v)->c i b H->H T=none->∀D':Ends,(∀b H,c (i+1) b H->D'.nx b H)->g (.ref T) b (upd H T<|.tup [kV k,v]) fun σ2 H2=>f D' σ2 H2) (hd:∀b H,c Dm.length b H->D.nx b H):Ol (bB d Dm e) g f D b H :=
 BU c j hl (fun i k v T b H h p n=>hs i k v T b H h p n _ fun _ _ h=>h) hd
section
variable {P:Eg}{w:Ek}{K:Cd}{mg:Str->Dc}{base:Ev}{t1 t2 t3 t4 t5 t6 t7:Tok}{aL aC aN aT aA b1 b2:Ef}
namespace AJ
abbrev st:Stmt:=top 45
theorem sc:zx ["shelf","files","rows","folders","path","lines","parts","label","beneath"] ["shelf","files"] (zG st):=Cp
theorem step {L d:Nat}(F:wY K "put_files" "put_files" st f fd)(T:Txt P w K mg t1 t2 t3 t4 t5 t6 t7 aL aC aN aT aA b1 b2)(Qc:tQ P w K mg base aC 7 "put" ["self","thing"]<|tZ P w K aC aN aT)(Qg:wZ P w K mg base 8 "put_rows" ["shelf","rows"]<|ug P w K aC)(hL:8<=L)(hd:d<=100)(Qu:wZ P w K mg base L "put_files" ["shelf","files"]<|GA P w K aC d):yx P w K mg base Cn (L+1) f fd ["shelf","files"] (GA P w K aC<|d+1):=by
 refine F.ok sc fun _ _ _ _ H vs Q E hr h=>?_;obtain⟨a,c,A,S,fs,Dm,rfl,sh,ok,hc,dj,ff,gf,fl,sl,k⟩:=h;have hu:=Hl hr;refine⟨_,(zD (Co (i:=2) sc.nd qQ)<|zD (Co (i:=3) sc.nd qQ)<|zD (U5<|xA EL rfl (IM<|XB<|pv 1) (XA rfl<|yM (zQ (i:=4) sc.nd rfl<|EE rfl)<|yM (zQ (i:=5) sc.nd rfl<|EE rfl) kD)<|zD (Co (i:=6) sc.nd<|qN Z8 PySem.F.slot_str_partition PySem.F.type_str_partition G1 (pv 4)<|zA zq zB)<|zD (Co (i:=7) sc.nd<|zY (yw:Cl _<|xg K) (pv 6) zI)<|zF<|yI (zX qM (pv 7) (pv 4)<|zW _) (zF<|qK hu (pv 2) (pv 7) (xO (pv 0) T.cls Qc (hr.mono<|by lia) zZ<|zA (yQ<|zA zq<|zA (pv 5) zB) zB) rfl)<|zD (Co (i:=8) sc.nd<|IW hu (pv 3) (pv 7) qQ ⟨rfl,rfl,rfl,rfl⟩)<|zD (qK hu (pv 8) (zY (yw:Cl _<|xg K) (pv 6) zI) (pv 5) rfl)<|zF<|qK hu (pv 3) (pv 7) (pv 8) rfl)<|zD (U5<|xA EL rfl (IM<|XB<|pv 3) (XA rfl<|yM (zQ (i:=7) sc.nd rfl<|EE rfl)<|yM (zQ (i:=8) sc.nd rfl<|EE rfl) kD)<|zF<|qK hu (pv 2) (pv 7) (zJ Qu (hr.mono<|by lia)<|zA (pv 0)<|zA (pv 8) zB) rfl)<|zF<|zM<|zJ Qg (hr.mono<|by lia)<|zA (pv 0)<|zA (pv 2) zB),?_⟩
 refine fun g d1=>?_;have u1:=zE (o:=.dK []) d1;refine fun n dk=>?_;have u2:=zE (o:=.dK []) dk;have sb:=u1.trans u2;have d7:upd (upd H g (.dK [])) n (.dK []) g=some (.dK<|Ct []):=u2 _ _ zC;have d5:upd (upd H g (.dK [])) n (.dK []) n=some (.dK<|Cw []):=zC;have d2:=sh.same sb;have c1:=sb _ _ hc;have dp:=ff.same sb;have bo:H g=none:=d1;have ax:H n=none:=u1.free dk;have rf:g≠n:=zR (zC (H:=H) (a:=g) (o:=.dK [])) dk;generalize upd (upd H g (.dK [])) n (.dK [])=Hb at sb d7 d5 d2 c1 dp ⊢;have cr:c≠g:=zR hc bo;have cf:c≠n:=zR hc ax;refine⟨_,rfl,c,Dm,rfl,c1,fun ob=>?_⟩;have b3:upd Hb c (.frz ob<|.dK Dm) c=some (.frz ob<|.dK Dm):=zC;have nz:∀{b:Ef},b≠c->upd Hb c (.frz ob<|.dK Dm) b=Hb b:=fun{b} z=>zH z;have oz:Off [c] Hb (upd Hb c<|.frz ob<|.dK Dm):=yF;have ch:yg P w K aC (upd Hb c<|.frz ob<|.dK Dm) a A S:=d2.off (yB c1) oz fun b hb z=>dj<|Q9.mp z▸hb;have dq:=dp.off (yB c1) oz;have cd:upd Hb c (.frz ob<|.dK Dm) g=some (.dK<|Ct []):=by rwa[nz<|EB cr]
 have a8:upd Hb c (.frz ob<|.dK Dm) n=some (.dK<|Cw []):=by rwa[nz<|EB cf]
 have dr:∀{b:Ef},upd Hb c (.frz ob<|.dK Dm) b=none->Hb b=none/\b≠c:=fun{b} z=>by
  have ne:b≠c:=fun q=>by rw[q,zC]at z;cases z
  rw[nz ne]at z;exact⟨z,ne⟩
 generalize upd Hb c (.frz ob<|.dK Dm)=H1 at b3 nz oz ch dq cd a8 dr ⊢;have dn:∀b∈g::n::A,∃o,H1 b=some o:=fun b hb=>by
  rcases Zi.mp hb with z|hb
  ·rw[z];exact⟨_,cd⟩
  ·rcases Zi.mp hb with z|hb
   ·rw[z];exact⟨_,a8⟩
   ·exact ch.ex b hb
 have c5:g∉A:=fun z=>by
  obtain⟨o,e⟩:=sh.ex _ z;rw[bo]at e;cases e
 have bz:n∉A:=fun z=>by
  obtain⟨o,e⟩:=sh.ex _ z;rw[ax]at e;cases e
 have cX:c∉g::n::A:=fun z=>by
  rcases Zi.mp z with z|z
  ·exact cr z
  ·rcases Zi.mp z with z|z
   ·exact cf z
   ·exact dj z
 have kl:Dm.length=fs.length:=ff.len;have d9:∀b∈g::n::A,∀xs,¬Rd H1 b (.tup xs):=fun b hb=>by
  rcases Zi.mp hb with z|hb
  ·exact yB cd b (Q9.mpr z)
  ·rcases Zi.mp hb with z|hb
   ·exact yB a8 b (Q9.mpr z)
   ·exact ch.wR.tup b hb
 refine⟨c,ob,Dm,rfl,b3,Gf (fun i σ t=>∃o4 o5 o6 o7 o8 s,σ=[some<|.ref a,some<|.ref c,some<|.ref g,some<|.ref n,o4,o5,o6,o7,o8]/\yg P w K aC t a A ((Ck<|fs.take i).foldl Cf (S,[])).1/\t g=some (.dK<|Ct ((Ck<|fs.take i).foldl Cf (S,[])).2)/\t n=some (.dK<|Cw s)/\wI K H1 t (fs.take i) s/\Off (g::n::A) H1 t) ⟨none,none,none,none,none,[],rfl,ch,cd,a8,wI.nil,Off.refl _ _⟩ (fun i σ t hi h=>?_) ?_ ?_⟩
 ·obtain⟨_,_,_,_,_,_,_,_,_,_,_,o⟩:=h;exact o _ _ cX b3
 ·rintro i kk v T0 σ t hi ⟨o4,o5,o6,o7,o8,s,rfl,M,Y,ap,Fl,G⟩ nT D' hD;obtain⟨f,dd,rfl,dv,a2⟩:=dq.get hi;obtain⟨cx,cv,cg⟩:=aI ok gf sl i;have ct:=yc dd;have ds:=gf.wV f<|Zn dd;have dm:Dt K t (AnJ.yo f.2) v:=Dt.off d9 G _ _ (uV a2) dv;have uT:=zE (o:=.tup [kV<|.inr<|Cc f.1,v]) nT;refine⟨T0,_,rfl,xu.of zC,rfl,_,_,rfl,_,_,rfl,rfl,?_⟩;have bm:=M.same uT;have b4:=uT _ _ Y;have ay:=uT _ _ ap;have a5:=Fl.same uT;have bd:=G.trans<|Off.of uT;have c7:=Dt.same uT _ _ dm;generalize upd t T0 (.tup [kV<|.inr<|Cc f.1,v])=H2 at bm b4 ay a5 bd c7 ⊢;clear M Y ap Fl G dm nT uT;have go:∀{U:Hp},zz H2 U->yg P w K aC U a A ((Ck<|fs.take i).foldl Cf (S,[])).1/\U g=some (.dK<|Ct ((Ck<|fs.take i).foldl Cf (S,[])).2)/\U n=some (.dK<|Cw s)/\wI K H1 U (fs.take i) s/\Off (g::n::A) H1 U/\Dt K U (AnJ.yo f.2) v:=fun{U} e=>⟨bm.same e,e _ _ b4,e _ _ ay,a5.same e,bd.trans<|Off.of e,Dt.same e _ _ c7⟩;have a7:∀{U:Hp} {b:Ef},yg P w K aC U a A ((Ck<|fs.take i).foldl Cf (S,[])).1->U g=some (.dK<|Ct ((Ck<|fs.take i).foldl Cf (S,[])).2)->U n=some (.dK<|Cw s)->Off (g::n::A) H1 U->U b=none->H1 b=none:=fun{U b} h1 h2 h3 o z=>by
   cases q:H1 b with
   |none=>rfl
   |some x =>
    by_cases m:b∈g::n::A
    ·rcases Zi.mp m with y|m
     ·rw[y,h2]at z;cases z
     ·rcases Zi.mp m with y|m
      ·rw[y,h3]at z;cases z
      ·obtain⟨o',e'⟩:=h1.ex b m;rw[e']at z;cases z
    ·rw[o b x m q]at z;cases z
  have ql:((Ck<|fs.take i).foldl Cf (S,[])).2.length<=63:=by
   have:=congrArg List.length cg;rw[Q8,Q8]at this;have h2:=qV<|fs.take i;rw[ZB]at h2;lia
  match e1:f.1,ds with
  |[],gl=>exact absurd rfl gl.1
  |[l],gl =>
   have ep:Cc [l]=l:=Kf l;rw[ep];have dh:zP l=true:=gl.2.2.1 l<|Q9.mpr rfl;refine⟨_,rfl,rfl,.inr ⟨l,47,rfl,RW,y8 dh,fun p np=>?_⟩⟩;have up:=zE (o:=.tup [V.str l,V.str "",V.str ""]) np;obtain⟨N,Z,C,J,an,a6⟩:=go up;refine⟨_,rfl,p,_,_,_,rfl,rfl,xu.of zC,rfl,?_⟩;refine⟨_,rfl,_,rfl,rfl,true,?_,Uo ?_⟩
   ·show V.bl (decide (V.str l=V.str l))=V.bl true;rw[Zg rfl]
   generalize upd H2 p (.tup [V.str l,V.str "",V.str ""])=U at N Z C J an a6 ⊢;obtain⟨ix,i1,i2,i3,d6⟩:=XG N;refine⟨_,rfl,a,ix,_,rfl,d6,rfl,_,rfl,Uq 2,fun p4 n4=>?_⟩;have v4:=zE (o:=.tup [V.str "leaf",v]) n4;obtain⟨vp,eh,rfl,vt,vd⟩:=id a6;have d0:Dt K (upd U p4<|.tup [V.str "leaf",V.ref vp]) (Th.leaf f.2).dat (.ref p4):=⟨p4,_,rfl,xu.of zC,_,_,rfl,rfl,_,_,rfl,Dt.same v4 _ _ a6,rfl⟩;have a4:=N.same v4;have a9:=v4 _ _ Z;have a0:=v4 _ _ C;have R:=J.same v4;have as:=an.trans<|Off.of v4;delta Gd;dsimp only;show tZ P w K aC aN aT [V.ref a,V.ref p4] (upd U p4<|.tup [V.str "leaf",V.ref vp]) _ _;generalize upd U p4 (.tup [V.str "leaf",V.ref vp])=H4 at d0 a4 a9 a0 R as ⊢;have el:Ck (fs.take<|i+1)=Ck (fs.take i)++[(l,f.2)]:=by rw[ct,vY,e1]
   have ef:(Ck<|fs.take<|i+1).foldl Cf (S,[])=Cf ((Ck<|fs.take i).foldl Cf (S,[])) (l,f.2):=by rw[el,Y2];rfl
   have nl:l∉((Ck<|fs.take i).foldl Cf (S,[])).2.map (·.1):=fun z=>by
    rw[cg]at z;have nd:=Rf (fs:=fs.take<|i+1) (by rw[Vf];exact gf.nd.sublist<|List.take_sublist _ _);rw[el,Zl,Y4]at nd;exact nd.2.2 l z l (Q9.mpr rfl) rfl
   have dl:=R.one (f:=f) e1;rw[←ct]at dl;clear a7 go cg;generalize (Ck<|fs.take i).foldl Cf (S,[])=q at a4 a9 cx cv ef nl ql;refine RI a4 cx (OF a2.2 a2.1) rfl cv d0 fun H5 I O=>?_;have ab:H5 g=_:=I _ _ c5 a9;have D:H5 n=_:=I _ _ bz a0;have B:=dl.off (X:=A) (fun c hc=>dn c<|Zb _<|Zb _ hc) a4.wR.tup I;have a3:Off (g::n::A) H1 H5:=fun b o nb e=>I b o (fun z=>nb<|Zb _<|Zb _ z) (as b o nb e);refine⟨_,rfl,_,rfl,g,_,rfl,uw.k (k:=.inr l) ab<|yN (by unfold Ct;rw[Q8];lia),hD _ _ ⟨_,_,_,_,_,s,rfl,?_,?_,?_,?_,?_⟩⟩
   ·rw[ef];exact O.off (yB ab) yF fun b hb z=>c5<|Q9.mp z▸hb
   ·rw[ef,zC,N2 nl];rfl
   ·rwa[zH<|EB rf]
   ·exact B.off (X:=[g]) (fun c hc=>by rw[Q9.mp hc];exact⟨_,cd⟩) (yB ab) yF
   ·exact a3.upd (Ze ..)
  |l::b::r,gl =>
   have ep:Cc (l::b::r)=l++⟨#[47]⟩++Cc (b::r):=S5 l b r;have dh:zP l=true:=gl.2.2.1 l<|Ze ..;have pl:(Cc (l::b::r)).length<=100000:=by
    have:=Iu gl.2.2.1;have h4:=gl.2.1;rw[zj];lia
   have el:Ck (fs.take<|i+1)=Ck (fs.take i):=by rw[ct,vY,e1];exact ZG _
   have eg:=Tk gf dd e1;refine⟨_,rfl,rfl,.inl ⟨l,Cc (b::r),47,by rw[ep];rfl,RW,y8 dh,by rw[←ep];exact pl,fun p np=>?_⟩⟩;have up:=zE (o:=.tup [V.str l,V.str ⟨#[47]⟩,V.str<|Cc (b::r)]) np;obtain⟨N,Z,C,J,an,a6⟩:=go up;have de:upd H2 p (.tup [V.str l,V.str ⟨#[47]⟩,V.str<|Cc (b::r)]) p=some (.tup [V.str l,V.str ⟨#[47]⟩,V.str<|Cc (b::r)]):=zC;refine⟨_,rfl,p,_,_,_,rfl,rfl,xu.of zC,rfl,?_⟩;refine⟨_,rfl,_,rfl,rfl,false,?_,Ur ?_⟩
   ·show V.bl (decide (V.str l=V.str (Cc (l::b::r))))=V.bl false;rw[Zo fun z=>WH l b r<|by injection z]
   generalize upd H2 p (.tup [V.str l,V.str ⟨#[47]⟩,V.str<|Cc (b::r)])=U at N Z C J an a6 de ⊢;refine⟨_,rfl,n,rfl,.inl ⟨_,.inl C⟩,_,rfl,fun e ne=>?_⟩;have ue:=zE (o:=.dK []) ne;have c9:H1 e=none:=a7 N Z C an ne;have a4:=N.same ue;have a9:=ue _ _ Z;have a0:=ue _ _ C;have R:=J.same ue;have as:=an.trans<|Off.of ue;have c8:=Dt.same ue _ _ a6;have df:=ue _ _ de;have c2:upd U e (.dK []) e=some (.dK []):=zC;have d8:∀q∈s,q.2≠e:=fun q hq z=>by
    obtain⟨kq,dy,_⟩:=J.at_ q hq;rw[z,ne]at dy;cases dy
   generalize upd U e (.dK [])=H4 at a4 a9 a0 R as c8 df c2 ⊢;clear bm b4 ay a5 bd c7 go a7 N Z C J an a6 de up np;have di:s.map (·.1)=Cm (fs.take i):=R.wV;have db:s.length<=63:=by
    have:=congrArg List.length di;rw[Q8]at this;have h2:=qV<|fs.take i;rw[ZB]at h2;lia
   have dz:∀{x:Ef},H1 x=none->x∉g::n::A:=fun{x} hx z=>by
    obtain⟨o',e'⟩:=dn x z;rw[hx]at e';cases e'
   by_cases inl:l∈Cm (fs.take i)
   ·have c4:l∈s.map (·.1):=by rwa[di]
    obtain⟨pr,a1,da⟩:=Zc.mp c4;obtain⟨c0,pb⟩:=pr;have da:c0=l:=da;subst da;have vv:=vH R.sV a1;refine⟨_,wB.k (k:=.inr c0) a0,?_⟩;rw[vv];obtain⟨kb,hb,fb⟩:=R.at_ _ a1;have hb:H4 pb=some (.dK kb):=hb;have fb:ye K H4 (sub (fs.take i) c0) kb:=fb;have nb:H1 pb=none:=R.new _ a1;have ee:kb.length<=63:=by
     have:=fb.len;have h2:=sub_len (fs:=fs.take i) (l:=c0);rw[ZB]at h2;lia
    refine⟨_,rfl,_,rfl,_,rfl,p,_,_,_,rfl,rfl,xu.of df,rfl,pb,_,rfl,uw.k (k:=.inr<|Cc (b::r)) hb<|yN<|by lia,?_⟩;have pn:yd kb (.inr<|Cc (b::r)) v=kb++[(.inr<|Cc (b::r),v)]:=kC (by rwa[fb.keys]);rw[pn];have B:=R.old a1 hb fb e1 c8 a2;rw[←ct]at B;have bX:=dz nb;have cp:g≠pb:=fun z=>bX (by rw[←z];exact Ze ..);have cl:n≠pb:=fun z=>bX (by rw[←z];exact Zb _<|Ze ..);have co:pb∉A:=fun z=>bX<|Zb _<|Zb _ z;have I:Off (g::n::A) H1 (upd H4 pb<|.dK<|kb++[((.inr (Cc (b::r)):Key),v)]):=fun x o nx ex=>by
     rw[zH (fun z=>by rw[z,nb]at ex;cases ex)];exact as x o nx ex
    have O:=a4.off (yB hb) (yF (o:=.dK<|kb++[((.inr (Cc (b::r)):Key),v)])) fun x hx z=>co (by rwa[←Q9.mp z]);have ab:=(zH (o:=.dK<|kb++[((.inr (Cc (b::r)):Key),v)]) cp).trans a9;have D:=(zH (o:=.dK<|kb++[((.inr (Cc (b::r)):Key),v)]) cl).trans a0;generalize upd H4 pb (.dK<|kb++[((.inr (Cc (b::r)):Key),v)])=H5 at B I O ab D ⊢;refine⟨_,rfl,_,rfl,_,rfl,n,_,rfl,uw.k (k:=.inr c0) D<|yN (by unfold Cw;rw[Q8];lia),hD _ _ ⟨_,_,_,_,_,s,rfl,?_,?_,?_,?_,?_⟩⟩
    ·rw[el];exact O.off (yB D) yF fun x hx z=>bz<|Q9.mp z▸hx
    ·rwa[el,zH rf]
    ·rw[zC];exact congrArg (fun z=>some<|HO.dK z) (Hi R.sV a1)
    ·exact B.off (X:=[n]) (fun c hc=>by rw[Q9.mp hc];exact⟨_,a8⟩) (yB D) yF
    ·exact I.upd (Zb _<|Ze ..)
   ·have c4:l∉s.map (·.1):=by rwa[di]
    have vv:=PD c4;refine⟨_,wB.k (k:=.inr l) a0,?_⟩;rw[vv];refine⟨_,rfl,_,rfl,_,rfl,p,_,_,_,rfl,rfl,xu.of df,rfl,e,_,rfl,uw.k (k:=.inr<|Cc (b::r)) c2<|yN (by show 0<16777216;decide),?_⟩;have bX:=dz c9;have cp:g≠e:=fun z=>bX (by rw[←z];exact Ze ..);have cl:n≠e:=fun z=>bX (by rw[←z];exact Zb _<|Ze ..);have co:e∉A:=fun z=>bX<|Zb _<|Zb _ z;have pn:yd ([]:Dl) (.inr<|Cc (b::r)) v=[(.inr<|Cc (b::r),v)]:=rfl;rw[pn];have B:=R.mQ inl c2 c9 d8 e1 c8 a2;rw[←ct]at B;have I:Off (g::n::A) H1 (upd H4 e<|.dK [((.inr (Cc (b::r)):Key),v)]):=fun x o nx ex=>by
     rw[zH (fun z=>by rw[z,c9]at ex;cases ex)];exact as x o nx ex
    have O:=a4.off (yB c2) (yF (o:=.dK [((.inr (Cc (b::r)):Key),v)])) fun x hx z=>co (by rwa[←Q9.mp z]);have ab:=(zH (o:=.dK [((.inr (Cc (b::r)):Key),v)]) cp).trans a9;have D:=(zH (o:=.dK [((.inr (Cc (b::r)):Key),v)]) cl).trans a0;generalize upd H4 e (.dK [((.inr (Cc (b::r)):Key),v)])=H5 at B I O ab D ⊢;refine⟨_,rfl,_,rfl,_,rfl,n,_,rfl,uw.k (k:=.inr l) D<|yN (by unfold Cw;rw[Q8];lia),hD _ _ ⟨_,_,_,_,_,s++[(l,e)],rfl,?_,?_,?_,?_,?_⟩⟩
    ·rw[el];exact O.off (yB D) yF fun x hx z=>bz<|Q9.mp z▸hx
    ·rwa[el,zH rf]
    ·rw[zC];exact congrArg (fun z=>some<|HO.dK z) (Hh c4)
    ·exact B.off (X:=[n]) (fun c hc=>by rw[Q9.mp hc];exact⟨_,a8⟩) (yB D) yF
    ·exact I.upd (Zb _<|Ze ..)
 ·rintro σ t ⟨o4,o5,o6,o7,o8,s,rfl,M,Y,ap,Fl,G⟩;rw[kl,ZH]at M Y Fl;refine⟨c,ob,Dm,G _ _ cX b3,fun o u z=>?_,?_⟩
  ·have z:H c=some (.frz o u):=z;rw[hc]at z;cases z
  have du:=G _ _ cX b3;have cu:∀x∈[c],∀xs,¬Rd t x (.tup xs):=fun x hx xs z=>by
   rw[Q9.mp hx]at z
   rcases z with z|⟨o,z⟩<;>rw[du]at z<;>cases z
  have oc:Off [c] t (upd t c<|.dK Dm):=yF;have bm:yg P w K aC (upd t c<|.dK Dm) a A ((Ck fs).foldl Cf (S,[])).1:=M.off cu oc fun x hx z=>dj<|Q9.mp z▸hx;have b4:upd t c (.dK Dm) g=some (.dK<|Ct ((Ck fs).foldl Cf (S,[])).2):=by rwa[zH<|EB cr]
  have ay:upd t c (.dK Dm) n=some (.dK<|Cw s):=by rwa[zH<|EB cf]
  have a5:wI K H1 (upd t c<|.dK Dm) fs s:=Fl.off (X:=[c]) (fun x hx=>by rw[Q9.mp hx];exact⟨_,b3⟩) cu oc;have bd:Off A H (upd t c<|.dK Dm):=fun x o nx ex=>by
   by_cases z:x=c
   ·rw[z,zC];rw[z,hc]at ex;exact ex
   ·rw[zH z];refine G x o (fun q=>?_) (by rw[nz z];exact sb _ _ ex)
    rcases Zi.mp q with q|q
    ·rw[q,bo]at ex;cases ex
    ·rcases Zi.mp q with q|q
     ·rw[q,ax]at ex;cases ex
     ·exact nx q
  generalize upd t c (.dK Dm)=H2 at bm b4 ay a5 bd ⊢;clear M Y ap Fl G du cu oc;refine⟨_,rfl,n,Cw s,rfl,ay,fun al=>?_⟩;have an:Off [n] H2 (upd H2 n<|.frz al<|.dK<|Cw s):=yF;have C:upd H2 n (.frz al<|.dK<|Cw s) n=some (.frz al<|.dK<|Cw s):=zC;have N:yg P w K aC (upd H2 n<|.frz al<|.dK<|Cw s) a A ((Ck fs).foldl Cf (S,[])).1:=bm.off (yB ay) an fun x hx z=>bz<|Q9.mp z▸hx;have Z:upd H2 n (.frz al<|.dK<|Cw s) g=some (.dK<|Ct ((Ck fs).foldl Cf (S,[])).2):=by rwa[zH rf]
  have J:wI K H1 (upd H2 n<|.frz al<|.dK<|Cw s) fs s:=a5.off (X:=[n]) (fun x hx=>by rw[Q9.mp hx];exact⟨_,a8⟩) (yB ay) an;have as:Off A H (upd H2 n<|.frz al<|.dK<|Cw s):=fun x o nx ex=>by
   rw[zH (fun z=>by rw[z,ax]at ex;cases ex)];exact bd x o nx ex
  generalize upd H2 n (.frz al<|.dK<|Cw s)=U at an C N Z J as ⊢;have db:s.map (·.1)=Cm fs:=J.wV;have dc:(Cw s).length=(Cm fs).length:=by rw[←db,Q8];unfold Cw;rw[Q8]
  have ec:(Ck fs).length+(Cm fs).length<=63:=by have:=qV fs;lia
  refine⟨n,al,Cw s,rfl,C,Gf (fun j σ t=>∃o4 o5 o6 o7 o8,σ=[some<|.ref a,some<|.ref c,some<|.ref g,some<|.ref n,o4,o5,o6,o7,o8]/\yg P w K aC t a A (((Cm fs).take j).foldl (Cj d fs)<|(Ck fs).foldl Cf (S,[])).1/\t g=some (.dK<|Ct (((Cm fs).take j).foldl (Cj d fs)<|(Ck fs).foldl Cf (S,[])).2)/\t n=some (.frz al<|.dK<|Cw s)/\wI K H1 t fs s/\Off A H t) ⟨o4,o5,o6,o7,o8,rfl,N,Z,C,J,as⟩ (fun j σ t hj h=>?_) ?_ ?_⟩
  ·obtain⟨_,_,_,_,_,_,_,_,hf,_⟩:=h;exact hf
  ·clear N Z C J as bm b4 ay a5 bd;rintro j kk v T0 σ t hj ⟨o4,o5,o6,o7,o8,rfl,M,Y,ap,Fl,G⟩ nT D' hD;unfold Cw at hj;rw[Zk]at hj;obtain⟨pr,dx,hj⟩:=ZE.mp hj;obtain⟨l,b⟩:=pr;have hj:((.inr l:Key),V.ref b)=(kk,v):=hj;cases hj;have a1:=Zn dx;have c3:(Cm fs)[j]?=some l:=by rw[←db,Zk,dx];rfl
   obtain⟨cx,cv,cg⟩:=bP ok gf fl sl c3;have uT:=zE (o:=.tup [V.str l,V.ref b]) nT;refine⟨T0,_,rfl,xu.of zC,rfl,_,_,rfl,_,_,rfl,rfl,?_⟩;have O:=M.same uT;have ab:=uT _ _ Y;have D:=uT _ _ ap;have B:=Fl.same uT;have I:=G.trans<|Off.of uT;show TQ _ _ _ _ _ (upd t T0<|.tup [V.str l,V.ref b]);generalize upd t T0 (.tup [V.str l,V.ref b])=H5 at O ab D B I ⊢;clear M Y ap Fl G uT nT;obtain⟨kb,hb,fb⟩:=B.at_ _ a1;have hb:H5 b=some (.dK kb):=hb;have fb:ye K H5 (sub fs l) kb:=fb;have nb:H1 b=none:=B.new _ a1;have d4:b∉A:=fun z=>by
    obtain⟨o',e'⟩:=ch.ex b z;rw[nb]at e';cases e'
   cases d with
   |zero =>
    obtain⟨f,hf,b,r,ef⟩:=((xJ fs).2 l).mp<|Zn c3;have:=(gf.wV f hf).2.1;rw[ef,Zr,Zr]at this;lia
   |succ d =>
    have el:(Cm fs).take (j+1)=(Cm fs).take j++[l]:=yc c3;have ef:((Cm fs).take<|j+1).foldl (Cj (d+1) fs) ((Ck fs).foldl Cf (S,[]))=Cj (d+1) fs (((Cm fs).take j).foldl (Cj (d+1) fs)<|(Ck fs).foldl Cf (S,[])) l:=by rw[el,Y2];rfl
    have nl:l∉(((Cm fs).take j).foldl (Cj (d+1) fs)<|(Ck fs).foldl Cf (S,[])).2.map (·.1):=fun z=>by
     rw[cg]at z;have nd:=Xz gf;have e0:(pieces fs).map (·.1)=(Ck fs).map (·.1)++Cm fs:=by
      unfold pieces;rw[Zl,ZC,ZC]
      congr 1
      exact VW _
     rw[e0,←Yg j (Cm fs),←Z6,Y4]at nd;have hd:(Cm fs).drop j=l::(Cm fs).drop (j+1):=by
      have:=(Zw.mp c3);rw[←this.2];exact JA this.1
     exact nd.2.2 l z l (by rw[hd];exact Ze ..) rfl
    have ql:(((Cm fs).take j).foldl (Cj (d+1) fs)<|(Ck fs).foldl Cf (S,[])).2.length<=63:=by
     have:=congrArg List.length cg;rw[Q8,Zh,Q8,ZB]at this;lia
    generalize ((Cm fs).take j).foldl (Cj (d+1) fs) ((Ck fs).foldl Cf (S,[]))=q at O ab cx cv ef nl ql;refine⟨_,rfl,_,rfl,a,b,A,q.1,sub fs l,kb,rfl,O,cx,hb,d4,fb,gf.sub l,Z0 sub_len fl,cv,fun H6 a3 c6=>?_⟩;have ca:H6 g=_:=a3 _ _ c5 ab;have ed:H6 n=_:=a3 _ _ bz D;have d3:=B.off (X:=A) (fun c hc=>ch.ex c hc) O.wR.tup a3;refine⟨_,rfl,_,rfl,g,_,rfl,uw.k (k:=.inr l) ca<|yN (by unfold Ct;rw[Q8];lia),hD _ _ ⟨_,_,_,_,_,rfl,?_,?_,?_,?_,?_⟩⟩
    ·rw[ef];exact c6.off (yB ca) yF fun x hx z=>c5<|Q9.mp z▸hx
    ·rw[ef,zC,N2 nl];rfl
    ·rwa[zH<|EB rf]
    ·exact d3.off (X:=[g]) (fun c hc=>by rw[Q9.mp hc];exact⟨_,cd⟩) (yB ca) yF
    ·intro x o nx ex;rw[zH (fun z=>by rw[z,bo]at ex;cases ex)];exact a3 x o nx<|I x o nx ex
  ·rintro σ t ⟨o4,o5,o6,o7,o8,rfl,M,Y,ap,Fl,G⟩;rw[dc,ZH]at M Y;refine⟨n,al,Cw s,ap,fun o u z=>?_,?_⟩
   ·have z:H n=some (.frz o u):=z;rw[ax]at z;cases z
   have cu:∀x∈[n],∀xs,¬Rd t x (.tup xs):=fun x hx xs z=>by
    rw[Q9.mp hx]at z
    rcases z with z|⟨o,z⟩<;>rw[ap]at z<;>cases z
   have c6:=M.off cu (yF (o:=.dK<|Cw s)) fun x hx z=>bz<|Q9.mp z▸hx;have ca:=(zH (o:=.dK<|Cw s) rf).trans Y;have a3:Off A H (upd t n<|.dK<|Cw s):=fun x o nx ex=>by
    rw[zH (fun z=>by rw[z,ax]at ex;cases ex)];exact G x o nx ex
   have fe:=au ok gf fl sl (q:=(Cm fs).foldl (Cj d fs)<|(Ck fs).foldl Cf (S,[])) rfl;have pf:=NX d S fs;rw[pf]at k;generalize (Cm fs).foldl (Cj d fs) ((Ck fs).foldl Cf (S,[]))=q at c6 ca fe k;obtain⟨g1,g2,g3,g4,g5⟩:=fe;exact⟨_,rfl,_,rfl,a,g,A,q.1,q.2,rfl,c6,g1,.inl ca,g3,fun r hr=>⟨(g4 r hr).1,let ⟨e,te⟩:=(g4 r hr).2;Ss te⟩,g5,g2,fun H7 ea eb=>k H7 (a3.trans ea) eb⟩
end AJ
theorem PH (g:za n fs){f:Fi}(l:f∈fs){z:Str}(hz:z∈G8 (Cc f.1)):∀k∈fs,z≠Cc k.1:=fun k hk e=>by
 obtain⟨p,_,j,_⟩:=g.wV f l;obtain⟨r,_,s,_⟩:=g.wV k hk;have t:Ut (Cc f.1)=f.1:=qA p fun y h=>y8<|j y h;unfold G8 at hz;obtain⟨i,c,b⟩:=Zc.mp hz;rw[t]at c b;have c:=YQ.mp c;have b:Cc (f.1.take<|i+1)=z:=b;have u:f.1.take (i+1)≠[]:=by
  intro q;have:=congrArg List.length q;rw[ZB,YS]at this;lia
 have:=qF (d:=0) u r (fun y h=>j y<|Jj h) s (b.trans e);have o:f.1=k.1++f.1.drop (i+1):=by rw[←this,Yg]
 have:=congrArg List.length<|g.pre k hk f l _ o;rw[Yv,YS]at this;lia
theorem BY {f:Fi}{n:Nat}(h:n<=4){fs:Dk}(g:za n fs)(d:f∈fs):XR (.str<|Cc f.1)=true/\UZ (AnJ.yo f.2)=true/\small (.str<|Cc f.1)=true/\small (AnJ.yo f.2)=true:=by
 obtain⟨c,e,b,fn⟩:=g.wV f d;refine⟨Bl c (by lia) b,?_,?_,?_⟩
 ·show(f.2.map EV).all UW=true;rw[List.all_map,ZU];exact fn.2
 ·refine Zg ?_;have:=Iu b;rw[zj];lia
 ·show(decide ((f.2.map EV).length<=1000)&&yE (f.2.map .str))=true;rw[j0 fun l hl=>(Xa<|fn.2 l hl).len,Q8,Zg (show f.2.length<=1000 by have:=fn.1;lia)];rfl
inductive qw (K:Cd)(vs:Dj)(H:Hp)(Q:VK)(e3:XK):Prop
 |mk (c:Ef) (Dm:Dl) (fs:Dk) (h0:vs=[.ref c]) (h1:H c=some (.dK Dm)) (h2:ye K H fs Dm) (h3:za 4 fs) (h4:fs.length<=63) (h5:∀H',zz H H'->Q .non H'):qw K vs H Q e3
inductive pD (P:Eg)(w:Ek)(K:Cd)(C:Ef)(vs:Dj)(H:Hp)(Q:VK)(e3:XK):Prop
 |mk (a c:Ef) (fp:Dd) (S:Di) (fs:Dk) (Dm:Dl) (h0:vs=[.ref a,.ref c]) (h1:yg P w K C H a fp S) (h2:xr S) (h3:H c=some (.dK Dm)) (h4:c∉fp) (h5:ye K H fs Dm) (h6:za 4 fs) (h7:fs.length<=63) (h8:S.length+1+wt fs<=2000) (h9:∀H',Off fp H H'->yg P w K C H' a fp (Uv 4 S fs).1->Q (.str (Uv 4 S fs).2) H'):pD P w K C vs H Q e3
theorem uQ {H:Hp}{c:Ef}{f:Obj}{Dm:Dl}(d:H c=some (.dK Dm))(e:zz (upd H c<|.frz f<|.dK Dm) H2):zz H (upd H2 c<|.dK Dm):=fun b o h=>by
 by_cases z:b=c
 ·rw[z,zC];rw[z,d]at h;exact h
 ·rw[zH z];exact e _ _ (by rwa[zH z])
namespace AJ
theorem ok0 (F:wY K "put_files" "put_files" st f fd):yx P w K mg base Cn 8 f fd ["shelf","files"] (GA P w K aC 0) :=
 F.ok sc (fun _ _ _ _ _ _ _ _ _ h=>EG h) (fun _ _ _ _ h=>EG h)
theorem ok (F:wY K "put_files" "put_files" st f fd)(T:Txt P w K mg t1 t2 t3 t4 t5 t6 t7 aL aC aN aT aA b1 b2)(d:tQ P w K mg base aC 7 "put" ["self","thing"]<|tZ P w K aC aN aT)(e:wZ P w K mg base 8 "put_rows" ["shelf","rows"]<|ug P w K aC)(c:mg "put_files"=some (.ref f))(b:wU K fd ["shelf","files"] []):yx P w K mg base Cn 12 f fd ["shelf","files"] (GA P w K aC 4):=by
 have g:=wZ.mk' F (ok0 (P:=P) (w:=w) (mg:=mg) (base:=base) (aC:=aC) F) c b;have h:=wZ.mk' F (step F T d e (by decide) (by decide) g) c b;have i:=wZ.mk' F (step F T d e (by decide) (by decide) h) c b;have j:=wZ.mk' F (step F T d e (by decide) (by decide) i) c b;exact step F T d e (by decide) (by decide) j
end AJ
namespace AK
abbrev st:Stmt:=top 38
theorem sc:zx ["files","path","lines"] ["files"] (zG st):=Cp
theorem ok (F:wY K "need_files" "need_files" st f fd)(T:Txt P w K mg t1 t2 t3 t4 t5 t6 t7 aL aC aN aT aA b1 b2)(QV:wZ P w K mg base 4 "is_file" ["path","lines"]<|pI K)(QW:wZ P w K mg base 1 "folders_of" ["path"]<|pG K):yx P w K mg base (CH P w) 5 f fd ["files"] (qw K):=by
 refine F.pY sc fun _ _ _ _ H vs Q E hr h=>?_;obtain⟨c,b,fs,rfl,I,X,gf,fl,k⟩:=h;refine⟨_,(zD (yI (yW<|zS (K:=K)<|zK (xj.or (z8 (K:=K))<|CV (K:=K)) (by rfl) T.isinstance ZA<|zA (pv 0)<|zA (yS (v:=.ty "dict") rfl T.dict PyProof.Rows.boot_dict rfl) zB) (zF<|qO rfl xV rfl T.rQ T.tB<|zA zq zB) zT)<|zD (U5<|xA LL rfl (IM<|XB<|pv 0) (XA rfl<|yM (zQ (i:=1) sc.nd rfl<|EE rfl)<|yM (zQ (i:=2) sc.nd rfl<|EE rfl) kD)<|zF<|yI (yW<|zS (K:=K)<|zJ QV hr.m<|zA (pv 1)<|zA (pv 2) zB) (zF<|qO rfl xV rfl T.rQ T.tB<|zA zq zB) zT)<|zF<|U5<|xA LL rfl (FC<|XB<|pv 0) (zQ (i:=1) sc.nd rfl<|EE rfl)<|zF<|yI (zS (K:=K)<|zK (Pm rfl) (by rfl) T.any PyProof.Rows.boot_any<|zA (xN (sc:=zG st) (N:=["files","path","lines"]) (N':=["folder","files"]) (src:=[none,some 0]) .a rfl rfl rfl (xC<|zJ QW hr.m<|zA (pv 1) zB) (fun _ _ _ _=>(zQ (i:=0) (show(["folder","files"]:Da).Nodup by decide +kernel) rfl (EE rfl))) (fun _ _ _ _=>x9) (fun _ _ _ _=>(yL (Rs hr.units) (pv 0) (pv 1)<|by with_unfolding_all rfl))) zB) (zF<|qO rfl xV rfl T.rQ T.tB<|zA zq zB) zT),?_⟩
 refine⟨_,rfl,.inr ⟨c,"dict",b,_,rfl,.inl I,T.kit _ (by simp[kinds]) _<|by simp[kinds],_,rfl,Ur ?_⟩⟩;refine⟨_,rfl,c,b,rfl,I,fun j=>?_⟩;have kl:b.length=fs.length:=X.len;have d:upd H c (.frz j<|.dK b) c=some (.frz j<|.dK b):=zC;have M:=X.off (yB I)<|yF (o:=.frz j<|.dK b);refine⟨c,j,b,rfl,d,BU (fun i s n=>∃A B,s=[some<|.ref c,A,B]/\zz (upd H c<|.frz j<|.dK b) n) ⟨none,none,rfl,zz.refl _⟩ (fun i s n R ⟨_,_,_,l⟩=>l _ _ d) ?_ ?_⟩
 ·rintro i kk v T0 s n R ⟨A,B,rfl,l⟩ nT;obtain⟨f,D,rfl,dv,ln⟩:=(M.same l).get R;obtain⟨g1,g2,Z,g4⟩:=BY (Zf 4) gf<|Zn D;have uT:=zE (o:=.tup [kV<|.inr<|Cc f.1,v]) nT;refine⟨T0,_,rfl,xu.of zC,rfl,_,_,rfl,_,_,rfl,rfl,?_⟩;refine⟨_,rfl,_,rfl,.str<|Cc f.1,AnJ.yo f.2,_,_,rfl,rfl,Dt.dw<|Dt.same uT _ _ dv,Z,g4,fun Y s3=>⟨_,rfl,?_⟩⟩;rw[g1,g2];exact Ur ⟨_,_,rfl,(l.trans uT).trans s3⟩
 ·rintro s n ⟨A,B,rfl,l⟩;refine⟨c,j,b,l _ _ d,fun o u z=>?_,?_⟩
  ·have z:H c=some (.frz o u):=z;rw[I]at z;cases z
  have e3:=uQ I l;have C:upd n c (.dK b) c=some (.dK b):=zC;generalize upd n c (.dK b)=Y at e3 C ⊢;clear l M d;refine⟨_,rfl,c,b,rfl,C,fun j=>?_⟩;have d:upd Y c (.frz j<|.dK b) c=some (.frz j<|.dK b):=zC;refine⟨c,j,b,rfl,d,IS (fun i s n=>∃A B,s=[some<|.ref c,A,B]/\zz (upd Y c<|.frz j<|.dK b) n) ⟨A,B,rfl,zz.refl _⟩ (fun i s n R ⟨_,_,_,l⟩=>l _ _ d) ?_ ?_⟩
  ·rintro i kk v s H4 R ⟨A,B,rfl,L⟩;obtain⟨f,D,rfl,_,_⟩:=X.get R;have O:=Zn D;obtain⟨_,_,Z,_⟩:=BY (Zf 4) gf O;have xl:(Cc f.1).length<=1000:=Zv Z;refine⟨_,rfl,Cc f.1,rfl,xl,fun lp H5 s5 S=>?_⟩;have ab:(G8<|Cc f.1).length<=1001:=by
    unfold G8;rw[Q8,Yz];have:=vW<|Cc f.1;lia
   refine⟨lp,rfl,⟨_,S⟩,qW (K:=K) (a:=lp) (xs:=(G8<|Cc f.1).map V.str) (fun i r t U=>∃o,t=[o,some<|.ref c]/\zz H5 U/\r.length=i/\∀y∈r,y=V.bl false) ⟨none,rfl,zz.refl _,rfl,fun y J=>(nomatch J)⟩ (zm (by rw[Q8];lia)) ?_ ?_ ?_⟩
   ·rintro i r t U al ⟨o,rfl,G,yl,_⟩;exact⟨G.seq S,by lia⟩
   ·rintro i y r t U J ⟨o,rfl,G,yl,yf⟩;rw[Zk]at J;obtain⟨z,hz,rfl⟩:=ZE.mp J;refine⟨_,rfl,_,rfl,c,_,rfl,Sw (k:=.inr z)<|((L.trans s5).trans G) _ _ d,_,rfl,G,by rw[Zh,yl];rfl,fun y J=>?_⟩
    rcases ZD.mp J with q|q
    ·exact yf y q
    ·rw[Q9.mp q]
     congr 1
     cases q:Us b (.inr z) with
     |none=>rfl
     |some v =>
      have:=uZ q;rw[X.keys]at this;obtain⟨g,hg,e⟩:=Zc.mp this;exact absurd (Sum.inr.inj e).symm<|PH gf O (Zn hz) g hg
   ·rintro r t U ⟨o,rfl,G,yl,yf⟩ p np;have ey:r=(Lw r.length false).map V.bl:=by
     rw[List.map_replicate];exact List.eq_replicate_iff.mpr ⟨rfl,yf⟩
    refine⟨p,Lw r.length false,rfl,yu.of (by rw[zC];exact congrArg (fun z=>some<|HO.lst z) ey),_,rfl,?_⟩;have ea:(Lw r.length false).any id=false:=by
     rw[Vv];intro x hx;rw[List.eq_of_mem_replicate hx]
     decide
    rw[ea];exact Ur ⟨_,_,rfl,((L.trans s5).trans G).trans<|zE np⟩
  ·rintro s H4 ⟨A,B,rfl,L⟩;refine⟨c,j,b,L _ _ d,fun o u z=>?_,?_⟩
   ·have z:H c=some (.frz o u):=z;rw[I]at z;cases z
   exact k _<|e3.trans<|uQ C L
end AK
namespace AL
abbrev st:Stmt:=top 44
theorem sc:zx ["shelf","files"] ["shelf","files"] (zG st):=Cp
theorem ok (F:wY K "keep_files" "keep_files" st f fd)(T:Txt P w K mg t1 t2 t3 t4 t5 t6 t7 aL aC aN aT aA b1 b2)(t:tW P w K mg base 5 "need_files" ["files"]<|qw K)(u:wZ P w K mg base 12 "put_files" ["shelf","files"]<|GA P w K aC 4):yx P w K mg base (CH P w) 13 f fd ["shelf","files"] (pD P w K aC):=by
 refine F.pY sc fun _ _ _ _ H B Q E r h=>?_;obtain⟨a,c,v,S,fs,j,rfl,sh,ok,q,y,l,p,n,z,k⟩:=h;refine⟨_,(zD (yD<|yK t r.m yX<|zA (pv 1) zB)<|zF<|zM<|zJ u r.m<|zA (pv 0)<|zA (pv 1) zB),?_⟩
 refine⟨_,rfl,c,j,fs,rfl,q,l,p,n,fun A d=>?_⟩;exact⟨_,rfl,_,rfl,a,c,v,S,fs,j,rfl,sh.same d,ok,d _ _ q,y,l.same d,p,n,z,fun s g i=>k s (fun b o x e=>g b o x<|d _ _ e) i⟩
end AL
end
end An13
namespace An
open PySem L2 AnJ
theorem GS:∀{more Dm:Dl},(∀k∈more.map (·.1),k∉Dm.map (·.1))->(more.map (·.1)).Nodup->putAll Dm more=Dm++more
 |[],Dm,_,_=>(ZG _).symm
 |p::more,Dm,h,nd=>by
  rw[Zu,ZS]at nd;show putAll (yd Dm p.1 p.2) more=_;rw[kC<|h p.1<|Ze ..,GS (fun k hk z=>?_) nd.2,Z6]
  ·rfl
  ·rw[Zl]at z
   rcases ZD.mp z with z|z
   ·exact h k (Zb _ hk) z
   ·have z:k=p.1:=Q9.mp z;exact nd.1<|z▸hk
end An
namespace AnJ
open AxK
open PySem L2 An An10 An12
end AnJ
namespace L2
open PySem PySem.Spec PyProof.Rows
end L2
namespace AxS
open PySem PySem.Spec PyProof.Rows
section
variable {prog:Eg}{w:Ek}{A:ED}{E:Ee->Dh}{s:Ei}
theorem sub_dict_set:isSubtype (.type "dict") (.type "set")=Lo false:=by rw[Ji];kernel_rfl
theorem sub_dict_frozenset:isSubtype (.type "dict") (.type "frozenset")=Lo false:=by rw[Ji];kernel_rfl
theorem Wy {d:Ef}{Q:Bool->Dh}(b:s.TypeIs (.ref d) "dict")(h:Q false s):Eh (Em prog w) A (E2<|.ref d) Q E s:=by
 unfold E2;show Eh _ _ (Ml (.ref d) (.type "set")>>=_) _ _ _;refine Q7<|YV b sub_dict_set ?_;show Eh _ _ (Ml (.ref d)<|.type "frozenset") _ _ _;exact YV b sub_dict_frozenset h
theorem OE {P d:Ef}{vs:List (L2.Key×Ee)}{ks:Da}{nm:String}{Q:Unit->Dh}(hP:s.heap.get? P=some (zO w))(H:s.heap.DictOf (L2.zc prog w) d vs)(hS:(d==EM)=false)(ne:P≠d)(hn:vs.length*2<256)(I:vs.map (·.1)=ks.map Ep)
  (h:∀h',EJ P s.heap h'->yj prog w h' P ks->Q () { s with heap:=h' }):Eh (Em prog w) A (EX nm P<|.ref d) Q E s:=by
 obtain⟨o,c,ep,ho,hx,hd,hk,hp,ay⟩:=id H;have Dp:vs.length=c.size:=by rw[←hp.length];exact Zx.symm
 have as:ks.length=vs.length:=by have:=congrArg List.length I;rw[Q8,Q8]at this;exact this.symm
 have nd:ks.Nodup:=by
  have z:(ks.map<|Ep (α:=Int)).Nodup:=by rwa[←I]
  exact(List.Pairwise.of_map _ (fun a b (q:Ep a≠Ep b) e=>q<|by rw[e]) z)
 unfold EX;refine Q7<|Wy H.typeIs ?_;simp only[Z7,↓reduceIte];refine Q7<|JO H.typeIs ?_;rw[Zs<|by decide];refine Q7<|JQ ?_;refine Q7<|Za ?_;rw[Zt (show¬(d==EM)=true by rw[hS];exact ZK)];refine Q7<|wpAny_dictEpoch ho hd ?_;refine Q7<|Uh ho hd ?_;refine Q7 (IZ hP (by lia) fun M o' K t' B U X N O T a0 ap F ax=>?_);have al:yj prog w M P (ks.take 0):=⟨o',#[],K,t',U,X,N,fun e he=>by simp at he,by rw[List.take_zero];exact List.Perm.refl _,by decide,O,T,fun z=>absurd rfl z⟩;have t:∀{f:Ev},EJ P s.heap f->f.get? d=some o:=fun{f} sb=>by rwa[sb.2 d ne.symm]
 refine Q7<|Uh (s:={ s with heap:=M }) (t B) hd ?_;refine Q7 ?_;rw[Std.Legacy.Range.forIn_eq_forIn_range'];simp only[Std.Legacy.Range.size,Nat.sub_zero,Nat.add_sub_cancel,Nat.div_one];refine J9 _ (fun p _ Z=>∃(f:Ev) (i:Nat),Z={ s with heap:=f }/\p=List.range' i (c.size-i)/\i<=c.size/\EJ P s.heap f/\yj prog w f P (ks.take i)) _ ?_ ?_ _ _ ⟨M,0,rfl,by simp,ZN _,B,al⟩
 ·rintro x p _ Z ⟨f,i,rfl,u,hi,n,D⟩;have g:i<c.size:=by
   rcases VB i c.size with z|z
   ·exact z
   ·rw[Nat.sub_eq_zero_of_le z]at u;cases u
  have L:c.size-i=(c.size-(i+1))+1:=by lia
  rw[L,List.range'_succ]at u;injection u with r1 r2;subst r1;refine Q7<|Uh (s:={ s with heap:=f }) (t n) hd ?_;rw[ZW g];have hv:x<vs.length:=by lia
  have y:x<ks.length:=by lia
  obtain⟨G,_⟩:=hp.get? (i:=x) (e:=c[x]) (k:=vs[x].1) (v:=vs[x].2) (by rw[ZY];exact ZW g)<|Zj hv;obtain⟨k',S,C⟩:=hk c[x] (Array.getElem_mem g);have J:k'=vs[x].1:=(L2.zc prog w).inj _ _ _ S G;have ex:vs[x].1=.inr ks[x]:=by
   have:=congrArg (fun l=>l[x]?) I;rw[Zk,Zk,Zj hv,Zj y]at this;exact Option.some.inj this
  rw[J,ex]at C;rw[ex]at G;obtain⟨tk,et⟩:=YD<|show EY ks[x] c[x].key=true from G;have C:c[x].hash=hashStr w ks[x]:=C;dsimp only;rw[et,C];have tl:(ks.take x).length=x:=by rw[ZB];lia
  have a1:Mc=4096:=rfl;refine Q7 (ZZ<|Nl (s:={ s with heap:=f }) D (by lia) fun h3 r ab an=>?_);have e3:=n.trans ab;refine Q7<|wpAny_dictEpoch (s:={ s with heap:=h3 }) (t e3) hd ?_;refine Yr (fun z=>absurd z<|by simp) (fun _=>?_);refine Za ⟨h3,x+1,rfl,r2,g,e3,?_⟩;have Y:ks[x]∉ks.take x:=fun z=>by
   obtain⟨j,hj,ej⟩:=ZP.mp z;rw[List.getElem_take]at ej;have:=(Jc nd).mp ej;rw[tl]at hj;lia
  rw[Zt Y]at an;rwa[Yy,Zj y]
 ·rintro _ Z ⟨f,i,rfl,u,hi,n,D⟩;have R:i=c.size:=by
   rcases VB i c.size with z|z
   ·rw[show c.size-i=(c.size-(i+1))+1 by lia,List.range'_succ]at u;cases u
   ·lia
  rw[R,Y1<|by lia]at D;exact Za<|h f n D
set_option maxHeartbeats 6400000 in
theorem GY {d:Ef}{vs:List (L2.Key×Ee)}{ks:Da}{Q:Ee->Dh}(C:s.heap.DictOf (L2.zc prog w) d vs)(u:(d==EM)=false)(hn:vs.length*2<256)(H:vs.map (·.1)=ks.map Ep)
  (h:∀(h':Ev) (tk:Nat),yj prog w h' s.heap.objs.size ks->(∀b o,s.heap.get? b=some o->h'.get? b=some o)->Q (.ref s.heap.objs.size) { s with heap:=h',toks:=tk }):Eh (Em prog w) A (call (.type "set") [.ref d]) Q E s:=by
 obtain⟨c,X,D⟩:=F.called_set.mro;have x:=F.called_set.made;have G:=F.called_set.sub;have O:=F.called_set.notType;have P:=F.called_set.canCreate;have K:=F.typeCall_set_1<|.ref d;refine Vl<|VZ ?_;show Eh _ _ (callAny (.type "set") _) _ _ _;refine Za ⟨L9 _<|by decide +kernel,YI F.entry_type_call ?_⟩;rw[Around.under_plain (VJ "set" [.ref d] []) rfl]
 repeat (any_goals (first|assumption|wp_step))
 refine YY (FH (.ref d) (E:=E) (Q₁:=fun obj i=>obj=.ref s.heap.objs.size/\i={ s with heap:=s.heap.push (zO w) }) ⟨rfl,rfl⟩) fun r i y=>?_;cases r with
 |error e=>exact y
 |ok fl =>
  cases fl with
  |ret obj =>
   obtain⟨rfl,rfl⟩:=y;have q:(s.heap.push<|zO w).get? s.heap.objs.size=some (zO w):=Zp _ rfl;have I:LJ { s with heap:=s.heap.push (zO w) } (.ref s.heap.objs.size) "set":=⟨_,q,rfl⟩;have L:=F.called_set.init.lookup;have J:=F.called_set.init.bind<|.ref s.heap.objs.size
   repeat (any_goals (first|assumption|wp_step))
   refine YY (JE (R:=wants (fun r f=>r=.none/\∃h' tk,f={ s with heap:=h',toks:=tk }/\yj prog w h' s.heap.objs.size ks /\ (∀b o,s.heap.get? b=some o->h'.get? b=some o)) E) F.called_set.init.plain F.entry_set_init (check_set_init_1 I ?_)) fun j f g=>?_
   ·have n:d<s.heap.objs.size:=by obtain⟨_,_,_,e,_⟩:=C;exact Zq e
    have l:(s.heap.push<|zO w).DictOf (L2.zc prog w) d vs:=C.push _;have p:=OE (A:=A.in1.in1) (E:=fun e M=>(wants (fun r f=>r=.none/\∃h' tk,f={ s with heap:=h',toks:=tk }/\yj prog w h' s.heap.objs.size ks/\(∀b o,s.heap.get? b=some o->h'.get? b=some o)) E) (.error e) M) (s:={ s with heap:=s.heap.push (zO w) }) (nm:="set.__init__") (Q:=fun _ f=>∃h',f={ s with heap:=h' }/\yj prog w h' s.heap.objs.size ks/\(∀b o,s.heap.get? b=some o->h'.get? b=some o)) q l u (YW n) hn H (fun h' N B=>⟨h',rfl,B,fun b o e=>(N.2 b<|Zz<|Zq e).trans<|Zd _ e⟩);unfold zO at q;unfold Builtin.«set.__init__» noKeywords;generalize S:EX=U at p ⊢;unfold zO at p ⊢
    wp_walk
    exact Yu p (fun _ T ⟨h',e,B,kp⟩=>by subst e;exact Za ⟨rfl,h',s.toks,rfl,B,kp⟩) fun _ _ z=>z
   ·cases j with
    |error e=>exact g
    |ok fl₂ =>
     cases fl₂ with
     |ret r =>
      obtain⟨rfl,h',tk,rfl,t,v⟩:=g
      repeat (any_goals (first|assumption|wp_step))
      exact h _ _ t v
     |_=>exact g.elim
  |_=>exact y.elim
end
end AxS
namespace L2
open PySem PySem.Spec PyProof.Rows AxS
section
variable {X:Cx}
def aX (P:Eg)(w:Ek):Dj->Hp->VK->Prop:=fun c H Q=>∃a b,c=[.ref a]/\Rd H a (.dK b)/\Pe b/\b.length*2<256/\∀p,H p=none->Q (.ref p) (upd H p<|UF P w p<|b.map U4)
theorem BF:xj X (.type "set") (aX X.prog X.w):=by
 intro A s F H E D Q I r h;obtain⟨a,c,rfl,ha,f,hn,q⟩:=h;obtain⟨u,rfl,x⟩:=wW r;cases x;obtain⟨i,B,b,g,n,t⟩:=Km I ha;have j:c.length=i.length:=Paired.length b;have l:i.map (·.1)=(c.map U4).map Sum.inr:=by
  clear q ha t hn g j;unfold KV at b
  induction b with
  |nil=>rfl
  | @cons p q ps qs r _ ih =>
   rw[Zu,Zu,Zu,ih fun v d=>f v<|Zb _ d,←f p (Ze ..)];have e:p.1=q.1:=r.1;rw[e]
 exact GY g.dictOf n (by lia) l fun C y z kp=>⟨.ref s.heap.objs.size,_,I.laid (o:=UF X.prog X.w s.heap.objs.size<|c.map U4) (t':=y) kp (Zf _)<|B9 z,rfl,q _<|I.hok.fresh<|Zf _⟩
end
end L2
namespace AxS
open PySem PySem.Spec PyProof.Rows
section
variable {prog:Eg}{w:Ek}{A:ED}{E:Ee->Dh}{s:Ei}
theorem jD:plainId "dict.update.loop"=true:=by decide +kernel
theorem XT:entryFor table "dict.update.loop"=some Builtin.«dict.update.loop»:=entryFor_of_fast (by kernel_rfl)
def tR (prog:Eg)(w:Ek)(h:Ev)(Dn:Array Ee)(Dm:List<|L2.Key×Ee):Prop:=Dm.length=Dn.size/\∀(i:Nat) (v:Ee),Dn[i]?=some v->∃(T:Ef) (k:L2.Key) (key x:Ee),v=.ref T/\h.IsTuple T #[key,x]/\(L2.zc prog w).is k key=true/\Dm[i]?=some (k,x)
theorem tR.at {h':Ev}(p:tR prog w h Dn Dm)(e:∀T o,(∃xs,h.IsTuple T xs)->h.get? T=some o->h'.get? T=some o):tR prog w h' Dn Dm:=by
 refine⟨p.1,fun i v f=>?_⟩;obtain⟨T,k,key,x,c,b,hk,g⟩:=p.2 i v f;obtain⟨o,d,r⟩:=id b;exact⟨T,k,key,x,c,⟨o,e T o ⟨_,b⟩ d,r⟩,hk,g⟩
end
end AxS
namespace L2
open PySem PySem.Spec PyProof.Rows AxS
section
variable {X:Cx}{K:Cd}
def KK (K:Cd)(H:Hp)(xs:Dj)(Dm:Dl):Prop:=xs.length=Dm.length/\∀(i:Nat) (x:V),xs[i]?=some x->∃(T:Ef) (k:Key) (v:V),x=.ref T/\xu K H T [kV k,v]/\Dm[i]?=some (k,v)
theorem GU (I:Inv X Do σ H s):∀{vs:Dj} {its:Db} {Dm:Dl},yr vs its->KK X.K H vs Dm->∃um:List<|Key×Ee,KV Dm um/\um.length=its.length/\∀(i:Nat) (v:Ee),its[i]?=some v->∃(T:Ef) (k:Key) (key x:Ee),v=.ref T/\s.heap.IsTuple T #[key,x]/\(zc X.prog X.w).is k key=true/\um[i]?=some (k,x)
 |[],_,Dm,.nil,p=>by
  have:Dm=[]:=Yp p.1.symm;subst this;exact⟨[],.nil,rfl,fun i v z=>(nomatch z)⟩
 |x::vs,u::its,Dm,.cons r1 r2,p=>by
  obtain⟨T,k,y,rfl,l,hk⟩:=p.2 0 x rfl;cases Dm with
  |nil=>cases hk
  |cons kv Dm =>
   have j:kv=(k,y):=Option.some.inj hk;subst j;obtain⟨um,c,len,all⟩:=GU I (Dm:=Dm) r2 ⟨by have:=p.1;simpa using this,fun i z o=>by
    obtain⟨e,q,r,f,g,h⟩:=p.2 (i+1) z (by simpa using o);exact⟨e,q,r,f,g,by simpa using h⟩⟩
   cases r1;obtain⟨t,b,n,_⟩:=I.tuple l;cases b with
   |cons q1 b =>
    cases b with
    |cons q2 b =>
     cases b;rename_i key val;refine⟨(k,val)::um,.cons ⟨rfl,q2⟩ c,by rw[Zr,Zr,len],fun i v d=>?_⟩;cases i with
     |zero =>
      cases d;exact⟨T,k,key,val,rfl,n,UV q1,rfl⟩
     |succ i=>exact all i v (by simpa using d)
end
theorem wX.wJ (r:wX k A):A.units+1<cLine:=by have:=r.un;lia
section
variable {X:Cx}
def aW:R2:=fun y x H Q=>∃a o,x=.ref a/\wB H a y o/\Q (.bl<|!o.isSome) H
theorem SM (f:X.A.units+64<Lb):CD X (ES .NotIn) aW:=by
 intro e s j H y x v u Q I d c h;obtain⟨a,o,rfl,g,q⟩:=h;cases c;exact Sn (by lia) I g d fun i b=>⟨.bl _,H,b,rfl,q⟩
end
end L2
namespace AnS
open PySem L2 An AnJ
def oD:Option Da->Ej
 |none=>.none
 |some ls=>yo ls
theorem mG (a b:Option Da):Ey (oD a) (oD b)=decide (a=b):=by
 cases a with
 |none =>
  cases b with
  |none=>rfl
  |some y=>rfl
 |some x =>
  cases b with
  |none=>rfl
  |some y =>
   show Ey (yo x) (yo y)=_;rw[qd,Yi,ZF,ZF,Option.some.injEq]
def mq (o:Option Da):Prop:=∀b,o=some b->lW b
theorem qu (h:mq o):(oD o).canLay0=true/\(oD o).depth<=1:=by
 cases o with
 |none=>exact⟨rfl,ZN _⟩
 |some ls=>exact pW<|h ls rfl
theorem rK (h:mq o):EK (oD o)=true:=BT (qu h).1 (Z0 (qu h).2<|by decide)
theorem pX {l m:Da}(c:l.Pairwise Pd)(d:m.Pairwise Pd)(n1:l.Nodup)(n2:m.Nodup)(e:∀p,p∈l↔p∈m):l=m :=
 JG (fun a b _ _=>vV) c d ((Jt n1 n2).mpr e)
end AnS
namespace An
open PySem L2
inductive kh (par:Str->Da)(rs:Da):Str->Prop
 |root {x:Str}:x∈rs->kh par rs x
 |step {x y:Str}:kh par rs x->y∈par x->kh par rs y
def Uu (S:Di):Ej->Str->Bool
 | .str x,f=>yC S x [f]
 |_,_=>false
end An
namespace An13
open PySem L2 An
seal L2.PS L2.sX L2.PE L2.PT L2.PW L2.PA L2.PG L2.oX L2.PI L2.oU L2.PC
inductive oO (P:Eg)(w:Ek)(K:Cd)(C:Ef)(vs:Dj)(H:Hp)(Q:VK)(e3:XK):Prop
 |mk (a:Ef) (fp:Dd) (S:Di) (d:Ej) (v:V) (f:Str) (h0:vs=[.ref a,v,.str f]) (h1:yg P w K C H a fp S) (h2:(∀e∈S,BH e)) (h3:Dw K H d v) (h4:Q (.bl<|Uu S d f) H):oO P w K C vs H Q e3
inductive uz (P:Eg)(w:Ek)(K:Cd)(C aN:Ef)(vs:Dj)(H:Hp)(Q:VK)(E:XK):Prop
 |mk (a:Ef) (fp:Dd) (S:Di) (d:Ej) (v:V) (h0:vs=[.ref a,v]) (h1:yg P w K C H a fp S) (h2:(∀e∈S,BH e)) (h3:Dw K H d v) (h4:(Uu S d "tree"=true->Q .non H)) (h5:(Uu S d "tree"=false->E (.ref aN) none H)):uz P w K C aN vs H Q E
inductive oM (P:Eg)(w:Ek)(K:Cd)(C aN:Ef)(vs:Dj)(H:Hp)(Q:VK)(E:XK):Prop
 |mk (a:Ef) (fp:Dd) (S:Di) (x:Str) (h0:vs=[.ref a,.str x]) (h1:yg P w K C H a fp S) (h2:xr S) (h3:((∃rows,At S x (.tree rows)/\Tree 5 S x/\(zf 5 S x).length<=63/\(∀f∈zf 5 S x,UE f.2)/\∀e Dm H',zz H H'->H e=none->H' e=some (.dK Dm)->ye K H' (zf 5 S x) Dm->Q (.ref e) H') \/ (Uu S (.str x) "tree"=false/\E (.ref aN) none H))):oM P w K C aN vs H Q E
theorem isT {rows:Dg}(h:At S x<|.tree rows):Uu S (.str x) "tree"=true:=by
 obtain⟨e,b,rfl,hd⟩:=h;refine Yb.mpr ⟨e,b,?_⟩;rw[Zm,ZF,ZF,kF hd];exact⟨rfl,Q9.mpr rfl⟩
section
variable {P:Eg}{w:Ek}{K:Cd}{mg:Str->Dc}{base:Ev}{t1 t2 t3 t4 t5 t6 t7:Tok}{aL aC aN aT aA b1 b2:Ef}
theorem Oa {X:Dd}{xs:Dj}(n:∀b∈X,∀xs,¬Rd H b (.tup xs))(o:Off X H H')(h:xu K H c xs):xu K H' c xs:=by
 rcases h with h|h
 ·have ne:c∉X:=fun z=>n c z xs h
  rcases h with h|⟨u,h⟩
  ·exact .inl (.inl<|o _ _ ne h)
  ·exact .inl (.inr ⟨u,o _ _ ne h⟩)
 ·exact .inr h
theorem KA (g:xr S){x:Str}{t:Th}(h:At S x t){e:En}(c:e∈S)(b:(EV x)=.str e.nm):e.d=t.dat:=by
 obtain⟨f,i,fn,j⟩:=h;have:f.nm=e.nm:=by rw[fn];injection b
 rwa[←Rn g.good.nn i c this]
theorem To {rows:Dg}{t:Ef}(h:Dt K H (Th.tree rows).dat<|.ref t):∃c rs,xu K H t [V.str "tree",V.ref c]/\xu K H c rs/\zy K H (rows.map zb) rs:=by
 obtain⟨p,q,e,i,x,r,f,b,y,o,g,j,d⟩:=h;cases e;obtain⟨c,rs,rfl,l,n⟩:=j;have b:x=V.str "tree":=b;have d:o=[]:=d;subst f g b d;exact⟨c,rs,i,l,n⟩
theorem SD {ls:Da}{t:Ef}(h:Dt K H (Th.leaf ls).dat<|.ref t):∃v,xu K H t [V.str "leaf",v]/\Dt K H (AnJ.yo ls) v:=by
 obtain⟨l,n,d,g,x,r,e,b,y,j,f,i,c⟩:=h;cases d;have b:x=V.str "leaf":=b;have c:j=[]:=c;subst e f b c;exact⟨y,g,i⟩
theorem WO {rows:Dg}(h:zy K H (rows.map zb) rs){i:Nat}{v:V}(e:rs[i]?=some v):∃r c,rows[i]?=some r/\v=.ref c/\xu K H c [V.str r.1,V.str r.2]:=by
 obtain⟨d,hd,p⟩:=h.get e;rw[Zk]at hd;obtain⟨r,o,rfl⟩:=ZE.mp hd;obtain⟨c,t,rfl,n,x,s,j,b,y,q,l,f,g⟩:=p;have b:x=V.str r.1:=b;have f:y=V.str r.2:=f;have g:q=[]:=g;subst j l b f g;exact⟨r,c,o,rfl,n⟩
theorem PK (h:Uu S d f=true):∃x,d=.str x/\yC S x [f]=true/\x∈S.map En.nm:=by
 cases d with
 |str x =>
  have h:yC S x [f]=true:=h;refine⟨x,rfl,h,?_⟩
  rcases Classical.em (x∈S.map En.nm) with z|z
  ·exact z
  ·rw[IE z]at h;cases h
 |none=>cases h
 |bool b=>cases h
 |int i=>cases h
 |list ds=>cases h
 |tuple ds=>cases h
 |dict Dm=>cases h
namespace AM
abbrev st:Stmt:=top 40
theorem sc:zx ["store","name","form"] ["store","name","form"] (zG st):=Cp
theorem ok (F:wY K "names_form" "names_form" st f fd)(T:Txt P w K mg t1 t2 t3 t4 t5 t6 t7 aL aC aN aT aA b1 b2)(y:Met P w K mg base aC 2 "has" ["self","name"]<|pO P w K aC)(u:tQ P w K mg base aC 4 "thing" ["self","name"]<|wC P w K aC aN):yx P w K mg base Cn 5 f fd ["store","name","form"] (oO P w K aC):=by
 refine F.ok sc fun _ _ _ _ H vs Q E p h=>?_;obtain⟨a,l,S,d,v,g,rfl,sh,th,hd,k⟩:=h;refine⟨_,(zF<|zM<|xB (Xi (pv 0) T.cls y p.m<|zA (pv 1) zB)<|xK<|yL qM (zY (yw:Cl _<|xg K) (xO (pv 0) T.cls u p.m zZ<|zA (pv 1) zB) zI) (pv 2)<|zW _),?_⟩;obtain⟨D,b,L,M,N,ts,nx,C,nd,n,O,R,U,X,Y,Z,h8,h9⟩:=id sh;refine⟨_,rfl,a,b,_,rfl,n,rfl,_,rfl,a,l,S,d,v,rfl,sh,hd,U8 S d,rfl,?_⟩;cases q:U8 S d with
 |false =>
  refine Ur ?_;have:Uu S d g=false:=by
   cases e:Uu S d g with
   |false=>rfl
   |true =>
    obtain⟨x,rfl,_,I⟩:=PK e;rw[show U8 S (.str x)=decide (x∈S.map En.nm) from rfl,Zg I]at q;cases q
  rw[this]at k;exact k
 |true =>
  refine Uo ⟨_,rfl,a,b,_,rfl,n,rfl,_,rfl,a,l,S,d,v,rfl,sh,hd,fun e o B t s=>?_,fun z=>by rw[q]at z;cases z⟩;obtain⟨J,i,_⟩:=th e o;rw[i]at s;obtain⟨c,r,A,G⟩:=uP s;cases A;refine⟨t,_,_,_,rfl,rfl,G,yY (j:=0) rfl,_,rfl,rfl,?_⟩;subst B;have:Uu S (.str e.nm) g=decide (V.str J.word=V.str g):=by
   show yC S e.nm [g]=_;rw[NH D o,kF i,Yi,ZF,ZF,Q9,V.str.injEq]
  rw[this]at k;exact k
end AM
namespace AN
abbrev st:Stmt:=top 41
theorem sc:zx ["store","root"] ["store","root"] (zG st):=Cp
theorem ok (F:wY K "need_root" "need_root" st f fd)(T:Txt P w K mg t1 t2 t3 t4 t5 t6 t7 aL aC aN aT aA b1 b2)(b:wZ P w K mg base 5 "names_form" ["store","name","form"]<|oO P w K aC):yx P w K mg base (CH P w) 6 f fd ["store","root"] (uz P w K aC aN):=by
 refine F.pY sc fun _ _ _ _ H j Q E e h=>?_;obtain⟨a,c,S,d,v,rfl,sh,th,hd,g,i⟩:=h;refine⟨_,(zF<|yI (yW<|zS (K:=K)<|zJ b e.m<|zA (pv 0)<|zA (pv 1)<|zA zq zB) (zF<|qO rfl xV rfl T.rH T.rA<|zA zq zB) zT),?_⟩
 refine⟨_,rfl,_,rfl,a,c,S,d,v,"tree",rfl,sh,th,hd,_,rfl,?_⟩;cases q:Uu S d "tree" with
 |false=>exact PU ⟨Uq 1,i q⟩
 |true=>exact UQ<|g q
end AN
end
end An13
namespace An
open PySem L2
def zu (rows:Dg)(l:Str):Option Str:=(rows.find? fun r=>decide (r.1=l)).map (·.2)
theorem N3 (rows:Dg)(l:Str):Us (Ct rows) (.inr l)=(zu rows l).map V.str:=by
 unfold Us Ct zu;rw[List.find?_map,Option.map_map,Option.map_map]
 congr 1
 congr 1
 funext r
 show decide ((.inr r.1:Key)=.inr l)=decide (r.1=l)
 by_cases z:r.1=l
 ·rw[Zg z,Zg<|by rw[z]]
 ·rw[Zo z,Zo<|fun q=>z<|Sum.inr.inj q]
theorem jR {n:Str}(h:zu rows l=some n):(l,n)∈rows:=by
 unfold zu at h;obtain⟨r,d,rfl⟩:=ZE.mp h;have e:=JB d;have c:=Vj d;have c:=Zv c;obtain⟨a,b⟩:=r;have c:a=l:=c;subst c;exact e
noncomputable def wQ (S:Di)(x:Option Str)(l:Str):Option Str:=match x with
 |none=>none
 |some n=>match CO S n with
  |some (.tree rows)=>zu rows l
  |_=>none
noncomputable def atT (S:Di)(b:Str)(ls:Da):Option Str:=ls.foldl (wQ S)<|some b
theorem Xp (S:Di):∀ls:Da,ls.foldl (wQ S) none=none
 |[]=>rfl
 |_::ls=>Xp S ls
theorem kY (g:xr S){n:Str}{rows:Dg}(h:At S n<|.tree rows)(l:Str):wQ S (some n) l=zu rows l:=by
 show(match CO S n with|some (.tree rows)=>zu rows l|_=>none)=_;rw[jV g h]
theorem k9 (g:xr S)(n:Str):(Uu S (.str n) "tree"=true/\∃rows,At S n<|.tree rows)\/(Uu S (.str n) "tree"=false/\∀rows,¬At S n (.tree rows)):=by
 cases q:Uu S (.str n) "tree" with
 |true =>
  have q:yC S n ["tree"]=true:=q;unfold yC at q;obtain⟨e,d,q⟩:=Yb.mp q;rw[Zm,ZM,ZM]at q;obtain⟨t,f,_,_⟩:=g.th e d;have w:=Q9.mp q.2;rw[kF f]at w;refine .inl ⟨rfl,?_⟩;cases t with
  |leaf ls=>exact absurd (show("leaf":Str)="tree" from w) (by decide +kernel)
  |tree rows=>exact⟨rows,e,d,q.1,f⟩
  |note a b c=>exact absurd (show("note":Str)="tree" from w) (by decide +kernel)
 |false =>
  refine .inr ⟨rfl,fun rows h=>?_⟩;obtain⟨e,d,rfl,hd⟩:=h;have:yC S e.nm ["tree"]=true:=Yb.mpr ⟨e,d,by
   rw[Zm,ZF,ZF,kF hd];exact⟨rfl,Q9.mpr rfl⟩⟩
  rw[show Uu S (.str e.nm) "tree"=yC S e.nm ["tree"] from rfl,this]at q;cases q
theorem Ku (h:∀rows,¬At S n (.tree rows))(l:Str):wQ S (some n) l=none:=by
 show(match CO S n with|some (.tree rows)=>zu rows l|_=>none)=_;cases q:CO S n with
 |none=>rfl
 |some t =>
  unfold CO at q
  split at q
  ·rename_i ex;have q:=Option.some.inj q;have d:=JW ex;rw[q]at d;cases t with
   |leaf ls=>rfl
   |tree rows=>exact absurd d<|h rows
   |note a b c=>rfl
  ·cases q
def oV:Option Str->V
 |none=>.non
 |some n=>.str n
def Cy:Option Str->Ej
 |none=>.none
 |some n=>.str n
end An
namespace AxS
open PySem PySem.Spec PyProof.Rows
section
variable {prog:Eg}{w:Ek}{A:ED}{E:Ee->Dh}{s:Ei}
theorem GV:typeLookup (.type "tuple") "keys"=Lo none:=by rw[typeLookup_type,VH];kernel_rfl
theorem Ro {a:Ef}{xs:Array Ee}{n:Nat}{l:Array Dc}{Q:Dc->Dh}(j:s.heap.get? a=some { cls:=.type "tuple",dict:=none,data:=.seq xs n,slots:=l })(p:A.handled=none)
  (h:∀h' tk,(∀b o,s.heap.get? b=some o->h'.get? b=some o)->Q none { s with heap:=h',toks:=tk }):Eh (Em prog w) A (getAttr? (.ref a) "keys") Q E s:=by
 obtain⟨q,g,d,tk,os⟩:=s;have i:∀c,(⟨q,g,d,c,os⟩:Ei).TypeIs (.ref a) "tuple":=fun _=>⟨_,j,rfl⟩;have r:=sub_AttributeError;have t:=F.slot_tuple_getattribute.lookup;have u:=F.slot_tuple_getattribute.bind<|.ref a;have f5:=am_tuple_getattr_none;unfold getAttr? getAttrBy? getAttrBy
 repeat (any_goals (first|assumption|exact i _|((with_reducible show Eh _ _ (call (Mm "tuple.__getattribute__") _ _) _ _ _);refine Vm F.slot_tuple_getattribute (i _) am_entry_tuple_getattribute (F.args_tuple_getattribute_2 _ _) (meets_getattribute_miss_tuple a xs n l "keys" _ GV<|by decide +kernel) ⟨j,p,fun h' c e f=>?_⟩)|wp_step))
 obtain⟨x,y,v⟩:=f.there;show Eh _ _ (getattributeRaised _ _ _ _ _ _ _) _ _ _;unfold getattributeRaised
 repeat (any_goals (first|assumption|wp_step))
 exact h h' c f.of.keeps
theorem Kb {d I l:Ef}{Dn:Array Ee}{Dm:List (L2.Key×Ee)}{R:Result->Dh}{res:Ee}(hh:A.in1.handled=none)(L:l≠I)(G:d≠I)(U:d≠l)(hz:Dm.length<=sizeLine) :
  ∀(m i:Nat) (s:Ei),Dn.size-i=m->i<=Dn.size->(s.heap.IsTupleIter I l i/\s.heap.IsTuple l Dn)->s.heap.DictOf (L2.zc prog w) d (merged []<|Dm.take i)->tR prog w s.heap Dn Dm ->
   (∀h' tk,h'.DictOf (L2.zc prog w) d (merged [] Dm)->(∀b o,b≠d->b≠I->s.heap.get? b=some o->h'.get? b=some o)->R (.ok<|.ret res) { s with heap:=h',toks:=tk }) ->
   LS (Em prog w) A (.builtin "dict.update.loop" ⟨[.ref d,.ref I,EZ i,res],[]⟩) R s:=by
 have W:=Walks.tuple (prog:=prog) (w:=w) hh I l L Dn;intro m
 induction m with
 |zero =>
  intro i s hm hi st r F k;have X:i=Dn.size:=by lia
  subst X;refine YI XT ?_;rw[E8 jD _];show Eh _ A.in1 (L8 (.ref I)>>=_) _ _ s;refine Q7<|W.done s _ _ st fun h' tk kp=>?_;rw[Y1 (by rw[F.1];exact Zf _)]at r;refine Q7 (Za<|Za<|k h' tk (r.at fun o e=>kp d o (by simp[G]) e) fun b o t q e=>kp b o (by simp[q]) e)
 |succ m ih =>
  intro i s hm hi st r F k;have C:i<Dn.size:=by lia
  refine YI XT ?_;rw[E8 jD _];show Eh _ A.in1 (L8 (.ref I)>>=_) _ _ s;refine Q7<|W.item i s _ _ C st fun v h' tk hv E kp=>?_;obtain⟨T,k1,key,x,rfl,K,hk,hx⟩:=F.2 i v hv;have TI:T≠I:=fun z=>by
   obtain⟨o,n,j,_⟩:=K;obtain⟨N,g,f,_⟩:=st.1;rw[z,g]at n;cases n;rw[f]at j;exact absurd j (by decide)
  have Td:T≠d:=fun z=>by
   obtain⟨o,n,j,_⟩:=K;obtain⟨N,_,_,g,f,_⟩:=r;rw[z,g]at n;cases n;rw[f.1]at j;exact absurd j (by decide)
  have H:h'.DictOf (L2.zc prog w) d (merged []<|Dm.take i):=r.at fun o e=>kp d o (by simp[G]) e;obtain⟨⟨oc,od,O,P⟩,n,j,n1,B⟩:=id K;have c:h'.get? T=some ⟨oc,od,O,P⟩:=kp T _ (by simp[TI]) n;simp only at j B;subst j B;dsimp only;refine Q7<|ZZ<|Q7<|wpAny_tryCatch ?_;have ty:LJ { s with heap:=h',toks:=tk } (.ref T) "tuple":=⟨_,c,rfl⟩;unfold Builtin.Dict.pairItems;refine Q7<|JO ty ?_;rw[Zs<|by decide];refine Q7 ?_;unfold seqItems?;dsimp only;refine Q7<|wpAny_load (s:={ s with heap:=h',toks:=tk }) c<|Za<|Za ?_;dsimp only[Option.getD];refine ZZ ?_;unfold dictSet;refine ZZ<|Q7<|(L2.zc prog w).pyHash hk ?_;have ml:(merged ([]:List<|L2.Key×Ee)<|Dm.take i).length<=sizeLine:=by
   have:=merged_length_le ([]:List<|L2.Key×Ee)<|Dm.take i;rw[ZB]at this;simp at this;lia
  refine wpAny_dictSetHashed_pairs (hsz:=ml) hk H fun Y u p=>?_;rw[←merged_take_succ [] Dm i (k1,x) hx]at u;refine Za ⟨Vd jD _,?_⟩;rw[show((i:Nat):Int)+1=((i+1:Nat):Int) by push_cast;rfl];have D:∀b o,b≠d->b≠I->s.heap.get? b=some o->Y.get? b=some o:=fun b o t q e=>(p.2 b t).trans (kp b o (by simp[q]) e);refine ih (i+1) _ (by lia) C ⟨?_,?_⟩ u (F.at fun S o ⟨xs,y⟩ e=>D S o (fun z=>?_) (fun z=>?_) e) fun Z Q J M=>k Z Q J fun b o t q e=>M b o t q<|D b o t q e
  ·exact E.1.at fun o e=>(p.2 I G.symm).trans e
  ·exact E.2.at fun o e=>(p.2 l U.symm).trans e
  ·obtain⟨o1,c,h,_⟩:=y;obtain⟨N,_,_,g,f,_⟩:=r;rw[z,g]at c;cases c;rw[f.1]at h;exact absurd h (by decide)
  ·obtain⟨o1,c,h,_⟩:=y;obtain⟨N,g,f,_⟩:=st.1;rw[z,g]at c;cases c;rw[f]at h;exact absurd h (by decide)
theorem G7 {l:Ef}{Dn:Array Ee}{n:Nat}{Dm:List (L2.Key×Ee)}{Q:Ee->Dh}(B:A.handled=none){C:Array Dc}(hl:s.heap.get? l=some { cls:=.type "tuple",dict:=none,data:=.seq Dn n,slots:=C })(G:tR prog w s.heap Dn Dm)(hz:Dm.length<=sizeLine)
  (h:∀h' tk,h'.DictOf (L2.zc prog w) s.heap.objs.size (merged [] Dm)->(∀b o,s.heap.get? b=some o->h'.get? b=some o)->Q (.ref s.heap.objs.size) { s with heap:=h',toks:=tk }):Eh (Em prog w) A (call (.type "dict") [.ref l]) Q E s:=by
 refine callType_codes (Q₁:=fun obj g=>obj=.ref s.heap.objs.size/\g={ s with heap:=s.heap.push { cls:=.type "dict",data:=.dict #[] } }) F.kt_called_dict (F.kt_typeCall_dict_1 _) F.entry_dict_init (kt_code_dict_new _ ⟨rfl,rfl⟩) ?_;rintro obj g ⟨rfl,rfl⟩;have c:(s.heap.push { cls:=.type "dict",data:=.dict #[] }).DictOf (L2.zc prog w) s.heap.objs.size []:=Heap.DictOf.new s.heap;have t:l<s.heap.objs.size:=Zq hl;have i:(s.heap.push { cls:=.type "dict",data:=.dict #[] }).get? l=some { cls:=.type "tuple",dict:=none,data:=.seq Dn n,slots:=C }:=Zd _ hl;refine⟨c.typeIs,F.args_dict_init_2 _ _,?_⟩;unfold Builtin.«dict.__init__»;refine Q7 ?_;unfold Builtin.Dict.selfAndRest;refine Q7<|wpAny_notOrdered_dict c.typeIs ?_;show Eh _ _ (Lo (s.heap.objs.size,[Et l])) _ _ _;refine Za ?_;show Eh _ _ (Builtin.Dict.updateFrom "dict.__init__" s.heap.objs.size (.ref l) [] .none) _ _ _;unfold Builtin.Dict.updateFrom;have z:LJ { s with heap:=s.heap.push { cls:=.type "dict",data:=.dict #[] } } (.ref l) "tuple":=⟨_,i,rfl⟩;refine Q7<|JO z ?_;rw[Zs<|by decide];refine Q7 (Ro (s:={ s with heap:=s.heap.push { cls:=.type "dict",data:=.dict #[] } }) i (by simp[B]) fun p x f=>?_);simp only[Option.isNone_none,↓reduceIte];refine Q7<|JQ ?_;have q:p.IsTuple l Dn:=⟨_,f l _ i,rfl,n,rfl⟩;have j:s.heap.objs.size<p.objs.size:=by
  obtain⟨o,_,_,e,_⟩:=c;exact Zq<|f _ _ e
 refine Q7<|V7 (s:={ s with heap:=p,toks:=x }) q ?_;refine Za ⟨Vd jD _,?_⟩;have r:∀b o,s.heap.get? b=some o->(p.push { cls:=.type "tuple_iterator",data:=.fields #[.ref l,.int 0 0] }).get? b=some o:=fun b o e=>Zd _<|f b o<|Zd _ e;refine Kb (A:=A.in1) (d:=s.heap.objs.size) (I:=p.objs.size) (l:=l) (Dn:=Dn) (Dm:=Dm) (by simp[B]) (Zz<|Nat.lt_trans t j) (Zz j) (YW t) hz (Dn.size-0) 0 _ (by lia) (ZN _) ⟨⟨_,Zp _ rfl,rfl,rfl⟩,q.push _⟩ ?_ (G.at fun T o _ e=>r T o e) fun D y u v=>?_
 ·rw[List.take_zero];exact(c.at fun o e=>f _ o e).push _
 ·refine⟨rfl,h D y u fun b o e=>v b o (Zz<|Zq e) (Zz<|Nat.lt_trans (Zq e) j)<|r b o e⟩
end
end AxS
namespace L2
open PySem PySem.Spec PyProof.Rows AxS
section
variable {X:Cx}{K:Cd}
def WI (K:Cd):Dj->Hp->VK->Prop:=fun d H Q=>∃(a:Ef) (c:Dj) (b:Dl),d=[.ref a]/\xu K H a c/\KK K H c b/\∀l,H l=none->Q (.ref l) (upd H l<|.dK<|putAll [] b)
theorem KR (p:X.calm=true)(l:X.K=K:=by rfl):xj X (.type "dict") (WI K):=by
 subst l;intro E s P H O M Q I r h;obtain⟨a,vs,Dm,rfl,ha,pv,q⟩:=h;obtain⟨u,rfl,A⟩:=wW r;cases A;obtain⟨w,g,⟨⟨J,L,x,y⟩,e,b,n,c,d⟩,z⟩:=I.nZ ha;simp only at b c d;subst b c d;obtain⟨C,f,len,all⟩:=GU I g pv;have N:=g.length;have G:Dm.length=C.length:=Paired.length f;refine G7 (I.ok.hd p) e ⟨by rw[Zy];exact len,fun i v t=>all i v<|by simpa using t⟩ (by lia) fun F B j kp=>?_;have D:=kP Dm [];exact⟨.ref s.heap.objs.size,_,I.laid (o:=.dK<|putAll [] Dm) (t':=B) kp (Zf _)<|KZ (by rw[YS]at D;lia) (YM.mpr<|EB<|Zz I.big) (KV.putAll (Dm:=[]) (vs:=[]) .nil f) j,rfl,q _<|I.hok.fresh<|Zf _⟩
end
end L2
namespace An13
open PySem L2 An
seal L2.PS L2.sX L2.PE L2.PT L2.PW L2.PA L2.PG L2.oX L2.PI L2.oU L2.PC
inductive wA (P:Eg)(w:Ek)(K:Cd)(C:Ef)(vs:Dj)(H:Hp)(Q:VK)(e3:XK):Prop
 |mk (a:Ef) (fp:Dd) (S:Di) (x:Str) (rows:Dg) (h0:vs=[.ref a,.str x]) (h1:yg P w K C H a fp S) (h2:xr S) (h3:At S x<|.tree rows) (h4:(rows.map (·.1)).Nodup) (h5:∀l,H l=none->Q (.ref l) (upd H l<|.dK<|Ct rows)):wA P w K C vs H Q e3
inductive rD (P:Eg)(w:Ek)(K:Cd)(C aN:Ef)(vs:Dj)(H:Hp)(Q:VK)(E:XK):Prop
 |mk (a:Ef) (fp:Dd) (S:Di) (x p:Str) (h0:vs=[.ref a,.str x,.str p]) (h1:yg P w K C H a fp S) (h2:xr S) (h3:GR p=true) (h4:p.length<=1000) (h5:((∃d rows,At S x (.tree rows)/\Tree d S x/\∀H',zz H H'->Q (oV<|atT S x<|Ut p) H')\/(Uu S (.str x) "tree"=false/\E (.ref aN) none H))):rD P w K C aN vs H Q E
section
variable {P:Eg}{w:Ek}{K:Cd}{mg:Str->Dc}{base:Ev}{t1 t2 t3 t4 t5 t6 t7:Tok}{aL aC aN aT aA b1 b2:Ef}
theorem O4 {rows:Dg}(h:zy K H (rows.map zb) rs):KK K H rs (Ct rows):=by
 have f:rs.length=rows.length:=by rw[zy.length h,Q8]
 refine⟨by unfold Ct;rw[Q8];exact f,fun i x e=>?_⟩;obtain⟨r,c,d,rfl,b⟩:=WO h e;exact⟨c,.inr r.1,.str r.2,rfl,b,by unfold Ct;rw[Zk,d];rfl⟩
theorem Te {rows:Dg}(nd:(rows.map (·.1)).Nodup):putAll [] (Ct rows)=Ct rows:=by
 rw[GS (Dm:=[])<|fun k _ z=>absurd z Yq]
 ·rfl
 ·rw[kN];have:(rows.map fun p=>(.inr p.1:Key))=(rows.map (·.1)).map Sum.inr:=by rw[ZC];rfl
  rw[this];exact List.Pairwise.map _ (fun a b n e=>by cases e;exact n rfl) nd
theorem aG {l:Da}(h:l.Pairwise Cs):l.Nodup:=ZI.mpr<|h.imp fun{a b} z=>Iy z
namespace AO
abbrev st:Stmt:=top 42
theorem sc:zx ["store","tree"] ["store","tree"] (zG st):=Cp
theorem ok (F:wY K "rows_of" "rows_of" st f fd)(T:Txt P w K mg t1 t2 t3 t4 t5 t6 t7 aL aC aN aT aA b1 b2)(j:tQ P w K mg base aC 4 "thing" ["self","name"]<|wC P w K aC aN):yx P w K mg base Cn 5 f fd ["store","tree"] (wA P w K aC):=by
 refine F.ok sc fun _ _ _ _ H D Q E r h=>?_;obtain⟨a,o,S,x,rows,rfl,sh,ok,at_,nd,k⟩:=h;refine⟨_,(zF<|zM<|z6 (KR (K:=K) rfl) (by rfl) T.dict PyProof.Rows.boot_dict<|zA (zY (yw:Cl _<|xg K) (xO (pv 0) T.cls j r.m zZ<|zA (pv 1) zB) zI) zB),?_⟩;obtain⟨u,A,B,C,b⟩:=XG sh;have s:U8 S (.str x)=true:=Zg at_.mem;refine⟨_,rfl,a,u,_,rfl,b,rfl,_,rfl,a,o,S,.str x,_,rfl,sh,rfl,fun e q n t i=>?_,fun z=>by rw[s]at z;cases z⟩;rw[KA ok at_ q n]at i;obtain⟨c,y,g,p,d⟩:=To i;refine⟨t,_,_,_,rfl,rfl,g,rfl,c,y,Ct rows,rfl,p,O4 d,fun l v=>?_⟩;rw[Te nd];exact k l v
end AO
namespace AQ
abbrev st:Stmt:=top 46
theorem sc:zx ["store","root","path","name","label"] ["store","root","path"] (zG st):=Cp
theorem ok (F:wY K "found_at" "found_at" st f fd)(T:Txt P w K mg t1 t2 t3 t4 t5 t6 t7 aL aC aN aT aA b1 b2)(Y:tW P w K mg base 6 "need_root" ["store","root"]<|uz P w K aC aN)(R:tW P w K mg base 3 "labels_of" ["path"]<|rU K b1)(X:wZ P w K mg base 5 "names_form" ["store","name","form"]<|oO P w K aC)(U:wZ P w K mg base 5 "rows_of" ["store","tree"]<|wA P w K aC):yx P w K mg base (CH P w) 7 f fd ["store","root","path"] (rD P w K aC aN):=by
 refine F.pY sc fun _ _ _ _ H vs Q E s h=>?_;obtain⟨a,D,S,x,p,rfl,sh,ok,hp,pl,h⟩:=h;refine⟨_,(zD (yD<|yK Y s.m yX<|zA (pv 0)<|zA (pv 1) zB)<|zD (Co (i:=3) sc.nd<|pv 1)<|zD (xA LL rfl (xC<|yK R s.m yX<|zA (pv 2) zB) (zQ (i:=4) sc.nd rfl<|EE rfl)<|zD (yI (yW<|zS (K:=K)<|zJ X s.m<|zA (pv 0)<|zA (pv 3)<|zA zq zB) (zF<|zM q9) zT)<|zF<|Co (i:=3) sc.nd<|jG s.wJ (zJ U s.m<|zA (pv 0)<|zA (pv 3) zB) (pv 4) ⟨rfl,rfl,rfl,rfl⟩)<|zF<|zM<|pv 3),?_⟩
 refine⟨_,rfl,_,rfl,a,D,S,.str x,_,rfl,sh,ok.th,rfl,fun q=>?_,fun q=>?_⟩
 rotate_left
 ·rcases h with⟨_,rows,at_,_⟩|⟨_,kE⟩
  ·rw[isT at_]at q;cases q
  ·exact kE
 rcases h with⟨d,rows,at_,tr,k⟩|⟨z,_⟩
 rotate_left
 ·rw[z]at q;cases q
 refine⟨_,rfl,_,rfl,.str p,_,rfl,rfl,Zg pl,fun x' ex ab l O A hl=>?_,fun z=>?_⟩
 rotate_left
 ·rw[show XR (.str p)=GR p from rfl,hp]at z;cases z
 cases ex;have lc:=vW p;refine⟨l,rfl,⟨_,hl⟩,jC (K:=K) (a:=l) (xs:=(Ut p).map V.str) (fun i C j=>∃J nm,C=[some<|.ref a,some<|.str x,some<|.str p,some<|oV nm,J]/\zz O j/\nm=((Ut p).take i).foldl (wQ S) (some x)/\∀n,nm=some n->∃e,Tree e S n) ⟨none,some x,rfl,zz.refl _,rfl,fun n hn=>⟨d,by cases hn;exact tr⟩⟩ (fun i C j _ h=>?_) ?_ ?_⟩
 ·obtain⟨_,_,_,c,_⟩:=h;exact c.seq hl
 ·rintro i v C j M ⟨J,nm,rfl,c,B,L⟩;rw[Zk]at M;obtain⟨b,G,rfl⟩:=ZE.mp M;have t:((Ut p).take<|i+1).foldl (wQ S) (some x)=wQ S nm b:=by rw[yc G,Y2,←B];rfl
  have g:atT S x (Ut p)=((Ut p).drop<|i+1).foldl (wQ S) (wQ S nm b):=by
   unfold atT;rw[←t,←Y2,Yg]
  refine⟨_,rfl,_,rfl,a,D,S,Cy nm,oV nm,"tree",rfl,sh.same<|A.trans c,ok.th,by cases nm<;>rfl,_,rfl,?_⟩;have y:wQ S nm b=none->Q .non j:=fun z=>by
   rw[z,Xp]at g;rw[g]at k;exact k j<|A.trans c
  cases nm with
  |none=>exact PU<|y rfl
  |some n =>
   rcases k9 ok n with⟨q1,rows',at'⟩|⟨q1,no⟩
   ·rw[show Uu S (Cy<|some n) "tree"=Uu S (.str n) "tree" from rfl,q1];obtain⟨e,N⟩:=L n rfl;have u:(rows'.map (·.1)).Nodup/\∀r∈rows',∃e,Tree e S r.2:=by
     cases e with
     |zero=>exact absurd N<|fun z=>z
     |succ e =>
      rcases N with⟨ls,z⟩|⟨rows2,z,h1,h2⟩
      ·cases z.thing ok at'
      ·cases z.thing ok at';exact⟨aG h1,fun r s=>⟨e,(h2 r s).2.1⟩⟩
    refine UQ ⟨_,rfl,_,rfl,a,D,S,n,rows',rfl,sh.same<|A.trans c,ok,at',u.1,fun l2 I=>?_⟩;have u2:=zE (o:=.dK<|Ct rows') I;refine⟨l2,rfl,.inl ⟨_,.inl zC⟩,_,rfl,_,wB.k (k:=.inr b) zC,?_⟩;have Z:((Us (Ct rows')<|.inr b).getD .non)=oV (zu rows' b):=by
     rw[N3];cases zu rows' b<;>rfl
    rw[Z];refine⟨_,zu rows' b,rfl,c.trans u2,by rw[t,kY ok at'],fun m hm=>?_⟩;exact u.2 _<|jR hm
   ·rw[show Uu S (Cy<|some n) "tree"=Uu S (.str n) "tree" from rfl,q1];exact PU<|y<|Ku no b
 ·rintro C j ⟨J,nm,rfl,c,B,L⟩;rw[Q8,ZH]at B;refine⟨_,rfl,?_⟩;rw[show nm=atT S x (Ut p) from B];exact k j<|A.trans c
end AQ
end
end An13
namespace An
open PySem L2 AnJ
def UG (fs:Dk)(f:Fi):Dk:=if f.1∈fs.map (·.1) then fs.map (fun g=>if g.1=f.1 then f else g) else fs++[f]
theorem M0 (fs:Dk)(f:Fi):(UG fs f).map (·.1)=if f.1∈fs.map (·.1) then fs.map (·.1) else fs.map (·.1)++[f.1]:=by
 unfold UG
 split
 ·rw[ZC];refine ZQ fun g _=>?_;show(if g.1=f.1 then f else g).1=g.1
  split
  ·rename_i z;exact z.symm
  ·rfl
 ·rw[Zl];rfl
theorem uH {k:Fi}(h:k∈UG fs f):k∈fs\/k=f:=by
 unfold UG at h
 split at h
 ·obtain⟨g,b,e⟩:=Zc.mp h
  split at e
  ·exact .inr e.symm
  ·exact .inl (e▸b)
 ·rcases ZD.mp h with z|z
  ·exact .inl z
  ·exact .inr (Q9.mp z)
theorem XH (fs:Dk)(f:Fi):(UG fs f).length<=fs.length+1:=by
 unfold UG
 split
 ·rw[Q8];exact JD _
 ·rw[Zh];exact Zf _
theorem Id {a t:Da}(ha:a≠[])(b:t≠[]):Cc (a++t)=Cc a++"/"++Cc t:=xq (by
 have e:cs ("/":Str)=[47]:=by decide +kernel
 unfold Cc;rw[qI,Zl,K8 (by simpa using ha)<|by simpa using b,zr,zr,qI,qI,e];simp)
theorem za.put (g:za 4 fs){f:Fi}(c:f.1≠[])(h:f.1.length<=4)(hl:∀l∈f.1,zP l=true)(hn:UE f.2)(fr:∀k∈fs,UB (Cc k.1) (Cc f.1)=false/\UB (Cc f.1) (Cc k.1)=false):za 4 (UG fs f):=by
 have d:∀{a b t:Da},a≠[]->b=a++t->UB (Cc a) (Cc b)=false->t=[]:=fun{a b t} ha e z=>by
  rcases Classical.em (t=[]) with q|q
  ·exact q
  ·rw[e,Id ha q,HZ]at z;cases z
 refine⟨fun k hk=>?_,?_,fun k hk m hm t e=>?_⟩
 ·rcases uH hk with z|z
  ·exact g.wV k z
  ·rw[z];exact⟨c,h,hl,hn⟩
 ·rw[M0]
  split
  ·exact g.nd
  ·rename_i z;exact jQ g.nd z
 ·rcases uH hk with z|z<;>rcases uH hm with y|y
  ·exact g.pre k z m y t e
  ·rw[y]at e;exact d (g.wV k z).1 e (fr k z).1
  ·rw[z]at e;exact d c e (fr m y).2
  ·rw[z,y]at e;have:=congrArg List.length e;rw[Zh]at this;exact Yp (by lia)
theorem ye.put {K:Cd}(h:ye K H fs Dm){n:Nat}(g:za n fs){f:Fi}{v:V}(C:f.1≠[])(hl:∀l∈f.1,zP l=true)(A:Dt K H (yo f.2) v)(hn:UE f.2):ye K H (UG fs f) (yd Dm (.inr<|Cc f.1) v):=by
 have key:∀k∈fs,((.inr (Cc k.1):Key)=.inr (Cc f.1))↔k.1=f.1:=fun k hk=>⟨fun z=>qF (d:=0) (g.wV k hk).1 C (g.wV k hk).2.2.1 hl<|Sum.inr.inj z,fun z=>by rw[z]⟩
 by_cases z:f.1∈fs.map (·.1)
 ·have x:∃k∈fs,k.1=f.1:=let ⟨k,hk,e⟩:=Zc.mp z;⟨k,hk,e⟩;have ha:(Dm.any fun c=>decide (c.1=.inr (Cc f.1)))=true:=by
   obtain⟨k,hk,e⟩:=x;have:(.inr (Cc f.1):Key)∈Dm.map (·.1):=by rw[h.keys];exact Zc.mpr ⟨k,hk,by rw[e]⟩
   obtain⟨c,m,B⟩:=Zc.mp this;exact Yb.mpr ⟨c,m,Zg B⟩
  unfold yd UG;rw[Zs ha,Zs z];refine⟨?_,fun i k c a b=>?_⟩
  ·rw[ZC,ZC];have r:Dm.map ((fun p=>p.1)∘fun c=>if c.1=.inr (Cc f.1) then(c.1,v) else c)=Dm.map (·.1):=ZQ fun c _=>by
    show(if c.1=.inr (Cc f.1) then(c.1,v) else c).1=c.1
    split<;>rfl
   rw[r,h.keys];refine ZQ fun k _=>?_;show(Ep (Cc k.1):Key)=.inr (Cc (if k.1=f.1 then f else k).1)
   split
   ·rename_i q;rw[q]
   ·rfl
  ·rw[Zk]at a b;obtain⟨w,s,u⟩:=ZE.mp a;obtain⟨t,o,j⟩:=ZE.mp b;have r:=congrArg (fun l=>l[i]?) h.keys;simp only[Zk,s,o,Yt]at r;have r:t.1=.inr (Cc w.1):=Option.some.inj r
   by_cases q:w.1=f.1
   ·rw[Zs q]at u;rw[Zs<|by rw[r,q]]at j;rw[←u,←j];exact⟨A,hn⟩
   ·rw[Zt q]at u;rw[Zt<|fun y=>q<|(key w<|Zn s).mp<|r.symm.trans y]at j;rw[←u,←j];exact h.val i w t s o
 ·have D:(.inr (Cc f.1):Key)∉Dm.map (·.1):=fun y=>by
   rw[h.keys]at y;obtain⟨k,hk,e⟩:=Zc.mp y;exact z<|Zc.mpr ⟨k,hk,(key k hk).mp e⟩
  rw[kC D];unfold UG;rw[Zt z];exact h.snoc A hn
theorem Ke (B:Da)(l:Str)(b:B≠[]):Cc B++"/"++l=Cc (B++[l]):=by
 rw[Id b<|ZR _ _,Kf]
noncomputable def Cb (S:Di)(o:Option Str):Dg:=match o with
 |none=>[]
 |some n=>match CO S n with
  |some (.tree rows)=>rows
  |_=>[]
noncomputable def Ch (S:Di)(o:Option Str):Bool:=match o with
 |none=>false
 |some n=>match CO S n with
  |some (.tree _)=>true
  |_=>false
noncomputable def Ce (S:Di)(o:Option Str):Option Str:=if Ch S o=true then none else o
theorem O7 (S:Di)(o:Option Str)(l:Str):wQ S o l=zu (Cb S o) l:=by
 cases o with
 |none=>rfl
 |some n =>
  unfold wQ Cb;dsimp only;generalize CO S n=o;cases o with
  |none=>rfl
  |some t=>cases t<;>rfl
theorem GC (h:Ch S o=false):Cb S o=[]:=by
 cases o with
 |none=>rfl
 |some n =>
  unfold Ch at h;unfold Cb;dsimp only at h ⊢;cases q:CO S n with
  |none=>rfl
  |some t =>
   rw[q]at h;cases t with
   |leaf ls=>rfl
   |tree rows=>cases h
   |note a b c=>rfl
theorem yP (g:xr S){n:Str}{rows:Dg}(h:At S n<|.tree rows):Cb S (some n)=rows/\Ch S (some n)=true:=by
 unfold Cb Ch;dsimp only;rw[jV g h];exact⟨rfl,rfl⟩
abbrev Oj:=Da×Option Str×Option Str
noncomputable def Cg (S:Di)(o:Option Str)(p:Da):Option Str:=p.foldl (wQ S) o
theorem xR (S:Di)(o:Option Str)(l:Str)(p:Da):Cg S o (l::p)=Cg S (zu (Cb S o) l) p:=by
 show(p.foldl (wQ S)<|wQ S o l)=_;rw[O7];rfl
structure sY (S:Di)(B:Da)(b a:Option Str)(R:List Oj):Prop where
 rise:R.Pairwise fun r s=>Cs (Cc r.1)<|Cc s.1
 mem:∀r,r∈R↔∃p,r=(B++p,Ce S<|Cg S b p,Ce S<|Cg S a p)/\Ce S (Cg S b p)≠Ce S (Cg S a p)
theorem RD:∀(B:Da) {p q:Da},p≠[]->q≠[]->Cs (Cc p) (Cc q)->Cs (Cc<|B++p) (Cc<|B++q)
 |[],_,_,_,_,h=>h
 |l::B,p,q,hp,hq,h=>MZ (fun z=>hp (JS.mp z).2) (fun z=>hq (JS.mp z).2) (RD B hp hq h)
theorem Kc:∀{B:Da} {p:Da},B≠[]->p≠[]->Cs (Cc B) (Cc<|B++p)
 |[],_,h,_=>absurd rfl h
 |[l],p,_,hp=>by
  unfold Cs;show cs (Cc [l])<cs (Cc (l::p));rw[jN,x5 l hp];have:=KM (cs l)<|List.nil_lt_cons 47<|cs<|Cc p;rw[ZG]at this;exact this
 |l::m::B,p,_,hp=>MZ (ZR _ _) (ZR _ _)<|Kc (ZR _ _) hp
theorem sY.step {B:Da}{L:Da}{R:Str->List Oj}(top:B=[]->Ce S b=Ce S a)(h:L.Pairwise Cs)(wV:∀l∈L,zP l=true)(hm:∀l,zu (Cb S b) l≠zu (Cb S a) l->l∈L)
  (g:∀l∈L,zu (Cb S b) l≠zu (Cb S a) l->sY S (B++[l]) (zu (Cb S b) l) (zu (Cb S a) l) (R l)) :
  sY S B b a ((if Ce S b≠Ce S a then[(B,Ce S b,Ce S a)] else[])++L.flatMap fun l=>if zu (Cb S b) l≠zu (Cb S a) l then R l else[]):=by
 have inl:∀{l r},l∈L->r∈(if zu (Cb S b) l≠zu (Cb S a) l then R l else[])->zu (Cb S b) l≠zu (Cb S a) l/\∃p,r=(B++l::p,Ce S<|Cg S b (l::p),Ce S<|Cg S a (l::p))/\Ce S (Cg S b (l::p))≠Ce S (Cg S a (l::p)):=fun{l r} hl c=>by
  by_cases q:zu (Cb S b) l≠zu (Cb S a) l
  ·rw[Zs q]at c;obtain⟨p,e,ne⟩:=((g l hl q).mem r).mp c;rw[←xR,←xR]at e ne;refine⟨q,p,?_,ne⟩;rw[e,Z6];rfl
  ·rw[Zt q]at c;cases c
 refine⟨?_,fun r=>?_⟩
 ·rw[List.pairwise_append];refine⟨?_,?_,fun r c s f=>?_⟩
  ·split
   ·exact JJ _ _
   ·exact List.Pairwise.nil
  ·rw[JK,List.pairwise_flatten];refine⟨fun m d=>?_,?_⟩
   ·obtain⟨l,hl,rfl⟩:=Zc.mp d
    split
    ·rename_i q;exact(g l hl q).rise
    ·exact List.Pairwise.nil
   ·rw[Yc];refine h.imp_of_mem fun{l m} hl d z r c s f=>?_;obtain⟨_,p,rfl,_⟩:=inl hl c;obtain⟨_,q,rfl,_⟩:=inl d f;exact RD B (ZR _ _) (ZR _ _)<|RG p q (wV m d) z
  ·obtain⟨l,hl,f⟩:=Yd.mp f;obtain⟨_,p,rfl,_⟩:=inl hl f
   by_cases q:Ce S b≠Ce S a
   ·rw[Zs q]at c;rw[Q9.mp c];exact Kc (fun z=>q<|top z) (ZR _ _)
   ·rw[Zt q]at c;cases c
 ·rw[ZD];constructor
  ·rintro(c|c)
   ·by_cases q:Ce S b≠Ce S a
    ·rw[Zs q]at c;exact⟨[],by rw[Q9.mp c,ZG];rfl,q⟩
    ·rw[Zt q]at c;cases c
   ·obtain⟨l,hl,c⟩:=Yd.mp c;obtain⟨_,p,e,ne⟩:=inl hl c;exact⟨l::p,e,ne⟩
  ·rintro⟨p,rfl,ne⟩;cases p with
   |nil =>
    have ne:Ce S b≠Ce S a:=ne;refine .inl ?_;rw[Zs ne,ZG];exact Q9.mpr rfl
   |cons l p =>
    rw[xR,xR]at ne;have q:zu (Cb S b) l≠zu (Cb S a) l:=fun z=>ne (by rw[z]);have hl:=hm l q;refine .inr<|Yd.mpr ⟨l,hl,?_⟩;rw[Zs q,(g l hl q).mem];refine⟨p,?_,ne⟩;rw[xR,xR,Z6];rfl
theorem RP {α:Type}{f:α->Str}{l m:List α}(c:l.Pairwise<|fun r s=>Cs (f r)<|f s)(d:m.Pairwise<|fun r s=>Cs (f r)<|f s)(e:∀r,r∈l↔r∈m):l=m:=by
 have nd:∀{l:List α},l.Pairwise (fun r s=>Cs (f r)<|f s)->l.Nodup:=fun{l} h=>ZI.mpr (h.imp fun{a b} z q=>by subst q;exact J6 _ z);have p:l.Perm m:=(Jt (nd c)<|nd d).mpr e;exact p.eq_of_pairwise (fun a b _ _ x y=>absurd (NQ x y) id) c d
def bN (b:Bool):Nat:=if b=true then 1 else 0
noncomputable def CN (S:Di)(b a:Option Str)(p:Da):Nat:=open Classical in if Cg S b p≠Cg S a p then bN (Ch S<|Cg S b p)+bN (Ch S<|Cg S a p) else 0
theorem IC (S:Di)(b a:Option Str)(l:Str)(p:Da):CN S b a (l::p)=CN S (zu (Cb S b) l) (zu (Cb S a) l) p:=by
 unfold CN;rw[xR,xR]
theorem Ix (S:Di)(b:Option Str)(p:Da):CN S b b p=0:=by
 unfold CN;exact Zt<|fun z=>z rfl
def CM (l:Str)(P:List Da):List Da:=P.filterMap fun p=>match p with
 |m::q=>if m=l then some q else none
 |[]=>none
theorem oE {q:Da}:q∈CM l P↔l::q∈P:=by
 unfold CM;rw[Jq];constructor
 ·rintro⟨p,b,e⟩;cases p with
  |nil=>cases e
  |cons m r =>
   dsimp only at e
   by_cases z:m=l
   ·rw[Zs z]at e;cases e;rwa[←z]
   ·rw[Zt z]at e;cases e
 ·intro h;exact⟨l::q,h,by dsimp only;rw[Zs rfl]⟩
theorem Ig (l m:Str)(q:Da)(P:List Da):CM l ((m::q)::P)=if m=l then q::CM l P else CM l P:=by
 unfold CM;rw[YN];dsimp only
 by_cases z:m=l
 ·rw[Zs z,Zs z]
 ·rw[Zt z,Zt z]
theorem Oc:∀{P:List Da},P.Nodup->(CM l P).Nodup
 |[],_=>Yw
 |[]::P,h=>Oc (P:=P) (ZS.mp h).2
 |(m::q)::P,h=>by
  have h:=ZS.mp h;rw[Ig]
  by_cases z:m=l
  ·rw[Zs z,ZS];exact⟨fun w=>h.1 (by rw[z];exact oE.mp w),Oc h.2⟩
  ·rw[Zt z];exact Oc h.2
theorem R3 {f g:Str->Nat}{m:Str}{x:Nat}(hm:g m=f m+x)(b:∀l,l≠m->g l=f l):∀{L:Da},L.Nodup->m∈L->(L.map g).sum=(L.map f).sum+x
 |[],_,h=>(nomatch h)
 |l::L,nd,h=>by
  have nd:=ZS.mp nd;rw[Zu,Zu,Yl,Yl]
  by_cases z:l=m
  ·subst z;have:L.map g=L.map f:=ZQ fun k hk=>b k<|fun q=>nd.1<|q▸hk;rw[this,hm];lia
  ·rcases Zi.mp h with q|q
   ·exact absurd q.symm z
   ·rw[b l z,R3 hm b nd.2 q];lia
theorem Xo {c:Da->Nat}{L:Da}(nd:L.Nodup)(out:∀l p,l∉L->c (l::p)=0):∀{P:List Da},P.Nodup->(P.map c).sum=(if[]∈P then c [] else 0)+(L.map fun l=>((CM l P).map fun p=>c (l::p)).sum).sum
 |[],_=>by
  rw[Zt<|fun z=>nomatch z];have:(L.map fun l=>((CM l []).map fun p=>c (l::p)).sum)=L.map fun _=>0:=rfl;rw[this];clear this out nd
  induction L with
  |nil=>rfl
  |cons l L ih=>rw[Zu,Yl];lia
 |[]::P,h=>by
  have h:=ZS.mp h;rw[Zu,Yl,Xo nd out h.2,Zt h.1,Zs Ze];have:(L.map fun l=>((CM l ([]::P)).map fun p=>c (l::p)).sum)=L.map fun l=>((CM l P).map fun p=>c (l::p)).sum:=rfl;rw[this];lia
 |(m::q)::P,h=>by
  have h:=ZS.mp h;rw[Zu,Yl,Xo nd out h.2];have b:([]∈(m::q)::P)=([]∈P):=propext ⟨fun z=>(Zi.mp z).resolve_left (fun w=>nomatch w),fun z=>Zb _ z⟩;simp only[b]
  by_cases hm:m∈L
  ·have:=R3 (f:=fun l=>((CM l P).map fun p=>c (l::p)).sum) (g:=fun l=>((CM l ((m::q)::P)).map fun p=>c (l::p)).sum) (m:=m) (x:=c (m::q)) (by
    rw[Ig,Zs rfl,Zu,Yl];lia) (fun l hl=>by
    rw[Ig,Zt<|EB hl]) nd hm
   rw[this];lia
  ·rw[out m q hm];have:(L.map fun l=>((CM l ((m::q)::P)).map fun p=>c (l::p)).sum)=L.map fun l=>((CM l P).map fun p=>c (l::p)).sum:=ZQ fun l hl=>by
    rw[Ig,Zt (fun z:m=l=>hm<|z▸hl)]
   rw[this];lia
def pR (S:Di)(b a:Option Str)(n:Nat):Prop:=∀P:List Da,P.Nodup->(∀p,CN S b a p≠0->p∈P)->(P.map<|CN S b a).sum=n
theorem pR.step {b a:Option Str}{L:Da}{N:Str->Nat}(ne:b≠a)(nd:L.Nodup)(hm:∀l,zu (Cb S b) l≠zu (Cb S a) l->l∈L)
  (j:∀l∈L,zu (Cb S b) l≠zu (Cb S a) l->pR S (zu (Cb S b) l) (zu (Cb S a) l) (N l)) :
  pR S b a (bN (Ch S b)+bN (Ch S a)+(L.map fun l=>if zu (Cb S b) l≠zu (Cb S a) l then N l else 0).sum):=fun P g c=>by
 have d:∀l p,l∉L->CN S b a (l::p)=0:=fun l p hl=>by
  rw[IC]
  by_cases q:zu (Cb S b) l=zu (Cb S a) l
  ·rw[q];exact Ix _ _ _
  ·exact absurd (hm l q) hl
 rw[Xo nd d g];have e:CN S b a []=bN (Ch S b)+bN (Ch S a):=by
  unfold CN;exact Zs ne
 have h:(if[]∈P then CN S b a [] else 0)=bN (Ch S b)+bN (Ch S a):=by
  by_cases q:[]∈P
  ·rw[Zs q,e]
  ·rw[Zt q,←e]
   by_cases z:CN S b a []=0
   ·exact z.symm
   ·exact absurd (c [] z) q
 have i:(L.map fun l=>((CM l P).map fun p=>CN S b a (l::p)).sum)=L.map fun l=>if zu (Cb S b) l≠zu (Cb S a) l then N l else 0:=ZQ fun l hl=>by
  have f:((CM l P).map fun p=>CN S b a (l::p))=(CM l P).map (CN S (zu (Cb S b) l)<|zu (Cb S a) l):=ZQ fun p _=>IC S b a l p;rw[f]
  by_cases q:zu (Cb S b) l≠zu (Cb S a) l
  ·rw[Zs q];refine j l hl q _ (Oc g) fun p n=>oE.mpr<|c _ ?_;rwa[IC]
  ·rw[Zt q];have q:zu (Cb S b) l=zu (Cb S a) l:=Classical.not_not.mp q;rw[q];have:(CM l P).map (CN S (zu (Cb S a) l)<|zu (Cb S a) l)=(CM l P).map fun _=>0:=ZQ fun p _=>Ix _ _ _;rw[this];clear this f;generalize CM l P=M
   induction M with
   |nil=>rfl
   |cons x M ih=>rw[Zu,Yl];lia
 rw[h,i]
def Xj (b c:Dg):Da:=(Uy ((b.map fun r=>(r.1,("":Str)))++((c.filter fun r=>decide (r.1∉b.map (·.1))).map fun r=>(r.1,("":Str))))).map (·.1)
theorem Xt {c d:Dg}(g:(c.map (·.1)).Nodup)(h:(d.map (·.1)).Nodup):(Xj c d).Pairwise Cs/\∀l,l∈Xj c d↔l∈c.map (·.1)\/l∈d.map (·.1):=by
 have e:((c.map fun r=>(r.1,("":Str)))++((d.filter fun r=>decide (r.1∉c.map (·.1))).map fun r=>(r.1,("":Str)))).map (·.1)=c.map (·.1)++(d.filter fun r=>decide (r.1∉c.map (·.1))).map (·.1):=by
  rw[Zl,ZC,ZC];rfl
 constructor
 ·refine GK ?_;rw[e,Y4];refine⟨g,?_,fun a ha b hb z=>?_⟩
  ·exact(List.filter_sublist.map _).nodup h
  ·obtain⟨r,f,rfl⟩:=Zc.mp hb;have:=Zv (YA.mp f).2;exact this<|z▸ha
 ·intro l;have:l∈Xj c d↔l∈((c.map fun r=>(r.1,("":Str)))++((d.filter fun r=>decide (r.1∉c.map (·.1))).map fun r=>(r.1,("":Str)))).map (·.1):=((xF _).map _).mem_iff;rw[this,e,ZD];constructor
  ·rintro(z|z)
   ·exact .inl z
   ·obtain⟨r,f,rfl⟩:=Zc.mp z;exact .inr<|Zc.mpr ⟨r,(YA.mp f).1,rfl⟩
  ·rintro(z|z)
   ·exact .inl z
   ·by_cases q:l∈c.map (·.1)
    ·exact .inl q
    ·obtain⟨r,f,rfl⟩:=Zc.mp z;exact .inr<|Zc.mpr ⟨r,YA.mpr ⟨f,Zg q⟩,rfl⟩
noncomputable def CB:Nat->Di->Da->Option Str->Option Str->List Oj
 | 0,_,_,_,_=>[]
 |d+1,S,B,b,a=>(if Ce S b≠Ce S a then[(B,Ce S b,Ce S a)] else[])++(Xj (Cb S b)<|Cb S a).flatMap fun l=>if zu (Cb S b) l≠zu (Cb S a) l then CB d S (B++[l]) (zu (Cb S b) l) (zu (Cb S a) l) else[]
noncomputable def CY:Nat->Di->Option Str->Option Str->Nat
 | 0,_,_,_=>0
 |d+1,S,b,a=>bN (Ch S b)+bN (Ch S a)+((Xj (Cb S b)<|Cb S a).map fun l=>if zu (Cb S b) l≠zu (Cb S a) l then CY d S (zu (Cb S b) l) (zu (Cb S a) l) else 0).sum
def Nd (d:Nat)(S:Di)(o:Option Str):Prop:=∀x,o=some x->Tree d S x
theorem Nd.rows {d:Nat}(g:xr S){o:Option Str}(h:Nd (d+1) S o):((Cb S o).map (·.1)).Pairwise Cs/\(∀r∈Cb S o,zP r.1=true)/\∀l,Nd d S (zu (Cb S o) l):=by
 have nil:Cb S o=[]->((Cb S o).map (·.1)).Pairwise Cs/\(∀r∈Cb S o,zP r.1=true)/\∀l,Nd d S (zu (Cb S o) l):=fun e=>by
  rw[e];exact⟨List.Pairwise.nil,fun r b=>(nomatch b),fun l x z=>(nomatch z)⟩
 cases o with
 |none=>exact nil rfl
 |some x =>
  rcases h x rfl with⟨ls,at_⟩|⟨rows,at_,so,b⟩
  ·refine nil (GC ?_);unfold Ch;dsimp only;rw[jV g at_]
  ·rw[(yP g at_).1];exact⟨so,fun r h=>(b r h).1,fun l y z=>(b _<|jR z).2.1⟩
theorem y6 {l:Da}(h:l.Pairwise Cs):l.Nodup:=ZI.mpr<|h.imp fun{a b} z=>Iy z
theorem Bh {n:Str}(h:zu rows l=some n):l∈rows.map (·.1):=Zc.mpr ⟨_,jR h,rfl⟩
theorem BV (h:zu r1 l≠zu r2 l):l∈r1.map (·.1)\/l∈r2.map (·.1):=by
 cases b:zu r1 l with
 |some n=>exact .inl<|Bh b
 |none =>
  cases c:zu r2 l with
  |some n=>exact .inr<|Bh c
  |none=>exact absurd (b.trans c.symm) h
theorem Fc (g:xr S):∀{d:Nat} {B:Da} {b a:Option Str},Nd d S b->Nd d S a->(B=[]->Ce S b=Ce S a)->sY S B b a (CB d S B b a)
 | 0,B,b,a,hb,ha,_=>by
  have e:∀{o:Option Str},Nd 0 S o->o=none:=fun{o} h=>by
   cases o with
   |none=>rfl
   |some x=>exact absurd (h x rfl) id
  rw[e hb,e ha];exact⟨List.Pairwise.nil,fun r=>⟨fun z=>(nomatch z),fun⟨p,_,ne⟩=>absurd rfl ne⟩⟩
 |d+1,B,b,a,hb,ha,top=>by
  obtain⟨c,q,s⟩:=hb.rows g;obtain⟨i,j,n⟩:=ha.rows g;obtain⟨t,mem⟩:=Xt (y6 c)<|y6 i;refine sY.step top t (fun l hl=>?_) (fun l ne=>(mem l).mpr<|BV ne) fun l hl ne=>Fc g (s l) (n l) fun z=>absurd z (by simp)
  rcases(mem l).mp hl with z|z
  ·obtain⟨r,f,rfl⟩:=Zc.mp z;exact q r f
  ·obtain⟨r,f,rfl⟩:=Zc.mp z;exact j r f
theorem Nu (g:xr S):∀{d:Nat} {b a:Option Str},Nd d S b->Nd d S a->b≠a->pR S b a (CY d S b a)
 | 0,b,a,hb,ha,ne=>by
  have e:∀{o:Option Str},Nd 0 S o->o=none:=fun{o} h=>by
   cases o with
   |none=>rfl
   |some x=>exact absurd (h x rfl) id
  exact absurd ((e hb).trans (e ha).symm) ne
 |d+1,b,a,hb,ha,ne=>by
  obtain⟨c,q,j⟩:=hb.rows g;obtain⟨f,p,i⟩:=ha.rows g;obtain⟨n,mem⟩:=Xt (y6 c)<|y6 f;exact pR.step ne (y6 n) (fun l ne=>(mem l).mpr<|BV ne) fun l hl ne=>Nu g (j l) (i l) ne
end An
namespace An13
open PySem L2 An
seal L2.PS L2.sX L2.PE L2.PT L2.PW L2.PA L2.PG L2.oX L2.PI L2.oU L2.PC
theorem zN {i:Nat}{v:V}{b:St}{H:Hp}{Q:St->Hp->Prop}(h:Q (b.set i (some v)) H):GO i v b H Q:=h
def CI (r:Oj):PyData:=.tuple [.str<|Cc r.1,Cy r.2.1,Cy r.2.2]
def Cu (B:Da):Str:=if B=[] then"" else Cc B++"/"
noncomputable def KQ (d:Nat)(S:Di)(B:Da)(b a:Option Str):List Oj:=(Xj (Cb S b)<|Cb S a).flatMap fun l=>if zu (Cb S b) l≠zu (Cb S a) l then CB d S (B++[l]) (zu (Cb S b) l) (zu (Cb S a) l) else[]
noncomputable def nP (d:Nat)(S:Di)(b a:Option Str):Nat:=((Xj (Cb S b)<|Cb S a).map fun l=>if zu (Cb S b) l≠zu (Cb S a) l then CY d S (zu (Cb S b) l) (zu (Cb S a) l) else 0).sum
def TY (S:Di):Prop:=∀x rows,At S x (.tree rows)->rows.length<=30
inductive uo (P:Eg)(w:Ek)(K:Cd)(C:Ef)(vs:Dj)(H:Hp)(Q:VK)(e3:XK):Prop
 |mk (a:Ef) (fp:Dd) (S:Di) (o:Option Str) (h0:vs=[.ref a,oV o]) (h1:yg P w K C H a fp S) (h2:xr S) (h3:(o=none->Q .non H)) (h4:∀x,o=some x->∃L,At S x (.leaf L)/\∀v,Dt K H (AnJ.yo L) v->Q v H):uo P w K C vs H Q e3
def FJ (P:Eg)(w:Ek)(K:Cd)(C:Ef):Nat->Sp
 | 0=>fun _ _ _ _=>False
 |d+1=>fun j H Q _=>∃(a f:Ef) (i:Dd) (S:Di) (B:Da) (b c:Option Str) (g:Dj),j=[.ref a,.str<|Cc B,oV b,oV c,.ref f]/\yg P w K C H a i S/\xr S/\TY S/\B≠[]/\(Cc B).length+10*(d+1)<=1000/\Nd (d+1) S b/\Nd (d+1) S c/\H f=some (.lst g)/\g.length+(CB (d+1) S B b c).length<=1000 /\
  ∀e h,Off [f] H e->e f=some (.lst<|g++h)->zy K e ((CB (d+1) S B b c).map CI) h->Q (.int<|CY (d+1) S b c) e
inductive sO (P:Eg)(w:Ek)(K:Cd)(C:Ef)(d:Nat)(vs:Dj)(H:Hp)(Q:VK)(e3:XK):Prop
 |mk (a c1 c2 lr:Ef) (fp:Dd) (S:Di) (B:Da) (b c:Option Str) (xs:Dj) (h0:vs=[.ref a,.str<|Cu B,.ref c1,.ref c2,.ref lr]) (h1:yg P w K C H a fp S) (h2:xr S) (h3:TY S) (h4:(Cu B).length+10*(d+1)<=1001) (h5:Nd (d+1) S b) (h6:Nd (d+1) S c) (h7:H c1=some (.dK<|Ct<|Cb S b)) (h8:H c2=some (.dK<|Ct<|Cb S c)) (h9:H lr=some (.lst xs)) (h10:xs.length+(KQ d S B b c).length<=1000) (h11:∀H' ys,Off [lr] H H'->H' lr=some (.lst<|xs++ys)->zy K H' ((KQ d S B b c).map CI) ys->Q (.int<|nP d S b c) H'):sO P w K C d vs H Q e3
section
variable {P:Eg}{w:Ek}{K:Cd}{mg:Str->Dc}{base:Ev}{t1 t2 t3 t4 t5 t6 t7:Tok}{aL aC aN aT aA b1 b2:Ef}
namespace AR
abbrev st:Stmt:=top 52
theorem sc:zx ["store","name"] ["store","name"] (zG st):=Cp
theorem ok (F:wY K "lines_at" "lines_at" st f fd)(T:Txt P w K mg t1 t2 t3 t4 t5 t6 t7 aL aC aN aT aA b1 b2)(g:tQ P w K mg base aC 4 "thing" ["self","name"]<|wC P w K aC aN):yx P w K mg base Cn 5 f fd ["store","name"] (uo P w K aC):=by
 refine F.ok sc fun _ _ _ _ H C Q E n h=>?_;obtain⟨a,j,S,o,rfl,sh,ok,s,u⟩:=h;refine⟨_,(zF<|zM<|GE (zX Rt (pv 1) q9<|zW _) q9<|zY (yw:Cl _<|xg K) (xO (pv 0) T.cls g n.m zZ<|zA (pv 1) zB) zI),?_⟩;cases o with
 |none=>exact⟨_,rfl,rfl,true,(by show V.bl (decide (V.non=V.non))=_;rw[Zg rfl]),Uo<|s rfl⟩
 |some x =>
  obtain⟨L,at_,k⟩:=u x rfl;obtain⟨r,y,A,B,b⟩:=XG sh;have q:U8 S (.str x)=true:=Zg at_.mem;refine⟨_,rfl,rfl,false,(by show V.bl (decide (V.str x=V.non))=_;rw[Zo<|fun z=>nomatch z]),Ur ⟨_,rfl,a,r,_,rfl,b,rfl,_,rfl,a,j,S,.str x,_,rfl,sh,rfl,fun e l i t d=>?_,fun z=>by rw[q]at z;cases z⟩⟩;rw[KA ok at_ l i]at d;obtain⟨v,c,p⟩:=SD d;exact⟨t,_,_,_,rfl,rfl,c,rfl,k v p⟩
end AR
theorem Ko (rows:Dg):Pe (Ct rows):=fun b h=>by
 obtain⟨r,_,rfl⟩:=Zc.mp h;rfl
theorem kN (rows:Dg):(Ct rows).map U4=rows.map (·.1):=by
 unfold Ct;rw[ZC];rfl
theorem Bw (g:xr S)(few:TY S){d:Nat}{o:Option Str}(h:Nd (d+1) S o):(Cb S o).length<=30:=by
 cases o with
 |none=>exact ZN _
 |some x =>
  rcases h x rfl with⟨ls,at_⟩|⟨rows,at_,_⟩
  ·have:Cb S (some x)=[]:=GC (by unfold Ch;dsimp only;rw[jV g at_]);rw[this];exact ZN _
  ·rw[(yP g at_).1];exact few x rows at_
theorem vS {K:Cd}(o:Option Str):Dt K H (Cy o) (oV o):=by cases o<;>rfl
theorem uW (o p:Option Str):Ey (Cy o) (Cy p)=decide (o=p):=by
 cases o with
 |none=>cases p with
  |none=>rw[Zg rfl];rfl
  |some y=>rw[Zo<|fun z=>nomatch z];rfl
 |some x=>cases p with
  |none=>rw[Zo<|fun z=>nomatch z];rfl
  |some y =>
   show decide (x=y)=_
   by_cases q:x=y
   ·rw[Zg q,Zg<|by rw[q]]
   ·rw[Zo q,Zo<|fun z=>q<|Option.some.inj z]
theorem Fk (h:zP l=true):l.length<=8:=by
 unfold zP at h;rw[Zm,Zm,ZM,ZM]at h;lia
theorem R4 {g:Str->List Oj}{U:Da}{i:Nat}{l:Str}(h:U[i]?=some l):((U.take i).flatMap g).length+(g l).length<=(U.flatMap g).length:=by
 have e:U.flatMap g=(U.take<|i+1).flatMap g++(U.drop<|i+1).flatMap g:=by rw[←V6,Yg]
 rw[e,yc h,V6,Zh,Zh,YF,VR,ZG];lia
theorem Np (B:Da)(l:Str):Cu B++l=Cc (B++[l]):=by
 unfold Cu
 by_cases q:B=[]
 ·subst q;rw[Zs rfl];refine xq ?_;rw[zr];show cs ("":Str)++cs l=cs (Cc [l]);rw[jN];rfl
 ·rw[Zt q];exact Ke B l q
theorem IT (ok:xr S){d:Nat}{o:Option Str}(h:Nd d S o):EK (Cy o)=true:=by
 cases o with
 |none=>decide +kernel
 |some n =>
  obtain⟨e,b,rfl⟩:=Zc.mp (h n rfl).mem;have:=(ok.nm b).ok;show(El e.nm&&decide (0<=64))=true;rw[this];rfl
theorem jL (n:rM H fp){c:Ef}{xs:Dj}(h:H c=some (.lst xs)):c∉fp:=fun z=>by
 obtain⟨o,e,_,b,_⟩:=n c z;rw[h]at e;exact b xs (Option.some.inj e).symm
theorem xW {H:Hp}{a:Ef}{xs:Dj}(h:H a=some (.lst xs)):∀b∈[a],∀ys,¬Rd H b (.tup ys):=fun b hb ys z=>by
 rw[Q9.mp hb]at z
 rcases z with z|⟨o,z⟩
 ·rw[h]at z;cases z
 ·rw[h]at z;cases z
theorem PM (rows:Dg)(l:Str):(Us (Ct rows)<|.inr l).getD .non=oV (zu rows l):=by
 rw[N3];cases zu rows l<;>rfl
theorem aq (h:Dt K H (Cy o) v):Dt K H' (Cy o) v:=by cases o<;>exact h
theorem GP {X:Dd}(n:∀b∈X,∀xs,¬Rd H b (.tup xs))(o:Off X H H'):∀{R:List Oj} {ys:Dj},zy K H (R.map CI) ys->zy K H' (R.map CI) ys
 |[],_,h=>h
 |r::R,_,⟨v,zs,e,hv,hr⟩=>by
  refine⟨v,zs,e,?_,GP n o hr⟩;obtain⟨p,w,rfl,q,x,s,g,c,y,t,i,d,z,u,j,f,l⟩:=hv;exact⟨p,w,rfl,Oa n o q,x,s,g,c,y,t,i,aq d,z,u,j,aq f,l⟩
namespace AS
abbrev st:Stmt:=top 49
theorem sc:zx ["store","ahead","ones","others","rows","opened","label","before","after"] ["store","ahead","ones","others","rows"] (zG st):=Cp
theorem step (F:wY K "add_beneath" "add_beneath" st f fd)(T:Txt P w K mg t1 t2 t3 t4 t5 t6 t7 aL aC aN aT aA b1 b2)(QZ:wZ P w K mg base L "add_at" ["store","path","before","after","rows"]<|FJ P w K aC d):yx P w K mg base Cn (L+1) f fd ["store","ahead","ones","others","rows"] (sO P w K aC d):=by
 refine F.ok sc fun _ _ _ _ H vs Q E u h=>?_;obtain⟨a,c1,c2,A,fp,S,B,b,c,xs,rfl,sh,ok,few,cf,nb,nc,h1,h2,hl,hx,k⟩:=h;refine⟨_,(zD (Co (i:=5) sc.nd zI)<|zD (xA EL rfl (xC<|zK (jT rfl) (by rfl) T.sorted Jg<|zA (zV WB (z6 BF (by rfl) T.set Jw (zA (pv 2) zB)) (z6 BF (by rfl) T.set Jw (zA (pv 3) zB))) zB) (zQ (i:=6) sc.nd rfl<|EE rfl) (zD (Co (i:=7) sc.nd<|jG u.wJ (pv 2) (pv 6) ⟨rfl,rfl,rfl,rfl⟩)<|zD (Co (i:=8) sc.nd<|jG u.wJ (pv 3) (pv 6) ⟨rfl,rfl,rfl,rfl⟩)<|zF<|yI (zX (qY u.units) (pv 7) (pv 8)<|zW _) (zF<|WG (i:=5) sc.nd rfl (EE rfl) (zJ QZ (u.mono<|by lia)<|zA (pv 0)<|zA (zV zL (pv 1)<|pv 6)<|zA (pv 7)<|zA (pv 8)<|zA (pv 4) zB) Wp) zT)) (zF<|zM<|pv 5)),?_⟩
 obtain⟨a2,bz,a7⟩:=nb.rows ok;obtain⟨a3,b3,a8⟩:=nc.rows ok;have n1:=Bw ok few nb;have n2:=Bw ok few nc;have k1:(Ct<|Cb S b).length=(Cb S b).length:=by unfold Ct;rw[Q8]
 have k2:(Ct<|Cb S c).length=(Cb S c).length:=by unfold Ct;rw[Q8]
 refine zN ⟨_,rfl,c1,_,rfl,.inl h1,Ko _,by rw[k1];lia,fun X ax=>?_⟩;rw[kN];have u1:=zE (o:=UF P w X ((Cb S b).map (·.1))) ax;refine⟨_,rfl,c2,_,rfl,.inl<|u1 _ _ h2,Ko _,by rw[k2];lia,fun p2 U=>?_⟩;rw[kN];have u2:=zE (o:=UF P w p2 ((Cb S c).map (·.1))) U;have M:upd H X (UF P w X ((Cb S b).map (·.1))) X=some (UF P w X ((Cb S b).map (·.1))):=zC;have ap:=u2 _ _ M;have ca:X≠p2:=zR M U;refine⟨X,p2,_,_,rfl,rfl,ap,zC,ca,by rw[Q8,Q8];lia,fun p3 ks ay n=>?_⟩;have u3:=zE (o:=UF P w p3 ks) ay;have kl:=n.len;rw[Q8,Q8]at kl;refine⟨p3,ks,rfl,zC,by lia,fun Y ss R pm so=>?_⟩;have u4:=zE (o:=.lst<|ss.map V.str) R;obtain⟨a4,C⟩:=Xt (y6 a2)<|y6 a3;have kn:ks.Nodup:=n.nd (y6 a2)<|y6 a3;have sn:ss.Nodup:=pm.nodup_iff.mpr kn;have eU:ss=Xj (Cb S b) (Cb S c):=AnS.pX (kT so) (a4.imp fun{x y} z w=>List.lt_asymm z w) sn (y6 a4) fun p=>by rw[pm.mem_iff,n.mem,C]
 subst eU;have Z:=((u1.trans u2).trans u3).trans u4;have as:H Y=none:=((u1.trans u2).trans u3).free R;have b4:Y≠A:=fun q=>by rw[q,hl]at as;cases as
 generalize e4:upd _ Y (.lst<|(Xj (Cb S b)<|Cb S c).map V.str)=H4 at Z ⊢;have an:H4 Y=some (.lst<|(Xj (Cb S b)<|Cb S c).map V.str):=by rw[←e4];exact zC
 clear e4;clear u1 u2 u3 u4 M ap ax U ay R;have I:=Z _ _ hl;have a9:=Z _ _ h1;have bd:=Z _ _ h2;have a1:=sh.same Z;have a5:c1≠A:=fun q=>by rw[q,hl]at h1;cases h1
 have a6:c2≠A:=fun q=>by rw[q,hl]at h2;cases h2
 refine⟨Y,rfl,⟨_,yu.of an⟩,jC (K:=K) (a:=Y) (xs:=(Xj (Cb S b)<|Cb S c).map V.str) (fun i σ G=>∃o6 o7 o8 D,σ=[some<|.ref a,some<|.str<|Cu B,some<|.ref c1,some<|.ref c2,some<|.ref A,some<|.int ((((Xj (Cb S b)<|Cb S c).take i).map fun l=>if zu (Cb S b) l≠zu (Cb S c) l then CY d S (zu (Cb S b) l) (zu (Cb S c) l) else 0).sum:Nat),o6,o7,o8]/\Off [A] H4 G/\G A=some (.lst<|xs++D)/\zy K G ((((Xj (Cb S b)<|Cb S c).take i).flatMap fun l=>if zu (Cb S b) l≠zu (Cb S c) l then CB d S (B++[l]) (zu (Cb S b) l) (zu (Cb S c) l) else[]).map CI) D) ⟨none,none,none,[],rfl,Off.refl _ _,by rw[ZG];exact I,rfl⟩ (fun i σ G _ ⟨_,_,_,_,_,o',_⟩=>yu.of<|o' _ _ (fun z=>b4<|Q9.mp z) an) ?_ ?_⟩
 ·rintro i v σ G hv ⟨o6,o7,o8,D,rfl,j,t,s⟩;rw[Zk]at hv;obtain⟨l,J,rfl⟩:=ZE.mp hv;rw[yc J,V6,Zl,Zl,Vi];have eS:∀x:Nat,[x].sum=x:=fun x=>by rw[Yl];rfl
  rw[Zu,YZ,eS,YF,VR,ZG];have ab:=j _ _ (fun z=>a5<|Q9.mp z) a9;have al:=j _ _ (fun z=>a6<|Q9.mp z) bd;have N:=a7 l;have O:=a8 l;refine zN ⟨_,rfl,c1,rfl,.inl ⟨_,.inl ab⟩,_,rfl,_,.inl ⟨_,.inr l,.inl ab,rfl,rfl⟩,?_⟩;rw[PM];refine zN ⟨_,rfl,c2,rfl,.inl ⟨_,.inl al⟩,_,rfl,_,.inl ⟨_,.inr l,.inl al,rfl,rfl⟩,?_⟩;rw[PM];refine zN ⟨_,rfl,_,rfl,Cy _,Cy _,vS _,vS _,IT ok N,IT ok O,_,rfl,Uw (fun q=>?_)<|fun q=>?_⟩
  ·have ne:zu (Cb S b) l≠zu (Cb S c) l:=fun z=>by
    have q:(!Ey _ _)=true:=q;rw[uW,Zg z]at q;cases q
   rw[Zs ne,Zs ne];cases d with
   |zero =>
    exfalso;have e0:∀{o:Option Str},Nd 0 S o->o=none:=fun{o} h=>by
     cases o with
     |none=>rfl
     |some x=>exact absurd (h x rfl) id
    exact ne<|(e0 N).trans (e0 O).symm
   |succ d =>
    have l8:l.length<=8:=by
     have:zP l=true:=by
      rcases(C l).mp (Zn J) with z|z
      ·obtain⟨r,u,rfl⟩:=Zc.mp z;exact bz r u
      ·obtain⟨r,u,rfl⟩:=Zc.mp z;exact b3 r u
     exact Fk this
    have cd:=a1.off (gp:=[A]) (xW I) j<|fun b hb q=>jL a1.wR I<|Q9.mp q▸hb;have yl:=s.length;rw[Q8]at yl;have bl:(((Xj (Cb S b)<|Cb S c).take i).flatMap fun l=>if zu (Cb S b) l≠zu (Cb S c) l then CB (d+1) S (B++[l]) (zu (Cb S b) l) (zu (Cb S c) l) else[]).length+(CB (d+1) S (B++[l]) (zu (Cb S b) l)<|zu (Cb S c) l).length<=(KQ (d+1) S B b c).length:=by
     have:=R4 (g:=fun l=>if zu (Cb S b) l≠zu (Cb S c) l then CB (d+1) S (B++[l]) (zu (Cb S b) l) (zu (Cb S c) l) else[]) J;rw[Zs ne]at this;exact this
    refine⟨_,rfl,_,rfl,_,rfl,_,rfl,_,_,rfl,rfl,zm<|by lia,_,rfl,_,rfl,_,rfl,?_⟩;rw[Np];have pl:(Cc<|B++[l]).length+10*(d+1)<=1000:=by
     have:(Cu B++l).length=(Cu B).length+l.length:=by rw[zj,zj,zj,zr,Zh]
     rw[Np]at this;lia
    refine⟨a,A,fp,S,B++[l],zu (Cb S b) l,zu (Cb S c) l,xs++D,rfl,cd,ok,few,by simp,pl,N,O,t,by rw[Zh];lia,fun H2 zs a0 bo bm=>⟨_,_,rfl,rfl,some<|.str l,some<|oV<|zu (Cb S b) l,some<|oV<|zu (Cb S c) l,D++zs,?_,j.trans a0,by rw[bo,Z6],?_⟩⟩
    ·rfl
    ·exact zy.append (GP (xW t) a0 s) bm
  ·have e:zu (Cb S b) l=zu (Cb S c) l:=E5 fun z=>q (by
    show(!Ey _ _)=true;rw[uW,Zo z];rfl)
   rw[Zt<|fun z=>z e,Zt<|fun z=>z e];refine⟨_,_,_,D,rfl,j,t,?_⟩;rwa[YZ,ZG]
 ·rintro σ G ⟨o6,o7,o8,D,rfl,j,t,s⟩;rw[Q8,ZH]at s ⊢;exact⟨_,rfl,k G D (fun b o nb eb=>j b o nb<|Z _ _ eb) t s⟩
end AS
theorem K2 (g:xr S)(o:Option Str):Uu S (Cy o) "tree"=Ch S o:=by
 cases o with
 |none=>rfl
 |some n =>
  rcases k9 g n with⟨e,rows,h⟩|⟨e,h⟩
  ·exact e.trans (yP g h).2.symm
  ·refine(show Uu S (Cy<|some n) "tree"=false from e).trans (Eq.symm ?_);cases q:Ch S (some n) with
   |false=>rfl
   |true =>
    unfold Ch at q;dsimp only at q;cases z:CO S n with
    |none=>rw[z]at q;cases q
    |some t =>
     rw[z]at q;unfold CO at z
     split at z
     ·rename_i ex;have z:=Option.some.inj z;have b:=JW ex;rw[z]at b;cases t with
      |leaf ls=>cases q
      |tree rows=>exact absurd b<|h rows
      |note x y w=>cases q
     ·cases z
theorem FV {ns:List (Option Str)}{x:Option Str}(c:x∈ns):(((ns.filter fun o=>Ch S o).map Cy).any fun y=>Ey y<|Cy x)=Ch S x:=by
 cases q:Ch S x with
 |true =>
  rw[Yb];exact⟨Cy x,Zc.mpr ⟨x,YA.mpr ⟨c,q⟩,rfl⟩,by rw[uW];exact Zg rfl⟩
 |false =>
  rw[Vv];rintro y d z;obtain⟨o,b,rfl⟩:=Zc.mp d;rw[uW]at z;have z:=Zv z;subst z;rw[(YA.mp b).2]at q;cases q
theorem U6 (ok:xr S){d:Nat}{o:Option Str}(h:Nd d S o):(Cy o).canLay0=true/\(Cy o).depth<=60:=by
 cases o with
 |none=>decide +kernel
 |some n =>
  obtain⟨e,b,rfl⟩:=Zc.mp (h n rfl).mem;exact⟨(ok.nm b).ok,ZN _⟩
theorem IX (ok:xr S){d:Nat}:∀{ns:List (Option Str)},(∀o∈ns,Nd d S o)->Er (ns.map Cy)=true
 |[],_=>rfl
 |o::ns,h=>by
  show((Cy o).canLay0&&Er (ns.map Cy))=true;rw[(U6 ok<|h o Ze).1,IX ok fun o b=>h o<|Zb _ b];rfl
theorem OZ (g:xr S){d:Nat}{o:Option Str}(h:Nd (d+1) S o)(t:Ch S o=true):∃n rows,o=some n/\At S n (.tree rows)/\(rows.map (·.1)).Pairwise Cs:=by
 cases o with
 |none=>cases t
 |some x =>
  rcases h x rfl with⟨ls,at_⟩|⟨rows,at_,so,_⟩
  ·unfold Ch at t;dsimp only at t;rw[jV g at_]at t;cases t
  ·exact⟨x,rows,rfl,at_,so⟩
theorem MS {K:Cd}:∀(ns:List<|Option Str),zy K H (ns.map Cy) (ns.map oV)
 |[]=>rfl
 |o::ns=>⟨_,_,rfl,vS o,MS ns⟩
namespace AT
abbrev st:Stmt:=top 50
theorem sc:zx ["store","path","before","after","rows","trees","leaves","beneath"] ["store","path","before","after","rows"] (zG st):=Cp
theorem step {L:Nat}(hL:5<=L)(F:wY K "add_at" "add_at" st f fd)(T:Txt P w K mg t1 t2 t3 t4 t5 t6 t7 aL aC aN aT aA b1 b2)(Qd:wZ P w K mg base 5 "names_form" ["store","name","form"]<|oO P w K aC)(Qb:wZ P w K mg base 5 "rows_of" ["store","tree"]<|wA P w K aC)(Qv:wZ P w K mg base L "add_beneath" ["store","ahead","ones","others","rows"]<|sO P w K aC d):yx P w K mg base Cn (L+1) f fd ["store","path","before","after","rows"] (FJ P w K aC<|d+1):=by
 refine F.ok sc fun _ _ _ _ H vs Q E hr h=>?_;obtain⟨a,U,fp,S,B,b,c,xs,rfl,sh,ok,few,hB,pl,nb,nc,hl,hx,k⟩:=h;refine⟨_,(zD (Co (i:=5) sc.nd<|xN (sc:=zG st) (N:=["store","path","before","after","rows","trees","leaves","beneath"]) (N':=["name","store"]) (src:=[none,some 0]) .a rfl rfl rfl (kB<|yQ<|zA (pv 2)<|zA (pv 3) zB) (fun _ _ _ _=>(zQ (i:=0) (show(["name","store"]:Da).Nodup by decide +kernel) rfl (EE rfl))) (fun _ _ _ _=>(FB<|zS (K:=K)<|zJ Qd (hr.mono<|by lia)<|zA (pv 1)<|zA (pv 0)<|zA zq zB)) (fun _ _ _ _=>(pv 0))) (zD (vG (sc:=zG st) (N:=["store","path","before","after","rows","trees","leaves","beneath"]) (N':=["name","trees"]) (src:=[none,some 5]) .a rfl rfl rfl (kB<|yQ<|zA (pv 2)<|zA (pv 3) zB) (fun _ _ _ _=>(zQ (i:=0) (show(["name","trees"]:Da).Nodup by decide +kernel) rfl (EE rfl))) (fun _ _ _ _=>x9) (fun _ _ _ _=>(GE (zX (Rr (K:=K) hr.units) (pv 0) (pv 1)<|by with_unfolding_all rfl) q9<|pv 0)) sc.nd rfl (EE rfl) (k:=6)) (xX (yI (zX (qY hr.units) (zY (yq:Cl _<|wO K) (pv 6) zI) (zY (yq:Cl _<|wO K) (pv 6) zI)<|zW _) (zF<|yD<|qN Z2 Z3 Z4 yZ (pv 4)<|zA (yQ<|zA (pv 1)<|zA (zY (yq:Cl _<|wO K) (pv 6) zI)<|zA (zY (yq:Cl _<|wO K) (pv 6) zI) zB) zB) zT)<|zD (vG (sc:=zG st) (N:=["store","path","before","after","rows","trees","leaves","beneath"]) (N':=["name","trees","store"]) (src:=[none,some 5,some 0]) .a rfl rfl rfl (kB<|yQ<|zA (pv 2)<|zA (pv 3) zB) (fun _ _ _ _=>(zQ (i:=0) (show(["name","trees","store"]:Da).Nodup by decide +kernel) rfl (EE rfl))) (fun _ _ _ _=>x9) (fun _ _ _ _=>(GE (zX (Rr (K:=K) hr.units) (pv 0) (pv 1)<|by with_unfolding_all rfl) (zJ Qb (hr.mono<|by lia)<|zA (pv 2)<|zA (pv 0) zB) qQ)) sc.nd rfl (EE rfl) (k:=7)) (zF<|zM<|zV xQ (zK z7 (by rfl) T.len Z5<|zA (pv 5) zB)<|zJ Qv (hr.mono<|by lia)<|zA (pv 0)<|zA (zV zL (pv 1) zq)<|zA (zY (yq:Cl _<|wO K) (pv 7) zI)<|zA (zY (yq:Cl _<|wO K) (pv 7) zI)<|zA (pv 4) zB)))),?_⟩
 refine⟨_,rfl,_,rfl,Uq 2,fun p1 a7=>?_⟩;have u1:=zE (o:=.tup [oV b,oV c]) a7;have G:=zC (H:=H) (a:=p1) (o:=.tup [oV b,oV c]);generalize upd H p1 (.tup [oV b,oV c])=H1 at u1 G ⊢;refine⟨p1,rfl,⟨_,xu.of G⟩,F3 (K:=K) (a:=p1) (xs:=[b,c].map oV) (fun j l u g=>∃o,u=[o,some<|.ref a]/\g=H1/\l=(([b,c].take j).filter fun o=>Ch S o).map oV) ⟨none,rfl,rfl,rfl⟩ (zm<|show 2<=16777216 by decide) ?_ ?_ ?_⟩
 ·rintro j l u g hj ⟨o,rfl,rfl,rfl⟩;refine⟨xu.of G,?_⟩;rw[Q8];have:=List.length_filter_le (fun o=>Ch S o)<|[b,c].take j;rw[ZB]at this;lia
 ·rintro j v l u g O ⟨o,rfl,rfl,rfl⟩;rw[Zk]at O;obtain⟨x,r,rfl⟩:=ZE.mp O;refine zN ⟨_,rfl,_,rfl,a,fp,S,Cy x,oV x,"tree",rfl,sh.same u1,ok.th,(vS x).dw,_,rfl,?_⟩;rw[K2 ok,yc r,Vp,Zl,JM,Vk];refine Uw (fun q=>⟨_,rfl,_,rfl,rfl,?_⟩)<|fun q=>⟨_,rfl,rfl,?_⟩
  ·rw[Zs q];rfl
  ·rw[Zt q];exact(ZG _).symm
 rintro l u g ⟨o,rfl,eH,rfl⟩ J n5;have cl:J≠U:=fun q=>by subst eH;rw[q,u1 _ _ hl]at n5;cases n5
 subst eH;have e2:[b,c].take ([b,c].map oV).length=[b,c]:=rfl;rw[e2];have s:∀o∈[b,c],Nd (d+1) S o:=fun o ho=>by
  rcases Zi.mp ho with z|z
  ·rwa[z]
  ·rwa[Q9.mp z]
 have u5:=u1.trans<|zE (o:=.lst<|([b,c].filter fun o=>Ch S o).map oV) n5;have Z:=zC (H:=g) (a:=J) (o:=.lst<|([b,c].filter fun o=>Ch S o).map oV);generalize upd g J (.lst<|([b,c].filter fun o=>Ch S o).map oV)=H5 at u5 Z ⊢;clear u1 G n5 a7;refine zN ⟨_,rfl,_,rfl,Uq 2,fun p2 a8=>?_⟩;have u6:=zE (o:=.tup [oV b,oV c]) a8;have I:=zC (H:=H5) (a:=p2) (o:=.tup [oV b,oV c]);have D:=u6 _ _ Z;have s6:=u5.trans u6;generalize upd H5 p2 (.tup [oV b,oV c])=H6 at u6 I D s6 ⊢;refine⟨p2,rfl,⟨_,xu.of I⟩,qX (K:=K) (a:=p2) (xs:=[b,c].map oV) (fun j l u g=>∃o,u=[o,some<|.ref J]/\g=H6/\l=(([b,c].take j).map<|Ce S).map oV) ⟨none,rfl,rfl,rfl⟩ (zm<|show 2<=16777216 by decide) ?_ ?_ ?_⟩
 ·rintro j l u g hj ⟨o,rfl,rfl,rfl⟩;refine⟨xu.of I,?_⟩;rw[Q8,Q8,ZB];lia
 ·rintro j v l u g O ⟨o,rfl,rfl,rfl⟩;rw[Zk]at O;obtain⟨x,r,rfl⟩:=ZE.mp O;have Y:=Zn r;refine zN ⟨_,rfl,_,rfl,Cy x,(([b,c].filter fun o=>Ch S o)).map Cy,vS x,⟨J,_,rfl,yu.of D,MS _⟩,IX ok<|fun o ho=>s o (YA.mp ho).1,(U6 ok<|s x Y).1,(U6 ok<|s x Y).2,_,rfl,?_⟩;rw[FV Y,yc r,Zl,Zl];refine Uw (fun q=>⟨_,rfl,rfl,?_⟩)<|fun q=>⟨_,rfl,_,rfl,rfl,?_⟩
  ·have t:Ch S x=true:=by
    cases h:Ch S x with
    |true=>rfl
    |false=>rw[h]at q;cases q
   have e:Ce S x=none:=Zs t;show _++[V.non]=_++[oV<|Ce S x];rw[e];rfl
  ·have t:Ch S x=false:=by
    cases h:Ch S x with
    |false=>rfl
    |true=>rw[h]at q;exact absurd rfl q
   have e:Ce S x=x:=Zt (by rw[t];decide);show _++[oV x]=_++[oV<|Ce S x];rw[e]
 rintro l u g ⟨o,rfl,eH,rfl⟩ R n6;have ct:R≠U:=fun q=>by subst eH;rw[q,s6 _ _ hl]at n6;cases n6
 subst eH;have e3:(([b,c].take ([b,c].map oV).length).map<|Ce S).map oV=[oV<|Ce S b,oV<|Ce S c]:=rfl;rw[e3];have s7:=s6.trans<|zE (o:=.lst [oV<|Ce S b,oV<|Ce S c]) n6;have a3:=zE (o:=.lst [oV<|Ce S b,oV<|Ce S c]) n6 _ _ D;have C:=zC (H:=g) (a:=R) (o:=.lst [oV<|Ce S b,oV<|Ce S c]);generalize upd g R (.lst [oV<|Ce S b,oV<|Ce S c])=H7 at s7 a3 C ⊢;clear u5 Z a8 u6 I D s6 n6;have a6:∀{o:Option Str},Nd (d+1) S o->Nd (d+1) S (Ce S o):=fun{o} h=>by
  unfold Ce
  split
  ·exact fun x z=>(nomatch z)
  ·exact h
 have A:=s7 _ _ hl;refine zN ⟨fun bm g=>∃l,bm=[some<|.ref a,some<|.str<|Cc B,some<|oV b,some<|oV c,some<|.ref U,some<|.ref J,some<|.ref R,none]/\Off [U] H7 g/\g U=some (.lst<|xs++l)/\zy K g ((if Ce S b≠Ce S c then[(B,Ce S b,Ce S c)] else[]).map CI) l,?_,?_⟩
 ·refine⟨_,rfl,R,_,_,_,rfl,rfl,yu.of C,rfl,_,rfl,R,_,_,_,rfl,rfl,yu.of C,rfl,Cy _,Cy _,vS _,vS _,IT ok<|a6 nb,IT ok<|a6 nc,_,rfl,Uw (fun q=>?_)<|fun q=>?_⟩
  ·have ne:Ce S b≠Ce S c:=fun z=>by
    have q:(!Ey _ _)=true:=q;rw[uW,Zg z]at q;cases q
   rw[Zs ne];refine⟨_,rfl,.inl ⟨rfl,_,yu.of A⟩,_,rfl,_,rfl,R,_,_,_,rfl,rfl,yu.of C,rfl,_,rfl,R,_,_,_,rfl,rfl,yu.of C,rfl,Uq 3,fun pt M=>⟨U,_,_,rfl,rfl,zE M _ _ A,yN<|by lia,[V.ref pt],rfl,?_,zC,?_⟩⟩
   ·exact(Off.of<|zE M).upd (Q9.mpr rfl)
   ·refine⟨_,_,rfl,⟨pt,_,rfl,xu.of ?_,_,_,rfl,rfl,_,_,rfl,vS _,_,_,rfl,vS _,rfl⟩,rfl⟩;rw[zH (fun q=>by rw[q,A]at M;cases M)];exact zC
  ·have e:Ce S b=Ce S c:=E5 fun z=>q (by
    show(!Ey _ _)=true;rw[uW,Zo z];rfl)
   rw[Zt<|fun z=>z e];exact⟨[],rfl,Off.refl _ _,by rw[ZG];exact A,rfl⟩
 rintro bm H8 ⟨y1,rfl,a0,cd,b4⟩;have bl:=sh.same s7;have cp:=bl.off (gp:=[U]) (xW A) a0<|fun b hb q=>jL bl.wR A<|Q9.mp q▸hb;have b3:=a0 _ _ (fun z=>cl<|Q9.mp z) a3;refine⟨_,rfl,_,rfl,Uq 2,fun p3 co=>?_⟩;have u9:=zE (o:=.tup [oV b,oV c]) co;have ax:=zC (H:=H8) (a:=p3) (o:=.tup [oV b,oV c]);have ab:=u9 _ _ b3;have a1:=cp.same u9;have as:=u9 _ _ cd;have ap:=zy.same u9 _ _ b4;generalize upd H8 p3 (.tup [oV b,oV c])=H9 at u9 ax ab a1 as ap ⊢;refine⟨p3,rfl,⟨_,xu.of ax⟩,qX (K:=K) (a:=p3) (xs:=[b,c].map oV) (fun j l u g=>∃o,u=[o,some<|.ref J,some<|.ref a]/\zz H9 g/\l.length=j/\∀(i:Nat) (x:Option Str),i<j->[b,c][i]?=some x->∃p,l[i]?=some (.ref p)/\g p=some (.dK<|Ct<|Cb S x)) ⟨none,rfl,fun _ _ e=>e,rfl,fun i x hi=>absurd hi<|JV i⟩ (zm<|show 2<=16777216 by decide) ?_ ?_ ?_⟩
 ·rintro j l u g hj ⟨o,rfl,X,yl,_⟩;exact⟨X.yo<|xu.of ax,J8 yl⟩
 ·rintro j v l u g O ⟨o,rfl,X,yl,hy⟩;rw[Zk]at O;obtain⟨x,r,rfl⟩:=ZE.mp O;have Y:=Zn r;have a2:∀(p:Ef),g p=none->∀i y,i<j+1->[b,c][i]?=some y->∃q,(l++[V.ref p])[i]?=some (.ref q)/\(upd g p<|.dK<|Ct<|Cb S x) q=some (.dK<|Ct<|Cb S y):=fun p np i y hi ay=>by
   by_cases z:i=j
   ·subst z;rw[r]at ay;cases ay;exact⟨p,by rw[←yl];simp,zC⟩
   ·obtain⟨q,e1,e2⟩:=hy i y (by lia) ay;exact⟨q,by rw[Yj<|by lia];exact e1,zE np _ _ e2⟩
  refine zN ⟨_,rfl,_,rfl,Cy x,(([b,c].filter fun o=>Ch S o)).map Cy,vS x,⟨J,_,rfl,yu.of<|X _ _ ab,MS _⟩,IX ok<|fun o ho=>s o (YA.mp ho).1,(U6 ok<|s x Y).1,(U6 ok<|s x Y).2,_,rfl,?_⟩;rw[FV Y];refine Uw (fun q=>?_)<|fun q=>fun p np=>?_
  ·have t:Ch S x=true:=by
    cases h:Ch S x with
    |true=>rfl
    |false=>rw[h]at q;cases q
   obtain⟨n,rows,rfl,at_,so⟩:=OZ ok (s x Y) t;have er:=(yP ok at_).1;refine⟨_,rfl,_,rfl,a,fp,S,n,rows,rfl,a1.same X,ok,at_,y6 so,fun p np=>⟨_,rfl,X.trans<|zE np,by rw[Zh,yl];rfl,?_⟩⟩;have:=a2 p np;rw[er]at this;exact this
  ·have t:Ch S x=false:=by
    cases h:Ch S x with
    |false=>rfl
    |true=>rw[h]at q;exact absurd rfl q
   refine⟨_,rfl,X.trans<|zE np,by rw[Zh,yl];rfl,?_⟩;have:=a2 p np;rw[GC t]at this;exact this
 rintro l u g ⟨o,rfl,X,yl,hy⟩ l7 n7;obtain⟨q1,bo,cg⟩:=hy 0 b (show 0<2 by decide) rfl;obtain⟨q2,bz,ch⟩:=hy 1 c (show 1<2 by decide) rfl;have ua:=zE (o:=.lst l) n7;have an:=zC (H:=g) (a:=l7) (o:=.lst l);have sa:=X.trans ua;have a4:=ua _ _ cg;have a5:=ua _ _ ch;generalize upd g l7 (.lst l)=Ha at ua an sa a4 a5 ⊢;have eD:CB (d+1) S B b c=(if Ce S b≠Ce S c then[(B,Ce S b,Ce S c)] else[])++KQ d S B b c:=rfl;have cr:=ap.length;rw[Q8]at cr;have eA:Cc B++"/"=Cu B:=(Zt hB).symm;have al:(Cu B).length=(Cc B).length+1:=by rw[←eA,zj,zj,zr,Zh];rfl
 have sl:("/":Str).length=1:=by decide +kernel
 have bd:(xs++y1).length+(KQ d S B b c).length<=1000:=by
  rw[eD,Zh]at hx;rw[Zh];lia
 refine zN ⟨_,rfl,J,_,rfl,.inl<|yu.of<|sa _ _ ab,_,rfl,_,rfl,_,_,rfl,rfl,zm<|by lia,_,rfl,l7,_,_,_,rfl,rfl,yu.of an,yY (j:=0) bo,_,rfl,l7,_,_,_,rfl,rfl,yu.of an,yY (j:=1) bz,_,rfl,?_⟩;rw[eA];refine⟨a,q1,q2,U,fp,S,B,b,c,xs++y1,rfl,a1.same sa,ok,few,by lia,nb,nc,a4,a5,sa _ _ as,bd,fun Hz zs a9 cf ca=>⟨_,_,rfl,rfl,?_⟩⟩;have eN:(((([b,c].filter fun o=>Ch S o).map oV).length:Nat):Int)+(nP d S b c:Int)=(CY (d+1) S b c:Int):=by
  have:(([b,c].filter fun o=>Ch S o).map oV).length=bN (Ch S b)+bN (Ch S c):=by
   rw[Q8,JM,JM,Vk];cases Ch S b<;>cases Ch S c<;>rfl
  rw[this];rfl
 show Q (.int<|((([b,c].filter fun o=>Ch S o).map oV).length:Nat)+(nP d S b c:Int)) Hz;rw[eN];refine k Hz (y1++zs) (fun b o nb eb=>a9 b o nb<|(u9.trans sa) _ _<|a0 b o nb<|s7 _ _ eb) (by rw[cf,Z6]) ?_;rw[eD,Zl];exact zy.append (GP (xW<|sa _ _ as) a9<|zy.same sa _ _ ap) ca
end AT
theorem RU (F:wY K "add_beneath" "add_beneath" AS.st f fd)(d:wY K "add_at" "add_at" AT.st fA fdA)(T:Txt P w K mg t1 t2 t3 t4 t5 t6 t7 aL aC aN aT aA b1 b2)(j:wZ P w K mg base 5 "names_form" ["store","name","form"]<|oO P w K aC)(i:wZ P w K mg base 5 "rows_of" ["store","tree"]<|wA P w K aC)
  (g:mg "add_beneath"=some (.ref f)) (e:wU K fd ["store","ahead","ones","others","rows"] []) (c:mg "add_at"=some (.ref fA)) (b:wU K fdA ["store","path","before","after","rows"] []):yx P w K mg base Cn 17 f fd ["store","ahead","ones","others","rows"] (sO P w K aC 4):=by
 have l:yx P w K mg base Cn 8 fA fdA ["store","path","before","after","rows"] (FJ P w K aC 0):=d.ok AT.sc (fun _ _ _ _ _ _ _ _ _ h=>EG h)<|fun _ _ _ _ h=>EG h;have n:=wZ.mk' F (AS.step F T<|wZ.mk' d l c b) g e;have o:=wZ.mk' F (AS.step F T<|wZ.mk' d (AT.step (by decide) d T j i n) c b) g e;have p:=wZ.mk' F (AS.step F T<|wZ.mk' d (AT.step (by decide) d T j i o) c b) g e;have q:=wZ.mk' F (AS.step F T<|wZ.mk' d (AT.step (by decide) d T j i p) c b) g e;exact AS.step F T (wZ.mk' d (AT.step (by decide) d T j i q) c b)
noncomputable def CG (S:Di)(x y:Str):List Oj:=if x=y then[] else CB 5 S [] (some x) (some y)
noncomputable def rT (S:Di)(x y:Str):Nat:=if x=y then 0 else CY 5 S (some x) (some y)
inductive wj (P:Eg)(w:Ek)(K:Cd)(C aN:Ef)(vs:Dj)(H:Hp)(Q:VK)(E:XK):Prop
 |mk (a:Ef) (fp:Dd) (S:Di) (d1 d2:Ej) (v1 v2:V) (h0:vs=[.ref a,v1,v2]) (h1:yg P w K C H a fp S) (h2:xr S) (h3:Dw K H d1 v1) (h4:Dw K H d2 v2) (h5:((Uu S d1 "tree"=false\/Uu S d2 "tree"=false)->E (.ref aN) none H)) (h6:(Uu S d1 "tree"=true->Uu S d2 "tree"=true->∃x y r1 r2,d1=.str x/\d2=.str y/\v1=.str x/\v2=.str y/\TY S/\At S x (.tree r1)/\At S y (.tree r2)/\Tree 5 S x/\Tree 5 S y/\(CB 5 S [] (some x)<|some y).length<=1000 /\ ∀p lr ys H',zz H H'->H p=none->H lr=none->p≠lr->H' p=some (.tup [.ref lr,.int<|rT S x y])->H' lr=some (.lst ys)->zy K H' ((CG S x y).map CI) ys->Q (.ref p) H')):wj P w K C aN vs H Q E
namespace AU
abbrev st:Stmt:=top 48
theorem sc:zx ["store","one","other","rows","opened"] ["store","one","other"] (zG st):=Cp
theorem ok (F:wY K "changes_of" "changes_of" st f fd)(T:Txt P w K mg t1 t2 t3 t4 t5 t6 t7 aL aC aN aT aA b1 b2)(Qk:tW P w K mg base 6 "need_root" ["store","root"]<|uz P w K aC aN)(Qb:wZ P w K mg base 5 "rows_of" ["store","tree"]<|wA P w K aC)(Qv:wZ P w K mg base 17 "add_beneath" ["store","ahead","ones","others","rows"]<|sO P w K aC 4):yx P w K mg base (CH P w) 18 f fd ["store","one","other"] (wj P w K aC aN):=by
 refine F.pY sc fun _ _ _ _ H vs Q E s h=>?_;obtain⟨a,A,S,d1,d2,v1,v2,rfl,sh,ok,Z,ab,kE,kQ⟩:=h;refine⟨_,(zD (yD<|yK Qk s.m yX<|zA (pv 0)<|zA (pv 1) zB)<|zD (yD<|yK Qk s.m yX<|zA (pv 0)<|zA (pv 2) zB)<|zD (Co (i:=3) sc.nd<|xU zB)<|zD (Co (i:=4) sc.nd zI)<|xX (yI (zX (qY s.units) (pv 1) (pv 2)<|zW _) (zF<|Co (i:=4) sc.nd<|zV xQ zI<|zJ Qv s.m<|zA (pv 0)<|zA zq<|zA (zJ Qb s.m<|zA (pv 0)<|zA (pv 1) zB)<|zA (zJ Qb s.m<|zA (pv 0)<|zA (pv 2) zB)<|zA (pv 3) zB) zT)<|zF<|zM<|yQ<|zA (pv 3)<|zA (pv 4) zB),?_⟩
 refine⟨_,rfl,_,rfl,a,A,S,d1,_,rfl,sh,ok.th,Z,fun q1=>?_,fun q=>kE<|.inl q⟩;refine⟨_,rfl,_,rfl,a,A,S,d2,_,rfl,sh,ok.th,ab,fun q2=>?_,fun q=>kE<|.inr q⟩;obtain⟨x,y,R,U,rfl,rfl,rfl,rfl,few,g,j,ay,a0,bd,k⟩:=kQ q1 q2;have n1:Nd 5 S (some x):=fun z e=>by cases e;exact ay
 have n2:Nd 5 S (some y):=fun z e=>by cases e;exact a0
 obtain⟨e1,L⟩:=yP ok g;obtain⟨e2,M⟩:=yP ok j;have I:=(n1.rows ok).1;have J:=(n2.rows ok).1;rw[e1]at I;rw[e2]at J;have lf:∀{o:Option Str},Ch S o=true->Ce S o=none:=fun{o} h=>Zs h;have eD:CB 5 S [] (some x) (some y)=KQ 4 S [] (some x) (some y):=by
  show(if Ce S (some x)≠Ce S (some y) then _ else[])++KQ 4 S [] (some x) (some y)=_;rw[Zt<|fun z=>z<|(lf L).trans (lf M).symm,V0]
 have eC:CY 5 S (some x) (some y)=2+nP 4 S (some x) (some y):=by
  show bN (Ch S<|some x)+bN (Ch S<|some y)+nP 4 S (some x) (some y)=_;rw[L,M];rfl
 refine⟨Uq 0,fun t n=>?_⟩;have N:=zE (o:=.lst []) n;have l:=zC (H:=H) (a:=t) (o:=.lst []);generalize upd H t (.lst [])=H1 at N l ⊢;refine zN<|zN ⟨fun O Y=>∃v,O=[some<|.ref a,some<|.str x,some<|.str y,some<|.ref t,some<|.int (rT S x y:Nat)]/\zz H Y/\Y t=some (.lst v)/\zy K Y ((CG S x y).map CI) v,?_,?_⟩
 ·have sx:∀{z:Str} {r:Dg},At S z (.tree r)->EK (.str z)=true:=fun{z r} h=>by
   have:=IT (d:=0) ok (o:=none)<|fun x e=>nomatch e;obtain⟨e,he,rfl⟩:=Zc.mp h.mem;have:=(ok.nm he).ok;show(El e.nm&&decide (0<=64))=true;rw[this];rfl
  refine⟨_,rfl,_,rfl,.str x,.str y,rfl,rfl,sx g,sx j,_,rfl,Uw (fun q=>?_)<|fun q=>?_⟩
  ·have ne:x≠y:=fun z=>by
    have q:(!decide (x=y))=true:=q;rw[Zg z]at q;cases q
   refine⟨_,rfl,_,rfl,_,rfl,a,A,S,x,R,rfl,sh.same N,ok,g,y6 I,fun p1 ap=>?_⟩;have X:=zE (o:=.dK<|Ct R) ap;have D:=zC (H:=H1) (a:=p1) (o:=.dK<|Ct R);generalize upd H1 p1 (.dK<|Ct R)=H2 at X D ⊢;refine⟨_,rfl,_,rfl,a,A,S,y,U,rfl,sh.same<|N.trans X,ok,j,y6 J,fun p2 as=>?_⟩;have u3:=zE (o:=.dK<|Ct U) as;have G:=zC (H:=H2) (a:=p2) (o:=.dK<|Ct U);have b:=u3 _ _ D;have B:=u3 _ _<|X _ _ l;have s3:=(N.trans X).trans u3;generalize upd H2 p2 (.dK<|Ct U)=H3 at G b B s3 ⊢;refine⟨_,rfl,a,p1,p2,t,A,S,[],some x,some y,[],rfl,sh.same s3,ok,few,(by decide +kernel),n1,n2,by rw[e1];exact b,by rw[e2];exact G,B,by rw[←eD];simpa using bd,fun H4 v ax an a1=>⟨_,_,rfl,rfl,v,?_,?_,an,?_⟩⟩
   ·show _=[_,_,_,_,some<|V.int (rT S x y:Nat)];unfold rT;rw[Zt ne,eC];rfl
   ·exact fun c o e=>ax c o (fun z=>by rw[Q9.mp z,n]at e;cases e)<|s3 c o e
   ·unfold CG;rwa[Zt ne,eD]
  ·have e:x=y:=E5 fun z=>q (by
    show(!decide (x=y))=true;rw[Zo z];rfl)
   refine⟨[],?_,N,l,?_⟩
   ·unfold rT;rw[Zs e];rfl
   ·unfold CG;rw[Zs e];rfl
 rintro O H5 ⟨v,rfl,s5,C,al⟩;refine⟨_,rfl,_,rfl,Uq 2,fun p u=>?_⟩;exact k p t v _ (s5.trans<|zE u) (s5.free u) n (fun q=>by rw[q,C]at u;cases u) zC (zE u _ _ C)<|zy.same (zE u) _ _ al
end AU
end
end An13
namespace An
open PySem L2 AnJ
structure mO (d:Nat)(S:Di)(rows:Dg):Prop where
 nd:(rows.map (·.1)).Nodup
 at_:∀r∈rows,zP r.1=true/\Tree d S r.2/\zf d S r.2≠[]
noncomputable def M3 (d:Nat)(S:Di)(rows:Dg):Dk:=rows.flatMap fun r=>(zf d S r.2).map fun f=>(r.1::f.1,f.2)
theorem j3 {f:Fi}:f∈M3 d S rows↔∃r∈rows,∃g∈zf d S r.2,f=(r.1::g.1,g.2):=by
 unfold M3;rw[Yd];constructor
 ·rintro⟨r,c,h⟩;obtain⟨g,b,e⟩:=Zc.mp h;exact⟨r,c,g,b,e.symm⟩
 ·rintro⟨r,c,g,b,rfl⟩;exact⟨r,c,Zc.mpr ⟨g,b,rfl⟩⟩
section
variable {d:Nat}{S T:Di}{rows:Dg}
theorem Tf {rs:Dg}(h:(rs.map (·.1)).Pairwise Cs):(rs.map (·.1)).Nodup:=ZI.mpr<|h.imp fun{a b} z=>Iy z
theorem Tree.qm (g:xr S){x:Str}(t:Tree (d+1) S x)(a:At S x<|.tree rows):mO d S rows/\zf (d+1) S x=M3 d S rows:=by
 rcases t with⟨ls,z⟩|⟨rows2,z,so,hr⟩
 ·cases z.thing g a
 ·cases z.thing g a;exact⟨⟨Tf so,hr⟩,yJ g a⟩
end
inductive oG (S:Di):Dg->Da->Str->Prop
 |here {rows:Dg} {l n:Str} {ls:Da}:(l,n)∈rows->oG S rows (l::ls) n
 |down {rows rs:Dg} {l n x:Str} {ls:Da}:(l,n)∈rows->At S n (.tree rs)->oG S rs ls x->oG S rows (l::ls) x
theorem XC {rows:Dg}(nd:(rows.map (·.1)).Nodup){l n:Str}:zu rows l=some n↔(l,n)∈rows:=by
 refine⟨jR,fun h=>?_⟩;unfold zu;cases q:rows.find? (fun r=>decide (r.1=l)) with
 |none =>
  have:=Vq.mp q _ h;simp at this
 |some r =>
  have e:=JB q;have d:=Vj q;have d:r.1=l:=Zv d;obtain⟨i,f,c⟩:=ZP.mp e;obtain⟨j,g,b⟩:=ZP.mp h;have:=(Jc (h₀:=by simpa using f) (h₁:=by simpa using g) nd).mp (by rwa[ZV,ZV,c,b]);subst this;rw[c]at b;rw[b];rfl
theorem za.one (g:za n fs){f k:Fi}(b:f∈fs)(hk:k∈fs)(e:f.1=k.1):f=k:=by
 obtain⟨i,c,rfl⟩:=ZP.mp b;obtain⟨j,d,rfl⟩:=ZP.mp hk;have:=(Jc (h₀:=by simpa using c) (h₁:=by simpa using d) g.nd).mp (by rwa[ZV,ZV]);subst this;rfl
theorem bA {n:Nat}{fs:Dk}(g:∀f∈fs,f.1.length<=n):wt fs<=n*fs.length:=by
 unfold wt
 induction fs with
 |nil=>exact ZN _
 |cons f fs ih =>
  have b:=g f<|Ze ..;have c:=ih fun k hk=>g k<|Zb _ hk;rw[Zu,Yl,Zr,Nat.mul_succ];lia
theorem za.wt (g:za n fs):wt fs<=n*fs.length:=bA fun f b=>(g.wV f b).2.1
section
variable {K:Cd}{H:Hp}{fs:Dk}{Dm:Dl}
theorem ye.nd (h:ye K H fs Dm)(g:za n fs):(Dm.map (·.1)).Nodup:=by
 rw[h.keys];have:=g.nd;rw[ZI,Yc]at this ⊢;exact this.imp_of_mem fun{a b} ha hb ne q=>ne<|qF (d:=0) (g.wV a ha).1 (g.wV b hb).1 (g.wV a ha).2.2.1 (g.wV b hb).2.2.1<|Sum.inr.inj q
theorem ye.at (h:ye K H fs Dm)(g:za n fs){f:Fi}(j:f∈fs):∃v,Us Dm (.inr<|Cc f.1)=some v/\Dt K H (yo f.2) v/\UE f.2:=by
 obtain⟨i,l,rfl⟩:=ZP.mp j;have hk:i<Dm.length:=by rwa[h.len]
 obtain⟨o,b,c,d,e⟩:=h.get (i:=i) (k:=Dm[i].1) (v:=Dm[i].2)<|Zj hk;rw[Zj l]at b;cases b;refine⟨Dm[i].2,vM (h.nd g) ?_,d,e⟩;rw[←c];exact YL hk
theorem ye.kV (h:ye K H fs Dm):(Dm.map fun kv=>kV kv.1)=(fs.map fun f=>Cc f.1).map V.str:=by
 have:(Dm.map fun kv=>L2.kV kv.1)=(Dm.map (·.1)).map L2.kV:=by rw[ZC];rfl
 rw[this,h.keys,ZC,ZC];rfl
theorem ye.kj (h:ye K H fs Dm):Pe Dm/\Dm.map U4=fs.map fun f=>Cc f.1:=by
 constructor
 ·intro c b;have:c.1∈Dm.map (·.1):=Zc.mpr ⟨c,b,rfl⟩;rw[h.keys]at this;obtain⟨f,_,e⟩:=Zc.mp this;unfold U4;rw[←e]
 ·have e:Dm.map U4=(Dm.map (·.1)).map fun k=>U4 (k,V.non):=by rw[ZC];rfl
  rw[e,h.keys,ZC];rfl
end
end An
namespace L2
open PySem PySem.Spec PyProof.Rows
end L2
namespace An
open PySem L2 AnJ
theorem Tree.o9 (g:xr S):∀{d:Nat} {x y:Str},Tree d S x->y∈met d S x->y∈S.map En.nm
 | 0,_,_,h,_=>absurd h<|fun z=>z
 |d+1,x,y,h,m=>by
  rcases id h with⟨ls,a⟩|⟨rows,a,so,hr⟩
  ·rw[vX g a]at m;rw[Q9.mp m];exact h.mem
  ·rw[kK g a]at m
   rcases Zi.mp m with z|z
   ·rw[z];exact h.mem
   ·obtain⟨r,b,hm⟩:=Yd.mp z;exact Tree.o9 g (hr r b).2.1 hm
section
variable {d n:Nat}{S:Di}{fs gs:Dk}{q q2:List En×Str}
theorem Tb {l:Dk}(h:l.Pairwise fun f h=>Cs (Cc f.1)<|Cc h.1):l.Nodup:=ZI.mpr (h.imp fun{a b} (z:Cs (Cc a.1)<|Cc b.1) (q:a=b)=>Iy z<|by rw[q])
theorem wD.perm (a:wD d S fs q)(g:za n fs):(zf d q.1 q.2).Perm fs :=
 (Jt (Tb (a.tree.rise a.ok).1)<|Xy g.nd).mpr a.rd
theorem wD.names (a:wD d S fs q)(x:Str):x∈q.1.map En.nm↔x∈S.map En.nm\/x∈met d q.1 q.2:=by
 obtain⟨T,b,c⟩:=a.new;constructor
 ·intro h;rw[b,Zl]at h
  rcases ZD.mp h with h|h
  ·exact .inl h
  ·obtain⟨t,e,rfl⟩:=Zc.mp h;exact .inr<|c t e
 ·rintro(h|h)
  ·rw[b,Zl];exact ZX _ h
  ·exact a.tree.o9 a.ok h
end
theorem Og:∀(xs ks:Da) {x:Str},x∈ks\/x∈xs->x∈xs.foldl AxS.step ks
 |[],ks,x,h=>h.elim id fun z=>(nomatch z)
 | y::xs,ks,x,h=>Og xs _ (by
  rcases h with h|h
  ·exact .inl (AxS.rW.mpr<|.inl h)
  ·rcases Zi.mp h with h|h
   ·exact .inl (AxS.rW.mpr<|.inr h)
   ·exact .inr h)
theorem jB (ok:xr S):∀(p:Da) {d:Nat} {x n:Str},Tree d S x->atT S x p=some n->∃e,d=e+p.length/\Tree e S n/\(∀g:Fi,g∈zf e S n↔(p++g.1,g.2)∈zf d S x)/\(p≠[]->zf e S n≠[])
 |[],d,x,n,t,h=>by
  have h:some x=some n:=h;cases h;exact⟨d,rfl,t,fun g=>Iff.rfl,fun z=>absurd rfl z⟩
 |l::p,0,x,n,t,h=>absurd t<|fun z=>z
 |l::p,d+1,x,n,t,h=>by
  have h:p.foldl (wQ S) (wQ S (some x) l)=some n:=h;cases q:wQ S (some x) l with
  |none=>rw[q,Xp]at h;cases h
  |some m =>
   rw[q]at h
   rcases k9 ok x with⟨_,rows,att⟩|⟨_,not⟩
   ·rw[kY ok att]at q;obtain⟨r,rd⟩:=t.qm ok att;have hm:=jR q;obtain⟨_,B,ne⟩:=r.at_ _ hm;obtain⟨e,f,A,y,j⟩:=jB ok p B h;refine⟨e,by rw[f,Zr];lia,A,fun g=>?_,fun _=>?_⟩
    ·rw[y,rd,j3];constructor
     ·intro u;exact⟨_,hm,_,u,rfl⟩
     ·rintro⟨⟨w,n2⟩,v,k,hk,c⟩;injection c with c s;injection c with c i;have c:l=w:=c;subst c;have:n2=m:=by
       have o:=(XC r.nd).mpr v;rw[q]at o;exact(Option.some.inj o).symm
      subst this;have i:p++g.1=k.1:=i;have:((p++g.1,g.2):Fi)=k:=LF i s;rwa[this]
    ·cases p with
     |nil =>
      have h:some m=some n:=h;cases h;intro z;have f:d=e:=f;subst f;exact ne z
     |cons b p=>exact j<|ZR _ _
   ·rw[Ku not]at q;cases q
section
variable {d:Nat}{S:Di}{x:Str}{ls:Da}
theorem BC (ok:xr S):∀(ls:Da) {d:Nat} {x:Str} {L:Da},Tree d S x->(ls,L)∈zf d S x->∃n,atT S x ls=some n/\At S n (.leaf L)
 |[],0,x,L,t,h=>absurd t<|fun z=>z
 |[],d+1,x,L,t,h=>by
  rcases id t with⟨L2,a⟩|⟨rows,a,_⟩
  ·rw[yH ok a]at h;have:=Q9.mp h;cases this;exact⟨x,rfl,a⟩
  ·exfalso;rw[(t.qm ok a).2,j3]at h;obtain⟨r,_,m,_,e⟩:=h;cases e
 |l::ls,0,x,L,t,h=>absurd t<|fun z=>z
 |l::ls,d+1,x,L,t,h=>by
  rcases id t with⟨L2,a⟩|⟨rows,a,_⟩
  ·exfalso;rw[yH ok a]at h;have:=Q9.mp h;cases this
  ·obtain⟨f,rd⟩:=t.qm ok a;rw[rd,j3]at h;obtain⟨⟨o,m⟩,c,k,hk,e⟩:=h;injection e with b g;injection b with b i;have b:l=o:=b;subst b;have:k=(ls,L):=LF i.symm g.symm;rw[this]at hk;obtain⟨n,p,j⟩:=BC ok ls (f.at_ _ c).2.1 hk;refine⟨n,?_,j⟩;show ls.foldl (wQ S) (wQ S (some x) l)=some n;rwa[kY ok a,(XC f.nd).mpr c]
end
theorem Xk (ok:xr S):∀(ls:Da) {d:Nat} {x:Str} {t L:Da},t≠[]->Tree d S x->(ls++t,L)∈zf d S x->∃n rows,atT S x ls=some n/\At S n (.tree rows)
 |ls,0,x,t,L,ht,tr,h=>absurd tr<|fun z=>z
 |[],d+1,x,t,L,ht,tr,h=>by
  rcases id tr with⟨L2,a⟩|⟨rows,a,_⟩
  ·rw[yH ok a]at h;have:=Q9.mp h;injection this with c f;exact absurd c ht
  ·exact⟨x,rows,rfl,a⟩
 |l::ls,d+1,x,t,L,ht,tr,h=>by
  rcases id tr with⟨L2,a⟩|⟨rows,a,_⟩
  ·exfalso;rw[yH ok a]at h;have:=Q9.mp h;cases this
  ·obtain⟨i,rd⟩:=tr.qm ok a;rw[rd,j3]at h;obtain⟨⟨p,m⟩,g,k,hk,e⟩:=h;injection e with b j;have b:l::(ls++t)=p::k.1:=b;injection b with b o;subst b;have:k=(ls++t,L):=LF o.symm j.symm;rw[this]at hk;obtain⟨n,q,c,f⟩:=Xk ok ls ht (i.at_ _ g).2.1 hk;refine⟨n,q,?_,f⟩;show ls.foldl (wQ S) (wQ S (some x) l)=some n;rwa[kY ok a,(XC i.nd).mpr g]
def Cq (fs:Dk)(p:Da):Option Da:=(fs.find? fun f=>decide (f.1=p)).map (·.2)
theorem qU (g:za n fs){p L:Da}:Cq fs p=some L↔(p,L)∈fs:=by
 unfold Cq;constructor
 ·intro h;obtain⟨f,c,e⟩:=ZE.mp h;have b:=Vj c;have d:=JB c;have b:f.1=p:=Zv b;rwa[←b,←e]
 ·intro h;cases q:fs.find? fun f=>decide (f.1=p) with
  |none=>exact absurd (Zg rfl)<|Vq.mp q _ h
  |some f =>
   have b:f.1=p:=Zv<|Vj (p:=fun f:Fi=>decide (f.1=p)) q;rw[g.one (JB q) h b];rfl
theorem vz:Cq fs p=none↔∀L,(p,L)∉fs:=by
 unfold Cq;rw[Option.map_eq_none_iff,Vq];exact⟨fun h L z=>h _ z<|Zg rfl,fun h f b z=>h f.2<|by rwa[←(show f.1=p from Zv z)]⟩
section
variable {S:Di}{d:Nat}{x y:Str}{fs gs:Dk}
theorem Fr {L:Da}(ok:xr S)(a:At S n<|.leaf L):Ch S (some n)=false:=by
 unfold Ch;dsimp only;rw[jV ok a]
theorem MJ {n:Str}(h:Ce S o=some n):o=some n/\Ch S (some n)=false:=by
 unfold Ce at h
 by_cases q:Ch S o=true
 ·rw[Zs q]at h;cases h
 ·rw[Zt q]at h;subst h;exact⟨rfl,Yx.mpr q⟩
theorem OR (ok:xr S)(t:Tree d S x)(p:Da){n:Str}(h:Ce S (Cg S (some x) p)=some n):∃L,At S n (.leaf L)/\(p,L)∈zf d S x:=by
 obtain⟨f,b⟩:=MJ h;obtain⟨e,_,c,rd,_⟩:=jB ok p t f;cases e with
 |zero=>exact absurd c id
 |succ e =>
  rcases c with⟨ls,a⟩|⟨rows,a,_⟩
  ·refine⟨ls,a,?_⟩;have:=(rd ([],ls)).mp (by rw[yH ok a];exact Q9.mpr rfl);rw[ZG]at this;exact this
  ·rw[(yP ok a).2]at b;cases b
theorem jS (ok:xr S)(t:Tree d S x){p L:Da}(h:(p,L)∈zf d S x):∃n,Ce S (Cg S (some x) p)=some n/\Cg S (some x) p=some n/\At S n (.leaf L):=by
 obtain⟨n,b,a⟩:=BC ok p t h;refine⟨n,?_,b,a⟩;have b:Cg S (some x) p=some n:=b;unfold Ce;rw[b,Fr ok a];rfl
theorem jP (ok:xr S)(t:Tree d S x)(p:Da)(h:∀L,(p,L)∉zf d S x):Ce S (Cg S (some x) p)=none:=by
 cases q:Ce S (Cg S (some x) p) with
 |none=>rfl
 |some n =>
  obtain⟨L,_,z⟩:=OR ok t p q;exact absurd z<|h L
theorem Fq (ok:xr S)(l:Tree d S x)(ty:Tree d S y)(o:za k fs)(h:za m gs)(j:∀f,f∈zf d S x↔f∈fs)(g:∀f,f∈zf d S y↔f∈gs)(p:Da):Ce S (Cg S (some x) p)=Ce S (Cg S (some y) p)↔Cq fs p=Cq gs p:=by
 cases i:Cq fs p with
 |none =>
  rw[jP ok l p<|fun L z=>vz.mp i L<|(j _).mp z];cases c:Cq gs p with
  |none =>
   rw[jP ok ty p<|fun L z=>vz.mp c L<|(g _).mp z];exact⟨fun _=>rfl,fun _=>rfl⟩
  |some M =>
   obtain⟨n,e,_⟩:=jS ok ty<|(g _).mpr<|(qU h).mp c;rw[e];exact⟨fun z=>(nomatch z),fun z=>(nomatch z)⟩
 |some L =>
  obtain⟨n,e,_,a⟩:=jS ok l<|(j _).mpr<|(qU o).mp i;rw[e];cases c:Cq gs p with
  |none =>
   rw[jP ok ty p<|fun L z=>vz.mp c L<|(g _).mp z];exact⟨fun z=>(nomatch z),fun z=>(nomatch z)⟩
  |some M =>
   obtain⟨m,e,_,b⟩:=jS ok ty<|(g _).mpr<|(qU h).mp c;rw[e];constructor
   ·intro z;cases z;have:=At.thing ok a b;cases this;rfl
   ·intro z;cases z;rw[At.name ok a b]
noncomputable def Cv (S:Di)(x y:Str)(ps:List Da):List Oj:=ps.map fun p=>(p,Ce S<|Cg S (some x) p,Ce S<|Cg S (some y) p)
theorem Wg (ok:xr S)(i:Tree d S x)(ty:Tree d S y)(b:za k fs)(c:za m gs)(g:∀f,f∈zf d S x↔f∈fs)(h:∀f,f∈zf d S y↔f∈gs){R:List Oj}(e:sY S [] (some x) (some y) R)
  {ps:List Da} (l:ps.Pairwise fun p q=>Cs (Cc p)<|Cc q) (mem:∀p,p∈ps↔Cq fs p≠Cq gs p):R=Cv S x y ps:=by
 refine RP e.rise ?_ fun r=>?_
 ·unfold Cv;rwa[Yc]
 ·rw[e.mem];unfold Cv;rw[Zc];constructor
  ·rintro⟨p,rfl,ne⟩;exact⟨p,(mem p).mpr fun z=>ne<|(Fq ok i ty b c g h p).mpr z,rfl⟩
  ·rintro⟨p,j,rfl⟩;exact⟨p,rfl,fun z=>(mem p).mp j<|(Fq ok i ty b c g h p).mp z⟩
def CA (fs:Dk)(B:Da)(f:Fi):Prop:=f∈fs/\∃q,q≠[]/\f.1=B++q
theorem HR {r:Dg}(ok:xr S)(t:Tree d S x)(a:At S x<|.tree r)(j:∀f,f∈zf d S x↔f∈fs)(B:Da):Ch S (Cg S (some x) B)=true↔B=[]\/∃f,CA fs B f:=by
 constructor
 ·intro h
  by_cases q:B=[]
  ·exact .inl q
  ·refine .inr ?_;cases z:Cg S (some x) B with
   |none=>rw[z]at h;cases h
   |some n =>
    rw[z]at h;obtain⟨e,_,l,rd,ne⟩:=jB ok B t z;have ne:=ne q;cases e with
    |zero=>exact absurd l id
    |succ e =>
     rcases l with⟨ls,b⟩|⟨rows,b,_⟩
     ·rw[Fr ok b]at h;cases h
     ·rw[yJ ok b]at rd ne;obtain⟨g,c⟩:=List.exists_mem_of_ne_nil _ ne;have:=(j _).mp<|(rd g).mp c;obtain⟨r,s,c⟩:=Yd.mp c;obtain⟨f,o,rfl⟩:=Zc.mp c;exact⟨_,this,_,ZR _ _,rfl⟩
 ·rintro(rfl|⟨f,o,q,p,e⟩)
  ·exact(yP ok a).2
  ·have:(B++q,f.2)∈zf d S x:=(j _).mpr (by rwa[←e]);obtain⟨n,rows,i,b⟩:=Xk ok B p t this;have i:Cg S (some x) B=some n:=i;rw[i];exact(yP ok b).2
theorem Od (ok:xr S)(t:Tree e S n)(h:Ch S (some n)=true):∀f∈zf e S n,f.1≠[]:=fun f c=>by
 cases e with
 |zero=>exact absurd t id
 |succ e =>
  rcases t with⟨ls,b⟩|⟨rows,b,_⟩
  ·rw[Fr ok b]at h;cases h
  ·rw[yJ ok b]at c;obtain⟨r,g,d⟩:=Yd.mp c;obtain⟨f,c,rfl⟩:=Zc.mp d;exact ZR _ _
open Classical in
noncomputable def Cz (fs gs:Dk)(B:Da):Nat:=if(∀f,CA fs B f↔CA gs B f) then 0 else(if B=[]\/∃f,CA fs B f then 1 else 0)+(if B=[]\/∃f,CA gs B f then 1 else 0)
theorem Pn {r s:Dg}(ok:xr S)(F:Tree d S x)(ty:Tree d S y)(Q:At S x<|.tree r)(R:At S y<|.tree s)(u:∀f,f∈zf d S x↔f∈fs)(v:∀f,f∈zf d S y↔f∈gs)(B:Da):CN S (some x) (some y) B=Cz fs gs B:=by
 have nx:=HR ok F Q u B;have J:=HR ok ty R v B;unfold CN Cz
 by_cases same:∀f,CA fs B f↔CA gs B f
 ·rw[Zs same]
  by_cases ne:Cg S (some x) B≠Cg S (some y) B
  ·rw[Zs ne]
   by_cases A:Ch S (Cg S (some x) B)=true
   ·exfalso;have g:Ch S (Cg S (some y) B)=true:=by
     rw[J]
     rcases nx.mp A with z|⟨f,z⟩
     ·exact .inl z
     ·exact .inr ⟨f,(same f).mp z⟩
    cases K:Cg S (some x) B with
    |none=>rw[K]at A;cases A
    |some n =>
     cases L:Cg S (some y) B with
     |none=>rw[L]at g;cases g
     |some m =>
      rw[K]at A ne;rw[L]at g ne;obtain⟨e,o,N,rd,_⟩:=jB ok B F K;obtain⟨H,G,M,D,_⟩:=jB ok B ty L;have I:H=e:=by lia
      subst I;refine ne<|congrArg some<|Tree.one ok N M<|BJ (N.rise ok).1 (M.rise ok).1 fun f=>?_;have key:∀f:Fi,f.1≠[]->((B++f.1,f.2)∈fs↔(B++f.1,f.2)∈gs):=fun f j=>⟨fun z=>((same _).mp ⟨z,f.1,j,rfl⟩).1,fun z=>((same _).mpr ⟨z,f.1,j,rfl⟩).1⟩;constructor
      ·intro j;exact(D f).mpr ((v _).mpr<|(key f<|Od ok N A f j).mp<|(u _).mp<|(rd f).mp j)
      ·intro j;exact(rd f).mpr ((u _).mpr<|(key f<|Od ok M g f j).mpr<|(v _).mp<|(D f).mp j)
   ·have g:Ch S (Cg S (some y) B)≠true:=fun z=>A (nx.mpr (by
     rcases J.mp z with z|⟨f,z⟩
     ·exact .inl z
     ·exact .inr ⟨f,(same f).mpr z⟩))
    unfold bN;rw[Zt A,Zt g]
  ·rw[Zt ne]
 ·rw[Zt same];have ne:Cg S (some x) B≠Cg S (some y) B:=fun e=>same fun f=>by
   have one:∀{x:Str} {fs:Dk},Tree d S x->(∀f,f∈zf d S x↔f∈fs)->CA fs B f->∃n e,Cg S (some x) B=some n/\d=e+B.length/\∃q,f.1=B++q/\q≠[]/\(q,f.2)∈zf e S n:=fun{x fs} t u ⟨j,q,l,eq⟩=>by
    have O:(B++q,f.2)∈zf d S x:=(u _).mpr (by rwa[←eq]);obtain⟨n,rows,P,b⟩:=Xk ok B l t O;obtain⟨e,o,_,rd,_⟩:=jB ok B t P;exact⟨n,e,P,o,q,eq,l,(rd _).mpr O⟩
   have E:∀{y:Str} {gs:Dk} {n:Str} {e:Nat} {q:Da},Tree d S y->(∀f,f∈zf d S y↔f∈gs)->Cg S (some y) B=some n->d=e+B.length->f.1=B++q->q≠[]->(q,f.2)∈zf e S n->CA gs B f:=fun{y gs n e q} t v hn o eq l C=>by
    obtain⟨H,G,_,rd,_⟩:=jB ok B t hn;have I:H=e:=by lia
    subst I;have:=(v _).mp<|(rd _).mp C;rw[←eq]at this;exact⟨this,q,l,eq⟩
   constructor
   ·intro h;obtain⟨n,k,hn,o,q,eq,l,C⟩:=one F u h;exact E ty v (e▸hn) o eq l C
   ·intro h;obtain⟨n,k,hn,o,q,eq,l,C⟩:=one ty v h;exact E F u (e.symm▸hn) o eq l C
  rw[Zs ne];have b:∀{c:Bool} {p:Prop} {i:Decidable p},(c=true↔p)->bN c=@ite Nat p i 1 0:=fun{c p i} h=>by
   unfold bN
   by_cases z:p
   ·rw[Zs z,Zs<|h.mpr z]
   ·rw[Zt z,Zt<|fun w=>z<|h.mp w]
  exact congr (congrArg _<|b nx)<|b J
theorem Si {r s:Dg}(ok:xr S)(c:Tree d S x)(ty:Tree d S y)(g:At S x<|.tree r)(i:At S y<|.tree s)(n:∀f,f∈zf d S x↔f∈fs)(o:∀f,f∈zf d S y↔f∈gs){P:List Da}(nd:P.Nodup)(v:[]∈P)(j:∀B f,CA fs B f->B∈P)(l:∀B f,CA gs B f->B∈P) :
  (P.map<|Cz fs gs).sum=if x=y then 0 else CY d S (some x) (some y):=by
 have e:P.map (Cz fs gs)=P.map (CN S (some x)<|some y):=ZQ fun B _=>(Pn ok c ty g i n o B).symm;rw[e]
 by_cases q:x=y
 ·subst q;rw[Zs rfl];have:P.map (CN S (some x)<|some x)=P.map fun _=>0:=ZQ fun p _=>Ix _ _ _;rw[this];clear this e j l v nd
  induction P with
  |nil=>rfl
  |cons p P ih=>rw[Zu,Yl];lia
 ·rw[Zt q];refine Nu ok (fun z e=>by cases e;exact c) (fun z e=>by cases e;exact ty) (fun z=>q<|Option.some.inj z) P nd fun B b=>?_;rw[Pn ok c ty g i n o B]at b;unfold Cz at b
  by_cases same:∀f,CA fs B f↔CA gs B f
  ·rw[Zs same]at b;exact absurd rfl b
  ·by_cases z:B=[]
   ·rwa[z]
   ·by_cases t:∃f,CA fs B f
    ·obtain⟨f,h⟩:=t;exact j B f h
    ·by_cases u:∃f,CA gs B f
     ·obtain⟨f,h⟩:=u;exact l B f h
     ·refine absurd ?_ b;rw[Zt same,Zt<|fun w=>w.elim z t,Zt<|fun w=>w.elim z u]
end
theorem Bs {B p:Da}(c:B≠[])(f:p≠[])(r:∀l∈B,zP l=true)(g:∀l∈p,zP l=true):UB (Cc B) (Cc p)=true↔∃q,q≠[]/\p=B++q:=by
 constructor
 ·intro h;have h:=pN.mpr h;unfold G8 at h;rw[Zc]at h;obtain⟨i,b,e⟩:=h;have j:Ut (Cc p)=p:=qA f fun y o=>y8<|g y o;rw[j]at e b;have b:=YQ.mp b;have e:Cc (p.take<|i+1)=Cc B:=e;have ne:p.take (i+1)≠[]:=fun z=>by
   have:=congrArg List.length z;rw[ZB]at this;have t:0<p.length:=Y6.mpr f;have:min (i+1) p.length=0:=this;lia
  have:=qF (d:=0) ne c (fun l hl=>g l<|Jj hl) r e;refine⟨p.drop<|i+1,fun z=>?_,by rw[←this,Yg]⟩;have:=congrArg List.length z;rw[Yv]at this;have:p.length-(i+1)=0:=this;lia
 ·rintro⟨q,n,rfl⟩;rw[Id c n];exact HZ _ _
end An
namespace L2
open PySem PySem.Spec PyProof.Rows
section
variable {X:Cx}{K:Cd}
theorem SL (c:X.A.units+64<Lb)(b:X.K=K:=by rfl):CD X (ES .NotEq) (WK K):=by
 subst b;exact qY c
end
section
variable {prog:Eg}{w:Ek}{A:ED}{E:Ee->Dh}{s:Ei}
theorem vA {h h':Ev}{l it:Ef}{Dn:Array Ee}(hl:h.IsList l Dn)(k:∀b o,b≠it->h.get? b=some o->h'.get? b=some o)(ne:l≠it):h'.IsList l Dn:=by
 obtain⟨o,e,r⟩:=hl;exact⟨o,k _ _ ne e,r⟩
theorem Tz {it t:Ef}{Dn:Array Ee}(h:t≠it):∀(n i:Nat) (s:Ei) (Q:Db->Dh),s.heap.IsListIter it t i->s.heap.IsList t Dn->i+n<=Dn.size ->
  (∀h':Ev,h'.IsListIter it t (i+n)->EJ it s.heap h'->Q ((Dn.toList.drop i).take n) { s with heap:=h' })->Eh (Em prog w) A (draw (.ref it) n) Q E s
 | 0,i,s,Q,hit,_,_,hQ=>by
  show Eh _ _ (Lo []) Q E s;exact Za (by simpa using hQ s.heap hit (Heap.SameBut.refl ..))
 |n+1,i,s,Q,hit,ht,hle,hQ=>by
  have g:i<Dn.size:=by lia
  show Eh _ _ (L8 (.ref it)>>=_) Q E s;refine Q7 (wpAny_pyNext_list_item hit ht (x:=Dn[i]) (by simp[g]) fun p d c=>?_);refine Q7 (ZZ<|Tz h n (i+1) _ _ d (vA ht (fun b o hb e=>(c.2 b hb).trans e) h) (by lia) fun j l f=>Za ?_);have hd:Dn.toList.drop i=Dn[i]::Dn.toList.drop (i+1):=by simp[JA,g]
  have:=hQ j (by rwa[show i+(n+1)=i+1+n by lia]) (c.trans f);rw[hd,List.take_succ_cons]at this;exact this
theorem FQ {t:Ef}{Dn:Array Ee}{Q:Db->Dh}(u:A.handled=none)(n:s.heap.IsList t Dn)
  (r:∀h',Heap.ExtBut s.heap.objs.size s.heap h'->Q Dn.toList { s with heap:=h' }):Eh (Em prog w) A (unpackItems (.ref t) Dn.size none) Q E s:=by
 have g:t≠s.heap.objs.size:=by obtain⟨o,v,_⟩:=n;exact Zz<|Zq v
 unfold unpackItems;refine Q7 ?_
 ·unfold notIterableAtAll;refine Q7<|JU n.typeIs slot_list_iter.lookup ?_;refine Za ?_;simp only[Z7,JT];refine Q7<|ZZ<|JX n ?_;have p:∀(q:Obj),(s.heap.push q).IsList t Dn:=fun q=>vA (it:=s.heap.objs.size) n (fun b o _ e=>Zd _ e) g;refine Q7 (ZZ<|Tz g Dn.size 0 _ _ ⟨_,Zp _ rfl,rfl,rfl⟩ (p _) (by lia) fun j d c=>?_);have i:List.take Dn.size (List.drop 0 Dn.toList)=Dn.toList:=by
   rw[V8];exact Y1 (by simp)
  rw[i];rw[Zt<|by simp];have h:j.IsList t Dn:=vA (p _) (fun b o hb e=>(c.2 b hb).trans e) g;refine Q7 (ZZ<|wpAny_pyNext_list_end u d h (by simp) fun l f=>?_);simp only[Option.isSome_none,Z7,JT];refine Za<|r l fun b o hb e=>f b o hb<|c.extBut b o hb<|Zd _ e
theorem vI {env:Env}{c:List EI} {x1}{pos:Pos}{t:Ef}{Dn:Array Ee}{Q:Unit->Dh}(d:A.handled=none)(e:s.heap.IsList t Dn)
  (hn:(Lm c env).length=Dn.size) (b:(Lm c env).findIdx? (·.1)=none)
  (h:∀h',Heap.ExtBut s.heap.objs.size s.heap h'->Eh (Em prog w) A (assignInOrder ((Lm c env).map (·.2)) Dn.toList) Q E { s with heap:=h' }) :
  Eh (Em prog w) A (assign (.Tuple c x1 pos) env<|.ref t) Q E s:=by
 rw[assign_Tuple];refine Q7<|wpAny_standAt ?_;unfold unpack;rw[hn,b];exact Q7<|ZZ<|FQ d e h
end
section
variable {X:Cx}{K:Cd}{pos:Pos}
def bQ (K:Cd)(n:Nat)(t:Se):TG:=fun v c H Q=>∃a b,v=.ref a/\yu K H a b/\b.length=n/\t b c H Q
theorem SW {k:Nat}{n:Nat}(x:X.calm=true)(h:oX X es t)(w:X.K=K:=by rfl)
  (hn:(Lm es X.env).length=n:=by rfl) (c:(Lm es X.env).findIdx? (·.1)=none:=by rfl):PG X (.Tuple es k pos) (bQ K n t):=by
 subst w;intro f s i H v u Q I r d;obtain⟨a,B,l,y,hl,d⟩:=d;subst l;cases r;obtain⟨A,g,p,C⟩:=I.list y;refine vI (I.ok.hd x) p.isList (by simp[hn,←hl,g.length]) c fun q z=>?_;have j:Inv X f i H { s with heap:=q }:=I.kept (t':=s.toks) fun b o e=>z b o (Zz<|Zq e) e;exact h f _ i H B _ Q j (by simpa using g) d
end
open PySem.W
section
variable {X:Cx}
def W1 (H₀:Hp)(t:TS):TS:=fun D g H=>t { D with nx:=fun f c=>∃d e b,c d=some (.frz e<|.dK b)/\(∀o u,H₀ d≠some (.frz o u))/\D.nx f (upd c d<|.dK b),rt:=fun v c=>∃d e b,c d=some (.frz e<|.dK b)/\(∀o u,H₀ d≠some (.frz o u))/\D.rt v (upd c d<|.dK b) } g H
theorem RE {st:EQ}(h:PS X st t):PS X st (W1 X.H₀ t):=by
 intro i s n H D I q;refine Ci (h i s n H _ I q) fun f o z=>?_;cases f with
 |next =>
  obtain⟨b,j,c,d,l,g,hd,e,q⟩:=z;exact⟨b,_,c.nJ hd e,q⟩
 |ret v =>
  obtain⟨x,b,j,c,r,d,l,g,hd,e,q⟩:=z;exact⟨x,b,_,c.nJ hd e,r,q⟩
 |brk=>exact z
 |cont=>exact z
end
end L2
namespace An13
open PySem L2 An
seal L2.PS L2.sX L2.PE L2.PT L2.PW L2.PA L2.PG L2.oX L2.PI L2.oU L2.PC
@[elab_as_elim] theorem nw {DW:Hp->Prop} {H:Hp} {l:Ef} {o:HO} (n:H l=none) (k:∀H',zz H H'->H' l=some o->DW H'):DW (upd H l o):=k _ (zE n) zC
@[elab_as_elim] theorem wr {DW:Hp->Prop} {B H:Hp} {l:Ef} {o:HO} (s:zz B H) (n:B l=none) (k:∀H',zz B H'->H' l=some o->DW H'):DW (upd H l o):=k _ (An.zz.rZ s n) zC
def UO (ls:Da):Prop:=ls≠[]/\ls.length<=4/\∀l∈ls,zP l=true
def N8:Sp:=fun b H Q _=>∃i,b=[.int i]/\Q (.bl true) H
inductive pC (K:Cd)(vs:Dj)(H:Hp)(Q:VK)(e3:XK):Prop
 |mk (a:Ef) (ns:List Int) (k:Int) (h0:vs=[.ref a,.int k]) (h1:yu K H a<|ns.map V.int) (h2:0<=k) (h3:∀i,Q (.int i) H):pC K vs H Q e3
inductive uf (vs:Dj)(H:Hp)(Q:VK)(e3:XK):Prop
 |mk (c k:Int) (h0:vs=[.int c,.int k]) (h1:0<=k) (h2:k<=1000) (h3:∀m,Q (.int m) H):uf vs H Q e3
def RY:Sp:=fun d H Q _=>∃c,d=[.int c]/\∀l u v x b,zz H b->b l=some (.lst [.str u,.str v,.str x])->zP u=true->zP v=true->zP x=true->Q (.ref l) b
def Bk:Sp:=fun e H Q _=>∃c,e=[.int c]/\∀(l:Ef) (d:List Da) b,zz H b->H l=none->b l=some (.lst<|d.map fun p=>V.str<|Cc p)->d.length=10->(∀p∈d,UO p)->Q (.ref l) b
def XD:Sp:=fun e H Q _=>∃c,e=[.int c]/\∀(p:Ef) (d:Da) b,zz H b->b p=some (.tup<|d.map V.str)->UE d->Q (.ref p) b
theorem Wv {i:Int}(c:0<=i)(f:i<26):∃d,KO ("abcdefghijklmnopqrstuvwxyz":Str).cps.toList i=some d/\UI d=true:=by
 have e:(cs ("abcdefghijklmnopqrstuvwxyz":Str)).length=26/\(cs ("abcdefghijklmnopqrstuvwxyz":Str)).all UI=true:=⟨by decide +kernel,by decide +kernel⟩;obtain⟨j,rfl⟩:=YU c;have b:j<(cs ("abcdefghijklmnopqrstuvwxyz":Str)).length:=by rw[e.1];lia
 exact⟨(cs ("abcdefghijklmnopqrstuvwxyz":Str))[j],yY<|Zj b,ZU.mp e.2 _<|YL b⟩
theorem k7 {l m:Str}:l++"/"++m=Cc [l,m]:=by
 refine xq ?_;rw[x5 l<|ZR m [],jN,zr,zr,show cs ("/":Str)=[47] by decide +kernel];simp
theorem Ho {p:Da}(h:p≠[])(l:Str):Cc p++"/"++l=Cc (p++[l]):=Ke p l h
theorem CF {a b:Str}{m n:Nat}(ha:a.length<=m)(hb:b.length<=n):(a++b:Str).length<=m+n:=by
 rw[zj,zr,Zh,←zj,←zj];exact Nat.add_le_add ha hb
theorem ad {a b:Str}{m n:Nat}(ha:a.length<=m)(hb:b.length<=n)(h:m+n<=1000:=by decide):a.length+b.length<=sizeLine:=zm (Z0 (Nat.add_le_add ha hb)<|Z0 h<|by decide)
theorem MG {l:List Nat}(e:cs x=l)(d:1<=l.length)(f:l.length<=8)(b:∀c∈l,UI c=true):zP x=true:=sZ.mpr ⟨by rw[zj,e];exact d,by rw[zj,e];exact f,by rw[e,ZU];exact b⟩
theorem NZ {l:List Nat}{j z:Nat}(h:j<l.length):(l.take j++[z]++l.drop (j+1)).length=l.length:=by
 rw[Zh,Zh,ZB,Yv];show min j l.length+1+_=_;lia
theorem IF {l:Str}:l=Cc [l]:=xq (jN l).symm
section
variable {P:Eg}{w:Ek}{K:Cd}{mg:Str->Dc}{base:Ev}{t1 t2 t3 t4 t5 t6 t7:Tok}{aL aC aN aT aA b1 b2:Ef}
namespace AV
abbrev st:Stmt:=top 59
theorem sc:zx ["_law_found"] ["_law_found"] (zG st):=Cp
theorem ok (F:wY K "_law_whole" "_law_whole" st f fd)(T:Txt P w K mg t1 t2 t3 t4 t5 t6 t7 aL aC aN aT aA b1 b2):yx P w K mg base Cn 1 f fd ["_law_found"] N8:=by
 refine F.ok sc fun _ _ _ _ H c Q E b h=>?_;obtain⟨i,rfl,k⟩:=h;refine⟨_,(zF<|zM<|xB (zK (xT (K:=K)) (by rfl) T.isinstance ZA<|zA (pv 0)<|zA (yS (v:=.ty "int") rfl T.int Jx rfl) zB)<|xK<|WD<|zK (xT (K:=K)) (by rfl) T.isinstance ZA<|zA (pv 0)<|zA (yS (v:=.ty "bool") rfl T.bool PyProof.Rows.boot_bool rfl) zB),?_⟩;refine⟨_,rfl,_,_,_,true,rfl,.int i,rfl,true,rfl,Uo ?_⟩;exact⟨_,rfl,_,_,_,false,rfl,.int i,T.kit "int" (by simp[kinds]) "bool"<|by simp[kinds],false,rfl,k⟩
end AV
namespace AW
abbrev st:Stmt:=top 60
theorem sc:zx ["_law_script","_law_k"] ["_law_script","_law_k"] (zG st):=Cp
theorem ok (F:wY K "_law_cell" "_law_cell" st f fd)(T:Txt P w K mg t1 t2 t3 t4 t5 t6 t7 aL aC aN aT aA b1 b2):yx P w K mg base Cn 1 f fd ["_law_script","_law_k"] (pC K):=by
 refine F.ok sc fun _ _ _ _ H g Q E e h=>?_;obtain⟨a,ns,k,rfl,b,c,q⟩:=h;refine⟨_,(zD (yI (zX aM (pv 1) (zK z7 (by rfl) T.len Z5<|zA (pv 0) zB)<|zW _) (zF<|zM<|zY (yq:Cl _<|wO K) (pv 0)<|pv 1) zT)<|zF<|zM zI),?_⟩
 refine⟨_,rfl,_,rfl,a,_,rfl,.inl b,_,_,rfl,rfl,_,rfl,Uw (fun h=>?_)<|fun h=>?_⟩
 ·have d:k<ns.length:=by simpa using h
  obtain⟨n,_,hn⟩:=KP (f:=V.int) c d;exact⟨_,rfl,_,rfl,a,_,_,_,rfl,rfl,b,hn,q n⟩
 ·exact q 0
end AW
namespace AX
abbrev st:Stmt:=top 61
theorem sc:zx ["_law_cell_here","_law_k"] ["_law_cell_here","_law_k"] (zG st):=Cp
theorem ok (F:wY K "_law_mixed" "_law_mixed" st f fd)(T:Txt P w K mg t1 t2 t3 t4 t5 t6 t7 aL aC aN aT aA b1 b2):yx P w K mg base Cn 1 f fd ["_law_cell_here","_law_k"] uf:=by
 refine F.ok sc fun _ _ _ _ H g Q E e h=>?_;obtain⟨c,k,rfl,b,d,q⟩:=h;refine⟨_,(zF<|zM<|zV qP (zV xQ (zV xQ (zV xQ (zV XL (pv 0) zI)<|zV XL (pv 1) zI)<|zV XL (zV XL zI<|pv 1)<|pv 1) zI) zI),?_⟩;refine⟨_,rfl,_,_,rfl,rfl,.inr ⟨by decide,by decide⟩,_,rfl,_,_,rfl,rfl,.inr ⟨by decide,by decide⟩,_,_,rfl,rfl,_,rfl,_,_,rfl,rfl,.inl ⟨by decide,by decide⟩,_,rfl,_,_,rfl,rfl,.inr ⟨by lia,by lia⟩,_,_,rfl,rfl,_,_,rfl,rfl,_,_,rfl,rfl,(by show(0:Int)<2147483647;decide),q _⟩
end AX
namespace AY
abbrev st:Stmt:=top 62
theorem sc:zx ["_law_cell_here","_law_letters","_law_label","_law_at_place","_law_other"] ["_law_cell_here"] (zG st):=Cp
theorem ok (F:wY K "_law_labels" "_law_labels" st f fd)(T:Txt P w K mg t1 t2 t3 t4 t5 t6 t7 aL aC aN aT aA b1 b2)(I:wZ P w K mg base 1 "_law_mixed" ["_law_cell_here","_law_k"] uf):yx P w K mg base Cn 2 f fd ["_law_cell_here"] RY:=by
 refine F.ok sc fun _ _ _ s H vs Q E M h=>?_;obtain⟨c,rfl,k⟩:=h;refine⟨_,(zD (Co (i:=1) sc.nd zq)<|zD (Co (i:=2) sc.nd<|qN Z8 VL VM Ft zq<|zA (xN (sc:=zG st) (N:=["_law_cell_here","_law_letters","_law_label","_law_at_place","_law_other"]) (N':=["_law_k","_law_letters","_law_cell_here"]) (src:=[none,some 1,some 0]) .a rfl rfl rfl (uK rfl T.range<|zA (zV xQ zI<|zV qP (pv 0) zI) zB) (fun _ _ _ _=>(zQ (i:=0) (show(["_law_k","_law_letters","_law_cell_here"]:Da).Nodup by decide +kernel) rfl (EE rfl))) (fun _ _ _ _=>x9) (fun _ _ _ _=>(zY K7 (pv 1)<|zV qP (zV qS (zJ I M.m<|zA (pv 2)<|zA (pv 0) zB) zI) zI))) zB) (zD (Co (i:=3) sc.nd<|zV qP (zV qS (zJ I M.m<|zA (pv 0)<|zA zI zB) zI)<|zK xS (by rfl) T.len Z5<|zA (pv 2) zB)<|zD (Co (i:=4) sc.nd<|zV zL (zV zL (kX M9 (pv 2) Xd<|v7<|pv 3)<|zY (yq:Cl _<|wO K) (xU<|zA zq<|zA zq zB)<|z6 Xv (by rfl) T.int Jx<|zA (yL qM (zY K7 (pv 2)<|pv 3) zq<|zW _) zB)<|kX M9 (pv 2) (v7<|zV xQ (pv 3) zI) Xd)<|zF<|zM<|xU<|zA (pv 2)<|zA (zV zL (pv 2) zq)<|zA (pv 4) zB)),?_⟩
 have h0:0<=c % 6:=V1 c (by decide);have h6:c % 6<6:=Vr c (by decide);refine⟨rfl,_,rfl,_,_,rfl,rfl,(by show(0:Int)<6;decide),_,_,rfl,rfl,_,rfl,by lia,by lia,XX (fun i t v r=>∃x l,v=[x,some<|.str "abcdefghijklmnopqrstuvwxyz",some<|.int c]/\r=H/\t=(l.map one).map V.str/\l.length=i/\∀c∈l,UI c=true) ⟨none,[],rfl,rfl,rfl,rfl,fun c e=>nomatch e⟩ (zm<|by lia)
  (fun i t v r hi ⟨x,l,_,_,ey,L,_⟩=>by rw[ey,Q8,Q8,L];exact Zf _) ?_ ?_⟩
 ·rintro i t v r hi ⟨x,l,rfl,rfl,rfl,rfl,n⟩;refine⟨_,rfl,_,rfl,_,rfl,c,_,rfl,by lia,by lia,fun m=>?_⟩;obtain⟨d,B,C⟩:=Wv (i:=m / 7 % 26) (by lia) (by lia);refine⟨_,_,rfl,rfl,⟨by decide,by decide⟩,_,_,rfl,rfl,(by show(0:Int)<26;decide),_,_,d,rfl,rfl,zm<|by decide +kernel,B,_,l++[d],rfl,rfl,?_,by simp,j7 n C⟩;rw[Zl,Zl];rfl
 ·rintro t v r ⟨x,l,rfl,rfl,rfl,L,n⟩ p np;have S:("":Str).length=0:=by decide +kernel
  refine⟨_,p,l.map one,rfl,rfl,.inl<|yu.of zC,by rw[Kx,S];lia,?_⟩;generalize Z:Lp "" (l.map one)=u;have g:cs u=l:=by rw[←Z];exact F6 l
  have ul:u.length=l.length:=by rw[zj,g]
  have l1:1<=l.length:=by lia
  have G:l.length<=6:=by lia
  have u1:=zE (o:=.lst<|(l.map one).map V.str) np;refine zN ⟨_,rfl,c,60,rfl,by decide,by decide,fun m=>?_⟩;have pos:(0:Int)<(u.length:Int):=by lia
  have O:=V1 (m / 7)<|Int.ne_of_gt pos;have R:=Vr (m / 7) pos;refine⟨_,_,rfl,rfl,⟨by decide,by decide⟩,_,rfl,u,rfl,zm<|by lia,_,_,rfl,rfl,pos,?_⟩;obtain⟨j,J⟩:=YU O;rw[J]at R;refine Eq.mpr (congrArg (fun z:Int=>GO 3 (V.int z) _ _ _) J) ?_;have D:j<l.length:=by lia
  have A:KO u.cps.toList (j:Int)=some l[j]:=yY (by show(cs u)[j]?=_;rw[g];exact Zj D);have hx:∀b:Bool,∃z:Nat,UI z=true/\KO [V.str "m",V.str "n"] (if b then 1 else 0)=some (.str<|one z):=fun b=>by
   cases b
   ·exact⟨109,by decide,by show some (V.str "m")=_;rw[show(one 109)=("m":Str) by decide +kernel]⟩
   ·exact⟨110,by decide,by show some (V.str "n")=_;rw[show(one 110)=("n":Str) by decide +kernel]⟩
  refine zN ⟨_,rfl,_,rfl,_,rfl,u,rfl,zm<|by lia,Uq 2,fun q nq=>⟨_,rfl,_,rfl,_,_,_,rfl,rfl,zm<|by lia,A,rfl,.inr ⟨_,rfl,?_⟩⟩⟩;obtain⟨z,zl,hz⟩:=hx<|decide (V.str ⟨#[l[j]]⟩=V.str "m");refine⟨q,_,_,_,rfl,rfl,yu.of zC,hz,_,_,rfl,rfl,?_,_,rfl,_,rfl,_,_,rfl,rfl,_,rfl,u,rfl,zm<|by lia,_,_,rfl,rfl,?_,?_⟩
  ·rw[zj,Bq,g];exact zm (by rw[ZB];show min j l.length+1<=_;lia)
  ·have y:((j:Int)+1)=((j+1:Nat):Int):=rfl;rw[y,zj,zj,zr,Bq,Nv u (j+1)<|by lia,g];exact zm (by rw[Zh,ZB,Yv];show min j l.length+1+_<=_;lia)
  have y:((j:Int)+1)=((j+1:Nat):Int):=rfl;generalize ex:(LU u none (some (j:Int))++one z++LU u (some<|(j:Int)+1) none)=x;have U:cs x=l.take j++[z]++l.drop (j+1):=by
   rw[←ex,y,zr,zr,Bq,Nv u (j+1)<|by lia,g];rfl
  have X:cs ("s":Str)=[115]:=by decide +kernel
  have Y:("s":Str).length=1:=by decide +kernel
  refine zN ⟨_,rfl,_,rfl,_,_,rfl,rfl,zm<|by lia,_,rfl,Uq 3,fun l9 n9=>?_⟩;refine k l9 u (u++"s") x _ ((u1.trans<|zE nq).trans<|zE n9) zC (MG g l1 (Z0 G<|by decide) n) (MG (l:=l++[115]) (by rw[zr,g,X]) (by rw[Zh];exact Nat.le_add_left 1 _) (by rw[Zh];exact Nat.add_le_add G (by decide:1<=2)) (j7 n<|by decide)) (MG U (by rwa[NZ D]) (by rw[NZ D];exact Z0 G<|by decide) fun c e=>?_)
  rcases ZD.mp e with e|e
  ·exact j7 (fun c e=>n c<|Jj e) zl c e
  ·exact n c (List.mem_of_mem_drop e)
end AY
namespace AZ
abbrev st:Stmt:=top 63
theorem sc:zx ["_law_cell_here","_law_one","_law_two","_law_three","_law_paths_here"] ["_law_cell_here"] (zG st):=Cp
theorem ok (F:wY K "_law_paths" "_law_paths" st f fd)(T:Txt P w K mg t1 t2 t3 t4 t5 t6 t7 aL aC aN aT aA b1 b2)(B:wZ P w K mg base 2 "_law_labels" ["_law_cell_here"] RY):yx P w K mg base Cn 3 f fd ["_law_cell_here"] Bk:=by
 refine F.ok sc fun _ _ _ _ H Y Q E G h=>?_;obtain⟨c,rfl,k⟩:=h;refine⟨_,(zD (WF (zJ B G.m<|zA (pv 0) zB)<|SW (K:=K) (n:=3) rfl<|yM (zQ (i:=1) sc.nd rfl<|EE rfl)<|yM (zQ (i:=2) sc.nd rfl<|EE rfl)<|yM (zQ (i:=3) sc.nd rfl<|EE rfl) kD)<|zD (Co (i:=4) sc.nd<|xU<|zA (pv 1)<|zA (pv 2)<|zA (pv 3)<|zA (zV zL (zV zL (pv 1) zq)<|pv 1)<|zA (zV zL (zV zL (pv 1) zq)<|pv 2)<|zA (zV zL (zV zL (pv 2) zq)<|pv 1)<|zA (zV zL (zV zL (pv 3) zq)<|pv 1) zB)<|zD (yD<|qN Z2 Z3 Z4 yZ (pv 4)<|zA (zV zL (zV zL (zV zL (zV zL (pv 1) zq)<|pv 2) zq)<|pv 1) zB)<|zD (yD<|qN Z2 Z3 Z4 yZ (pv 4)<|zA (zV zL (zV zL (zV zL (zV zL (zV zL (zV zL (pv 2) zq)<|pv 3) zq)<|pv 1) zq)<|pv 2) zB)<|zD (yD<|qN Z2 Z3 Z4 yZ (pv 4)<|zA (zV zL (zV zL (zV zL (zV zL (pv 3) zq)<|pv 1) zq)<|pv 3) zB)<|zF<|zM<|pv 4),?_⟩
 refine⟨_,rfl,c,rfl,fun l u v x N A hl t y z=>⟨l,_,rfl,yu.of hl,rfl,?_⟩⟩;have U:=Fk t;have X:=Fk y;have Z:=Fk z;have e:("/":Str).length<=1:=by decide +kernel
 refine⟨_,_,rfl,zN ⟨_,_,rfl,zN ⟨_,_,rfl,zN ⟨rfl,?_⟩⟩⟩⟩;refine⟨_,rfl,_,rfl,_,rfl,_,rfl,_,_,rfl,rfl,(ad (by assumption) e),_,rfl,_,_,rfl,rfl,(ad (CF (by assumption) e)<|by assumption),_,rfl,_,_,rfl,rfl,(ad (by assumption) e),_,rfl,_,_,rfl,rfl,(ad (CF (by assumption) e)<|by assumption),_,rfl,_,_,rfl,rfl,(ad (by assumption) e),_,rfl,_,_,rfl,rfl,(ad (CF (by assumption) e)<|by assumption),_,rfl,_,_,rfl,rfl,(ad (by assumption) e),_,rfl,_,_,rfl,rfl,(ad (CF (by assumption) e)<|by assumption),Uq 7,fun j n2=>?_⟩;refine nw n2 fun O M q=>?_;have I:=A.trans M;have g:=A.free n2;refine zN ⟨_,rfl,.inl ⟨rfl,_,yu.of q⟩,_,rfl,_,_,rfl,rfl,(ad (by assumption) e),_,rfl,_,_,rfl,rfl,(ad (CF (by assumption) e)<|by assumption),_,_,rfl,rfl,(ad (CF (CF (by assumption) e)<|by assumption) e),_,rfl,_,_,rfl,rfl,(ad (CF (CF (CF (by assumption) e)<|by assumption) e)<|by assumption),j,_,_,rfl,rfl,q,yN<|show 7<16777216 by decide,?_⟩;refine wr I g fun R J r=>?_;refine⟨_,rfl,.inl ⟨rfl,_,yu.of r⟩,_,rfl,_,_,rfl,rfl,(ad (by assumption) e),_,rfl,_,_,rfl,rfl,(ad (CF (by assumption) e)<|by assumption),_,_,rfl,rfl,(ad (CF (CF (by assumption) e)<|by assumption) e),_,rfl,_,_,rfl,rfl,(ad (CF (CF (CF (by assumption) e)<|by assumption) e)<|by assumption),_,_,rfl,rfl,(ad (CF (CF (CF (CF (by assumption) e)<|by assumption) e)<|by assumption) e),_,rfl,_,_,rfl,rfl,(ad (CF (CF (CF (CF (CF (by assumption) e)<|by assumption) e)<|by assumption) e)<|by assumption),j,_,_,rfl,rfl,r,yN<|show 8<16777216 by decide,?_⟩;refine wr J g fun S L s=>?_;refine⟨_,rfl,.inl ⟨rfl,_,yu.of s⟩,_,rfl,_,_,rfl,rfl,(ad (by assumption) e),_,rfl,_,_,rfl,rfl,(ad (CF (by assumption) e)<|by assumption),_,_,rfl,rfl,(ad (CF (CF (by assumption) e)<|by assumption) e),_,rfl,_,_,rfl,rfl,(ad (CF (CF (CF (by assumption) e)<|by assumption) e)<|by assumption),j,_,_,rfl,rfl,s,yN<|show 9<16777216 by decide,?_⟩;refine⟨_,rfl,k j [[u],[v],[x],[u,u],[u,v],[v,u],[x,u],[u,v,u],[v,x,u,v],[x,u,x]] _ (An.zz.rZ L g) g ?_ rfl fun p D=>?_⟩
 ·rw[zC];have o:∀a b c:Str,a++"/"++b++"/"++c=Cc [a,b,c]:=fun a b c=>by rw[k7 (l:=a) (m:=b),Ho<|by simp];rfl
  have C:∀a b c d:Str,a++"/"++b++"/"++c++"/"++d=Cc [a,b,c,d]:=fun a b c d=>by rw[o a b c,Ho<|by simp];rfl
  rw[C,o u v u,o x u x,k7 (l:=u) (m:=u),k7 (l:=u) (m:=v),k7 (l:=v) (m:=u),k7 (l:=x) (m:=u)];show some (HO.lst [V.str u,V.str v,V.str x,_,_,_,_,_,_,_])=some (HO.lst [V.str<|Cc [u],V.str<|Cc [v],V.str<|Cc [x],_,_,_,_,_,_,_]);rw[←IF (l:=u),←IF (l:=v),←IF (l:=x)]
 ·have all:∀p∈[[u],[v],[x],[u,u],[u,v],[v,u],[x,u],[u,v,u],[v,x,u,v],[x,u,x]],UO p:=by simp[UO,t,y,z]
  exact all p D
end AZ
namespace A0
abbrev st:Stmt:=top 64
theorem sc:zx ["_law_cell_here","_law_rows"] ["_law_cell_here"] (zG st):=Cp
theorem ok (F:wY K "_law_lines" "_law_lines" st f fd)(T:Txt P w K mg t1 t2 t3 t4 t5 t6 t7 aL aC aN aT aA b1 b2)(C:wZ P w K mg base 1 "_law_mixed" ["_law_cell_here","_law_k"] uf):yx P w K mg base Cn 2 f fd ["_law_cell_here"] XD:=by
 refine F.ok sc fun _ A _ _ H vs Q E M h=>?_;obtain⟨c,rfl,k⟩:=h;refine⟨_,(zD (Co (i:=1) sc.nd<|xU<|zA (yQ<|zA zq zB)<|zA (yQ zB)<|zA (yQ<|zA zq<|zA zq zB)<|zA (yQ<|zA zq<|zA zq<|zA zq zB)<|zA (yQ<|zA zq zB) zB)<|zF<|zM<|zY (yq:Cl _<|wO K) (pv 1)<|zV qP (zV qS (zJ C M.m<|zA (pv 0)<|zA zI zB) zI) zI),?_⟩
 refine⟨Uq 1,fun t n1=>nw n1 fun H1 U D=>⟨Uq 0,fun u n2=>nw n2 fun H2 B G=>⟨Uq 2,fun v n3=>nw n3 fun H3 q s=>⟨Uq 3,fun x N=>nw N fun H4 j I=>⟨Uq 1,fun y O=>nw O fun H5 g n=>⟨Uq 5,fun S R=>nw R fun r d J=>?_⟩⟩⟩⟩⟩⟩;have z5:=d _ _ n;have z4:=d _ _<|g _ _ I;have Z:=d _ _<|g _ _<|j _ _ s;have Y:=d _ _<|g _ _<|j _ _<|q _ _ G;have X:=d _ _<|g _ _<|j _ _<|q _ _<|B _ _ D;have sa:=((((U.trans B).trans q).trans j).trans g).trans d;refine zN ⟨_,rfl,_,rfl,c,9,rfl,by decide,by decide,fun m=>?_⟩;have o:∃(p:Ef) (b:Da),KO [V.ref t,V.ref u,V.ref v,V.ref x,V.ref y] (m / 7 % 5)=some (.ref p)/\r p=some (.tup<|b.map V.str)/\UE b:=by
  have n:m / 7 % 5=0\/m / 7 % 5=1\/m / 7 % 5=2\/m / 7 % 5=3\/m / 7 % 5=4:=by lia
  have la:UH "a"=true:=by decide +kernel
  have lb:UH "b"=true:=by decide +kernel
  have lA:UH "A b,"=true:=by decide +kernel
  have ok:∀b:Da,b.length<=3->(∀l∈b,l="a"\/l="b"\/l="A b,")->UE b:=fun b s h=>⟨by lia,fun l hl=>by rcases h l hl with z|z|z<;>rw[z]<;>assumption⟩
  rcases n with e|e|e|e|e
  ·exact⟨t,["a"],by rw[e];rfl,X,ok _ (by decide) fun l hl=>.inl<|Q9.mp hl⟩
  ·exact⟨u,[],by rw[e];rfl,Y,ok _ (by decide) fun l hl=>(nomatch hl)⟩
  ·exact⟨v,["a","b"],by rw[e];rfl,Z,ok _ (by decide) fun l hl=>by simp only[Zi,Yq,J3]at hl;rcases hl with z|z;exact .inl z;exact .inr<|.inl z⟩
  ·exact⟨x,["b","a","b"],by rw[e];rfl,z4,ok _ (by decide) fun l hl=>by simp only[Zi,Yq,J3]at hl;rcases hl with z|z|z;exact .inr<|.inl z;exact .inl z;exact .inr<|.inl z⟩
  ·exact⟨y,["A b,"],by rw[e];rfl,z5,ok _ (by decide) fun l hl=>.inr<|.inr<|Q9.mp hl⟩
 obtain⟨p,b,ha,L,hl⟩:=o;refine⟨_,_,rfl,rfl,⟨by decide,by decide⟩,_,_,rfl,rfl,(by show(0:Int)<5;decide),S,_,_,_,rfl,rfl,yu.of J,ha,k p b r sa L hl⟩
end A0
end
end An13
namespace L2
open PySem PySem.Spec PyProof.Rows
section
variable {X:Cx}{K:Cd}
theorem SX {pos:Pos}{k:Nat}{n:Nat}(d:X.calm=true)(h:oX X es t)(c:X.K=K:=by rfl)
  (hn:(Lm es X.env).length=n:=by rfl) (b:(Lm es X.env).findIdx? (·.1)=none:=by rfl):PG X (.Tuple es k pos) (mJ K n t):=by
 subst c;exact XA d h hn b
end
end L2
namespace An13
open PySem L2 An
seal L2.PS L2.sX L2.PE L2.PT L2.PW L2.PA L2.PG L2.oX L2.PI L2.oU L2.PC
noncomputable def HH (S:Di):Option Str->Option Da
 |none=>none
 |some n=>match CO S n with
  |some (.leaf L)=>some L
  |_=>none
def CK:Option Da->Ej
 |none=>.none
 |some L=>AnJ.yo L
noncomputable def ci (S:Di)(r:Oj):PyData:=.tuple [.str<|Cc r.1,CK<|HH S r.2.1,CK<|HH S r.2.2]
def Sa (S:Di)(o:Option Str):Prop:=∀n,o=some n->∃L,At S n<|.leaf L
inductive pJ (P:Eg)(w:Ek)(K:Cd)(C:Ef)(vs:Dj)(H:Hp)(Q:VK)(e3:XK):Prop
 |mk (a lr:Ef) (fp:Dd) (S:Di) (R:List Oj) (xs:Dj) (h0:vs=[.ref a,.ref lr]) (h1:yg P w K C H a fp S) (h2:xr S) (h3:H lr=some (.lst xs)) (h4:zy K H (R.map CI) xs) (h5:R.length<=1000) (h6:(∀r∈R,Sa S r.2.1/\Sa S r.2.2)) (h7:∀q ys H',zz H H'->H q=none->H' q=some (.lst ys)->zy K H' (R.map<|ci S) ys->Q (.ref q) H'):pJ P w K C vs H Q e3
inductive tM (K:Cd)(vs:Dj)(H:Hp)(Q:VK)(e3:XK):Prop
 |mk (c:Ef) (Dm:Dl) (fs:Dk) (p:Str) (h0:vs=[.str p,.ref c]) (h1:H c=some (.dK Dm)) (h2:Dm.map (·.1)=fs.map (fun f=>(.inr (Cc f.1):Key))) (h3:(∀f∈fs,(Cc f.1).length<=900)) (h4:p.length<=900) (h5:∀H' b,zz H H'->(b=true->∀f∈fs,UB p (Cc f.1)=false/\UB (Cc f.1) p=false)->Q (.bl b) H'):tM K vs H Q e3
inductive tu (K:Cd)(vs:Dj)(H:Hp)(Q:VK)(e3:XK):Prop
 |mk (x:Int) (l:Ef) (ps:List Da) (h0:vs=[.int x,.ref l]) (h1:yu K H l<|ps.map fun p=>V.str<|Cc p) (h2:ps.length=10) (h3:(∀p∈ps,UO p)) (h4:∀c Dm fs H',zz H H'->H c=none->H' c=some (.dK Dm)->ye K H' fs Dm->za 4 fs->List.length fs<=10->Q (.ref c) H'):tu K vs H Q e3
inductive tX (K:Cd)(vs:Dj)(H:Hp)(Q:VK)(e3:XK):Prop
 |mk (x:Int) (d l:Ef) (ps:List Da) (ka:Dl) (fs:Dk) (h0:vs=[.int x,.ref d,.ref l]) (h1:H d=some (.dK ka)) (h2:ye K H fs ka) (h3:za 4 fs) (h4:fs.length<=10) (h5:yu K H l<|ps.map fun p=>V.str<|Cc p) (h6:ps.length=10) (h7:(∀p∈ps,UO p)) (h8:∀c Dm gs H',zz H H'->H c=none->H' c=some (.dK Dm)->ye K H' gs Dm->za 4 gs->List.length gs<=13->Q (.ref c) H'):tX K vs H Q e3
theorem vE {ls:Da}(b:ls.length<=4)(h:∀l∈ls,zP l=true):(Cc ls).length<=900:=by
 have:=Iu h;rw[zj];lia
theorem GM (g:za n fs){f k:Fi}(b:f∈fs)(hk:k∈fs):UB (Cc f.1) (Cc k.1)=false:=by
 rw[Yx];intro z;obtain⟨q,c,e⟩:=(Bs (g.wV f b).1 (g.wV k hk).1 (g.wV f b).2.2.1 (g.wV k hk).2.2.1).mp z;exact c<|g.pre f b k hk q e
section
variable {P:Eg}{w:Ek}{K:Cd}{mg:Str->Dc}{base:Ev}{t1 t2 t3 t4 t5 t6 t7:Tok}{aL aC aN aT aA b1 b2:Ef}
theorem P6 (ok:xr S){n:Str}{L:Da}(a:At S n<|.leaf L):HH S (some n)=some L:=by
 unfold HH;dsimp only;rw[jV ok a]
theorem aK (h:Dt K H (Cy o) v):v=oV o:=by cases o<;>exact h
namespace A1
abbrev st:Stmt:=top 51
theorem sc:zx ["store","rows"] ["store","rows"] (zG st):=Cp
theorem ok (F:wY K "read_rows" "read_rows" st f fd)(T:Txt P w K mg t1 t2 t3 t4 t5 t6 t7 aL aC aN aT aA b1 b2)(Qz:wZ P w K mg base 5 "lines_at" ["store","name"]<|uo P w K aC):yx P w K mg base Cn 6 f fd ["store","rows"] (pJ P w K aC):=by
 refine F.ok sc fun _ _ _ _ H vs Q E hr h=>?_;obtain⟨a,lr,fp,S,R,xs,rfl,sh,ok,hl,hd,hR,lf,k⟩:=h;refine⟨_,(zF<|zM<|xN (sc:=zG st) (N:=["store","rows"]) (N':=["path","before","after","store"]) (src:=[none,none,none,some 0]) .a rfl rfl rfl (xC<|pv 1) (fun _ _ _ _=>(SX (K:=K) (n:=3) rfl<|yM (zQ (i:=0) (show(["path","before","after","store"]:Da).Nodup by decide +kernel) rfl (EE rfl)) (yM (zQ (i:=1) (show(["path","before","after","store"]:Da).Nodup by decide +kernel) rfl (EE rfl)) (yM (zQ (i:=2) (show(["path","before","after","store"]:Da).Nodup by decide +kernel) rfl (EE rfl)) kD)))) (fun _ _ _ _=>x9) (fun _ _ _ _=>(yQ<|zA (pv 0)<|zA (zJ Qz hr.m<|zA (pv 3)<|zA (pv 1) zB)<|zA (zJ Qz hr.m<|zA (pv 3)<|zA (pv 2) zB) zB))),?_⟩;have xl:=hd.length;rw[Q8]at xl;refine⟨_,rfl,lr,rfl,⟨_,yu.of hl⟩,qW (K:=K) (a:=lr) (xs:=xs) (fun i t A b=>∃x y z,A=[x,y,z,some<|.ref a]/\zz H b/\zy K b ((R.take i).map<|ci S) t) ⟨none,none,none,rfl,zz.refl _,rfl⟩ (zm<|by lia) ?_ ?_ ?_⟩
 ·rintro i t A b hi ⟨x,y,z,rfl,g,j⟩;refine⟨g.seq<|yu.of hl,?_⟩;rw[j.length,Q8,ZB];lia
 ·rintro i v t A b hv ⟨x,y,z,rfl,g,j⟩;obtain⟨d,l,M⟩:=hd.get hv;rw[Zk]at l;obtain⟨r,s,rfl⟩:=ZE.mp l;obtain⟨p,ws,rfl,hp,x1,r1,e1,C,x2,r2,e2,D,x3,r3,e3,G,e4⟩:=M;have C:x1=.str (Cc r.1):=C;have D:=aK D;have G:=aK G;subst e1 e2 e3 e4 C D G;have O:=g.yo hp;obtain⟨U,X⟩:=lf r<|Zn s;rw[yc s,Zl];have c:∀(o:Option Str) (B:V->Hp->Prop) (E':XK),Sa S o->(∀v,Dt K b (CK<|HH S o) v->B v b)->uo P w K aC [.ref a,oV o] b B E':=fun o B E' Y kk=>by
   refine⟨a,fp,S,o,rfl,sh.same g,ok,fun e=>?_,fun n e=>?_⟩
   ·subst e;exact kk .non rfl
   ·subst e;obtain⟨L,at_⟩:=Y n rfl;refine⟨L,at_,fun v hv=>kk v ?_⟩;rwa[P6 ok at_]
  refine⟨p,_,rfl,O,rfl,_,_,rfl,zN ⟨_,_,rfl,zN ⟨_,_,rfl,zN ⟨rfl,?_⟩⟩⟩⟩;refine⟨_,rfl,_,rfl,_,rfl,?_⟩;delta Gd;dsimp only;refine c r.2.1 _ _ U fun v1 I=>?_;refine⟨_,rfl,_,rfl,?_⟩;dsimp only;refine c r.2.2 _ _ X fun v2 J=>?_;refine⟨Uq 3,fun pt Z=>?_⟩;have u:=zE (o:=.tup [V.str<|Cc r.1,v1,v2]) Z;exact⟨_,_,_,rfl,g.trans u,zy.append (zy.same u _ _ j) ⟨_,_,rfl,⟨pt,_,rfl,xu.of zC,_,_,rfl,rfl,_,_,rfl,Dt.same u _ _ I,_,_,rfl,Dt.same u _ _ J,rfl⟩,rfl⟩⟩
 ·rintro t A b ⟨x,y,z,rfl,g,j⟩ q nq;rw[xl,ZH]at j;exact k q t _ (g.trans<|zE nq) (g.free nq) zC<|zy.same (zE nq) _ _ j
end A1
namespace A2
abbrev st:Stmt:=top 65
theorem sc:zx ["_law_path","_law_files_here","_law_other"] ["_law_path","_law_files_here"] (zG st):=Cp
theorem ok (F:wY K "_law_is_free" "_law_is_free" st f fd)(T:Txt P w K mg t1 t2 t3 t4 t5 t6 t7 aL aC aN aT aA b1 b2):yx P w K mg base Cn 1 f fd ["_law_path","_law_files_here"] (tM K):=by
 refine F.ok sc fun _ _ _ _ H U Q E R h=>?_;obtain⟨c,b,fs,p,rfl,x,D,J,S,k⟩:=h;refine⟨_,(zD (RE<|xA EL rfl (FC<|XB<|pv 1) (zQ (i:=2) sc.nd rfl<|EE rfl)<|zF<|yI (PW.pt<|uL (zS (K:=K)<|qN Z8 JZ J0 jH (pv 2)<|zA (zV zL (pv 0) zq) zB)<|uL (zS (K:=K)<|qN Z8 JZ J0 jH (pv 0)<|zA (zV zL (pv 2) zq) zB)<|jW<|zX qM (pv 0) (pv 2)<|zW _) (zF<|zM qL) zT)<|zF<|zM qL),?_⟩
 refine⟨_,rfl,c,b,rfl,x,fun j=>?_⟩;have C:b.length=fs.length:=by
  have:=congrArg List.length D;rw[Q8,Q8]at this;exact this
 have O:("/":Str).length=1:=by decide +kernel
 have e:upd H c (.frz j<|.dK b) c=some (.frz j<|.dK b):=zC;have G:∀o u,H c≠some (.frz o u):=fun o u z=>by rw[x]at z;cases z
 refine⟨c,j,b,rfl,e,IS (fun i y q=>∃B,y=[some<|.str p,some<|.ref c,B]/\zz (upd H c<|.frz j<|.dK b) q/\∀f∈fs.take i,UB p (Cc f.1)=false/\UB (Cc f.1) p=false) ⟨none,rfl,zz.refl _,fun f r=>(nomatch r)⟩ (fun i y q A ⟨_,_,g,_⟩=>g _ _ e) ?_ ?_⟩
 ·rintro i M v y q A ⟨B,rfl,g,t⟩;have hl:=(Zw.mp A).1;have r:=Zj (l:=fs) (i:=i) (by rwa[←C]);have s:=congrArg (fun l=>l[i]?) D;simp only[Zk,A,r,Yt]at s;have s:M=.inr (Cc fs[i].1):=Option.some.inj s;generalize fs[i]=f at r s;subst s;have L:=J f<|Zn r;have n:∃d j b,q d=some (.frz j<|.dK b)/\(∀o u,H d≠some (.frz o u))/\Q (.bl false) (upd q d<|.dK b):=⟨c,j,b,g _ _ e,G,k _ false (uQ x g)<|fun z=>nomatch z⟩;refine zN ⟨_,rfl,rfl,_,rfl,_,_,rfl,rfl,zm<|by lia,_,_,rfl,rfl,_,rfl,Uw (fun z=>Uo n)<|fun z=>?_⟩;refine⟨_,rfl,rfl,_,rfl,_,_,rfl,rfl,zm<|by lia,_,_,rfl,rfl,_,rfl,Uw (fun I=>Uo n)<|fun I=>?_⟩;refine⟨_,rfl,_,rfl,rfl,_,rfl,Uw (fun N=>n)<|fun N=>⟨_,rfl,g,?_⟩⟩;rw[yc r];exact j7 t ⟨Yx.mpr z,Yx.mpr I⟩
 ·rintro y q ⟨B,rfl,g,t⟩;rw[C,ZH]at t;exact⟨c,j,b,g _ _ e,G,k _ true (uQ x g) fun _=>t⟩
end A2
namespace A3
abbrev st:Stmt:=top 66
theorem sc:zx ["_law_cell_here","_law_paths_here","_law_files_here","_law_k","_law_path"] ["_law_cell_here","_law_paths_here"] (zG st):=Cp
theorem ok (F:wY K "_law_files" "_law_files" st f fd)(T:Txt P w K mg t1 t2 t3 t4 t5 t6 t7 aL aC aN aT aA b1 b2)(Z:wZ P w K mg base 1 "_law_mixed" ["_law_cell_here","_law_k"] uf)(Qw:wZ P w K mg base 1 "_law_is_free" ["_law_path","_law_files_here"]<|tM K)(Ql:wZ P w K mg base 2 "_law_lines" ["_law_cell_here"] XD):yx P w K mg base Cn 3 f fd ["_law_cell_here","_law_paths_here"] (tu K):=by
 refine F.ok sc fun _ _ _ _ H vs Q E B h=>?_;obtain⟨x,l,ps,rfl,hl,N,O,k⟩:=h;have hu:=Hl B;refine⟨_,(zD (Co (i:=2) sc.nd qQ)<|zD (xA EL rfl (uK rfl T.range<|zA zI zB) (zQ (i:=3) sc.nd rfl<|EE rfl)<|zD (Co (i:=4) sc.nd<|zY (yq:Cl _<|wO K) (pv 1)<|zV qP (zV xQ (zV XL (pv 3) zI)<|pv 0) zI)<|zF<|yI (PW.pt<|RK (zX TK (zV qP (zV qS (zJ Z B.m<|zA (pv 0)<|zA (pv 3) zB) zI) zI) zI<|zW _)<|N0<|zS (K:=K)<|zJ Qw B.m<|zA (pv 4)<|zA (pv 2) zB) (zF<|qK hu (pv 2) (pv 4) (zJ Ql B.m<|zA (zV xQ (pv 0)<|pv 3) zB) rfl) zT)<|zF<|zM<|pv 2),?_⟩
 refine fun c J=>?_;have u0:=zE (o:=.dK []) J;refine⟨10,rfl,by decide,by decide,Xn (lo:=0) (n:=10) (fun i R t=>∃L M g fs,R=[some<|.int x,some<|.ref l,some<|.ref c,L,M]/\zz H t/\t c=some (.dK g)/\ye K t fs g/\za 4 fs/\fs.length<=i) ⟨none,none,[],[],rfl,u0,zC,ye.nil,⟨fun f v=>(nomatch v),Yw,fun f v=>(nomatch v)⟩,ZN _⟩ ?_ ?_⟩
 ·rintro i R t hi ⟨L,M,g,fs,rfl,e,u,s,j,S⟩;obtain⟨q,G,D⟩:=KP (f:=fun p:Da=>V.str<|Cc p) (xs:=ps) (i:=((0+(i:Int))*3+x) % 10) (by lia) (by rw[N];lia);obtain⟨U,X,I⟩:=O q<|Zn G;have pl:=vE X I;refine zN ⟨_,rfl,_,rfl,_,_,rfl,rfl,.inr ⟨by decide,by decide⟩,_,rfl,_,_,rfl,rfl,_,_,rfl,rfl,(by show(0:Int)<10;decide),l,_,_,_,rfl,rfl,e.seq hl,D,?_⟩;refine zN ⟨_,rfl,_,rfl,x,_,rfl,by lia,by lia,fun m=>⟨_,_,rfl,rfl,⟨by decide,by decide⟩,_,_,rfl,rfl,(by show(0:Int)<3;decide),_,_,rfl,rfl,_,rfl,Uw (fun _=>?_)<|fun _=>⟨_,_,g,fs,rfl,e,u,s,j,by lia⟩⟩⟩;refine⟨_,rfl,_,rfl,c,g,fs,Cc q,rfl,u,s.keys,fun f v=>vE (j.wV f v).2.1 (j.wV f v).2.2.1,pl,fun H2 b A fr=>⟨_,rfl,Uw (fun z=>?_)<|fun z=>⟨_,_,g,fs,rfl,e.trans A,A _ _ u,s.same A,j,by lia⟩⟩⟩;refine⟨_,rfl,_,rfl,_,_,rfl,rfl,_,rfl,fun p d C e3 hp Y=>?_⟩;have r:=A.trans e3;have y:=r _ _ u;have fr:=fr z;have dv:Dt K C (AnJ.yo d) (.ref p):=⟨p,_,rfl,xu.of hp,zy.strs _⟩;have fp:=(s.same r).put j (f:=(q,d)) U I dv Y;have pc:Off [c] C (upd C c<|.dK<|yd g (.inr<|Cc q)<|.ref p):=yF;refine⟨_,rfl,_,rfl,c,_,rfl,uw.k (k:=.inr<|Cc q) y<|yN (by have:=s.len;lia),_,_,_,UG fs (q,d),rfl,An.zz.rZ (e.trans r) J,zC,fp.off (yB y) pc,j.put (f:=(q,d)) U X I Y<|fun k hk=>⟨(fr k hk).2,(fr k hk).1⟩,?_⟩;have:=XH fs (q,d);lia
 ·rintro R t ⟨L,M,g,fs,rfl,e,u,s,j,S⟩;exact⟨_,rfl,k c g fs t e J u s j S⟩
end A3
namespace A4
abbrev st:Stmt:=top 67
theorem sc:zx ["_law_cell_here","_law_files_here","_law_paths_here","_law_found","_law_k","_law_path","_law_kind"] ["_law_cell_here","_law_files_here","_law_paths_here"] (zG st):=Cp
theorem ok (F:wY K "_law_others" "_law_others" st f fd)(T:Txt P w K mg t1 t2 t3 t4 t5 t6 t7 aL aC aN aT aA b1 b2)(Qe:wZ P w K mg base 1 "_law_mixed" ["_law_cell_here","_law_k"] uf)(Qw:wZ P w K mg base 1 "_law_is_free" ["_law_path","_law_files_here"]<|tM K)(Ql:wZ P w K mg base 2 "_law_lines" ["_law_cell_here"] XD):yx P w K mg base Cn 3 f fd ["_law_cell_here","_law_files_here","_law_paths_here"] (tX K):=by
 refine F.ok sc fun _ _ _ _ H vs Q E O h=>?_;obtain⟨x,d,l,ps,ka,fs,rfl,hd,ff,gf,cg,hl,ca,cd,k⟩:=h;refine⟨_,(zD (Co (i:=3) sc.nd qQ)<|zD (xA EL rfl (SY rfl T.enumerate<|zA (z6 (qZ rfl) (by rfl) T.list Yk<|zA (pv 1) zB) zB) (XA rfl<|yM (zQ (i:=4) sc.nd rfl<|EE rfl)<|yM (zQ (i:=5) sc.nd rfl<|EE rfl) kD)<|zD (Co (i:=6) sc.nd<|zV qP (zV qS (zJ Qe O.m<|zA (pv 0)<|zA (pv 4) zB) zI) zI)<|xX (yI (zX qM (pv 6) zI<|zW _) (zF<|qK O.wJ (pv 3) (pv 5) (zJ Ql O.m<|zA (zV xQ (zV qS (pv 0) zI)<|pv 4) zB) rfl) zT)<|zF<|yI (zX TK (pv 6) zI<|zW _) (zF<|qK O.wJ (pv 3) (pv 5) (Fy O.wJ (pv 1) (pv 5)<|fun _ _=>rfl) rfl) zT)<|zD (xA EL rfl (uK rfl T.range<|zA (zV qP (pv 0) zI) zB) (zQ (i:=4) sc.nd rfl<|EE rfl)<|zD (Co (i:=5) sc.nd<|zY (yq:Cl _<|wO K) (pv 2)<|zV qP (zV qS (zJ Qe O.m<|zA (pv 0)<|zA (zV xQ (pv 4) zI) zB) zI) zI)<|zF<|yI (zS (K:=K)<|zJ Qw O.m<|zA (pv 5)<|zA (pv 3) zB) (zF<|qK O.wJ (pv 3) (pv 5) (zJ Ql O.m<|zA (zV xQ (zV qS (pv 0) zI)<|pv 4) zB) rfl) zT)<|zF<|zM<|pv 3),?_⟩
 refine fun c nc=>?_;refine nw nc fun H0 u0 a4=>?_;have a8:=u0 _ _ hd;refine zN ⟨_,rfl,d,_,rfl,.inl a8,fun lp b3=>?_⟩;have bz:=ff.kV;refine nw b3 fun H1 u1 Z=>?_;have s1:=u0.trans u1;have a5:=u1 _ _ a4;rw[bz]at Z;have put:∀{y:Hp} {s:Dk} {A:Dl} {C g:Da} {v:V},zz H y->y c=some (.dK A)->ye K y s A->za 4 s->UO C->UE g->Dt K y (AnJ.yo g) v->(∀k∈s,UB (Cc k.1) (Cc C)=false/\UB (Cc C) (Cc k.1)=false)->s.length<=100 ->
   ∃B,uw y c (kV<|.inr<|Cc C) v B/\B c=some (.dK<|yd A (.inr<|Cc C) v)/\zz H B/\Off [c] y B/\ye K B (UG s (C,g)) (yd A (.inr<|Cc C) v)/\za 4 (UG s (C,g)):=fun{y s A C g v} s3 al I D lb S dv fr cf=>by
  obtain⟨l0,l4,ll⟩:=lb;have fp:=I.put D (f:=(C,g)) l0 ll dv S;have pc:Off [c] y (upd y c<|.dK<|yd A (.inr<|Cc C) v):=yF;exact⟨_,uw.k (k:=.inr<|Cc C) al<|yN (by have:=I.len;lia),zC,An.zz.rZ s3 nc,pc,fp.off (yB al) pc,D.put (f:=(C,g)) l0 l4 ll S fr⟩
 refine⟨lp,rfl,⟨_,yu.of Z⟩,PJ (K:=K) (a:=lp) (xs:=(fs.map fun f=>Cc f.1).map V.str) (fun i X L=>∃o4 o5 o6 A s,X=[some<|.int x,some<|.ref d,some<|.ref l,some<|.ref c,o4,o5,o6]/\zz H L/\L lp=some (.lst<|(fs.map fun f=>Cc f.1).map V.str)/\L c=some (.dK A)/\ye K L s A/\za 4 s/\s.length<=i/\∀k∈s,∃f∈fs,k.1=f.1) ⟨none,none,none,[],[],rfl,s1,Z,a5,ye.nil,⟨fun f hf=>(nomatch hf),Yw,fun f hf=>(nomatch hf)⟩,ZN _,fun k hk=>(nomatch hk)⟩ (fun i X L _ ⟨_,_,_,_,_,_,_,e,_⟩=>yu.of e) ?_ ?_⟩
 ·rintro i v Tt X L hv ⟨o4,o5,o6,A,s,rfl,e,G,u,I,D,gl,own⟩ nT;rw[Zk,Zk]at hv;obtain⟨q,hq,rfl⟩:=ZE.mp hv;obtain⟨J,an,rfl⟩:=ZE.mp hq;have ch:i<10:=by
   have:=(Zw.mp an).1;lia
  have fm:=Zn an;obtain⟨g0,g4,a2,gn⟩:=gf.wV J fm;have U:=zE (o:=.tup [.int i,.str<|Cc J.1]) nT;have hT:=zC (H:=L) (a:=Tt) (o:=.tup [.int i,.str<|Cc J.1]);generalize upd L Tt _=M at U hT ⊢;refine⟨Tt,_,rfl,xu.of hT,rfl,_,_,rfl,zN ⟨_,_,rfl,zN ⟨rfl,?_⟩⟩⟩;have cl:c≠lp:=fun z=>by rw[z,G]at u;cases u
  have fr:∀k∈s,UB (Cc k.1) (Cc J.1)=false/\UB (Cc J.1) (Cc k.1)=false:=fun k hk=>by
   obtain⟨f1,ap,e1⟩:=own k hk;rw[e1];exact⟨GM gf ap fm,GM gf fm ap⟩
  have next:∀{y:Hp} {g:Da} {v:V},zz M y->UE g->Dt K y (AnJ.yo g) v->∃B,uw y c (kV<|.inr<|Cc J.1) v B/\∃j t,zz H B/\B lp=some (.lst<|(fs.map fun f=>Cc f.1).map V.str)/\B c=some (.dK j)/\ye K B t j/\za 4 t/\t.length<=i+1/\∀k∈t,∃f∈fs,k.1=f.1:=fun{y g v} R S dv=>by
   have N:=U.trans R;obtain⟨B,dp,a6,sH,b4,ax,a0⟩:=put (e.trans N) (N _ _ u) (I.same N) D ⟨g0,g4,a2⟩ S dv fr (by lia);refine⟨B,dp,_,_,sH,b4 _ _ (fun z=>cl (Q9.mp z).symm) (N _ _ G),a6,ax,a0,?_,fun k hk=>?_⟩
   ·have:=XH s (J.1,g);lia
   ·rcases uH hk with z|z
    ·exact own k z
    ·rw[z];exact⟨J,fm,rfl⟩
  refine⟨_,rfl,_,rfl,x,_,rfl,by lia,by lia,fun m=>⟨_,_,rfl,rfl,⟨by decide,by decide⟩,_,_,rfl,rfl,(by show(0:Int)<6;decide),?_⟩⟩;refine zN ⟨fun as y=>as=[some<|.int x,some<|.ref d,some<|.ref l,some<|.ref c,some<|.int i,some<|.str<|Cc J.1,some<|.int<|m / 7 % 6]/\((m / 7 % 6=1/\∃j t,zz H y/\y lp=some (.lst<|(fs.map fun f=>Cc f.1).map V.str)/\y c=some (.dK j)/\ye K y t j/\za 4 t/\t.length<=i+1/\∀k∈t,∃f∈fs,k.1=f.1)\/(m / 7 % 6≠1/\y=M)),?_,?_⟩
  ·refine⟨_,rfl,rfl,_,rfl,Uw (fun z=>?_)<|fun z=>⟨rfl,.inr ⟨fun w=>z (by show decide (V.int (m / 7 % 6)=V.int 1)=true;rw[w];rfl),rfl⟩⟩⟩;have z1:m / 7 % 6=1:=by
    have z:=Zv z;exact V.int.inj z
   refine⟨_,rfl,_,_,rfl,rfl,⟨by decide,by decide⟩,_,rfl,_,_,rfl,rfl,_,rfl,fun p g y R hp S=>?_⟩;obtain⟨B,dp,r⟩:=next R S ⟨p,_,rfl,xu.of hp,zy.strs _⟩;exact⟨_,rfl,_,rfl,c,B,rfl,dp,rfl,.inl ⟨z1,r⟩⟩
  ·rintro as y ⟨rfl,ab⟩;refine⟨_,rfl,_,_,rfl,rfl,_,rfl,Uw (fun z=>?_)<|fun z=>?_⟩
   ·have z1:1<m / 7 % 6:=Zv z
    rcases ab with⟨w,_⟩|⟨_,rfl⟩
    ·lia
    ·have a9:=U _ _<|e _ _ hd;obtain⟨v,bl,bm,bo⟩:=(ff.same<|e.trans U).at gf fm;obtain⟨B,dp,j,t,r⟩:=next (zz.refl _) bo bm;exact⟨_,rfl,_,rfl,d,v,rfl,.inl ⟨_,.inr<|Cc J.1,.inl a9,rfl,bl.symm⟩,_,rfl,_,rfl,c,B,rfl,dp,_,_,_,j,t,rfl,r⟩
   ·rcases ab with⟨_,j,t,r⟩|⟨_,rfl⟩
    ·exact⟨_,_,_,j,t,rfl,r⟩
    ·exact⟨_,_,_,A,s,rfl,e.trans U,U _ _ G,U _ _ u,I.same U,D,by lia,own⟩
 ·rintro X L ⟨o4,o5,o6,A,s,rfl,e,G,u,I,D,gl,own⟩;rw[Q8,Q8]at gl;have h0:0<=x % 4:=by lia
  have h4:x % 4<4:=by lia
  refine⟨_,rfl,_,_,rfl,rfl,(by show(0:Int)<4;decide),_,rfl,by lia,by lia,Xn (lo:=0) (n:=(x % 4).toNat) (fun i X M=>∃o4 o5 o6 A s,X=[some<|.int x,some<|.ref d,some<|.ref l,some<|.ref c,o4,o5,o6]/\zz H M/\M c=some (.dK A)/\ye K M s A/\za 4 s/\s.length<=10+i) ⟨_,_,_,A,s,rfl,e,u,I,D,by lia⟩ ?_ ?_⟩
  ·rintro i X M hi ⟨o4,o5,o6,A,s,rfl,e,u,I,D,gl⟩;refine zN ⟨_,rfl,_,rfl,_,rfl,_,_,rfl,rfl,x,_,rfl,by lia,by lia,fun m=>?_⟩;obtain⟨C,bd,a3⟩:=KP (f:=fun p:Da=>V.str<|Cc p) (xs:=ps) (i:=m / 7 % 10) (by lia) (by rw[ca];lia);have lb:=cd C<|Zn bd;have pl:=vE lb.2.1 lb.2.2;refine⟨_,_,rfl,rfl,⟨by decide,by decide⟩,_,_,rfl,rfl,(by show(0:Int)<10;decide),l,_,_,_,rfl,rfl,e.seq hl,a3,?_⟩;refine zN ⟨_,rfl,_,rfl,c,A,s,Cc C,rfl,u,I.keys,fun f hf=>vE (D.wV f hf).2.1 (D.wV f hf).2.2.1,pl,fun y b R fr=>⟨_,rfl,Uw (fun z=>?_)<|fun z=>⟨_,_,_,A,s,rfl,e.trans R,R _ _ u,I.same R,D,by lia⟩⟩⟩;refine⟨_,rfl,_,_,rfl,rfl,⟨by decide,by decide⟩,_,rfl,_,_,rfl,rfl,_,rfl,fun p g B e4 hp S=>?_⟩;have fr:=fr z;have Y:=R.trans e4;obtain⟨H5,dp,a7,sH,co,ay,a1⟩:=put (e.trans Y) (Y _ _ u) (I.same Y) D lb S ⟨p,_,rfl,xu.of hp,zy.strs _⟩ (fun k hk=>⟨(fr k hk).2,(fr k hk).1⟩) (by lia);refine⟨_,rfl,_,rfl,c,H5,rfl,dp,_,_,_,_,_,rfl,sH,a7,ay,a1,?_⟩;have:=XH s (C,g);lia
  ·rintro X M ⟨o4,o5,o6,A,s,rfl,e,u,I,D,gl⟩;exact⟨_,rfl,k c A s M e nc u I D<|by lia⟩
end A4
theorem perm_back {α g:Type}{f:α->g}{ss m:List g}(p:ss.Perm m):∀{l:List α},m=l.map f->∃rs:List α,rs.Perm l/\ss=rs.map f:=by
 induction p with
 |nil =>
  intro l e;cases l with
  |nil=>exact⟨[],List.Perm.refl _,rfl⟩
  |cons a l=>cases e
 |cons x h ih =>
  intro l e;cases l with
  |nil=>cases e
  |cons a l =>
   injection e with d c;obtain⟨rs,p,e⟩:=ih c;exact⟨a::rs,p.cons a,by rw[e,d];rfl⟩
 |swap x y l =>
  intro k e;cases k with
  |nil=>cases e
  |cons a k =>
   cases k with
   |nil=>injection e with _ e;cases e
   |cons b k =>
    injection e with d c;injection c with c i;exact⟨b::a::k,List.Perm.swap _ _ _,by rw[d,c,i];rfl⟩
 |trans h1 h2 ih1 ih2 =>
  intro l e;obtain⟨q,n,c⟩:=ih2 e;obtain⟨o,j,d⟩:=ih1 c;exact⟨o,j.trans n,d⟩
theorem HJ (h:Pd a b)(n:a≠b):Cs a b:=E5 fun z=>n<|vV h z
theorem Bv {ss:Da}(c:PyProof.Rows.sortedS ss=true)(nd:ss.Nodup):ss.Pairwise Cs:=(List.pairwise_and_iff.mpr ⟨kT c,ZI.mp nd⟩).imp fun{a b} h=>HJ h.1 h.2
theorem Ta (g:za n fs){ss:Da}(p:ss.Perm<|fs.map fun f=>Cc f.1)(i:PyProof.Rows.sortedS ss=true):∃rs:Dk,ss=rs.map (fun f=>Cc f.1)/\rs.Pairwise (fun f h=>Cs (Cc f.1)<|Cc h.1)/\∀f,f∈rs↔f∈fs:=by
 obtain⟨rs,c,e⟩:=perm_back p rfl;have nd:ss.Nodup:=by
  rw[p.nodup_iff];refine ZI.mpr ?_;rw[Yc];have:=ZI.mp g.nd;rw[Yc]at this;refine this.imp_of_mem fun{a b} ha hb z w=>z<|qF (d:=0) (g.wV a ha).1 (g.wV b hb).1 (g.wV a ha).2.2.1 (g.wV b hb).2.2.1 w
 refine⟨rs,e,?_,fun f=>c.mem_iff⟩;have:=Bv i nd;rw[e,Yc]at this;exact this
theorem Bi {B p:Da}(b:p≠[])(e:∀l∈B,zP l=true)(f:∀l∈p,zP l=true):Lk (Cc p) (Cu B)=true↔∃q,q≠[]/\p=B++q:=by
 unfold Cu
 by_cases h:B=[]
 ·subst h;rw[Zs rfl];refine⟨fun _=>⟨p,b,rfl⟩,fun _=>?_⟩;unfold Lk;rw[StrLaws.subAt_eq];have c:("":Str).length=0:=by decide +kernel
  have d:("":Str).cps.toList=[]:=by decide +kernel
  rw[c,d,Zg<|ZN _];rfl
 ·rw[Zt h];exact Bs h b e f
theorem Ij {B:Da}(h:B≠[]):cs (Cu B)=cs (Cc B)++[47]:=by
 unfold Cu;rw[Zt h,zr,show cs ("/":Str)=[47] by decide +kernel]
theorem CQ {B C:Da}(g:∀l∈B,zP l=true)(i:∀l∈C,zP l=true)(e:Cu B=Cu C):B=C:=by
 have ne:∀{B:Da},B≠[]->Cu B≠"":=fun{B} h z=>by
  have:=Ij h;rw[z,show cs ("":Str)=[] by decide +kernel]at this;exact absurd this.symm (by simp)
 have f:Cu []="":=Zs rfl
 by_cases c:B=[]
 ·by_cases b:C=[]
  ·rw[c,b]
  ·rw[c,f]at e;exact absurd e.symm<|ne b
 ·by_cases b:C=[]
  ·rw[b,f]at e;exact absurd e<|ne c
  ·refine qF (d:=0) c b g i (xq ?_);have:=congrArg cs e;rw[Ij c,Ij b]at this;exact List.append_cancel_right this
theorem Oz {p:Da}(g:p≠[])(s:∀l∈p,zP l=true){k:Nat}(h:(cs<|Cc p)[k]?=some 47):∃B q,B≠[]/\q≠[]/\p=B++q/\LU (Cc p) none (some<|((k:Nat):Int)+1)=Cu B/\cs (Cc B)=(cs<|Cc p).take k:=by
 have hk:=(Zw.mp h).1;have b:=(Zw.mp h).2;have sp:cs (Cc p)=(cs<|Cc p).take k++47::(cs<|Cc p).drop (k+1):=by
  have:=Yg k<|cs<|Cc p;rw[JA hk,b]at this;exact this.symm
 have u:UB (LU (Cc p) none<|some ((k:Nat):Int)) (Cc p)=true:=qt.mpr ⟨_,by rw[Bq];exact sp⟩;have c:=pN.mpr u;unfold G8 at c;have o:Ut (Cc p)=p:=qA g fun y r=>y8<|s y r;rw[Zc,o]at c;obtain⟨i,f,e⟩:=c;have f:=YQ.mp f;have e:Cc (p.take<|i+1)=LU (Cc p) none (some ((k:Nat):Int)):=e;have t:0<p.length:=Y6.mpr g;have j:p.take (i+1)≠[]:=fun z=>by
  have:=congrArg List.length z;rw[ZB]at this;have:min (i+1) p.length=0:=this;lia
 have d:cs (Cc<|p.take<|i+1)=(cs<|Cc p).take k:=by rw[e,Bq]
 refine⟨p.take<|i+1,p.drop<|i+1,j,fun z=>?_,(Yg _ _).symm,xq ?_,d⟩
 ·have:=congrArg List.length z;rw[Yv]at this;have:p.length-(i+1)=0:=this;lia
 ·have n:(((k:Nat):Int)+1)=((k+1:Nat):Int):=rfl;rw[n,Bq,Ij j,d,List.take_succ,h];rfl
theorem IL {B q:Da}(b:B≠[])(c:q≠[]):(cs<|Cc<|B++q)[(cs<|Cc B).length]?=some 47/\(cs<|Cc<|B++q).take (cs<|Cc B).length=cs (Cc B):=by
 have e:cs (Cc<|B++q)=cs (Cc B)++47::cs (Cc q):=by
  rw[Id b c,zr,zr,show cs ("/":Str)=[47] by decide +kernel];simp
 rw[e];exact⟨by rw[Yo<|Zf _,Nat.sub_self];rfl,List.take_left⟩
def CJ (M:List Da):Dl:=M.map fun B=>((.inr (Cu B):Key),V.bl true)
theorem Hf (M:List Da):(CJ M).map (·.1)=M.map fun B=>(.inr (Cu B):Key):=by unfold CJ;rw[ZC];rfl
theorem So {M:List Da}{B:Da}(d:∀C∈M,∀l∈C,zP l=true)(f:∀l∈B,zP l=true)(nd:M.Nodup):∃N,yd (CJ M) (.inr<|Cu B) (.bl true)=CJ N/\N.Nodup/\(∀C,C∈N↔C∈M\/C=B)/\N.length<=M.length+1:=by
 by_cases h:B∈M
 ·refine⟨M,?_,nd,fun C=>⟨.inl,fun z=>z.elim id<|fun w=>w▸h⟩,by lia⟩;have kn:((CJ M).map (·.1)).Nodup:=by
   rw[Hf];refine ZI.mpr ?_;rw[Yc];exact(ZI.mp nd).imp_of_mem fun{a b} ha hb z w=>z<|CQ (d a ha) (d b hb)<|Sum.inr.inj w
  unfold yd;rw[Zs (by rw[xZ,vM kn<|Zc.mpr ⟨B,h,rfl⟩];rfl)];unfold CJ;rw[ZC];refine ZQ fun C c=>?_;show(if(.inr (Cu C):Key)=.inr (Cu B) then((.inr (Cu C):Key),V.bl true) else(.inr<|Cu C,V.bl true))=_
  split<;>rfl
 ·refine⟨M++[B],?_,jQ nd h,fun C=>by rw[ZD,Q9],by rw[Zh];exact Zf _⟩;have:(.inr (Cu B):Key)∉(CJ M).map (·.1):=by
   rw[Hf];intro z;obtain⟨C,c,e⟩:=Zc.mp z;exact h<|CQ (d C c) f (Sum.inr.inj e)▸c
  rw[kC this];unfold CJ;rw[Zl];rfl
def FT (f:Fi):PyData:=.tuple [.str<|Cc f.1,AnJ.yo f.2]
def G0 (f:Fi):Prop:=f.1≠[]/\f.1.length<=4/\(∀l∈f.1,zP l=true)/\UE f.2
theorem FD:∀{p:Da},(∀l∈p,zP l=true)->El (Cc p)=true
 |[],_=>by decide +kernel
 |[l],h=>by
  rw[yU,jN,←yU];exact(uR<|h l Ze).ok
 |l::m::p,h=>by
  rw[yU,x5 l<|ZR m p];have b:=(yU l).mp (uR<|h l Ze).ok;have d:=(yU _).mp<|FD (p:=m::p) fun x f=>h x<|Zb _ f;intro c e
  rcases ZD.mp e with z|z
  ·exact b c z
  ·rcases Zi.mp z with z|z
   ·rw[z];decide
   ·exact d c z
theorem P7 (h:UE L):AnJ.lW L:=fun l hl=>(Hw<|h.2 l hl).ok
theorem Wj (h:G0 f):(FT f).canLay0=true/\(FT f).depth<=2:=by
 obtain⟨a,b⟩:=AnJ.pW<|P7 h.2.2.2;constructor
 ·show(El (Cc f.1)&&((AnJ.yo f.2).canLay0&&true))=true;rw[a,FD h.2.2.1];rfl
 ·show max 0 (max (AnJ.yo f.2).depth 0)+1<=2;lia
theorem Iq:∀{A B:Dk},(∀f∈A,G0 f)->(∀f∈B,G0 f)->Ey (.list<|A.map FT) (.list<|B.map FT)=decide (A=B)
 |[],[],_,_=>rfl
 |[],_::_,_,_=>rfl
 |_::_,[],_,_=>rfl
 |a::A,b::B,hA,hB=>by
  have j:EO (A.map FT) (B.map FT)=decide (A=B):=Iq (fun f h=>hA f<|Zb _ h) (fun f h=>hB f<|Zb _ h);show((decide (Cc a.1=Cc b.1)&&(Ey (AnJ.yo a.2) (AnJ.yo b.2)&&true))&&EO (A.map FT) (B.map FT))=_;rw[j,AnJ.qd,Yi];have ha:=hA a Ze;have hb:=hB b Ze;rw[Zm,Zm,Zm,ZM,ZM,ZM,ZM];constructor
  ·rintro⟨⟨c,g,_⟩,i⟩;rw[i,LF (qF (d:=0) ha.1 hb.1 ha.2.2.1 hb.2.2.1 c) g]
  ·intro e;injection e with c g;rw[c,g];exact⟨⟨rfl,rfl,rfl⟩,rfl⟩
theorem Gb {A:Dk}(h:∀f∈A,G0 f):EK (.list<|A.map FT)=true:=AnJ.uv (n:=2) (by decide) fun f b=>Wj<|h f b
def UK (rs:Dk)(t:Str):Dk:=rs.filter fun f=>Lk (Cc f.1) t
theorem HL {fs rs:Dk}{B:Da}(e:∀f,f∈rs↔f∈fs)(g:∀f∈fs,G0 f)(d:∀l∈B,zP l=true)(f:Fi):f∈UK rs (Cu B)↔CA fs B f:=by
 unfold UK CA;rw[YA,e];constructor
 ·rintro⟨b,c⟩;exact⟨b,(Bi (g f b).1 d (g f b).2.2.1).mp c⟩
 ·rintro⟨b,c⟩;exact⟨b,(Bi (g f b).1 d (g f b).2.2.1).mpr c⟩
theorem Bg {rs:Dk}(h:rs.Pairwise fun f k=>Cs (Cc f.1)<|Cc k.1):(UK rs t).Pairwise fun f k=>Cs (Cc f.1) (Cc k.1):=h.sublist List.filter_sublist
inductive nO (K:Cd)(vs:Dj)(H:Hp)(Q:VK)(e3:XK):Prop
 |mk (c:Ef) (Dm:Dl) (fs:Dk) (t:Str) (h0:vs=[.ref c,.str t]) (h1:H c=some (.dK Dm)) (h2:ye K H fs Dm) (h3:za 4 fs) (h4:fs.length<=13) (h5:∀rs q ys H',zz H H'->H q=none->rs.Pairwise (fun f h=>Cs (Cc f.1)<|Cc h.1)->(∀f,f∈rs↔f∈fs)->H' q=some (.lst ys)->zy K H' ((UK rs t).map FT) ys->Q (.ref q) H'):nO K vs H Q e3
inductive rY (K:Cd)(vs:Dj)(H:Hp)(Q:VK)(e3:XK):Prop
 |mk (c1 c2:Ef) (k1 k2:Dl) (fs gs:Dk) (h0:vs=[.ref c1,.ref c2]) (h1:H c1=some (.dK k1)) (h2:H c2=some (.dK k2)) (h3:ye K H fs k1) (h4:ye K H gs k2) (h5:za 4 fs) (h6:za 4 gs) (h7:fs.length<=13) (h8:gs.length<=13) (h9:∀(M:List Da) H',zz H H'->M.Nodup->[]∈M->(∀B f,CA fs B f->B∈M)->(∀B f,CA gs B f->B∈M)->Q (.int ((M.map<|Cz fs gs).sum:Nat)) H'):rY K vs H Q e3
theorem Oo {rs:Dk}{i:Nat}{f:Fi}(h:rs[i]?=some f):UK (rs.take<|i+1) t=UK (rs.take i) t++if Lk (Cc f.1) t=true then[f] else[]:=by
 unfold UK;rw[yc h,Vp,JM,Vk]
theorem PB {n:Nat}(g:za 4 fs):∀f∈fs,G0 f:=fun f b=>g.wV f b
namespace A5
abbrev st:Stmt:=top 68
theorem sc:zx ["_law_files_here","_law_folder"] ["_law_files_here","_law_folder"] (zG st):=Cp
theorem ok (F:wY K "_law_beneath" "_law_beneath" st f fd)(T:Txt P w K mg t1 t2 t3 t4 t5 t6 t7 aL aC aN aT aA b1 b2):yx P w K mg base Cn 1 f fd ["_law_files_here","_law_folder"] (nO K):=by
 refine F.ok sc fun _ _ _ _ H vs Q E hr h=>?_;obtain⟨c,R,fs,t,rfl,L,A,J,Y,k⟩:=h;refine⟨_,(zF<|zM<|xN (sc:=zG st) (N:=["_law_files_here","_law_folder"]) (N':=["_law_path","_law_files_here","_law_folder"]) (src:=[none,some 0,some 1]) .a rfl rfl rfl (xC<|zK (CW rfl) (by rfl) T.sorted Jg<|zA (pv 0) zB) (fun _ _ _ _=>(zQ (i:=0) (show(["_law_path","_law_files_here","_law_folder"]:Da).Nodup by decide +kernel) rfl (EE rfl))) (fun _ _ _ _=>(FB<|zS (K:=K)<|Rw (K:=K) Z8 JZ J0 jH (pv 0)<|zA (pv 2) zB)) (fun _ _ _ _=>(yQ<|zA (pv 0)<|zA (Fy hr.wJ (pv 1) (pv 0)<|fun _ _=>rfl) zB))),?_⟩;obtain⟨U,X⟩:=A.kj;refine⟨_,rfl,c,R,rfl,.inl L,U,by rw[A.len];lia,fun l ss nl pm so=>?_⟩;rw[X]at pm;obtain⟨x,rfl,rr,O⟩:=Ta J pm so;refine nw nl fun S G hl=>?_;have rl:x.length<=13:=by
  have:=pm.length_eq;rw[Q8,Q8]at this;lia
 refine⟨l,rfl,⟨_,yu.of hl⟩,uN (K:=K) (a:=l) (xs:=(x.map fun f=>Cc f.1).map V.str) (fun i d y g=>∃s,y=[s,some<|.ref c,some<|.str t]/\zz S g/\d.length<=i/\zy K g ((UK (x.take i) t).map FT) d) ⟨none,rfl,zz.refl _,Zf _,rfl⟩ (zm (by rw[Q8,Q8];lia)) ?_ ?_ ?_⟩
 ·rintro i d y g hi ⟨s,rfl,b,I,e⟩;exact⟨b.seq<|yu.of hl,I⟩
 ·rintro i v d y g M ⟨s,rfl,b,I,e⟩;rw[Zk,Zk]at M;obtain⟨q,hq,rfl⟩:=ZE.mp M;obtain⟨j,n,rfl⟩:=ZE.mp hq;have Z:=(O j).mp<|Zn n;rw[Oo n,Zl];refine zN ⟨_,rfl,rfl,_,rfl,_,_,rfl,rfl,_,rfl,Uw (fun z=>?_)<|fun z=>?_⟩
  ·obtain⟨v,B,C,ab⟩:=(A.same<|G.trans b).at J Z;have z:Lk (Cc j.1) t=true:=z;rw[Zs z];refine⟨_,rfl,_,rfl,_,rfl,c,v,rfl,.inl ⟨_,.inr<|Cc j.1,.inl<|b _ _<|G _ _ L,rfl,B.symm⟩,Uq 2,fun p np=>?_⟩;have u:=zE (o:=.tup [V.str<|Cc j.1,v]) np;exact⟨_,rfl,b.trans u,by rw[Zh];show d.length+1<=i+1;lia,zy.append (zy.same u _ _ e) ⟨_,_,rfl,⟨p,_,rfl,xu.of zC,_,_,rfl,rfl,_,_,rfl,Dt.same u _ _ C,rfl⟩,rfl⟩⟩
  ·have z:¬Lk (Cc j.1) t=true:=z;rw[Zt z,YZ,ZG];exact⟨_,rfl,b,by lia,e⟩
 ·rintro d y g ⟨s,rfl,b,I,e⟩ q D;rw[Q8,Q8,ZH]at e;have r:=G.trans b;exact k x q d _ (r.trans<|zE D) (r.free D) rr O zC<|zy.same (zE D) _ _ e
end A5
namespace A6
abbrev st:Stmt:=top 69
theorem sc:zx ["_law_one","_law_other","_law_folders","_law_path","_law_k","_law_found","_law_folder","_law_rows"] ["_law_one","_law_other"] (zG st):=Cp
theorem ok (F:wY K "_law_opened" "_law_opened" st f fd)(T:Txt P w K mg t1 t2 t3 t4 t5 t6 t7 aL aC aN aT aA b1 b2)(QA:wZ P w K mg base 1 "_law_beneath" ["_law_files_here","_law_folder"]<|nO K):yx P w K mg base Cn 2 f fd ["_law_one","_law_other"] (rY K):=by
 refine F.ok sc fun _ A _ _ H vs Q E hr h=>?_;obtain⟨c1,c2,k1,k2,fs,c,rfl,h1,h2,ff,fg,gf,gg,b4,ca,k⟩:=h;refine⟨_,(zD (Co (i:=2) sc.nd<|SQ (RC zq qL SZ) rfl rfl (by simp)<|by decide)<|zD (xA EL rfl (xC<|zV Fw (z6 (qZ rfl) (by rfl) T.list Yk<|zA (pv 0) zB)<|z6 (qZ rfl) (by rfl) T.list Yk<|zA (pv 1) zB) (zQ (i:=3) sc.nd rfl<|EE rfl)<|zF<|xA EL rfl (uK rfl T.range<|zA (zK xS (by rfl) T.len Z5<|zA (pv 3) zB) zB) (zQ (i:=4) sc.nd rfl<|EE rfl)<|zF<|yI (zX qM (zY K7 (pv 3)<|pv 4) zq<|zW _) (zF<|qK hr.wJ (pv 2) (kX M9 (pv 3) Xd<|v7<|zV xQ (pv 4) zI) qL rfl) zT)<|zD (Co (i:=5) sc.nd zI)<|zD (U5<|xA EL rfl (FC<|XB<|pv 2) (zQ (i:=6) sc.nd rfl<|EE rfl)<|zD (Co (i:=7) sc.nd<|xU<|zA (zJ QA hr.m<|zA (pv 0)<|zA (pv 6) zB)<|zA (zJ QA hr.m<|zA (pv 1)<|zA (pv 6) zB) zB)<|zF<|yI (zX (qY hr.units) (zY (yq:Cl _<|wO K) (pv 7) zI) (zY (yq:Cl _<|wO K) (pv 7) zI)<|zW _) (zD (Co (i:=5) sc.nd<|zV xQ (pv 5)<|z6 Xv (by rfl) T.int Jx<|zA (NU (yL qM (pv 6) zq<|zW _)<|xK<|yL (qY hr.units) (zY (yq:Cl _<|wO K) (pv 7) zI) (xU zB)<|zW _) zB)<|zF<|Co (i:=5) sc.nd<|zV xQ (pv 5)<|z6 Xv (by rfl) T.int Jx<|zA (NU (yL qM (pv 6) zq<|zW _)<|xK<|yL (qY hr.units) (zY (yq:Cl _<|wO K) (pv 7) zI) (xU zB)<|zW _) zB) zT)<|zF<|zM<|pv 5),?_⟩
 refine fun b I=>⟨zC,[(.inr "",.bl true)],rfl,by decide,?_⟩;have sA:zz H (upd (upd H b<|.dK []) b<|.dK<|U2 [] [(.inr "",.bl true)]):=An.zz.rZ (zE I) I;have a7:upd (upd H b<|.dK []) b (.dK<|U2 [] [(.inr "",.bl true)]) b=some (.dK<|CJ [[]]):=zC;generalize upd (upd H b<|.dK []) b _=HA at sA a7 ⊢;refine zN ⟨_,rfl,c1,_,rfl,.inl<|sA _ _ h1,fun l1 n1=>?_⟩;refine nw n1 fun HB uB hB=>?_;refine⟨_,rfl,c2,_,rfl,.inl<|uB _ _<|sA _ _ h2,fun l2 n2=>?_⟩;refine nw n2 fun HC uC hC=>?_;refine⟨l1,l2,_,_,rfl,rfl,uC _ _ hB,hC,zm (by rw[Q8,Q8,ff.len,fg.len];lia),fun lp cu=>?_⟩;have eL:(k1.map fun kv=>kV kv.1)++(k2.map fun kv=>kV kv.1)=(fs++c).map fun f=>V.str (Cc f.1):=by
  rw[ff.kV,fg.kV,Zl,ZC,ZC];rfl
 rw[eL];refine nw cu fun HD uD hD=>?_;have sD:=((sA.trans uB).trans uC).trans uD;have ch:=uD _ _<|uC _ _<|uB _ _ a7;have cr:∀f∈fs++c,G0 f:=fun f g=>(ZD.mp g).elim (gf.wV f)<|gg.wV f;have c3:(fs++c).length<=26:=by rw[Zh];lia
 refine⟨lp,rfl,⟨_,yu.of hD⟩,jC (K:=K) (a:=lp) (xs:=(fs++c).map fun f=>V.str<|Cc f.1) (fun i J R=>∃o3 S M,J=[some<|.ref c1,some<|.ref c2,some<|.ref b,o3,S,none,none,none]/\zz H R/\R lp=some (.lst<|(fs++c).map fun f=>V.str<|Cc f.1)/\R b=some (.dK<|CJ M)/\M.Nodup/\[]∈M/\(∀C∈M,∀l∈C,zP l=true)/\M.length<=1+900*i/\∀h∈(fs++c).take i,∀B q:Da,B≠[]->q≠[]->h.1=B++q->B∈M) ⟨none,none,[[]],rfl,sD,hD,ch,by simp,Q9.mpr rfl,(by intro C hC l hl;rw[Q9.mp hC]at hl;cases hl),Zf _,fun h hh=>(nomatch hh)⟩ (fun i J R _ ⟨_,_,_,_,_,e,_⟩=>yu.of e) ?_ ?_⟩
 ·rintro i v J R hv ⟨o3,S,M,rfl,s',s,g,nd,mt,lM,ml,r⟩;have il:=(Zw.mp hv).1;rw[Q8]at il;rw[Zk]at hv;obtain⟨G,a8,rfl⟩:=ZE.mp hv;obtain⟨p0,p4,pl,_⟩:=cr G<|Zn a8;have c4:=vE p4 pl;refine zN ⟨_,rfl,_,rfl,zm<|by lia,_,rfl,by lia,by lia,Xn (lo:=0) (n:=((Cc G.1).length:Int).toNat) (fun j J t=>∃S M,J=[some<|.ref c1,some<|.ref c2,some<|.ref b,some<|.str<|Cc G.1,S,none,none,none]/\zz H t/\t lp=some (.lst<|(fs++c).map fun f=>V.str<|Cc f.1)/\t b=some (.dK<|CJ M)/\M.Nodup/\[]∈M/\(∀C∈M,∀l∈C,zP l=true)/\M.length<=1+900*i+j/\(∀h∈(fs++c).take i,∀B q:Da,B≠[]->q≠[]->h.1=B++q->B∈M)/\∀B q:Da,B≠[]->q≠[]->G.1=B++q->(cs<|Cc B).length<j->B∈M)
   ⟨S,M,rfl,s',s,g,nd,mt,lM,by lia,r,fun B q _ _ _ z=>absurd z<|JV _⟩ ?_ ?_⟩
  ·rintro j J t hj ⟨S,M,rfl,s2,s,g,nd,mt,lM,ml,r,D⟩;have hj:j<(cs<|Cc G.1).length:=by rw[←zj];lia
   have ej:(0:Int)+(j:Int)=(j:Int):=by lia
   have cg:KO (Cc G.1).cps.toList ((0:Int)+(j:Int))=some (cs<|Cc G.1)[j]:=by rw[ej];exact yY<|Zj hj
   refine zN ⟨_,rfl,_,rfl,_,_,_,rfl,rfl,zm<|by lia,cg,rfl,_,rfl,Uw (fun z=>?_)<|fun z=>?_⟩
   ·have z:decide (V.str ⟨#[(cs<|Cc G.1)[j]]⟩=V.str "/")=true:=z;have z:=V.str.inj<|Zv z;have bz:(cs<|Cc G.1)[j]=47:=by
     have:=congrArg cs z;rw[show cs ("/":Str)=[47] by decide +kernel]at this;exact List.head_eq_of_cons_eq this
    have cd:(cs<|Cc G.1)[j]?=some 47:=by rw[Zj hj,bz]
    obtain⟨B,q,nB,nq,eB,eT,eC⟩:=Oz p0 pl cd;have lB:∀l∈B,zP l=true:=fun l hl=>pl l (by rw[eB];exact ZX _ hl);obtain⟨N,eN,nN,mN,lN⟩:=So lM lB nd;have eT:LU (Cc G.1) none (some<|(0:Int)+(j:Int)+1)=Cu B:=by rwa[ej]
    have dp:uw t b (V.str<|LU (Cc G.1) none<|some<|(0:Int)+(j:Int)+1) (.bl true) (upd t b<|.dK<|CJ N):=by
     rw[eT,←eN];exact uw.k (k:=.inr<|Cu B) g (yN (by unfold CJ;rw[Q8];lia))
    have ne:b≠lp:=fun q=>by rw[q,s]at g;cases g
    refine⟨_,rfl,_,rfl,_,rfl,_,_,rfl,rfl,_,rfl,_,rfl,zm<|by lia,b,_,rfl,dp,_,N,rfl,An.zz.rZ s2 I,by rw[zH<|EB ne];exact s,zC,nN,(mN _).mpr<|.inl mt,fun C hC=>((mN C).mp hC).elim (lM C)<|fun w=>w▸lB,by lia,fun h hh B q b1 O e=>(mN B).mpr<|.inl<|r h hh B q b1 O e,fun B2 Z b2 U p cl=>?_⟩
    by_cases w:(cs<|Cc B2).length=j
    ·have L:=(IL b2 U).2;rw[←p,w,←eC]at L;have l2:∀l∈B2,zP l=true:=fun l hl=>pl l (by rw[p];exact ZX _ hl);exact(mN B2).mpr (.inr<|qF (d:=0) b2 nB l2 lB<|xq L.symm)
    ·exact(mN B2).mpr (.inl<|D B2 Z b2 U p<|by lia)
   ·refine⟨_,M,rfl,s2,s,g,nd,mt,lM,by lia,r,fun B2 Z b2 U p cl=>?_⟩
    by_cases w:(cs<|Cc B2).length=j
    ·exfalso;have L:=(IL b2 U).1;rw[←p,w,Zj hj]at L;have L:=Option.some.inj L;refine z ?_;show decide (V.str ⟨#[(cs<|Cc G.1)[j]]⟩=V.str "/")=true;rw[L]
     decide +kernel
    ·exact D B2 Z b2 U p (by lia)
  ·rintro J t ⟨S,M,rfl,s2,s,g,nd,mt,lM,ml,r,D⟩;refine⟨_,_,M,rfl,s2,s,g,nd,mt,lM,by lia,fun h hh B q b1 O e=>?_⟩;rw[yc a8]at hh
   rcases ZD.mp hh with z|z
   ·exact r h z B q b1 O e
   ·rw[Q9.mp z]at e;refine D B q b1 O e ?_;have:=(Zw.mp (IL b1 O).1).1;rw[←e]at this;have:=zj<|Cc G.1;lia
 ·rintro J R ⟨o3,S,M,rfl,s',s,g,nd,mt,lM,ml,r⟩;rw[Q8,ZH]at r;have an:∀B f,f∈fs++c->(∃q,q≠[]/\f.1=B++q)->B∈M:=fun B f g ⟨q,hq,e⟩=>by
   by_cases w:B=[]
   ·rwa[w]
   ·exact r f g B q w hq e
  refine⟨_,rfl,b,_,rfl,g,fun ob=>?_⟩;have ab:upd R b (.frz ob<|.dK<|CJ M) b=some (.frz ob<|.dK<|CJ M):=zC;have nt:=yB g;have al:Off [b] R (upd R b<|.frz ob<|.dK<|CJ M):=yF;have ap:c1≠b:=fun q=>by rw[q,I]at h1;cases h1
  have as:c2≠b:=fun q=>by rw[q,I]at h2;cases h2
  have a5:=al _ _ (fun z=>ap<|Q9.mp z) (s' _ _ h1);have a6:=al _ _ (fun z=>as<|Q9.mp z) (s' _ _ h2);have a2:=(ff.same s').off nt al;have a3:=(fg.same s').off nt al;have kk:∀{t:Hp},zz (upd R b<|.frz ob<|.dK<|CJ M) t->zz H (upd t b<|.dK<|CJ M):=fun e=>s'.trans<|uQ g e;generalize upd R b (.frz ob<|.dK<|CJ M)=HF at ab a5 a6 a2 a3 kk ⊢;refine⟨b,ob,CJ M,rfl,ab,IS (fun i J t=>∃o6 o7,J=[some<|.ref c1,some<|.ref c2,some<|.ref b,o3,S,some<|.int (((M.take i).map<|Cz fs c).sum:Nat),o6,o7]/\zz HF t) ⟨none,none,rfl,zz.refl _⟩ (fun i J t hi ⟨_,_,_,p⟩=>p _ _ ab) ?_ ?_⟩
  ·rintro i c6 v J t hi ⟨o6,o7,rfl,p⟩;unfold CJ at hi;rw[Zk]at hi;obtain⟨B,hB,eB⟩:=ZE.mp hi;injection eB with b3 c5;subst b3;have mB:=Zn hB;have lB:=lM B mB;refine zN ⟨_,rfl,_,rfl,c1,k1,fs,Cu B,rfl,p _ _ a5,a2.same p,gf,b4,fun rs O y1 H3 s3 c7 rr re co bm=>?_⟩;refine⟨_,rfl,_,rfl,c2,k2,c,Cu B,rfl,s3 _ _<|p _ _ a6,(a3.same p).same s3,gg,ca,fun X Z y2 H4 s4 c8 c0 cx cp bo=>⟨Uq 2,fun Y cv=>?_⟩⟩;have u5:=zE (o:=.lst [.ref O,.ref Z]) cv;have h5:=zC (H:=H4) (a:=Y) (o:=.lst [.ref O,.ref Z]);have s5:=((p.trans s3).trans s4).trans u5;have d1:Dt K (upd H4 Y<|.lst [.ref O,.ref Z]) (.list<|(UK rs<|Cu B).map FT) (.ref O):=⟨O,y1,rfl,yu.of<|u5 _ _<|s4 _ _ co,zy.same (s4.trans u5) _ _ bm⟩;have d2:Dt K (upd H4 Y<|.lst [.ref O,.ref Z]) (.list<|(UK X<|Cu B).map FT) (.ref Z):=⟨Z,y2,rfl,yu.of<|u5 _ _ cp,zy.same u5 _ _ bo⟩;generalize upd H4 Y _=H5 at u5 h5 s5 d1 d2 ⊢;have m1:=HL re (PB (n:=0) gf) lB;have L:=HL cx (PB (n:=0) gg) lB;have i1:∀f∈UK rs (Cu B),G0 f:=fun f g=>gf.wV f ((m1 f).mp g).1;have i2:∀f∈UK X (Cu B),G0 f:=fun f g=>gg.wV f ((L f).mp g).1;have a9:=Gb i1;have bd:=Gb i2;have same:UK rs (Cu B)=UK X (Cu B)↔∀f,CA fs B f↔CA c B f:=by
    constructor
    ·intro e f;rw[←m1,←L,e]
    ·intro e;exact BJ (Bg rr) (Bg c0) fun f=>by rw[m1,L,e]
   rw[yc hB,Zl,Vi];have eS:∀x:Nat,[x].sum=x:=fun x=>by rw[Yl];rfl
   rw[Zu,YZ,eS];refine zN ⟨_,rfl,Y,_,_,_,rfl,rfl,yu.of h5,rfl,_,rfl,Y,_,_,_,rfl,rfl,yu.of h5,rfl,_,_,d1,d2,a9,bd,_,rfl,Uw (fun z=>?_)<|fun z=>?_⟩
   ·have ns:¬∀f,CA fs B f↔CA c B f:=fun w=>by
     have z:(!Ey (.list<|(UK rs<|Cu B).map FT) (.list<|(UK X<|Cu B).map FT))=true:=z;rw[Iq i1 i2,Zg<|same.mpr w]at z;cases z
    have ex:∀{A:Dk} {c:Dk},(∀f∈A,G0 f)->(∀f,f∈A↔CA c B f)->B≠[]->(if(!Ey (.list<|A.map FT) (.list []))=true then(1:Int) else 0)=((open Classical in if B=[]\/∃f,CA c B f then 1 else 0:Nat):Int):=fun{A c} iA mA nB=>by
     have:=Iq (A:=A) (B:=[]) iA<|fun f g=>nomatch g;rw[YZ]at this;rw[this];cases A with
     |nil =>
      have p:(open Classical in if B=[]\/∃f,CA c B f then 1 else 0:Nat)=0:=Zt<|fun w=>w.elim nB<|fun⟨f,g⟩=>nomatch ((mA f).mpr g);rw[p];rfl
     |cons a A =>
      have p:(open Classical in if B=[]\/∃f,CA c B f then 1 else 0:Nat)=1:=Zs<|.inr ⟨a,(mA a).mp Ze⟩;rw[p];rfl
    have a4:∀(x y:Int) (H9:Hp),zz H5 H9->x=((open Classical in if B=[]\/∃f,CA fs B f then 1 else 0:Nat):Int)->y=((open Classical in if B=[]\/∃f,CA c B f then 1 else 0:Nat):Int)->∃o6 o7,[some<|V.ref c1,some<|.ref c2,some<|.ref b,o3,S,some<|.int<|(((M.take i).map<|Cz fs c).sum:Nat)+x+y,some<|.str<|Cu B,some<|.ref Y]=[some<|V.ref c1,some<|.ref c2,some<|.ref b,o3,S,some<|.int<|(((M.take i).map<|Cz fs c).sum+Cz fs c B:Nat),o6,o7]/\zz HF H9:=fun x y H9 s9 ex ey=>by
     refine⟨some<|.str<|Cu B,some<|.ref Y,?_,s5.trans s9⟩;have:((((M.take i).map<|Cz fs c).sum:Nat):Int)+x+y=((((M.take i).map<|Cz fs c).sum+Cz fs c B:Nat):Int):=by
      unfold Cz;rw[Zt ns,ex,ey];lia
     rw[this]
    have one:B=[]->(1:Int)=((open Classical in if B=[]\/∃f,CA fs B f then 1 else 0:Nat):Int)/\(1:Int)=((open Classical in if B=[]\/∃f,CA c B f then 1 else 0:Nat):Int):=fun w=>⟨by rw[Zs<|.inl w];rfl,by rw[Zs<|.inl w];rfl⟩;have a1:decide (V.str (Cu B)=V.str "")=true↔B=[]:=by
     rw[ZF];constructor
     ·intro w;exact CQ lB (fun l hl=>nomatch hl)<|(V.str.inj w).trans (show Cu []="" from Zs rfl).symm
     ·intro w;rw[w];rfl
    have s0:EK (.list [])=true:=by decide +kernel
    refine⟨_,rfl,_,rfl,rfl,_,rfl,Uw (fun w=>.inr ⟨true,rfl,_,_,rfl,rfl,?_⟩)<|fun w=>?_⟩
    ·refine zN ⟨_,rfl,_,rfl,rfl,_,rfl,Uw (fun w2=>.inr ⟨true,rfl,_,_,rfl,rfl,?_⟩)<|fun w2=>absurd w w2⟩;have o:=one<|a1.mp w;exact a4 1 1 H5 (zz.refl _) o.1 o.2
    ·have nB:B≠[]:=fun z=>w<|a1.mpr z;refine⟨_,rfl,Y,_,_,_,rfl,rfl,yu.of h5,rfl,Uq 0,fun e1 ap=>?_⟩;have u6:=zE (o:=.lst []) ap;have ax:=Dt.same u6 _ _ d1;have ay:=Dt.same u6 _ _ d2;have h6:=u6 _ _ h5;have a0:Dt K (upd H5 e1<|.lst []) (.list []) (.ref e1):=⟨e1,[],rfl,yu.of zC,rfl⟩;generalize upd H5 e1 (.lst [])=H6 at u6 ax ay h6 a0 ⊢;refine⟨_,_,ax,a0,a9,s0,.inr ⟨_,rfl,_,_,rfl,rfl,?_⟩⟩;refine zN ⟨_,rfl,_,rfl,rfl,_,rfl,Uw (fun w2=>absurd w2 w)<|fun w2=>?_⟩;refine⟨_,rfl,Y,_,_,_,rfl,rfl,yu.of h6,rfl,Uq 0,fun p as=>?_⟩;have u7:=zE (o:=.lst []) as;refine⟨_,.list [],Dt.same u7 _ _ ay,⟨p,[],rfl,yu.of zC,rfl⟩,bd,s0,.inr ⟨_,rfl,_,_,rfl,rfl,?_⟩⟩;exact a4 _ _ _ (u6.trans u7) (ex i1 m1 nB)<|ex i2 L nB
   ·have ys:∀f,CA fs B f↔CA c B f:=same.mp (E5 fun w=>z (by
     show(!Ey (.list<|(UK rs<|Cu B).map FT) (.list<|(UK X<|Cu B).map FT))=true;rw[Iq i1 i2,Zo w];rfl))
    have:Cz fs c B=0:=by unfold Cz;rw[Zs ys]
    rw[this];exact⟨_,_,rfl,s5⟩
  ·rintro J t ⟨o6,o7,rfl,p⟩;refine⟨b,ob,CJ M,p _ _ ab,fun o u z=>?_,?_⟩
   ·have z:H b=some (.frz o u):=z;rw[I]at z;cases z
   have ct:(CJ M).length=M.length:=by unfold CJ;rw[Q8]
   rw[ct,ZH];exact⟨_,rfl,k M _ (kk p) nd mt (fun B f h=>an B f (ZX _ h.1) h.2) (fun B f h=>an B f (ZL _ h.1) h.2)⟩
end A6
structure qj (S:Di)(x:Str)(fs:Dk):Prop where
 tree:Tree 5 S x
 node:∃rows,At S x<|.tree rows
 rd:∀f,f∈zf 5 S x↔f∈fs
inductive sJ (P:Eg)(w:Ek)(K:Cd)(C:Ef)(vs:Dj)(H:Hp)(Q:VK)(e3:XK):Prop
 |mk (a c:Ef) (fp:Dd) (S:Di) (x:Str) (p:Da) (Dm:Dl) (fs:Dk) (h0:vs=[.ref a,.str x,.str<|Cc p,.ref c]) (h1:yg P w K C H a fp S) (h2:xr S) (h3:H c=some (.dK Dm)) (h4:ye K H fs Dm) (h5:za 4 fs) (h6:UO p) (h7:qj S x fs) (h8:∀H',zz H H'->Q (oV<|Ce S<|Cg S (some x) p) H'):sJ P w K C vs H Q e3
inductive rF (P:Eg)(w:Ek)(K:Cd)(C:Ef)(vs:Dj)(H:Hp)(Q:VK)(e3:XK):Prop
 |mk (a:Ef) (fp:Dd) (S:Di) (d1 d2:Ej) (v1 v2:V) (h0:vs=[.ref a,v1,v2]) (h1:yg P w K C H a fp S) (h2:xr S) (h3:Dw K H d1 v1) (h4:Dw K H d2 v2) (h5:(Uu S d1 "tree"=false\/Uu S d2 "tree"=false)) (h6:∀H',zz H H'->Q (.bl true) H'):rF P w K C vs H Q e3
theorem W6 {Dm:Dl}{k:Key}(h:k∉Dm.map (·.1)):Us Dm k=none:=by
 cases q:Us Dm k with
 |none=>rfl
 |some v=>exact absurd (uZ q) h
theorem nG (h:ye K H fs Dm)(g:za n fs){p:Da}(c:UO p) :
  (Cq fs p=none/\Us Dm (.inr<|Cc p)=none)\/∃L v,Cq fs p=some L/\(p,L)∈fs/\Us Dm (.inr<|Cc p)=some v/\Dt K H (AnJ.yo L) v/\UE L:=by
 cases q:Cq fs p with
 |some L =>
  have m:=(qU g).mp q;obtain⟨v,i,j,l⟩:=h.at g m;exact .inr ⟨L,v,rfl,m,i,j,l⟩
 |none =>
  refine .inl ⟨rfl,W6 fun z=>?_⟩;rw[h.keys]at z;obtain⟨f,b,e⟩:=Zc.mp z;have e:=qF (d:=0) (g.wV f b).1 c.1 (g.wV f b).2.2.1 c.2.2<|Sum.inr.inj e;exact vz.mp q f.2 (by rwa[←e])
theorem vJ (h:ye K H fs Dm)(g:za n fs){p:Da}(b:UO p):Dt K H (CK<|Cq fs p) ((Us Dm<|.inr<|Cc p).getD .non)/\AnS.mq (Cq fs p):=by
 rcases nG h g b with⟨e1,e2⟩|⟨L,v,e1,_,e2,dv,ln⟩
 ·rw[e1,e2];exact⟨rfl,fun c z=>nomatch z⟩
 ·rw[e1,e2];exact⟨dv,fun c z=>by cases z;exact P7 ln⟩
theorem Fs (o:Option Da):CK o=AnS.oD o:=by cases o<;>rfl
namespace A7
abbrev st:Stmt:=top 70
theorem sc:zx ["_law_store","_law_root","_law_path","_law_files_here"] ["_law_store","_law_root","_law_path","_law_files_here"] (zG st):=Cp
theorem ok (F:wY K "_law_name" "_law_name" st f fd)(T:Txt P w K mg t1 t2 t3 t4 t5 t6 t7 aL aC aN aT aA b1 b2)(l:tW P w K mg base 7 "found_at" ["store","root","path"]<|rD P w K aC aN):yx P w K mg base Cn 8 f fd ["_law_store","_law_root","_law_path","_law_files_here"] (sJ P w K aC):=by
 refine F.ok sc fun _ _ _ _ H I Q E i h=>?_;obtain⟨a,c,r,S,x,p,D,fs,rfl,sh,ok,t,q,s,b,d,k⟩:=h;refine⟨_,(zD (yI (zX (SM i.units) (pv 2) (pv 3)<|by with_unfolding_all rfl) (zF<|zM q9) zT)<|zF<|zM<|yK l i.m zZ<|zA (pv 0)<|zA (pv 1)<|zA (pv 2) zB),?_⟩
 obtain⟨rows,e⟩:=d.node;refine⟨_,rfl,_,rfl,c,_,rfl,.inl ⟨_,.inr<|Cc p,.inl t,rfl,rfl⟩,_,rfl,?_⟩
 rcases nG q s b with⟨e1,e2⟩|⟨L,v,e1,m,e2,dv,ln⟩
 ·rw[e2];rw[jP ok d.tree p<|fun L z=>vz.mp e1 L<|(d.rd _).mp z]at k;exact Uo<|k H<|zz.refl _
 ·rw[e2];obtain⟨n,A,g,G⟩:=jS ok d.tree<|(d.rd _).mpr m;have o:Ut (Cc p)=p:=qA b.1 fun y u=>y8<|b.2.2 y u;have B:GR (Cc p)=true:=Bl b.1 b.2.1 b.2.2;rw[A]at k;refine Ur ⟨_,rfl,_,rfl,_,rfl,a,r,S,x,Cc p,rfl,sh,ok,B,Z0 (vE b.2.1 b.2.2)<|by decide,.inl ⟨5,rows,e,d.tree,fun j C=>?_⟩⟩;rw[o];have g:atT S x p=some n:=g;rw[g];exact k j C
end A7
namespace A8
abbrev st:Stmt:=top 72
theorem sc:zx ["_law_store","_law_one","_law_other","error"] ["_law_store","_law_one","_law_other"] (zG st):=Cp
theorem ok (F:wY K "_law_refused" "_law_refused" st f fd)(T:Txt P w K mg t1 t2 t3 t4 t5 t6 t7 aL aC aN aT aA b1 b2)(q:tW P w K mg base 18 "changes_of" ["store","one","other"]<|wj P w K aC aN):yx P w K mg base Cn 19 f fd ["_law_store","_law_one","_law_other"] (rF P w K aC):=by
 refine F.ok sc fun _ _ _ _ H B Q E y h=>?_;obtain⟨a,t,S,r,s,n,p,rfl,sh,ok,e,g,d,k⟩:=h;refine⟨_,(zD (S4 rfl rfl rfl (fun _ _=>(zF<|yD<|yK q y.m (Kk rfl)<|zA (pv 0)<|zA (pv 1)<|zA (pv 2) zB)) rfl T.pZ sc.nd (i:=3) rfl rfl (fun z=>(zF<|zM<|zK (CU (K:=K) (C:=aN)) (by rfl) T.isinstance ZA<|zA (pv 3)<|zA (jE (v:=.ref aN) rfl T.rH rfl) zB))) (zF<|zM qL)),?_⟩
 refine⟨fun b c cls=>c=H/\b=[some<|.ref a,some n,some p,none]/\cls=.ref aN,?_,?_⟩
 ·refine⟨_,rfl,_,rfl,_,rfl,a,t,S,r,s,n,p,rfl,sh,ok,e,g,fun _=>⟨rfl,rfl,rfl⟩,fun j l=>?_⟩
  rcases d with z|z
  ·rw[z]at j;cases j
  ·rw[z]at l;cases l
 ·rintro b c cls z ⟨rfl,rfl,rfl⟩ A;have u:=zE (o:=X0 z<|.ref aN) A;have x:=zC (H:=c) (a:=z) (o:=X0 z<|.ref aN);exact⟨T.lg,_,rfl,z,aN,true,rfl,x,T.ekN,T.kN4,k _ u⟩
end A8
theorem NW {Pp:Da->Prop}:∀{ss:Da},(∀s∈ss,∃p,s=Cc p/\Pp p)->∃U:List Da,ss=U.map Cc/\∀p∈U,Pp p
 |[],_=>⟨[],rfl,fun p b=>(nomatch b)⟩
 |s::ss,h=>by
  obtain⟨p,e,b⟩:=h s Ze;obtain⟨U,c,d⟩:=NW (ss:=ss) fun s g=>h s<|Zb _ g;refine⟨p::U,by rw[e,c];rfl,fun q f=>?_⟩
  rcases Zi.mp f with z|z
  ·rwa[z]
  ·exact d q z
theorem vT (ok:xr S)(b:qj S x fs)(d:za n fs)(p:Da):HH S (Ce S<|Cg S (some x) p)=Cq fs p/\Sa S (Ce S<|Cg S (some x) p):=by
 cases q:Cq fs p with
 |none =>
  rw[jP ok b.tree p<|fun L z=>vz.mp q L<|(b.rd _).mp z];exact⟨rfl,fun n e=>(nomatch e)⟩
 |some L =>
  obtain⟨n,f,_,c⟩:=jS ok b.tree<|(b.rd _).mpr<|(qU d).mp q;rw[f];exact⟨P6 ok c,fun m e=>by cases e;exact⟨L,c⟩⟩
def UX (fs b:Dk)(p:Da):PyData:=.tuple [.str<|Cc p,CK<|Cq fs p,CK<|Cq b p]
theorem F9 (ok:xr S)(d:qj S x fs)(e:qj S y gs)(b:za n fs)(c:za m gs)(W:List Da):(Cv S x y W).map (ci S)=W.map (UX fs gs):=by
 unfold Cv;rw[ZC];refine ZQ fun p _=>?_;show PyData.tuple [.str<|Cc p,CK<|HH S<|Ce S<|Cg S (some x) p,CK<|HH S<|Ce S<|Cg S (some y) p]=_;rw[(vT ok d b p).1,(vT ok e c p).1];rfl
theorem Sh (ok:xr S)(f:Tree 5 S x)(ty:Tree 5 S y)(c:∃r,At S x<|.tree r)(d:∃r,At S y<|.tree r):sY S [] (some x) (some y) (CG S x y):=by
 unfold CG
 by_cases q:x=y
 ·subst q;rw[Zs rfl];exact⟨List.Pairwise.nil,fun r=>⟨fun z=>(nomatch z),fun⟨p,_,ne⟩=>absurd rfl ne⟩⟩
 ·rw[Zt q];obtain⟨r,a⟩:=c;obtain⟨s,b⟩:=d;refine Fc ok (fun z e=>by cases e;exact f) (fun z e=>by cases e;exact ty) fun _=>?_;rw[show Ce S (some x)=none from Zs (yP ok a).2,show Ce S (some y)=none from Zs (yP ok b).2]
theorem P4 (ok:xr S){o:Option Str}(h:Sa S o):(Cy o).canLay0=true/\(Cy o).depth<=1:=by
 cases o with
 |none=>decide +kernel
 |some n =>
  obtain⟨L,a⟩:=h n rfl;obtain⟨e,b,rfl⟩:=Zc.mp a.mem;exact⟨(ok.nm b).ok,ZN _⟩
theorem RT (ok:xr S):∀{R:List Oj},(∀r∈R,UO r.1/\Sa S r.2.1/\Sa S r.2.2)->EK (.list<|R.map CI)=true/\Ey (.list<|R.map CI) (.list<|R.map CI)=true:=fun{R} h=>by
 refine⟨AnJ.uv (n:=2) (by decide) fun r g=>?_,?_⟩
 ·obtain⟨d,e,f⟩:=h r g;obtain⟨b,l⟩:=P4 ok e;obtain⟨c,o⟩:=P4 ok f;constructor
  ·show(El (Cc r.1)&&((Cy r.2.1).canLay0&&((Cy r.2.2).canLay0&&true)))=true;rw[b,c,FD d.2.2];rfl
  ·show max 0 (max (Cy r.2.1).depth<|max (Cy r.2.2).depth 0)+1<=2;lia
 ·refine kO _ ?_;clear h
  induction R with
  |nil=>rfl
  |cons r R ih =>
   show(qD (CI r)&&yA (R.map CI))=true;rw[ih,Bool.and_true];obtain⟨p,i,j⟩:=r;cases i<;>cases j<;>rfl
theorem Ba:∀ls:Da,yA (ls.map .str)=true
 |[]=>rfl
 |l::ls=>Ba ls
theorem OT:∀{W:List Da},(∀p∈W,UO p/\AnS.mq (Cq fs p)/\AnS.mq (Cq gs p))->EK (.list<|W.map<|UX fs gs)=true/\Ey (.list<|W.map<|UX fs gs) (.list<|W.map<|UX fs gs)=true:=fun{W} h=>by
 refine⟨AnJ.uv (n:=2) (by decide) fun r j=>?_,?_⟩
 ·obtain⟨f,g,i⟩:=h r j;obtain⟨b,d⟩:=AnS.qu g;obtain⟨c,e⟩:=AnS.qu i;rw[←Fs]at b d c e;constructor
  ·show(El (Cc r)&&((CK<|Cq fs r).canLay0&&((CK<|Cq gs r).canLay0&&true)))=true;rw[b,c,FD f.2.2];rfl
  ·show max 0 (max (CK<|Cq fs r).depth<|max (CK<|Cq gs r).depth 0)+1<=2;lia
 ·refine kO _ ?_;clear h;have on:∀o:Option Da,qD (CK o)=true:=fun o=>by
   cases o with
   |none=>rfl
   |some L=>exact Ba L
  induction W with
  |nil=>rfl
  |cons p W ih =>
   show((true&&(qD (CK<|Cq fs p)&&(qD (CK<|Cq gs p)&&true)))&&yA (W.map<|UX fs gs))=true;rw[ih,on,on];rfl
theorem GN (K:Cd)(T:String):ER K (.type T) (.type T)=some true:=by
 unfold ER;rw[Zs<|by simp]
theorem Hc {K:Cd}{Q:VK}(c:Dt K H d x)(e:Dt K H d y)(b:EK d=true)(f:Ey d d=true)(q:Q (.bl true) H):aQ K x y H Q:=⟨d,d,c,e,b,b,by rw[f];exact q⟩
theorem Xm {K:Cd}{Q:VK}(c:Dt K H d x)(e:Dt K H d y)(b:EK d=true)(f:Ey d d=true)(q:Q (.bl false) H):WK K x y H Q:=⟨d,d,c,e,b,b,by rw[f];exact q⟩
inductive qp (P:Eg)(w:Ek)(K:Cd)(C:Ef)(vs:Dj)(H:Hp)(Q:VK)(e3:XK):Prop
 |mk (pf lf a lr c1 c2:Ef) (fp:Dd) (S:Di) (x y:Str) (fs gs:Dk) (k1 k2:Dl) (xs:Dj) (h0:vs=[.ref pf,.ref a,.ref lr,.ref c1,.ref c2]) (h1:H pf=some (.tup [.ref lf,.int<|rT S x y])) (h2:H lf=some (.lst xs)) (h3:zy K H ((CG S x y).map CI) xs) (h4:H lr=some (.lst [.str x,.str y])) (h5:yg P w K C H a fp S) (h6:xr S) (h7:H c1=some (.dK k1)) (h8:H c2=some (.dK k2)) (h9:ye K H fs k1) (h10:ye K H gs k2) (h11:za 4 fs) (h12:za 4 gs) (h13:fs.length<=13) (h14:gs.length<=13) (h15:qj S x fs) (h16:qj S y gs) (h17:∀H',zz H H'->Q (.bl true) H'):qp P w K C vs H Q e3
namespace A9
abbrev st:Stmt:=top 71
theorem sc:zx ["_law_found","_law_store","_law_roots","_law_one","_law_other","_law_paths_here","_law_due","_law_path","_law_names","_law_read","_law_lines_here"] ["_law_found","_law_store","_law_roots","_law_one","_law_other"] (zG st):=Cp
theorem ok (F:wY K "_law_good" "_law_good" st f fd)(T:Txt P w K mg t1 t2 t3 t4 t5 t6 t7 aL aC aN aT aA b1 b2)(Q2:wZ P w K mg base 1 "_law_whole" ["_law_found"] N8)(QB:wZ P w K mg base 8 "_law_name" ["_law_store","_law_root","_law_path","_law_files_here"]<|sJ P w K aC)(Q3:wZ P w K mg base 2 "_law_opened" ["_law_one","_law_other"]<|rY K)(QC:wZ P w K mg base 6 "read_rows" ["store","rows"]<|pJ P w K aC):yx P w K mg base Cn 9 f fd ["_law_found","_law_store","_law_roots","_law_one","_law_other"] (qp P w K aC):=by
 refine F.ok sc fun _ _ _ s H vs Q E c h=>?_;obtain⟨pf,lf,a,lr,c1,c2,fp,S,x,y,fs,b,k1,k2,xs,rfl,C,ap,hd,ca,sh,ok,h1,h2,ff,fg,I,J,c8,c9,rx,ry,k⟩:=h;refine⟨_,(zD (Co (i:=5) sc.nd<|zK (jT rfl) (by rfl) T.sorted Jg<|zA (z6 (GJ (K:=K) rfl) (by rfl) T.set Jw (zA (zV Fw (z6 (qZ rfl) (by rfl) T.list Yk<|zA (pv 3) zB)<|z6 (qZ rfl) (by rfl) T.list Yk<|zA (pv 4) zB) zB)) zB) (zD (vG (sc:=zG st) (N:=["_law_found","_law_store","_law_roots","_law_one","_law_other","_law_paths_here","_law_due","_law_path","_law_names","_law_read","_law_lines_here"]) (N':=["_law_path","_law_one","_law_other"]) (src:=[none,some 3,some 4]) .a rfl rfl rfl (xC<|pv 5) (fun _ _ _ _=>(zQ (i:=0) (show(["_law_path","_law_one","_law_other"]:Da).Nodup by decide +kernel) rfl (EE rfl))) (fun _ _ _ _=>(FB<|zX (SL (K:=K) c.units) (jG c.wJ (pv 1) (pv 0) ⟨rfl,rfl,rfl,rfl⟩) (jG c.wJ (pv 2) (pv 0) ⟨rfl,rfl,rfl,rfl⟩)<|zW _)) (fun _ _ _ _=>(pv 0)) sc.nd rfl (EE rfl) (k:=5)) (zD (yI (PW.pt<|uL (yW<|zS (K:=K)<|zK (xT (K:=K)) (by rfl) T.isinstance ZA<|zA (pv 0)<|zA (yS (v:=.ty "tuple") rfl T.tuple YG rfl) zB)<|jW<|zX HX (zK z7 (by rfl) T.len Z5<|zA (pv 0) zB) zI<|zW _) (zF<|zM qL) zT)<|zD (yI (PW.pt<|uL (yW<|zS (K:=K)<|zK (xT (K:=K)) (by rfl) T.isinstance ZA<|zA (zY (yw:Cl _<|xg K) (pv 0) zI)<|zA (yS (v:=.ty "list") rfl T.list Yk rfl) zB)<|jW<|yW<|zS (K:=K)<|zJ Q2 c.m<|zA (zY (yw:Cl _<|xg K) (pv 0) zI) zB) (zF<|zM qL) zT)<|zD (Co (i:=6) sc.nd<|xU zB)<|zD (xA EL rfl (xC<|pv 5) (zQ (i:=7) sc.nd rfl<|EE rfl)<|zD (Co (i:=8) sc.nd<|xU<|zA (zJ QB c.m<|zA (pv 1)<|zA (zY (yq:Cl _<|wO K) (pv 2) zI)<|zA (pv 7)<|zA (pv 3) zB)<|zA (zJ QB c.m<|zA (pv 1)<|zA (zY (yq:Cl _<|wO K) (pv 2) zI)<|zA (pv 7)<|zA (pv 4) zB) zB)<|zF<|yD<|qN Z2 Z3 Z4 yZ (pv 6)<|zA (yQ<|zA (pv 7)<|zA (zY (yq:Cl _<|wO K) (pv 8) zI)<|zA (zY (yq:Cl _<|wO K) (pv 8) zI) zB) zB)<|zD (yI (PW.pt<|uL (zX (qY c.units) (zY (yw:Cl _<|xg K) (pv 0) zI) (pv 6)<|zW _)<|jW<|zX HX (zY (yw:Cl _<|xg K) (pv 0) zI) (zJ Q3 c.m<|zA (pv 3)<|zA (pv 4) zB)<|zW _) (zF<|zM qL) zT)<|zD (Co (i:=9) sc.nd<|zJ QC c.m<|zA (pv 1)<|zA (zY (yw:Cl _<|xg K) (pv 0) zI) zB)<|zD (vG (sc:=zG st) (N:=["_law_found","_law_store","_law_roots","_law_one","_law_other","_law_paths_here","_law_due","_law_path","_law_names","_law_read","_law_lines_here"]) (N':=["_law_path","_law_one","_law_other"]) (src:=[none,some 3,some 4]) .a rfl rfl rfl (xC<|pv 5) (fun _ _ _ _=>(zQ (i:=0) (show(["_law_path","_law_one","_law_other"]:Da).Nodup by decide +kernel) rfl (EE rfl))) (fun _ _ _ _=>x9) (fun _ _ _ _=>(yQ<|zA (pv 0)<|zA (jG c.wJ (pv 1) (pv 0) ⟨rfl,rfl,rfl,rfl⟩)<|zA (jG c.wJ (pv 2) (pv 0) ⟨rfl,rfl,rfl,rfl⟩) zB)) sc.nd rfl (EE rfl) (k:=10)) (zD (yI (PW.pt<|uL (yW<|zS (K:=K)<|zK (xT (K:=K)) (by rfl) T.isinstance ZA<|zA (pv 9)<|zA (yS (v:=.ty "list") rfl T.list Yk rfl) zB)<|uL (zX (qY c.units) (pv 9) (pv 10)<|zW _)<|jW<|zX (qY c.units) (zY (yw:Cl _<|xg K) (pv 0) zI) (pv 6)<|zW _) (zF<|zM qL) zT)<|zD (yD<|qN Z2 Z3 Z4 yZ (pv 9)<|zA zq zB)<|zF<|zM<|xB (yL (MU c.units) (zY (yw:Cl _<|xg K) (pv 0) zI) (pv 6)<|zW _)<|xK<|yL (MU c.units) (zJ QC c.m<|zA (pv 1)<|zA (zY (yw:Cl _<|xg K) (pv 0) zI) zB) (pv 10)<|zW _)))),?_⟩
 refine⟨_,rfl,c1,_,rfl,.inl h1,fun l1 n1=>?_⟩;refine nw n1 fun HB uB hB=>?_;refine⟨_,rfl,c2,_,rfl,.inl<|uB _ _ h2,fun l2 n2=>?_⟩;refine nw n2 fun HC uC hC=>?_;refine⟨l1,l2,_,_,rfl,rfl,uC _ _ hB,hC,zm (by rw[Q8,Q8,ff.len,fg.len];lia),fun lp cp=>?_⟩;have eL:(k1.map fun kv=>kV kv.1)++(k2.map fun kv=>kV kv.1)=((fs++b).map fun f=>Cc f.1).map V.str:=by
  rw[ff.kV,fg.kV,←Zl,←Zl]
 rw[eL];refine nw cp fun HD uD hD=>?_;have ul:=AxS.tE _ ((fs++b).map fun f=>Cc f.1) rfl;rw[Q8,Zh]at ul;refine⟨lp,_,rfl,.inl<|yu.of hD,by rw[Q8,Zh];lia,fun ps cu=>⟨ps,_,rfl,zC,by lia,fun ls ss cr pm so=>?_⟩⟩;have uE:=zE (o:=UF P w ps<|AxS.uniq<|(fs++b).map fun f=>Cc f.1) cu;have uF:=zE (o:=.lst<|ss.map V.str) cr;have sF:=((((uB.trans uC).trans uD).trans uE).trans uF);generalize e4:upd _ ls (.lst<|ss.map V.str)=HF at sF ⊢;have hF:HF ls=some (.lst<|ss.map V.str):=by rw[←e4];exact zC
 clear e4;clear uB uC uD uE uF hB hC hD n1 n2 cp cu cr;have ch:∀f∈fs++b,UO f.1:=fun f hf=>(ZD.mp hf).elim (fun z=>⟨(I.wV f z).1,(I.wV f z).2.1,(I.wV f z).2.2.1⟩) (fun z=>⟨(J.wV f z).1,(J.wV f z).2.1,(J.wV f z).2.2.1⟩);have sm:∀s,s∈ss↔∃f∈fs++b,s=Cc f.1:=fun s=>by
  rw[pm.mem_iff];constructor
  ·intro z;obtain⟨f,hf,e⟩:=Zc.mp<|KI z;exact⟨f,hf,e.symm⟩
  ·rintro⟨f,hf,e⟩;exact Og _ []<|.inr<|Zc.mpr ⟨f,hf,e.symm⟩
 have sn:ss.Nodup:=pm.nodup_iff.mpr<|Iv _;obtain⟨U,eU,hU⟩:=NW (Pp:=fun p=>UO p/\∃f∈fs++b,f.1=p) fun s hs=>by
  obtain⟨f,hf,e⟩:=(sm s).mp hs;exact⟨f.1,e,ch f hf,f,hf,rfl⟩
 have a7:U.Pairwise fun p q=>Cs (Cc p) (Cc q):=by
  have:=Bv so sn;rw[eU,Yc]at this;exact this
 have c5:U.length<=26:=by
  have:=pm.length_eq;rw[eU,Q8]at this;lia
 have a2:∀f∈fs++b,f.1∈U:=fun f hf=>by
  have:=(sm<|Cc f.1).mpr ⟨f,hf,rfl⟩;rw[eU]at this;obtain⟨p,l,e⟩:=Zc.mp this;have l1:=ch f hf;have l2:=(hU p l).1;rwa[←qF (d:=0) l2.1 l1.1 l2.2.2 l1.2.2 e]
 have c7:ss.map V.str=U.map fun p=>V.str (Cc p):=by rw[eU,ZC];rfl
 rw[c7]at hF;refine zN ⟨_,rfl,ls,rfl,⟨_,yu.of hF⟩,uN (K:=K) (a:=ls) (xs:=U.map fun p=>V.str<|Cc p) (fun i B R H2=>∃o1,R=[o1,some<|.ref c1,some<|.ref c2]/\zz HF H2/\B.length<=i/\B=((U.take i).filter fun p=>decide (Cq fs p≠Cq b p)).map fun p=>V.str<|Cc p) ⟨none,rfl,zz.refl _,Zf _,rfl⟩ (zm (by rw[Q8];lia)) ?_ ?_ ?_⟩
 ·rintro i B R H2 hi ⟨o1,rfl,s2,yl,_⟩;exact⟨s2.seq<|yu.of hF,yl⟩
 ·rintro i v B R H2 hv ⟨o1,rfl,s2,yl,ey⟩;rw[Zk]at hv;obtain⟨p,l,rfl⟩:=ZE.mp hv;have lb:=(hU p<|Zn l).1;have Z:=sF.trans s2;obtain⟨d1,di⟩:=vJ (ff.same Z) I lb;obtain⟨d2,dj⟩:=vJ (fg.same Z) J lb;have c0:=AnS.rK di;have c3:=AnS.rK dj;rw[←Fs]at c0 c3;rw[yc l,Vp,Zl];have ev:Ey (CK<|Cq fs p) (CK<|Cq b p)=decide (Cq fs p=Cq b p):=by rw[Fs,Fs];exact AnS.mG _ _
  refine zN ⟨_,rfl,c1,rfl,.inl ⟨_,.inl<|Z _ _ h1⟩,_,rfl,_,.inl ⟨_,.inr<|Cc p,.inl<|Z _ _ h1,rfl,rfl⟩,_,rfl,c2,rfl,.inl ⟨_,.inl<|Z _ _ h2⟩,_,rfl,_,.inl ⟨_,.inr<|Cc p,.inl<|Z _ _ h2,rfl,rfl⟩,_,_,d1,d2,c0,c3,_,rfl,Uw (fun z=>?_)<|fun z=>?_⟩
  ·have ne:Cq fs p≠Cq b p:=fun w=>by
    have z:(!Ey (CK<|Cq fs p) (CK<|Cq b p))=true:=z;rw[ev,Zg w]at z;cases z
   rw[JM,Zs<|Zg ne,Vk];exact⟨_,rfl,_,rfl,s2,by rw[Zh];show B.length+1<=i+1;lia,by rw[ey];rfl⟩
  ·have e:Cq fs p=Cq b p:=E5 fun w=>z (by
    show(!Ey (CK<|Cq fs p) (CK<|Cq b p))=true;rw[ev,Zo w];rfl)
   rw[JM,Zt<|fun w=>(show Cq fs p≠Cq b p from Zv w) e,Vk,YZ,ZG];exact⟨_,rfl,s2,by lia,ey⟩
 rintro B R H2 ⟨o1,rfl,s2,yl,ey⟩ lw ct;rw[Q8,ZH]at ey;subst ey;generalize eW:(U.filter fun p=>decide (Cq fs p≠Cq b p))=W;have a8:W.Pairwise fun p q=>Cs (Cc p) (Cc q):=by rw[←eW];exact a7.sublist List.filter_sublist
 have D:∀p∈W,UO p:=fun p l=>by rw[←eW]at l;exact(hU p (YA.mp l).1).1
 have wl:W.length<=26:=by rw[←eW];exact Z0 (List.length_filter_le _ _) c5
 have cl:∀p,p∈W↔Cq fs p≠Cq b p:=fun p=>by
  rw[←eW,YA,ZF];refine⟨fun h=>h.2,fun ne=>⟨?_,ne⟩⟩;cases q1:Cq fs p with
  |some L=>exact a2 (p,L)<|ZX _<|(qU I).mp q1
  |none =>
   cases q2:Cq b p with
   |some L=>exact a2 (p,L)<|ZL _<|(qU J).mp q2
   |none=>exact absurd (q1.trans q2.symm) ne
 clear eW;have eR:CG S x y=Cv S x y W:=Wg ok rx.tree ry.tree I J rx.rd ry.rd (Sh ok rx.tree ry.tree rx.node ry.node) a8 cl;rw[eR]at hd;have an:∀r∈Cv S x y W,UO r.1/\Sa S r.2.1/\Sa S r.2.2:=fun r c=>by
  obtain⟨p,l,rfl⟩:=Zc.mp c;exact⟨D p l,(vT ok rx I p).2,(vT ok ry J p).2⟩
 obtain⟨bd,a3⟩:=RT ok an;have de:∀p∈W,UO p/\AnS.mq (Cq fs p)/\AnS.mq (Cq b p):=fun p l=>⟨D p l,(vJ ff I<|D p l).2,(vJ fg J<|D p l).2⟩;obtain⟨c4,b3⟩:=OT de;have dl:(Cv S x y W).length<=1000:=by unfold Cv;rw[Q8];lia
 refine nw ct fun HG uG hG=>?_;have sG:=(sF.trans s2).trans uG;clear uG s2 sF hF ct;have O:=sG _ _ C;have b4:=sG _ _ ap;refine⟨_,rfl,_,_,_,true,rfl,.tup O,GN _ _,true,rfl,UQ ?_⟩;refine⟨_,rfl,pf,_,rfl,.inr<|xu.of O,rfl,false,rfl,Ur ?_⟩;refine⟨_,rfl,pf,_,_,_,rfl,rfl,xu.of O,rfl,_,_,_,true,rfl,.lst b4,GN _ _,true,rfl,UQ ?_⟩;refine⟨_,rfl,pf,_,_,_,rfl,rfl,xu.of O,rfl,_,rfl,true,rfl,UQ ?_⟩;refine⟨Uq 0,fun ld a5=>?_⟩;refine nw a5 fun HI uI hI=>?_;have fI:=sG.free a5;have sI:=sG.trans uI;have cd:=uI _ _ hG;have db:lw≠ld:=fun q=>by rw[q,a5]at hG;cases hG
 refine zN ⟨_,rfl,lw,rfl,⟨_,yu.of cd⟩,jC (K:=K) (a:=lw) (xs:=W.map fun p=>V.str<|Cc p) (fun i R H3=>∃o7 o8 zs,R=[some<|.ref pf,some<|.ref a,some<|.ref lr,some<|.ref c1,some<|.ref c2,some<|.ref lw,some<|.ref ld,o7,o8,none,none]/\zz H H3/\H3 lw=some (.lst<|W.map fun p=>V.str<|Cc p)/\H3 ld=some (.lst zs)/\zy K H3 ((Cv S x y<|W.take i).map CI) zs) ⟨none,none,[],rfl,sI,cd,hI,rfl⟩ (fun i R H3 _ ⟨_,_,_,_,_,e,_⟩=>yu.of e) ?_ ?_⟩
 ·rintro i v R H3 hv ⟨o7,o8,zs,rfl,G,as,Y,X⟩;rw[Zk]at hv;obtain⟨p,l,rfl⟩:=ZE.mp hv;have lb:=D p<|Zn l;have il:=(Zw.mp l).1;refine zN ⟨_,rfl,_,rfl,lr,_,_,_,rfl,rfl,yu.of<|G _ _ ca,rfl,_,rfl,_,rfl,a,c1,fp,S,x,p,k1,fs,rfl,sh.same G,ok,G _ _ h1,ff.same G,I,lb,rx,fun H4 s4=>?_⟩;have j:=G.trans s4;refine⟨_,rfl,_,rfl,lr,_,_,_,rfl,rfl,yu.of<|j _ _ ca,rfl,_,rfl,_,rfl,a,c2,fp,S,y,p,k2,b,rfl,sh.same j,ok,j _ _ h2,fg.same j,J,lb,ry,fun H5 s5=>⟨Uq 2,fun ln df=>?_⟩⟩;refine nw df fun H6 u6 h6=>?_;have cx:=(s4.trans s5).trans u6;refine zN ⟨_,rfl,.inl ⟨rfl,_,yu.of<|cx _ _ Y⟩,_,rfl,_,rfl,ln,_,_,_,rfl,rfl,yu.of h6,rfl,_,rfl,ln,_,_,_,rfl,rfl,yu.of h6,rfl,Uq 3,fun pt a6=>?_⟩;refine nw a6 fun H7 u7 h7=>?_;have a0:=cx.trans u7;have a4:=a0 _ _ Y;have zl:=X.length;have dn:zs.length<=26:=by
   rw[zl,Q8];unfold Cv;rw[Q8,ZB];lia
  have t:Off [ld] H7 (upd H7 ld<|.lst<|zs++[V.ref pt]):=yF;refine⟨ld,_,_,rfl,rfl,a4,yN<|by lia,_,_,zs++[V.ref pt],rfl,An.zz.rZ (G.trans a0) fI,t _ _ (fun z=>db<|Q9.mp z) (a0 _ _ as),zC,?_⟩;have eD:(Cv S x y<|W.take<|i+1).map CI=(Cv S x y<|W.take i).map CI++[CI (p,Ce S<|Cg S (some x) p,Ce S<|Cg S (some y) p)]:=by
   unfold Cv;rw[yc l,Zl,Zl];rfl
  rw[eD];have dh:pt≠ld:=fun q=>by rw[q,a4]at h7;cases h7
  exact zy.append (GP (xW a4) t<|zy.same a0 _ _ X) ⟨_,_,rfl,⟨pt,_,rfl,xu.of<|t _ _ (fun z=>dh<|Q9.mp z) h7,_,_,rfl,rfl,_,_,rfl,vS _,_,_,rfl,vS _,rfl⟩,rfl⟩
 rintro R H3 ⟨o7,o8,zs,rfl,G,as,Y,X⟩;rw[Q8,ZH]at X;have dF:∀{H':Hp},zz H H'->Dt K H' (.list<|(Cv S x y W).map CI) (.ref lf):=fun s=>⟨lf,xs,rfl,yu.of<|s _ _ ap,zy.same s _ _ hd⟩;have dZ:∀{H':Hp},zz H3 H'->Dt K H' (.list<|(Cv S x y W).map CI) (.ref ld):=fun s=>⟨ld,zs,rfl,yu.of<|s _ _ Y,zy.same s _ _ X⟩;refine⟨_,rfl,pf,_,_,_,rfl,rfl,xu.of<|G _ _ C,rfl,_,rfl,Xm (dF G) (dZ<|zz.refl _) bd a3 ⟨_,rfl,Ur ?_⟩⟩;refine⟨_,rfl,pf,_,_,_,rfl,rfl,xu.of<|G _ _ C,rfl,_,rfl,_,rfl,c1,c2,k1,k2,fs,b,rfl,G _ _ h1,G _ _ h2,ff.same G,fg.same G,I,J,c8,c9,fun M H4 s4 nM mM cf cg=>?_⟩;obtain⟨r1,ax⟩:=rx.node;obtain⟨r2,ay⟩:=ry.node;have eC:(M.map<|Cz fs b).sum=rT S x y:=Si ok rx.tree ry.tree ax ay rx.rd ry.rd nM mM cf cg;refine⟨rfl,false,?_,Ur ?_⟩
 ·show V.bl (!decide (V.int (rT S x y:Nat)=V.int ((M.map<|Cz fs b).sum:Nat)))=_;rw[eC,Zg rfl];rfl
 have j:=G.trans s4;refine⟨_,rfl,_,rfl,pf,_,_,_,rfl,rfl,xu.of<|j _ _ C,rfl,a,lf,fp,S,Cv S x y W,xs,rfl,sh.same j,ok,j _ _ ap,zy.same j _ _ hd,dl,fun r c=>(an r c).2,fun q qs H5 s5 nq hq dq=>?_⟩;rw[F9 ok rx ry I J]at dq;have cv:=j.trans s5;refine zN ⟨_,rfl,lw,rfl,⟨_,yu.of<|(s4.trans s5) _ _ as⟩,qW (K:=K) (a:=lw) (xs:=W.map fun p=>V.str<|Cc p) (fun i B R H6=>∃o1,R=[o1,some<|.ref c1,some<|.ref c2]/\zz H5 H6/\zy K H6 ((W.take i).map<|UX fs b) B) ⟨none,rfl,zz.refl _,rfl⟩ (zm (by rw[Q8];lia)) ?_ ?_ ?_⟩
 ·rintro i B R H6 hi ⟨o1,rfl,s6,dd⟩;refine⟨s6.seq<|yu.of<|(s4.trans s5) _ _ as,?_⟩;rw[dd.length,Q8,ZB];lia
 ·rintro i v B R H6 hv ⟨o1,rfl,s6,dd⟩;rw[Zk]at hv;obtain⟨p,l,rfl⟩:=ZE.mp hv;have lb:=D p<|Zn l;have ab:=cv.trans s6;obtain⟨d1,_⟩:=vJ (ff.same ab) I lb;obtain⟨d2,_⟩:=vJ (fg.same ab) J lb;rw[yc l,Zl];refine zN ⟨_,rfl,_,rfl,c1,rfl,.inl ⟨_,.inl<|ab _ _ h1⟩,_,rfl,_,.inl ⟨_,.inr<|Cc p,.inl<|ab _ _ h1,rfl,rfl⟩,_,rfl,c2,rfl,.inl ⟨_,.inl<|ab _ _ h2⟩,_,rfl,_,.inl ⟨_,.inr<|Cc p,.inl<|ab _ _ h2,rfl,rfl⟩,Uq 3,fun pt a6=>?_⟩;have u:=zE (o:=.tup [V.str<|Cc p,(Us k1<|.inr<|Cc p).getD .non,(Us k2<|.inr<|Cc p).getD .non]) a6;exact⟨_,rfl,s6.trans u,zy.append (zy.same u _ _ dd) ⟨_,_,rfl,⟨pt,_,rfl,xu.of zC,_,_,rfl,rfl,_,_,rfl,Dt.same u _ _ d1,_,_,rfl,Dt.same u _ _ d2,rfl⟩,rfl⟩⟩
 rintro B R H6 ⟨o1,rfl,s6,dy⟩ ll co;rw[Q8,ZH]at dy;refine nw co fun H7 u7 h7=>?_;have d7:=zy.same u7 _ _ dy;have a1:=s6.trans u7;have a9:=cv.trans a1;have bm:=(s4.trans s5).trans a1;have al:=a1 _ _ hq;have bz:=zy.same a1 _ _ dq;have lq:ll≠q:=fun z=>by
  have:=s6 _ _ hq;rw[←z,co]at this;cases this
 refine⟨_,rfl,_,_,_,true,rfl,.lst al,GN _ _,true,rfl,UQ ?_⟩;refine⟨_,rfl,_,rfl,Xm (d:=.list<|W.map<|UX fs b) ⟨q,qs,rfl,yu.of al,bz⟩ ⟨ll,B,rfl,yu.of h7,d7⟩ c4 b3 ⟨_,rfl,Ur ?_⟩⟩;refine⟨_,rfl,pf,_,_,_,rfl,rfl,xu.of<|a9 _ _ C,rfl,_,rfl,Xm (dF a9) (dZ bm) bd a3 ⟨_,rfl,Ur ?_⟩⟩;have ql:=bz.length;rw[Q8]at ql;refine⟨_,rfl,.inl ⟨rfl,_,yu.of al⟩,q,_,_,rfl,rfl,al,yN<|by lia,?_⟩;have fq:H q=none:=j.free nq;have A:=An.zz.rZ (o:=.lst<|qs++[V.str "more"]) a9 fq;have t:Off [q] H7 (upd H7 q<|.lst<|qs++[V.str "more"]):=yF;generalize upd H7 q (.lst<|qs++[V.str "more"])=H8 at A t ⊢;have dc:ld≠q:=fun z=>by
  have:=s4 _ _ Y;rw[z,nq]at this;cases this
 have nt:=xW al;have c6:Dt K H8 (.list<|(Cv S x y W).map CI) (.ref ld):=⟨ld,zs,rfl,yu.of<|t _ _ (fun z=>dc<|Q9.mp z) (bm _ _ Y),GP nt t<|zy.same bm _ _ X⟩;have h8:=t _ _ (fun z=>lq<|Q9.mp z) h7;have tx:∀{W:List Da} {B:Dj},zy K H7 (W.map<|UX fs b) B->(∀p∈W,UO p)->zy K H8 (W.map<|UX fs b) B:=by
  intro W
  induction W with
  |nil=>exact fun h _=>h
  |cons p W ih =>
   rintro B ⟨v,zs,e,hv,c⟩ lb;refine⟨v,zs,e,?_,ih c fun p l=>lb p<|Zb _ l⟩;obtain⟨pt,ws,rfl,h1,x1,r1,e1,d1,x2,r2,e2,d2,x3,r3,e3,d3,e4⟩:=hv;have off:∀{fs:Dk} {n:Nat} {kv:Dl} {v:V},za n fs->Dt K H7 (CK<|Cq fs p) v->Dt K H8 (CK<|Cq fs p) v:=fun{fs n kv v} g d=>by
    cases q:Cq fs p with
    |none=>rw[q]at d;exact d
    |some L =>
     rw[q]at d;exact Dt.off nt t _ _ (uV (g.wV _<|(qU g).mp q).2.2.2) d
   exact⟨pt,ws,rfl,Oa nt t h1,x1,r1,e1,d1,x2,r2,e2,off (kv:=[]) I d2,x3,r3,e3,off (kv:=[]) J d3,e4⟩
 have d8:=tx d7 D;refine⟨_,rfl,pf,_,_,_,rfl,rfl,xu.of<|A _ _ C,rfl,_,rfl,Hc (dF A) c6 bd a3 ⟨_,rfl,Uo ?_⟩⟩;refine⟨_,rfl,_,rfl,pf,_,_,_,rfl,rfl,xu.of<|A _ _ C,rfl,a,lf,fp,S,Cv S x y W,xs,rfl,sh.same A,ok,A _ _ ap,zy.same A _ _ hd,dl,fun r c=>(an r c).2,fun q2 dk H9 s9 dm da bo=>?_⟩;rw[F9 ok rx ry I J]at bo;exact⟨_,rfl,Hc (d:=.list<|W.map<|UX fs b) ⟨q2,dk,rfl,yu.of da,bo⟩ ⟨ll,B,rfl,yu.of<|s9 _ _ h8,zy.same s9 _ _ d8⟩ c4 b3<|k _<|A.trans s9⟩
end A9
end
structure W2 (P:Eg)(w:Ek)(K:Cd)(C:Ef)(H0 H:Hp)(a:Ef)(fp:Dd)(b:Ef)(fq:Dd)(S S2:Di):Prop where
 same:zz H0 H
 sh:yg P w K C H a fp S
 tw:yg P w K C H b fq S2
 fr:∀c∈fp,H0 c=none
 gr:∀c∈fq,H0 c=none
 dj:∀c∈fp,c∉fq
section
variable {P:Eg}{w:Ek}{K:Cd}{C:Ef}{H0 H H':Hp}{a:Ef}{fp:Dd}{b:Ef}{fq:Dd}{S S2 S':Di}
theorem SI (n:rM H fp):∀b∈fp,∀xs,¬Rd H b (.tup xs):=fun b hb xs=>by
 obtain⟨o,e,c,_,d⟩:=n b hb;exact Gw e c d xs
theorem GG {fp:Dd}(s:zz H0 H)(fr:∀c∈fp,H0 c=none)(o:Off fp H H'):zz H0 H':=fun c x e=>o c x (fun z=>by rw[fr c z]at e;cases e)<|s c x e
theorem Xq {x b:Ef}{g h:HO}{fp:Dd}(nx:H x=none)(f:H b=none)(ne:b≠x)(d:∀c∈fp,c=x\/c=b\/(L2.upd (L2.upd H b g) x h) c=none)(o:Off [x] (L2.upd (L2.upd H b g) x h) H'):zz H H'/\∀c∈fp,H c=none:=by
 have i:zz H (L2.upd (L2.upd H b g) x h):=(zE f).trans (zE<|by rwa[zH<|EB ne]);refine⟨fun c u e=>o c u (fun z=>?_)<|i c u e,fun c j=>?_⟩
 ·rw[Q9.mp z,nx]at e;cases e
 ·rcases d c j with z|z|z
  ·rwa[z]
  ·rwa[z]
  ·exact i.free z
theorem W2.ins (W:W2 P w K C H0 H a fp b fq S S2)(s:zz H H'):W2 P w K C H0 H' a fp b fq S S2:=⟨W.same.trans s,W.sh.same s,W.tw.same s,W.fr,W.gr,W.dj⟩
theorem W2.lG (W:W2 P w K C H0 H a fp b fq S S2)(o:Off fq H H')(u:yg P w K C H' b fq S'):W2 P w K C H0 H' a fp b fq S S' :=
 ⟨GG W.same W.gr o,W.sh.off (SI W.tw.wR) o<|fun c d=>W.dj c d,u,W.fr,W.gr,W.dj⟩
end
theorem TH {α:Type} [DecidableEq α]:∀{a b:List α},a.Nodup->(∀x∈a,x∈b)->a.length<=b.length
 |[],_,_,_=>ZN _
 |x::a,b,nd,h=>by
  have nd:=ZS.mp nd;have c:=h x Ze;have:=TH (a:=a) (b:=b.erase x) nd.2 fun y d=>(List.mem_erase_of_ne (fun z:y=x=>nd.1<|z▸d)).mpr (h y<|Zb _ d);rw[List.length_erase_of_mem c]at this;have:=List.length_pos_of_mem c;rw[Zr];lia
theorem NF {α c:Type}{f:α->List c}:∀{l:List α},(∀x∈l,f x≠[])->l.length<=(l.flatMap f).length
 |[],_=>ZN _
 |x::l,h=>by
  rw[YF,Zh,Zr];have:=NF (f:=f) (l:=l) fun y b=>h y<|Zb _ b;have:=Y6.mpr<|h x Ze;lia
theorem NE {α b:Type}{f:α->List b}:∀{l:List α} {x:α},x∈l->(f x).length<=(l.flatMap f).length
 |[],_,h=>(nomatch h)
 |y::l,x,h=>by
  rw[YF,Zh]
  rcases Zi.mp h with z|z
  ·rw[z];lia
  ·have:=NE (f:=f) z;lia
theorem IR (g:xr S){y:Str}{rows:Dg}(a:At S y<|.tree rows):∀{d:Nat} {x:Str},Tree d S x->y∈met d S x->rows.length<=(zf d S x).length
 | 0,_,t,_=>absurd t id
 |d+1,x,t,h=>by
  rcases t with⟨ls,b⟩|⟨rs,b,so,hr⟩
  ·rw[vX g b]at h;rw[Q9.mp h]at a;have:=At.thing g a b;cases this
  ·rw[kK g b]at h;rw[yJ g b]
   rcases Zi.mp h with z|z
   ·rw[z]at a;have:=At.thing g a b;cases this;exact NF fun r c z=>(hr r c).2.2<|V4.mp z
   ·obtain⟨r,c,hm⟩:=Yd.mp z;have i:=IR g a (hr r c).2.1 hm;have e:=NE (f:=fun r:Str×Str=>(zf d S r.2).map fun f=>(r.1::f.1,f.2)) c;rw[Q8]at e;lia
theorem SH (g:xr S)(n:S.length<=900):("T0.900":Str)∉S.map En.nm:=fun z=>by
 obtain⟨e,i,j⟩:=Zc.mp z;have d:=(g.good.ent e i).free;have h:cs e.h++[46]++cs (Ux e.n)=[84,48,46,57,48,48]:=by
  have:=congrArg cs j;unfold En.nm at this;rw[zr,zr]at this;rw[show cs ("T0.900":Str)=[84,48,46,57,48,48] by decide +kernel]at this;exact this
 have key:cs (Ux e.n)=[57,48,48]:=by
  match q:cs e.h,h,d with
  |[],h,_=>cases h
  |[a],h,_=>cases h
  |[a,b],h,_ =>
   injection h with l h;injection h with o h;injection h with f h
  |a::b::c::r,h,d =>
   exfalso;injection h with l h;injection h with o h;injection h with f h;rw[f]at d;exact d<|Zb _<|Zb _ Ze
 have p:e.n=900:=by
  refine HU<|xq ?_;rw[key]
  decide +kernel
 have:=g.num e i;lia
theorem NI (g:xr S){x:Str}{t:Th}(a:At S x t)(h:∀rows,t≠.tree rows):Uu S (.str x) "tree"=false:=by
 rcases k9 g x with⟨_,rows,b⟩|⟨e,_⟩
 ·exact absurd (At.thing g a b) (h rows)
 ·exact e
theorem IJ (g:xr S){x:Str}{rows:Dg}(a:At S x<|.tree rows):Uu S (.str x) "tree"=true:=by
 rcases k9 g x with⟨e,_⟩|⟨_,h⟩
 ·exact e
 ·exact absurd a (h rows)
theorem Bx {S:Di}{x:Str}(h:x∉S.map En.nm):Uu S (.str x) "tree"=false:=IE h _
theorem qj.more {S T:Di}(g:xr<|S++T)(b:xr S)(h:qj S x fs):qj (S++T) x fs:=by
 obtain⟨t,r⟩:=h.tree.more g b;obtain⟨rows,a⟩:=h.node;exact⟨t,⟨rows,a.more⟩,fun f=>by rw[r];exact h.rd f⟩
theorem NA (ok:xr S)(c:qj S x fs)(d:qj S y gs)(f:za 4 fs)(g:za 4 gs)(l:fs.length<=13)(n:gs.length<=13):(CB 5 S [] (some x)<|some y).length<=26:=by
 obtain⟨r,a⟩:=c.node;obtain⟨s,b⟩:=d.node;have h:sY S [] (some x) (some y) (CB 5 S [] (some x)<|some y):=Fc ok (fun z e=>by cases e;exact c.tree) (fun z e=>by cases e;exact d.tree) fun _=>by
  rw[show Ce S (some x)=none from Zs (yP ok a).2,show Ce S (some y)=none from Zs (yP ok b).2]
 have nd:((CB 5 S [] (some x)<|some y).map (·.1)).Nodup:=by
  refine ZI.mpr ?_;rw[Yc];exact h.rise.imp fun{p q} z (w:p.1=q.1)=>Iy z (by rw[w])
 have:=TH nd (b:=(fs++gs).map (·.1)) fun p o=>by
  obtain⟨r,t,rfl⟩:=Zc.mp o;obtain⟨q,e,ne⟩:=(h.mem r).mp t;have e:r.1=q:=by rw[e];rfl
  rw[e];have ne:=fun z=>ne<|(Fq ok c.tree d.tree f g c.rd d.rd q).mpr z;cases i:Cq fs q with
  |some L=>exact Zc.mpr ⟨(q,L),ZX _<|(qU f).mp i,rfl⟩
  |none =>
   cases j:Cq gs q with
   |some L=>exact Zc.mpr ⟨(q,L),ZL _<|(qU g).mp j,rfl⟩
   |none=>exact absurd (i.trans j.symm) ne
 rw[Q8,Q8,Zh]at this;lia
theorem Wi {S0:Di}(c:wD 5 [] fs q1)(b:wD 5 q1.1 gs q2)(g:za 4 fs)(h:za 4 gs)(e:fs.length<=13)(f:gs.length<=13):TY q2.1:=fun x rows a=>by
 obtain⟨T,d,_⟩:=b.new;have m:=(b.names x).mp a.mem
 rcases m with m|m
 ·have m:=(c.names x).mp m
  rcases m with m|m
  ·cases m
  ·have t:=c.tree.more (T:=T) (d▸b.ok) c.ok;have i:=Tree.tG (T:=T) (d▸b.ok) c.ok c.tree;have a:At (q1.1++T) x (.tree rows):=d▸a;have:=IR (d▸b.ok) a t.1 (by rwa[i]);rw[t.2,(c.perm g).length_eq]at this;lia
 ·have:=IR b.ok a b.tree m;rw[(b.perm h).length_eq]at this;lia
section
variable {P:Eg}{w:Ek}{K:Cd}{mg:Str->Dc}{base:Ev}{t1 t2 t3 t4 t5 t6 t7:Tok}{aL aC aN aT aA b1 b2:Ef}
theorem Tj (n:rM H fp)(o:Off fp H H')(h:yu K H l xs):yu K H' l xs:=by
 rcases h with(h|⟨ob,h⟩)|h
 ·exact .inl (.inl<|o _ _ (jL n h) h)
 ·refine .inl (.inr ⟨ob,o _ _ (fun z=>?_) h⟩);obtain⟨o,e,_,_,b⟩:=n l z;rw[h]at e;exact b _ _ (Option.some.inj e).symm
 ·exact .inr h
theorem WR {H':Hp}(h:yu K H l xs)(k:∀o,H l=some o->H' l=some o):yu K H' l xs:=by
 rcases h with(h|⟨ob,h⟩)|h
 ·exact .inl (.inl<|k _ h)
 ·exact .inl (.inr ⟨ob,k _ h⟩)
 ·exact .inr h
theorem Nq {Q:VK}{E:XK}(sh:yg P w K C H a fp S)(ok:xr S)(few:TY S)(d:qj S x fs)(e:qj S y gs)(h:za 4 fs)(i:za 4 gs)(b:fs.length<=13)(c:gs.length<=13)
  (k:∀p lr ys H',zz H H'->H p=none->H lr=none->p≠lr->H' p=some (.tup [.ref lr,.int<|rT S x y])->H' lr=some (.lst ys)->zy K H' ((CG S x y).map CI) ys->Q (.ref p) H'):wj P w K C aN [.ref a,.str x,.str y] H Q E:=by
 obtain⟨r,f⟩:=d.node;obtain⟨s,g⟩:=e.node;have l:=NA ok d e h i b c;refine⟨a,fp,S,.str x,.str y,.str x,.str y,rfl,sh,ok,rfl,rfl,fun z=>?_,fun _ _=>⟨x,y,r,s,rfl,rfl,rfl,rfl,few,f,g,d.tree,e.tree,by lia,k⟩⟩;rw[IJ ok f,IJ ok g]at z
 rcases z with z|z<;>cases z
inductive qg (K:Cd)(vs:Dj)(H:Hp)(Q:VK)(e3:XK):Prop
 |mk (a:Ef) (ns:List Int) (h0:vs=[.ref a]) (h1:yu K H a<|ns.map V.int) (h2:ns.length<=63) (h3:∀H',Q (.bl true) H'):qg K vs H Q e3
def Bad (K:Cd)(S:Di)(v:V):Prop:=∃d:Ej,(∀H,Dw K H d v)/\Uu S d "tree"=false
namespace Ca
abbrev st:Stmt:=top 73
theorem sc:zx ["_law_script","_law_paths_here","_law_one","_law_other","_law_store","_law_roots","_law_twin","_law_later","_law_names","_law_found","_law_root","_law_first","_law_leaves","_law_leaf","_law_pair"] ["_law_script"] (zG st):=Cp
theorem ok (F:wY K "law" "law" st f fd)(T:Txt P w K mg t1 t2 t3 t4 t5 t6 t7 aL aC aN aT aA b1 b2)(Q4:wZ P w K mg base 3 "_law_paths" ["_law_cell_here"] Bk)(Qi:wZ P w K mg base 1 "_law_cell" ["_law_script","_law_k"]<|pC K)(Q5:wZ P w K mg base 3 "_law_files" ["_law_cell_here","_law_paths_here"]<|tu K)(Q6:wZ P w K mg base 3 "_law_others" ["_law_cell_here","_law_files_here","_law_paths_here"]<|tX K)(Qx:jz P w K mg base aC 5 "Shelf" ["self","base"]<|pL P w K aC)
  (Qf:Met P w K mg base aC 1 "names" ["self"]<|sU P w K aC) (Qj:Met P w K mg base aC 2 "has" ["self","name"]<|pO P w K aC) (Qa:tQ P w K mg base aC 4 "thing" ["self","name"]<|wC P w K aC aN) (Qc:tQ P w K mg base aC 7 "put" ["self","thing"]<|tZ P w K aC aN aT) (Qm:tW P w K mg base 13 "keep_files" ["shelf","files"]<|pD P w K aC) (Qh:tW P w K mg base 18 "changes_of" ["store","one","other"]<|wj P w K aC aN) (QD:wZ P w K mg base 19 "_law_refused" ["_law_store","_law_one","_law_other"]<|rF P w K aC) (Qy:wZ P w K mg base 9 "_law_good" ["_law_found","_law_store","_law_roots","_law_one","_law_other"]<|qp P w K aC):yx P w K mg base Cn 20 f fd ["_law_script"] (qg K):=by
 refine F.ok sc fun _ _ _ _ H vs Q E B h=>?_;obtain⟨sa,as,rfl,U,Dp,kQ⟩:=h;refine⟨_,(zD (Co (i:=1) sc.nd<|zJ Q4 B.m<|zA (zJ Qi B.m<|zA (pv 0)<|zA zI zB) zB)<|zD (Co (i:=2) sc.nd<|zJ Q5 B.m<|zA (zJ Qi B.m<|zA (pv 0)<|zA zI zB)<|zA (pv 1) zB)<|zD (Co (i:=3) sc.nd<|zJ Q6 B.m<|zA (zJ Qi B.m<|zA (pv 0)<|zA zI zB)<|zA (pv 2)<|zA (pv 1) zB)<|zD (Co (i:=4) sc.nd<|Fz Qx B.m<|zA q9 zB)<|zD (Co (i:=5) sc.nd<|xU<|zA (yK Qm B.m zZ<|zA (pv 4)<|zA (pv 2) zB) zB)<|xX (yI (zX qM (zV qP (zJ Qi B.m<|zA (pv 0)<|zA zI zB) zI) zI<|zW _) (zF<|Co (i:=4) sc.nd<|Fz Qx B.m<|zA (pv 4) zB) zT)<|zD (Co (i:=6) sc.nd<|Fz Qx B.m<|zA q9 zB)<|zD (yD<|yK Qm B.m zZ<|zA (pv 6)<|zA (pv 2) zB)<|zD (Co (i:=7) sc.nd<|yK Qm B.m zZ<|zA (pv 6)<|zA (pv 3) zB)<|xX (yI (PW.pt<|RK (yW<|zS (K:=K)<|Xi (pv 4) T.cls Qj B.m<|zA (pv 7) zB)<|N0<|yW<|zS (K:=K)<|zJ QD B.m<|zA (pv 4)<|zA (zY (yq:Cl _<|wO K) (pv 5) zI)<|zA (pv 7) zB) (zF<|zM qL) zT)<|zD (yD<|qN Z2 Z3 Z4 yZ (pv 5)<|zA (yK Qm B.m zZ<|zA (pv 4)<|zA (pv 3) zB) zB)<|zD (Co (i:=8) sc.nd q9)<|xX (yI (zX qM (zV qP (zV qS (zJ Qi B.m<|zA (pv 0)<|zA zI zB) zI) zI) zI<|zW _) (zF<|Co (i:=8) sc.nd<|uS (pv 4) T.cls Qf B.m) zT)<|zD (Co (i:=9) sc.nd<|yK Qh B.m zZ<|zA (pv 4)<|zA (zY (yq:Cl _<|wO K) (pv 5) zI)<|zA (zY (yq:Cl _<|wO K) (pv 5) zI) zB)<|xX (yI (zX Rt (pv 8) q9<|zW _) (zF<|Co (i:=8) sc.nd<|uS (pv 4) T.cls Qf B.m) zT)<|xX (yI (PW.pt<|uL (yW<|zS (K:=K)<|zJ Qy B.m<|zA (pv 9)<|zA (pv 4)<|zA (pv 5)<|zA (pv 2)<|zA (pv 3) zB)<|jW<|zX (qY B.units) (uS (pv 4) T.cls Qf B.m) (pv 8)<|zW _) (zF<|zM qL) zT)<|zD (yD<|qN Z2 Z3 Z4 yZ (zY (yw:Cl _<|xg K) (pv 9) zI)<|zA (yQ<|zA zq<|zA q9<|zA q9 zB) zB)<|xX (yI (yW<|zS (K:=K)<|zJ Qy B.m<|zA (yK Qh B.m zZ<|zA (pv 4)<|zA (zY (yq:Cl _<|wO K) (pv 5) zI)<|zA (zY (yq:Cl _<|wO K) (pv 5) zI) zB)<|zA (pv 4)<|zA (pv 5)<|zA (pv 2)<|zA (pv 3) zB) (zF<|zM qL) zT)<|xX (xA EL rfl (xC<|pv 5) (zQ (i:=10) sc.nd rfl<|EE rfl)<|zF<|yI (zX (qY B.units) (yK Qh B.m zZ<|zA (pv 4)<|zA (pv 10)<|zA (pv 10) zB) (yQ<|zA (xU zB)<|zA zI zB)<|zW _) (zF<|zM qL) zT)<|zD (Co (i:=11) sc.nd<|yK Qh B.m zZ<|zA (pv 4)<|zA (zY (yq:Cl _<|wO K) (pv 5) zI)<|zA (zY (yq:Cl _<|wO K) (pv 5) zI) zB)<|xX (yI (PW.pt<|uL (yW<|zS (K:=K)<|zJ Qy B.m<|zA (pv 11)<|zA (pv 4)<|zA (pv 5)<|zA (pv 2)<|zA (pv 3) zB)<|jW<|zX (qY B.units) (uS (pv 4) T.cls Qf B.m) (pv 8)<|zW _) (zF<|zM qL) zT)<|zD (vG (sc:=zG st) (N:=["_law_script","_law_paths_here","_law_one","_law_other","_law_store","_law_roots","_law_twin","_law_later","_law_names","_law_found","_law_root","_law_first","_law_leaves","_law_leaf","_law_pair"]) (N':=["_law_name_here","_law_store"]) (src:=[none,some 4]) .a rfl rfl rfl (xC<|pv 8) (fun _ _ _ _=>(zQ (i:=0) (show(["_law_name_here","_law_store"]:Da).Nodup by decide +kernel) rfl (EE rfl))) (fun _ _ _ _=>(FB<|zX qM (zY (yw:Cl _<|xg K) (xO (pv 1) T.cls Qa B.m zZ<|zA (pv 0) zB) zI) zq<|zW _)) (fun _ _ _ _=>(pv 0)) sc.nd rfl (EE rfl) (k:=12)) (zD (yD<|qN Z2 PySem.F.slot_list_extend PySem.F.type_list_extend OY (pv 12)<|zA (xU<|zA zq<|zA q9<|zA zI zB) zB)<|zD (yD<|qN Z2 Z3 Z4 yZ (pv 12)<|zA (xO (pv 4) T.cls Qc B.m zZ<|zA (yQ<|zA zq<|zA (zY (yq:Cl _<|wO K) (pv 5) zI)<|zA (yQ zB)<|zA zq zB) zB) zB)<|zD (Co (i:=13) sc.nd<|zY (yq:Cl _<|wO K) (pv 12)<|zV qP (zV qS (zJ Qi B.m<|zA (pv 0)<|zA zI zB) zI)<|zK z7 (by rfl) T.len Z5<|zA (pv 12) zB)<|zD (xA EL rfl (xC<|xU<|zA (yQ<|zA (pv 13)<|zA (zY (yq:Cl _<|wO K) (pv 5) zI) zB)<|zA (yQ<|zA (zY (yq:Cl _<|wO K) (pv 5) zI)<|zA (pv 13) zB)<|zA (yQ<|zA (pv 13)<|zA (pv 13) zB) zB) (zQ (i:=14) sc.nd rfl<|EE rfl)<|zF<|yI (yW<|zS (K:=K)<|zJ QD B.m<|zA (pv 4)<|zA (zY (yw:Cl _<|xg K) (pv 14) zI)<|zA (zY (yw:Cl _<|xg K) (pv 14) zI) zB) (zF<|zM qL) zT)<|zF<|zM qL)),?_⟩
 refine⟨_,rfl,sa,as,0,rfl,U,by decide,fun i0=>⟨i0,rfl,fun lp ps H1 s1 ct ej ew ez=>?_⟩⟩;refine⟨_,rfl,sa,as,1,rfl,s1.seq U,by decide,fun i1=>⟨_,rfl,i1,lp,ps,rfl,yu.of ej,ew,ez,fun c1 k1 fs H2 s2 hw O ff gf g5=>?_⟩⟩;refine⟨_,rfl,sa,as,2,rfl,(s1.trans s2).seq U,by decide,fun i2=>⟨_,rfl,_,rfl,i2,c1,lp,ps,k1,fs,rfl,O,ff,gf,g5,yu.of<|s2 _ _ ej,ew,ez,fun c2 k2 gs B0 s3 hy a5 fg gg a4=>?_⟩⟩;have U:=((s1.trans s2).trans s3).seq U;have O:=s3 _ _ O;have ff:=ff.same s3;have a0:fs.length<=13:=by lia
 have w1:wt fs<=40:=by have:=gf.wt;lia
 have w2:wt gs<=52:=by have:=gg.wt;lia
 clear s1 s2 s3 hw hy ej ct ew ez;refine fun x dx nx f9 ne=>⟨x,dx,.non,[],rfl,zC,by rw[zH ne];exact zC,ne,.inl ⟨rfl,rfl⟩,fun J H3 fx Ec e6=>⟨rfl,?_⟩⟩;obtain⟨s3,df⟩:=Xq nx f9 ne fx Ec;have ok0:xr []:=⟨e6.good,fun e he=>(nomatch he),fun e he=>(nomatch he)⟩;clear Ec fx nx f9 ne;have dm:c1∉J:=fun z=>by have:=df _ z;rw[O]at this;cases this
 obtain⟨I,ey⟩:=Il 3 (S:=[]) (fs:=fs) ok0 gf (by lia) (by show 0+1+wt fs<=2000;lia);refine⟨_,rfl,_,rfl,x,c1,J,[],fs,k1,rfl,e6,ok0,s3 _ _ O,dm,ff.same s3,gf,by lia,by show 0+1+wt fs<=2000;lia,fun H4 gh e7=>⟨Uq 1,fun A dn=>?_⟩⟩;have s4:=GG s3 df gh;generalize fm:Uv 4 [] fs=D at I ey e7 dn ⊢;have I:wD 5 [] fs D:=I;have ey:D.1.length<=41:=by have:D.1.length<=0+1+wt fs:=ey;lia
 have hz:B0 A=none:=s4.free dn;refine nw dn fun H5 u5 h5=>?_;have s5:=s4.trans u5;have an:=e7.same u5;clear s4 e7 gh u5 dn dm s3 e6 H4 H3;refine zN ⟨fun s g=>∃x J,s=[some<|.ref sa,some<|.ref lp,some<|.ref c1,some<|.ref c2,some<|.ref x,some<|.ref A,none,none,none,none,none,none,none,none,none]/\zz B0 g/\g A=some (.lst [V.str D.2])/\yg P w K aC g x J D.1/\∀c∈J,B0 c=none,?_,?_⟩
 ·refine⟨_,rfl,sa,as,3,rfl,s5.seq U,by decide,fun i3=>⟨_,_,rfl,rfl,(by show(0:Int)<2;decide),rfl,_,rfl,Uw (fun _=>?_)<|fun _=>⟨x,J,rfl,s5,h5,an,df⟩⟩⟩;refine⟨_,rfl,fun y dy ny b3 ne=>⟨y,dy,.ref x,D.1,rfl,zC,by rw[zH ne];exact zC,ne,.inr ⟨x,J,rfl,an.same<|(zE b3).trans<|zE<|by rwa[zH<|EB ne],an.ex.not ny,an.ex.not b3,by lia⟩,fun fr H6 g7 Ec sh=>⟨rfl,?_⟩⟩⟩;obtain⟨s6,cf⟩:=Xq ny b3 ne g7 Ec;exact⟨y,fr,rfl,s5.trans s6,s6 _ _ h5,sh,fun c hc=>s5.free<|cf c hc⟩
 clear s5 h5 an df H5 x J;rintro s H5 ⟨x,J,rfl,s5,h5,an,ft⟩;refine fun y dy ny b3 ne=>⟨y,dy,.non,[],rfl,zC,by rw[zH ne];exact zC,ne,.inl ⟨rfl,rfl⟩,fun fq H6 fy Ec gt=>⟨rfl,?_⟩⟩;obtain⟨s6,cf⟩:=Xq ny b3 ne fy Ec;have dj:∀c∈J,c∉fq:=fun c hc z=>by
  obtain⟨o,eo⟩:=an.ex c hc;rw[cf c z]at eo;cases eo
 have W:W2 P w K aC B0 H6 x J y fq D.1 []:=⟨s5.trans s6,an.same s6,gt,ft,fun c hc=>s5.free<|cf c hc,dj⟩;have h6:=s6 _ _ h5;clear Ec fy ny b3 ne s5 an s6 cf gt dj ft h5;have dm:c1∉J:=fun z=>by have:=W.fr _ z;rw[O]at this;cases this
 have f4:c1∉fq:=fun z=>by have:=W.gr _ z;rw[O]at this;cases this
 have f7:c2∉J:=fun z=>by have:=W.fr _ z;rw[a5]at this;cases this
 have f8:c2∉fq:=fun z=>by have:=W.gr _ z;rw[a5]at this;cases this
 refine⟨_,rfl,_,rfl,y,c1,fq,[],fs,k1,rfl,W.tw,ok0,W.same _ _ O,f4,ff.same W.same,gf,by lia,by show 0+1+wt fs<=2000;lia,fun H7 es e8=>?_⟩;rw[fm]at e8;have h7:=es _ _ (jL W.tw.wR h6) h6;have W:=W.lG es e8;clear es e8 h6;obtain⟨X,dp⟩:=Il 3 (S:=D.1) (fs:=gs) I.ok gg (by lia) (by lia);refine⟨_,rfl,_,rfl,y,c2,fq,D.1,gs,k2,rfl,W.tw,I.ok,W.same _ _ a5,f8,fg.same W.same,gg,by lia,by lia,fun H8 eu go=>?_⟩;have h8:=eu _ _ (jL W.tw.wR h7) h7;have W:=W.lG eu go;clear eu go h7;generalize fn:Uv 4 D.1 gs=Y at X dp W ⊢;have X:wD 5 D.1 gs Y:=X;have dp:Y.1.length<=94:=by have:Y.1.length<=D.1.length+1+wt gs:=dp;lia
 refine zN ⟨fun s g=>s=[some<|.ref sa,some<|.ref lp,some<|.ref c1,some<|.ref c2,some<|.ref x,some<|.ref A,some<|.ref y,some<|.str Y.2,none,none,none,none,none,none,none]/\g A=some (.lst [V.str D.2])/\W2 P w K aC B0 g x J y fq D.1 Y.1,?_,?_⟩
 ·obtain⟨ix,hf,hg,hh,ap⟩:=XG W.sh;refine⟨_,rfl,x,ix,_,rfl,ap,rfl,_,rfl,x,J,D.1,.str Y.2,.str Y.2,rfl,W.sh,rfl,_,rfl,Uw (fun z=>?_)<|fun _=>Ur ⟨rfl,h8,W⟩⟩;have z:(!U8 D.1 (.str Y.2))=true:=z;have no:Y.2∉D.1.map En.nm:=fun q=>by
   rw[show U8 D.1 (.str Y.2)=decide (Y.2∈D.1.map En.nm) from rfl,Zg q]at z;cases z
  exact⟨_,rfl,_,rfl,A,_,_,_,rfl,rfl,yu.of h8,rfl,_,rfl,x,J,D.1,.str D.2,.str Y.2,_,_,rfl,W.sh,I.ok,rfl,rfl,.inr<|Bx no,fun H9 s9=>⟨true,rfl,UQ ⟨rfl,s9 _ _ h8,W.ins s9⟩⟩⟩
 clear h8 W;rintro s H8 ⟨rfl,h8,W⟩;refine⟨_,rfl,.inl ⟨rfl,_,yu.of h8⟩,_,rfl,_,rfl,x,c2,J,D.1,gs,k2,rfl,W.sh,I.ok,W.same _ _ a5,f7,fg.same W.same,gg,by lia,by lia,fun H9 ev e9=>?_⟩;rw[fn]at e9 ⊢;have ct:=jL W.sh.wR h8;have h9:=ev _ _ ct h8;have s9:=GG W.same W.fr ev;have iw:=W.fr;clear ev h8 W;refine⟨A,_,_,rfl,rfl,h9,yN<|show 1<16777216 by decide,?_⟩;have a8:=An.zz.rZ (l:=A) (o:=.lst<|[V.str D.2]++[V.str Y.2]) s9 hz;have cu:Off [A] H9 (upd H9 A<|.lst<|[V.str D.2]++[V.str Y.2]):=yF;have u:=e9.off (gp:=[A]) (xW h9) cu<|fun b hb q=>ct<|Q9.mp q▸hb;have G:upd H9 A (.lst<|[V.str D.2]++[V.str Y.2]) A=some (.lst [V.str D.2,V.str Y.2]):=zC;generalize upd H9 A _=B1 at a8 cu u G ⊢;clear cu s9 e9 h9;have U:=a8.seq U;have O:=a8 _ _ O;have a5:=a8 _ _ a5;have ff:=ff.same a8;have fg:=fg.same a8;obtain⟨T2,eg,ie⟩:=X.new;have ok:=X.ok;have few:TY Y.1:=Wi (S0:=[]) I X gf gg a0 a4;have rx:qj Y.1 D.2 fs:=by
  have Z:qj D.1 D.2 fs:=⟨I.tree,I.node,I.rd⟩;have:=qj.more (T:=T2) (eg▸ok) I.ok Z;exact eg▸this
 have ry:qj Y.1 Y.2 gs:=⟨X.tree,X.node,X.rd⟩;clear ie;clear a8 eg X I T2 fm fn dm f7 f4 f8 ct;generalize D.2=Z at G rx ⊢;obtain⟨S,r2⟩:=Y;dsimp only at u G ok few rx ry dp ⊢;have dd:∀S:Di,(S.map fun e=>V.str e.nm)=(S.map En.nm).map V.str:=fun S=>by rw[ZC];rfl
 have h4:∀p∈S.map En.nm,El p=true:=fun p hp=>by
  obtain⟨e,he,rfl⟩:=Zc.mp hp;exact(ok.nm he).ok
 have gq:EK (.list<|(S.map En.nm).map .str)=true:=(kI h4).1;have fo:Ey (.list<|(S.map En.nm).map .str) (.list<|(S.map En.nm).map .str)=true:=by
  show EO _ _=true;rw[jY];exact Zg rfl
 obtain⟨ix,hf,hg,hh,ap⟩:=XG u;refine zN ⟨fun s g=>∃o8,s=[some<|.ref sa,some<|.ref lp,some<|.ref c1,some<|.ref c2,some<|.ref x,some<|.ref A,some<|.ref y,some<|.str r2,some o8,none,none,none,none,none,none]/\zz B1 g/\(o8=.non\/∃l,o8=.ref l/\g l=some (.lst<|(S.map En.nm).map V.str)),?_,?_⟩
 ·refine⟨_,rfl,sa,as,3,rfl,U,by decide,fun i3=>⟨_,_,rfl,rfl,⟨by decide,by decide⟩,_,_,rfl,rfl,(by show(0:Int)<2;decide),rfl,_,rfl,Uw (fun _=>?_)<|fun _=>⟨.non,rfl,zz.refl _,.inl rfl⟩⟩⟩;refine⟨_,rfl,x,ix,_,rfl,ap,rfl,x,J,S,rfl,u,fun l nl=>?_⟩;rw[dd];exact⟨.ref l,rfl,zE nl,.inr ⟨l,rfl,zC⟩⟩
 rintro s ii ⟨o8,rfl,cd,f3⟩;refine⟨_,rfl,_,rfl,A,_,_,_,rfl,rfl,yu.of<|cd _ _ G,rfl,_,rfl,A,_,_,_,rfl,rfl,yu.of<|cd _ _ G,rfl,?_⟩;delta Gd;dsimp only;refine Nq (u.same cd) ok few rx ry gf gg a0 a4 fun pf lf xs fe e0 ib ep i7 el cg hd=>?_;have gc:=cd.free ep;have ax:=cd.trans e0;refine zN ⟨fun s g=>∃ln,s=[some<|.ref sa,some<|.ref lp,some<|.ref c1,some<|.ref c2,some<|.ref x,some<|.ref A,some<|.ref y,some<|.str r2,some<|.ref ln,some<|.ref pf,none,none,none,none,none]/\zz B1 g/\zz fe g/\ln≠lf/\g ln=some (.lst<|(S.map En.nm).map V.str),?_,?_⟩
 ·rcases f3 with rfl|⟨l,rfl,hl⟩
  ·refine⟨_,rfl,rfl,true,(by show V.bl (decide (V.non=V.non))=_;rw[Zg rfl]),Uo ⟨_,rfl,x,ix,_,rfl,ax _ _ ap,rfl,x,J,S,rfl,u.same ax,fun l nl=>?_⟩⟩;rw[dd];exact⟨l,rfl,ax.trans<|zE nl,zE nl,(fun q=>by rw[q,cg]at nl;cases nl),zC⟩
  ·exact⟨_,rfl,rfl,false,(by show V.bl (decide (V.ref l=V.non))=_;rw[Zo<|fun z=>nomatch z]),Ur ⟨l,rfl,ax,zz.refl _,(fun q=>by rw[q,ep]at hl;cases hl),e0 _ _ hl⟩⟩
 rintro s ij ⟨ln,rfl,e1,c8,hm,ch⟩;have good:∀{g:Hp} {pf lf:Ef} {xs:Dj} {Q':VK} {E':XK},zz B1 g->g pf=some (.tup [.ref lf,.int<|rT S Z r2])->g lf=some (.lst xs)->zy K g ((CG S Z r2).map CI) xs->(∀H2,zz g H2->Q' (.bl true) H2)->qp P w K aC [.ref pf,.ref x,.ref A,.ref c1,.ref c2] g Q' E':=fun{g pf lf xs Q' E'} M h1 h2 h3 kk =>
  ⟨pf,lf,x,A,c1,c2,J,S,Z,r2,fs,gs,k1,k2,xs,rfl,h1,h2,h3,M _ _ G,u.same M,ok,M _ _ O,M _ _ a5,ff.same M,fg.same M,gf,gg,a0,a4,rx,ry,kk⟩
 refine⟨fun s g=>s=[some<|.ref sa,some<|.ref lp,some<|.ref c1,some<|.ref c2,some<|.ref x,some<|.ref A,some<|.ref y,some<|.str r2,some<|.ref ln,some<|.ref pf,none,none,none,none,none]/\zz B1 g/\zz fe g/\g ln=some (.lst<|(S.map En.nm).map V.str),?_,?_⟩
 ·refine⟨_,rfl,_,rfl,_,rfl,_,rfl,_,rfl,?_⟩;dsimp only;refine good e1 (c8 _ _ el) (c8 _ _ cg) (zy.same c8 _ _ hd) fun ik dq=>⟨true,rfl,UQ ?_⟩;have c3:=e1.trans dq;refine⟨_,rfl,x,ix,_,rfl,c3 _ _ ap,rfl,x,J,S,rfl,u.same c3,fun hj ga=>?_⟩;rw[dd];have du:=zE (o:=.lst<|(S.map En.nm).map V.str) ga;exact⟨_,rfl,Xm (d:=.list<|(S.map En.nm).map .str) ⟨hj,_,rfl,yu.of zC,zy.strs _⟩ ⟨ln,_,rfl,yu.of<|du _ _<|dq _ _ ch,zy.strs _⟩ gq fo ⟨_,rfl,Ur ⟨rfl,c3.trans du,(c8.trans dq).trans du,du _ _<|dq _ _ ch⟩⟩⟩
 clear ch e1 c8;rintro s fh ⟨rfl,gj,ds,d3⟩;refine⟨_,rfl,pf,_,_,_,rfl,rfl,xu.of<|ds _ _ el,rfl,.inl ⟨rfl,_,yu.of<|ds _ _ cg⟩,Uq 3,fun pt ge=>?_⟩;have dv:=zE (o:=.tup [V.str "a",V.non,V.non]) ge;have xl:=hd.length;have dl:=NA ok rx ry gf gg a0 a4;have cl:(CG S Z r2).length<=26:=by
  unfold CG
  split
  ·exact ZN _
  ·exact dl
 rw[Q8]at xl;refine⟨lf,_,_,rfl,rfl,dv _ _<|ds _ _ cg,yN<|by lia,?_⟩;have a9:=An.zz.rZ (l:=lf) (o:=.lst<|xs++[V.ref pt]) (gj.trans dv) gc;have co:upd (upd fh pt<|.tup [V.str "a",V.non,V.non]) lf (.lst<|xs++[V.ref pt]) ln=some (.lst<|(S.map En.nm).map V.str):=by
  rw[zH hm];exact dv _ _ d3
 generalize upd (upd fh pt<|.tup [V.str "a",V.non,V.non]) lf (.lst<|xs++[V.ref pt])=il at a9 co ⊢;clear dv ge gj ds d3 e0 ax cd el cg hd f3 ib ep xl;refine⟨fun s g=>s=[some<|.ref sa,some<|.ref lp,some<|.ref c1,some<|.ref c2,some<|.ref x,some<|.ref A,some<|.ref y,some<|.str r2,some<|.ref ln,some<|.ref pf,none,none,none,none,none]/\zz B1 g/\g ln=some (.lst<|(S.map En.nm).map V.str),?_,?_⟩
 ·refine⟨_,rfl,_,rfl,A,_,_,_,rfl,rfl,yu.of<|a9 _ _ G,rfl,_,rfl,A,_,_,_,rfl,rfl,yu.of<|a9 _ _ G,rfl,?_⟩
  try delta Gd
  dsimp only;refine Nq (u.same a9) ok few rx ry gf gg a0 a4 fun i6 iy i9 im e2 _ _ _ f2 f0 g6=>?_;refine⟨_,rfl,_,rfl,_,rfl,_,rfl,?_⟩;dsimp only;exact good (a9.trans e2) f2 f0 g6 fun ee gk=>⟨true,rfl,UQ ⟨rfl,(a9.trans e2).trans gk,(e2.trans gk) _ _ co⟩⟩
 clear co a9;rintro s ee ⟨rfl,ay,d4⟩;refine⟨fun s g=>∃a7,s=[some<|.ref sa,some<|.ref lp,some<|.ref c1,some<|.ref c2,some<|.ref x,some<|.ref A,some<|.ref y,some<|.str r2,some<|.ref ln,some<|.ref pf,a7,none,none,none,none]/\zz ee g,⟨_,rfl,A,rfl,⟨_,yu.of<|ay _ _ G⟩,jC (K:=K) (a:=A) (xs:=[V.str Z,V.str r2]) (fun i σ g=>∃a7,σ=[some<|.ref sa,some<|.ref lp,some<|.ref c1,some<|.ref c2,some<|.ref x,some<|.ref A,some<|.ref y,some<|.str r2,some<|.ref ln,some<|.ref pf,a7,none,none,none,none]/\zz ee g) ⟨none,rfl,zz.refl _⟩ (fun i σ g _ ⟨_,_,M⟩=>yu.of<|M _ _<|ay _ _ G) ?_ fun _ _ z=>z⟩,?_⟩
 ·rintro i v σ g C ⟨a7,rfl,M⟩;have ig:∃r hs,v=.str r/\qj S r hs/\za 4 hs/\hs.length<=13:=by
   match i,C with
   | 0,C=>cases C;exact⟨Z,fs,rfl,rx,gf,a0⟩
   | 1,C=>cases C;exact⟨r2,gs,rfl,ry,gg,a4⟩
   |i+2,C=>cases C
  obtain⟨r,hs,rfl,rr,gr,fu⟩:=ig;have ss:=ay.trans M;refine zN ⟨_,rfl,_,rfl,_,rfl,?_⟩
  try delta Gd
  dsimp only;refine Nq (u.same ss) ok few rr rr gr gr fu fu fun p3 l3 x3 gw c4 _ _ _ f1 g8 dk=>?_;have e3:CG S r r=[]:=Zs rfl;have e4:rT S r r=0:=Zs rfl;rw[e3]at dk;rw[e4]at f1;have dk:x3=[]:=dk;subst dk;refine⟨Uq 0,fun l4 n4=>⟨Uq 2,fun p4 n5=>?_⟩⟩;have u4:=zE (o:=.lst []) n4;have u5:=zE (o:=.tup [V.ref l4,V.int 0]) n5;have uu:=u4.trans u5;refine Xm (d:=.tuple [.list [],.int 0]) ⟨p3,_,rfl,xu.of<|uu _ _ f1,_,_,rfl,⟨l3,[],rfl,yu.of<|uu _ _ g8,rfl⟩,_,_,rfl,rfl,rfl⟩ ⟨p4,_,rfl,xu.of zC,_,_,rfl,⟨l4,[],rfl,yu.of<|u5 _ _ zC,rfl⟩,_,_,rfl,rfl,rfl⟩ (by decide +kernel) (by decide +kernel) ⟨_,rfl,Ur ⟨_,rfl,(M.trans c4).trans uu⟩⟩
 rintro σ gw ⟨a7,rfl,c4⟩;have ab:=ay.trans c4;have d5:=c4 _ _ d4;clear ay c4 d4;refine⟨_,rfl,_,rfl,A,_,_,_,rfl,rfl,yu.of<|ab _ _ G,rfl,_,rfl,A,_,_,_,rfl,rfl,yu.of<|ab _ _ G,rfl,?_⟩
 try delta Gd
 dsimp only;refine Nq (u.same ab) ok few rx ry gf gg a0 a4 fun gi iz ja io dr _ _ _ d8 d2 fw=>?_;refine zN ⟨fun s g=>s=[some<|.ref sa,some<|.ref lp,some<|.ref c1,some<|.ref c2,some<|.ref x,some<|.ref A,some<|.ref y,some<|.str r2,some<|.ref ln,some<|.ref pf,a7,some<|.ref gi,none,none,none]/\zz B1 g/\g ln=some (.lst<|(S.map En.nm).map V.str),?_,?_⟩
 ·refine⟨_,rfl,_,rfl,_,rfl,_,rfl,_,rfl,?_⟩;dsimp only;refine good (ab.trans dr) d8 d2 fw fun ip gl=>⟨true,rfl,UQ ?_⟩;have c5:=(ab.trans dr).trans gl;have d6:=(dr.trans gl) _ _ d5;refine⟨_,rfl,x,ix,_,rfl,c5 _ _ ap,rfl,x,J,S,rfl,u.same c5,fun hk gb=>?_⟩;rw[dd];have fb:=zE (o:=.lst<|(S.map En.nm).map V.str) gb;exact⟨_,rfl,Xm (d:=.list<|(S.map En.nm).map .str) ⟨hk,_,rfl,yu.of zC,zy.strs _⟩ ⟨ln,_,rfl,yu.of<|fb _ _ d6,zy.strs _⟩ gq fo ⟨_,rfl,Ur ⟨rfl,c5.trans fb,fb _ _ d6⟩⟩⟩
 clear d8 d2 fw dr d5 ab;rintro s gx ⟨rfl,c6,d7⟩;have ea:=u.same c6;have R:=c6 _ _ G;have cp:=c6.seq U;have i5:(S.map En.nm).length=S.length:=by rw[Q8]
 refine⟨_,rfl,ln,rfl,⟨_,yu.of d7⟩,uN (K:=K) (a:=ln) (xs:=(S.map En.nm).map V.str) (fun i ys σ g=>∃o1 ls,σ=[o1,some<|.ref x]/\zz gx g/\ys.length<=i/\ys=List.map V.str ls/\∀n∈ls,∃L,At S n<|.leaf L) ⟨none,[],rfl,zz.refl _,Zf _,rfl,fun n hn=>(nomatch hn)⟩ (zm (by rw[Q8,Q8];lia)) ?_ ?_ ?_⟩
 ·rintro i ys σ g hi ⟨o1,ls,rfl,M,yl,_⟩;exact⟨M.seq<|yu.of d7,yl⟩
 ·rintro i v ys σ g C ⟨o1,ls,rfl,M,yl,rfl,al⟩;rw[Zk]at C;obtain⟨n,hn,rfl⟩:=ZE.mp C;have nm:=Zn hn;have hx:U8 S (.str n)=true:=Zg nm;have fz:=M _ _<|c6 _ _ ap;refine zN ⟨_,rfl,x,ix,_,rfl,fz,rfl,_,rfl,x,J,S,.str n,_,rfl,ea.same M,rfl,fun e he ed t ht=>?_,fun z=>by rw[hx]at z;cases z⟩;obtain⟨tt,et,_⟩:=ok.th e he;rw[et]at ht;obtain⟨c,r,ec,hc⟩:=uP ht;cases ec;refine⟨t,_,_,_,rfl,rfl,hc,yY (j:=0) rfl,rfl,_,rfl,Uw (fun z=>?_)<|fun _=>⟨_,ls,rfl,M,by lia,rfl,al⟩⟩;have z:decide (V.str tt.word=V.str "leaf")=true:=z;have z:=V.str.inj<|Zv z;have ed:n=e.nm:=by injection ed
  refine⟨_,rfl,_,ls++[n],rfl,M,by rw[Zh];show _+1<=i+1;lia,by rw[Zl];rfl,j7 al ?_⟩;cases tt with
  |leaf L=>exact⟨L,e,he,ed.symm,et⟩
  |tree rows=>exact absurd z (by show("tree":Str)≠"leaf";decide +kernel)
  |note a b c=>exact absurd z (by show("note":Str)≠"leaf";decide +kernel)
 rintro ys σ iq ⟨o1,ls,rfl,e5,yl,rfl,al⟩ lv eq;rw[Q8,Q8]at yl;rw[Q8]at yl;refine nw eq fun fi gu ei=>?_;have gm:=e5.trans gu;have de:=e5.free eq;clear gu e5 eq;refine⟨_,rfl,.inl ⟨rfl,_,yu.of ei⟩,Uq 3,fun en f6=>?_⟩;have fc:=zE (o:=.lst [V.str "T0.900",V.non,V.int 5]) f6;refine⟨lv,en,_,_,rfl,rfl,fc _ _ ei,zC,zm (by rw[Q8];show _+3<=_;lia),?_⟩;have bd:=An.zz.rZ (l:=lv) (o:=.lst<|ls.map V.str++[V.str "T0.900",V.non,V.int 5]) (gm.trans fc) de;have dh:=zC (H:=upd fi en<|.lst [V.str "T0.900",V.non,V.int 5]) (a:=lv) (o:=.lst<|ls.map V.str++[V.str "T0.900",V.non,V.int 5]);generalize upd (upd fi en _) lv _=fj at bd dh ⊢;clear fc f6 gm ei;obtain⟨i8,fl⟩:=rx.node;have bm:=ea.same bd;refine⟨_,rfl,.inl ⟨rfl,_,yu.of dh⟩,_,rfl,x,ix,_,rfl,bd _ _<|c6 _ _ ap,rfl,_,rfl,A,_,_,_,rfl,rfl,yu.of<|bd _ _ R,rfl,Uq 0,fun ca hq=>⟨Uq 4,fun c0 hu=>?_⟩⟩;have ih:=zE (o:=.tup []) hq;have gv:=zE (o:=.tup [V.str "note",V.str Z,V.ref ca,V.str ""]) hu;have vv:=ih.trans gv;have d0:Dt K (upd (upd fj ca<|.tup []) c0<|.tup [V.str "note",V.str Z,V.ref ca,V.str ""]) (Th.note Z [] "").dat (.ref c0):=⟨c0,_,rfl,xu.of zC,_,_,rfl,rfl,_,_,rfl,rfl,_,_,rfl,⟨ca,[],rfl,xu.of<|gv _ _ zC,rfl⟩,_,_,rfl,rfl,rfl⟩;have ic:Ok 1000 Z:=by
  obtain⟨e,he,rfl⟩:=Zc.mp fl.mem;exact ok.nm he
 have gn:Xw (.note Z [] ""):=OG ic (by decide +kernel) (fun p hp=>nomatch hp) Yw (by decide);have ia:namesOk S (.note Z [] "")=true:=by
  show(yC S Z ["tree"]&&true)=true;rw[show yC S Z ["tree"]=true from IJ ok fl];rfl
 try delta Gd
 dsimp only;show tZ P w K aC aN aT [V.ref x,V.ref c0] (upd (upd fj ca<|.tup []) c0<|.tup [V.str "note",V.str Z,V.ref ca,V.str ""]) _ _;refine RI (bm.same vv) ok gn ia (by lia) d0 fun bo cv c7=>?_;obtain⟨b4,ef,l3,T3,eh,_⟩:=FE ok gn.1 (show S.length<2000 by lia);generalize Cr S (.note Z [] "")=q3 at b4 ef l3 eh c7 ⊢;obtain⟨S3,n3⟩:=q3;dsimp only at b4 ef l3 eh c7 ⊢;have d9:lv∉J:=jL bm.wR dh;have fv:=cv _ _ d9<|vv _ _ dh;have gd:A∉J:=jL bm.wR<|bd _ _ R;have ek:=cv _ _ gd<|vv _ _<|bd _ _ R;have em:yu K bo sa (as.map V.int):=by
  have:=(bd.trans vv).seq cp;exact Tj (bm.same vv).wR cv this
 refine⟨lv,_,_,rfl,rfl,fv,yN (by rw[Zh,Q8];show _+3<_;lia),?_⟩;have cx:Off [lv] bo (upd bo lv<|.lst<|ls.map V.str++[V.str "T0.900",V.non,V.int 5]++[V.str n3]):=yF;have di:=zC (H:=bo) (a:=lv) (o:=.lst<|ls.map V.str++[V.str "T0.900",V.non,V.int 5]++[V.str n3]);have eb:=c7.off (gp:=[lv]) (xW fv) cx<|fun b hb q=>d9<|Q9.mp q▸hb;have ho:A≠lv:=fun q=>by rw[q,de]at R;cases R
 have a6:=cx _ _ (fun z=>ho<|Q9.mp z) ek;have cr:yu K (upd bo lv<|.lst<|ls.map V.str++[V.str "T0.900",V.non,V.int 5]++[V.str n3]) sa (as.map V.int):=by
  by_cases q:sa=lv
  ·rcases cp with(z|⟨ob,z⟩)|z
   ·rw[q,de]at z;cases z
   ·rw[q,de]at z;cases z
   ·exact .inr z
  ·exact WR em fun o e=>by rwa[zH q]
 generalize upd bo lv _=ir at cx di eb a6 cr ⊢;have d1:∀v∈ls.map V.str++[V.str "T0.900",V.non,V.int 5]++[V.str n3],Bad K S3 v:=fun v C=>by
  rcases ZD.mp C with C|C
  ·rcases ZD.mp C with C|C
   ·obtain⟨n,hn,rfl⟩:=Zc.mp C;obtain⟨L,a⟩:=al n hn;have a:At S3 n (.leaf L):=eh▸a.more;exact⟨.str n,fun H=>rfl,NI b4 a<|fun rows z=>nomatch z⟩
   ·simp only[Zi,Yq,J3]at C
    rcases C with rfl|rfl|rfl
    ·exact⟨.str "T0.900",fun H=>rfl,Bx<|SH b4<|by lia⟩
    ·exact⟨.none,fun H=>rfl,rfl⟩
    ·exact⟨.int 5,fun H=>rfl,rfl⟩
  ·rw[Q9.mp C];exact⟨.str n3,fun H=>rfl,NI b4 ef<|fun rows z=>nomatch z⟩
 have zp:0<(ls.map V.str++[V.str "T0.900",V.non,V.int 5]++[V.str n3]).length:=by rw[Zh];show 0<_+1;lia
 generalize ls.map V.str++[V.str "T0.900",V.non,V.int 5]++[V.str n3]=zs at di d1 zp;refine⟨_,rfl,_,rfl,sa,as,3,rfl,cr,by decide,fun i4=>?_⟩;have c9:(0:Int)<(zs.length:Int):=by lia
 obtain⟨z,g9,ha⟩:=at_of (xs:=zs) (i:=i4 / 2 % (zs.length:Int)) (V1 _<|Int.ne_of_gt c9)<|Vr _ c9;obtain⟨dz,dc,bz⟩:=d1 z<|Zn g9;refine⟨_,_,rfl,rfl,⟨by decide,by decide⟩,_,rfl,lv,zs,rfl,.inl<|yu.of di,_,_,rfl,rfl,c9,lv,_,_,_,rfl,rfl,yu.of di,ha,?_⟩;refine zN ⟨_,rfl,_,rfl,A,_,_,_,rfl,rfl,yu.of a6,rfl,Uq 2,fun a1 m1=>?_⟩;refine nw m1 fun it v1 g1=>?_;refine⟨_,rfl,A,_,_,_,rfl,rfl,yu.of<|v1 _ _ a6,rfl,_,rfl,Uq 2,fun a2 m2=>?_⟩;refine nw m2 fun iu v2 g2=>?_;refine⟨_,rfl,_,rfl,Uq 2,fun a3 m3=>?_⟩;refine nw m3 fun iv v3 g3=>?_;refine⟨Uq 3,fun lq h0=>?_⟩;refine nw h0 fun fk v4 g4=>?_;have sv:=((v1.trans v2).trans v3).trans v4;have g1:=v4 _ _<|v3 _ _<|v2 _ _ g1;have g2:=v4 _ _<|v3 _ _ g2;have g3:=v4 _ _ g3;refine⟨lq,rfl,⟨_,yu.of g4⟩,jC (K:=K) (a:=lq) (xs:=[V.ref a1,V.ref a2,V.ref a3]) (fun i σ g=>∃er,σ=[some<|.ref sa,some<|.ref lp,some<|.ref c1,some<|.ref c2,some<|.ref x,some<|.ref A,some<|.ref y,some<|.str r2,some<|.ref ln,some<|.ref pf,a7,some<|.ref gi,some<|.ref lv,some z,er]/\zz fk g) ⟨none,rfl,zz.refl _⟩ (fun i σ g _ ⟨_,_,M⟩=>yu.of<|M _ _ g4) ?_ ?_⟩
 ·rintro i v σ g C ⟨er,rfl,M⟩;have fa:∃p a b da db,v=.ref p/\fk p=some (.tup [a,b])/\(∀H,Dw K H da a)/\(∀H,Dw K H db b)/\(Uu S3 da "tree"=false\/Uu S3 db "tree"=false):=by
   match i,C with
   | 0,C=>cases C;exact⟨a1,z,.str Z,dz,.str Z,rfl,g1,dc,fun H=>rfl,.inl bz⟩
   | 1,C=>cases C;exact⟨a2,.str r2,z,.str r2,dz,rfl,g2,fun H=>rfl,dc,.inr bz⟩
   | 2,C=>cases C;exact⟨a3,z,z,dz,dz,rfl,g3,dc,dc,.inl bz⟩
   |i+3,C=>cases C
  obtain⟨p,a,b,da,db,rfl,hp,gz,g0,gy⟩:=fa;refine zN ⟨_,rfl,_,rfl,p,_,_,_,rfl,rfl,xu.of<|M _ _ hp,rfl,_,rfl,p,_,_,_,rfl,rfl,xu.of<|M _ _ hp,rfl,x,J,S3,da,db,_,_,rfl,eb.same<|sv.trans M,b4,gz _,g0 _,gy,fun H9 s9=>⟨true,rfl,UQ ⟨_,rfl,M.trans s9⟩⟩⟩
 rintro σ g ⟨er,rfl,M⟩;exact kQ _
end Ca
end
end An13
/-! the evaluating tactics look for a twin of each of these constants under these names;names that are taken keep them from laying one,for the twins' equations make the compiled file too large -/
structure PySem.W.Fast:Prop where(tw15728604927777984866 tw5943569056894722203 tw17593435556524536096 tw8399121230764805593 tw17973487359412738232 tw1247594791259952939 tw1672846355500072226 tw17287698064008472016 tw3012167307521530906 tw2260137757700652030 tw4359191510696225284 tw2659547854757518295 tw17495069898337039454 tw17195873958296748926 tw6283988662270517183 tw11049415796887480416 tw4483305749415028993 tw300079944703926347 tw16461273782142308311 tw4632680465172097132 tw8699835866631684168 tw4664333266830781704 tw9740406436174205205 tw5063565256600864972 tw7703639914294848211 tw3928695330956635673 tw14205601788266426118 tw6160088232541323227 tw6101258289714584439 tw12141277778990663202 tw5955572598006665099 tw1594265783915947692 tw9453366437826320347 tw196466983695617706 tw9775169097213138707 tw8613420937506614661 tw1989697740109073168 tw15843726275711069467 tw23299255542197532 tw1790546695638482376 tw9555622495276351722 tw4628595007207852405 tw7034883025337690825 tw5650367018296308544 tw2885011108998745639 tw15253604540504266518 tw11282653422187360298 tw7007117914344965590 tw10010201670308791989 tw6243210061114897264 tw15477265131460638190 tw1632126784210241563 tw5188902773674114415 tw12420364137814061278 tw8077629110000652583 tw5062993648664122311 tw2019192758397242231 tw2223321861243706516 tw6280942620714995143 tw8227369977922753899 tw6084554181470029390 tw12185884119042003106 tw17802491573198624457 tw14059685785158601924 tw11900230352847441299 tw14115217401124536944 tw368041436249572747 tw3527921036485081656 tw302310581290844574 tw10270470232563224017 tw12278665807181624566 tw17595377493921703604 tw1405692583363961014 tw2688020285621009189 tw8577665611593750673 tw5525854052872343117 tw11421391630376537510 tw13347866680485000974 tw11854448054818345588 tw321076312409234070 tw4985401608067246137 tw11915148453338088680 tw9856442905940445380 tw7752956459427895108 tw14856101048275821607 tw4571639320785527881 tw14367658898547479633 tw18417290281412130427 tw13275682427557244297 tw1044266036165929126 tw7998284763827263403 tw9214390437001675330 tw17820021420065717568 tw5106890651758433979 tw16600106498339565090 tw3513619654068552198 tw772873792449895934 tw4438275327275364891 tw8067255267856635240 tw5713740588561997889 tw2750163562332126623 tw6713421607298395875 tw10526043917425852911 tw15737570636665016143 tw15601677986588055726 tw8185515674779768144 tw5304829180897942044 tw3695129539864824899 tw2732023550746242406 tw15155276971252265997 tw18119470367647516644 tw12677335516432323641 tw14602491946592222046 tw16941689874791354633 tw10372655969407725191 tw8872769463338688748 tw14635161577255651028 tw4226004263631470422 tw5911288250459740795 tw11088929314892220301 tw8420736123026364341 tw2129544885604643161 tw17367294192011980785 tw3153251805830062565 tw10713915300855002574 tw10434024429136008312 tw15164309507367991230 tw16228937578719265014 tw8217122192727268520 tw680046797494668984 tw3871554305542460200 tw6577274727662946517 tw10517437746409976461 tw14536281638694186919 tw639763090656733880 tw3764858004596260468 tw15033944838441865945 tw16289972339060192143 tw2785204112468292610 tw5375819461367992838 tw10683033416671266275 tw12941618033399215253 tw3373424286342174231 tw14093269283633096630 tw1353028702879277221 tw17616451474694026445 tw14825546225055135694 tw18044177689457280225 tw11773443262663280759 tw7348015506527521982 tw9179699325554571176 tw11930598456141723022 tw8643312222426349195 tw16379399094683526921 tw6786829883507220465 tw13627352974880744348 tw2378061915228617838 tw6720129294499888073 tw6406137333497415115 tw17965968767850596326 tw2855866133376245995 tw6141953231597684264 tw9122231819475810203 tw7246290557010766806 tw11868368940411654592 tw4796119830125033709 tw1793358869358241751 tw4373161823655835214 tw11822315116646449615 tw14373160152801806646 tw10352181092926501602 tw6172913340680272988 tw11295997107437025636 tw810761501494638160 tw3388498527850962672 tw9188414075129150455 tw13687568259302783693 tw96724529763654577 tw16979310374074840241 tw4372952317251241112 tw4137769846594795215 tw11505343491245790886 tw4272791300370674616 tw18441573189921407119 tw10525578318893318557 tw2960071769367391470 tw4338395561100793592 tw12671589959057776018 tw1043702266678851556 tw7533830657761501914 tw8800675301754119272 tw15331506300544648619 tw728757679076022248 tw3660840989027484884 tw2896278864142525580 tw13334337640714382141 tw9171993756042616925 tw5430881821289614601 tw13746271858382545709 tw5587604364804606463 tw8923630731716542184 tw13782196981394021084 tw1634635649037617400 tw15322911619471745474 tw18384223351113832389 tw2774752021087562351 tw6029157536397387244 tw12213877210571343719 tw3745519549393480436 tw11332302928105637398 tw1676955045577213043 tw11240841106123808598 tw2388475575774716150 tw11453665035774695321 tw1719507059905753573 tw5791231191589125446 tw11848135466070064137 tw678944786039323790 tw3892351870665447240 tw8212733312655879959 tw11969949926430753355 tw5234898221134669127 tw7593828829169407467 tw14782434188012325694 tw4182323055438871848 tw203505163371116039 tw10135433391398129698 tw6083487185868699761 tw14161172912336930207 tw944605232730734091 tw14438171985809307062 tw11505100785868857506 tw11119956339942545590 tw16696340241613518522 tw9134771361593641790 tw16175257828160127808 tw9957312501972579946 tw7239509276107984911 tw734970505329008389 tw10847050403424756543 tw5854918859289958798 tw2561251666701561980 tw11872981903759720941 tw12123337202459348894 tw16547390000339485194 tw18336368375184134457 tw12207498245868069789 tw4692046645889312047 tw841574730019513673 tw4909777603235221778 tw10918452421726283468 tw1480119864024612507 tw17875109642301614659 tw10664504212059619514 tw4726662317632270272 tw12468102170334562548 tw9229030205245982351 tw14789559009116716892 tw12453855606975034032 tw14861839457602853218 tw8454672022817644054 tw11206393024476518485 tw3183370408655520227 tw12545769882759450842 tw1768344029123316763 tw640873094676850194 tw9131322731492654413 tw14953788158339733079 tw9108323034888275730 tw6924808099226018026 tw4677787545867171950 tw3227980716306999597 tw12061428788907051693 tw16504318798530366381 tw5516297271635387315 tw348192909172491992 tw8799391057145338426 tw236414124497304496 tw13542718305600613577 tw2645021962880044356 tw10361123331502578129 tw13159565158690285409 tw3655091277744931987 tw3181119743843245779 tw8637881488046552233 tw510403066169260724 tw16792101964431688093 tw17232070484247771648 tw10332945429079709922 tw11639325690640772849 tw2599550028373525826 tw15846577754192751180 tw9953509919132665928 tw16668396479638618448 tw339005027965271385 tw1179952004881297879 tw1722871375409805858 tw4033383906684353341 tw15413842894770349652 tw6387619407909980538 tw2054414460146660563 tw9494439449168093531 tw6768447679288462019 tw6206961040889066593 tw7049991698246758740 tw10824090560316640374 tw15269157335906077027 tw18235819223130655577 tw4379949419312892847 tw12408707237399046105 tw1678654499478017636 tw6875132582704114856 tw17944246416592987783:True)
namespace An13
open PySem L2 An
theorem lV {P:Eg}{w:Ek}{K:Cd}{a:Ef}{b f c g d i:Tok}{n:Nat}(h:K.lookup a=some { cls:=.type "dict",data:=.dict #[⟨LP w.params "leaf",.str "leaf" b,.str "L" f⟩,⟨LP w.params "tree",.str "tree" c,.str "T" g⟩,⟨LP w.params "note",.str "note" d,.str "N" i⟩] n }) :
  KD P w K a xM:=by
 intro l X;refine⟨[(Ep "leaf",.str "L" f),(Ep "tree",.str "T" g),(Ep "note",.str "N" i)],.cons ⟨rfl,f,rfl⟩<|.cons ⟨rfl,g,rfl⟩<|.cons ⟨rfl,i,rfl⟩ .nil,_,_,n,X a _ h,⟨rfl,rfl,rfl⟩,rfl,?_,?_,?_⟩
 ·intro e j;have j:e∈[(⟨LP w.params "leaf",.str "leaf" b,.str "L" f⟩:Mb),⟨LP w.params "tree",.str "tree" c,.str "T" g⟩,⟨LP w.params "note",.str "note" d,.str "N" i⟩]:=by simpa using j
  rcases Zi.mp j with z|z
  ·subst z;exact⟨Ep "leaf",qE _ b,rfl⟩
  ·rcases Zi.mp z with z|z
   ·subst z;exact⟨Ep "tree",qE _ c,rfl⟩
   ·rw[Q9.mp z];exact⟨Ep "note",qE _ d,rfl⟩
 ·exact .cons (qE _ b) rfl (.cons (qE _ c) rfl<|.cons (qE _ d) rfl .nil)
 ·show([Ep "leaf",Ep "tree",Ep "note"]:List Key).Nodup
  decide +kernel
def GF (K:Cd)(x:Str)(st:EQ)(f:Ef):Prop:=Ez K Es x=some (some<|.ref f)/\∃(e:Ee) (g c:Option Ef) (h:Array Dc) (kV d pm b ct:Ee),K.lookup f=some ⟨e,g,.func<|E7 x x (qB st) (xP st) (zG st) .none kV d pm c b ct,h⟩/\Lx K b x=true/\EW K (.ref f)=true
def MF (K:Cd)(C:Ef)(x q:Str)(st:EQ)(f:Ef):Prop:=EN K (.ref C) x=some (some<|.ref f)/\Mu K (.ref f)=true/\∃(e:Ee) (g c:Option Ef) (h:Array Dc) (kV d pm b ct:Ee),K.lookup f=some ⟨e,g,.func<|E7 x q (qB st) (xP st) (zG st) .none kV d pm c b ct,h⟩/\Lx K b q=true/\EW K (.ref f)=true
section
variable {P:Eg}{w:Ek}{K:Cd}{h:Ev}{mg:Str->Dc}{k:Nat}{x q:Str}{st:EQ}{f C:Ef}{ps:Da}{sp:Sp}{oc:Ee}{od an:Option Ef}{sl:Array Dc}{kV dc pm cd ct:Ee}
theorem GF.mk (a:Ez K Es x=some (some<|.ref f))(l:K.lookup f=some ⟨oc,od,.func<|E7 x x (qB st) (xP st) (zG st) .none kV dc pm an cd ct,sl⟩)(c:Lx K cd x=true)(k:EW K (.ref f)=true):GF K x st f:=⟨a,_,_,_,_,_,_,_,_,_,l,c,k⟩
theorem MF.mk (a:EN K (.ref C) x=some (some<|.ref f))(i:Mu K (.ref f)=true)(l:K.lookup f=some ⟨oc,od,.func<|E7 x q (qB st) (xP st) (zG st) .none kV dc pm an cd ct,sl⟩)(c:Lx K cd q=true)(k:EW K (.ref f)=true):MF K C x q st f:=⟨a,i,_,_,_,_,_,_,_,_,_,l,c,k⟩
abbrev BA (x q:Str)(st:EQ)(ps:Da):Prop:=∀(kV doc pm:Ee) (an:Option Ef) (cdv ct:Ee) (us:Db),us.length=ps.length->bindArgs (E7 x q (qB st) (xP st) (zG st) .none kV doc pm an cdv ct) ⟨us,[]⟩=Lo (ps.zip us)
abbrev BX (x q:Str)(st:EQ)(ps:Da)(kV doc pm:Ee)(an:Option Ef)(cdv ct:Ee)(us:Db):Prop:=bindArgs (E7 x q (qB st) (xP st) (zG st) .none kV doc pm an cdv ct) ⟨us,[]⟩=Lo (ps.zip us)
theorem lC9{f:Db}{n:Nat}(z:f.length=n+1):∃a t,f=a::t/\t.length=n:=by cases f with|nil=>cases z|cons a t=>exact⟨a,t,rfl,Nat.succ.inj z⟩
theorem aa (h:∀kV i j an c' ct a,BX x q st ps kV i j an c' ct [a])(l:ps.length=1):BA x q st ps:=by intro kV i j an c' ct f z;obtain⟨_,f,rfl,m⟩:=lC9 (z.trans l);cases f;exact h ..;cases m
theorem ac (h:∀kV i j an c' ct a b,BX x q st ps kV i j an c' ct [a,b])(l:ps.length=2):BA x q st ps:=by intro kV i j an c' ct f z;obtain⟨_,f,rfl,m⟩:=lC9 (z.trans l);obtain⟨_,f,rfl,n⟩:=lC9 m;cases f;exact h ..;cases n
theorem ae (h:∀kV i j an c' ct a b c,BX x q st ps kV i j an c' ct [a,b,c])(l:ps.length=3):BA x q st ps:=by intro kV i j an c' ct f z;obtain⟨_,f,rfl,m⟩:=lC9 (z.trans l);obtain⟨_,f,rfl,n⟩:=lC9 m;obtain⟨_,f,rfl,o⟩:=lC9 n;cases f;exact h ..;cases o
theorem af (h:∀kV i j an c' ct a b c d,BX x q st ps kV i j an c' ct [a,b,c,d])(l:ps.length=4):BA x q st ps:=by intro kV i j an c' ct f z;obtain⟨_,f,rfl,m⟩:=lC9 (z.trans l);obtain⟨_,f,rfl,n⟩:=lC9 m;obtain⟨_,f,rfl,o⟩:=lC9 n;obtain⟨_,f,rfl,p⟩:=lC9 o;cases f;exact h ..;cases p
theorem ag (h:∀kV i j an c' ct a b c d e,BX x q st ps kV i j an c' ct [a,b,c,d,e])(l:ps.length=5):BA x q st ps:=by intro kV i j an c' ct f z;obtain⟨_,f,rfl,m⟩:=lC9 (z.trans l);obtain⟨_,f,rfl,n⟩:=lC9 m;obtain⟨_,f,rfl,o⟩:=lC9 n;obtain⟨_,f,rfl,p⟩:=lC9 o;obtain⟨_,f,rfl,r⟩:=lC9 p;cases f;exact h ..;cases r
theorem GF.cal (X:K.In h)(G:h.Ns Es mg)(a:GF K x st f)(b:Ev)(g:∀fd,wY K x x st f fd->mg x=some (.ref f)->wU K fd ps []->yx P w K mg b Cn k f fd ps sp)(e:BA x x st ps:=by first|exact aa (fun _ _ _ _ _ _ _=>rfl) rfl|exact ac (fun _ _ _ _ _ _ _ _=>rfl) rfl|exact ae (fun _ _ _ _ _ _ _ _ _=>rfl) rfl|exact af (fun _ _ _ _ _ _ _ _ _ _=>rfl) rfl|exact ag (fun _ _ _ _ _ _ _ _ _ _ _=>rfl) rfl):wZ P w K mg b k x ps sp:=by
 obtain⟨d,_,_,_,_,_,_,_,_,_,l,c,kp⟩:=a;have F:=U1 l c kp;exact wZ.mk' F (g _ F (Z9 X G d)<|F.binds e) (Z9 X G d)<|F.binds e
theorem GF.qe (X:K.In h)(G:h.Ns Es mg)(a:GF K x st f)(b:Ev)(g:∀fd,wY K x x st f fd->mg x=some (.ref f)->wU K fd ps []->yx P w K mg b (CH P w) k f fd ps sp)(e:BA x x st ps:=by first|exact aa (fun _ _ _ _ _ _ _=>rfl) rfl|exact ac (fun _ _ _ _ _ _ _ _=>rfl) rfl|exact ae (fun _ _ _ _ _ _ _ _ _=>rfl) rfl|exact af (fun _ _ _ _ _ _ _ _ _ _=>rfl) rfl|exact ag (fun _ _ _ _ _ _ _ _ _ _ _=>rfl) rfl):tW P w K mg b k x ps sp:=by
 obtain⟨d,_,_,_,_,_,_,_,_,_,l,c,kp⟩:=a;have F:=U1 l c kp;exact tW.mk' F (g _ F (Z9 X G d)<|F.binds e) (Z9 X G d)<|F.binds e
theorem MF.met (a:MF K C x q st f)(b:Ev)(g:∀fd,wY K x q st f fd->yx P w K mg b Cn k f fd ps sp)(e:BA x q st ps:=by first|exact aa (fun _ _ _ _ _ _ _=>rfl) rfl|exact ac (fun _ _ _ _ _ _ _ _=>rfl) rfl|exact ae (fun _ _ _ _ _ _ _ _ _=>rfl) rfl|exact af (fun _ _ _ _ _ _ _ _ _ _=>rfl) rfl|exact ag (fun _ _ _ _ _ _ _ _ _ _ _=>rfl) rfl):Met P w K mg b C k x ps sp:=by
 obtain⟨d,i,_,_,_,_,_,_,_,_,_,l,c,kp⟩:=a;have F:=U1 l c kp;exact⟨⟨_,_,g _ F,⟨d,i,kp⟩,F.binds e⟩⟩
theorem MF.nu (a:MF K C x q st f)(b:Ev)(g:∀fd,wY K x q st f fd->yx P w K mg b (CH P w) k f fd ps sp)(e:BA x q st ps:=by first|exact aa (fun _ _ _ _ _ _ _=>rfl) rfl|exact ac (fun _ _ _ _ _ _ _ _=>rfl) rfl|exact ae (fun _ _ _ _ _ _ _ _ _=>rfl) rfl|exact af (fun _ _ _ _ _ _ _ _ _ _=>rfl) rfl|exact ag (fun _ _ _ _ _ _ _ _ _ _ _=>rfl) rfl):tQ P w K mg b C k x ps sp:=by
 obtain⟨d,i,_,_,_,_,_,_,_,_,_,l,c,kp⟩:=a;have F:=U1 l c kp;exact⟨⟨_,_,g _ F,⟨d,i,kp⟩,F.binds e⟩⟩
theorem MF.mak (a:MF K C "__init__" q st f)(b:Ev)(m:Mr K C=true)(j:EW K (.ref C)=true)(h:mg x=some (.ref C))(g:∀fd,wY K "__init__" q st f fd->yx P w K mg b Cn k f fd ps sp)(e:BA "__init__" q st ps:=by first|exact aa (fun _ _ _ _ _ _ _=>rfl) rfl|exact ac (fun _ _ _ _ _ _ _ _=>rfl) rfl|exact ae (fun _ _ _ _ _ _ _ _ _=>rfl) rfl|exact af (fun _ _ _ _ _ _ _ _ _ _=>rfl) rfl|exact ag (fun _ _ _ _ _ _ _ _ _ _ _=>rfl) rfl):jz P w K mg b C k x ps sp:=by
 obtain⟨d,i,_,_,_,_,_,_,_,_,_,l,c,kp⟩:=a;have F:=U1 l c kp;exact⟨⟨_,_,g _ F,⟨m,d,i,j⟩,F.binds e,h⟩⟩
theorem GF.ex (X:K.In h)(G:h.Ns Es mg)(a:GF K x st f)(e:BA x x st ps:=by first|exact aa (fun _ _ _ _ _ _ _=>rfl) rfl|exact ac (fun _ _ _ _ _ _ _ _=>rfl) rfl|exact ae (fun _ _ _ _ _ _ _ _ _=>rfl) rfl|exact af (fun _ _ _ _ _ _ _ _ _ _=>rfl) rfl|exact ag (fun _ _ _ _ _ _ _ _ _ _ _=>rfl) rfl):∃fd,wY K x x st f fd/\mg x=some (.ref f)/\wU K fd ps []:=by
 obtain⟨b,_,_,_,_,_,_,_,_,_,l,c,kp⟩:=a;have F:=U1 l c kp;exact⟨_,F,Z9 X G b,F.binds e⟩
end
set_option maxHeartbeats 0 in
theorem all_mk {l:PySem.W.OpenLaw}{w:Ek}{K:Cd}{h:Ev}{mg:Str->Dc}{fa:Ef}{t1 t2 t3 t4 t5 t6 t7:Tok}{aL aC j aT aA b1 b2:Ef}(X:K.In h)(G:h.Ns Es mg)(gp:mg "law"=some (.ref fa))
  (C:Ez K Es "len"=some none)
  (z:Ez K Es "all"=some none)
  (E:Ez K Es "ord"=some none)
  (DC:Ez K Es "isinstance"=some none)
  (I:Ez K Es "str"=some none)
  (H:Ez K Es "set"=some none)
  (DU:Ez K Es "sorted"=some none)
  (D2:Ez K Es "tuple"=some none)
  (D8:Ez K Es "list"=some none)
  (D:Ez K Es "max"=some none)
  (B:Ez K Es "int"=some none)
  (Ea:Ez K Es "bool"=some none)
  (D3:Ez K Es "range"=some none)
  (D9:Ez K Es "dict"=some none)
  (A:Ez K Es "any"=some none)
  (DD:Ez K Es "enumerate"=some none)
  (Dy:Ez K Es "LONGEST_LINE"=some (some<|.int 20 t1))
  (Du:Ez K Es "LONGEST_LABEL"=some (some<|.int 8 t2))
  (Dx:Ez K Es "MOST_PARENTS"=some (some<|.int 2 t3))
  (DM:Ez K Es "PERCENT"=some (some<|.int 37 t4))
  (DA:Ez K Es "MOST_LABELS"=some (some<|.int 4 t7))
  (Dv:Ez K Es "DIGEST_FACTOR"=some (some<|.int 31 t5))
  (Dz:Ez K Es "DIGEST_BOUND"=some (some<|.int 97 t6))
  (DO:Ez K Es "LETTERS"=some (some<|.ref aL))
  (DV:Ez K Es "NoName"=some (some<|.ref j))
  (DN:Ez K Es "NoThing"=some (some<|.ref aT))
  (DB:Ez K Es "AnnalsError"=some (some<|.ref aA))
  (DP:Ez K Es "BadPath"=some (some<|.ref b1))
  (DI:Ez K Es "BadFiles"=some (some<|.ref b2))
  (D4:Ez K Es "Shelf"=some (some<|.ref aC))
  (DQ:E9 K j U7 "ValueError.__new__"=true)
  (Eb:PySem.W.exmOne K (.ref j) (.ref aA)=some true)
  (t:PySem.W.uy K j)
  (u:ER K (.ref j) (.ref j)=some true)
  (DJ:E9 K aT U7 "ValueError.__new__"=true)
  (DK:E9 K b1 U7 "ValueError.__new__"=true)
  (DF:E9 K b2 U7 "ValueError.__new__"=true)
  (R:KD l.prog w K aL xM)
  (q:LR K aC Mj=true)
  (n:Me K aC=true)
  (r:PySem.W.plainOver K aC=true)
  (y:EN K (.ref aC) "__setattr__"=some (some<|.builtin "object.__setattr__"))
  (p:Mr K aC=true)
  (o:EW K (.ref aC)=true)
  (S:EN K (.ref aC) "thing_by_name"=some none)
  (U:EN K (.ref aC) "name_by_thing"=some none)
  (Y:EN K (.ref aC) "next_numbers"=some none)
  (x:∀a∈kinds,∀b∈kinds,ER K (.type a) (.type b)=some (a==b||(a=="bool"&&b=="int")))
  {f0 f1 f2 f3 f4 f5 f6 f7 f8 f9 ew ey ez e0 e1 e2 e3 e4 e5 e6 e7 e8 e9 fb fc fe ff fg fh fi fj fk fl fm fn fo fp fq fr ft fu fv fw fx fy fz ga gb gc gd ge gf gg gh gi gj gk gl gm gn:Ef}
  (a0:GF K "_law_mixed" AX.st f0)
  (a1:GF K "_law_labels" AY.st f1)
  (a2:GF K "_law_paths" AZ.st f2)
  (a3:GF K "_law_cell" AW.st f3)
  (a4:GF K "_law_is_free" A2.st f4)
  (a5:GF K "_law_lines" A0.st f5)
  (a6:GF K "_law_files" A3.st f6)
  (a7:GF K "_law_others" A4.st f7)
  (a8:MF K aC "names" "Shelf.names" Au.st f8)
  (a9:MF K aC "take" "Shelf.take" Av.st f9)
  (de:GF K "is_key" Aw.st ew)
  (df:MF K aC "has" "Shelf.has" Ax.st ey)
  (dh:GF K "need_name" Ay.st ez)
  (di:MF K aC "thing" "Shelf.thing" Az.st e0)
  (dj:MF K aC "__init__" "Shelf.__init__" AD.st e1)
  (dk:GF K "is_sign" Aa.st e2)
  (dl:GF K "is_line" Ab.st e3)
  (dm:GF K "is_lines" Ac.st e4)
  (dn:GF K "is_leaf" Ah.st e5)
  (dp:GF K "is_label" Ad.st e6)
  (dq:GF K "is_row" Ae.st e7)
  (dr:GF K "is_rows" Ag.st e8)
  (ds:GF K "is_tree" Ai.st e9)
  (du:GF K "is_parents" Af.st fb)
  (dv:GF K "is_note" Aj.st fc)
  (dx:GF K "is_thing" Ak.st fe)
  (dy:GF K "need_thing" Al.st ff)
  (dz:MF K aC "need_form" "Shelf.need_form" AA.st fg)
  (d0:MF K aC "need_names" "Shelf.need_names" AB.st fh)
  (d1:GF K "letter_of" Am.st fi)
  (d2:GF K "tree_parts" Ao.st fj)
  (d3:GF K "parts_of" Ap.st fk)
  (d4:GF K "counted" Aq.st fl)
  (d5:GF K "spelled" Ar.st fm)
  (d6:GF K "digest" As.st fn)
  (d7:MF K aC "put" "Shelf.put" AC.st fo)
  (d8:GF K "is_path" AE.st fp)
  (d9:GF K "is_file" AH.st fq)
  (ea:GF K "folders_of" AG.st fr)
  (eb:GF K "need_files" AK.st ft)
  (ec:GF K "put_rows" AI.st fu)
  (ed:GF K "put_files" AJ.st fv)
  (ee:GF K "keep_files" AL.st fw)
  (ef:GF K "names_form" AM.st fx)
  (eg:GF K "need_root" AN.st fy)
  (eh:GF K "rows_of" AO.st fz)
  (ei:GF K "add_at" AT.st ga)
  (ej:GF K "add_beneath" AS.st gb)
  (ek:GF K "changes_of" AU.st gc)
  (el:GF K "_law_refused" A8.st gd)
  (em:GF K "_law_whole" AV.st ge)
  (en:GF K "labels_of" AF.st gf)
  (eo:GF K "found_at" AQ.st gg)
  (ep:GF K "_law_name" A7.st gh)
  (eq:GF K "_law_beneath" A5.st gi)
  (er:GF K "_law_opened" A6.st gj)
  (es:GF K "lines_at" AR.st gk)
  (et:GF K "read_rows" A1.st gl)
  (eu:GF K "_law_good" A9.st gm)
  (ev:GF K "law" Ca.st gn) :
  ∃fd:Eo,(∀(s:Ei) (v:Ee),BindsTo s fd ⟨[v],[]⟩ [("_law_script",v)])/\∀base:Ev,K.In base->base.Ns Es mg->yx l.prog w K mg base Cn 20 fa fd ["_law_script"] (qg K):=by
 have T:Txt l.prog w K mg t1 t2 t3 t4 t5 t6 t7 aL aC j aT aA b1 b2:=⟨Z1 X G C,Z1 X G z,Z1 X G E,Z1 X G DC,Z1 X G I,Z1 X G H,Z1 X G DU,Z1 X G D2,Z1 X G D8,Z1 X G D,Z1 X G B,Z1 X G Ea,Z1 X G D3,Z1 X G D9,Z1 X G A,Z1 X G DD,Z9 X G Dy,Z9 X G Du,Z9 X G Dx,Z9 X G DM,Z9 X G DA,Z9 X G Dv,Z9 X G Dz,Z9 X G DO,Z9 X G DV,Z9 X G DN,Z9 X G DB,Z9 X G DP,Z9 X G DI,Z9 X G D4,DQ,Eb,t,u,DJ,DK,DF,R,⟨q,n,r,y⟩,S,U,Y,x⟩;obtain⟨hL,oc,od,an,sl,kV,dc,pm,cd,ct,lL,cL,kL⟩:=ev;have e:=gp.symm.trans<|Z9 X G hL;cases e;refine⟨E7 "law" "law" (qB Ca.st) (xP Ca.st) (zG Ca.st) .none kV dc pm an cd ct,fun s v=>.of_eq rfl,fun b _ _=>?_⟩;have Z:=a0.cal X G b fun _ F _ _=>AX.ok F T;have C1:=a1.cal X G b fun _ F _ _=>AY.ok F T Z;have C2:=a2.cal X G b fun _ F _ _=>AZ.ok F T C1;have C3:=a3.cal X G b fun _ F _ _=>AW.ok F T;have C4:=a4.cal X G b fun _ F _ _=>A2.ok F T;have C5:=a5.cal X G b fun _ F _ _=>A0.ok F T Z;have C6:=a6.cal X G b fun _ F _ _=>A3.ok F T Z C4 C5;have C7:=a7.cal X G b fun _ F _ _=>A4.ok F T Z C4 C5;have C8:=a8.met (mg:=mg) b fun _ F=>Au.ok F T;have C9:=a9.met (mg:=mg) b fun _ F=>Av.ok F T;have ab:=de.cal X G b fun _ F _ _=>Aw.ok F T;have d:=df.met (mg:=mg) b fun _ F=>Ax.ok F T ab;have al:=dh.qe X G b fun _ F _ _=>Ay.ok F T d;have c:=di.nu (mg:=mg) b fun _ F=>Az.ok F T al;have ap:=dj.mak b p o T.lK fun _ F=>AD.ok F T C8 C9 c;have as:=dk.cal X G b fun _ F _ _=>Aa.ok F T;have J:=dl.cal X G b fun _ F _ _=>Ab.ok F T as;have L:=dm.cal X G b fun _ F _ _=>Ac.ok F T J;have ax:=dn.cal X G b fun _ F _ _=>Ah.ok F T L;have M:=dp.cal X G b fun _ F _ _=>Ad.ok F T;have ay:=dq.cal X G b fun _ F _ _=>Ae.ok F T M;have bd:=dr.cal X G b fun _ F _ _=>Ag.ok F T ay;have bl:=ds.cal X G b fun _ F _ _=>Ai.ok F T bd;have bm:=du.cal X G b fun _ F _ _=>Af.ok F T;have bo:=dv.cal X G b fun _ F _ _=>Aj.ok F T bm J;have bz:=dx.cal X G b fun _ F _ _=>Ak.ok F T ax bl bo;have b3:=dy.qe X G b fun _ F _ _=>Al.ok F T bz;have b4:=dz.nu (mg:=mg) b fun _ F=>AA.ok F T c;have ca:=d0.nu (mg:=mg) b fun _ F=>AB.ok F T b4;have N:=d1.cal X G b fun _ F _ _=>Am.ok F T;have cf:=d2.cal X G b fun _ F _ _=>Ao.ok F T;have cg:=d3.cal X G b fun _ F _ _=>Ap.ok F T cf;have ch:=d4.cal X G b fun _ F _ _=>Aq.ok F T;have cl:=d5.cal X G b fun _ F _ _=>Ar.ok F T N cg ch;have co:=d6.cal X G b fun _ F _ _=>As.ok F T cl;have f:=d7.nu (mg:=mg) b fun _ F=>AC.ok F T b3 ca N co C9;have O:=d8.cal X G b fun _ F _ _=>AE.ok F T M;have cp:=d9.cal X G b fun _ F _ _=>AH.ok F T O L;have cr:=ea.cal X G b fun _ F _ _=>AG.ok F T;have cu:=eb.qe X G b fun _ F _ _=>AK.ok F T cp cr;have cv:=ec.cal X G b fun _ F _ _=>AI.ok F T f;have cx:=ed.cal X G b fun _ F m h=>AJ.ok F T f cv m h;have c0:=ee.qe X G b fun _ F _ _=>AL.ok F T cu cx;have g:=ef.cal X G b fun _ F _ _=>AM.ok F T d c;have P:=eg.qe X G b fun _ F _ _=>AN.ok F T g;have i:=eh.cal X G b fun _ F _ _=>AO.ok F T c;obtain⟨_,dd,gq,go⟩:=ei.ex (ps:=["store","path","before","after","rows"]) X G;have c1:=ej.cal X G b fun _ F m h=>RU F dd T g i m h gq go;have Q:=ek.qe X G b fun _ F _ _=>AU.ok F T P i c1;have c2:=el.cal X G b fun _ F _ _=>A8.ok F T Q;have c3:=em.cal X G b fun _ F _ _=>AV.ok F T;have c4:=en.qe X G b fun _ F _ _=>AF.ok F T O;have c5:=eo.qe X G b fun _ F _ _=>AQ.ok F T P c4 g i;have c6:=ep.cal X G b fun _ F _ _=>A7.ok F T c5;have c7:=eq.cal X G b fun _ F _ _=>A5.ok F T;have c8:=er.cal X G b fun _ F _ _=>A6.ok F T c7;have c9:=es.cal X G b fun _ F _ _=>AR.ok F T c;have da:=et.cal X G b fun _ F _ _=>A1.ok F T c9;have db:=eu.cal X G b fun _ F _ _=>A9.ok F T c3 c6 c8 da;exact Ca.ok (U1 (st:=Ca.st) lL cL kL) T C2 C3 C6 C7 ap C8 d c f c0 Q c2 db
theorem walk {l:PySem.W.OpenLaw}{q:Eg}{b:Da}{g:(Str->Dc)->Ev->Prop}{e:Ek->Ev->Prop}{d:DefRec}{K:Params->Cd}(hn:l.most=some 63)(c:d.params.defaults=[])
  (j:∀(w:Ek) (h:Ev),e w h->(K w.params).In h)
  (F:∀(w:Ek) (mg:Str->Dc) (fa:Ef) (h:Ev),(K w.params).In h->h.Ns Es mg->mg d.name=some (.ref fa) -> ∃fd:Eo,(∀(s:Ei) (u:Ee),BindsTo s fd ⟨[u],[]⟩ [("_law_script",u)])/\∀base:Ev,(K w.params).In base->base.Ns Es mg->yx l.prog w (K w.params) mg base Cn 20 fa fd ["_law_script"] (qg<|K w.params)) :
  PySem.W.WalkO q b g e l.row.toRowW d [] (fun f vs=>PySem.call f vs) :=
 L2.mZ (n:=63) (k:=20) (x:="_law_script") (CX:=fun _=>Cn) (sp:=fun w=>qg<|K w.params) hn (by decide) c ⟨rfl,by decide,by decide⟩ j F (fun _ _ a ns hl _ i=>⟨a,ns,rfl,i,hl,fun _=>rfl⟩) fun _ _ _ _ _ z=>z
end An13
end
open PySem PySem.W PyProof.Rows
set_option maxRecDepth 100000 in
set_option maxHeartbeats 0 in
theorem PySem.Challenge.cw_annals_k13_changed_trees_holds : PySem.Challenge.rw_annals_k13_changed_trees.Holds := by
 w_on;o_law;k_head;(case hw=>w_witness2)
 k_fill
 refine An13.walk (l:=PySem.Challenge.rw_annals_k13_changed_trees) rfl rfl (fun w h Y=>PySem.W.kIn_of Y) ?F
 case F =>
  intro w mg fa h KX G hmg;refine' An13.all_mk KX G hmg ?z_len ?z_all ?z_ord ?DC ?z_str ?z_set ?DU ?D2 ?D8 ?z_max ?z_int ?Ea ?D3 ?D9 ?z_any ?DD ?Dy ?Du ?Dx ?DM ?DA ?Dv ?Dz ?DO ?DV ?DN ?DB ?DP ?DI ?D4 ?DQ ?Eb ?s_ekN ?s_kN4 ?DJ ?DK ?DF ?s_kd ?pg_aC ?hd_aC ?po_aC ?sa_aC ?mk_aC ?kc_aC ?s_n1 ?s_n2 ?s_n3 ?s_kit ?a0 ?a1 ?a2 ?a3 ?a4 ?a5 ?a6 ?a7 ?a8 ?a9 ?a10 ?a11 ?a12 ?a13 ?a14 ?a15 ?a16 ?a17 ?a18 ?a19 ?a20 ?a21 ?a22 ?a23 ?a24 ?a25 ?a26 ?a27 ?a28 ?a29 ?a30 ?a31 ?a32 ?a33 ?a34 ?a35 ?a36 ?a37 ?a38 ?a39 ?a40 ?a41 ?a42 ?a43 ?a44 ?a45 ?a46 ?a47 ?a48 ?a49 ?a50 ?a51 ?a52 ?a53 ?a54 ?a55 ?a56 ?a57 ?a58 ?a59
  case z_len|z_all|z_ord|DC|z_str|z_set|DU|D2|D8|z_max|z_int|Ea|D3|D9|z_any|DD|Dy|Du|Dx|DM|DA|Dv|Dz|DO|DV|DN|DB|DP|DI|D4=>k_is
  case a0|a1|a2|a3|a4|a5|a6|a7=>(apply An13.GF.mk;k_is;k_is;k_is;k_is)
  case a8|a9=>(apply An13.MF.mk;k_is;k_is;k_is;k_is;k_is)
  case a10=>(apply An13.GF.mk;k_is;k_is;k_is;k_is)
  case a11=>(apply An13.MF.mk;k_is;k_is;k_is;k_is;k_is)
  case a12=>(apply An13.GF.mk;k_is;k_is;k_is;k_is)
  case a13|a14=>(apply An13.MF.mk;k_is;k_is;k_is;k_is;k_is)
  case a15|a16|a17|a18|a19|a20|a21|a22|a23|a24|a25|a26=>(apply An13.GF.mk;k_is;k_is;k_is;k_is)
  case a27|a28=>(apply An13.MF.mk;k_is;k_is;k_is;k_is;k_is)
  case a29|a30|a31|a32|a33|a34=>(apply An13.GF.mk;k_is;k_is;k_is;k_is)
  case a35=>(apply An13.MF.mk;k_is;k_is;k_is;k_is;k_is)
  case a36|a37|a38|a39|a40|a41|a42|a43|a44|a45|a46|a47|a48|a49|a50|a51|a52|a53|a54|a55|a56|a57|a58|a59=>(apply An13.GF.mk;k_is;k_is;k_is;k_is)
  case DQ|Eb=>first|k_is|kernel_rfl|rfl|(with_unfolding_all rfl)|decide +kernel +revert
  case s_ekN=>(constructor<;>first|k_is|kernel_rfl|rfl|(with_unfolding_all rfl)|decide +kernel +revert)
  case s_kN4|DJ|DK|DF=>first|k_is|kernel_rfl|rfl|(with_unfolding_all rfl)|decide +kernel +revert
  case s_kd=>exact An13.lV (by k_is)
  case pg_aC|hd_aC|po_aC|sa_aC|mk_aC|kc_aC|s_n1|s_n2|s_n3=>k_is
  case s_kit=>(intro a ha b hb;simp only[An13.kinds,Zi,Yq,J3]at ha hb;rcases ha with rfl|rfl|rfl|rfl|rfl|rfl|rfl<;>rcases hb with rfl|rfl|rfl|rfl|rfl|rfl|rfl<;>rfl)
