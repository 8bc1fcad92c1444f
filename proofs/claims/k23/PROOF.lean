import PyProof.Rows.All
import Wide.All
import OpenK.AllK
import PySem.Challenge.RW_annals_k23_whole_versions
set_option Elab.async false
set_option linter.all false
set_option compiler.extract_closed false
set_option genSizeOf false
set_option maxRecDepth 100000
set_option maxHeartbeats 4000000
abbrev Da:=List PySem.Str
abbrev Db:=List PySem.Value
abbrev Dc:=Option PySem.Value
abbrev Dd:=List PySem.Addr
abbrev De:=List<|PySem.Addr×PySem.Obj
abbrev Df:=List PySem.PyData
abbrev Dg:=List<|PySem.Str×PySem.Str
abbrev Dh:=PySem.Shared->Prop
abbrev Cq:=PySem.W.Frag
open List renaming length_map->Zk,mem_singleton->Zl,mem_cons_of_mem->Zn,mem_cons->Zo,mem_map->Zr,mem_cons_self->Zs,getElem?_eq_getElem->Zv,map_append->Zx,getElem?_map->Zy,length_append->ZB,not_mem_nil->ZD,length_cons->ZF,mem_of_getElem?->ZG,getElem?_eq_some_iff->ZJ,map_cons->ZL,map_map->ZM,size_toArray->ZP,all_eq_true->ZQ,mem_append->ZR,length_take->ZS,take_length->ZV,mem_append_right->ZW,nodup_cons->ZY,append_nil->Z2,mem_iff_getElem->Z4,any_eq_true->Z8,getElem_map->Z9,getElem?_append_left->Ya,map_congr_left->Yf,take_add_one->Yi,nodup_iff_pairwise_ne->Yj,mem_append_left->Yl,getElem?_append_right->Ym,getElem_mem->Yo,cons_ne_nil->Yr,getElem?_eq_none->Yv,append_assoc->YC,nodup_append->YD,cons_lt_cons_iff->YG,length_range->YI,nodup_nil->YL,getD_eq_getElem?_getD->YM,find?_cons->YN,mem_flatMap->YQ,pairwise_map->YU,eq_nil_of_length_eq_zero->YV,take_append_drop->YW,perm_ext_iff_of_nodup->Y3,filterMap_cons->Y5,length_nil->Y7,length_singleton->Y8,mem_iff_getElem?->Y9,mem_of_mem_take->Jf,flatMap_cons->Jg,length_drop->Jo,getElem?_zip_eq_some->Jw,pairwise_iff_getElem->Jx,foldl_append->Jy,sum_cons->JC,mem_range->JF,getElem_inj->JG,filter_cons->JI,eq_nil_iff_forall_not_mem->JJ,mem_filterMap->JQ,take_of_length_le->JS,of_mem_zip->JU,foldl_cons->JW,idxOf_lt_length_of_mem->J2,not_lt->J6,idxOf_eq_length->J8,flatMap_def->Vd,map_fst_zip->Ve,length_pos_iff->Vf,map_take->Vh,pairwise_cons->Vs,map_id->Vu,pairwise_singleton->Vv,append_cancel_left->Vw,map_nil->VE,lt_irrefl->VL,getElem?_toArray->VR,getElem?_set_ne->VY,nil_append->V3,getElem?_range->V7,getElem?_concat_length->V9,drop_zero->Ub,any_eq_false->Ug,flatMap_nil->Ut,le_antisymm->Uu,sum_append->Uz
open PySem renaming wpAny_bind->Zm,wpAny_pure->Zu,boot_len->ZZ,wpAny_newObj_type->Yh,wpAny_holding->Yp,wpAny_call_entry->Yq,wpAny_mono->Yy,wpAny_callSpecial?_slot->Yz,wpAny_setField->YJ,sizeLine_eq->YK,wpAny_Call_Name_kw->Y0,wpAny_truthy_bool->Y2,mem_of_lookup->Y6,wpAny_isInstance->Jb,wpAny_field->Jd,codeAny_builtin->Jh,codeAny_mono->Jl,wpAny_attempt->Jn,wpAny_setState_of->Jz,wpAny_setEntries_of->JE,wpAny_askSetting->JK,isSubtype_type->JL,wpAny_of_eq->JN,call_meetsIn->JR,wpAny_specialOf->JV,wpAny_pyIter_list->J0,wpAny_rule->J4,wpAny_seqItems->J5,plainId_quiet->Vi,wpAny_passesOwn->Vj,wpAny_ite_split->Vk,wpAny_updateSeq->Vl,wpAny_call->Vm,typeIs_str->Vo,tupleKind_room_in1->Vp,isSubtype_stop->VI,wpAny_fieldsOf->VM,codeAny_call_builtin->V0,wpAny_typeNameOfWhole_keyiter->V1,wpAny_execs_nil->V2,wpAny_richCompare_same_room->V8,call_meets->Ua,wpAny_tupleItemsOf->Uc,wpAny_Call_method->Uk,wpAny_execs_cons->Uq,wpAny_forIn_list->Ur,wpAny_typeOf->Uv
open PySem.Heap renaming get?_push_of_some->Zp,get?_push_size->Zz,lt_size->ZC,get?_update_other->ZX,get?_update_self->Yd,size_push->Je,get?_none_of_le->VX
abbrev Zq:=@decide_eq_true
abbrev ZE:=@decide_eq_false
abbrev ZH:=@if_neg
abbrev ZI:=@of_decide_eq_true
abbrev ZK:=@if_pos
abbrev ZN:=@decide_eq_true_iff
abbrev Yc:=@decide_eq_true_eq
abbrev Ye:=@or_false
abbrev YT:=@beq_eq_false_iff_ne
abbrev Js:=@if_false
abbrev Ju:=@of_decide_eq_false
abbrev JB:=@beq_iff_eq
abbrev Vb:=@decide_eq_decide
abbrev Vc:=@beq_self_eq_true
abbrev Vr:=@not_or
abbrev Vy:=@decide_eq_false_iff_not
abbrev VJ:=@iff_of_false
abbrev V6:=@ne_true_of_eq_false
abbrev Uj:=@if_true
abbrev Ux:=@getElem?_pos
open Nat renaming le_refl->Zt,ne_of_lt->ZO,lt_of_lt_of_le->ZU,zero_le->Yb,le_trans->Yk,lt_irrefl->YB,le_of_lt->YE,succ_le_succ->Jp,lt_succ_self->JH,le_succ->JM,ne_of_gt->JP,eq_zero_or_pos->JT,lt_succ_of_lt->J1,le_of_eq->J9,lt_of_le_of_lt->Vq,lt_trichotomy->VH,min_le_right->VT,zero_add->Uw,not_lt_zero->UA
open Bool renaming and_eq_true->Zw,false_ne_true->Z3,false_eq_true->Yt,eq_iff_iff->Yx,eq_false_iff->YH,and_false->Jt,or_eq_false_iff->JA,false_and->Vz,not_eq_true'->Ul,false_or->Um,not_true->Uo,or_eq_true->Uy
open PyProof.Rows renaming boot_isinstance->ZA,boot_str->Z7,boot_list->Yw,boot_tuple->YA,boot_dict->YR,boot_sorted->YX,boot_all->Ja,callWith_type1->Jk,toString_length_le->JD,slot_tuple_getitem->VN,callWith_builtin1->VS,int_text_len_1921->VW,slice_closes_toL->VZ
open Array renaming length_toList->ZT,getD_eq_getD_getElem?->Yg,getElem?_toList->Yu,getElem?_eq_getElem->YS,getElem?_eq_none->Jm,getElem?_eq_some_iff->Jq,getElem_toList->J7
open Option renaming map_eq_some_iff->Z0,isSome_iff_exists->Z6,map_some->YO,not_isSome_iff_eq_none->JO,isSome_map->VG,getD_some->VU
open PySem.W renaming mg_of->Z1,mg_none_of->Z5,kia_one->Ys,hideAll_get->Ji,callWith_K->Jr,methodCall_KW->JX,hideAll_none->J3,cellsFrom_some->VB,plainGet_of->V4,callWith_K0->V5,kitx_list->Uh,kitx_dict->Ui,kdl_dict->Us
open Int renaming eq_ofNat_of_zero_le->Yn,toNat_natCast->VD,natAbs_natCast->Ud,natCast_nonneg->Ue,emod_lt_of_pos->Uf,emod_nonneg->UB
open PySem.F renaming plainAttrs_str->YF,slot_list_append->YY,type_list_append->YZ,plainAttrs_list->Y1,slot_str_join->JY,type_str_join->JZ,plainAttrs_dict->Vt,slot_dict_pop->VO,slot_dict_get->VP
open PySem.Value renaming isStrOf_shape->Y4
open List.Perm renaming eq_of_pairwise->Jc
open PyProof.Rows.F renaming plain_set_update_loop->Jj,entry_set_update_loop->Vg
open LawfulBEq renaming eq_of_beq->Va
open PySem.W.KIN renaming signs_num->VQ
open PySem renaming Addr->Eo,Value->Ep,Program->Er,wpAny->Es,Shared->Et,World->Eu,FuncData->Ev,PyData->Ey,model->Ez,mainGlobals->EA,starEach->EG,Heap->EI,Around->EJ,Expr->EN,Stmt->ER,compareOp->ES,sysModules->E3,cLine->E8,rawInt->E9,eval->Lc,backTo->Li,Paired->Lq,SetTable->Ly,attributeBase->LD,keywordEach->LP,assignEach->LQ,pyNext->LR,codeAny->LS,ReadsAll->LU,Scope->LV,foldedSetIterable->LW,richCompare->LZ,firstArgMember->L5,bootBuiltins->L9,NameKind->Mb,letOwnedTupleGo->Mc,valueAt->Me,entryOfKey->Mh,swapsWith->Mi,sliceBounds->Ml,DictEntry->Mm,pickOrder->Mn,getMethod->Mu,scanBound->Mx,binaryOp->Mz,backToKw->MA,compEnvC->MB,holding->MG
open PySem.PyData renaming strOk->Ew,canLayAll0->EE,depthAll->EK,eqv->EM,str->EQ,eqvAll->E5,keyHash->L7
open PySem.Value renaming ref->EB,none->EH,isStrOf->Le,str->L8,bool->Mg,int->Mt,isInt->My
open Ne renaming symm->EC
open Sum renaming inr->ED
open PySem.W renaming nsIn->EF,findIn->EO,kitOne->EV,excIn->EX,keepIn->EY,emptyDict->Ld,fnOf->Lf,instObj->Lr,plainGet->LJ,codeIn->LK,hasDictIn->LX,makesIn->Md,plainOver->Mo,isFn->MH
open False renaming elim->EL
open List renaming range->ET,toArray->Ll,replicate->LI,lookup->LO
open Or renaming inl->EU
open PySem.SeqAt renaming shaped->EW,eqBoolOverData->L4
open PySem.Str renaming ofString->EZ,length_append->LA,empty->Mj,join->MI
open PySem.Obj renaming mapSeq->E2,mapFields->LB,data_mapFields->Mf,putSet->MJ
open PySem.Builtin.Tuple renaming tupleHashOf->E4,tupleExact->LF
open PySem.Heap.SameBut renaming update->E6
open ToString renaming toString->E7
open PySem.Builtin.Str renaming occurrences->La,strSub->Lo,partsBetween->LG
open PySem.PassesOwn renaming never->Lb,leaving->Ms
open True renaming intro->Lg
open PySem.Builtin.List renaming listExtendWith->Lh,listSameRef->LH
open PySem.Calls renaming callWith_builtin->Lj,spliced_cons->Ln,evalArgs_plain->Lx,spliced_nil->LY
open PySem.SetTable renaming below->Lk,grown->LN
open PySem.StrLaws renaming glued_eq_join->Lm,subAt_one->Mq
open PySem.Heap renaming SameBut->Lp,ExtBut->MC
open PyProof.Rows renaming seqObj->Ls,sortedS->L6,envOfC->Mw,AllBare->ME
open PySem.Txt renaming join->Lu,slice->LL,split->LM
open PySem.Builtin.Slice renaming slicePlaces->Lv,sliceAdjust->Ma
open PySem.Around renaming under_plainId->Lz
open Pure renaming pure->LC
open Prod renaming ext->Mp
open PySem.F renaming slot_dict_items->Mr
open ForInStep renaming yield->MD
noncomputable section
namespace L2
open PySem
section
variable {M:Model}{A:EJ}{E:Ep->Dh}{s:Et}{base:EI}{q:Array Ep->Prop}{env:Env}{outer:List Env}{L x:Eo}
def GZ (q:Array Ep->Prop):Prop:=∀(b:Array Ep) (v:Ep),q b->q (b.setIfInBounds 1 v)
def OO (q:Array Ep->Prop)(h base:EI)(x:Eo)(c f:Ep):Prop :=
 ∃ob b T d e,h.get? x=some ob/\(ob.cls=c/\q b)/\ob.data=.fields b/\b[1]?=some (.ref T)/\base.get? T=none/\T≠x/\h.get? T=some d/\d.data=.fields e/\e[3]?=some f
theorem Ss {h:EI}{y:Eo}{c:Obj}{vs:Array Ep}(d:h.get? y=some c)(hd:c.data=.fields vs):∀b o,h.get? b=some o->(∀ws,o.data≠.fields ws)->b≠y:=λb o hb e z=>by
 subst z;rw[d]at hb;cases hb;exact e vs hd
theorem Gj (C:GZ q){ob:Obj}{vs:Array Ep}{head:Ep}{nx:Bool}{Q:Unit->Dh}(y:A.frames=some (env::outer))(fr:s.heap.FunFrames base (env::outer))(B:env.frame=some L)
  (i:s.heap.get? x=some ob) (D:base.StaysIn s.heap) (n:base.get? x=none) (hd:ob.data=.fields vs) (sz:1<vs.size) (hv:q vs)
  (k:∀h',base.StaysIn h'->h'.FunFrames base (env::outer)->OO q h' base x ob.cls (E9 L)->s.heap.UpToSlots h'->Q () { s with heap:=h' }) :
  Es M A (do let fo <-frameOf env;let pl <-entryPlaceOf L nx;let en <-EntryCells.newEntry head fo .none (E9 L) .none pl;setField (.ref x) 1 en) Q E s:=by
 have F:x∉(env::outer).filterMap (·.frame):=λz=>by
  obtain⟨_,o,u,hn⟩:=fr.mem z;rw[i]at u;cases u;exact hn vs hd
 refine Zm<|wpAny_frameOf_fun y fr B λg f=>Zm<|wpAny_entryPlaceOf λpl c=>?_;unfold EntryCells.newEntry;unfold newFields;refine Zm<|Yh (T:="traceback") ?_<|c.sizeOk5 _ _ _ _ _;have t:g.get? x=some ob:=by rw[<-i];exact f.2.1 x F
 have r:base.StaysIn g:=λb o e=>by
  rw[f.2.1 b λz=>by rw[(fr.mem z).1]at e;cases e];exact D b o e
 obtain⟨row,l⟩:∃row:Obj,row={ cls:=.type "traceback",data:=.fields ([head,.ref L,.none,E9 L,.none]++(if pl.isEmpty then LI 6 EH else pl)).toArray }:=⟨_,rfl⟩;have v:=Zp (h:=g) row t;have d:g.objs.size≠x:=JP<|ZC t;rw[<-l];have keep:∀b o,b≠x->g.get? b=some o->((g.push row).update x (LB (·.setIfInBounds 1 (EB g.objs.size)))).get? b=some o:=λb o nb e=>by
  rw[ZX _ _<|EC nb];exact Zp _ e
 refine YJ v hd sz<|k _ ?_ ?_ ?_ ?_
 .intro b o e;exact keep b o (λz=>by rw[z,n]at e;cases e)<|r b o e
 .refine fr.of_keeps λb o e hn=>?_;obtain⟨w,j⟩:=f.2.2 b o e;exact⟨_,keep b _ (Ss i hd b o e hn) j,rfl⟩
 .have p:=Mf hd (·.setIfInBounds 1 (EB g.objs.size));refine⟨_,_,g.objs.size,row,_,Yd _ v<|Obj.isFreed_of_fields p,⟨Obj.cls_mapFields _ _,C _ _ hv⟩,p,by simp[sz],r.fresh,d,?_,by rw[l],?_⟩
  .rw[ZX _ _<|EC d];exact Zz g (by rw[l];rfl)
  .rcases c with rfl|⟨_,_,_,_,_,_,_,rfl⟩<;>simp
 .intro b o e hn;obtain⟨w,j⟩:=f.2.2 b o e;exact⟨w,keep b _ (Ss i hd b o e hn) j⟩
theorem KS (f:GZ q){ob:Obj}{vs:Array Ep}{Q:Unit->Dh}(e:A.frames=some (env::outer))(fr:s.heap.FunFrames base (env::outer))(c:env.frame=some L)
  (d:s.heap.get? x=some ob) (g:base.StaysIn s.heap) (b:base.get? x=none) (hd:ob.data=.fields vs) (h1:vs[1]?=some .none) (hv:q vs)
  (k:∀h',base.StaysIn h'->h'.FunFrames base (env::outer)->OO q h' base x ob.cls (E9 L)->s.heap.UpToSlots h'->Q () { s with heap:=h' }):Es M A (noteFrame (.ref x) env) Q E s:=by
 unfold noteFrame;simp only[c];refine Zm<|Jd d hd h1 ?_;rw[ZH<|show¬(EH !=EH)=true by decide];exact Gj f e fr c d g b hd (Jq.mp h1).1 hv k
theorem Ny (r:GZ q){c:Ep}{Q:Unit->Dh}(p:A.frames=some (env::outer))(fr:s.heap.FunFrames base (env::outer))(j:env.frame=some L)(t:OO q s.heap base x c .none)(v:base.StaysIn s.heap)(g:base.get? x=none)
  (k:∀h',base.StaysIn h'->h'.FunFrames base (env::outer)->OO q h' base x c (E9 L)->s.heap.UpToSlots h'->Q () { s with heap:=h' }):Es M A (noteFrame (.ref x) env) Q E s:=by
 obtain⟨ob,H,T,F,G,u,⟨hc,hv⟩,hd,h1,w,n,f,dT,i⟩:=t;subst hc;unfold noteFrame;simp only[j];refine Zm<|Jd u hd h1 ?_;rw[ZK<|show(EB T !=EH)=true by simp];refine Zm<|Jd f dT i ?_;rw[ZH<|show¬(EH==E9 L)=true by simp[E9]];have d:∀b,b≠T->(s.heap.update T (LB (·.setIfInBounds 3 EH))).get? b=s.heap.get? b:=λb nb=>ZX _ _<|EC nb;have l:=Ss f dT;refine Zm<|YJ f dT (Jq.mp i).1 ?_;refine Gj r p (fr.of_keeps λb o e hn=>⟨o,by rw[d b<|l b o e hn];exact e,rfl⟩) j (by rwa[d x<|EC n]) (λb o e=>?_) g hd (Jq.mp h1).1 hv λh' y B C D=>k h' y B C λb o e hn=>?_
 .rw[d b λz=>by rw[z,w]at e;cases e];exact v b o e
 .exact D b o (by rwa[d b<|l b o e hn]) hn
theorem jO {l:List Env}{Q:Unit->Dh}(v:base.StaysIn s.heap)(fr:s.heap.FunFrames base l)(t:OO q s.heap base x c fl)
  (k:∀h',base.StaysIn h'->h'.FunFrames base l->OO q h' base x c .none->s.heap.UpToSlots h'->Q () { s with heap:=h' }):Es M A (setFlight (.ref x) none) Q E s:=by
 obtain⟨ob,y,T,B,w,j,hv,hd,h1,n,i,g,dT,u⟩:=t;have r:3<w.size:=(Jq.mp u).1;have p:=Ss g dT;have d:∀b,b≠T->(s.heap.update T (LB (·.setIfInBounds 3 ((none:Option Eo).elim EH λf=>E9 f)))).get? b=s.heap.get? b:=λb nb=>ZX _ _<|EC nb;unfold setFlight;refine Zm<|Jd j hd h1 ?_;rw[ZK<|show(EB T !=EH)=true by simp];refine YJ g dT r (k _ (λb o e=>?_) (fr.of_keeps λb o e hn=>⟨o,by rw[d b<|p b o e hn];exact e,rfl⟩) ?_ λb o e hn=>⟨o.slots,by rw[d b<|p b o e hn];exact e⟩)
 .rw[d b λz=>by rw[z,n]at e;cases e];exact v b o e
 .refine⟨ob,y,T,_,_,by rw[d x<|EC i];exact j,hv,hd,h1,n,i,Yd _ g<|Obj.isFreed_of_fields<|Mf dT _,Mf dT _,?_⟩;simp[r]
theorem FV (e:GZ q){ob:Obj}{vs:Array Ep}{Q:Unit->Dh}(c:A.frames=some (env::outer))(fr:s.heap.FunFrames base (env::outer))(d:env.frame=some L)
  (f:s.heap.get? x=some ob) (i:base.StaysIn s.heap) (b:base.get? x=none) (hd:ob.data=.fields vs) (h1:vs[1]?=some .none) (hv:q vs)
  (k:∀h',base.StaysIn h'->h'.FunFrames base (env::outer)->OO q h' base x ob.cls .none->s.heap.UpToSlots h'->Q () { s with heap:=h' }):Es M A (leaving env<|.ref x) Q E s:=by
 unfold leaving;exact Zm<|KS e c fr d f i b hd h1 hv λg j l n o=>jO (s:={ s with heap:=g }) j l n λh' p r t u=>k h' p r t<|o.trans u
theorem KL (f:GZ q){c:Ep}{Q:Unit->Dh}(d:A.frames=some (env::outer))(fr:s.heap.FunFrames base (env::outer))(e:env.frame=some L)(t:OO q s.heap base x c .none)(i:base.StaysIn s.heap)(b:base.get? x=none)
  (k:∀h',base.StaysIn h'->h'.FunFrames base (env::outer)->OO q h' base x c .none->s.heap.UpToSlots h'->Q () { s with heap:=h' }):Es M A (leaving env<|.ref x) Q E s:=by
 unfold leaving;exact Zm<|Ny f d fr e t i b λg j l n o=>jO (s:={ s with heap:=g }) j l n λh' p r u v=>k h' p r u<|o.trans v
end
open PySem.Spec PyProof.Rows
abbrev Key:=Sum Int Str
def Br:Key->Ep->Bool
 | .inl k,v=>My k v
 | .inr x,v=>Le x v
def bO (w:Eu):Key->Int
 | .inl k=>hashInt k
 | .inr x=>hashStr w x
theorem yV:∀{k:Key} {v:Ep},Br k v=true->(∃i t,k=Sum.inl i/\v=Mt i t)\/(∃x t,k=ED x/\v=L8 x t)
 | .inl i,v,h=>by
  obtain⟨t,e⟩:=Value.isInt_shape (k:=i) (v:=v) h;exact .inl ⟨i,t,rfl,e⟩
 | .inr x,v,h=>by
  obtain⟨t,e⟩:=Y4 (x:=x) (v:=v) h;exact .inr ⟨x,t,rfl,e⟩
theorem Ol (i:Int)(t:Tok):Br (.inl i) (.int i t)=true:=by simp[Br,My]
theorem qR (x:Str)(t:Tok):Br (.inr x) (.str x t)=true:=by simp[Br,Le]
theorem We (a b:Int):decide ((Sum.inl a:Key)=Sum.inl b)=(a==b):=by
 by_cases e:a=b
 .subst e;simp
 .have h:¬(Sum.inl a:Key)=Sum.inl b:=λq=>e<|Sum.inl.inj q;rw[ZE h];exact(YT.mpr e).symm
theorem Wh (a b:Str):decide ((ED a:Key)=ED b)=decide (a=b):=by
 by_cases e:a=b
 .subst e;simp
 .have h:¬(ED a:Key)=ED b:=λq=>e<|Sum.inr.inj q;rw[ZE h,ZE e]
theorem Wf (a:Int)(b:Str):decide ((Sum.inl a:Key)=ED b)=false:=ZE<|λq=>nomatch q
theorem Wg (a:Str)(b:Int):decide ((ED a:Key)=Sum.inl b)=false:=ZE<|λq=>nomatch q
def z5 (prog:Er)(w:Eu):PySem.KeyKind prog w Key where
 is:=Br
 hash:=bO w
 inj:=λv a b ha hb=>by
  rcases yV ha with⟨i,t,rfl,rfl⟩|⟨x,t,rfl,rfl⟩
  .rcases yV hb with⟨j,u,rfl,e⟩|⟨y,u,rfl,e⟩
   .injection e with c _;rw[c]
   .exact nomatch e
  .rcases yV hb with⟨j,u,rfl,e⟩|⟨y,u,rfl,e⟩
   .exact nomatch e
   .injection e with c _;rw[c]
 byValue:=λk v h=>by
  rcases yV h with⟨i,t,rfl,rfl⟩|⟨x,t,rfl,rfl⟩<;>rfl
 pyHash:=λhv h=>by
  rcases yV hv with⟨i,t,rfl,rfl⟩|⟨x,t,rfl,rfl⟩
  .exact wpAny_pyHash_int h
  .exact wpAny_pyHash_str h
 eqBool:=λd hv h=>by
  rcases yV d with⟨i,t,rfl,rfl⟩|⟨x,t,rfl,rfl⟩
  .rcases yV hv with⟨j,u,rfl,rfl⟩|⟨y,u,rfl,rfl⟩
   .rw[We]at h;exact wpAny_eqBool_int h
   .rw[Wf]at h;exact SeqAt.EqAt.int_str i t y u _ _ _ _ h
  .rcases yV hv with⟨j,u,rfl,rfl⟩|⟨y,u,rfl,rfl⟩
   .rw[Wg]at h;exact SeqAt.EqAt.str_int x t j u _ _ _ _ h
   .rw[Wh]at h;exact wpAny_eqBool_str h
 «strs»:=λk x t v h=>by
  rcases yV h with⟨i,u,rfl,e⟩|⟨y,u,rfl,e⟩
  .exact nomatch e
  .injection e with c _;subst c;cases v<;>rfl
theorem F7 (prog:Er)(w:Eu)(i:Int)(t:Tok):(z5 prog w).is (.inl i) (.int i t)=true:=Ol i t
theorem F8 (prog:Er)(w:Eu)(x:Str)(t:Tok):(z5 prog w).is (.inr x) (.str x t)=true:=qR x t
inductive V where
 |non|bl (b:Bool)|int (i:Int)|str (x:Str)|byt (b:Array UInt8)|flt (b:UInt64)|ref (a:Eo)|ty (n:String)
 deriving DecidableEq
abbrev Dl:=List<|Key×V
abbrev Dj:=List V
def za:V->Ep->Prop
 | .non,u=>u=EH
 | .bl b,u=>u=Mg b
 | .int i,u=>∃t,u=Mt i t
 | .str x,u=>∃t,u=L8 x t
 | .byt b,u=>∃t,u=Value.bytes b t
 | .flt b,u=>∃t,u=Value.float b t
 | .ref a,u=>u=EB a
 | .ty n,u=>u=Value.type n
abbrev zb:Dj->Db->Prop:=Lq za
theorem zb.length (r:zb xs us):xs.length=us.length:=Paired.length r
theorem zb.get:∀{xs:Dj} {us:Db} {i:Nat} {x:V},zb xs us->xs[i]?=some x->∃u,us[i]?=some u/\za x u
 |_,_,_,_,.nil,e=>by simp at e
 |_,_,0,_,.cons r _,e=>by simp at e;subst e;exact⟨_,rfl,r⟩
 |_,_,i+1,x,.cons _ t,e=>by
  obtain⟨u,h1,b⟩:=zb.get (i:=i) (x:=x) t (by simpa using e);exact⟨u,by simpa using h1,b⟩
theorem zb.append:∀{xs ys:Dj} {us ws:Db},zb xs us->zb ys ws->zb (xs++ys) (us++ws)
 |_,_,_,_,.nil,s=>s
 |_,_,_,_,.cons r t,s=>.cons r<|zb.append t s
theorem zb.take:∀{xs:Dj} {us:Db} (n:Nat),zb xs us->zb (xs.take n) (us.take n)
 |_,_,0,_=>.nil
 |_,_,_+1,.nil=>.nil
 |_,_,n+1,.cons r t=>.cons r<|zb.take n t
theorem zb.drop:∀{xs:Dj} {us:Db} (n:Nat),zb xs us->zb (xs.drop n) (us.drop n)
 |_,_,0,r=>r
 |_,_,_+1,.nil=>.nil
 |_,_,n+1,.cons _ t=>zb.drop n t
def vz:Option V->Dc->Prop
 |some v,some u=>za v u
 |none,none=>True
 |_,_=>False
def KV {κ:Type}:List (κ×V)->List (κ×Ep)->Prop:=Lq λ(p:κ×V) (q:κ×Ep)=>p.1=q.1/\za p.2 q.2
def kV:Key->V
 | .inl i=>.int i
 | .inr x=>.str x
inductive HO where
 |lst (xs:Dj)
 |tup (xs:Dj)
 |dK (Dm:Dl)|dT (Dm:List<|List Key×V)
 |set (S:Int->Bool) (n:Nat)
 |ins (C dx:Eo) (fs:List<|Str×V)
 |own (x:Eo)
 |xd (fs:List<|Str×V)
 |met (f x:Eo)
 |rng (lo hi:Int)
 |frz (o:Obj) (u:HO)
 |tbl (ps:Array Ep)
 |ext (φ:EI->Prop)
abbrev Hp:=Eo->Option HO
def upd (H:Hp)(a:Eo)(o:HO):Hp:=λb=>if b=a then some o else H b
theorem zC:upd H a o a=some o:=by unfold upd;rw[ZK rfl]
theorem zI {a b:Eo}(h:b≠a):upd H a o b=H b:=by unfold upd;rw[ZH h]
theorem NS:upd (upd H a o) a u=upd H a u:=by
 funext b;unfold upd;split<;>rfl
theorem aG {H:Hp}{a b:Eo}{o u:HO}(h:H a=some o)(h':H b=some u)(d:o≠u):a≠b:=by
 intro e;subst e;rw[h]at h';exact d<|Option.some.inj h'
theorem zS {H:Hp}{a b:Eo}{o:HO}(h:H a=some o)(h':H b=none):a≠b:=by
 intro e;subst e;rw[h]at h';cases h'
def TupAt (h:EI)(a:Eo)(b:Array Ep):Prop:=∃o,h.get? a=some o/\o.cls=.type "tuple"/\∃n,o.data=.seq b n/\o.dict=none
theorem TupAt.is (t:TupAt h a Dn):IsTup h a Dn:=by
 obtain⟨o,h1,h2,n,h3,_⟩:=t;exact ⟨o,h1,h2,n,h3⟩
theorem TupAt.lt (t:TupAt h a Dn):a<h.objs.size:=t.is.lt
theorem TupAt.new (h:EI)(b:Array Ep):TupAt (h.push { cls:=.type "tuple",data:=.seq b }) h.objs.size b:=⟨_,Zz _ rfl,rfl,_,rfl,rfl⟩
section
variable (P:Er)(w:Eu)
def yq (H:Hp)(h:EI)(a:Eo):HO->Prop
 | .lst c=>c.length<=sizeLine/\∃(b:Db) (n:Nat),zb c b/\h.get? a=some { cls:=.type "list",data:=.seq b.toArray n }
 | .tup c=>c.length<=sizeLine/\∃b:Db,zb c b/\TupAt h a b.toArray
 | .dK Dm=>Dm.length<=sizeLine/\(a==E3)=false/\∃i,KV Dm i/\h.DictOf (z5 P w) a i
 | .dT Dm=>Dm.length<=sizeLine/\(a==E3)=false/\∃c:List<|List Key×Eo×Ep,
   Lq (λ(p:List Key×V) (q:List Key×Eo×Ep)=>p.1=q.1/\H q.2.1=some (.tup<|p.1.map kV)/\za p.2 q.2.2) Dm c /\
   ∃o e j,h.get? a=some o/\o.ExactDict/\o.data=.dict e j/\e.toList=c.map (Mh<|tupleKind<|z5 P w)/\(c.map (·.1)).Nodup
 | .set S n=>h.SetOf (intKind P w) a S n
 | .ins C dx fs=>H dx=some (.own a)/\fs.length<=1000/\dx≠a/\h.get? a=some (Lr C dx) /\
   ∃d,h.Ns1 dx d/\(∀f,vz (fs.lookup f)<|d f)/\PySem.Within d (fs.map (·.1))
 | .own _=>∃o,h.get? a=some o
 | .xd fs=>∃d,h.Ns1 a d/\∀f,vz (fs.lookup f)<|d f
 | .rng lo hi=>∃t u v,h.get? a=some { cls:=.type "range",data:=.fields #[.int lo t,.int hi u,.int 1 v] }
 | .frz o u=>h.get? a=some o/\yq H h a u
 | .tbl ps=>h.get? a=some { cls:=.none,data:=.fields ps }
 | .met f x=>h.get? a=some (PySem.W.methodObj (.ref f)<|.ref x)
 | .ext φ=>φ h/\(∃o,h.get? a=some o)/\∀h1 g:EI,φ h1->(∀o,h1.get? a=some o->g.get? a=some o)->φ g
def tZ (H:Hp)(h:EI):Prop:=∀a o,H a=some o->yq P w H h a o
end
section
variable {P:Er}{w:Eu}{H H':Hp}{h h':EI}{a:Eo}{o:HO}
theorem yq.lt (x:yq P w H h a o):a<h.objs.size:=by
 cases o with
 |lst xs=>obtain⟨_,_,_,_,e⟩:=x;exact ZC e
 |tup xs=>obtain⟨_,_,_,p⟩:=x;exact p.lt
 |dK Dm=>obtain⟨_,_,_,_,o,_,_,e,_⟩:=x;exact ZC e
 |dT Dm=>obtain⟨_,_,_,_,o,_,_,e,_⟩:=x;exact ZC e
 |set S n=>obtain⟨o,_,_,_,e,_⟩:=x;exact ZC e
 |ins C dx fs=>obtain⟨_,_,_,e,_⟩:=x;exact ZC e
 |own y=>obtain⟨_,e⟩:=x;exact ZC e
 |xd fs=>obtain⟨_,⟨_,_,_,e,_⟩,_⟩:=x;exact ZC e
 |rng lo hi=>obtain⟨_,_,_,e⟩:=x;exact ZC e
 |frz ob u=>obtain⟨e,_⟩:=x;exact ZC e
 |tbl ps=>exact ZC<|show h.get? a=some _ from x
 |met f y=>exact ZC<|show h.get? a=some _ from x
 |ext φ=>obtain⟨_,⟨_,e⟩,_⟩:=x;exact ZC e
theorem Paired.jr {c d:Type}{F G:c->d->Prop}:∀{l₁:List c} {l₂:List d},Lq F l₁ l₂->(∀a b,F a b->G a b)->Lq G l₁ l₂
 |_,_,.nil,_=>.nil
 |_,_,.cons r t,f=>.cons (f _ _ r)<|Paired.jr t f
theorem yq.stay (x:yq P w H h a o)(k:∀b u,(b=a\/H b=some (.own a))->h.get? b=some u->h'.get? b=some u)
  (B:∀b,H b=some (.own a)->H' b=some (.own a)) (D:∀b xs,H b=some (.tup xs)->H' b=some (.tup xs)):yq P w H' h' a o:=by
 induction o with
 |lst xs=>obtain⟨z,j,n,r,e⟩:=x;exact⟨z,j,n,r,k _ _ (.inl rfl) e⟩
 |tup xs=>obtain⟨z,j,r,ob,e,c⟩:=x;exact⟨z,j,r,ob,k _ _ (.inl rfl) e,c⟩
 |dK Dm=>obtain⟨z,y,E,r,ob,i,g,e,c⟩:=x;exact⟨z,y,E,r,ob,i,g,k _ _ (.inl rfl) e,c⟩
 |dT Dm =>
  obtain⟨z,y,xs,r,ob,i,g,e,c⟩:=x;exact⟨z,y,xs,Paired.jr r λp q z=>⟨z.1,D _ _ z.2.1,z.2.2⟩,ob,i,g,k _ _ (.inl rfl) e,c⟩
 |set S n=>obtain⟨ob,i,g,t,e,c⟩:=x;exact⟨ob,i,g,t,k _ _ (.inl rfl) e,c⟩
 |ins C dx fs =>
  obtain⟨d,z,ne,e,l,⟨s,i,g,A,c⟩,r⟩:=x;exact⟨B _ d,z,ne,k _ _ (.inl rfl) e,l,⟨s,i,g,k _ _ (.inr d) A,c⟩,r⟩
 |own y=>obtain⟨ob,e⟩:=x;exact⟨ob,k _ _ (.inl rfl) e⟩
 |xd fs=>obtain⟨l,⟨s,i,g,e,c⟩,r⟩:=x;exact⟨l,⟨s,i,g,k _ _ (.inl rfl) e,c⟩,r⟩
 |rng lo hi=>obtain⟨t,u,v,e⟩:=x;exact⟨t,u,v,k _ _ (.inl rfl) e⟩
 |frz ob u ih=>obtain⟨e,q⟩:=x;exact⟨k _ _ (.inl rfl) e,ih q⟩
 |tbl ps =>
  have e:h.get? a=some { cls:=.none,data:=.fields ps }:=x;show h'.get? a=some { cls:=.none,data:=.fields ps };exact k a _ (.inl rfl) e
 |met f y =>
  have e:h.get? a=some (PySem.W.methodObj (.ref f)<|.ref y):=x;show h'.get? a=some (PySem.W.methodObj (.ref f)<|.ref y);exact k a _ (.inl rfl) e
 |ext φ=>obtain⟨p,⟨o,e⟩,st⟩:=x;exact⟨st _ _ p λo q=>k _ _ (.inl rfl) q,⟨o,k _ _ (.inl rfl) e⟩,st⟩
theorem tZ.lt (x:tZ P w H h)(e:H a=some o):a<h.objs.size:=(x a o e).lt
theorem tZ.fresh (x:tZ P w H h)(e:h.objs.size<=a):H a=none:=by
 cases q:H a with
 |none=>rfl
 |some u=>exact absurd (ZU (x.lt q) e)<|YB _
theorem tZ.kept (x:tZ P w H h)(k:∀b u,h.get? b=some u->h'.get? b=some u):tZ P w H h':=λa o e =>
 (x a o e).stay (λb u _ q=>k b u q) (λ_ q=>q) λ_ _ q=>q
theorem tZ.laid (x:tZ P w H h)(k:∀b u,h.get? b=some u->h'.get? b=some u)(d:h.objs.size<=a)(new:yq P w (upd H a o) h' a o):tZ P w (upd H a o) h':=λb u e=>by
 have hn:=x.fresh d
 by_cases hb:b=a
 .subst hb;rw[zC]at e;cases e;exact new
 .rw[zI hb]at e;exact(x b u e).stay (λc v _ q=>k c v q) (λc q=>by rwa[zI<|zS q hn]) λc f q=>by rwa[zI<|zS q hn]
end
def Rd (H:Hp)(a:Eo)(u:HO):Prop:=H a=some u\/∃o,H a=some (.frz o u)
theorem Rd.ok (r:Rd H a u)(x:tZ P w H h):yq P w H h a u:=by
 rcases r with r|⟨o,r⟩
 .exact x a u r
 .obtain⟨_,q⟩:=x a _ r;exact q
def TH:Option HO->Prop
 |some (.lst _)=>True
 |some (.dK _)=>True
 |some (.dT _)=>True
 |some (.set _ _)=>True
 |some (.ins _ _ _)=>True
 |some (.ext _)=>True
 |_=>False
section
variable {P:Er}{w:Eu}{H:Hp}{h h':EI}{x e:Eo}{o':HO}
theorem tZ.write (ok:tZ P w H h)(i:TH<|H x)(he:e=x\/H e=some (.own x))(k:∀b u,b≠e->h.get? b=some u->h'.get? b=some u)(l:∃u,h'.get? e=some u)
  (new:yq P w (upd H x o') h' x o'):tZ P w (upd H x o') h':=λb u q=>by
 have f:∀c y,H c=some (.own y)->c≠x:=λc y r z=>by subst z;rw[r]at i;exact i
 have g:∀c j,H c=some (.tup j)->c≠x:=λc j r z=>by subst z;rw[r]at i;exact i
 by_cases hb:b=x
 .subst hb;rw[zC]at q;cases q;exact new
 .rw[zI hb]at q
  by_cases d:b=e
  .have n:H b=some (.own x):=by
    rcases he with z|z
    .exact absurd (d.trans z) hb
    .rwa[d]
   rw[q]at n;cases n;obtain⟨v,hv⟩:=l;exact⟨v,by rw[d];exact hv⟩
  .refine(ok b u q).stay (λc v hc r=>k c v ?_ r) (λc r=>by rwa[zI<|f c b r]) λc j r=>by rwa[zI<|g c j r]
   rcases hc with rfl|hc
   .exact d
   .rintro rfl
    rcases he with z|z
    .exact f c b hc z
    .rw[hc]at z;cases z;exact hb rfl
end
structure Un (fs ex:Dd)(H H':Hp)(h h':EI):Prop where
 keep:∀b o,h.get? b=some o->H b=none->b∉fs->b∉ex->h'.get? b=some o
 slot:∀b o,h.get? b=some o->H b=none->b∈fs->b∉ex->∃sl,h'.get? b=some { o with slots:=sl }
 free:∀b o,h.get? b=some o->H b=none->b∉ex->H' b=none
 there:∀b o,h.get? b=some o->b∉ex->∃o',h'.get? b=some o'
 tups:∀b xs,H b=some (.tup xs)->H' b=some (.tup xs)
 uw:∀b o u,H b=some (.frz o u)->H' b=some (.frz o u)
 tY:∀b ps,H b=some (.tbl ps)->∃more,H' b=some (.tbl<|ps++more)
section
variable {fs fs' ex ex':Dd}{H H1 H2:Hp}{h h1 h2 h':EI}{a x e:Eo}{o:HO}
theorem Un.any (u:Un fs ex H H1 h h1){b:Eo}{ob:Obj}(q:h.get? b=some ob)(n:H b=none)(c:b∉ex):∃sl,h1.get? b=some { ob with slots:=sl }:=by
 by_cases hb:b∈fs
 .exact u.slot b ob q n hb c
 .exact⟨ob.slots,u.keep b ob q n hb c⟩
theorem Un.kept (k:∀b u,h.get? b=some u->h'.get? b=some u):Un fs ex H H h h' :=
 ⟨λb ob q _ _ _=>k b ob q,λb ob q _ _ _=>⟨ob.slots,k b ob q⟩,λ_ _ _ n _=>n,λb ob q _=>⟨ob,k b ob q⟩,λ_ _ q=>q,λ_ _ _ q=>q,λ_ ps q=>⟨#[],by rw[q];simp⟩⟩
theorem Un.refl:Un fs ex H H h h:=Un.kept λ_ _ q=>q
theorem Un.laid (k:∀b u,h.get? b=some u->h'.get? b=some u)(c:h.objs.size<=a)(hn:H a=none):Un fs ex H (upd H a o) h h' where
 keep:=λb u q _ _ _=>k b u q
 slot:=λb u q _ _ _=>⟨u.slots,k b u q⟩
 free:=λb u q n _=>by rwa[zI<|ZO<|ZU (ZC q) c]
 there:=λb u q _=>⟨u,k b u q⟩
 tups:=λb d q=>by rwa[zI<|zS q hn]
 uw:=λb u d q=>by rwa[zI<|zS q hn]
 tY:=λb ps q=>⟨#[],by rw[zI<|zS q hn,q];simp⟩
theorem Un.write (d:TH<|H x)(he:e=x\/H e=some (.own x))(k:∀b u,b≠e->h.get? b=some u->h'.get? b=some u)(f:∃u,h'.get? e=some u):Un fs ex H (upd H x o) h h':=by
 have g:∀b,H b=none->b≠x:=λb n z=>by subst z;rw[n]at d;exact d
 have hb:∀b,H b=none->b≠e:=λb n z=>by
  subst z
  rcases he with r|r
  .exact g b n r
  .rw[n]at r;cases r
 have hm:∀b u,H b=some u->¬TH (some u)->b≠x:=λb u q nm z=>by subst z;rw[q]at d;exact nm d
 refine⟨λb u q n _ _=>k b u (hb b n) q,λb u q n _ _=>⟨u.slots,k b u (hb b n) q⟩,λb u q n _=>by rw[zI<|g b n];exact n,λb u q _=>?_,
  λb i q=>by rw[zI<|hm b _ q λz=>z];exact q,λb u i q=>by rw[zI<|hm b _ q λz=>z];exact q,λb ps q=>⟨#[],by rw[zI<|hm b _ q λz=>z,q];simp⟩⟩
 by_cases c:b=e
 .subst c;exact f
 .exact⟨u,k b u c q⟩
end
def bB (h:EI)(H:Hp):Dd:=(ET h.objs.size).filter λa=>(H a).isSome
def BI (h:EI)(H:Hp):Heap:=PySem.W.hideAll h<|bB h H
theorem Oh (h:EI)(H:Hp):(BI h H).objs.size=h.objs.size:=PySem.W.hideAll_size _ _
theorem Pk {h:EI}{H:Hp}{b:Eo}{o:Obj}(e:h.get? b=some o)(n:H b=none):(BI h H).get? b=some o :=
 Ji _ e λhm=>by
  have q:(H b).isSome=true:=(List.mem_filter.mp hm).2;rw[n]at q;simp at q
theorem Su {b:Eo}{o:Obj}(e:(BI h H).get? b=some o):h.get? b=some o/\H b=none:=by
 have c:h.get? b=some o:=PySem.W.of_hideAll (bB h H) e;refine⟨c,?_⟩;cases q:H b with
 |none=>rfl
 |some x =>
  have hm:b∈bB h H:=List.mem_filter.mpr ⟨JF.mpr<|ZC c,by simp[q]⟩;have z:(BI h H).get? b=none:=J3 (bB h H) hm;rw[z]at e;cases e
structure Mod (K:Cq)(mg:Str->Dc)(base:EI):Prop where
 lQ:K.In base
 glob:base.Ns EA mg
 blt:∃mb,base.Ns builtinsNs mb/\∀x:Str,x≠"__name__"->mb x=L9 x
 nolimit:base.NoLimit
structure Cx where
 prog:Er
 w:Eu
 K:Cq
 mg:Str->Dc
 base:EI
 A:EJ
 N:Da
 s₀:Et
 H₀:Hp
 env:Env
 outer:List Env
 stack:List Env
 ex:Dd
 fn:Str->Bool
 calm:Bool
 pn:De
 xe:Ep->Dh
def frs (l:List Env):Dd:=l.filterMap (·.frame)
abbrev Cx.fs (X:Cx):Dd:=frs X.outer
def bA (sc:LV)(x:Str):Prop:=sc.names.lookup x=some .local\/sc.names.lookup x=some .cell\/sc.names.lookup x=some .free
def Loc (sc:LV)(x:Str):Prop:=sc.names.lookup x=some .local\/sc.names.lookup x=some .cell
def Look (env:Env)(h:EI)(m:Str->Dc)(x:Str)(u:Ep):Prop :=
 (env.kindOf x=some .local/\m x=some u)\/((env.kindOf x=some .cell\/env.kindOf x=some .free)/\∃c,env.cells.lookup x=some c/\h.IsCell c (some u))
structure Cx.Ok (X:Cx):Prop where
 mod:Mod X.K X.mg X.base
 kind:X.env.scope.kind=.function
 glob:X.env.globals=EA
 blt:X.env.builtins=builtinsNs
 above:X.s₀.heap.objs.size<=X.env.locals
 inj:∀x y c,X.env.cells.lookup x=some c->X.env.cells.lookup y=some c->x=y
 has:∀x,(X.env.kindOf x=some .cell\/X.env.kindOf x=some .free)->∃c,X.env.cells.lookup x=some c
 cab:∀x c,X.fn x=true->X.env.cells.lookup x=some c->X.s₀.heap.objs.size<=c
 hd:X.calm=true->X.A.handled=none
 frames:X.A.frames=some X.stack
 stk:X.stack=X.outer\/(X.stack=X.env::X.outer/\X.env.frame=some X.env.locals)
 ju:∀b∈X.ex,b≠X.env.locals/\∀x c,X.env.cells.lookup x=some c->c≠b
 bs:∀b o,X.base.get? b=some o->X.s₀.heap.get? b=some o/\X.H₀ b=none
 nj:X.base.objs.size<=X.s₀.heap.objs.size
 pW:∀b o,X.base.get? b=some o->b∉X.ex
 pL:∀b∈X.ex,b∉X.fs
 uv:X.s₀.heap.FunFrames X.base X.outer
 mW:∀b∈X.fs,X.H₀ b=none
structure Inv (X:Cx)(Dp:De)(σ:List<|Option V)(H:Hp)(s:Et):Prop where
 ok:X.Ok
 os:s.os=X.s₀.os
 bare:ME s.gens
 base:Un X.fs X.ex X.H₀ H X.s₀.heap s.heap
 loc:∃m,s.heap.Ns X.env.locals m/\∀(i:Nat) (x:Str) (v:V),X.N[i]?=some x->σ[i]?=some (some v)->bA X.env.scope x->∃u,za v u/\Look X.env s.heap m x u
 cell:∀x c,X.env.cells.lookup x=some c->∃v,s.heap.IsCell c v
 free:H X.env.locals=none
 wR:∀x c,X.env.cells.lookup x=some c->H c=none
 pin:∀p∈X.pn++Dp,s.heap.get? p.1=some p.2/\H p.1=none/\p.1≠X.env.locals/\p.1∉X.fs/\∀v,p.2.data≠.cell v
 hok:tZ X.prog X.w H s.heap
 len:σ.length=X.N.length
section
variable {X:Cx}{Dp:De}{σ:List (Option V)}{H H':Hp}{s:Et}{h':EI}
theorem Cx.Ok.ig (ok:X.Ok){b:Eo}{o:Obj}(e:X.base.get? b=some o):b∉X.fs:=λhb=>by
 have:=(ok.uv.mem hb).1;rw[e]at this;cases this
theorem Inv.bs (I:Inv X Dp σ H s):∀b o,X.base.get? b=some o->s.heap.get? b=some o/\H b=none:=λb o e =>
 ⟨I.base.keep b o (I.ok.bs b o e).1 (I.ok.bs b o e).2 (I.ok.ig e)<|I.ok.pW b o e,I.base.free b o (I.ok.bs b o e).1 (I.ok.bs b o e).2<|I.ok.pW b o e⟩
theorem Inv.bk (I:Inv X Dp σ H s):∀b o,X.base.get? b=some o->s.heap.get? b=some o:=λb o e=>(I.bs b o e).1
theorem Inv.mod (I:Inv X Dp σ H s):Mod X.K X.mg X.base:=I.ok.mod
theorem Inv.vh (I:Inv X Dp σ H s):X.K.In s.heap:=I.ok.mod.lQ.keeps I.bk
theorem Inv.lt (I:Inv X Dp σ H s):X.env.locals<s.heap.objs.size:=let ⟨_,hn,_⟩:=I.loc;hn.lt
theorem Inv.sz (I:Inv X Dp σ H s):X.s₀.heap.objs.size<=s.heap.objs.size:=Yk I.ok.above<|YE I.lt
theorem Inv.gV (I:Inv X Dp σ H s){a:Eo}(h:s.heap.objs.size<=a):a∉X.fs:=λhb=>by
 obtain⟨_,o,b,_⟩:=I.ok.uv.mem hb;exact absurd (ZU (ZC b)<|Yk I.sz h)<|YB _
theorem Inv.kj (I:Inv X Dp σ H s):∀x c,X.env.cells.lookup x=some c->c≠X.env.locals:=λx c e z=>by
 obtain⟨v,o,f,hd⟩:=I.cell x c e;obtain⟨m,⟨j,i,g,d,b,_⟩,_⟩:=I.loc;rw[z,d]at f;cases f;rw[b]at hd;cases hd
theorem Inv.uv (I:Inv X Dp σ H s):s.heap.FunFrames X.base X.outer:=by
 have all:∀(l:List Env),(∀b∈frs l,b∈X.fs)->X.s₀.heap.FunFrames X.base l->s.heap.FunFrames X.base l:=by
  intro l
  induction l with
  |nil=>intro _ _;trivial
  |cons env r ih =>
   intro f hl;obtain⟨hk,⟨L,o,d,hn,g,hd⟩,i⟩:=hl;have c:L∈X.fs:=f L (by unfold frs;rw[Y5,d];exact Zs);obtain⟨j,e⟩:=I.base.slot L o g (I.ok.mW L c) c λz=>I.ok.pL L z c;exact⟨hk,⟨L,_,d,hn,e,hd⟩,ih (λb hb=>f b (by unfold frs;rw[Y5,d];exact Zn _ hb)) i⟩
 exact all X.outer (λ_ hb=>hb) I.ok.uv
theorem Inv.stack (I:Inv X Dp σ H s):s.heap.FunFrames X.base X.stack:=by
 rcases I.ok.stk with e|⟨e,b⟩
 .rw[e];exact I.uv
 .rw[e];obtain⟨m,hn,_⟩:=I.loc;refine .cons (by rw[I.ok.kind];decide) b hn ?_ I.uv;exact VX<|Yk I.ok.nj I.ok.above
theorem Inv.rG (I:Inv X Dp σ H s):∀b∈frs X.stack,b∈X.env.locals::X.fs:=λb hb=>by
 rcases I.ok.stk with e|⟨e,c⟩
 .rw[e]at hb;exact Zn _ hb
 .rw[e]at hb;unfold frs at hb;rw[Y5,c]at hb;exact hb
theorem Inv.rY (I:Inv X Dp σ H s):∀b∈frs X.stack,H b=none:=λb hb=>by
 rcases Zo.mp (I.rG b hb) with e|hb
 .rw[e];exact I.free
 .obtain⟨_,o,c,_⟩:=I.ok.uv.mem hb;exact I.base.free b o c (I.ok.mW b hb) λz=>I.ok.pL b z hb
theorem Inv.step {g':Array GenState}{t':Nat}{d':Drawn}{ch:Dd}(I:Inv X Dp σ H s)
  (j:∀b∈ch,(b∈X.ex\/X.s₀.heap.objs.size<=b)/\b≠X.env.locals/\(∀x c,X.env.cells.lookup x=some c->c≠b)/\∀p∈X.pn++Dp,p.1≠b)
  (keep:∀b o,b≠X.env.locals->b∉X.fs->b∉ch->s.heap.get? b=some o->H b=none->h'.get? b=some o)
  (slot:∀b o,b≠X.env.locals->b∈X.fs->b∉ch->s.heap.get? b=some o->H b=none->∃sl,h'.get? b=some { o with slots:=sl }) (free:∀b o,b∉ch->s.heap.get? b=some o->H b=none->H' b=none)
  (there:∀b o,b∉ch->s.heap.get? b=some o->∃o',h'.get? b=some o')
  (tups:∀b xs,H b=some (.tup xs)->H' b=some (.tup xs)) (uw:∀b o u,H b=some (.frz o u)->H' b=some (.frz o u)) (tY:∀b ps,H b=some (.tbl ps)->∃more,H' b=some (.tbl<|ps++more))
  (ns:∀m,s.heap.Ns X.env.locals m->h'.Ns X.env.locals m) (hok:tZ X.prog X.w H' h') (K:ME g') :
  Inv X Dp σ H' { s with heap:=h',gens:=g',drawn:=d',toks:=t' }:=by
 have D:∀b o,X.s₀.heap.get? b=some o->b≠X.env.locals:=λb o e=>ZO<|ZU (ZC e) I.ok.above;have A:∀b o,X.s₀.heap.get? b=some o->b∉X.ex->b∉ch:=λb o e f hb=>by
  rcases(j b hb).1 with z|z
  .exact f z
  .exact absurd (ZU (ZC e) z) (YB _)
 have g:∀x c,X.env.cells.lookup x=some c->∀v,s.heap.IsCell c v->h'.IsCell c v:=λx c e v ⟨o,B,hd⟩=>by
  have t:c∉ch:=λz=>(j c z).2.2.1 x c e rfl
  by_cases hc:c∈X.fs
  .obtain⟨sl,q⟩:=slot c o (I.kj x c e) hc t B<|I.wR x c e;exact⟨_,q,hd⟩
  .exact⟨o,keep c o (I.kj x c e) hc t B<|I.wR x c e,hd⟩
 refine⟨I.ok,I.os,K,⟨λb o e n hb f=>?_,λb o e n hb f=>?_,λb o e n f=>?_,λb o e f=>?_,λb xs e=>tups b xs<|I.base.tups b xs e,λb o xs e=>uw b o xs<|I.base.uw b o xs e,λb ps e=>?_⟩,?_,λx c e=>?_,?_,λx c e=>?_,λp F=>?_,hok,I.len⟩
 .exact keep b o (D b o e) hb (A b o e f) (I.base.keep b o e n hb f) (I.base.free b o e n f)
 .obtain⟨sl,y⟩:=I.base.slot b o e n hb f;obtain⟨E,C⟩:=slot b _ (D b o e) hb (A b o e f) y<|I.base.free b o e n f;exact⟨E,C⟩
 .obtain⟨o',y⟩:=I.base.there b o e f;exact free b o' (A b o e f) y<|I.base.free b o e n f
 .obtain⟨o',y⟩:=I.base.there b o e f;exact there b o' (A b o e f) y
 .obtain⟨m1,y⟩:=I.base.tY b ps e;obtain⟨m2,C⟩:=tY b _ y;exact⟨m1++m2,by rw[C,Array.append_assoc]⟩
 .obtain⟨m,hn,hl⟩:=I.loc;refine⟨m,ns m hn,λi x v y C J=>?_⟩;obtain⟨u,r,l⟩:=hl i x v y C J;refine⟨u,r,?_⟩
  rcases l with l|⟨k,c,e,z⟩
  .exact .inl l
  .exact .inr ⟨k,c,e,g x c e _ z⟩
 .obtain⟨v,z⟩:=I.cell x c e;exact⟨v,g x c e v z⟩
 .obtain⟨m,⟨o,_,_,B,_⟩,_⟩:=I.loc;exact free _ o (λz=>(j _ z).2.1 rfl) B I.free
 .obtain⟨v,o,B,hd⟩:=I.cell x c e;exact free c o (λz=>(j c z).2.2.1 x c e rfl) B (I.wR x c e)
 .obtain⟨e,n,ne,G,d⟩:=I.pin p F;have t:p.1∉ch:=λz=>(j p.1 z).2.2.2 p F rfl;exact⟨keep p.1 p.2 ne G t e n,free p.1 p.2 t e n,ne,G,d⟩
theorem Inv.un {t':Nat}(I:Inv X Dp σ H s)(u:Un X.fs [] H H' s.heap h')(hok:tZ X.prog X.w H' h'):Inv X Dp σ H' { s with heap:=h',toks:=t' }:=by
 obtain⟨m,⟨o,p,l,g,r⟩,_⟩:=id I.loc;obtain⟨v,i⟩:=u.any g I.free (by simp);exact I.step (g':=s.gens) (d':=s.drawn) (ch:=[]) (λ_ z=>nomatch z) (λb o _ hb _ e n=>u.keep b o e n hb<|by simp) (λb o _ hb _ e n=>u.slot b o e n hb<|by simp) (λb o _ e n=>u.free b o e n<|by simp) (λb o _ e=>u.there b o e<|by simp) u.tups u.uw u.tY (λq hm=>by
  obtain⟨t,f,d,c,j⟩:=hm;rw[g]at c;cases c;exact⟨_,f,d,i,j⟩) hok I.bare
theorem Inv.call {g':Array GenState}{t':Nat}{d':Drawn}(I:Inv X Dp σ H s)(u:Un (frs X.stack) ch H H' s.heap h')(hok:tZ X.prog X.w H' h')(q:ME g')
  (d:∀b∈ch,(b∈X.ex\/X.s₀.heap.objs.size<=b)/\b≠X.env.locals/\(∀x c,X.env.cells.lookup x=some c->c≠b)/\∀p∈X.pn++Dp,p.1≠b) :
  Inv X Dp σ H' { s with heap:=h',gens:=g',drawn:=d',toks:=t' }:=by
 obtain⟨m,⟨o,y,v,l,r⟩,_⟩:=id I.loc;obtain⟨C,j⟩:=u.any l I.free λz=>(d _ z).2.1 rfl;exact I.step (ch:=ch) d (λb o j hb hc e n=>u.keep b o e n (λz=>(Zo.mp<|I.rG b z).elim j hb) hc) (λb o _ _ hc e n=>u.any e n hc) (λb o hc e n=>u.free b o e n hc) (λb o hc e=>u.there b o e hc) u.tups u.uw u.tY (λA hm=>by
  obtain⟨B,i,g,f,t⟩:=hm;rw[l]at f;cases f;exact⟨_,i,g,j,t⟩) hok q
theorem Inv.turned {t':Nat}{it:Eo}(I:Inv X Dp σ H s)(k:∀b o,b≠it->s.heap.get? b=some o->h'.get? b=some o)(hn:H it=none)(f:it≠X.env.locals)
  (h1:it∈X.ex\/X.s₀.heap.objs.size<=it) (j:∀x c,X.env.cells.lookup x=some c->c≠it) (l:∀p∈X.pn++Dp,p.1≠it):Inv X Dp σ H { s with heap:=h',toks:=t' }:=by
 have d:∀b u,H b=some u->b≠it:=λb u e z=>by rw[z,hn]at e;cases e
 refine I.step (g':=s.gens) (d':=s.drawn) (ch:=[it]) (λb hb=>?_) (λb o _ _ hc e _=>k b o (λz=>hc<|by simp[z]) e) (λb o _ _ hc e _=>⟨o.slots,k b o (λz=>hc<|by simp[z]) e⟩) (λ_ _ _ _ n=>n)
  (λb o hc e=>⟨o,k b o (λz=>hc<|by simp[z]) e⟩) (λ_ _ e=>e) (λ_ _ _ e=>e) (λb ps e=>⟨#[],by rw[e];simp⟩) (λm hm=>?_) (λb u e=>?_) I.bare
 .have e:b=it:=by simpa using hb
  subst e;exact⟨h1,f,j,l⟩
 .obtain⟨o,i,g,t,r⟩:=hm;exact⟨o,i,g,k _ o (EC f) t,r⟩
 .refine(I.hok b u e).stay (λc v hc q=>k c v ?_ q) (λ_ q=>q) λ_ _ q=>q
  rcases hc with z|z
  .rw[z];exact d b u e
  .exact d c _ z
theorem Inv.tok (I:Inv X Dp σ H s)(t:Nat):Inv X Dp σ H { s with toks:=t }:=I.un (h':=s.heap) (t':=t) Un.refl I.hok
theorem Inv.kept {t':Nat}(I:Inv X Dp σ H s)(k:∀b u,s.heap.get? b=some u->h'.get? b=some u):Inv X Dp σ H { s with heap:=h',toks:=t' }:=I.un (Un.kept k)<|I.hok.kept k
theorem Inv.laid {a:Eo}{t':Nat}(I:Inv X Dp σ H s)(k:∀b u,s.heap.get? b=some u->h'.get? b=some u)(c:s.heap.objs.size<=a)(new:yq X.prog X.w (upd H a o) h' a o) :
  Inv X Dp σ (upd H a o) { s with heap:=h',toks:=t' }:=I.un (Un.laid k c<|I.hok.fresh c)<|I.hok.laid k c new
theorem Inv.write {x e:Eo}{o:HO}{t':Nat}(I:Inv X Dp σ H s)(d:TH<|H x)(he:e=x\/H e=some (.own x))(k:∀b u,b≠e->s.heap.get? b=some u->h'.get? b=some u)(c:∃u,h'.get? e=some u)
  (new:yq X.prog X.w (upd H x o) h' x o):Inv X Dp σ (upd H x o) { s with heap:=h',toks:=t' }:=I.un (Un.write d he k c)<|I.hok.write d he k c new
theorem Inv.vf {b:De}(I:Inv X Dp σ H s)(h:∀p∈b,s.heap.get? p.1=some p.2/\H p.1=none/\p.1≠X.env.locals/\p.1∉X.fs/\∀v,p.2.data≠.cell v):Inv X b σ H s :=
 ⟨I.ok,I.os,I.bare,I.base,I.loc,I.cell,I.free,I.wR,λp c=>(ZR.mp c).elim (λz=>I.pin p<|Yl _ z) (h p),I.hok,I.len⟩
theorem Ix {N:Da}(e:N.Nodup){i j:Nat}{x:Str}(a:N[i]?=some x)(b:N[j]?=some x):i=j:=by
 obtain⟨h1,c⟩:=ZJ.mp a;obtain⟨f,d⟩:=ZJ.mp b;exact(JG e).mp (c.trans d.symm)
theorem G3 {M:Model}{A:EJ}{E:Ep->Dh}{i:Nat}{x:Str}{Q:Unit->Dh}(I:Inv X Dp σ H s)(hN:X.N.Nodup)(O:X.N[i]?=some x)(t:Loc X.env.scope x)(r:za v u)
  (h:∀s',Inv X Dp (σ.set i (some v)) H s'->(∃a,Lp a s.heap s'.heap/\(a=X.env.locals\/X.env.cells.lookup x=some a))->Q () s') (hf:X.fn x=true\/X.env.scope.names.lookup x=some .local:=by first|exact .inl rfl|exact .inr rfl|assumption):Es M A (storeName X.env x u) Q E s:=by
 obtain⟨m,hn,hl⟩:=id I.loc;have L:(X.env.scope.kind==.class||(X.env.scope.kind==.module&&X.env.locals !=X.env.globals))=false:=by rw[I.ok.kind];rfl
 have D:i<σ.length:=by rw[I.len];exact(ZJ.mp O).1
 have kj:=I.kj;have l:∀{a:Eo} {h':EI},(∃o,s.heap.get? a=some o/\H a=none)->Lp a s.heap h'->tZ X.prog X.w H h':=λ{a h'} ha f b ob e=>by
  obtain⟨_,_,B⟩:=ha;refine(I.hok b ob e).stay (λc S hc q=>(f.2 c ?_).trans q) (λ_ q=>q) λ_ _ q=>q;rintro rfl
  rcases hc with rfl|hc
  .rw[B]at e;cases e
  .rw[B]at hc;cases hc
 rcases t with hk|hk
 .refine wpAny_storeName_local hk hn (λh' U f=>?_) L;obtain⟨oL,_,_,Y,_⟩:=id hn;refine h _ ⟨I.ok,I.os,I.bare,⟨λb o e n hb t=>?_,λb o e n hb t=>?_,I.base.free,λb o e t=>?_,I.base.tups,I.base.uw,I.base.tY⟩,⟨_,U,λj y v' g C T=>?_⟩,λy c e=>?_,I.free,I.wR,λp Z=>?_,l ⟨oL,Y,I.free⟩ f,by simpa using I.len⟩ ⟨_,f,.inl rfl⟩
  .exact(f.2 b<|ZO<|ZU (ZC e) I.ok.above).trans (I.base.keep b o e n hb t)
  .obtain⟨sl,g⟩:=I.base.slot b o e n hb t;exact⟨sl,(f.2 b<|ZO<|ZU (ZC e) I.ok.above).trans g⟩
  .obtain⟨o',g⟩:=I.base.there b o e t;exact⟨o',(f.2 b<|ZO<|ZU (ZC e) I.ok.above).trans g⟩
  .by_cases G:j=i
   .subst G;rw[O]at g;cases g;rw[List.getElem?_set_self D]at C;cases C;exact⟨u,r,.inl ⟨hk,by simp⟩⟩
   .rw[VY<|EC G]at C;obtain⟨u',r',q⟩:=hl j y v' g C T;refine⟨u',r',?_⟩
    rcases q with⟨k,e⟩|⟨k,c,e,z⟩
    .refine .inl ⟨k,?_⟩;have:y≠x:=λe=>G<|Ix hN g<|e▸O;simp[this,e]
    .exact .inr ⟨k,c,e,z.sameBut f<|kj y c e⟩
  .obtain⟨S,z⟩:=I.cell y c e;exact⟨S,z.sameBut f<|kj y c e⟩
  .obtain⟨e,n,ne,nf,d⟩:=I.pin p Z;exact⟨(f.2 p.1 ne).trans e,n,ne,nf,d⟩
 .have F:X.fn x=true:=by
   rcases hf with z|z
   .exact z
   .rw[z]at hk;cases hk
  obtain⟨c,hc⟩:=I.ok.has x<|.inl hk;obtain⟨S,z⟩:=I.cell x c hc;refine wpAny_storeName_cell I.ok.kind hk hc z<|λh' J f=>?_;obtain⟨oc,P,ab⟩:=id z;refine h { s with heap:=h' } ⟨I.ok,I.os,I.bare,⟨λb o e n hb t=>?_,λb o e n hb t=>?_,I.base.free,λb o e t=>?_,I.base.tups,I.base.uw,I.base.tY⟩,⟨m,hn.sameBut f<|EC<|kj x c hc,λj y v' g C T=>?_⟩,λy R e=>?_,I.free,I.wR,λp Z=>?_,l ⟨oc,P,I.wR x c hc⟩ f,by simpa using I.len⟩ ⟨c,f,.inr hc⟩
  .exact(f.2 b<|ZO<|ZU (ZC e)<|I.ok.cab x c F hc).trans (I.base.keep b o e n hb t)
  .obtain⟨sl,g⟩:=I.base.slot b o e n hb t;exact⟨sl,(f.2 b<|ZO<|ZU (ZC e)<|I.ok.cab x c F hc).trans g⟩
  .obtain⟨o',g⟩:=I.base.there b o e t;exact⟨o',(f.2 b<|ZO<|ZU (ZC e)<|I.ok.cab x c F hc).trans g⟩
  .by_cases G:j=i
   .subst G;rw[O]at g;cases g;rw[List.getElem?_set_self D]at C;cases C;exact⟨u,r,.inr ⟨.inl hk,c,hc,J⟩⟩
   .rw[VY<|EC G]at C;obtain⟨u',r',q⟩:=hl j y v' g C T;refine⟨u',r',?_⟩
    rcases q with q|⟨k,R,e,z'⟩
    .exact .inl q
    .refine .inr ⟨k,R,e,z'.sameBut f ?_⟩;rintro rfl;exact G<|Ix hN g<|I.ok.inj _ _ _ e hc▸O
  .by_cases K:R=c
   .subst K;exact⟨_,J⟩
   .obtain⟨w2,z2⟩:=I.cell y R e;exact⟨w2,z2.sameBut f K⟩
  .obtain⟨e,n,ne,nf,d⟩:=I.pin p Z;refine⟨(f.2 p.1 ?_).trans e,n,ne,nf,d⟩;intro q;rw[q,P]at e;have q':oc=p.2:=Option.some.inj e;exact d S (by rwa[<-q'])
theorem Gk {M:Model}{A:EJ}{E:Ep->Dh}{i:Nat}{x:Str}{Q:Unit->Dh}(I:Inv X Dp σ H s)(c:X.N.Nodup)(e:X.N[i]?=some x)(f:Loc X.env.scope x)(r:za v u)
  (h:∀s',Inv X Dp (σ.set i (some v)) H s'->Q () s') (d:X.fn x=true\/X.env.scope.names.lookup x=some .local:=by first|exact .inl rfl|exact .inr rfl|assumption):Es M A (storeName X.env x u) Q E s :=
 G3 I c e f r (λs' b _=>h s' b) d
theorem Inv.call' {d:Et}(I:Inv X Dp σ H s)(i:d.os=s.os)(u:Un (frs X.stack) ch H H' s.heap d.heap)(hok:tZ X.prog X.w H' d.heap)(g:ME d.gens)
  (f:∀b∈ch,(b∈X.ex\/X.s₀.heap.objs.size<=b)/\b≠X.env.locals/\(∀x c,X.env.cells.lookup x=some c->c≠b)/\∀p∈X.pn++Dp,p.1≠b):Inv X Dp σ H' d:=by
 obtain⟨h',g',d',t',j⟩:=d;have e:j=s.os:=i;subst e;exact I.call (g':=g') (t':=t') (d':=d') u hok g f
end
abbrev XK:=Ep->Option Eo->Hp->Prop
abbrev St:=List<|Option V
abbrev VK:=V->Hp->Prop
abbrev TE:=St->Hp->VK->Prop
abbrev TT:=St->Hp->(Bool->Hp->Prop)->Prop
abbrev TA:=St->Hp->(Dj->Hp->Prop)->Prop
structure Ends where
 nx:St->Hp->Prop
 rt:VK
 bk:St->Hp->Prop:=λ_ _=>False
 ct:St->Hp->Prop:=λ_ _=>False
abbrev TS:=Ends->St->Hp->Prop
inductive EP (X:Cx)(Dp:De)(σ:St)(Q:VK)(u:Ep)(s':Et):Prop
 |mk (v:V) (H':Hp) (i:Inv X Dp σ H' s') (r:za v u) (q:Q v H'):EP X Dp σ Q u s'
inductive TP (X:Cx)(Dp:De)(σ:St)(Q:Bool->Hp->Prop)(b:Bool)(s':Et):Prop
 |mk (H':Hp) (i:Inv X Dp σ H' s') (q:Q b H'):TP X Dp σ Q b s'
inductive AP (X:Cx)(Dp:De)(σ:St)(Q:Dj->Hp->Prop)(us:Db)(s':Et):Prop
 |mk (vs:Dj) (H':Hp) (i:Inv X Dp σ H' s') (r:zb vs us) (q:Q vs H'):AP X Dp σ Q us s'
def SP (X:Cx)(d:De)(D:Ends)(f:Flow)(e:Et):Prop :=
 match f with
 | .next=>∃b c,Inv X d b c e/\D.nx b c
 | .brk=>∃b c,Inv X d b c e/\D.bk b c
 | .cont=>∃b c,Inv X d b c e/\D.ct b c
 | .ret u=>∃v b c,Inv X d b c e/\za v u/\D.rt v c
def PE (X:Cx)(e:EN)(t:TE):Prop :=
 ∀(c:De) (s:Et) (b:St) (H:Hp) (Q:VK),Inv X c b H s->t b H Q->Es (Ez X.prog X.w) X.A (Lc e X.env) (EP X c b Q) X.xe s
def PT (X:Cx)(e:EN)(t:TT):Prop :=
 ∀(c:De) (s:Et) (b:St) (H:Hp) (Q:Bool->Hp->Prop),Inv X c b H s->t b H Q->Es (Ez X.prog X.w) X.A (isTrue e X.env<|Lc e X.env) (TP X c b Q) X.xe s
def PW (X:Cx)(e:EN)(t:TT):Prop :=
 ∀(b:Sem Ep) (d:De) (s:Et) (c:St) (H:Hp) (Q:Bool->Hp->Prop),Inv X d c H s->t c H Q->Es (Ez X.prog X.w) X.A (isTrue e X.env b) (TP X d c Q) X.xe s
theorem PW.pt (h:PW X e t):PT X e t:=h _
def PA (X:Cx)(es:List EN)(t:TA):Prop :=
 ∀(pos:Pos) (c:De) (s:Et) (b:St) (H:Hp) (Q:Dj->Hp->Prop),Inv X c b H s->t b H Q->Es (Ez X.prog X.w) X.A (spliced<|Li pos<|EG es X.env) (AP X c b Q) X.xe s
def PS (X:Cx)(st:ER)(t:TS):Prop :=
 ∀(b:De) (s:Et) (c:St) (H:Hp) (D:Ends),Inv X b c H s->t D c H->Es (Ez X.prog X.w) X.A (exec st X.env) (SP X b D) X.xe s
def qw (X:Cx)(st:List ER)(t:TS):Prop :=
 ∀(b:De) (s:Et) (c:St) (H:Hp) (D:Ends),Inv X b c H s->t D c H->Es (Ez X.prog X.w) X.A (execs st X.env) (SP X b D) X.xe s
theorem Ct {c:Type}{t:Sem c}{Q b:c->Dh}{M:Model}{A:EJ}{E:Ep->Dh}{s:Et}(h:Es M A t Q E s)(d:∀a s,Q a s->b a s):Es M A t b E s:=Yy h d λ_ _ x=>x
section
variable {X:Cx}
inductive iJ (i:Nat)(σ:St)(H:Hp)(Q:VK):Prop
 |mk (v:V) (e:σ[i]?=some (some v)) (q:Q v H):iJ i σ H Q
def MV (i:Nat):TE:=iJ i
def tC (v:V):TE:=λ_ H Q=>Q v H
theorem Wt {i:Nat}{x:Str}{pos:Pos}(f:X.N[i]?=some x)(hv:bA X.env.scope x)(hd:(x==("__debug__":Str))=false:=by decide)(b:(x==("__classdict__":Str))=false:=by decide):PE X (.Name x pos) (MV i):=by
 intro d s g H Q I h;obtain⟨v,e,h⟩:=h;obtain⟨m,hn,hl⟩:=I.loc;obtain⟨u,r,l⟩:=hl i x v f e hv;have fin:EP X d g Q u s:=⟨v,H,I,r,h⟩
 rcases l with⟨hk,hm⟩|⟨hk,c,hc,hcell⟩
 .exact wpAny_Name (wpAny_loadName_local I.ok.kind hk hn hm fin) hd
 .rcases hk with hk|hk
  .exact wpAny_Name (wpAny_loadName_cell I.ok.kind hk hc hcell fin) hd
  .exact wpAny_Name (wpAny_loadName_free I.ok.kind hk hc hcell fin b) hd
theorem zH {i j pos}:PE X (.Constant (.int i) j pos) (tC<|.int i):=λ_ _ _ H _ I h=>wpAny_Constant_int ⟨.int i,H,I.tok _,⟨_,rfl⟩,h⟩
theorem qN {b j pos}:PE X (.Constant (.bool b) j pos) (tC<|.bl b):=λ_ _ _ H _ I h=>Constant_bool ⟨.bl b,H,I,rfl,h⟩
theorem x9 {j pos}:PE X (.Constant .none j pos) (tC .non):=λ_ _ _ H _ I h=>Constant_none ⟨.non,H,I,rfl,h⟩
theorem zz {x j pos}:PE X (.Constant (.str x) j pos) (tC<|.str x):=λ_ _ _ H _ I h=>Calls.Constant_str ⟨.str x,H,I.tok _,⟨_,rfl⟩,h⟩
def Gl (X:Cx)(x:Str):Prop:=X.env.kindOf x=some .globalImplicit
theorem jZ {E:Ep->Dh}{u:Ep}{pos:Pos}{Q:Ep->Dh}(I:Inv X Dp σ H s)(b:Gl X x)(hm:X.mg x=some u)(h:Q u s)
  (hd:(x==("__debug__":Str))=false:=by decide):Es (Ez X.prog X.w) X.A (Lc (.Name x pos) X.env) Q E s :=
 Calls.Name_function_global I.ok.kind b (Calls.loadGlobal_global (by rw[I.ok.glob];exact I.mod.glob.keeps I.bk) hm h) hd
theorem vU {E:Ep->Dh}{u:Ep}{pos:Pos}{Q:Ep->Dh}(I:Inv X Dp σ H s)(c:Gl X x)(hm:X.mg x=none)(hv:L9 x=some u)(h:Q u s)
  (hn:x≠"__name__":=by decide) (hd:(x==("__debug__":Str))=false:=by decide):Es (Ez X.prog X.w) X.A (Lc (.Name x pos) X.env) Q E s:=by
 obtain⟨d,h1,b⟩:=I.mod.blt;exact Calls.Name_function_global I.ok.kind c (Calls.loadGlobal_builtin (by rw[I.ok.glob];exact I.mod.glob.keeps I.bk) hm (by rw[I.ok.blt];exact h1.keeps I.bk) ((b x hn).trans hv) h) hd
theorem y7 {u:Ep}{pos:Pos}(b:Gl X x)(hm:X.mg x=some u)(r:za v u)(hd:(x==("__debug__":Str))=false:=by decide):PE X (.Name x pos) (tC v) :=
 λ_ _ _ H _ I h=>jZ I b hm ⟨v,H,I,r,h⟩ hd
theorem y6 {u:Ep}{pos:Pos}(b:Gl X x)(hm:X.mg x=none)(hv:L9 x=some u)(r:za v u)(hn:x≠"__name__":=by decide)(hd:(x==("__debug__":Str))=false:=by decide):PE X (.Name x pos) (tC v) :=
 λ_ _ _ H _ I h=>vU I b hm hv ⟨v,H,I,r,h⟩ hn hd
variable {a b:EN}{ta tb:TE}{pos:Pos}
def PC (X:Cx)(op:CmpOp)(a b:EN)(t:TE):Prop :=
 ∀(f:De) (s:Et) (e:St) (H:Hp) (Q:VK),Inv X f e H s->t e H Q ->
  Es (Ez X.prog X.w) X.A (Lc a X.env) (λv c=>Es (Ez X.prog X.w) X.A (Lc b X.env) (λu d=>Es (Ez X.prog X.w) X.A (ES op v u) (EP X f e Q) X.xe d) X.xe c) X.xe s
variable {tA tB':TT}{rest:List EN}
def cg (t u:TT):TT:=λd H Q=>t d H λc b=>if c=true then u d b Q else Q false b
def tOr (t u:TT):TT:=λd H Q=>t d H λc b=>if c=true then Q true b else u d b Q
def cq (t:TT):TT:=λd H Q=>t d H λc b=>Q (!c) b
theorem qU (ha:PT X a tA):PW X (.BoolOp .And [a] pos) tA:=by
 intro g b s d H Q I h;refine isTrue_and<|Ct (ha b s d H Q I h) λc f e=>?_;cases c with
 |true=>exact isTrue_and_nil e
 |false=>exact e
theorem vG (ha:PT X a tA):PW X (.BoolOp .Or [a] pos) tA:=by
 intro g b s d H Q I h;refine isTrue_or<|Ct (ha b s d H Q I h) λc f e=>?_;cases c with
 |false=>exact isTrue_or_nil e
 |true=>exact e
theorem jC (ha:PT X a tA)(hb:PW X (.BoolOp .And (b::rest) pos) tB'):PW X (.BoolOp .And (a::b::rest) pos) (cg tA tB'):=by
 intro l d s i H Q I h;refine isTrue_and<|Ct (ha d s i H _ I h) λc j ⟨e,f,g⟩=>?_;cases c with
 |true=>exact hb l d j i e Q f g
 |false=>exact⟨e,f,g⟩
theorem v7 (ha:PT X a tA)(hb:PW X (.BoolOp .Or (b::rest) pos) tB'):PW X (.BoolOp .Or (a::b::rest) pos) (tOr tA tB'):=by
 intro l d s i H Q I h;refine isTrue_or<|Ct (ha d s i H _ I h) λc j ⟨e,f,g⟩=>?_;cases c with
 |true=>exact⟨e,f,g⟩
 |false=>exact hb l d j i e Q f g
theorem yS (ha:PT X a tA):PT X (.UnaryOp .Not a pos) (cq tA):=by
 intro b s f H Q I h;exact isTrue_not<|Ct (ha b s f H (λc e=>Q (!c) e) I h) λc g z=>z.casesOn λd i q=>⟨d,i,q⟩
def bb (ta tb:TE):TE:=λd H Q=>ta d H λx b=>∃c,x=.bl c/\if c=true then tb d b Q else Q (.bl false) b
def cu (ta tb:TE):TE:=λd H Q=>ta d H λx b=>∃c,x=.bl c/\if c=true then Q (.bl true) b else tb d b Q
theorem xU (h:PE X a t):PE X (.BoolOp op [a] pos) t:=λb s d H Q I c=>BoolOp_one<|h b s d H Q I c
theorem y8 (ha:PE X a ta)(hb:PE X (.BoolOp .And (b::rest) pos) tb):PE X (.BoolOp .And (a::b::rest) pos) (bb ta tb):=by
 intro e s i H Q I h;refine BoolOp_and<|Ct (ha e s i H _ I h) λv l ⟨x,f,g,j,d⟩=>?_;obtain⟨c,rfl,d⟩:=d;cases j;refine Y2 ?_;cases c with
 |true=>exact hb e l i f Q g d
 |false=>exact⟨.bl false,f,g,rfl,d⟩
theorem Tq (ha:PE X a ta)(hb:PE X (.BoolOp .Or (b::rest) pos) tb):PE X (.BoolOp .Or (a::b::rest) pos) (cu ta tb):=by
 intro e s i H Q I h;refine BoolOp_or<|Ct (ha e s i H _ I h) λv l ⟨x,f,g,j,d⟩=>?_;obtain⟨c,rfl,d⟩:=d;cases j;refine Y2 ?_;cases c with
 |false=>exact hb e l i f Q g d
 |true=>exact⟨.bl true,f,g,rfl,d⟩
def cC (t:TT)(ta tb:TE):TE:=λb H Q=>t b H λc d=>if c=true then ta b d Q else tb b d Q
theorem Hv (hc:PT X c tA)(ha:PE X a ta)(hb:PE X b tb):PE X (.IfExp c a b pos) (cC tA ta tb):=by
 intro e s f H Q I h;refine wpAny_IfExp<|Ct (hc e s f H _ I h) λd l ⟨g,i,j⟩=>?_;cases d with
 |true=>exact ha e l f g Q i j
 |false=>exact hb e l f g Q i j
end
def yu (K:Cq)(H:Hp)(a:Eo)(xs:Dj):Prop :=
 Rd H a (.lst xs) \/
  ∃(o:Obj) (b:Array Ep) (n:Nat),K.lookup a=some o/\o.cls=.type "list"/\o.dict=none/\o.data=.seq b n/\b.size<=sizeLine/\zb xs b.toList
def wY (K:Cq)(H:Hp)(a:Eo)(xs:Dj):Prop :=
 Rd H a (.tup xs) \/
  ∃(o:Obj) (b:Array Ep) (n:Nat),K.lookup a=some o/\o.cls=.type "tuple"/\o.dict=none/\o.data=.seq b n/\b.size<=sizeLine/\zb xs b.toList
def bI:Ep->Option V
 | .none=>some .non
 | .bool b=>some<|.bl b
 | .int i _=>some<|.int i
 | .str x _=>some<|.str x
 | .bytes b _=>some<|.byt b
 | .float b _=>some<|.flt b
 | .ref a=>some<|.ref a
 | .type n=>some<|.ty n
 |_=>none
theorem za.abs (r:za x u):bI u=some x:=by
 cases x with
 |non=>cases r;rfl
 |bl _=>cases r;rfl
 |int _=>obtain⟨t,rfl⟩:=r;rfl
 |str _=>obtain⟨t,rfl⟩:=r;rfl
 |byt _=>obtain⟨t,rfl⟩:=r;rfl
 |flt _=>obtain⟨t,rfl⟩:=r;rfl
 |ref _=>cases r;rfl
 |ty _=>cases r;rfl
theorem za.inj (r:za x u)(q:za y u):x=y:=Option.some.inj<|r.abs.symm.trans q.abs
theorem zb.inj:∀{xs ys:Dj} {us:Db},zb xs us->zb ys us->xs=ys
 |_,_,_,.nil,.nil=>rfl
 |_,_,_,.cons r t,.cons r' t'=>by rw[r.inj r',zb.inj t t']
section
variable {X:Cx}{Dp:De}{σ:St}{H:Hp}{s:Et}{a:Eo}{xs ys:Dj}
theorem yu.of {K:Cq}(h:H a=some (.lst xs)):yu K H a xs:=.inl<|.inl h
theorem wY.of {K:Cq}(h:H a=some (.tup xs)):wY K H a xs:=.inl<|.inl h
theorem Inv.list (I:Inv X Dp σ H s)(h:yu X.K H a xs):∃its:Db,zb xs its/\PlainL s.heap a its.toArray/\xs.length<=sizeLine:=by
 rcases h with h|⟨o,its,n,hk,hc,hd,b,c,r⟩
 .obtain⟨z,its,n,r,e⟩:=h.ok I.hok;exact⟨its,r,⟨_,n,e,rfl,rfl,rfl⟩,z⟩
 .refine⟨its.toList,r,⟨o,n,I.vh a o hk,hc,hd,by simpa using b⟩,?_⟩;have e:=r.length;simp only[ZT]at e;lia
theorem Inv.jc (I:Inv X Dp σ H s)(h:wY X.K H a xs):∃its:Db,zb xs its/\TupAt s.heap a its.toArray/\xs.length<=sizeLine:=by
 rcases h with h|⟨o,its,n,hk,hc,b,c,d,r⟩
 .obtain⟨z,its,r,p⟩:=h.ok I.hok;exact⟨its,r,p,z⟩
 .refine⟨its.toList,r,⟨o,I.vh a o hk,hc,n,by simpa using c,b⟩,?_⟩;have e:=r.length;simp only[ZT]at e;lia
theorem Inv.tuple (I:Inv X Dp σ H s)(h:wY X.K H a xs):∃its:Db,zb xs its/\IsTup s.heap a its.toArray/\xs.length<=sizeLine:=by
 obtain⟨its,r,p,z⟩:=I.jc h;exact⟨its,r,p.is,z⟩
theorem Inv.oY (I:Inv X Dp σ H s)(h:yu X.K H a xs)(h':yu X.K H a ys):xs=ys:=by
 obtain⟨b,r,⟨o,n,e,_,_,d⟩,_⟩:=I.list h;obtain⟨g,j,⟨p,l,f,_,_,c⟩,_⟩:=I.list h';rw[e]at f;cases f;rw[d]at c;injection c with i _;have:b=g:=by simpa using congrArg Array.toList i
 subst this;exact r.inj j
theorem Inv.m5 (I:Inv X Dp σ H s)(h:wY X.K H a xs)(h':wY X.K H a ys):xs=ys:=by
 obtain⟨b,r,⟨o,e,_,n,d⟩,_⟩:=I.tuple h;obtain⟨g,j,⟨p,f,_,l,c⟩,_⟩:=I.tuple h';rw[e]at f;cases f;rw[d]at c;injection c with i _;have:b=g:=by simpa using congrArg Array.toList i
 subst this;exact r.inj j
end
abbrev Cx.wish (X:Cx)(E:Ep->Dh):Cx:={ X with xe:=E }
abbrev Cx.iy (X:Cx):Cx:=X.wish λ_ _=>False
theorem Cx.Ok.wish {X:Cx}(ok:X.Ok)(E:Ep->Dh):(X.wish E).Ok :=
 ⟨ok.mod,ok.kind,ok.glob,ok.blt,ok.above,ok.inj,ok.has,ok.cab,ok.hd,ok.frames,ok.stk,ok.ju,ok.bs,ok.nj,ok.pW,ok.pL,ok.uv,ok.mW⟩
theorem Cx.Ok.ur {X:Cx}{E:Ep->Dh}(ok:(X.wish E).Ok):X.Ok :=
 ⟨ok.mod,ok.kind,ok.glob,ok.blt,ok.above,ok.inj,ok.has,ok.cab,ok.hd,ok.frames,ok.stk,ok.ju,ok.bs,ok.nj,ok.pW,ok.pL,ok.uv,ok.mW⟩
section
variable {X:Cx}{Dp:De}{σ:St}{H:Hp}{s:Et}{E:Ep->Dh}
theorem Inv.wish (I:Inv X Dp σ H s)(E:Ep->Dh):Inv (X.wish E) Dp σ H s:=⟨I.ok.wish E,I.os,I.bare,I.base,I.loc,I.cell,I.free,I.wR,I.pin,I.hok,I.len⟩
theorem Inv.ur (I:Inv (X.wish E) Dp σ H s):Inv X Dp σ H s:=⟨I.ok.ur,I.os,I.bare,I.base,I.loc,I.cell,I.free,I.wR,I.pin,I.hok,I.len⟩
theorem SP.ur (h:SP (X.wish E) Dp D f s'):SP X Dp D f s':=by
 cases f with
 |next=>obtain⟨b,c,I,q⟩:=h;exact⟨b,c,I.ur,q⟩
 |brk=>obtain⟨b,c,I,q⟩:=h;exact⟨b,c,I.ur,q⟩
 |cont=>obtain⟨b,c,I,q⟩:=h;exact⟨b,c,I.ur,q⟩
 |ret u=>obtain⟨v,b,c,I,r,q⟩:=h;exact⟨v,b,c,I.ur,r,q⟩
theorem qw.iy {st:List ER}(h:qw X.iy st t):qw X st t:=λDp s σ H D I b =>
 Yy (h Dp s σ H D (I.wish _) b) (λ_ _ q=>q.ur) λ_ _ z=>EL z
end
section
variable {X:Cx}{st:ER}{rest:List ER}{t u:TS}{e:EN}{te:TE}{pos:Pos}
def RN:TS:=λD b H=>D.nx b H
def RO (t u:TS):TS:=λD b H=>t { D with nx:=u D } b H
theorem zR:qw X [] RN:=λ_ _ b H _ I h=>V2 ⟨b,H,I,h⟩
theorem zD (h1:PS X st t)(g:qw X rest u):qw X (st::rest) (RO t u):=by
 intro c s j H D I h;refine Uq<|Ct (h1 c s j H { D with nx:=u D } I h) λf i q=>?_;cases f with
 |next =>
  obtain⟨b,d,e,q⟩:=q;exact g c i b d D e q
 |ret v=>exact q
 |brk=>exact q
 |cont=>exact q
theorem zE (h1:PS X st t):qw X [st] t:=by
 intro b s c H D I h;refine Uq<|Ct (h1 b s c H D I h) λf d q=>?_;cases f with
 |next=>exact V2 q
 |ret v=>exact q
 |brk=>exact q
 |cont=>exact q
theorem Inv.quiet (I:Inv X Dp σ H s):interactive X.env=false:=by simp[interactive,I.ok.kind]
def be (te:TE):TS:=λD b H=>te b H λ_ c=>D.nx b c
theorem yC (he:PE X e te)(hs:Mi e none pos.line X.env=LC false:=by rfl):PS X (.Expr e pos) (be te):=by
 intro c s b H D I h;exact wpAny_Expr_any (Ct (he c s b H _ I h) λv j ⟨x,d,f,i,g⟩=>⟨b,d,f,g⟩) I.quiet hs
def cw (te:TE):TS:=λD b H=>te b H D.rt
theorem zL (he:PE X e te):PS X (.Return (some e) pos) (cw te):=by
 intro c s b H D I h;exact wpAny_Return_some<|Ct (he c s b H _ I h) λv j ⟨x,d,f,i,g⟩=>⟨x,b,d,f,i,g⟩
def cn (c:TT)(t u:TS):TS:=λD d H=>c d H λb e=>if b=true then t D d e else u D d e
theorem yG (hc:PT X c tc)(ha:qw X a t)(hb:qw X b u):PS X (.If c a b pos) (cn tc t u):=by
 intro e s f H D I h;refine wpAny_If<|Ct (hc e s f H _ I h) λd l ⟨g,i,j⟩=>?_;cases d with
 |true=>exact ha e l f g D i j
 |false=>exact hb e l f g D i j
end
abbrev TG:=V->St->Hp->(St->Hp->Prop)->Prop
abbrev Tg:=Dj->St->Hp->(St->Hp->Prop)->Prop
def PG (X:Cx)(b:EN)(t:TG):Prop :=
 ∀(d:De) (s:Et) (f:St) (H:Hp) (v:V) (u:Ep) (Q:St->Hp->Prop),Inv X d f H s->za v u->t v f H Q ->
  Es (Ez X.prog X.w) X.A (assign b X.env u) (λ_ g=>∃c e,Inv X d c e g/\Q c e) X.xe s
def jo (X:Cx)(j:List EN)(t:Tg):Prop :=
 ∀(c:De) (s:Et) (g:St) (H:Hp) (f:Dj) (e:Db) (Q:St->Hp->Prop),Inv X c g H s->zb f e->t f g H Q ->
  Es (Ez X.prog X.w) X.A (assignInOrder ((LQ j X.env).map (·.2)) e) (λ_ i=>∃b d,Inv X c b d i/\Q b d) X.xe s
section
variable {X:Cx}{pos:Pos}
def Xc (i:Nat):TG:=λv b H Q=>Q (b.set i (some v)) H
theorem z6 {i:Nat}{x:Str}(c:X.N.Nodup)(e:X.N[i]?=some x)(f:Loc X.env.scope x)(d:X.fn x=true\/X.env.scope.names.lookup x=some .local:=by first|exact .inl rfl|exact .inr rfl|assumption):PG X (.Name x pos) (Xc i):=by
 intro g s l H v u Q I r h;exact wpAny_assign_Name<|Gk I c e f r (λj b=>⟨_,H,b,h⟩) d
def bL:Tg:=λb c H Q=>b=[]/\Q c H
inductive jy (t:TG)(u:Tg)(vs:Dj)(σ:St)(H:Hp)(Q:St->Hp->Prop):Prop
 |mk (v:V) (r:Dj) (e:vs=v::r) (q:t v σ H λσ' H'=>u r σ' H' Q):jy t u vs σ H Q
theorem kO:jo X [] bL:=by
 intro c s b H f d Q I r h;obtain⟨e,h⟩:=h;subst e;cases r;exact assignInOrder_nil ⟨b,H,I,h⟩
theorem y9 (h1:PG X e t)(i:jo X es u)
  (hs:(LQ (e::es) X.env).map (·.2)=assign e X.env::(LQ es X.env).map (·.2):=by rfl):jo X (e::es) (jy t u):=by
 intro c s n H q o Q I r h;obtain⟨v,p,g,h⟩:=h;subst g;cases r with
 |cons r rr =>
  rw[hs];refine assignInOrder_cons<|Ct (h1 c s n H _ _ _ I r h) λ_ l ⟨b,d,f,j⟩=>?_;exact i c l b d _ _ Q f rr j
inductive iG (K:Cq)(n:Nat)(t:Tg)(v:V)(σ:St)(H:Hp)(Q:St->Hp->Prop):Prop
 |mk (a:Eo) (xs:Dj) (e:v=.ref a) (h:wY K H a xs) (l:xs.length=n) (q:t xs σ H Q):iG K n t v σ H Q
theorem Xq {k:Nat}{n:Nat}(hc:X.calm=true)(h:jo X es t)
  (hn:(LQ es X.env).length=n:=by rfl) (c:(LQ es X.env).findIdx? (·.1)=none:=by rfl):PG X (.Tuple es k pos) (iG X.K n t):=by
 intro f s i H v u Q I r d;obtain⟨a,y,l,p,hl,d⟩:=d;subst l;cases r;obtain⟨x,g,q,z⟩:=I.tuple p;refine assign_Tuple_tuple (I.ok.hd hc) q (by simp[hn,<-hl,g.length]) c λh' w=>?_;have j:Inv X f i H { s with heap:=h' }:=I.kept (t':=s.toks) λb o e=>w b o (ZO<|ZC e) e;exact h f _ i H y _ Q j (by simpa using g) d
def OC (d:TE)(g:TG):TS:=λD b H=>d b H λx c=>g x b c D.nx
theorem zN {i:Nat}{x:Str}{b:Pos}(j:X.N.Nodup)(n:X.N[i]?=some x)(o:Loc X.env.scope x)(he:PE X e te)(hs:Mi e (some<|.Name x b) pos.line X.env=LC false:=by rfl)(l:X.fn x=true\/X.env.scope.names.lookup x=some .local:=by first|exact .inl rfl|exact .inr rfl|assumption) :
  PS X (.Assign [.Name x b] e pos) (OC te<|Xc i):=by
 intro c s r H D I h;refine wpAny_Assign_Name (Ct (he c s r H _ I h) λv t ⟨y,d,f,q,p⟩=>?_) hs;exact Gk f j n o q (λu g=>⟨_,d,g,p⟩) l
theorem Cv {i:Nat}{x:Str}{b:Pos}(c:X.N.Nodup)(he:PE X e te)(f:X.N[i]?=some x:=by rfl)(g:Loc X.env.scope x:=by first|exact EU rfl|exact Or.inr rfl)(hs:Mi e (some<|.Name x b) pos.line X.env=LC false:=by rfl)(d:X.fn x=true\/X.env.scope.names.lookup x=some .local:=by first|exact .inl rfl|exact .inr rfl|assumption):PS X (.Assign [.Name x b] e pos) (OC te<|Xc i):=zN c f g he hs d
end
structure It where
 go:Nat->Hp->Prop
 oM:Nat->Hp->V->Hp->Prop
 stop:Nat->Hp->Prop
def XE (X:Cx)(d:De)(H:Hp)(b:Eo):Prop :=
 H b=none/\b≠X.env.locals/\b∉X.fs/\(b∈X.ex\/X.s₀.heap.objs.size<=b)/\(∀x c,X.env.cells.lookup x=some c->c≠b)/\∀p∈X.pn++d,p.1≠b
theorem Inv.tB {H':Hp}{b:Eo}(I:Inv X Dp σ H s)(hb:s.heap.objs.size<=b)(hn:H' b=none):XE X Dp H' b:=by
 refine⟨hn,JP<|ZU I.lt hb,I.gV hb,.inr<|Yk I.sz hb,λx c e z=>?_,λp d z=>?_⟩
 .obtain⟨v,q⟩:=I.cell x c e;exact absurd (ZU q.lt<|by rwa[z])<|YB _
 .exact absurd (ZU (ZC (I.pin p d).1)<|by rwa[z]) (YB _)
structure ph (U:Cx->Prop)(P:Er)(w:Eu)(K:Cq)(tg:EN)(J:It)(fp:Dd)(it:Eo)(tn:Nat->EI->Prop):Prop where
 mem:it∈fp
 obj:∀i h,tn i h->∀b∈fp,∃o,h.get? b=some o/\∀v,o.data≠.cell v
 keep:∀i h h',tn i h->(∀b∈fp,∀o,h.get? b=some o->h'.get? b=some o)->tn i h'
 item:∀(X:Cx),X.prog=P->X.w=w->X.K=K->U X->∀(i:Nat) (Dp:De) (s:Et) (σ:St) (H:Hp) (E:Ep->Dh),Inv X Dp σ H s->(∀b∈fp,XE X Dp H b)->tn i s.heap->J.go i H ->
  Es (Ez P w) X.A (LR<|.ref it) (λr s1=>∃u,r=some u /\ Es (Ez P w) X.A (Mc tg (.ref it) u) (λ_ s2=>∃x H',Inv X Dp σ H' s2/\za x u/\J.oM i H x H'/\tn (i+1) s2.heap/\∀b∈fp,H' b=none) E s1) E s
 done:∀(X:Cx),X.prog=P->X.w=w->X.K=K->U X->∀(i:Nat) (Dp:De) (s:Et) (σ:St) (H:Hp) (E:Ep->Dh),Inv X Dp σ H s->(∀b∈fp,XE X Dp H b)->tn i s.heap->J.stop i H ->
  Es (Ez P w) X.A (LR<|.ref it) (λr s1=>r=none/\Inv X Dp σ H s1) E s
 self:∀(A:EJ) (i:Nat) (s:Et) (Q:Ep->Dh) (E:Ep->Dh),tn i s.heap->Q (.ref it) s->Es (Ez P w) A (pyIter<|.ref it) Q E s
abbrev Turn:=ph λX=>X.calm=true
abbrev TI:=St->Hp->(It->Hp->Prop)->Prop
def aa (U:Cx->Prop)(X:Cx)(e:De)(l:St)(j:EN)(R:It->Hp->Prop)(d:Ep)(g:Et):Prop :=
 ∃(f:Eo) (fp:Dd) (i:Nat->EI->Prop) (J:It) (c:Hp),d=.ref f/\Inv X e l c g/\ph U X.prog X.w X.K j J fp f i/\i 0 g.heap/\(∀b∈fp,XE X e c b)/\R J c
abbrev PIE:=aa λX=>X.calm=true
def bF (U:Cx->Prop)(X:Cx)(f b:EN)(g:TI):Prop :=
 ∀(d:De) (s:Et) (c:St) (H:Hp) (R:It->Hp->Prop),Inv X d c H s->g c H R ->
  Es (Ez X.prog X.w) X.A (Lc b X.env) (λv e=>Es (Ez X.prog X.w) X.A (pyIter v) (aa U X d c f R) X.xe e) X.xe s
def PI (X:Cx)(c b:EN)(d:TI):Prop:=bF (λX=>X.calm=true) X c b d
theorem Nj {M:Model}{A:EJ}{E:Ep->Dh}{s:Et}{c:EN}{it:Eo}{u:Ep}{o:Obj}{n:String}{vs:Array Ep}{Q:Unit->Dh}(d:s.heap.get? it=some o)(hc:o.cls=.type n)(hd:o.data=.fields vs)
  (hn:["enumerate","zip","dict_itemiterator","dict_reverseitemiterator","odict_iterator","itertools.zip_longest","itertools.pairwise"].contains n=false) (b:Q () s):Es M A (Mc c (.ref it) u) Q E s:=by
 unfold Mc;cases c<;>first
  |exact Zu b
  | (cases u<;>first
    |exact Zu b
    | (refine Zm (wpAny_load d ?_)
       rw[hc,hd];show Es M A (if(["enumerate","zip","dict_itemiterator","dict_reverseitemiterator","odict_iterator","itertools.zip_longest","itertools.pairwise"].contains n&&vs[0]?==some (E9 _))=true then _ else _) Q E s;rw[ZH (by intro h;rw[hn,Vz]at h;cases h)];exact Zu b))
def OL (K:Cq)(a:Eo):It :=
 ⟨λi H=>∃b x,yu K H a b/\b[i]?=some x,λi H x c=>c=H/\∀b,yu K H a b->b[i]?=some x,λi H=>∃b,yu K H a b/\b.length<=i⟩
def RV (K:Cq)(a:Eo):It :=
 ⟨λi H=>∃b x,wY K H a b/\b[i]?=some x,λi H x c=>c=H/\∀b,wY K H a b->b[i]?=some x,λi H=>∃b,wY K H a b/\b.length<=i⟩
def RX (lo:Int)(n:Nat):It:=⟨λi _=>i<n,λi H x b=>b=H/\x=.int (lo+i),λi _=>n<=i⟩
theorem IW {U:Cx->Prop}{stop:Nat->Hp->Prop}{P:Er}{w:Eu}{K:Cq}(a it:Eo)(q:∀(X:Cx),X.prog=P->X.w=w->X.K=K->U X->∀(i:Nat) (Dp:De) (s:Et) (σ:St) (H:Hp) (E:Ep->Dh),Inv X Dp σ H s->(∀b∈[it],XE X Dp H b)->s.heap.IsListIter it a i->stop i H->Es (Ez P w) X.A (LR<|.ref it) (λr s1=>r=none/\Inv X Dp σ H s1) E s):ph U P w K tg ⟨(OL K a).go,(OL K a).oM,stop⟩ [it] it (λi h=>h.IsListIter it a i) where
 mem:=by simp
 obj:=λi h st b hb=>by
  have e:b=it:=by simpa using hb
  subst e;obtain⟨o,e,c,d⟩:=st;exact⟨o,e,λv z=>by rw[d]at z;cases z⟩
 keep:=λi h h' st k=>st.at λo e=>k it (by simp) o e
 item:=by
  intro X G M F hc i Dp s σ H E I g st J;subst G M F;obtain⟨Z,x,j,l⟩:=J;obtain⟨O,R,p,Y⟩:=I.list j;obtain⟨u,L,Q⟩:=R.get l;obtain⟨t,y,T,B,C,D⟩:=g it (by simp);refine wpAny_pyNext_list_item st p.isList (x:=u) (by simpa using L) λh' f S=>?_;have n:Inv X Dp σ H { s with heap:=h' }:=I.turned (t':=s.toks) (λb o hb e=>(S.2 b hb).trans e) t y B C D;obtain⟨o,e,c,d⟩:=id f;exact⟨u,rfl,Nj (s:={ s with heap:=h' }) e c d (by decide) ⟨x,H,n,Q,⟨rfl,λys N=>by rw[I.oY N j];exact l⟩,f,λb hb=>(g b hb).1⟩⟩
 done:=q
 self:=λ_ _ _ _ _ st h=>wpAny_pyIter_listiter st h
theorem OG {K:Cq}(a it:Eo):Turn P w K tg (OL K a) [it] it (λi h=>h.IsListIter it a i):=IW a it (by
  intro X q v n hc i z s F H E I r st t;subst q v n;obtain⟨D,u,B⟩:=t;obtain⟨x,y,p,C⟩:=I.list u;obtain⟨d,f,A,g,j,l⟩:=r it (by simp);have hl:=y.length;exact wpAny_pyNext_list_end (I.ok.hd hc) st p.isList (by simp;lia) λh' c=>⟨rfl,I.turned (t':=s.toks) (λb o hb e=>c b o hb e) d f g j l⟩)
theorem MZ {K:Cq}(a it:Eo):Turn P w K tg (RV K a) [it] it (λi h=>h.IsTupleIter it a i) where
 mem:=by simp
 obj:=λi h st b hb=>by
  have e:b=it:=by simpa using hb
  subst e;obtain⟨o,e,c,d⟩:=st;exact⟨o,e,λv z=>by rw[d]at z;cases z⟩
 keep:=λi h h' st k=>st.at λo e=>k it (by simp) o e
 item:=by
  intro X B D A hc i J s L H E I j st C;subst B D A;obtain⟨Y,x,l,F⟩:=C;obtain⟨f,G,p,S⟩:=I.tuple l;obtain⟨u,Q,T⟩:=G.get F;obtain⟨n,q,O,r,t,y⟩:=j it (by simp);refine wpAny_pyNext_tuple_item st (show s.heap.IsTuple a f.toArray from p) (x:=u) (by simpa using Q) λh' g U=>?_;have M:Inv X J L H { s with heap:=h' }:=I.turned (t':=s.toks) (λb o hb e=>(U.2 b hb).trans e) n q r t y;obtain⟨o,e,c,d⟩:=id g;exact⟨u,rfl,Nj (s:={ s with heap:=h' }) e c d (by decide) ⟨x,H,M,T,⟨rfl,λZ R=>by rw[I.m5 R l];exact F⟩,g,λb hb=>(j b hb).1⟩⟩
 done:=by
  intro X B D A hc i J s L H E I j st C;subst B D A;obtain⟨Y,l,F⟩:=C;obtain⟨f,G,p,S⟩:=I.tuple l;obtain⟨n,q,O,r,t,y⟩:=j it (by simp);have hl:=G.length;exact wpAny_pyNext_tuple_end (I.ok.hd hc) st (show s.heap.IsTuple a f.toArray from p) (by simp;lia) λh' N=>⟨rfl,I.turned (t':=s.toks) (λb o hb e=>N b o hb e) n q r t y⟩
 self:=λ_ _ _ _ _ st h=>wpAny_pyIter_tupleiter st h
theorem MY {K:Cq}(it:Eo)(lo:Int)(n:Nat):Turn P w K tg (RX lo n) [it] it (λi h=>IsRangeIter h it (lo+(i:Nat)*1) ((n:Int)-(i:Nat)) 1) where
 mem:=by simp
 obj:=λi h st b hb=>by
  have e:b=it:=by simpa using hb
  subst e;exact⟨_,st,λv z=>by
   have G:Data.fields _=Data.cell v:=z;cases G⟩
 keep:=λi h h' st k=>k it (by simp) _ st
 item:=by
  intro X r x q hc i y s A H E I d st u;subst r x q;obtain⟨f,g,D,j,l,p⟩:=d it (by simp);have W:=Walks.range (prog:=X.prog) (w:=X.w) (I.ok.hd hc) it lo 1 n;refine W.item i s _ _ u st λv h' tk hv c F=>?_;obtain⟨t,rfl⟩:=hv;have B:Inv X y A H { s with heap:=h',toks:=tk }:=I.turned (λb o hb e=>F b o (by simpa using hb) e) f g j l p;refine⟨_,rfl,Nj (s:={ s with heap:=h',toks:=tk }) (n:="range_iterator") c rfl rfl (by decide) ⟨.int<|lo+i,H,B,⟨t,?_⟩,⟨rfl,rfl⟩,c,λb hb=>(d b hb).1⟩⟩;rw[Int.mul_one]
 done:=by
  intro X r x q hc i y s A H E I d st u;subst r x q;obtain⟨f,g,D,j,l,p⟩:=d it (by simp);exact wpAny_pyNext_range_end (I.ok.hd hc) st (by have:n<=i:=u;lia) λh' C=>⟨rfl,I.turned (t':=s.toks) (λb o hb e=>C b o hb e) f g j l p⟩
 self:=λ_ _ _ _ _ st h=>wpAny_pyIter_rangeiter st h
section
variable {X:Cx}{tg:EN}
def ay (K:Cq)(c:TE):TI:=λe H R=>c e H λx b=>∃a,x=.ref a/\(∃d,yu K b a d)/\R (OL K a) b
def bN (K:Cq)(c:TE):TI:=λe H R=>c e H λx b=>∃a,x=.ref a/\(∃d,wY K b a d)/\R (RV K a) b
theorem jL (hl:PE X l tl):PI X tg l (ay X.K tl):=by
 intro f s t H R I h;refine Ct (hl f s t H _ I h) λv d ⟨x,g,c,r,n⟩=>?_;obtain⟨a,e,⟨y,i⟩,q⟩:=n;subst e;cases r;obtain⟨j,w,p,u⟩:=c.list i;refine J0 p.isList ?_;refine⟨d.heap.objs.size,[d.heap.objs.size],_,_,g,rfl,c.kept (t':=d.toks) λb o e=>Zp _ e,OG a _,⟨_,Zz _ rfl,rfl,rfl⟩,λb hb=>?_,q⟩;have e:b=d.heap.objs.size:=by simpa using hb
 subst e;exact c.tB (Zt _)<|c.hok.fresh<|Zt _
theorem vF (hl:PE X l tl):PI X tg l (bN X.K tl):=by
 intro g s t H R I h;refine Ct (hl g s t H _ I h) λv c ⟨x,i,d,r,n⟩=>?_;obtain⟨a,e,⟨y,j⟩,q⟩:=n;subst e;cases r;obtain⟨f,w,p,u⟩:=d.tuple j;refine wpAny_pyIter_tuple (show c.heap.IsTuple a f.toArray from p) ?_;refine⟨c.heap.objs.size,[c.heap.objs.size],_,_,i,rfl,d.kept (t':=c.toks) λb o e=>Zp _ e,MZ a _,⟨_,Zz _ rfl,rfl,rfl⟩,λb hb=>?_,q⟩;have e:b=c.heap.objs.size:=by simpa using hb
 subst e;exact d.tB (Zt _)<|d.hok.fresh<|Zt _
theorem HL {R:It->Hp->Prop}{E:Ep->Dh}{lo c:Int}{t u v:Tok}{tk:Nat}(I:Inv X Dp σ H s)(h1:-(2 ^ 62)<=lo)(i:lo<2 ^ 62)(j:-(2 ^ 62)<=c)(h4:c<2 ^ 62)
  (q:R (RX lo (c-lo).toNat) H):Es (Ez X.prog X.w) X.A (pyIter<|.ref s.heap.objs.size) (PIE X Dp σ tg R) E { s with heap:=s.heap.push { cls:=.type "range",data:=.fields #[.int lo t,.int c u,.int 1 v] },toks:=tk }:=by
 refine wpAny_pyIter_range (IsRange.new ..) (small_one h1 i j h4) ?_;have d:Inv X Dp σ H { s with heap:=s.heap.push { cls:=.type "range",data:=.fields #[.int lo t,.int c u,.int 1 v] },toks:=tk }:=I.kept λb o e=>Zp _ e;refine⟨(s.heap.push { cls:=.type "range",data:=.fields #[.int lo t,.int c u,.int 1 v] }).objs.size,[(s.heap.push { cls:=.type "range",data:=.fields #[.int lo t,.int c u,.int 1 v] }).objs.size],_,_,H,rfl,d.kept (t':=tk) λb o e=>Zp _ e,MY _ lo (c-lo).toNat,?_,λb hb=>?_,q⟩
 .have f:lo+((0:Nat):Int)*1=lo:=by simp
  have g:(((c-lo).toNat:Nat):Int)-((0:Nat):Int)=Builtin.Range.rangeSize lo c 1:=by rw[rangeSize_one];split<;>lia
  show IsRangeIter _ _ (lo+((0:Nat):Int)*1) ((((c-lo).toNat:Nat):Int)-((0:Nat):Int)) 1;rw[f,g];exact Zz _ rfl
 .have e:b=(s.heap.push { cls:=.type "range",data:=.fields #[.int lo t,.int c u,.int 1 v] }).objs.size:=by simpa using hb
  subst e;exact d.tB (Zt _)<|d.hok.fresh<|Zt _
def az (c:TA):TI:=λe H R=>c e H λd b=>∃j:Int,d=[.int j]/\-(2 ^ 62)<=j/\j<2 ^ 62/\R (RX 0 j.toNat) b
def aB (c:TA):TI:=λe H R=>c e H λd b=>∃i j:Int,d=[.int i,.int j]/\(-(2 ^ 62)<=i/\i<2 ^ 62/\-(2 ^ 62)<=j/\j<2 ^ 62)/\R (RX i (j-i).toNat) b
theorem jT {a:EN}{p pos:Pos}(f:Gl X "range")(hm:X.mg "range"=none)(ha:PA X [a] ta)(hs:EG [a] X.env=[(false,Lc a X.env)]:=by rfl):PI X tg (.Call (.Name "range" p) [a] [] pos) (az ta):=by
 intro c s l H R I h;refine Call_<|vU I f hm boot_range<|Jk (Ct (ha pos c s l H _ I h) λu o ⟨v,n,d,i,b⟩=>?_) hs rfl;obtain⟨j,e,b,g,q⟩:=b;subst e;cases i with
 |cons r rr =>
  cases rr;obtain⟨t,rfl⟩:=r;exact call_range_1 (HL d (by lia) (by lia) b g<|by simpa using q)
theorem GW {a b:EN}{p pos:Pos}(l:Gl X "range")(hm:X.mg "range"=none)(ha:PA X [a,b] ta)(hs:EG [a,b] X.env=[(false,Lc a X.env),(false,Lc b X.env)]:=by rfl)(c:EG [b] X.env=[(false,Lc b X.env)]:=by rfl) :
  PI X tg (.Call (.Name "range" p) [a,b] [] pos) (aB ta):=by
 intro f s w H R I h;refine Call_ (vU I l hm boot_range<|Jk (Ct (ha pos f s w H _ I h) λA y ⟨B,x,g,v,d⟩=>?_) (by rw[hs,c]) (by rw[c];rfl));obtain⟨i,j,e,⟨d,n,o,u⟩,q⟩:=d;subst e;cases v with
 |cons r rr =>
  cases rr with
  |cons r' rr =>
   cases rr;obtain⟨t,rfl⟩:=r;obtain⟨z,rfl⟩:=r';exact call_range_2<|HL g d n o u q
def ck (n:TI)(g:TG)(tb:TS):TS:=λD b H=>n b H λJ j=>∃W:Nat->Nat->St->Hp->Prop,(∃m,W 0 m b j)/\∀i m b H,W i m b H ->
 (J.stop i H/\D.nx b H)\/(J.go i H/\∃N:St->Hp->Prop,(∀d c,N d c->∃f,f<m/\W (i+1) f d c)/\∀x c,J.oM i H x c->g x b c λe l=>tb { D with nx:=N,ct:=N,bk:=D.nx } e l)
def Xt (fp:Dd)(h:EI):De:=fp.filterMap λb=>(h.get? b).map λo=>(b,o)
theorem kF {fp:Dd}{h:EI}{b:Eo}{o:Obj}(hb:b∈fp)(e:h.get? b=some o):(b,o)∈Xt fp h:=JQ.mpr ⟨b,hb,by rw[e];rfl⟩
theorem Ou {p:Eo×Obj}(d:p∈Xt fp h):p.1∈fp/\h.get? p.1=some p.2:=by
 obtain⟨b,hb,e⟩:=JQ.mp d;cases q:h.get? b with
 |none=>rw[q]at e;cases e
 |some o =>
  rw[q]at e;have c:(b,o)=p:=Option.some.inj e;subst c;exact⟨hb,q⟩
theorem Inv.pinned {fp:Dd}(I:Inv X Dp σ H s)(j:∀b∈fp,XE X Dp H b)(l:∀b∈fp,∃o,s.heap.get? b=some o/\∀v,o.data≠.cell v):Inv X (Dp++Xt fp s.heap) σ H s :=
 I.vf λp n=>(ZR.mp n).elim (λz=>I.pin p<|ZW _ z) λz=>by
  obtain⟨hb,e⟩:=Ou z;obtain⟨f,g,i,_⟩:=j p.1 hb;obtain⟨o,c,d⟩:=l p.1 hb;rw[e]at c;cases c;exact⟨e,f,g,i,d⟩
theorem Inv.rH {b pl:De}(I:Inv X (b++pl) σ H s):Inv X b σ H s:=I.vf λp c=>I.pin p<|ZW _<|Yl _ c
theorem qS {pos:Pos}(F:PassesOwn (Ez X.prog X.w) X.A X.env X.xe)(hc:X.calm=true)(hi:PI X tg iter wi)(hg:PG X tg g)(hb:qw X body tb)
  (hs:∀x,LW iter X.env x=LC x:=by intro _;rfl):PS X (.For tg iter body [] pos) (ck wi g tb):=by
 intro B s σ H D I h;refine wpAny_For (Ct (hi B s σ H _ I h) λv s1 h1=>Ct h1 λab s2 h2=>?_) hs;obtain⟨it,fp,tn,J,H2,e,I2,T,S,f2,W,⟨m0,w0⟩,L⟩:=h2;subst e;have p:∀{y:Hp},(∀b∈fp,y b=none)->∀b∈fp,XE X B y b:=λhn b hb=>⟨hn b hb,(f2 b hb).2⟩;refine codeAny_forLoop_any (λn s'=>∃i q y,Inv X B q y s'/\tn i s'.heap/\(∀b∈fp,y b=none)/\W i n q y) ?_ m0 ⟨0,σ,H2,I2,S,λb hb=>(f2 b hb).1,w0⟩;rintro n s3 ⟨i,t,M,Z,K,E,w3⟩
 rcases L i n t M w3 with⟨stop,qn⟩|⟨go,N,hN,step⟩
 .refine Vj F (Ct (T.done X rfl rfl rfl hc i B s3 t M X.xe Z (p E) K stop) λr s4 ⟨Q,I4⟩=>?_);subst Q;exact V2 ⟨t,M,I4,qn⟩
 .refine Vj F (Ct (T.item X rfl rfl rfl hc i B s3 t M X.xe Z (p E) K go) λr s4 ⟨u,Q,h4⟩=>?_);subst Q;refine Vj F<|Ct h4 λ_ s5 q9=>?_;obtain⟨x,Y,I5,r5,y5,C,P⟩:=q9;have O:=I5.pinned (p P)<|T.obj _ _ C;refine Vj F<|Ct (hg _ s5 t Y x u _ O r5<|step x Y y5) λ_ s6 ⟨U,H6,I6,q6⟩=>?_;refine Vj F<|Ct (hb _ s6 U H6 _ I6 q6) λf R z=>?_;have again:∀{c:St} {j:Hp},Inv X (B++Xt fp s5.heap) c j R->N c j->∃m,m<n/\∃i q y,Inv X B q y R/\tn i R.heap/\(∀b∈fp,y b=none)/\W i m q y:=λ{c j} l G=>by
   obtain⟨m',hm,w7⟩:=hN c j G;refine⟨m',hm,i+1,c,j,l.rH,T.keep _ _ _ C λb hb o e=>(l.pin (b,o)<|ZW _<|ZW _<|kF hb e).1,λb hb=>?_,w7⟩;obtain⟨o,e,d⟩:=T.obj _ _ C b hb;exact(l.pin (b,o)<|ZW _<|ZW _<|kF hb e).2.1
  cases f with
  |next=>obtain⟨c,j,l,G⟩:=z;exact again l G
  |cont=>obtain⟨c,j,l,G⟩:=z;exact again l G
  |brk=>obtain⟨c,j,l,z⟩:=z;exact⟨c,j,l.rH,z⟩
  |ret v=>obtain⟨x7,c,j,l,r7,z⟩:=z;exact⟨x7,c,j,l.rH,r7,z⟩
end
theorem FL {K:Cq}{xs:Dj}{g:TG}{tb:TS}{D:Ends}{b:St}{H:Hp}(c:Nat->St->Hp->Prop)(h0:c 0 b H)(hl:∀i b H,i<=xs.length->c i b H->yu K H a xs)
  (hs:∀i x b H,xs[i]?=some x->c i b H->g x b H λσ2 H2=>tb { D with nx:=c<|i+1,ct:=c<|i+1,bk:=D.nx } σ2 H2) (hd:∀b H,c xs.length b H->D.nx b H) :
  ∃W:Nat->Nat->St->Hp->Prop,(∃m,W 0 m b H)/\∀i m b H,W i m b H ->
   ((OL K a).stop i H/\D.nx b H)\/((OL K a).go i H/\∃N:St->Hp->Prop,(∀σ' H',N σ' H'->∃m',m'<m/\W (i+1) m' σ' H')/\∀x H',(OL K a).oM i H x H'->g x b H' λσ2 H2=>tb { D with nx:=N,ct:=N,bk:=D.nx } σ2 H2):=by
 refine⟨λi m b H=>m=xs.length-i/\i<=xs.length/\c i b H,⟨xs.length,by simp,Yb _,h0⟩,?_⟩;rintro i m b H ⟨rfl,f,p⟩;have q:=hl i b H f p
 by_cases d:i<xs.length
 .refine .inr ⟨⟨xs,xs[i],q,by simp[d]⟩,c<|i+1,λσ' H' j=>⟨xs.length-(i+1),by lia,rfl,d,j⟩,λx H' y=>?_⟩;obtain⟨e,y⟩:=y;subst e;exact hs i x b _ (y xs q) p
 .have e:i=xs.length:=by lia
  subst e;exact .inl ⟨⟨xs,q,Zt _⟩,hd b H p⟩
theorem X8 {K:Cq}{xs:Dj}{g:TG}{tb:TS}{D:Ends}{b:St}{H:Hp}(c:Nat->St->Hp->Prop)(h0:c 0 b H)(hl:∀i b H,i<=xs.length->c i b H->wY K H a xs)
  (hs:∀i x b H,xs[i]?=some x->c i b H->g x b H λσ2 H2=>tb { D with nx:=c<|i+1,ct:=c<|i+1,bk:=D.nx } σ2 H2) (hd:∀b H,c xs.length b H->D.nx b H) :
  ∃W:Nat->Nat->St->Hp->Prop,(∃m,W 0 m b H)/\∀i m b H,W i m b H ->
   ((RV K a).stop i H/\D.nx b H)\/((RV K a).go i H/\∃N:St->Hp->Prop,(∀σ' H',N σ' H'->∃m',m'<m/\W (i+1) m' σ' H')/\∀x H',(RV K a).oM i H x H'->g x b H' λσ2 H2=>tb { D with nx:=N,ct:=N,bk:=D.nx } σ2 H2):=by
 refine⟨λi m b H=>m=xs.length-i/\i<=xs.length/\c i b H,⟨xs.length,by simp,Yb _,h0⟩,?_⟩;rintro i m b H ⟨rfl,f,p⟩;have q:=hl i b H f p
 by_cases d:i<xs.length
 .refine .inr ⟨⟨xs,xs[i],q,by simp[d]⟩,c<|i+1,λσ' H' j=>⟨xs.length-(i+1),by lia,rfl,d,j⟩,λx H' y=>?_⟩;obtain⟨e,y⟩:=y;subst e;exact hs i x b _ (y xs q) p
 .have e:i=xs.length:=by lia
  subst e;exact .inl ⟨⟨xs,q,Zt _⟩,hd b H p⟩
theorem Xn {lo:Int}{n:Nat}{g:TG}{tb:TS}{D:Ends}{b:St}{H:Hp}(c:Nat->St->Hp->Prop)(h0:c 0 b H)
  (hs:∀i b H,i<n->c i b H->g (.int<|lo+i) b H λσ2 H2=>tb { D with nx:=c<|i+1,ct:=c<|i+1,bk:=D.nx } σ2 H2) (hd:∀b H,c n b H->D.nx b H) :
  ∃W:Nat->Nat->St->Hp->Prop,(∃m,W 0 m b H)/\∀i m b H,W i m b H ->
   ((RX lo n).stop i H/\D.nx b H)\/((RX lo n).go i H/\∃N:St->Hp->Prop,(∀σ' H',N σ' H'->∃m',m'<m/\W (i+1) m' σ' H')/\∀x H',(RX lo n).oM i H x H'->g x b H' λσ2 H2=>tb { D with nx:=N,ct:=N,bk:=D.nx } σ2 H2):=by
 refine⟨λi m b H=>m=n-i/\i<=n/\c i b H,⟨n,by simp,Yb _,h0⟩,?_⟩;rintro i m b H ⟨rfl,j,p⟩
 by_cases d:i<n
 .refine .inr ⟨d,c<|i+1,λσ' H' f=>⟨n-(i+1),by lia,rfl,d,f⟩,λx H' y=>?_⟩;obtain⟨e,y⟩:=y;subst e y;exact hs i b _ d p
 .have e:i=n:=by lia
  subst e;exact .inl ⟨Zt _,hd b H p⟩
abbrev R2:=V->V->Hp->VK->Prop
def CH (X:Cx)(f:Ep->Ep->Sem Ep)(r:R2):Prop :=
 ∀(b:De) (s:Et) (c:St) (H:Hp) (x y:V) (v u:Ep) (Q:VK),Inv X b c H s->za x v->za y u->r x y H Q ->
  Es (Ez X.prog X.w) X.A (f v u) (EP X b c Q) X.xe s
def bH (X:Cx)(f:Ep->Sem Ep)(r:V->Hp->VK->Prop):Prop :=
 ∀(b:De) (s:Et) (c:St) (H:Hp) (x:V) (v:Ep) (Q:VK),Inv X b c H s->za x v->r x H Q ->
  Es (Ez X.prog X.w) X.A (f v) (EP X b c Q) X.xe s
def yd (X:Cx)(f:Ep)(r:Dj->Hp->VK->Prop):Prop :=
 ∀(b:De) (s:Et) (e:St) (H:Hp) (d:Dj) (c:Db) (Q:VK),Inv X b e H s->zb d c->r d H Q ->
  Es (Ez X.prog X.w) X.A (call f c) (EP X b e Q) X.xe s
def bG (X:Cx)(r:V->Hp->(Bool->Hp->Prop)->Prop):Prop :=
 ∀(b:De) (s:Et) (c:St) (H:Hp) (x:V) (v:Ep) (Q:Bool->Hp->Prop),Inv X b c H s->za x v->r x H Q ->
  Es (Ez X.prog X.w) X.A (truthy v) (TP X b c Q) X.xe s
def W7 (r:R2)(e tb:TE):TE:=λb H Q=>e b H λx c=>tb b c λy d=>r x y d Q
def tUn (r:V->Hp->VK->Prop)(c:TE):TE:=λd H Q=>c d H λx b=>r x b Q
inductive rI (C:Int->Int->Prop)(g:Int->Int->V)(x y:V)(H:Hp)(Q:VK):Prop
 |mk (i j:Int) (e:x=.int i) (f:y=.int j) (c:C i j) (q:Q (g i j) H):rI C g x y H Q
inductive lg (g:Int->Int->V)(x y:V)(H:Hp)(Q:VK):Prop
 |mk (i j:Int) (e:x=.int i) (f:y=.int j) (q:Q (g i j) H):lg g x y H Q
def rU (g:Int->V):V->Hp->VK->Prop:=λx H Q=>∃i,x=.int i/\Q (g i) H
section
variable {X:Cx}{a b c:EN}{ta tb tc:TE}{pos:Pos}
theorem TY (ha:PE X a ta)(hb:PE X b tb){d:De}{s:Et}{c:St}{H:Hp}{R:V->V->Hp->Prop}(I:Inv X d c H s)
  (h:ta c H λx H1=>tb c H1 λy H2=>R x y H2) {Q:Ep->Dh} {f:Ep->Ep->Sem Ep}
  (i:∀v u s2 x y H2,Inv X d c H2 s2->za x v->za y u->R x y H2->Es (Ez X.prog X.w) X.A (f v u) Q X.xe s2) :
  Es (Ez X.prog X.w) X.A (Lc a X.env) (λv s₁=>Es (Ez X.prog X.w) X.A (Lc b X.env) (λu s₂=>Es (Ez X.prog X.w) X.A (f v u) Q X.xe s₂) X.xe s₁) X.xe s:=by
 refine Ct (ha d s c H _ I h) λv p ⟨x,H1,e,n,j⟩=>?_;refine Ct (hb d p c H1 _ e j) λu s2 ⟨y,H2,g,o,l⟩=>?_;exact i v u s2 x y H2 g n o l
theorem zV {op:Operator}(f:CH X (Mz op) r)(ha:PE X a ta)(hb:PE X b tb):PE X (.BinOp a op b pos) (W7 r ta tb):=by
 intro c s l H Q I h;exact wpAny_BinOp<|TY ha hb I h λv u j x y d e g i q=>f c j l d x y v u Q e g i q
theorem aM {op:UnaryOp}(f:bH X (unaryOp op) r)(ha:PE X a ta):PE X (.UnaryOp op a pos) (tUn r ta):=by
 intro b s c H Q I h;exact UnaryOp_<|Ct (ha b s c H _ I h) λv j ⟨x,d,e,i,g⟩=>f b j c d x v Q e i g
theorem bQ {f:Ep->Ep->Sem Ep}{C:Int->Int->Prop}{g:Int->Int->Int}
  (b:∀(i j:Int) (t u:Tok) (s:Et) (Q:Ep->Dh) (E:Ep->Dh),C i j->Q (.int (g i j) s.toks) { s with toks:=s.toks+1 }->Es (Ez X.prog X.w) X.A (f (.int i t)<|.int j u) Q E s) :
  CH X f (rI C λi j=>.int<|g i j):=by
 intro l s n H x y v u Q I c d h;obtain⟨i,j,rfl,rfl,hc,q⟩:=h;obtain⟨t,rfl⟩:=c;obtain⟨e,rfl⟩:=d;exact b i j t e s _ _ hc ⟨.int<|g i j,H,I.tok _,⟨_,rfl⟩,q⟩
theorem aI {f:Ep->Ep->Sem Ep}{g:Int->Int->Int}
  (b:∀(i j:Int) (t u:Tok) (s:Et) (Q:Ep->Dh) (E:Ep->Dh),Q (.int (g i j) s.toks) { s with toks:=s.toks+1 }->Es (Ez X.prog X.w) X.A (f (.int i t)<|.int j u) Q E s) :
  CH X f (lg λi j=>.int<|g i j):=by
 intro l s n H x y v u Q I c d h;obtain⟨i,j,rfl,rfl,q⟩:=h;obtain⟨t,rfl⟩:=c;obtain⟨e,rfl⟩:=d;exact b i j t e s _ _ ⟨.int<|g i j,H,I.tok _,⟨_,rfl⟩,q⟩
theorem Sv {f:Ep->Ep->Sem Ep}{g:Int->Int->Bool}
  (b:∀(i j:Int) (t u:Tok) (s:Et) (Q:Ep->Dh) (E:Ep->Dh),Q (.bool<|g i j) s->Es (Ez X.prog X.w) X.A (f (.int i t)<|.int j u) Q E s) :
  CH X f (lg λi j=>.bl<|g i j):=by
 intro l s n H x y v u Q I c d h;obtain⟨i,j,rfl,rfl,q⟩:=h;obtain⟨t,rfl⟩:=c;obtain⟨e,rfl⟩:=d;exact b i j t e s _ _ ⟨.bl<|g i j,H,I,rfl,q⟩
def bC (i j:Int):Prop:=0<j/\j<1073741824
def jq (i j:Int):Prop:=(-(2 ^ 64)<i/\i<2 ^ 64)\/(-(2 ^ 64)<j/\j<2 ^ 64)
theorem jq.ok (h:jq i j):IntMulOk i j:=by
 rcases h with⟨h1,h2⟩|⟨h1,h2⟩
 .exact .of_left (intBits_le_64 h1 h2)
 .exact .of_right (intBits_le_64 h1 h2)
theorem qX:CH X (Mz .Add) (lg λi j=>.int<|i+j):=aI λ_ _ _ _ _ _ _ q=>add_int q
theorem P9:CH X (Mz .Sub) (lg λi j=>.int<|i-j):=aI λ_ _ _ _ _ _ _ q=>sub_int q
theorem XG:CH X (Mz .Mult) (rI jq λi j=>.int<|i*j):=bQ λ_ _ _ _ _ _ _ hc q=>mul_int q hc.ok
theorem xX:CH X (Mz .FloorDiv) (rI bC λi j=>.int<|i / j):=bQ λi j _ _ _ _ _ hc q=>by
 have h1:(0:Int)<j:=hc.1;have b:j<1073741824:=hc.2;exact floordiv_int (by lia) (by rwa[Int.fdiv_eq_ediv_of_nonneg i<|by lia]) (.inl<|PyProof.noPylong_small<|by lia)
theorem yN:CH X (Mz .Mod) (rI (λ_ j=>0<j) λi j=>.int<|i % j):=bQ λi j _ _ _ _ _ hc q=>by
 have h1:(0:Int)<j:=hc;exact mod_int' (by lia) (by rwa[Int.fmod_eq_emod_of_nonneg i<|by lia])
theorem unI {f:Ep->Sem Ep}{g:Int->Int}
  (b:∀(i:Int) (t:Tok) (s:Et) (Q:Ep->Dh) (E:Ep->Dh),Q (.int (g i) s.toks) { s with toks:=s.toks+1 }->Es (Ez X.prog X.w) X.A (f<|.int i t) Q E s) :
  bH X f (rU λi=>.int<|g i):=by
 intro d s e H x v Q I c h;obtain⟨i,rfl,q⟩:=h;obtain⟨t,rfl⟩:=c;exact b i t s _ _ ⟨.int<|g i,H,I.tok _,⟨_,rfl⟩,q⟩
theorem WY:bH X (unaryOp .USub) (rU λi=>.int<|-i):=unI λ_ _ _ _ _ q=>neg_int q
def aZ (x y:V):Bool:=match x with
 | .int _=>(match y with|.int _=>true|_=>false)
 | .str _=>(match y with|.str _=>true|_=>false)
 |_=>false
def rEq:R2:=λx y H Q=>aZ x y=true/\Q (.bl<|decide (x=y)) H
def rNe:R2:=λx y H Q=>aZ x y=true/\Q (.bl<|!decide (x=y)) H
theorem Nb {i j:Int}:decide (V.int i=V.int j)=(i==j):=by
 rw[Yx];simp
theorem Nc {i j:Str}:decide (V.str i=V.str j)=(i==j):=by
 rw[Yx];simp
theorem Xu {Q:VK}{k b:Bool}(I:Inv X Dp σ H s)(q:Q (.bl k) H)(e:k=b):EP X Dp σ Q (.bool b) s:=by
 subst e;exact⟨.bl k,H,I,rfl,q⟩
theorem xH:CH X (ES .Eq) rEq:=by
 intro f s g H x y v u Q I c d h;obtain⟨b,q⟩:=h;cases x with
 |int i =>
  obtain⟨t,rfl⟩:=c;cases y with
  |int j=>obtain⟨e,rfl⟩:=d;exact eq_int<|Xu I q Nb
  |_=>exact absurd (show false=true from b) Z3
 |str i =>
  obtain⟨t,rfl⟩:=c;cases y with
  |str j=>obtain⟨e,rfl⟩:=d;exact eq_str<|Xu I q Nc
  |_=>exact absurd (show false=true from b) Z3
 |_=>exact absurd (show false=true from b) Z3
theorem Bj:CH X (ES .NotEq) rNe:=by
 intro f s g H x y v u Q I c d h;obtain⟨b,q⟩:=h;cases x with
 |int i =>
  obtain⟨t,rfl⟩:=c;cases y with
  |int j=>obtain⟨e,rfl⟩:=d;exact ne_int<|Xu I q<|congrArg not Nb
  |_=>exact absurd (show false=true from b) Z3
 |str i =>
  obtain⟨t,rfl⟩:=c;cases y with
  |str j=>obtain⟨e,rfl⟩:=d;exact ne_str<|Xu I q<|congrArg not Nc
  |_=>exact absurd (show false=true from b) Z3
 |_=>exact absurd (show false=true from b) Z3
theorem G1:CH X (ES .Lt) (lg λi j=>.bl<|decide (i<j)):=Sv λ_ _ _ _ _ _ _ q=>lt_int q
theorem Hn:CH X (ES .LtE) (lg λi j=>.bl<|decide (i<=j)):=Sv λ_ _ _ _ _ _ _ q=>le_int q
theorem aJ:CH X (ES .Gt) (lg λi j=>.bl<|decide (j<i)):=Sv λ_ _ _ _ _ _ _ q=>gt_int q
theorem Nz:CH X (ES .GtE) (lg λi j=>.bl<|decide (j<=i)):=Sv λ_ _ _ _ _ _ _ q=>ge_int q
theorem KW:CH X (ES .Is) (λx y H Q=>y=.non/\Q (.bl<|decide (x=.non)) H):=by
 intro d s e H x y v u Q I b c h;obtain⟨rfl,q⟩:=h;cases c;refine is_none_gen<|Xu I q ?_;cases x<;>first
  |(cases b;rfl)
  |(obtain⟨t,rfl⟩:=b;rfl)
theorem X5:CH X (ES .IsNot) (λx y H Q=>y=.non/\Q (.bl<|!decide (x=.non)) H):=by
 intro d s e H x y v u Q I b c h;obtain⟨rfl,q⟩:=h;cases c;refine isnot_none_gen<|Xu I q ?_;cases x<;>first
  |(cases b;rfl)
  |(obtain⟨t,rfl⟩:=b;rfl)
theorem zO (b:EN){op:CmpOp}(h:op≠.In:=by decide)(e:op≠.NotIn:=by decide):behindInMarks op b=false:=by
 have c:(op==CmpOp.In)=false:=by cases op<;>first|rfl|exact absurd rfl h
 have d:(op==CmpOp.NotIn)=false:=by cases op<;>first|rfl|exact absurd rfl e
 cases b<;>simp[behindInMarks,c,d]
theorem yK {op:CmpOp}(f:CH X (ES op) r)(ha:PE X a ta)(hb:PE X b tb)(hm:behindInMarks op b=false):PE X (.Compare a [op] [b] pos) (W7 r ta tb):=by
 intro c s l H Q I h;exact wpAny_Compare1 (TY ha hb I h λv u j x y d e g i q=>f c j l d x y v u Q e g i q) hm
inductive iR (x:V)(H:Hp)(Q:Bool->Hp->Prop):Prop
 |mk (k:Bool) (e:x=.bl k) (q:Q k H):iR x H Q
def Tz (t:TE):TT:=λc H Q=>t c H λx b=>iR x b Q
theorem zP {op:CmpOp}(p:CH X (ES op) r)(ha:PE X a ta)(hb:PE X b tb)(hm:behindInMarks op b=false):PT X (.Compare a [op] [b] pos) (Tz<|W7 r ta tb):=by
 intro d s f H Q I h;refine wpAny_isTrue_Compare1 (Ct (ha d s f H _ I h) λv D ⟨x,g,l,A,q⟩=>Ct (hb d D f g _ l q) λu E ⟨y,i,n,B,t⟩ => Ct (p d E f i x y v u _ n A B t) λc F q9=>?_) hm;obtain⟨z,j,o,C,k,e,w⟩:=q9
 subst e;cases C;exact Y2 ⟨j,o,w⟩
def WL (r g:R2)(ta tb tc:TE):TE:=λb H Q=>ta b H λx d=>tb b d λy e=>r x y e λz c=>∃k,z=.bl k /\
 (if k=true then tc b c λi f=>g y i f Q else Q (.bl false) c)
theorem Gi {op f:CmpOp}(D:CH X (ES op) r)(j:CH X (ES f) r')(ha:PE X a ta)(hb:PE X b tb)(hc:PE X c tc)
  (hm:lastMarks [op,f] [b,c]=false:=by with_unfolding_all rfl):PE X (.Compare a [op,f] [b,c] pos) (WL r r' ta tb tc):=by
 intro g s i H Q I h;refine Compare_chain (Ct (ha g s i H _ I h) λv M ⟨x,q,A,J,E⟩=>chain_link<|Ct (hb g M i q _ A E) λu N ⟨y,t,B,p,F⟩ => Ct (D g N i t x y v u _ B J p F) λd O q9=>?_) hm;obtain⟨z,l,n,K,k,e,o⟩:=q9
 subst e;cases K;refine Y2 ?_;cases k with
 |false=>exact ite_ff ⟨.bl false,l,n,rfl,o⟩
 |true=>exact ite_tt<|chain_last<|Ct (hc g O i l _ n o) λR P ⟨S,w,C,L,G⟩=>j g P i w y S u R Q C p L G
def TL (K:Cq)(x:V)(H:Hp)(k:Bool):Prop :=
 match x with
 | .bl b=>k=b
 |_=>False
theorem IJ:(sizeLine:Nat)<2 ^ 63:=by rw[YK];decide
theorem WV:bG X (λx H Q=>∃k,TL X.K x H k/\Q k H):=by
 intro f s g H x v Q I d h;obtain⟨k,e,q⟩:=h;cases x with
 |bl b =>
  cases d;have c:k=b:=e;subst c;exact Y2 ⟨H,I,q⟩
 |_=>exact(show False from e).elim
theorem Rp (ha:PE X a ta)(he:∀whole,isTrue a X.env whole=(do let v <-whole;standAt a.pos;MG [v] (truthy v))) :
  PT X a (λσ H Q=>ta σ H λx H'=>∃k,TL X.K x H' k/\Q k H'):=by
 intro b s σ H Q I h;exact isTrue_plain (Ct (ha b s σ H _ I h) λv g ⟨x,c,d,f,e⟩=>WV b g σ c x v Q d f e) (he _)
theorem zZ:CH X (Mz .Add) (λx y H Q=>∃i j,x=.str i/\y=.str j/\i.length+j.length<=sizeLine/\Q (.str<|i++j) H):=by
 intro f s g H x y v u Q I c d h;obtain⟨i,j,rfl,rfl,b,q⟩:=h;obtain⟨t,rfl⟩:=c;obtain⟨e,rfl⟩:=d;exact add_str (λe tk=>⟨.str<|i++j,H,I.tok _,⟨_,rfl⟩,q⟩) b
theorem wW {x:V}(r:zb [x] us):∃u,us=[u]/\za x u:=by
 cases r with
 |cons r1 r2=>cases r2;exact⟨_,rfl,r1⟩
theorem vals2 {x y:V}(r:zb [x,y] us):∃u w',us=[u,w']/\za x u/\za y w':=by
 cases r with
 |cons r1 r2 =>
  cases r2 with
  |cons r3 r4=>cases r4;exact⟨_,_,rfl,r1,r3⟩
theorem G0 (hc:X.calm=true):yd X (.builtin "max") (λxs H Q=>∃i j,xs=[.int i,.int j]/\Q (.int<|if j>i then j else i) H):=by
 intro c s g H xs e Q I r h;obtain⟨i,j,rfl,q⟩:=h;obtain⟨u,f,rfl,⟨t,rfl⟩,⟨d,rfl⟩⟩:=vals2 r;refine max_two_ints (I.ok.hd hc) λh' tk k=>⟨_,H,I.kept k,?_,q⟩
 by_cases b:j>i
 .rw[ZK b,ZK b];exact⟨_,rfl⟩
 .rw[ZH b,ZH b];exact⟨_,rfl⟩
theorem N2 (hc:X.calm=true):yd X (.builtin "min") (λxs H Q=>∃i j,xs=[.int i,.int j]/\Q (.int<|if j<i then j else i) H):=by
 intro c s g H xs e Q I r h;obtain⟨i,j,rfl,q⟩:=h;obtain⟨u,f,rfl,⟨t,rfl⟩,⟨d,rfl⟩⟩:=vals2 r;refine min_two_ints (I.ok.hd hc) λh' tk k=>⟨_,H,I.kept k,?_,q⟩
 by_cases b:j<i
 .rw[ZK b,ZK b];exact⟨_,rfl⟩
 .rw[ZH b,ZH b];exact⟨_,rfl⟩
theorem NZ:yd X (.type "int") (λxs H Q=>(∃i,xs=[.int i]/\Q (.int i) H)\/∃k,xs=[.bl k]/\Q (.int<|if k then 1 else 0) H):=by
 intro c s e H xs d Q I r h
 rcases h with⟨i,rfl,q⟩|⟨k,rfl,q⟩
 .obtain⟨u,rfl,t,rfl⟩:=wW r;exact call_int_int ⟨.int i,H,I,⟨_,rfl⟩,q⟩
 .obtain⟨u,rfl,b⟩:=wW r;cases b;exact call_int_bool ⟨.int<|if k then 1 else 0,H,I.tok _,⟨_,rfl⟩,q⟩
theorem x6:yd X (.type "str") (λxs H Q=>∃i,xs=[.int i]/\i.natAbs.log2<1920/\Q (.str<|E7 i) H):=by
 intro c s e H xs d Q I r h;obtain⟨i,rfl,b,q⟩:=h;obtain⟨u,rfl,t,rfl⟩:=wW r;exact PySem.P.str_of_int b ⟨.str _,H,I.tok _,⟨_,rfl⟩,q⟩
theorem Fu:yd X (.builtin "ord") (λxs H Q=>∃x,xs=[.str x]/\x.length=1/\Q (.int (x.cps.getD 0 0:Nat)) H):=by
 intro c s e H xs d Q I r h;obtain⟨x,rfl,b,q⟩:=h;obtain⟨u,rfl,t,rfl⟩:=wW r;exact ord_of_one b ⟨.int _,H,I.tok _,⟨_,rfl⟩,q⟩
end
structure nU (h:EI)(x dx C:Eo)(mA:Str->Dc):Prop where
 obj:h.get? x=some (Lr C dx)
 ns:h.Ns1 dx mA
 ne:dx≠x
theorem Op {h:EI}{b:Eo}{d:Str->Dc}(n:h.Ns1 b d):∃od,h.get? b=some od/\∀name,PySem.W.lookIn name od=some (d name):=by
 obtain⟨o,c,j,g,hd,hk,_,hm⟩:=n;refine⟨o,g,λname=>?_⟩;have e:=hm name;unfold nsFind findBy at e;rw[<-Array.find?_toList]at e;unfold PySem.W.lookIn;rw[hd];dsimp only
 split
 .rename_i y q;rw[q]at e;exact congrArg some e
 .rename_i q;rw[q]at e;have a:c.toList.any (·.refKey)=false:=by
   rw[Ug];intro y i;obtain⟨z,t,f⟩:=hk y<|Array.mem_toList_iff.mp i;simp[DictEntry.refKey,f]
  have a':¬c.toList.any (·.refKey)=true:=by rw[a];exact Z3
  rw[ZH a'];exact congrArg some e
theorem nU.look (I:nU h x dx C mA):∃od,PySem.W.InstAt h x (Lr C dx) C (some od)/\∀name,PySem.W.lookIn name od=some (mA name) :=
 let ⟨od,ho,hl⟩:=Op I.ns
 ⟨od,⟨I.obj,rfl,rfl,ho⟩,hl⟩
section
variable {prog:Er}{w:Eu}{A:EJ}{E:Ep->Dh}{s:Et}{K:Cq}{x dx C f:Eo}{mA:Str->Dc}{name:Str}{v:Ep}
theorem Sc {b:Bool}{Q:Ep->Dh}(X:K.In s.heap)(I:nU s.heap x dx C mA)(d:LJ K C name=true)(hh:LX K C=true)
  (ha:EO K (.ref C) name=some none) (hv:mA name=some v) (c:PySem.W.handedIn v=true) (h:Q v { s with toks:=s.toks+1 }) :
  Es (Ez prog w) A (getAttr (.ref x) name b) Q E s:=by
 obtain⟨e,J,hl⟩:=I.look;exact PySem.W.get_value X J (V4 d).1 (PySem.W.findObj_own hh ha rfl<|by rw[hl,hv]) c h
theorem Pj {pl:Sem Bool}{Q:Ep×Db->Dh}(X:K.In s.heap)(I:nU s.heap x dx C mA)(b:LJ K C name=true)
  (c:EO K (.ref C) name=some (some<|.ref f)) (d:MH K (.ref f)=true) (hv:mA name=none) (h:Q (.ref f,[.ref x]) s) :
  Es (Ez prog w) A (Mu (.ref x) name pl) Q E s:=by
 obtain⟨e,J,hl⟩:=I.look;exact PySem.W.method_fn X J (V4 b).1 (V4 b).2 c (JB.mp d) (by show(PySem.W.lookIn name e).map (·.isSome)=some false;rw[hl,hv];rfl) h
theorem SW {ns:Da}{Q:Unit->Dh}(X:K.In s.heap)(I:nU s.heap x dx C mA)
  (hs:EO K (.ref C) "__setattr__"=some (some<|.builtin "object.__setattr__")) (n:Mo K C=true) (o:PySem.W.takerIn K C name=some none) (hh:LX K C=true)
  (p:PySem.Within mA ns) (hsz:ns.length<=sizeLine)
  (h:∀h',nU h' x dx C (λy=>if y=name then some v else mA y)->Lp dx s.heap h'->Q () { s with heap:=h',toks:=s.toks+2 }) :
  Es (Ez prog w) A (setAttr (.ref x) name v) Q E s:=by
 obtain⟨z,J,hl⟩:=I.look;refine PySem.W.set_plain X J hs<|PySem.W.osa_open (s:={ s with toks:=s.toks+1 }) (r:=none) X J n o λb=>?_;obtain⟨t,hc,f⟩:=PySem.W.any_some hh;have q:s.heap.get? x=some ⟨.ref C,some dx,.plain,#[]⟩:=I.obj;refine Zm<|Zu<|Zm<|Zm<|wpAny_loadPart q<|Zm<|PySem.W.Looks.here (s:={ s with toks:=s.toks+1 }) (PySem.W.looks_clsIn X hc) ?_;rw[f];refine Zu (a:=some dx)<|Zm<|Zu<|Zm ?_;refine wpAny_nsSet1 (s:={ s with toks:=s.toks+1 }) I.ns λh' c d=>?_;obtain⟨u,l,j,i,g,e⟩:=c.count<|PySem.Within.cons name v p;refine Zm (wpAny_lookBehind i (by rw[g];exact pastItsLine_dict<|Yk e (by rw[ZF];lia)) ?_);exact Zu<|h _ ⟨(d.2 _<|EC I.ne).trans I.obj,c,I.ne⟩ d
theorem PN {R:Result->Dh}{vs:Db}{b:List (Str×Ep)}(X:K.In s.heap)(hm:Md K C=true)
  (e:EO K (.ref C) "__init__"=some (some<|.ref f)) (c:PySem.W.typeIn K (.ref f)=some (.type "function"))
  (h:LS (Ez prog w) (A.under<|.builtin "type.__call__" ⟨.ref C::vs,b⟩) (.call (.ref f) ⟨.ref (s.heap.objs.size+1)::vs,b⟩) (PySem.W.InitBack (s.heap.objs.size+1) R) { s with heap:=(s.heap.push Ld).push (Lr C s.heap.objs.size) }) :
  LS (Ez prog w) A (.call (.ref C) ⟨vs,b⟩) R s:=by
 obtain⟨hh,g,d,t,os⟩:=s;exact PySem.W.make_core (PySem.W.makes_of X hm) (PySem.W.looks_findIn X e) (λself=>PySem.W.bind_fn X self c) (.inl rfl) h
end
def UG (f:Str)(v:V):List (Str×V)->List (Str×V)
 |[]=>[(f,v)]
 |(g,x)::r=>if g=f then(g,v)::r else(g,x)::UG f v r
theorem XO (f g:Str)(v:V):∀fs:List<|Str×V,(UG f v fs).lookup g=if g=f then some v else fs.lookup g
 |[]=>by
  show LO g [(f,v)]=_
  by_cases h:g=f
  .have hb:(g==f)=true:=JB.mpr h;simp only[LO,hb,ZK h]
  .have hb:(g==f)=false:=YT.mpr h;simp only[LO,hb,ZH h]
 |(k,x)::r=>by
  have b:=XO f g v r;rw[show UG f v ((k,x)::r)=(if k=f then(k,v)::r else(k,x)::UG f v r) from rfl]
  by_cases hk:k=f
  .rw[ZK hk]
   by_cases h:g=k
   .have hb:(g==k)=true:=JB.mpr h;simp only[LO,hb,ZK<|h.trans hk]
   .have hb:(g==k)=false:=YT.mpr h;simp only[LO,hb,ZH (λe:g=f=>h<|e.trans hk.symm)]
  .rw[ZH hk]
   by_cases h:g=k
   .have hb:(g==k)=true:=JB.mpr h;simp only[LO,hb,ZH (λe:g=f=>hk<|h.symm.trans e)]
   .have hb:(g==k)=false:=YT.mpr h;simp only[LO,hb];exact b
theorem Xx (f:Str)(v:V):∀fs:List<|Str×V,f∈(UG f v fs).map (·.1)/\∀g,g∈fs.map (·.1)->g∈(UG f v fs).map (·.1)
 |[]=>⟨by simp[UG],λg h=>by simp at h⟩
 |(k,x)::r=>by
  obtain⟨b,c⟩:=Xx f v r;rw[show UG f v ((k,x)::r)=(if k=f then(k,v)::r else(k,x)::UG f v r) from rfl]
  by_cases hk:k=f
  .rw[ZK hk];subst hk;exact⟨by simp,λg h=>by simpa using h⟩
  .rw[ZH hk];refine⟨?_,λg h=>?_⟩
   .rw[ZL];exact Zn _ b
   .rw[ZL]at h ⊢
    rcases Zo.mp h with e|e
    .exact Zo.mpr (.inl e)
    .exact Zn _ (c g e)
theorem XN (f:Str)(v:V):∀fs:List<|Str×V,(UG f v fs).length<=fs.length+1
 |[]=>by simp[UG]
 |(k,x)::r=>by
  have b:=XN f v r;rw[show UG f v ((k,x)::r)=(if k=f then(k,v)::r else(k,x)::UG f v r) from rfl]
  by_cases hk:k=f
  .rw[ZK hk,ZF,ZF];lia
  .rw[ZH hk,ZF,ZF];lia
theorem vz.some_of {v:V}(r:vz (some v) o):∃u,o=some u/\za v u:=by
 cases o with
 |none=>exact(show False from r).elim
 |some u=>exact⟨u,rfl,r⟩
theorem vz.none_of (r:vz none o):o=none:=by
 cases o with
 |none=>rfl
 |some u=>exact(show False from r).elim
theorem Og (r:za v u):PySem.W.handedIn u=true:=by
 cases v with
 |non=>cases(show u=EH from r);rfl
 |bl b=>cases(show u=Mg b from r);rfl
 |int i=>obtain⟨t,e⟩:=(show∃t,u=Mt i t from r);cases e;rfl
 |str x=>obtain⟨t,e⟩:=(show∃t,u=L8 x t from r);cases e;rfl
 |byt b=>obtain⟨t,e⟩:=(show∃t,u=Value.bytes b t from r);cases e;rfl
 |flt b=>obtain⟨t,e⟩:=(show∃t,u=Value.float b t from r);cases e;rfl
 |ref a=>cases(show u=EB a from r);rfl
 |ty n=>cases(show u=Value.type n from r);rfl
section
variable {P:Er}{w:Eu}{H H':Hp}{h h':EI}{a C dx:Eo}{fs fs':List (Str×V)}
theorem X3 (hok:tZ P w H h)(e:H a=some (.ins C dx fs)):∃mA,nU h a dx C mA/\(∀f,vz (fs.lookup f)<|mA f)/\PySem.Within mA (fs.map (·.1))/\fs.length<=1000/\H dx=some (.own a):=by
 obtain⟨d,z,ne,ob,mA,n,r,q⟩:=(show yq P w H h a (.ins C dx fs) from hok a _ e);exact⟨mA,⟨ob,n,ne⟩,r,q,z,d⟩
end
structure Cls (K:Cq)(C:Eo):Prop where
 pg:LJ K C Mj=true
 hd:LX K C=true
 po:Mo K C=true
 sa:EO K (.ref C) "__setattr__"=some (some<|.builtin "object.__setattr__")
theorem Cls.get {K:Cq}(c:Cls K C)(f:Str):LJ K C f=true:=c.pg
def wB (K:Cq)(C:Eo)(f:Str):Prop:=EO K (.ref C) f=some none
theorem wB.taker {K:Cq}(n:wB K C f):PySem.W.takerIn K C f=some none:=by
 unfold PySem.W.takerIn;rw[show EO K (.ref C) f=some none from n];rfl
structure Meth (K:Cq)(C:Eo)(m:Str)(f:Eo):Prop where
 at_:EO K (.ref C) m=some (some<|.ref f)
 fn:MH K (.ref f)=true
 kp:EY K (.ref f)=true
section
variable {X:Cx}{Dp:De}{σ:St}{H:Hp}{s:Et}{a C dx:Eo}{fs:List (Str×V)}{f:Str}{v:V}{A:EJ}{E:Ep->Dh}
theorem Kz {b:Bool}{Q:Ep->Dh}(I:Inv X Dp σ H s)(e:H a=some (.ins C dx fs))(c:Cls X.K C)(n:wB X.K C f)(l:fs.lookup f=some v)
  (h:∀u s',Inv X Dp σ H s'->za v u->Q u s'):Es (Ez X.prog X.w) A (getAttr (.ref a) f b) Q E s:=by
 obtain⟨i,O,r,_,_,_⟩:=X3 I.hok e;obtain⟨u,g,d⟩:=vz.some_of (v:=v) (o:=i f) (by rw[<-l];exact r f);exact Sc I.vh O (c.get f) c.hd n g (Og d)<|h u _ (I.tok _) d
theorem kI {pl:Sem Bool}{Q:Ep×Db->Dh}(I:Inv X Dp σ H s)(e:H a=some (.ins C dx fs))(c:Cls X.K C)(k:Meth X.K C m g)(l:fs.lookup m=none)
  (h:Q (.ref g,[.ref a]) s):Es (Ez X.prog X.w) A (Mu (.ref a) m pl) Q E s:=by
 obtain⟨b,O,r,_,_,_⟩:=X3 I.hok e;have hn:b m=none:=vz.none_of (by rw[<-l];exact r m);exact Pj I.vh O (c.get m) k.at_ k.fn hn h
theorem MM {Q:Unit->Dh}(I:Inv X Dp σ H s)(e:H a=some (.ins C dx fs))(c:Cls X.K C)(n:wB X.K C f)(hl:fs.length<1000)(B:za y u)
  (h:∀s',Inv X Dp σ (upd H a<|.ins C dx<|UG f y fs) s'->Q () s'):Es (Ez X.prog X.w) A (setAttr (.ref a) f u) Q E s:=by
 obtain⟨j,O,r,l,_,i⟩:=X3 I.hok e;have t:(fs.map (·.1)).length<=sizeLine:=by rw[Zk,YK];lia
 refine SW I.vh O c.sa c.po n.taker c.hd l t λh' d v=>h _ ?_;have hd:∃o,h'.get? dx=some o:=let ⟨o,_,_,e',_⟩:=d.ns;⟨o,e'⟩;refine I.write (x:=a) (e:=dx) (by rw[e];exact Lg) (.inr i) (λb q hb z=>(v.2 b hb).trans z) hd ?_;refine⟨by rw[zI O.ne];exact i,?_,O.ne,d.obj,_,d.ns,λg=>?_,λg p=>?_⟩
 .have:=XN f y fs;lia
 .show vz ((UG f y fs).lookup g) (if g=f then some u else j g);rw[XO]
  by_cases q:g=f
  .rwa[ZK q,ZK q]
  .rw[ZH q,ZH q];exact r g
 .by_cases q:g=f
  .rw[q];exact(Xx f y fs).1
  .refine(Xx f y fs).2 g (l g λz=>p ?_);show(if g=f then some u else j g)=none;rwa[ZH q]
theorem Inv.made (I:Inv X Dp σ H s):Inv X Dp σ (upd (upd H s.heap.objs.size<|.own<|s.heap.objs.size+1) (s.heap.objs.size+1)<|.ins C s.heap.objs.size [])
  { s with heap:=(s.heap.push Ld).push (Lr C s.heap.objs.size) }:=by
 have c:(s.heap.push Ld).get? s.heap.objs.size=some PySem.W.emptyDict:=Zz s.heap rfl;have f:((s.heap.push Ld).push<|Lr C s.heap.objs.size).get? (s.heap.objs.size+1)=some (Lr C s.heap.objs.size):=by
  have:=Zz (s.heap.push Ld) (o:=Lr C s.heap.objs.size) rfl
  rwa[Je]at this
 have g:(s.heap.push Ld).Ns s.heap.objs.size (λ_=>none):=⟨Ld,#[],_,c,rfl,(λe he=>absurd he<|by simp),λ_=>rfl⟩;have d:=I.laid (a:=s.heap.objs.size) (o:=.own<|s.heap.objs.size+1) (h':=s.heap.push Ld) (t':=s.toks) (λb u q=>Zp _ q) (Zt _) ⟨_,c⟩;refine d.laid (a:=s.heap.objs.size+1) (o:=.ins C s.heap.objs.size []) (t':=s.toks) (λb u q=>Zp _ q) (J9<|Je _ _) ?_;have ne:s.heap.objs.size≠s.heap.objs.size+1:=ZO<|JH _;refine⟨by rw[zI ne,zC],Yb _,ne,f,λ_=>none,(Heap.Ns1.of_empty g).at λo q=>Zp _ q,λ_=>Lg,λy i=>absurd rfl i⟩
theorem R5 {prog:Er}{w:Eu}{env:Env}{e:EN}{f:Str}{pos:Pos}{s:Et}{Q:Ep->Dh}(hb:LD e f env (Lc e env)=Lc e env)
  (h:Es (Ez prog w) A (Lc e env) (λo s₁=>Es (Ez prog w) A (getAttr o f true) Q E s₁) E s):Es (Ez prog w) A (Lc (.Attribute e f pos) env) Q E s :=
 Attribute_any_ h (by rw[arm_eval_Attribute,hb])
end
inductive iB (K:Cq)(f:Str)(x:V)(H1:Hp)(Q:VK):Prop
 |mk (a C dx:Eo) (fs:List<|Str×V) (v:V) (e:x=.ref a) (h:H1 a=some (.ins C dx fs)) (c:Cls K C) (n:wB K C f) (l:fs.lookup f=some v) (q:Q v H1):iB K f x H1 Q
def bf (K:Cq)(c:TE)(f:Str):TE:=λd H Q=>c d H λx b=>iB K f x b Q
def ce (K:Cq)(g i:TE)(f:Str):TS:=λD b H=>i b H λy e=>g b e λx c=>∃a C d fs,x=.ref a/\c a=some (.ins C d fs)/\Cls K C/\wB K C f/\fs.length<1000 /\
 D.nx b (upd c a<|.ins C d<|UG f y fs)
section
variable {X:Cx}{o e value:EN}{f:Str}{pos DS Ef:Pos}{ta tv:TE}
theorem yP (he:PE X e ta)(hb:LD e f X.env (Lc e X.env)=Lc e X.env):PE X (.Attribute e f pos) (bf X.K ta f):=by
 intro b s r H Q I h;refine R5 hb<|Ct (he b s r H _ I h) λu w q9=>?_;obtain⟨x,d,g,p,a,C,t,fs,v,ex,j,c,n,l,q⟩:=q9;subst ex;obtain rfl:u=EB a:=p;exact Kz g j c n l λz y i o=>⟨v,d,i,o,q⟩
theorem XF (ha:PE X o ta)(hv:PE X value tv)(hs:Mi value (some<|.Attribute o f DS) pos.line X.env=LC false):PS X (.Assign [.Attribute o f DS] value pos) (ce X.K ta tv f):=by
 intro d s b H D I h;refine plainObj_wpAny_Assign_Attribute (Ct (hv d s b H _ I h) λu z ⟨y,e,g,w,q⟩=>Ct (ha d z b e _ g q) λr E q9=>?_) hs;obtain⟨x,A,i,v,a,C,B,fs,ex,p,c,n,l,t⟩:=q9;subst ex;obtain rfl:r=EB a:=v;exact MM i p c n l w λF j=>⟨b,_,j,t⟩
end
section
variable {X:Cx}{Dp:De}{σ:St}{H:Hp}{s:Et}{A:EJ}{E:Ep->Dh}{Q:Ep->Dh}{c:Ep}{b:Bool}
inductive sO (K:Cq)(H:Hp):V->Ep->Prop where
 |non:sO K H .non<|.type "NoneType"
 |bl (x:Bool):sO K H (.bl x)<|.type "bool"
 |int (i:Int):sO K H (.int i)<|.type "int"
 |str (x:Str):sO K H (.str x)<|.type "str"
 |flt (x:UInt64):sO K H (.flt x)<|.type "float"
 |lst {a:Eo} {xs:Dj} (e:H a=some (.lst xs)):sO K H (.ref a)<|.type "list"
 |frz {a:Eo} {o:Obj} {xs:Dj} (e:H a=some (.frz o<|.lst xs)):sO K H (.ref a)<|.type "list"
 |tup {a:Eo} {xs:Dj} (e:H a=some (.tup xs)):sO K H (.ref a)<|.type "tuple"
 |dK {a:Eo} {Dm:Dl} (e:H a=some (.dK Dm)):sO K H (.ref a)<|.type "dict"
 |dT {a:Eo} {Dm:List (List Key×V)} (e:H a=some (.dT Dm)):sO K H (.ref a)<|.type "dict"
 |ins {a C dx:Eo} {fs:List (Str×V)} (e:H a=some (.ins C dx fs)) (cl:Cls K C) (ha:EO K (.ref C) "__class__"=some (some<|.builtin "object.__class__"))
   (hn:PySem.W.specialIn K (.builtin "object.__class__") "__get__"=some (some<|.builtin "getset_descriptor.__get__")) (htk:PySem.W.takesIn K (.builtin "object.__class__")=some true)
   (hm:PySem.W.mroIn K C (.type "object")=some true):sO K H (.ref a)<|.ref C
theorem jW (I:Inv X Dp σ H s)(d:za x u)(ty:sO X.K H x t)(e:EV X.K t c=some b)(h:∀tk,Q (.bool b) { s with toks:=tk }) :
  Es (Ez X.prog X.w) A (call (.builtin "isinstance") [u,c]) Q E s:=by
 cases ty with
 |non=>cases(show u=EH from d);exact Ys PySem.W.kitx_none I.vh Lg e (λz=>nomatch z) h
 |bl y=>cases(show u=Mg y from d);exact Ys PySem.W.kitx_bool I.vh Lg e (λz=>nomatch z) h
 |int i=>obtain⟨t,q⟩:=(show∃t,u=Mt i t from d);cases q;exact Ys PySem.W.kitx_int I.vh Lg e (λz=>nomatch z) h
 |str y=>obtain⟨t,q⟩:=(show∃t,u=L8 y t from d);cases q;exact Ys PySem.W.kitx_str I.vh Lg e (λz=>nomatch z) h
 |flt y=>obtain⟨t,q⟩:=(show∃t,u=Value.float y t from d);cases q;exact Ys PySem.W.kitx_float I.vh Lg e (λz=>nomatch z) h
 | @lst a f ea =>
  cases(show u=EB a from d);obtain⟨_,_,n,_,h1⟩:=(show yq X.prog X.w H s.heap a (.lst f) from I.hok a _ ea);exact Ys Uh I.vh ⟨_,h1,rfl⟩ e (λz=>nomatch z) h
 | @frz a ob f ea =>
  cases(show u=EB a from d);obtain⟨_,_,_,n,_,h1⟩:=(show yq X.prog X.w H s.heap a (.frz ob<|.lst f) from I.hok a _ ea);exact Ys Uh I.vh ⟨_,h1,rfl⟩ e (λz=>nomatch z) h
 | @tup a f ea =>
  cases(show u=EB a from d);obtain⟨_,_,_,p⟩:=(show yq X.prog X.w H s.heap a (.tup f) from I.hok a _ ea);obtain⟨o,h1,g,_⟩:=p;exact Ys PySem.W.kitx_tuple I.vh ⟨o,h1,g⟩ e (λz=>nomatch z) h
 | @dK a Dm ea =>
  cases(show u=EB a from d);obtain⟨_,_,B,_,p⟩:=(show yq X.prog X.w H s.heap a (.dK Dm) from I.hok a _ ea);obtain⟨o,l,j,h1,g,_⟩:=p;exact Ys Ui I.vh ⟨o,h1,g.1⟩ e (λz=>nomatch z) h
 | @dT a Dm ea =>
  cases(show u=EB a from d);obtain⟨_,_,f,_,o,l,j,h1,g,_⟩:=(show yq X.prog X.w H s.heap a (.dT Dm) from I.hok a _ ea);exact Ys Ui I.vh ⟨o,h1,g.1⟩ e (λz=>nomatch z) h
 | @ins a C dx fs ea cl ha hn htk hm =>
  cases(show u=EB a from d);obtain⟨r,O,_⟩:=X3 I.hok ea;obtain⟨v,J,_⟩:=O.look;exact Ys (PySem.W.kitx_own (cl.get _) cl.hd ha hn htk hm) I.vh J e (λz=>nomatch z) h
end
structure xr (k:Nat)(A:EJ):Prop where
 hd:A.handled=none
 dp:A.depth+3*k+5<recursionLimit
 un:A.units+16*k+200<E8
theorem xr.mono {j:Nat}(r:xr k A)(h:j<=k):xr j A:=⟨r.hd,by have:=r.dp;lia,by have:=r.un;lia⟩
theorem xr.m {j:Nat}(r:xr k A)(h:j<=k:=by decide):xr j A:=r.mono h
theorem xr.deeper {k:Nat}(r:xr (k+1) A)(env:Env):xr k (A.deeper env) :=
 ⟨r.hd,by have:=r.dp;show A.depth+1+3*k+5<_;lia,by have:=r.un;show A.units+3+16*k+200<_;lia⟩
theorem KO {A:EJ}{C:Eo}{us:Db}{b:List (Str×Ep)}:(A.under<|.builtin "type.__call__" ⟨.ref C::us,b⟩).depth=A.depth+1:=by
 first|rfl|simp[Around.under,Code.weight,Code.isCreation,Code.isGuard,Code.isCaller,Code.frames,Code.isFrame,guardIds]
theorem KP {A:EJ}{C:Eo}{us:Db}{b:List (Str×Ep)}:(A.under<|.builtin "type.__call__" ⟨.ref C::us,b⟩).units=A.units+1:=by
 first|rfl|simp[Around.under,Code.cUnits,Code.frames,Code.isFrame]
theorem xr.make {k:Nat}(r:xr (k+1) A)(C:Eo)(us:Db)(b:List<|Str×Ep):xr k (A.under<|.builtin "type.__call__" ⟨.ref C::us,b⟩) :=
 ⟨r.hd,by have:=r.dp;rw[KO];lia,by have:=r.un;rw[KP];lia⟩
theorem xr.depth (r:xr k A):A.depth<recursionLimit:=by have:=r.dp;lia
theorem xr.units (r:xr k A):A.units+64<cLine:=by have:=r.un;lia
def Xj:TA:=λ_ H Q=>Q [] H
def IV (e:TE)(tr:TA):TA:=λb H Q=>e b H λx c=>tr b c λf d=>Q (x::f) d
section
variable {X:Cx}{e:EN}{es:List EN}{te:TE}{t:TA}{pos:Pos}
theorem zB:PA X [] Xj:=λ_ _ _ _ H Q I h=>LY ⟨[],H,I,.nil,h⟩
theorem zA (ha:PE X e te)(j:PA X es t)(hs:EG (e::es) X.env=(false,Lc e X.env)::EG es X.env:=by rfl):PA X (e::es) (IV te t):=by
 intro pos b s c H Q I h;rw[hs];show Es _ _ (spliced ((false,Lc e X.env)::Li pos (EG es X.env))) _ _ s;refine Ln<|Ct (ha b s c H _ I h) λu q ⟨x,d,g,o,l⟩=>?_;exact Ct (j pos b q c d _ g l) λw v ⟨r,f,i,p,n⟩=>⟨x::r,f,i,.cons o p,n⟩
inductive je (o:Dj->HO)(Q:VK)(xs:Dj)(H1:Hp):Prop
 |mk (l:xs.length<=sizeLine) (q:∀p,H1 p=none->Q (.ref p) (upd H1 p<|o xs)):je o Q xs H1
def bo (t:TA):TE:=λd H Q=>t d H λc b=>je .tup Q c b
def RM (t:TA):TE:=λd H Q=>t d H λc b=>je .lst Q c b
theorem yR {x1}(h:PA X es t):PE X (.Tuple es x1 pos) (bo t):=by
 intro g s o H Q I j;refine wpAny_Tuple_spliced (Ct (h pos g s o H _ I j) λl c ⟨n,d,f,r,z,q⟩=>⟨by rw[<-r.length];exact z,?_⟩);have i:d c.heap.objs.size=none:=f.hok.fresh<|Zt _;refine⟨.ref c.heap.objs.size,upd d c.heap.objs.size<|.tup n,f.laid (t':=c.toks) (λb u e=>Zp _ e) (Zt _) ?_,rfl,q _ i⟩;exact⟨z,l,r,TupAt.new _ _⟩
theorem yT (h:PA X es t):PE X (.List es pos) (RM t):=by
 intro g s o H Q I j;refine wpAny_List_spliced (Ct (h pos g s o H _ I j) λl c ⟨n,d,f,r,z,q⟩=>⟨by rw[<-r.length];exact z,?_⟩);have i:d c.heap.objs.size=none:=f.hok.fresh<|Zt _;refine⟨.ref c.heap.objs.size,upd d c.heap.objs.size<|.lst n,f.laid (t':=c.toks) (λb u e=>Zp _ e) (Zt _) ?_,rfl,q _ i⟩;exact⟨z,l,0,r,Zz _ rfl⟩
end
abbrev Sp:=Dj->Hp->VK->XK->Prop
abbrev OM:=List Env->Hp->Et->XK->Ep->Dh
structure rQ (P:Er)(w:Eu)(K:Cq)(mg:Str->Dc)(base:EI)(A:EJ)(outer:List Env)(s:Et)(H:Hp):Prop where
 frames:A.frames=some outer
 mod:Mod K mg base
 bs:∀b o,base.get? b=some o->s.heap.get? b=some o/\H b=none
 nj:base.objs.size<=s.heap.objs.size
 uv:s.heap.FunFrames base outer
 mW:∀b∈frs outer,H b=none
 hok:tZ P w H s.heap
 bare:ME s.gens
def CE (outer:List Env)(P:Er)(w:Eu)(H:Hp)(s:Et)(Q:VK)(u:Ep)(b:Et):Prop :=
 ∃v c,b.os=s.os/\ME b.gens/\Un (frs outer) [] H c s.heap b.heap/\tZ P w c b.heap/\za v u/\Q v c
def CR (CX:OM)(outer:List Env)(P:Er)(w:Eu)(H:Hp)(s:Et)(Q:VK)(E:XK)(r:Result)(b:Et):Prop :=
 match r with
 | .ok (.ret u)=>CE outer P w H s Q u b
 | .ok _=>False
 | .error e=>CX outer H s E e b
structure zc (P:Er)(w:Eu)(K:Cq)(mg:Str->Dc)(base:EI)(CX:OM)(k:Nat)(f:Eo)(fd:Ev)(ps:Da)(sp:Sp):Prop where
 len:∀vs H Q E,sp vs H Q E->vs.length=ps.length
 run:∀(A:EJ) (outer:List Env) (s:Et) (H:Hp) (args:Args) (us:Db) (vs:Dj) (Q:VK) (E:XK),xr k A->rQ P w K mg base A outer s H->BindsTo s fd args (ps.zip us)->zb vs us->sp vs H Q E ->
  LS (Ez P w) A (.call (.ref f) args) (CR CX outer P w H s Q E) s
theorem rQ.make {K:Cq}(e:rQ P w K mg base A outer s H)(C:Eo)(us:Db)(b:List<|Str×Ep) :
  rQ P w K mg base (A.under<|.builtin "type.__call__" ⟨.ref C::us,b⟩) outer s H:=⟨by first|exact e.frames|(simpa[Around.under,Code.envs,Code.isFrame,pushEnvs] using e.frames),e.mod,e.bs,e.nj,e.uv,e.mW,e.hok,e.bare⟩
section
variable {X:Cx}{Dp:De}{σ:St}{H:Hp}{s s':Et}
theorem Inv.env0 (I:Inv X Dp σ H s):rQ X.prog X.w X.K X.mg X.base X.A X.stack s H :=
 ⟨I.ok.frames,I.ok.mod,I.bs,Yk I.ok.nj I.sz,I.stack,I.rY,I.hok,I.bare⟩
theorem Inv.after (I:Inv X Dp σ H s)(h:CE X.stack X.prog X.w H s Q u s'):EP X Dp σ Q u s':=by
 obtain⟨v,e,os,bare,un,hok,r,q⟩:=h;obtain⟨hh,g,d,t,c⟩:=s';obtain rfl:c=s.os:=os;exact⟨v,e,I.call (h':=hh) (g':=g) (d':=d) (t':=t) (ch:=[]) un hok bare<|λb z=>absurd z<|by simp,r,q⟩
end
def RL (sp:Sp)(b:Dj)(E:XK)(t:TA):TE:=λe H Q=>t e H λd c=>sp (d++b) c Q E
inductive iT (C:Eo)(m:Str)(sp:Sp)(dvs:Dj)(E:XK)(t:TA)(σ:St)(Q:VK)(x:V)(H1:Hp):Prop
 |mk (a dx:Eo) (fs:List<|Str×V) (e:x=.ref a) (h:H1 a=some (.ins C dx fs)) (n:fs.lookup m=none) (q:t σ H1 λvs H2=>sp (x::(vs++dvs)) H2 Q E):iT C m sp dvs E t σ Q x H1
def Kb (C:Eo)(m:Str)(sp:Sp)(b:Dj)(E:XK)(e:TE)(t:TA):TE:=λc H Q=>e c H λx d=>iT C m sp b E t c Q x d
def NP (C:Eo)(sp:Sp)(d:Dj)(E:XK)(t:TA):TE:=λg H Q=>t g H λf c=>∀x b,c x=none->c b=none->b≠x ->
 sp (.ref x::(f++d)) (upd (upd c b<|.own x) x<|.ins C b []) (λv e=>v=.non/\Q (.ref x) e) E
def wX (K:Cq)(c:Ev)(ps:Da)(ds:Db):Prop :=
 ∀(s:Et) (b:Db),K.In s.heap->(b++ds).length=ps.length->BindsTo s c ⟨b,[]⟩ (ps.zip<|b++ds)
theorem wX.all {K:Cq}{b:Ev}{ps:Da}(h:∀us:Db,us.length=ps.length->bindArgs b ⟨us,[]⟩=LC (ps.zip us)):wX K b ps []:=λs us _ hl=>by
 rw[Z2]at hl ⊢;exact .of_eq<|h us hl
def vL (CX:OM)(X:Cx)(E:XK):Prop:=∀(c:De) (d:St) (H:Hp) (s:Et) (e:Ep) (b:Et),Inv X c d H s->CX X.stack H s E e b->X.xe e b
section
variable {X:Cx}{CX:OM}{k:Nat}{f C:Eo}{fd:Ev}{ps:Da}{sp:Sp}{dvs:Dj}{ds:Db}{E:XK}{x m:Str}{p pos Dr:Pos}{e o:EN}{es:List EN}{ta:TE}{t:TA}
theorem ML {c:De}{d:St}{H:Hp}{s:Et}{Q:VK}{us:Db}{vs:Dj}(F:zc X.prog X.w X.K X.mg X.base CX k f fd ps sp)(i:xr k X.A)(hb:wX X.K fd ps ds)(hd:zb dvs ds)(j:vL CX X E)
  (I:Inv X c d H s) (r:zb vs us) (h:sp (vs++dvs) H Q E):Es (Ez X.prog X.w) X.A (call (.ref f) us) (EP X c d Q) X.xe s:=by
 have g:zb (vs++dvs) (us++ds):=r.append hd;have hl:(us++ds).length=ps.length:=by rw[<-g.length];exact F.len _ _ _ _ h
 refine Vm<|Jl (F.run X.A X.stack s H ⟨us,[]⟩ (us++ds) (vs++dvs) Q E i I.env0 (hb s us I.vh hl) g h) λr l b=>?_;cases r with
 |error e=>exact j c d H s e l I b
 |ok fl =>
  cases fl with
  |ret u=>exact I.after b
  |next=>exact EL b
  |brk=>exact EL b
  |cont=>exact EL b
theorem SC (F:zc X.prog X.w X.K X.mg X.base CX k f fd ps sp)(j:xr k X.A)(i:Gl X x)(hm:X.mg x=some (.ref f))(hk:EY X.K (.ref f)=true)(hb:wX X.K fd ps ds)(hd:zb dvs ds)(l:vL CX X E)
  (ha:PA X (e::es) t) (b:(x==("__debug__":Str))=false:=by decide) (he:EG (e::es) X.env=(false,Lc e X.env)::EG es X.env:=by rfl) (c:(Li pos<|EG es X.env).any (·.1)=false:=by rfl) :
  PE X (.Call (.Name x p) (e::es) [] pos) (RL sp dvs E t):=by
 intro g s n H Q I h;refine Y0<|jZ I i hm ?_ b;refine Jr (h₀:=X.base) I.ok.mod.lQ hk (Ct (ha pos g s n H _ I h) λv u ⟨y,o,d,r,q⟩=>⟨d.vh,?_⟩) he c;exact ML F j hb hd l d r q
theorem SH {pl:Sem Bool}(he:PE X o ta)(c:Cls X.K C)(hm:Meth X.K C m f)(F:zc X.prog X.w X.K X.mg X.base CX k f fd ps sp)(y:xr k X.A)(hb:wX X.K fd ps ds)(hd:zb dvs ds)(B:vL CX X E)(ha:PA X (e::es) t)
  (d:EG (e::es) X.env=(false,Lc e X.env)::EG es X.env:=by rfl) (b:(Li pos<|EG es X.env).any (·.1)=false:=by rfl)
  (z:Lc (.Call (.Attribute o m Dr) (e::es) [] pos) X.env=(do
   let ov <-Lc o X.env
   standAt Dr.atName
   let (f,first) <-MG [ov] (Mu ov m pl)
   callWith pos f first (Li pos<|EG (e::es) X.env) (MA pos<|LP [] X.env)):=by rfl) :
  PE X (.Call (.Attribute o m Dr) (e::es) [] pos) (Kb C m sp dvs E ta t):=by
 intro g s n H Q I h;refine JX (pl:=pl) (Ct (he g s n H _ I h) λu J q9=>?_) z;obtain⟨x,p,i,G,a,M,fs,ex,v,l,q⟩:=q9;subst ex;obtain rfl:u=EB a:=G;refine kI i v c hm l ?_;refine Jr (first:=[.ref a]) (h₀:=X.base) I.ok.mod.lQ hm.kp (Ct (ha pos g J n p _ i q) λus N ⟨vs,L,j,r,D⟩=>⟨j.vh,?_⟩) d b;exact ML (us:=.ref a::us) (vs:=.ref a::vs) F y hb hd B j (.cons rfl r) D
theorem Rh {pl:Sem Bool}(he:PE X o ta)(c:Cls X.K C)(hm:Meth X.K C m f)(F:zc X.prog X.w X.K X.mg X.base CX k f fd ps sp)(g:xr k X.A)(hb:wX X.K fd ps ds)(hd:zb dvs ds)(j:vL CX X E)
  (i:Lc (.Call (.Attribute o m Dr) [] [] pos) X.env=(do
   let ov <-Lc o X.env
   standAt Dr.atName
   let (f,first) <-MG [ov] (Mu ov m pl)
   callWith pos f first (Li pos<|EG [] X.env) (MA pos<|LP [] X.env)):=by rfl) :
  PE X (.Call (.Attribute o m Dr) [] [] pos) (Kb C m sp dvs E ta Xj):=by
 intro d s p H Q I h;refine JX (pl:=pl) (Ct (he d s p H _ I h) λu v q9=>?_) i;obtain⟨x,r,b,n,a,t,fs,ex,e,l,q⟩:=q9;subst ex;obtain rfl:u=EB a:=n;refine kI b e c hm l ?_;exact V5 (first:=[.ref a]) b.vh hm.kp<|ML (us:=[.ref a]) (vs:=[.ref a]) F g hb hd j b (.cons rfl .nil) q
structure Mk (K:Cq)(C f:Eo):Prop where
 makes:Md K C=true
 init:EO K (.ref C) "__init__"=some (some<|.ref f)
 fn:MH K (.ref f)=true
 kp:EY K (.ref C)=true
theorem HP {d:De}{g:St}{H:Hp}{s:Et}{Q:VK}{us:Db}{vs:Dj}(M:Mk X.K C f)(F:zc X.prog X.w X.K X.mg X.base CX k f fd ps sp)(p:xr (k+1) X.A)(hb:wX X.K fd ps ds)(hd:zb dvs ds)
  (q:vL CX X E) (I:Inv X d g H s) (r:zb vs us)
  (h:∀x dx,H x=none->H dx=none->dx≠x->sp (.ref x::(vs++dvs)) (upd (upd H dx<|.own x) x<|.ins C dx []) (λv H2=>v=.non/\Q (.ref x) H2) E) :
  Es (Ez X.prog X.w) X.A (call (.ref C) us) (EP X d g Q) X.xe s:=by
 have i:=h (s.heap.objs.size+1) s.heap.objs.size (I.hok.fresh<|JM _) (I.hok.fresh<|Zt _)<|ZO<|JH _;have c:=Inv.made (C:=C) I;have j:zb (V.ref (s.heap.objs.size+1)::(vs++dvs)) (EB (s.heap.objs.size+1)::(us++ds)):=.cons rfl<|r.append hd;have hl:(EB (s.heap.objs.size+1)::us++ds).length=ps.length:=by
  have e:=j.length;rw[F.len _ _ _ _ i]at e;exact e.symm
 refine Vm<|PN (f:=f) I.vh M.makes M.init (JB.mp M.fn)<|Jl (F.run _ X.stack _ _ ⟨EB (s.heap.objs.size+1)::us,[]⟩ (EB (s.heap.objs.size+1)::(us++ds)) _ _ E (p.make C us []) (c.env0.make C us []) (hb _ (EB (s.heap.objs.size+1)::us) c.vh hl) j i) λr z b=>?_
 cases r with
 |error e=>exact q d g _ _ e z c b
 |ok fl =>
  cases fl with
  |ret u =>
   obtain⟨v,l,n,y,o,t⟩:=c.after b;subst o;exact⟨y,⟨V.ref<|s.heap.objs.size+1,l,n,rfl,t⟩⟩
  |next=>exact EL b
  |brk=>exact EL b
  |cont=>exact EL b
theorem SG (M:Mk X.K C f)(F:zc X.prog X.w X.K X.mg X.base CX k f fd ps sp)(j:xr (k+1) X.A)(i:Gl X x)(hm:X.mg x=some (.ref C))(hb:wX X.K fd ps ds)(hd:zb dvs ds)(l:vL CX X E)
  (ha:PA X (e::es) t) (b:(x==("__debug__":Str))=false:=by decide) (he:EG (e::es) X.env=(false,Lc e X.env)::EG es X.env:=by rfl) (c:(Li pos<|EG es X.env).any (·.1)=false:=by rfl) :
  PE X (.Call (.Name x p) (e::es) [] pos) (NP C sp dvs E t):=by
 intro g s n H Q I h;refine Y0<|jZ I i hm ?_ b;refine Jr (h₀:=X.base) I.ok.mod.lQ M.kp (Ct (ha pos g s n H _ I h) λv u ⟨y,o,d,r,q⟩=>⟨d.vh,?_⟩) he c;exact HP M F j hb hd l d r q
theorem Rf (M:Mk X.K C f)(F:zc X.prog X.w X.K X.mg X.base CX k f fd ps sp)(d:xr (k+1) X.A)(c:Gl X x)(hm:X.mg x=some (.ref C))(hb:wX X.K fd ps ds)(hd:zb dvs ds)(e:vL CX X E)
  (b:(x==("__debug__":Str))=false:=by decide):PE X (.Call (.Name x p) [] [] pos) (NP C sp dvs E Xj):=by
 intro g s i H Q I h;refine Y0<|jZ I c hm ?_ b;exact V5 I.vh M.kp<|HP (us:=[]) M F d hb hd e I .nil h
end
structure zy (N P:Da)(sc:LV):Prop where
 kind:sc.kind=.function
 co:sc.isCoroutine=false
 gen:sc.isGenerator=false
 nd:N.Nodup
 pre:N.take P.length=P
 par:∀x∈P,sc.names.lookup x=some .local\/sc.names.lookup x=some .cell
 jd:∀y∈sc.names,y.2≠.free
theorem Cz {N P:Da}{sc:LV}(a:sc.kind=.function:=by rfl)(b:sc.isCoroutine=false:=by rfl)(c:sc.isGenerator=false:=by rfl)(d:N.Nodup:=by decide+kernel)(e:N.take P.length=P:=by rfl)(f:∀x∈P,sc.names.lookup x=some .local\/sc.names.lookup x=some .cell:=by decide+kernel)(g:∀y∈sc.names,y.2≠.free:=by decide+kernel):zy N P sc:=⟨a,b,c,d,e,f,g⟩
theorem GS {kindOf:Str->Option Mb}{x:Str}:∀{binds:List (Str×Ep)} {m:Str->Dc},(∀v,(x,v)∉binds)->bindL kindOf binds m x=m x
 |[],_,_=>rfl
 |(n,v)::r,m,h=>by
  unfold bindL;rw[GS λw b=>h w<|Zn _ b]
  split
  .have:x≠n:=by rintro rfl;exact h v Zs
   simp[this]
  .rfl
theorem GP {kindOf:Str->Option Mb}{x:Str}:∀{binds:List (Str×Ep)} {m:Str->Dc},(∀v,(x,v)∉binds)->bindC kindOf binds m x=m x
 |[],_,_=>rfl
 |(n,v)::r,m,h=>by
  unfold bindC;rw[GP λw b=>h w<|Zn _ b]
  split
  .rfl
  .have:x≠n:=by rintro rfl;exact h v Zs
   simp[this]
theorem GQ {kindOf:Str->Option Mb}{x:Str}{v:Ep}:∀{P:Da} {vs:Db} {i:Nat} {m:Str->Dc},P.Nodup->P[i]?=some x->vs[i]?=some v->kindOf x=some .local ->
  bindL kindOf (P.zip vs) m x=some v
 |[],_,_,_,_,h,_,_=>by simp at h
 |_::_,[],_,_,_,_,h,_=>by simp at h
 |p::P,w::vs,0,m,nd,h1,h2,hk=>by
  simp at h1 h2;subst h1;subst h2;show bindL kindOf ((p,w)::P.zip vs) m p=_;unfold bindL;rw[GS λv hv=>(ZY.mp nd).1 (JU hv).1,ZK hk];simp
 |p::P,w::vs,i+1,m,nd,h1,h2,hk=>by
  show bindL kindOf ((p,w)::P.zip vs) m x=_;unfold bindL;exact GQ (i:=i) (ZY.mp nd).2 (by simpa using h1) (by simpa using h2) hk
theorem Bh {kindOf:Str->Option Mb}{x:Str}{v:Ep}:∀{P:Da} {vs:Db} {i:Nat} {m:Str->Dc},P.Nodup->P[i]?=some x->vs[i]?=some v->kindOf x≠some .local ->
  bindC kindOf (P.zip vs) m x=some v
 |[],_,_,_,_,h,_,_=>by simp at h
 |_::_,[],_,_,_,_,h,_=>by simp at h
 |p::P,w::vs,0,m,nd,h1,h2,hk=>by
  simp at h1 h2;subst h1;subst h2;show bindC kindOf ((p,w)::P.zip vs) m p=_;unfold bindC;rw[GP λv hv=>(ZY.mp nd).1 (JU hv).1,ZH hk];simp
 |p::P,w::vs,i+1,m,nd,h1,h2,hk=>by
  show bindC kindOf ((p,w)::P.zip vs) m x=_;unfold bindC;exact Bh (i:=i) (ZY.mp nd).2 (by simpa using h1) (by simpa using h2) hk
def start (N:Da)(vs:Dj):St:=vs.map some++LI (N.length-vs.length) none
def GG (CX:OM)(P:Er)(w:Eu)(K:Cq)(mg:Str->Dc)(base:EI)(N:Da)(qual:Str)(scope:LV)(f:Eo)(c:Ep)(A:EJ)(outer:List Env)(s:Et)(H:Hp)(E:XK):Cx where
 prog:=P
 w:=w
 K:=K
 mg:=mg
 base:=base
 A:=A.deeper<|Mw qual scope s.heap.objs.size f c
 N:=N
 s₀:=s
 H₀:=H
 env:=Mw qual scope s.heap.objs.size f c
 outer:=outer
 stack:=Mw qual scope s.heap.objs.size f c::outer
 ex:=[]
 calm:=true
 fn:=λ_=>true
 pn:=[]
 xe:=λe g=>Es (Ez P w) (A.deeper<|Mw qual scope s.heap.objs.size f c) (leaving (Mw qual scope s.heap.objs.size f c) e) (λ_ b=>CX outer H s E e b) (λd b=>CX outer H s E d b) g
theorem Fw {sc:LV}{n:Nat}{x:Str}(h:sc.names.lookup x=some .cell):∃c,(cellsFrom n sc.names []).lookup x=some c:=by
 have q:=VB sc.names n []<|.inl h;exact Z6.mp q
theorem Bk {CX:OM}{P:Er}{w:Eu}{K:Cq}{mg:Str->Dc}{base:EI}{N ps:Da}{qual:Str}{scope:LV}{f:Eo}{B:Ep}{A:EJ}{outer:List Env}{s F:Et}{H:Hp}{E:XK}{us:Db}{vs:Dj}
  (S:zy N ps scope) (hd:A.handled=none) (g:rQ P w K mg base A outer s H) (hl:vs.length=ps.length) (r:zb vs us)
  (x:InCallC s s.heap.objs.size (bindL (Mw qual scope s.heap.objs.size f B).kindOf (ps.zip us) λ_=>none) (cellsFrom (s.heap.objs.size+1) scope.names []) (bindC (Mw qual scope s.heap.objs.size f B).kindOf (ps.zip us) λ_=>none) F) :
  Inv (GG CX P w K mg base N qual scope f B A outer s H E) [] (start N vs) H F:=by
 have G:ps.length<=N.length:=by have:=congrArg List.length S.pre;rw[ZS]at this;lia
 obtain⟨h1,tk,rfl,hk⟩:=x.done;have l:∀b:Eo,b∉(GG CX P w K mg base N qual scope f B A outer s H E).ex:=λb z=>absurd (show b∈([]:Dd) from z) (by simp);refine⟨⟨g.mod,S.kind,rfl,rfl,Zt _,λy z c h1 d=>?_,λy j=>?_,λy c _ h=>?_,λ_=>hd,Around.frames_deeper g.frames,.inr ⟨rfl,rfl⟩,λb z=>absurd z<|l b,g.bs,g.nj,λb _ _=>l b,λb z=>absurd z<|l b,g.uv,g.mW⟩,rfl,g.bare,Un.kept hk,⟨_,x.toInCall.ns,λi y v h1 d J=>?_⟩,λy c h=>⟨_,x.cell y c h⟩,g.hok.fresh<|Zt _,λy c h=>?_,λp o=>absurd (show p∈([]:De) from o) (by simp),g.hok.kept hk,?_⟩
 .exact name_of_addr x.apart (Y6 h1) (Y6 d)
 .have j:scope.names.lookup y=some .cell\/scope.names.lookup y=some .free:=j
  rcases j with j|j
  .exact Fw j
  .exact absurd rfl (S.jd _<|Y6 j)
 .exact YE (x.above y c<|Y6 h)
 .have C:i<vs.length:=by
   unfold start at d
   by_cases C:i<vs.length
   .exact C
   .rw[Ym<|by simpa using C]at d;rw[List.getElem?_replicate]at d
    split at d<;>cases d
  have ha:vs[i]?=some v:=by
   unfold start at d;rw[Ya<|by simpa using C,Zy]at d;cases e:vs[i]? with
   |none=>rw[e]at d;cases d
   |some a=>rw[e]at d;cases d;rfl
  obtain⟨u,D,I⟩:=r.get ha;have o:ps[i]?=some y:=by
   rwa[<-S.pre,List.getElem?_take_of_lt<|by lia]
  have t:ps.Nodup:=by rw[<-S.pre];exact S.nd.sublist<|List.take_sublist _ _
  refine⟨u,I,?_⟩
  rcases S.par y (ZG o) with k|k
  .exact .inl ⟨k,GQ t o D k⟩
  .obtain⟨c,e⟩:=Fw (n:=s.heap.objs.size+1) k;refine .inr ⟨.inl k,c,e,?_⟩;have q:=x.cell y c e;rw[Bh t o D (by show scope.names.lookup y≠_;rw[k];decide)]at q;exact q
 .exact g.hok.fresh (YE<|x.above y c<|Y6 h)
 .unfold start;show _=N.length;rw[ZB,Zk,List.length_replicate];lia
theorem Tl {CX:OM}{P:Er}{w:Eu}{K:Cq}{mg:Str->Dc}{base:EI}{k:Nat}{f:Eo}{name qual:Str}{params:Arguments}{body:List ER}{scope:LV}{R kV j T c ct oc:Ep}{M od:Option Eo}
  {D:Array Dc} {N ps:Da} {sp:Sp} (lk:K.lookup f=some ⟨oc,od,.func<|Lf name qual params body scope R kV j T M c ct,D⟩) (z:LK K c qual=true) (S:zy N ps scope)
  (len:∀vs H Q E,sp vs H Q E->vs.length=ps.length)
  (Y:∀(A:EJ) (outer:List Env) (s:Et) (H:Hp) (vs:Dj) (Q:VK) (E:XK),xr k (A.deeper<|Mw qual scope s.heap.objs.size f c)->sp vs H Q E -> ∃t,qw (GG CX P w K mg base N qual scope f c A outer s H E) body t/\t { nx:=λ_ H'=>Q .non H',rt:=Q } (start N vs) H) :
  zc P w K mg base CX (k+1) f (Lf name qual params body scope R kV j T M c ct) ps sp:=by
 refine⟨len,λA outer s H O us vs Q E B l hb r p=>?_⟩;have hl:=len _ _ _ _ p;have L:K.In s.heap:=l.mod.lQ.keeps λb o e=>(l.bs b o e).1;have C:s.heap.NoLimit:=l.mod.nolimit.keeps λb o e=>(l.bs b o e).1;have g:∀y∈ps.zip us,scope.names.lookup y.1=some .local\/(scope.names.lookup y.1=some .cell/\((cellsFrom (s.heap.objs.size+1) scope.names []).lookup y.1).isSome=true):=λ⟨n,v⟩ hy=>by
  rcases S.par n (JU hy).1 with q|q
  .exact .inl q
  .exact .inr ⟨q,VB _ _ _<|.inl q⟩
 refine codeAny_call_function B.depth (L _ _ lk) rfl S.co S.gen rfl (PySem.W.codeRec_of L z)<|hb _ _ _ _ ?_;refine wpAny_newFunctionEnv_cells S.kind g λenv he U x=>?_;subst he;refine⟨C.keeps x.toInCall.keep,codeAny_func ?_⟩;obtain⟨t,ht,hq⟩:=Y A outer s H vs Q E (B.deeper _) p;have I:Inv (GG CX P w K mg base N qual scope f c A outer s H E) [] (start N vs) H U:=Bk S B.hd l hl r x;refine Yy (ht [] U (start N vs) H _ I hq) (λZ G i=>?_) λe G i=>i;have fin:∀{d:St} {H':Hp} {v:V} {u:Ep},Inv (GG CX P w K mg base N qual scope f c A outer s H E) [] d H' G->za v u->Q v H'->CE outer P w H s Q u G :=
  λ{d H' v u} J F q=>⟨v,H',J.os,J.bare,J.base,J.hok,F,q⟩
 cases Z with
 |ret u =>
  obtain⟨v,d,H',J,F,q⟩:=i;exact fin J F q
 |next =>
  obtain⟨d,H',J,q⟩:=i;exact fin (v:=V.non) (u:=EH) J rfl q
 |brk =>
  obtain⟨_,_,_,q⟩:=i;exact EL q
 |cont =>
  obtain⟨_,_,_,q⟩:=i;exact EL q
section
variable {X:Cx}{x:Str}{p pos:Pos}{e:EN}{es:List EN}{t:TA}{id T:String}{r:Dj->Hp->VK->Prop}
def ci (r:Dj->Hp->VK->Prop)(t:TA):TE:=λd H Q=>t d H λc b=>r c b Q
theorem zJ (hc:yd X (.builtin id) r)(j:Gl X x)(hm:X.mg x=none)(hv:L9 x=some (.builtin id))(ha:PA X (e::es) t)(hn:x≠"__name__":=by decide)(b:(x==("__debug__":Str))=false:=by decide)
  (he:EG (e::es) X.env=(false,Lc e X.env)::EG es X.env:=by rfl) (c:(Li pos<|EG es X.env).any (·.1)=false:=by rfl):PE X (.Call (.Name x p) (e::es) [] pos) (ci r t):=by
 intro d s f H Q I h;refine Y0<|vU I j hm hv ?_ hn b;exact VS (Ct (ha pos d s f H _ I h) λq o ⟨u,g,i,n,l⟩=>hc d o f g u q Q i n l) he c
theorem z8 (hc:yd X (.type T) r)(j:Gl X x)(hm:X.mg x=none)(hv:L9 x=some (.type T))(ha:PA X (e::es) t)(hn:x≠"__name__":=by decide)(b:(x==("__debug__":Str))=false:=by decide)
  (he:EG (e::es) X.env=(false,Lc e X.env)::EG es X.env:=by rfl) (c:(Li pos<|EG es X.env).any (·.1)=false:=by rfl):PE X (.Call (.Name x p) (e::es) [] pos) (ci r t):=by
 intro d s f H Q I h;refine Y0<|vU I j hm hv ?_ hn b;exact Jk (Ct (ha pos d s f H _ I h) λq o ⟨u,g,i,n,l⟩=>hc d o f g u q Q i n l) he c
end
end L2
namespace HT
open PySem PyProof.Rows
section
variable {prog:Er}{w:Eu}{A:EJ}{E:Ep->Dh}{s:Et}
def wI (n d:Nat):Option Int->Nat
 |none=>d
 |some v=>if v<0 then(v+(n:Int)).toNat else min v.toNat n
theorem oU (n d:Nat):wI n d none=d:=rfl
theorem pI (n d k:Nat):wI n d (some (k:Int))=min k n:=by
 show(if(k:Int)<0 then((k:Int)+(n:Int)).toNat else min (k:Int).toNat n)=min k n;rw[ZH<|by lia,VD]
theorem WG (n d:Nat)(hd:d<=n)(o:Option Int):wI n d o<=n:=by
 cases o with
 |none=>exact hd
 |some v =>
  show(if v<0 then(v+(n:Int)).toNat else min v.toNat n)<=n
  by_cases hv:v<0
  .rw[ZK hv];lia
  .rw[ZH hv];exact VT _ _
theorem M7 (v:Int)(n d:Nat):(if v<0 then max (v+(n:Int)) 0 else min v (n:Int))=((wI n d (some v):Nat):Int):=by
 show(if v<0 then max (v+(n:Int)) 0 else min v (n:Int))=(((if v<0 then(v+(n:Int)).toNat else min v.toNat n):Nat):Int)
 by_cases hv:v<0
 .simp only[ZK hv];lia
 .simp only[ZH hv];lia
theorem Kk (lo b:Option Int)(n:Nat):Ma lo b 1 (n:Int)=(((wI n 0 lo:Nat):Int),((wI n n b:Nat):Int)):=by
 have h1:¬((1:Int)<0):=by lia
 unfold Ma;simp only[h1,Js];refine Mp ?_ ?_
 .cases lo with
  |none=>rfl
  |some v=>exact M7 v n 0
 .cases b with
  |none=>rfl
  |some v=>exact M7 v n n
theorem K1 (i j:Nat):Lv (i:Int) (j:Int) 1=j-i:=by
 unfold Lv;have h1:(1:Int)>0:=by lia
 simp only[h1,Uj,Int.ediv_one]
 split<;>lia
theorem IN {v:Ep}{o:Option Int}{Q:Option Int->Dh}(p:IsPart v o)(h:Q o s):Es (Ez prog w) A (Builtin.Slice.slicePartIndex v) Q E s:=by
 cases p with
 |none=>exact slicePart_none h
 |int i t=>exact slicePart_int h
theorem Xm {f:Eo}{vl e:Ep}{lo c:Option Int}{n:Nat}{Q:Int×Int×Nat->Dh}(hs:s.heap.IsSliceOf f vl e .none)(pl:IsPart vl lo)(i:IsPart e c)
  (h:Q (((wI n 0 lo:Nat):Int),1,wI n n c-wI n 0 lo) s):Es (Ez prog w) A (Builtin.Slice.sliceApplied (.ref f)<|LC (n:Int)) Q E s:=by
 obtain⟨os,d,g,b⟩:=id hs;unfold Builtin.Slice.sliceApplied Builtin.Slice.sliceFields;refine Zm<|Zm<|Jd d b (x:=vl) rfl<|Zm<|Jd d b (x:=e) rfl<|Zm<|Jd d b (x:=.none) rfl<|Zu ?_;refine Zm<|slicePart_none ?_;show Es _ _ (if((1:Int)==0)=true then _ else _) _ _ s;rw[ZH<|by decide];refine Zm<|IN pl<|Zm<|IN i<|Zm<|Zu ?_;show Es _ _ (match Ma lo c 1 (n:Int) with|(lo,c)=>LC (lo,(1:Int),Lv lo c 1)) _ _ s;rw[Kk lo c n];show Es _ _ (LC (((wI n 0 lo:Nat):Int),(1:Int),Lv ((wI n 0 lo:Nat):Int) ((wI n n c:Nat):Int) 1)) _ _ s;rw[K1];exact Zu h
theorem Rn (xs:Array Ep)(i k:Nat):((ET k).filterMap λ(m:Nat)=>xs[((i:Int)+(m:Int)*1).toNat]?).toArray=((xs.toList.drop i).take k).toArray:=by
 have e:(λ(m:Nat)=>xs[((i:Int)+(m:Int)*1).toNat]?)=λm=>xs[i+m]?:=by
  funext m
  have:((i:Int)+(m:Int)*1).toNat=i+m:=by lia
  rw[this]
 rw[e];have:=pick_run xs i k;rw[List.filterMap_map]at this;have b:((λx=>xs[x]?)∘λx=>i+x)=λm=>xs[i+m]?:=rfl;rw[b]at this;rw[this]
theorem tO {t l:Eo}{b:Array Ep}{vl n:Ep}{lo d:Option Int}{Q:Ep->Dh}(e:IsTup s.heap t b)(hs:s.heap.IsSliceOf l vl n .none)(pl:IsPart vl lo)(r:IsPart n d)
  (p:¬(wI b.size 0 lo=0/\wI b.size b.size d=b.size))
  (h:Q (.ref s.heap.objs.size) { s with heap:=s.heap.push { cls:=.type "tuple",data:=.seq ((b.toList.drop<|wI b.size 0 lo).take<|wI b.size b.size d-wI b.size 0 lo).toArray } })
  (hsz:b.size<=sizeLine):Es (Ez prog w) A (getItem (.ref t)<|.ref l) Q E s:=by
 have c:sizeOk (.seq ((b.toList.drop<|wI b.size 0 lo).take<|wI b.size b.size d-wI b.size 0 lo).toArray):=by
  show((b.toList.drop<|wI b.size 0 lo).take<|wI b.size b.size d-wI b.size 0 lo).toArray.size<=sizeLine;rw[ZP,ZS,Jo,ZT];lia
 have u:wI b.size b.size d<=b.size:=WG _ _ (Zt _) d;obtain⟨os,j,g,o⟩:=id hs;have f:s.TypeIs (.ref l) "slice":=⟨os,j,g⟩;unfold getItem
 try with_reducible refine Yp ?_
 first|refine Zm (Zu ?_)|skip
 refine Zm (wpAny_sequenceKey e.typeIs (by decide) ?_);refine Zm<|Yz (name:=EZ "__getitem__") e.typeIs VN<|Yq VN e.typeIs entry_tuple_getitem ?_<|args_tuple_getitem _ _
 show Es _ _ (Builtin.Tuple.tupleItemsOf (.ref t)>>=_) _ _ s;refine Zm<|tupleItemsOf_ e ?_;refine Zm<|Uv f ?_;rw[ZK<|by decide];refine Zm<|Xm hs pl r ?_;have i:¬((((wI b.size 0 lo:Nat):Int)==0&&(1:Int)==1&&(wI b.size b.size d-wI b.size 0 lo)==b.size)=true):=by
  intro q;rw[Zw,Zw]at q;have v:((wI b.size 0 lo:Nat):Int)=0:=Va q.1.1;have x:wI b.size b.size d-wI b.size 0 lo=b.size:=Va q.2;exact p ⟨by lia,by lia⟩
 show Es _ _ (if(((wI b.size 0 lo:Nat):Int)==0&&(1:Int)==1&&(wI b.size b.size d-wI b.size 0 lo)==b.size)=true then _ else _) _ _ s;rw[ZH i,Rn]
 first
  |exact Zm (m:=LF _) (Yh (Zu ⟨_,rfl,Zu h⟩) c)
  |exact Zm (m:=LF _) (Yh (Zm<|Zu<|Zu ⟨_,rfl,Zu h⟩) c)
  |exact Zm (Zm (m:=LF _)<|Yh (Zu<|Zu ⟨_,rfl,Zu h⟩) c)
  |exact Zm (Zm (m:=LF _)<|Yh (Zu ⟨_,rfl,Zu h⟩) c)
end
end HT
namespace L2
open PySem PySem.Spec PyProof.Rows
abbrev TO:=St->Hp->(Option Int->Hp->Prop)->Prop
def PO (X:Cx)(e:Option EN)(t:TO):Prop :=
 ∀(c:De) (s:Et) (b:St) (H:Hp) (Q:Option Int->Hp->Prop),Inv X c b H s->t b H Q ->
  Es (Ez X.prog X.w) X.A (evalPart e X.env) (λu f=>∃o d,Inv X c b d f/\IsPart u o/\Q o d) X.xe s
def S6:TO:=λ_ H Q=>Q none H
def bi (t:TE):TO:=λc H Q=>t c H λx b=>∃i,x=.int i/\Q (some i) b
section
variable {X:Cx}{e:EN}{te:TE}{lo hi:Option EN}{tl th:TO}{pos p2:Pos}
theorem vZ:PO X none S6:=by
 intro b s c H Q I h;rw[evalPart_none];exact Zu ⟨none,H,I,.none,h⟩
theorem v5 (h:PE X e te):PO X (some e) (bi te):=by
 intro b s l H Q I f;rw[evalPart_some];refine Ct (h b s l H _ I f) λu n ⟨x,c,d,j,g⟩=>?_;obtain⟨i,rfl,q⟩:=g;obtain⟨t,rfl⟩:=j;exact⟨some i,c,d,.int i t,q⟩
def W2 (X:Cx)(r:V->Option Int->Option Int->Hp->VK->Prop):Prop :=
 ∀(b:De) (s:Et) (e:St) (H:Hp) (x:V) (v vl d:Ep) (lo hi:Option Int) (c:Eo) (Q:VK),Inv X b e H s->za x v->s.heap.IsSliceOf c vl d .none->IsPart vl lo->IsPart d hi->r x lo hi H Q ->
  ∃T id,typeLookup (.type T) "__getitem__"=LC (some<|.builtin id)/\s.TypeIs v T/\Es (Ez X.prog X.w) X.A (getItem v<|.ref c) (EP X b e Q) X.xe s
def tSl (r:V->Option Int->Option Int->Hp->VK->Prop)(te:TE)(tl th:TO):TE:=λb H Q=>te b H λx c=>tl b c λl d=>th b d λu e=>r x l u e Q
theorem uH (C:W2 X r)(he:PE X e te)(hl:PO X lo tl)(E:PO X hi th):PE X (.Subscript e (.Slice lo hi none p2) pos) (tSl r te tl th):=by
 intro d s f H Q I h;refine Subscript_<|Ct (he d s f H _ I h) λv N ⟨x,j,o,M,J⟩=>?_;refine wpAny_Slice<|Ct (hl d N f j _ o J) λvl O ⟨l,n,p,F,K⟩=>Ct (E d O f n _ p K) λg c ⟨u,i,t,G,L⟩=>?_;rw[evalPart_none];refine Zu ?_;have y:Inv X d f i { c with heap:=c.heap.push { cls:=.type "slice",data:=.fields #[vl,g,.none] } }:=t.kept (t':=c.toks) λb ob q=>Zp _ q;obtain⟨T,id,z,D,B⟩:=C d { c with heap:=c.heap.push { cls:=.type "slice",data:=.fields #[vl,g,.none] } } f i x v vl g l u c.heap.objs.size Q y M (Heap.IsSliceOf.new ..) F G L;show Es (Ez X.prog X.w) X.A (subscriptTail e (.Slice lo hi none p2) v<|.ref c.heap.objs.size) (EP X d f Q) X.xe { c with heap:=c.heap.push { cls:=.type "slice",data:=.fields #[vl,g,.none] } };exact tail_any (ops:=[.ref c.heap.objs.size,v]) D z B (by with_unfolding_all rfl)
def Gs (xs:Dj)(lo hi:Option Int):Dj:=(xs.drop<|HT.wI xs.length 0 lo).take<|HT.wI xs.length xs.length hi-HT.wI xs.length 0 lo
theorem XX (xs:Dj)(lo hi:Option Int):(Gs xs lo hi).length<=xs.length:=by
 unfold Gs;rw[ZS,Jo];lia
end
def W3 (n:Nat)(i:Int):Option Nat:=if 0<=i then(if i<n then some i.toNat else none) else if -(n:Int)<=i then some (i+n).toNat else none
def CO {b:Type}(xs:List b)(i:Int):Option b:=(W3 xs.length i).bind λj=>xs[j]?
theorem Sg {j:Nat}(h:W3 n i=some j):seqIndex? i n=some j/\j<n/\-(n:Int)<=i/\i<n:=by
 unfold W3 at h
 by_cases b:0<=i
 .rw[ZK b]at h
  by_cases h1:i<n
  .rw[ZK h1]at h;have e:i.toNat=j:=Option.some.inj h;exact⟨by rw[seqIndex_of b h1,e],by lia,by lia,h1⟩
  .rw[ZH h1]at h;cases h
 .rw[ZH b]at h
  by_cases h1:-(n:Int)<=i
  .rw[ZK h1]at h;have e:(i+n).toNat=j:=Option.some.inj h;exact⟨by rw[seqIndex_neg (by lia) h1,e],by lia,h1,by lia⟩
  .rw[ZH h1]at h;cases h
theorem CQ {b:Type}{xs:List b}{v:b}(h:CO xs i=some v):∃j,seqIndex? i xs.length=some j/\xs[j]?=some v/\j<xs.length/\-(xs.length:Int)<=i/\i<xs.length:=by
 unfold CO at h;cases e:W3 xs.length i with
 |none=>rw[e]at h;cases h
 |some j =>
  rw[e]at h;obtain⟨h1,c,d,h4⟩:=Sg e;exact⟨j,h1,h,c,d,h4⟩
theorem yA {b:Type}{xs:List b}{j:Nat}{v:b}(h:xs[j]?=some v):CO xs (j:Int)=some v:=by
 have c:j<xs.length:=(ZJ.mp h).1;have e:W3 xs.length (j:Int)=some j:=by
  unfold W3;rw[ZK<|by lia,ZK<|by lia];simp
 unfold CO;rwa[e]
def R0 (b:EN):Prop:=∀o i,subscripted b false o i=operate [o,i] (getItem o i)
def Cy (X:Cx)(r:R2):Prop :=
 ∀(value b:EN) (c:De) (s:Et) (d:St) (H:Hp) (x y:V) (v u:Ep) (Q:VK),Inv X c d H s->za x v->za y u->r x y H Q ->
  subscripted b false v u=operate [v,u] (getItem v u)->Es (Ez X.prog X.w) X.A (subscriptTail value b v u) (EP X c d Q) X.xe s
def TF (X:Cx)(id:String)(r:V->Dj->Hp->VK->Prop):Prop :=
 ∀(b:De) (s:Et) (e:St) (H:Hp) (x:V) (d:Dj) (v:Ep) (c:Db) (Q:VK),Inv X b e H s->za x v->zb d c->r x d H Q ->
  Es (Ez X.prog X.w) X.A (call (.builtin id) (v::c)) (EP X b e Q) X.xe s
section
variable {X:Cx}{a b:EN}{ta tb:TE}{pos:Pos}
theorem yB (f:Cy X r)(ha:PE X a ta)(hb:PE X b tb)(hs:R0 b:=by exact λ_ _=>rfl):PE X (.Subscript a b pos) (W7 r ta tb):=by
 intro c s l H Q I h;exact Subscript_<|TY ha hb I h λv u j x y d e g i q=>f a b c j l d x y v u Q e g i q<|hs _ _
inductive wU (K:Cq)(x y:V)(H:Hp)(Q:VK):Prop
 |mk (p:Eo) (xs:Dj) (i:Int) (v:V) (e:x=.ref p) (f:y=.int i) (h:yu K H p xs) (a:CO xs i=some v) (q:Q v H):wU K x y H Q
inductive wZ (K:Cq)(x y:V)(H:Hp)(Q:VK):Prop
 |mk (p:Eo) (xs:Dj) (i:Int) (v:V) (e:x=.ref p) (f:y=.int i) (h:wY K H p xs) (a:CO xs i=some v) (q:Q v H):wZ K x y H Q
inductive iI (x y:V)(H:Hp)(Q:VK):Prop
 |mk (z:Str) (i:Int) (c:Nat) (e:x=.str z) (f:y=.int i) (l:z.length<=sizeLine) (a:CO z.cps.toList i=some c) (q:Q (.str ⟨#[c]⟩) H):iI x y H Q
theorem yx:Cy X (wU X.K):=by
 intro value f g s A H x y v u Q I E F h o;obtain⟨p,M,i,z,rfl,rfl,D,he,q⟩:=h;cases E;obtain⟨t,rfl⟩:=F;obtain⟨c,r,d,L⟩:=I.list D;obtain⟨j,h1,B,J,h4,C⟩:=CQ he;obtain⟨w,l,e⟩:=r.get B;have hl:=r.length;have hn:=IJ;have fin:EP X g A Q w s:=⟨z,H,I,e,q⟩
 by_cases n:0<=i
 .have b:i.toNat=j:=by
   rw[seqIndex_of n C]at h1;exact Option.some.inj h1
  exact item_listR d.isList n (by lia) (by rw[b];simpa using l) fin o
 .have b:(i+(c.toArray.size:Int)).toNat=j:=by
   rw[seqIndex_neg (by lia) h4]at h1;rw[ZP,<-hl];exact Option.some.inj h1
  exact subscriptTail_builtinR (x:=w) d.isList.typeIs slot_list_getitem.lookup
   (wpAny_getItem_list_neg (Q:=λr G=>r=w/\EP X g A Q r G) d.isList (by lia) (by rw[ZP]<;>lia) (by lia) (by rw[b];simpa using l) ⟨rfl,fin⟩) o
theorem yw:Cy X (wZ X.K):=by
 intro value c d s f H x y v u Q I B C h o;obtain⟨p,J,i,z,rfl,rfl,n,he,q⟩:=h;cases B;obtain⟨t,rfl⟩:=C;obtain⟨A,r,e,G⟩:=I.tuple n;obtain⟨j,h1,l,E,h4,F⟩:=CQ he;obtain⟨w,g,b⟩:=r.get l;have hl:=r.length;have hn:=IJ;have fin:EP X d f Q w s:=⟨z,H,I,b,q⟩;exact subscriptTail_builtinR (x:=w) e.typeIs slot_tuple_getitem.lookup
  (getItem_tuple (j:=j) (Q:=λr D=>r=w/\EP X d f Q r D) e (by lia) (by lia) (by rwa[ZP,<-hl]) (by simpa using g) ⟨rfl,fin⟩) o
theorem CW:Cy X iI:=by
 intro value b p s B H x y v u Q I n o h l;obtain⟨z,i,c,rfl,rfl,w,he,q⟩:=h;obtain⟨t,rfl⟩:=n;obtain⟨A,rfl⟩:=o;obtain⟨j,h1,f,r,h4,g⟩:=CQ he;have hl:z.cps.toList.length=z.length:=by simp[Str.length]
 rw[hl]at h1 h4 g;have hn:=IJ;exact tail_any (Vo s z t) slot_str_getitem.lookup (getItem_str (c:=c) (by
  have d:decide (i < -(2 ^ 63:Int))=false:=ZE (by lia);have e:decide (i≥2 ^ 63)=false:=ZE (by lia);rw[d,e,Bool.or_false]) (by rw[h1];simpa using f) ⟨.str ⟨#[c]⟩,H,I.tok _,⟨_,rfl⟩,q⟩) l
theorem BW (lo b:Option Int)(n:Nat):(Ml lo b none n).1=((HT.wI n 0 lo:Nat):Int)/\(Ml lo b none n).2.1=((HT.wI n n b:Nat):Int)/\(Ml lo b none n).2.2=1:=by
 refine⟨?_,?_,rfl⟩
 .cases lo with
  |none=>simp[Ml,HT.wI]
  |some i =>
   simp only[Ml,HT.wI,Option.getD_none,show(1:Int)>0 by decide,Uj]
   by_cases h:i<0
   .simp only[h,Uj]<;>lia
   .simp only[h,Js]<;>lia
 .cases b with
  |none=>simp[Ml,HT.wI]
  |some i =>
   simp only[Ml,HT.wI,Option.getD_none,show(1:Int)>0 by decide,Uj]
   by_cases h:i<0
   .simp only[h,Uj]<;>lia
   .simp only[h,Js]<;>lia
theorem GC (b:Db)(lo c:Option Int):slicePick b.toArray lo c none=((b.drop<|HT.wI b.length 0 lo).take<|HT.wI b.length b.length c-HT.wI b.length 0 lo).toArray:=by
 obtain⟨h1,d,e⟩:=BW lo c b.toArray.size;unfold slicePick;rw[h1,d,e];simp only[sliceRange_one,pick_run,ZP]<;>rfl
def aX (K:Cq):V->Option Int->Option Int->Hp->VK->Prop:=λx d c H Q=>∃a b,x=.ref a/\yu K H a b/\∀p,H p=none->Q (.ref p) (upd H p<|.lst<|Gs b d c)
theorem lq:W2 X (aX X.K):=by
 intro w s A H x v vl z d e y Q I u i p t h;obtain⟨a,c,rfl,j,q⟩:=h;cases u;obtain⟨n,r,f,l⟩:=I.list j;have g:=r.length;refine⟨"list",_,slot_list_getitem.lookup,f.isList.typeIs,?_⟩;refine wpAny_getItem_list_slice f.isList i p t .none (by simp) ?_ (by rw[ZP]<;>lia);rw[GC,<-g];refine⟨.ref s.heap.objs.size,_,I.laid (t':=s.toks) (o:=.lst<|Gs c d e) (λb ob q=>Zp _ q) (Zt _) ?_,rfl,q _<|I.hok.fresh<|Zt _⟩;exact⟨Yk (XX c d e) l,_,0,(r.drop<|HT.wI c.length 0 d).take<|HT.wI c.length c.length e-HT.wI c.length 0 d,Zz _ rfl⟩
theorem zQ:yd X (.builtin "len") (λxs H Q=>∃p ys,xs=[.ref p]/\(yu X.K H p ys\/wY X.K H p ys)/\Q (.int ys.length) H):=by
 intro j s n H xs l Q I r h;obtain⟨p,ys,rfl,b,q⟩:=h;obtain⟨u,rfl,i⟩:=wW r;cases i;have hn:=IJ
 rcases b with b|b
 .obtain⟨d,f,e,g⟩:=I.list b;have c:=f.length;exact Calls.call_len_list e.isList (by simp only[ZP]<;>lia) ⟨.int ys.length,H,I.tok _,⟨s.toks+1,by rw[ZP,c]⟩,q⟩
 .obtain⟨d,f,e,g⟩:=I.tuple b;have c:=f.length;exact len_tuple e (by simp only[ZP]<;>lia) ⟨.int ys.length,H,I.tok _,⟨s.toks+1,by rw[ZP,c]⟩,q⟩
theorem jU:yd X (.builtin "len") (λxs H Q=>∃z,xs=[.str z]/\z.length<=sizeLine/\Q (.int z.length) H):=by
 intro b s e H xs d Q I r h;obtain⟨z,rfl,c,q⟩:=h;obtain⟨u,rfl,t,rfl⟩:=wW r;have hn:=IJ;exact len_str (by lia) ⟨.int z.length,H,I.tok _,⟨_,rfl⟩,q⟩
theorem yd.or (h:yd X f r)(h':yd X f r'):yd X f (λxs H Q=>r xs H Q\/r' xs H Q):=by
 intro b s e H xs d Q I c q
 rcases q with q|q
 .exact h b s e H xs d Q I c q
 .exact h' b s e H xs d Q I c q
theorem xP:yd X (.type "list") (λxs H Q=>∃p ys,xs=[.ref p]/\(yu X.K H p ys\/wY X.K H p ys)/\∀l,H l=none->Q (.ref l) (upd H l<|.lst ys)):=by
 intro x s A H xs B Q I r h;obtain⟨p,ys,rfl,g,q⟩:=h;obtain⟨u,rfl,z⟩:=wW r;cases z;have fin:∀(c:Db),zb ys c->ys.length<=sizeLine->∀(h':EI) (d:Nat),(∀b v,s.heap.get? b=some v->h'.get? b=some v) ->
   h'.get? s.heap.objs.size=some { cls:=.type "list",dict:=none,data:=.seq c.toArray d,slots:=#[] }->EP X x A Q (.ref s.heap.objs.size) { s with heap:=h' }:=λc f i h' d kp e =>
  ⟨.ref s.heap.objs.size,_,I.laid (t':=s.toks) kp (Zt _)<|show yq X.prog X.w _ h' _ (.lst ys) from⟨i,c,d,f,e⟩,rfl,q _<|I.hok.fresh<|Zt _⟩
 rcases g with g|g
 .obtain⟨c,f,t,i⟩:=I.list g;have y:=f.length;obtain⟨o,j,hc,n,hd⟩:=t.isList;exact call_list_seq p (.inl rfl) j hc hd (λh' d kp e=>fin c f i h' d kp e) (by simp only[ZP]<;>lia)
 .obtain⟨c,f,t,i⟩:=I.tuple g;have y:=f.length;obtain⟨o,j,hc,n,hd⟩:=t;exact call_list_seq p (.inr rfl) j hc hd (λh' d kp e=>fin c f i h' d kp e) (by simp only[ZP]<;>lia)
theorem jK:yd X (.type "tuple") (λxs H Q=>∃p ys,xs=[.ref p]/\((yu X.K H p ys/\∀l,H l=none->Q (.ref l) (upd H l<|.tup ys))\/(wY X.K H p ys/\Q (.ref p) H))):=by
 intro g s n H xs y Q I r h;obtain⟨p,ys,rfl,h⟩:=h;obtain⟨u,rfl,v⟩:=wW r;cases v
 rcases h with⟨hq,q⟩|⟨hq,q⟩
 .obtain⟨c,f,d,j⟩:=I.list hq;have x:=f.length;refine call_tuple_list d.isList (λh' kp=>?_) (by simp only[ZP]<;>lia);have i:Inv X g n H { s with heap:=h' }:=I.kept (t':=s.toks) kp;have t:Inv X g n (upd H h'.objs.size<|.tup ys) { s with heap:=h'.push { cls:=.type "tuple",data:=.seq c.toArray } } :=
   i.laid (t':=s.toks) (λb o e=>Zp _ e) (Zt _) (show yq X.prog X.w _ _ _ (.tup ys) from⟨j,c,f,TupAt.new _ _⟩)
  exact⟨.ref h'.objs.size,_,t,rfl,q _<|i.hok.fresh<|Zt _⟩
 .obtain⟨c,f,d,j⟩:=I.tuple hq;exact call_tuple_same d ⟨.ref p,H,I,rfl,q⟩
def cD (K:Cq)(T:String)(x:V)(H:Hp):Prop:=match x with
 | .str _=>T="str"
 | .int _=>T="int"
 | .ref p=>(T="list"/\∃c,yu K H p c)\/(T="tuple"/\∃o,K.lookup p=some o/\o.cls=.type "tuple"/\o.dict=none) \/
   (T="dict"/\((∃b,H p=some (.dK b))\/∃b,H p=some (.dT b)))\/(T="set"/\∃S n,H p=some (.set S n))
 |_=>False
theorem WX (I:Inv X Dp σ H s)(r:za x v)(ty:cD X.K T x H) :
  s.TypeIs v T/\∀a,v=.ref a->∃ob,s.heap.get? a=some ob/\ob.dict=none:=by
 cases x with
 |str z =>
  obtain⟨t,rfl⟩:=r;cases(show T="str" from ty);exact⟨Vo s z t,λ_ e=>nomatch e⟩
 |int i =>
  obtain⟨t,rfl⟩:=r;cases(show T="int" from ty);exact⟨typeIs_int s i t,λ_ e=>nomatch e⟩
 |ref p =>
  cases r
  rcases ty with⟨rfl,xs,hq⟩|⟨rfl,o,hk,hc,hd⟩|⟨rfl,hk⟩|⟨rfl,S,n,hk⟩
  .obtain⟨f,_,d,_⟩:=I.list hq;refine⟨d.isList.typeIs,λa e=>?_⟩;cases e;obtain⟨o,n,e,c,hd,_⟩:=d;exact⟨o,e,hd⟩
  .refine⟨⟨o,I.vh p o hk,hc⟩,λa e=>?_⟩;cases e;exact⟨o,I.vh _ o hk,hd⟩
  .have z:∃o,s.heap.get? p=some o/\o.ExactDict:=by
    rcases hk with⟨Dm,hk⟩|⟨Dm,hk⟩
    .obtain⟨_,_,_,_,o,_,_,e,ex,_⟩:=I.hok p _ hk;exact⟨o,e,ex⟩
    .obtain⟨_,_,_,_,o,_,_,e,ex,_⟩:=I.hok p _ hk;exact⟨o,e,ex⟩
   obtain⟨o,e,ex⟩:=z;refine⟨⟨o,e,ex.1⟩,λa b=>?_⟩;cases b;exact⟨o,e,ex.2.1⟩
  .obtain⟨o,_,_,_,e,ex,_⟩:=I.hok p _ hk;refine⟨⟨o,e,ex.1⟩,λa b=>?_⟩;cases b;exact⟨o,e,ex.2.1⟩
 |_=>exact EL ty
def tBM (K:Cq)(T:String)(r:V->Dj->Hp->VK->Prop)(e:TE)(t:TA):TE:=λc H Q=>e c H λx b=>cD K T x b/\t c b λf d=>r x f d Q
variable {o e:EN}{es:List EN}{to:TE}{t:TA}{name:Str}{Dr Ds:Pos}{T id:String}{r:V->Dj->Hp->VK->Prop}
theorem k6 {K:Cq}(B:PlainAttrs T)(slot:Slot T name id)(d:typeOf (.builtin id)=LC (.type "method_descriptor"))(hm:TF X id r)(A:PE X o to)(ha:PA X (e::es) t)
  (n:LD o name X.env (Lc o X.env)=Lc o X.env:=by rfl)
  (b:((Li Ds<|EG (e::es) X.env).all (λx=>!x.1)&&(MA Ds<|LP [] X.env).all (λx=>x.1.isSome) && decide ((e::es).length+([]:List Keyword).length+(if([]:List Keyword).isEmpty then 0 else 1)<30))=true:=by rfl)
  (l:(Dr.endLine==Ds.line)=true:=by rfl) (hs:EG (e::es) X.env=(false,Lc e X.env)::EG es X.env:=by rfl) (p:(Li Ds<|EG es X.env).any (·.1)=false:=by rfl) (z:X.K=K:=by rfl) :
  PE X (.Call (.Attribute o name Dr) (e::es) [] Ds) (tBM K T r to t):=by
 subst z;intro c s f H Q I h;refine wpAny_Call_method_late n b l rfl<|Ct (A c s f H _ I h) λv F q9=>?_;obtain⟨x,q,g,j,ty,C⟩:=q9;obtain⟨h1,y⟩:=WX g j ty;refine⟨T,id,B,slot,d,h1,y,?_⟩;have i:=ha Ds c F f q _ g C;rw[hs]at i ⊢;refine Lj (by show(false||(Li Ds<|EG es X.env).any (·.1))=false;rw[p]<;>rfl) (Lx ?_);exact Ct i λJ G ⟨L,u,w,E,D⟩=>hm c G f u x L v J Q w j E D
end
def MtM (X:Cx)(id:String)(r:V->Dj->Hp->VK->Prop):Prop :=
 ∀(b:De) (s:Et) (e:St) (H:Hp) (x:V) (d:Dj) (v:Ep) (c:Db) (Q:VK),Inv X b e H s->za x v->zb d c->r x d H Q ->
  Es (Ez X.prog X.w) X.A (call (.builtin id) (v::c)) (EP X b e Q) X.xe s
theorem zb.one:∀{x:V} {us:Db},zb [x] us->∃u,us=[u]/\za x u
 |_,_,.cons r .nil=>⟨_,rfl,r⟩
section
variable {X:Cx}{Dp:De}{σ:St}{H:Hp}{s:Et}{l b:Eo}{xs ys zs:Dj}
theorem Inv.ir {b Eh:Db}{n:Nat}{f:Array Ep->Array Ep}{t':Nat}(I:Inv X Dp σ H s)(c:H l=some (.lst xs))
  (e:s.heap.get? l=some { cls:=.type "list",data:=.seq b.toArray n }) (d:f b.toArray=Eh.toArray) (hv:zb ys Eh) (hz:ys.length<=sizeLine) :
  Inv X Dp σ (upd H l<|.lst ys) { s with heap:=s.heap.update l<|E2 f,toks:=t' }:=by
 have q:=PySem.IsL.update e f;rw[d]at q;refine I.write (x:=l) (e:=l) (by rw[c];exact trivial) (.inl rfl) (λi u hb g=>(ZX s.heap (E2 f)<|EC hb).trans g) ⟨_,q⟩ ?_;exact⟨hz,Eh,_,hv,q⟩
theorem Inv.lJ {t':Nat}(I:Inv X Dp σ H s)(hv:zb ys its)(hz:ys.length<=sizeLine) :
  Inv X Dp σ (upd H s.heap.objs.size<|.lst ys) { s with heap:=s.heap.push { cls:=.type "list",data:=.seq its.toArray },toks:=t' } :=
 I.laid (λ_ _ q=>Zp _ q) (Zt _) ⟨hz,its,0,hv,Zz _ rfl⟩
theorem Inv.fresh (I:Inv X Dp σ H s):H s.heap.objs.size=none:=I.hok.fresh<|Zt _
theorem Inv.jf (I:Inv X Dp σ H s)(b:H l=some (.lst xs)):xs.length<=sizeLine/\∃(its:Db) (n:Nat),zb xs its/\xs.length=its.length/\s.heap.get? l=some { cls:=.type "list",data:=.seq its.toArray n }:=by
 obtain⟨z,its,n,r,e⟩:=I.hok l _ b;exact⟨z,its,n,r,r.length,e⟩
end
section
variable {X:Cx}
inductive m7 (x:V)(vs:Dj)(H:Hp)(Q:VK):Prop
 |mk (l:Eo) (xs:Dj) (y:V) (e:x=.ref l) (f:vs=[y]) (h:H l=some (.lst xs)) (z:xs.length<sizeLine) (q:Q .non<|upd H l<|.lst<|xs++[y]):m7 x vs H Q
theorem jB:MtM X "list.append" m7:=by
 intro i s w H x p v o Q I g f h;obtain⟨l,t,y,rfl,rfl,c,j,q⟩:=h;cases g;obtain⟨u,rfl,d⟩:=f.one;obtain⟨z,b,n,r,hl,e⟩:=I.jf c;refine Ua F.slot_list_append ⟨_,e,rfl⟩ F.entry_list_append (F.args_list_append_2 _ _) (PySem.list_append l b.toArray n u (by rw[ZP];lia)) ⟨e,?_⟩;refine⟨.non,_,I.ir (Eh:=b++[u]) c e (by simp) (r.append<|.cons d .nil) ?_,rfl,q⟩;rw[ZB,Y8];lia
def aQ:R2:=λx y H Q=>∃l b c d,x=.ref l/\y=.ref b/\H l=some (.lst c)/\H b=some (.lst d)/\c.length+d.length<=sizeLine/\∀p,H p=none->Q (.ref p) (upd H p<|.lst<|c++d)
theorem XB:CH X (Mz .Add) aQ:=by
 intro A s F H x y v u Q I t w h;obtain⟨l,b,C,E,rfl,rfl,j,i,B,q⟩:=h;cases t;cases w;obtain⟨z,d,n,r,hl,e⟩:=I.jf j;obtain⟨D,c,n2,p,o,f⟩:=I.jf i;refine PySem.P.add_list e f ?_ (by rw[ZP,ZP];lia);have g:d.toArray++c.toArray=(d++c).toArray:=by simp
 rw[g];exact⟨.ref _,_,I.lJ (t':=s.toks) (r.append p) (by rw[ZB];lia),rfl,q _ I.fresh⟩
end
section
variable {prog:Er}{w:Eu}{A:EJ}{E:Ep->Dh}{s:Et}
set_option maxRecDepth 100000 in
end
section
variable {κ:Type} [DecidableEq κ]
def UE (Dm:List<|κ×V)(k:κ):Option V:=(Dm.find? λkv=>decide (kv.1=k)).map (·.2)
def yt (Dm:List<|κ×V)(k:κ)(v:V):List (κ×V) :=
 if(Dm.any λkv=>decide (kv.1=k))=true then Dm.map (λkv=>if kv.1=k then(kv.1,v) else kv) else Dm++[(k,v)]
def Gv (Dm:List<|κ×V)(k:κ):List (κ×V):=Dm.filter λkv=>decide (kv.1≠k)
theorem xK {p:κ×V}{r:List (κ×V)}{k:κ}(e:p.1=k):UE (p::r) k=some p.2:=by simp[UE,YN,e]
theorem xI {p:κ×V}{r:List (κ×V)}{k:κ}(e:¬p.1=k):UE (p::r) k=UE r k:=by simp[UE,YN,e]
theorem qW (k:κ):∀Dm:List<|κ×V,(Dm.any λkv=>decide (kv.1=k))=(UE Dm k).isSome
 |[]=>rfl
 |p::r=>by
  rw[List.any_cons]
  by_cases e:p.1=k
  .simp only[xK e,Zq e,Bool.true_or,Option.isSome_some]
  .rw[xI e,ZE e,Um];exact qW k r
theorem Kh (k j:κ)(y:V):∀Dm:List<|κ×V,UE (Dm.map λkv=>if kv.1=k then(kv.1,y) else kv) j=(UE Dm j).map λx=>if j=k then y else x
 |[]=>rfl
 |p::r=>by
  have b:=Kh k j y r;rw[ZL]
  by_cases h:p.1=k
  .rw[ZK h]
   by_cases e:p.1=j
   .rw[xK (p:=(p.1,y)) e,xK e,YO,ZK<|e.symm.trans h]
   .rw[xI (p:=(p.1,y)) e,xI e,b]
  .rw[ZH h]
   by_cases e:p.1=j
   .rw[xK (p:=p) e,xK e,YO,ZH<|λz=>h<|e.trans z]
   .rw[xI (p:=p) e,xI e,b]
theorem GY (k j:κ)(y:V):∀Dm:List<|κ×V,UE Dm k=none->UE (Dm++[(k,y)]) j=if j=k then some y else UE Dm j
 |[],_=>by
  by_cases e:k=j
  .rw[ZK e.symm];exact xK (p:=(k,y)) e
  .rw[ZH<|λz=>e z.symm];exact xI (p:=(k,y)) e
 |p::r,hn=>by
  rw[List.cons_append];have hk:¬p.1=k:=λz=>by rw[xK z]at hn;cases hn
  rw[xI hk]at hn;have b:=GY k j y r hn
  by_cases e:p.1=j
  .rw[xK e,xK e,ZH<|λz=>hk<|e.trans z]
  .rw[xI e,xI e,b]
theorem RS (Dm:List<|κ×V)(k j:κ)(y:V):UE (yt Dm k y) j=if j=k then some y else UE Dm j:=by
 unfold yt
 by_cases a:(Dm.any λkv=>decide (kv.1=k))=true
 .rw[ZK a,Kh];rw[qW]at a
  by_cases e:j=k
  .obtain⟨x,b⟩:=Z6.mp a;rw[ZK e,e,b,YO,ZK rfl]
  .rw[ZH e];cases UE Dm j with
   |none=>rfl
   |some x=>rw[YO,ZH e]
 .rw[ZH a];refine GY k j y Dm ?_;rw[qW]at a;cases q:UE Dm k with
  |none=>rfl
  |some x=>rw[q]at a;exact(a rfl).elim
theorem xZ (Dm:List<|κ×V)(k:κ)(v:V):(yt Dm k v).length<=Dm.length+1:=by
 unfold yt
 split
 .rw[Zk];lia
 .rw[ZB,ZF,Y7];lia
theorem Rs {Dm:List (κ×V)}{k:κ}(v:V)(h:UE Dm k=none):yt Dm k v=Dm++[(k,v)]:=by
 unfold yt;rw[qW,h];exact ZH (by decide)
theorem vz.tE (r:vz o u):o.isSome=u.isSome:=by
 cases o with
 |none=>cases u with
  |none=>rfl
  |some _=>exact(show False from r).elim
 |some _=>cases u with
  |none=>exact(show False from r).elim
  |some _=>rfl
theorem vz.getD (r:vz o u)(rd:za d d'):za (o.getD d) (u.getD d'):=by
 cases o with
 |none=>cases u with
  |none=>exact rd
  |some _=>exact(show False from r).elim
 |some _=>cases u with
  |none=>exact(show False from r).elim
  |some _=>exact r
theorem KV.val {Dm:List (κ×V)}{vs:List (κ×Ep)}(r:KV Dm vs)(k:κ):vz (UE Dm k) (Me vs k):=by
 unfold KV at r
 induction r with
 |nil=>exact Lg
 | @cons p q ps qs h t ih =>
  obtain⟨h1,d⟩:=h
  by_cases e:p.1=k
  .have c:q.1=k:=h1.symm.trans e;have b:Me (q::qs) k=some q.2:=by simp[Me,YN,c]
   rwa[xK e,b]
  .have c:¬q.1=k:=λz=>e<|h1.trans z;have b:Me (q::qs) k=Me qs k:=by simp[Me,YN,c]
   rwa[xI e,b]
theorem KV.any {Dm:List (κ×V)}{vs:List (κ×Ep)}(r:KV Dm vs)(k:κ):(Dm.any λkv=>decide (kv.1=k))=vs.any λkv=>decide (kv.1=k):=by
 unfold KV at r
 induction r with
 |nil=>rfl
 |cons h t ih=>rw[List.any_cons,List.any_cons,ih,h.1]
theorem KV.repl {Dm:List (κ×V)}{vs:List (κ×Ep)}(r:KV Dm vs)(k:κ){y:V}{u:Ep}(c:za y u) :
  KV (Dm.map λkv=>if kv.1=k then(kv.1,y) else kv) (vs.map λkv=>if kv.1=k then(kv.1,u) else kv):=by
 unfold KV at r ⊢
 induction r with
 |nil=>exact .nil
 | @cons p q ps qs h t ih =>
  rw[ZL,ZL];refine .cons ?_ ih;obtain⟨h1,b⟩:=h
  by_cases e:p.1=k
  .rw[ZK e,ZK<|h1.symm.trans e];exact⟨h1,c⟩
  .rw[ZH e,ZH<|λz=>e<|h1.trans z];exact⟨h1,b⟩
theorem KV.put {Dm:List (κ×V)}{vs:List (κ×Ep)}(r:KV Dm vs)(k:κ){y:V}{u:Ep}(b:za y u):KV (yt Dm k y) (stored vs k u):=by
 unfold yt stored;rw[r.any k]
 by_cases e:(vs.any λkv=>decide (kv.1=k))=true
 .rw[ZK e,ZK e];exact r.repl k b
 .rw[ZH e,ZH e];exact Paired.snoc r ⟨rfl,b⟩
theorem KV.drop {Dm:List (κ×V)}{vs:List (κ×Ep)}(r:KV Dm vs)(k:κ):KV (Gv Dm k) (without vs k):=by
 unfold KV at r ⊢;unfold Gv without
 induction r with
 |nil=>exact .nil
 | @cons p q ps qs h t ih =>
  obtain⟨h1,d⟩:=h;rw[JI,JI]
  by_cases e:p.1=k
  .have a:¬decide (p.1≠k)=true:=by simp[e]
   have b:¬decide (q.1≠k)=true:=by simp[h1.symm.trans e]
   rwa[ZH a,ZH b]
  .have c:¬q.1=k:=λz=>e<|h1.trans z;have a:decide (p.1≠k)=true:=by simp[e]
   have b:decide (q.1≠k)=true:=by simp[c]
   rw[ZK a,ZK b];exact .cons ⟨h1,d⟩ ih
theorem KV.length {Dm:List (κ×V)}{vs:List (κ×Ep)}(r:KV Dm vs):Dm.length=vs.length:=Paired.length r
theorem O8 (Dm:List<|κ×V)(k:κ):(Gv Dm k).length<=Dm.length:=List.length_filter_le _ _
end
theorem v8 (r:za (kV k) u):(z5 P w).is k u=true:=by
 cases k with
 |inl i=>obtain⟨t,e⟩:=(show∃t,u=Mt i t from r);subst e;exact F7 P w i t
 |inr x=>obtain⟨t,e⟩:=(show∃t,u=L8 x t from r);subst e;exact F8 P w x t
theorem Bv:∀{ks:List Key} {us:Db},zb (ks.map kV) us->ItemsAre (z5 P w) ks us
 |[],_,r=>by rw[VE]at r;cases r;exact .nil
 |k::ks,_,r=>by
  rw[ZL]at r;cases r with
  |cons h t=>exact .cons (v8 h)<|Bv t
abbrev KT (H:Hp):List (List Key×V)->List (List Key×Eo×Ep)->Prop:=Lq λp q=>p.1=q.1/\H q.2.1=some (.tup<|p.1.map kV)/\za p.2 q.2.2
theorem KT.val (r:KT H Dm xs)(k:List Key):vz (UE Dm k) ((atKey xs k).map (·.2)):=by
 induction r with
 |nil=>exact Lg
 | @cons p q ps qs h t ih =>
  obtain⟨h1,_,d⟩:=h
  by_cases e:p.1=k
  .have c:q.1=k:=h1.symm.trans e;have b:atKey (q::qs) k=some q.2:=by simp[atKey,YN,c]
   rwa[xK e,b]
  .have c:¬q.1=k:=λz=>e<|h1.trans z;have b:atKey (q::qs) k=atKey qs k:=by simp[atKey,YN,c]
   rwa[xI e,b]
theorem KT.repl (r:KT H Dm xs)(k:List Key){y:V}{u:Ep}(d:za y u) :
  KT H (Dm.map λkv=>if kv.1=k then(kv.1,y) else kv) (xs.map<|putAt k u):=by
 induction r with
 |nil=>exact .nil
 | @cons p q ps qs h t ih =>
  rw[ZL,ZL];refine .cons ?_ ih;obtain⟨h1,b,c⟩:=h;unfold putAt
  by_cases e:p.1=k
  .rw[ZK e,ZK<|h1.symm.trans e];exact⟨h1,b,d⟩
  .rw[ZH e,ZH<|λz=>e<|h1.trans z];exact⟨h1,b,c⟩
theorem KT.put (r:KT H Dm xs)(k:List Key){b:Eo}{y:V}{u:Ep}(hb:H b=some (.tup<|k.map kV))(c:za y u) :
  KT H (yt Dm k y) (storedH xs k b u):=by
 have e:(Dm.any λkv=>decide (kv.1=k))=(atKey xs k).isSome:=by
  rw[qW,(r.val k).tE,VG]
 unfold yt storedH;rw[e]
 by_cases q:(atKey xs k).isSome=true
 .rw[ZK q,ZK q];exact r.repl k c
 .rw[ZH q,ZH q];exact Paired.snoc r ⟨rfl,hb,c⟩
theorem KT.keeps {H':Hp}(r:KT H Dm xs)(c:∀b ys,H b=some (.tup ys)->H' b=some (.tup ys)):KT H' Dm xs :=
 Paired.jr r λ_ _ z=>⟨z.1,c _ _ z.2.1,z.2.2⟩
section
variable {P:Er}{w:Eu}{H:Hp}{h:EI}{a:Eo}
theorem Tu (ok:tZ P w H h)(e:Rd H a u):yq P w H h a u:=e.ok ok
theorem v9 {Dm:Dl}(ok:tZ P w H h)(e:Rd H a<|.dK Dm):Dm.length<=sizeLine/\(a==E3)=false/\∃vs,KV Dm vs/\h.DictOf (z5 P w) a vs :=
 show yq P w H h a (.dK Dm) from Tu ok e
theorem FE {Dm:Dl}(ok:tZ P w H h)(e:H a=some (.dK Dm)):Dm.length<=sizeLine/\(a==E3)=false/\∃vs,KV Dm vs/\h.DictOf (z5 P w) a vs:=v9 ok<|.inl e
theorem Ik {ks:List Key}(ok:tZ P w H h)(e:H a=some (.tup<|ks.map kV)):(tupleKind<|z5 P w).is h ks a:=by
 obtain⟨_,b,r,o,h1,c,n,d,_⟩:=(show yq P w H h a (.tup<|ks.map kV) from ok a _ e);exact⟨o,b.toArray,n,h1,c,d,by simpa using Bv r⟩
theorem Bs {Dm:List (List Key×V)}(ok:tZ P w H h)(e:Rd H a<|.dT Dm):Dm.length<=sizeLine/\(a==E3)=false /\
  ∃xs,KT H Dm xs/\h.DictOfH (tupleKind<|z5 P w) a xs:=by
 obtain⟨z,y,xs,r,o,d,c,h1,f,g,h4,i⟩:=(show yq P w H h a (.dT Dm) from Tu ok e);refine⟨z,y,xs,r,o,d,c,h1,f,g,h4,λx b=>?_,i⟩;have all:∀{l:List (List Key×V)} {m:List (List Key×Eo×Ep)},KT H l m->∀x∈m,(tupleKind<|z5 P w).is h x.1 x.2.1:=by
  intro l m q
  induction q with
  |nil=>intro x b;exact nomatch b
  | @cons p q ps qs hq t ih =>
   intro x b
   rcases Zo.mp b with e|b
   .subst e;exact Ik ok (by rw[<-hq.1];exact hq.2.1)
   .exact ih x b
 exact all r x b
theorem aj {Dm:List (List Key×V)}(ok:tZ P w H h)(e:H a=some (.dT Dm)):Dm.length<=sizeLine/\(a==E3)=false /\
  ∃xs,KT H Dm xs/\h.DictOfH (tupleKind<|z5 P w) a xs:=Bs ok<|.inl e
end
def ux (H:Hp)(a:Eo)(y:V)(r:Option V):Prop :=
 (∃c k,Rd H a (.dK c)/\y=kV k/\r=UE c k)\/∃c k b,Rd H a (.dT c)/\y=.ref b/\H b=some (.tup<|k.map kV)/\r=UE c k
def tD (H:Hp)(a:Eo)(y v:V)(H':Hp):Prop :=
 (∃c k,H a=some (.dK c)/\y=kV k/\c.length<sizeLine/\H'=upd H a (.dK<|yt c k v)) \/
 ∃c k b,H a=some (.dT c)/\y=.ref b/\H b=some (.tup<|k.map kV)/\c.length<sizeLine/\H'=upd H a (.dT<|yt c k v)
theorem ux.k {H:Hp}{a:Eo}{Dm:Dl}{k:Key}(e:H a=some (.dK Dm)):ux H a (kV k) (UE Dm k):=.inl ⟨Dm,k,.inl e,rfl,rfl⟩
theorem tD.k {H:Hp}{a:Eo}{Dm:Dl}{k:Key}(e:H a=some (.dK Dm))(hl:Dm.length<sizeLine):tD H a (kV k) v (upd H a<|.dK<|yt Dm k v):=.inl ⟨Dm,k,e,rfl,hl,rfl⟩
section
variable {X:Cx}{Dp:De}{σ:St}{H:Hp}{s:Et}{a:Eo}{y v:V}{u r:Ep}{o:Option V}{A:EJ}{E:Ep->Dh}
theorem Inv.big (I:Inv X Dp σ H s):E3<s.heap.objs.size:=by
 have h:EA<s.heap.objs.size:=(I.mod.glob.keeps I.bk).lt;exact Nat.lt_trans (by decide) h
theorem N3 {Q:Ep->Dh}(r:A.units+1<E8)(I:Inv X Dp σ H s)(g:ux H a y<|some v)(n:za y u)(h:∀w' s',Inv X Dp σ H s'->za v w'->Q w' s') :
  Es (Ez X.prog X.w) A (getItem (.ref a) u) Q E s:=by
 rcases g with⟨Dm,k,e,ey,l⟩|⟨Dm,k,b,e,ey,eb,l⟩
 .subst ey;obtain⟨z,hd,t,c,f⟩:=v9 I.hok e;obtain⟨w',j,d⟩:=vz.some_of (v:=v) (o:=Me t k) (by rw[l];exact c.val k);exact wpAny_getItem_of (v8 n) f.mapOf j<|h w' _ (I.tok _) d
 .subst ey;cases(show u=EB b from n);obtain⟨z,hd,x,c,f⟩:=Bs I.hok e;obtain⟨w',j,d⟩:=vz.some_of (v:=v) (o:=(atKey x k).map (·.2)) (by rw[l];exact c.val k);obtain⟨p,q,i⟩:=Z0.mp j;refine wpAny_getItem_heap (Vp r) (Ik I.hok eb) f q ?_;rw[i];exact h w' _ (I.tok _) d
theorem bJ {Q:Ep->Dh}(i:A.units+1<E8)(I:Inv X Dp σ H s)(g:ux H a y o)(f:za y u)(h:∀s',Inv X Dp σ H s'->Q (.bool o.isSome) s') :
  Es (Ez X.prog X.w) A (ES .In u<|.ref a) Q E s:=by
 rcases g with⟨Dm,k,e,ey,l⟩|⟨Dm,k,b,e,ey,eb,l⟩
 .subst ey;obtain⟨z,hd,j,c,d⟩:=v9 I.hok e;refine wpAny_in_of (v8 f) hd d.mapOf ?_;rw[<-(c.val k).tE,<-l];exact h _<|I.tok _
 .subst ey;cases(show u=EB b from f);obtain⟨z,hd,n,c,d⟩:=Bs I.hok e;refine wpAny_in_heap (Vp i) (Ik I.hok eb) hd d ?_;have q:=(c.val k).tE;rw[VG]at q;rw[<-q,<-l];exact h _<|I.tok _
theorem uX {h':EI}{t':Nat}(I:Inv X Dp σ H s)(c:TH<|H a)(hs:Lp a s.heap h')(he:∃q,h'.get? a=some q)(new:yq X.prog X.w (upd H a ob) h' a ob) :
  Inv X Dp σ (upd H a ob) { s with heap:=h',toks:=t' } :=
 I.write (x:=a) (e:=a) c (.inl rfl) (λb q hb z=>(hs.2 b hb).trans z) he new
theorem Ir {H':Hp}{h':EI}{Dm:Dl}(z:Dm.length<=sizeLine)(hd:(a==E3)=false)(b:KV Dm vs)(dd:h'.DictOf (z5 P w) a vs) :
  yq P w H' h' a (.dK Dm):=⟨z,hd,vs,b,dd⟩
theorem N4 {Q:Unit->Dh}(J:A.units+1<E8)(I:Inv X Dp σ H s)(g:tD H a y v H')(t:za y u)(p:za v r)(h:∀s',Inv X Dp σ H' s'->Q () s') :
  Es (Ez X.prog X.w) A (setItem (.ref a) u r) Q E s:=by
 rcases g with⟨Dm,k,e,ey,l,eH⟩|⟨Dm,k,b,e,ey,eb,l,eH⟩
 .subst ey eH;obtain⟨z,hd,K,d,j⟩:=FE I.hok e;have o:K.length<=sizeLine:=by rwa[<-d.length]
  have hl:(yt Dm k v).length<=sizeLine:=by have:=xZ Dm k v;lia
  refine wpAny_setItem_pairs (hsz:=o) (v8 t) j λh' f n=>h _ ?_;have he:∃q,h'.get? a=some q:=let ⟨q,_,_,i,_⟩:=f;⟨q,i⟩;exact uX I (by rw[e];exact Lg) n he<|Ir hl hd (d.put k p) f
 .subst ey eH;cases(show u=EB b from t);obtain⟨z,hd,L,d,j⟩:=aj I.hok e;have o:L.length<=sizeLine:=by rwa[<-Paired.length d]
  have hl:(yt Dm k v).length<=sizeLine:=by have:=xZ Dm k v;lia
  refine wpAny_setItem_heap (hsz:=o) (Vp J) (Ik I.hok eb) j λh' f n=>h _ ?_;obtain⟨q,C,B,i,D,F,h4,_,G⟩:=f;refine uX I (by rw[e];exact Lg) n ⟨q,i⟩ ⟨hl,hd,_,(d.put k eb p).keeps λc M x=>?_,q,C,B,i,D,F,h4,G⟩;rwa[zI<|aG x e<|λz=>nomatch z]
end
section
variable {X:Cx}{Dp:De}{σ:St}{H:Hp}{s:Et}{a:Eo}{Dm:Dl}{k:Key}{u:Ep}{A:EJ}{E:Ep->Dh}
theorem ag {v:V}{more:Db}{Q:Ep->Dh}(I:Inv X Dp σ H s)(e:H a=some (.dK Dm))(f:za (kV k) u)(l:UE Dm k=some v)(hm:more=[]\/∃x,more=[x])
  (h:∀w' s',Inv X Dp σ (upd H a<|.dK<|Gv Dm k) s'->za v w'->Q w' s'):Es (Ez X.prog X.w) A (call (.builtin "dict.pop") (.ref a::u::more)) Q E s:=by
 obtain⟨z,hd,j,b,g⟩:=FE I.hok e;obtain⟨w',r,d⟩:=vz.some_of (v:=v) (o:=Me j k) (by rw[<-l];exact b.val k);have n:(keyPart u).isSome=true:=by
  cases k with
  |inl i=>obtain⟨t,q⟩:=(show∃t,u=Mt i t from f);subst q;rfl
  |inr x=>obtain⟨t,q⟩:=(show∃t,u=L8 x t from f);subst q;rfl
 have ha:argsOk "dict.pop" ⟨.ref a::u::more,[]⟩:=by
  rcases hm with q|⟨x,q⟩
  .subst q;exact PySem.F.args_dict_pop_2 _ _
  .subst q;exact PySem.F.args_dict_pop_3 _ _ _
 refine JR VO g.typeIs PySem.F.entry_dict_pop ha (meets_dict_pop_there (z5 X.prog X.w) a (v8 f) more hm n)
  ⟨j,w',g,by rw[<-b.length];exact z,r,λh' c p=>h w' _ ?_ d⟩
 have he:∃q,h'.get? a=some q:=let ⟨q,_,_,hq,_⟩:=c;⟨q,hq⟩;exact uX I (by rw[e];exact Lg) p he<|Ir (Yk (O8 Dm k) z) hd (b.drop k) c
theorem T8 {r:Ep}{Q:Ep->Dh}(I:Inv X Dp σ H s)(e:H a=some (.dK Dm))(c:za (kV k) u)(l:UE Dm k=none)(h:∀s',Inv X Dp σ H s'->Q r s') :
  Es (Ez X.prog X.w) A (call (.builtin "dict.pop") [.ref a,u,r]) Q E s:=by
 obtain⟨z,hd,f,b,d⟩:=FE I.hok e;have hn:Me f k=none:=vz.none_of (by rw[<-l];exact b.val k);have g:(keyPart u).isSome=true:=by
  cases k with
  |inl i=>obtain⟨t,q⟩:=(show∃t,u=Mt i t from c);subst q;rfl
  |inr x=>obtain⟨t,q⟩:=(show∃t,u=L8 x t from c);subst q;rfl
 exact JR VO d.typeIs PySem.F.entry_dict_pop (PySem.F.args_dict_pop_3 _ _ _) (meets_dict_pop_default (z5 X.prog X.w) a (v8 c) hd g r) ⟨f,d,hn,h _<|I.tok _⟩
end
def RZ (i:EN):Prop:=∀c b,subscripted i false c b=operate [c,b] (getItem c b)
theorem BD {prog:Er}{w:Eu}{A:EJ}{E:Ep->Dh}{s:Et}{env:Env}{value b:EN}{pos:Pos}{T id:String}{Q:Ep->Dh}
  (hl:typeLookup (.type T) "__getitem__"=LC (some<|.builtin id)) (hs:RZ b)
  (h:Es (Ez prog w) A (Lc value env) (λo s₁=>Es (Ez prog w) A (Lc b env) (λi s₂=>s₂.TypeIs o T/\Es (Ez prog w) A (getItem o i) Q E s₂) E s₁) E s) :
  Es (Ez prog w) A (Lc (.Subscript value b pos) env) Q E s:=by
 refine Subscript_<|Yy h (λo s₁ e=>Yy e (λi s₂ c=>?_) λ_ _ x=>x) λ_ _ x=>x;obtain⟨g,c⟩:=c;unfold subscriptTail;refine Zm ?_;rw[getitemInPython_of_ne g.not_modules];refine Zm<|JV g hl ?_;have fin:Es (Ez prog w) A (subscripted b false o i) (λr d=>Es (Ez prog w) A (letTemporaryGo value o r>>=λ_=>LC r) Q E d) E s₂:=by
  rw[hs o i];exact wpAny_operating<|Yy c (λr d f=>Zm<|wpAny_letTemporaryGo<|Zu f) λ_ _ x=>x
 first
  |exact Zu (Zm fin)
  |exact Zm (Zu<|Zm fin)
  |exact Zm fin
theorem FA (I:Inv X Dp σ H s)(g:ux H a y o):s.TypeIs (.ref a) "dict":=by
 rcases g with⟨Dm,k,e,_,_⟩|⟨Dm,k,b,e,_,_,_⟩
 .obtain⟨_,_,d,_,c⟩:=v9 I.hok e;exact c.typeIs
 .obtain⟨_,_,f,_,c⟩:=Bs I.hok e;exact c.typeIs
inductive DgR (x y:V)(H:Hp)(Q:VK):Prop
 |mk (a:Eo) (v:V) (e:x=.ref a) (g:ux H a y<|some v) (q:Q v H):DgR x y H Q
def Ty (e ty:TE):TE:=λb H Q=>e b H λx c=>ty b c λy d=>DgR x y d Q
def Tv (g ty i:TE):TS:=λD b H=>i b H λv d=>g b d λx e=>ty b e λy f=>∃a c,x=.ref a/\tD f a y v c/\D.nx b c
section
variable {X:Cx}{o i e value:EN}{pos DS Ef:Pos}{td ty tv:TE}
theorem zM (r:X.A.units+1<E8)(q:PE X o td)(p:PE X i ty)(hs:RZ i):PE X (.Subscript o i pos) (Ty td ty):=by
 intro c s e H Q I h;refine BD PySem.F.slot_dict_getitem.lookup hs<|Ct (q c s e H _ I h) λu C ⟨x,f,l,z,t⟩=>Ct (p c C e f _ l t) λD E q9=>?_;obtain⟨y,j,d,B,a,v,ex,g,w⟩:=q9;subst ex;obtain rfl:u=EB a:=z;exact⟨FA d g,N3 r d g B λJ G n b=>⟨v,j,n,b,w⟩⟩
theorem yZ (w:X.A.units+1<E8)(t:PE X o td)(q:PE X i ty)(hv:PE X value tv)(hs:Mi value (some<|.Subscript o i DS) pos.line X.env=LC false) :
  PS X (.Assign [.Subscript o i DS] value pos) (Tv td ty tv):=by
 intro c s b H D I h;refine wpAny_Assign_Subscript (Ct (hv c s b H _ I h) λr J ⟨v,d,j,E,z⟩=>Ct (t c J b d _ j z) λu K ⟨x,e,l,F,B⟩=>Ct (q c K b e _ l B) λM N q9=>?_) hs;obtain⟨y,L,n,G,a,f,ex,g,C⟩:=q9;subst ex;obtain rfl:u=EB a:=F;exact N4 w n g G E λO p=>⟨b,f,p,C⟩
end
theorem FD (h:EI)(hb:E3<h.objs.size):yq P w H (h.push { cls:=.type "dict",data:=.dict #[] }) h.objs.size (.dK []) :=
 ⟨Yb _,YT.mpr<|EC<|ZO hb,[],.nil,Heap.DictOf.new h⟩
def WO:TE:=λ_ H Q=>∀p,H p=none->Q (.ref p) (upd H p<|.dK [])
section
variable {X:Cx}{pos:Pos}
theorem qY:PE X (.Dict [] [] pos) WO:=λb s c H Q I h =>
 wpAny_Dict_empty ⟨.ref s.heap.objs.size,_,I.laid (a:=s.heap.objs.size) (o:=.dK []) (t':=s.toks) (λ_ _ q=>Zp _ q) (Zt _)<|FD s.heap I.big,rfl,h _<|I.hok.fresh<|Zt _⟩
end
def MU:List (TE×TE)->St->Hp->(List (V×V)->Hp->Prop)->Prop
 |[],_,H,Q=>Q [] H
 |(tk,tv)::r,σ,H,Q=>tk σ H λx b=>tv σ b λy c=>MU r σ c λps d=>Q ((x,y)::ps) d
abbrev VV:List (V×V)->List (Ep×Ep)->Prop:=Lq λp q=>za p.1 q.1/\za p.2 q.2
def bz (X:Cx)(pos:Pos)(keys:List<|Option EN)(b:List EN)(c:List<|TE×TE):Prop :=
 ∀(e:De) (s:Et) (d:St) (H:Hp) (Q:List (V×V)->Hp->Prop),Inv X e d H s->MU c d H Q ->
  Es (Ez X.prog X.w) X.A (evalPairs<|pairTrees keys b X.env pos) (λi g=>∃ps f,Inv X e d f g/\VV ps i/\Q ps f) X.xe s
theorem jP:bz X pos [] [] []:=λb s c H Q I h=>pairTrees_nil_walk ⟨[],H,I,.nil,h⟩
theorem yI (hk:PE X k tk)(hv:PE X v tv)(n:bz X pos ks vs trs) :
  bz X pos (some k::ks) (v::vs) ((tk,tv)::trs):=λb s d H Q I h =>
 pairTrees_cons_walk (Ct (hk b s d H _ I h) λu w ⟨x,e,i,r,o⟩=>Ct (hv b w d e _ i o) λB z ⟨y,f,j,t,p⟩ => Ct (n b z d f _ j p) λC A ⟨ps,g,l,c,q⟩=>⟨(x,y)::ps,g,l,.cons ⟨r,t⟩ c,q⟩)
def x8 (Dm more:Dl):Dl:=more.foldl (λb kv=>yt b kv.1 kv.2) Dm
theorem KV.merge:∀{more:Dl} {rs:List (Key×Ep)} {Dm:Dl} {vs:List (Key×Ep)},KV more rs->KV Dm vs->KV (x8 Dm more) (merged vs rs):=by
 intro more rs Dm vs r;unfold KV at r
 induction r generalizing Dm vs with
 |nil=>intro q;exact q
 | @cons p q ps qs h t ih =>
  intro b;have e:KV (yt Dm p.1 p.2) (stored vs q.1 q.2):=by
   have:=b.put p.1 h.2;rwa[<-h.1]
  exact ih e
theorem kZ:∀(more Dm:Dl),(x8 Dm more).length<=Dm.length+more.length
 |[],Dm=>by show Dm.length<=Dm.length+0;lia
 |p::r,Dm=>by
  have h1:=kZ r<|yt Dm p.1 p.2;have b:=xZ Dm p.1 p.2;show(x8 (yt Dm p.1 p.2) r).length<=_;rw[ZF];lia
theorem IA:∀{Dm:Dl} {ws:List (Ep×Ep)},VV (Dm.map λkv=>(kV kv.1,kv.2)) ws->∃rs,Carries (z5 P w) ws rs/\KV Dm rs
 |[],_,r=>by rw[VE]at r;cases r;exact⟨[],Lg,.nil⟩
 |p::Dm,_,r=>by
  rw[ZL]at r;cases r with
  | @cons a b as bs h t =>
   obtain⟨rs,c,q⟩:=IA (P:=P) (w:=w) t;obtain⟨e,d⟩:=b;exact⟨(p.1,d)::rs,⟨v8 h.1,rfl,c⟩,.cons ⟨rfl,h.2⟩ q⟩
def bd (c:List<|TE×TE):TE:=λe H Q=>∀p,H p=none->MU c e (upd H p<|.dK []) λps d=>d p=some (.dK [])/\∃b:Dl,ps=b.map (λkv=>(kV kv.1,kv.2))/\b.length<=15/\Q (.ref p) (upd d p<|.dK<|x8 [] b)
theorem jN (h:bz X pos keys values trs)(d:keys.all (·.isSome)=true)(hl:keys.length=values.length)(h0:keys≠[])
  (f:keys.length<=15):PE X (.Dict keys values pos) (bd trs):=by
 intro l s C H Q I q;have hn:=I.hok.fresh<|Zt s.heap.objs.size;have n:=I.laid (a:=s.heap.objs.size) (o:=.dK []) (h':=s.heap.push { cls:=.type "dict",data:=.dict #[] }) (t':=s.toks) (λ_ _ q=>Zp _ q) (Zt _)<|FD s.heap I.big;refine wpAny_Dict_walk (knd:=z5 X.prog X.w) d hl h0 f<|Ct (h l _ C _ _ n<|q _ hn) λG F q9=>?_;obtain⟨ps,D,j,g,e,i,r,E,v⟩:=q9;subst r;obtain⟨A,c,y⟩:=IA (P:=X.prog) (w:=X.w) g;obtain⟨z,hd,B,x,p⟩:=FE j.hok e;cases x;refine⟨A,c,p,λh' b t=>⟨.ref s.heap.objs.size,_,?_,rfl,v⟩⟩;have u:(x8 [] i).length<=sizeLine:=by
  have h1:=kZ i [];rw[Y7]at h1;rw[YK];lia
 have he:∃q,h'.get? s.heap.objs.size=some q:=let ⟨q,_,_,hq,_⟩:=b;⟨q,hq⟩;exact uX j (by rw[e];exact Lg) t he<|Ir u hd (y.merge .nil) b
structure M1 (X:Cx)(o:EN)(m:Str)(Dr:Pos)(e:EN)(Ds:Pos):Prop where
 base:LD o m X.env (Lc o X.env)=Lc o X.env
 few:((Li Ds<|EG [e] X.env).all (λx=>!x.1)&&(MA Ds<|LP [] X.env).all (λx=>x.1.isSome) && decide (([e]:List EN).length+([]:List Keyword).length+(if([]:List Keyword).isEmpty then 0 else 1)<30))=true
 line:(Dr.endLine==Ds.line)=true
 trees:Li Ds (EG [e] X.env)=[(false,Lc e X.env)]
structure M2 (X:Cx)(o:EN)(m:Str)(Dr:Pos)(e f:EN)(Ds:Pos):Prop where
 base:LD o m X.env (Lc o X.env)=Lc o X.env
 few:((Li Ds<|EG [e,f] X.env).all (λx=>!x.1)&&(MA Ds<|LP [] X.env).all (λx=>x.1.isSome) && decide (([e,f]:List EN).length+([]:List Keyword).length+(if([]:List Keyword).isEmpty then 0 else 1)<30))=true
 line:(Dr.endLine==Ds.line)=true
 trees:Li Ds (EG [e,f] X.env)=[(false,Lc e X.env),(false,Lc f X.env)]
def bw (H:Hp)(a:Eo):Prop:=(∃b,Rd H a<|.dK b)\/∃b,Rd H a<|.dT b
theorem KH (I:Inv X Dp σ H s)(d:bw H a) :
  s.TypeIs (.ref a) "dict"/\(∀b,EB a=.ref b->∃ob,s.heap.get? b=some ob/\ob.dict=none)/\(a==E3)=false:=by
 rcases d with⟨Dm,e⟩|⟨Dm,e⟩
 .obtain⟨_,hd,g,_,c⟩:=v9 I.hok e;refine⟨c.typeIs,λb q=>?_,hd⟩;cases q;obtain⟨ob,_,_,h1,f,_⟩:=c;exact⟨ob,h1,f.2.1⟩
 .obtain⟨_,hd,i,_,c⟩:=Bs I.hok e;refine⟨c.typeIs,λb q=>?_,hd⟩;cases q;obtain⟨ob,_,_,h1,f,_⟩:=c;exact⟨ob,h1,f.2.1⟩
section
variable {X:Cx}{Dp:De}{σ:St}{H:Hp}{s:Et}{a:Eo}{y d:V}{u r:Ep}{o:Option V}{A:EJ}{E:Ep->Dh}
theorem T7 {Q:Ep->Dh}(j:A.units+1<E8)(I:Inv X Dp σ H s)(g:ux H a y o)(i:za y u)(rd:za d r)(h:∀w' s',Inv X Dp σ H s'->za (o.getD d) w'->Q w' s') :
  Es (Ez X.prog X.w) A (call (.builtin "dict.get") [.ref a,u,r]) Q E s:=by
 rcases g with⟨Dm,k,e,ey,l⟩|⟨Dm,k,b,e,ey,eb,l⟩
 .subst ey;obtain⟨z,hd,p,c,f⟩:=v9 I.hok e;refine JR VP f.typeIs PySem.F.entry_dict_get (PySem.F.args_dict_get_3 _ _ _) (meets_dict_get_default (z5 X.prog X.w) a (v8 i) hd r) ⟨_,f.mapOf,h _ _ (I.tok _) ?_⟩;rw[l];exact(c.val k).getD rd
 .subst ey;cases(show u=EB b from i);obtain⟨z,hd,n,c,f⟩:=Bs I.hok e;refine JR VP f.typeIs PySem.F.entry_dict_get (PySem.F.args_dict_get_3 _ _ _) (meetsH_dict_get_default (tupleKind<|z5 X.prog X.w) a b hd r) ⟨Vp j,k,n,Ik I.hok eb,f,h _ _ (I.tok _) ?_⟩;rw[l];exact(c.val k).getD rd
end
def WN (f ty g:TE):TE:=λb H Q=>f b H λx c=>∃a,x=.ref a/\bw c a/\ty b c λy e=>g b e λz d=>∃o,ux d a y o/\Q (o.getD z) d
def WP (g ty i:TE):TE:=λd H Q=>g d H λx e=>∃a,x=.ref a/\bw e a/\ty d e λy f=>i d f λz c=>∃b k,c a=some (.dK b)/\y=kV k /\
 (∀v,UE b k=some v->Q v (upd c a<|.dK<|Gv b k))/\(UE b k=none->Q z c)
section
variable {X:Cx}{o e f:EN}{Dr Ds:Pos}{td ty tx:TE}
theorem IF (B:X.A.units+1<E8)(w:PE X o td)(he:PE X e ty)(v:PE X f tx)(m:M2 X o "get" Dr e f Ds):PE X (.Call (.Attribute o "get" Dr) [e,f] [] Ds) (WN td ty tx):=by
 intro b s i H Q I h;refine Uk m.base m.few m.line Vt VP PySem.F.type_dict_get<|Ct (w b s i H _ I h) λu L q9=>?_;obtain⟨x,l,j,G,a,ex,d,C⟩:=q9;subst ex;obtain rfl:u=EB a:=G;obtain⟨N,O,_⟩:=KH j d;refine⟨N,O,?_⟩;rw[m.trees];refine Lj rfl<|Lx<|Ln<|Ct (he b L i l _ j C) λR M ⟨y,n,q,J,D⟩ => Ln<|Ct (v b M i n _ q D) λP T ⟨z,p,r,K,S,g,E⟩=>LY ?_
 exact T7 B r g J K λY U t c=>⟨_,p,t,c,E⟩
theorem Re (G:PE X o td)(he:PE X e ty)(E:PE X f tx)(m:M2 X o "pop" Dr e f Ds):PE X (.Call (.Attribute o "pop" Dr) [e,f] [] Ds) (WP td ty tx):=by
 intro b s i H Q I h;refine Uk m.base m.few m.line Vt VO PySem.F.type_dict_pop<|Ct (G b s i H _ I h) λu P q9=>?_;obtain⟨x,t,j,N,a,ex,d,J⟩:=q9;subst ex;obtain rfl:u=EB a:=N;obtain⟨T,U,_⟩:=KH j d;refine⟨T,U,?_⟩;rw[m.trees];refine Lj rfl<|Lx<|Ln<|Ct (he b P i t _ j J) λY R ⟨y,w,B,q,K⟩ => Ln<|Ct (E b R i w _ B K) λD Z ⟨z,A,n,O,r,k,p,C,L,M⟩=>LY ?_
 subst C;cases l:UE r k with
 |some v=>exact ag n p q l (.inr ⟨D,rfl⟩) λw' S c g=>⟨v,_,c,g,L v l⟩
 |none=>exact T8 n p q l λS c=>⟨z,A,c,O,M l⟩
end
section
variable {X:Cx}{Dp:De}{σ:St}{H:Hp}{s:Et}{a:Eo}{Dm:Dl}{A:EJ}{E:Ep->Dh}
theorem O6 {Q:Ep->Dh}(I:Inv X Dp σ H s)(e:Rd H a<|.dK Dm)(h:∀p s',H p=none->Inv X Dp σ (upd H p<|.dK Dm) s'->Q (.ref p) s'):Es (Ez X.prog X.w) A (call (.type "dict") [.ref a]) Q E s:=by
 obtain⟨z,hd,j,c,g⟩:=v9 I.hok e;refine kt_call_dict hd g (by rwa[<-c.length]) λh' d i=>?_;refine h _ _ (I.hok.fresh<|Zt _)<|I.laid (a:=s.heap.objs.size) (o:=.dK Dm) (t':=s.toks) (λb q f=>?_) (Zt _)<|Ir z (YT.mpr<|EC<|ZO I.big) c d;exact(i.2 b<|ZO<|ZC f).trans (Zp _ f)
end
end L2
namespace Att
open PySem PySem.W PySem.Calls PyProof.Rows
theorem X0 {P:Params}{h:EI}:∀(ns:List Int) (vs:Db),WellAll P h vs (ns.map WData.int)->IntsAre vs ns:=by
 intro ns
 induction ns with
 |nil =>
  intro vs w;rw[VE]at w;cases w;exact .nil
 |cons n ns ih =>
  intro vs w;rw[ZL]at w;cases w with
  |cons a b =>
   cases a;exact .cons _ _<|ih _ b
theorem Oz {l:OpenLaw}{n:Nat}(hn:l.most=some n){P:Params}{h:EI}{args:List WData}{c:Db}
  (b:l.row.toRowW.claim.pre args=true) (g:WellAll P h c args) :
  ∃a vs ns,c=[EB a]/\args=[WData.list<|ns.map WData.int]/\h.get? a=some { cls:=.type "list",data:=.seq vs.toArray }/\IntsAre vs ns/\ns.length<=n:=by
 have f:WShape.hasAll [] args [.list .int]=true:=(pre_splitW b).1;have hc:l.pre.holds [] { args:=args }=true:=(pre_splitW b).2;obtain⟨d,r,rfl,h1,j⟩:=hasAllW_cons f;obtain rfl:=hasAllW_nil j;obtain⟨s,rfl,o⟩:=hasW_list h1;obtain⟨ns,rfl⟩:=items_int o;have i:ns.length<=n:=by
  unfold OpenLaw.pre at hc;have h4:(WTm.not<|.lt (.lit<|.int (n:Int))<|.len<|.arg 0).holds [] { args:=[.list<|ns.map .int] }=true:=by
   have h4:=(holds_andW hc).1;rw[hn]at h4;exact h4
  have e:=condW_of h4<|w_not<|w_lt w_lit<|w_len_list<|w_arg rfl;rw[Zk]at e;refine Nat.le_of_not_lt λq=>?_;have p:(n:Int)<((ns.length:Nat):Int):=by lia
  first
   |(rw[Zq p]at e;exact absurd e<|by decide)
   |(simp at e;lia)
 cases g with
 |cons w1 w2 =>
  cases w2;cases w1 with
  |list ho hall=>exact⟨_,_,ns,rfl,rfl,ho,X0 ns _ hall,i⟩
theorem Ov (l:OpenLaw)(args:List WData):l.row.toRowW.claim.post args (.bool true) args=true :=
 postW_of (r:=l.row.toRowW) (X:=(true==true))
  (show WShape.has [] (.bool true) .bool=true by first|rfl|decide|simp[WShape.has,WShape.arms,WShape.armsAll])
  (show(WTm.eq .res<|.lit<|.bool true).value [] { args:=args,res:=some<|.bool true,after:=args }=some (.bool<|true==true) from w_eq_bool (w_res rfl) w_lit) rfl
theorem oR {l:OpenLaw}{n:Nat}{q:Er}{b:Da}{t:(Str->Dc)->EI->Prop}{u:Eu->EI->Prop}{d:DefRec}
  (hn:l.most=some n) (j:d.params.defaults=[])
  (call:∀(w:Eu) (s₀ s₁:Et) (mg mb:Str->Dc) (fa:Eo) (o:Obj) (pm cd doc:Ep) (a:Eo) (vs:Db) (ns:List Int),Ground q b [] t w s₀ mg mb s₁.heap->u w s₁.heap -> s₁.heap.get? fa=some o->o.data=.func (docDef d.name d.params d.body d.scope pm cd doc)->s₁.heap.CodeRec cd d.name->mg d.name=some (.ref fa) -> s₁.heap.get? a=some { cls:=.type "list",data:=.seq vs.toArray }->IntsAre vs ns->ns.length<=n->s₁.gens=#[] -> LS (Ez l.prog w) callerA (.call (.ref fa) ⟨[.ref a],[]⟩) (λr s'=>r=.ok (.ret<|.bool true)/\OldK s₁.heap s'.heap/\s'.os=s₁.os/\ME s'.gens) s₁) :
  WalkO q b t u l.row.toRowW d [] (λf vs=>PySem.call f vs):=by
 intro w s₀ s₁ mg mb G Y fa o pm cd doc B kV H hd i x p E v z K g y J s F;obtain rfl:B=.none:=Dflts.none x j;obtain rfl:kV=.none:=Dflts.noKw x;obtain⟨a,vs,ns,rfl,rfl,e,c,A⟩:=Oz hn g s;refine enter_call<|Jl (call w s₀ s₁ mg mb fa o pm cd doc a vs ns G Y H (fd_plain hd) i p e c A E) λr s' I=>?_;obtain⟨rfl,C,D,h4⟩:=I;exact⟨.inl ⟨.bool true,.bool true,[],rfl,λ_=>rfl,.bool true,Ov l _,λ_=>⟨List.Pairwise.nil,λ_ hm=>(nomatch hm)⟩⟩,C,D,h4⟩
end Att
namespace L2
open PySem PySem.Spec PyProof.Rows
theorem G9:∀{vs:Db} {ns:List Int},IntsAre vs ns->zb (ns.map V.int) vs
 |_,_,.nil=>.nil
 |_,_,.cons n t h=>.cons ⟨t,rfl⟩<|G9 h
def Only (H:Hp):Prop:=∀b,H b=none\/∃o c,H b=some (.frz o<|.lst c)
theorem Pw {P:Er}{w:Eu}{K:Cq}{mg M:Str->Dc}{CX:OM}{k:Nat}{G a:Eo}{R:Ev}{x:Str}{sp:Sp}{c:Et}{vs:Db}{ns:List Int}
  (O:K.In c.heap) (A:c.heap.Ns EA mg) (hb:c.heap.Ns builtinsNs M) (J:∀x:Str,x≠"__name__"->M x=L9 x) (y:c.heap.NoLimit) (hg:c.gens=#[])
  (ha:c.heap.get? a=some { cls:=.type "list",data:=.seq vs.toArray }) (U:IntsAre vs ns) (hl:ns.length<=sizeLine) (hr:xr k callerA)
  (F:∀base:EI,K.In base->base.Ns EA mg->zc P w K mg base CX k G R [x] sp) (j:∀(s:Et) (u:Ep),BindsTo s R ⟨[u],[]⟩ [(x,u)])
  (L:∀H:Hp,Only H->yu K H a (ns.map V.int)->sp [.ref a] H (λv _=>v=.bl true) λ_ _ _=>False)
  (I:∀H e s',CX [] H c (λ_ _ _=>False) e s'->False) :
  LS (Ez P w) callerA (.call (.ref G) ⟨[.ref a],[]⟩) (λr s'=>r=.ok (.ret<|.bool true)/\OldK c.heap s'.heap/\s'.os=c.os/\ME s'.gens) c:=by
 have Y:=G9 U;have C:=U.length;have i:∀H:Hp,Only H->yu K H a (ns.map V.int)->tZ P w H c.heap->(∀b,H b≠none->b=a)->(H a≠none->K.lookup a=none) ->
   LS (Ez P w) callerA (.call (.ref G) ⟨[.ref a],[]⟩) (λr s'=>r=.ok (.ret<|.bool true)/\OldK c.heap s'.heap/\s'.os=c.os/\ME s'.gens) c:=by
  intro H T hS hok S hK;have f:∀{b:Eo} {o:Obj},c.heap.get? b=some o->H b=none->(BI c.heap H).get? b=some o:=λe n=>Pk e n;have N:∀{b:Eo} {o:Obj} {p:Array Mm} {l:Nat},c.heap.get? b=some o->o.data=.dict p l->H b=none:=λ{b o p l} e d=>by
   cases q:H b with
   |none=>rfl
   |some u =>
    have E:b=a:=S b (by rw[q];simp);subst E;rw[ha]at e;cases e;have Z:Data.seq vs.toArray _=Data.dict p l:=d;cases Z
  have g:∀{b:Eo} {m:Str->Dc},c.heap.Ns b m->(BI c.heap H).Ns b m:=λ{b m} ⟨o,p,l,e,d,r⟩=>⟨o,p,l,f e<|N e d,d,r⟩;have t:K.In (BI c.heap H):=λb o e=>f (O b o e) (by
   cases q:H b with
   |none=>rfl
   |some u =>
    have E:b=a:=S b (by rw[q];simp);subst E;rw[hK (by rw[q];simp)]at e;cases e)
  have hM:Mod K mg (BI c.heap H):=⟨t,g A,⟨M,g hb,J⟩,let ⟨mc,h1,h2⟩:=y;⟨mc,g h1,h2⟩⟩;have e0:rQ P w K mg (BI c.heap H) callerA [] c H:=⟨rfl,hM,λb o e=>Su e,J9<|Oh _ _,trivial,λb hb=>absurd (show b∈([]:Dd) from hb) (by simp),hok,.of_eq hg⟩;refine Jl ((F _ t<|g A).run callerA [] c H ⟨[.ref a],[]⟩ [.ref a] [.ref a] _ _ hr e0 (j c<|.ref a) (.cons rfl .nil)<|L H T hS) λr s' h=>?_;cases r with
  |error e=>exact(I H e s' h).elim
  |ok fl =>
   cases fl with
   |next=>exact EL h
   |brk=>exact EL h
   |cont=>exact EL h
   |ret u =>
    obtain⟨v,H',os,bare,un,B,r',q⟩:=h;have q':v=.bl true:=q;subst q';obtain rfl:u=Mg true:=r';refine⟨rfl,OldK.of_keep λb o e=>?_,os,bare⟩;cases q:H b with
    |none=>exact un.keep b o e q (by intro z;exact absurd (show b∈([]:Dd) from z) (by simp)) (by simp)
    |some u =>
     rcases T b with z|⟨ob,xs,z⟩
     .rw[q]at z;cases z
     .have z2:=un.uw b ob _ z;obtain⟨Q,_⟩:=hok b _ z;obtain⟨e2,_⟩:=B b _ z2;rw[e]at Q;cases Q;exact e2
 cases hk:K.lookup a with
 |some o =>
  have e:=O a o hk;rw[ha]at e;cases e;refine i (λ_=>none) (λ_=>.inl rfl) (.inr ⟨_,vs.toArray,_,hk,rfl,rfl,rfl,by rw[ZP,C];exact hl,by simpa using Y⟩) (λb u z=>by have D:(none:Option HO)=some u:=z;cases D) (λb z=>absurd rfl z) λz=>absurd rfl z
 |none =>
  refine i (λb=>if b=a then some (.frz { cls:=.type "list",data:=.seq vs.toArray }<|.lst<|ns.map V.int) else none) (λb=>?_) (.inl<|.inr ⟨{ cls:=.type "list",data:=.seq vs.toArray },ZK rfl⟩) (λb u z=>?_) (λb z=>?_) λ_=>hk
  .by_cases hb:b=a
   .exact .inr ⟨_,_,ZK hb⟩
   .exact .inl (ZH hb)
  .by_cases hb:b=a
   .have D:=(ZK hb).symm.trans z;cases D;subst hb;exact⟨ha,by rw[Zk];exact hl,vs,_,Y,ha⟩
   .have D:=(ZH hb).symm.trans z;cases D
  .by_cases hb:b=a
   .exact hb
   .exact absurd (ZH hb) z
theorem lA {l:PySem.W.OpenLaw}{n k:Nat}{q:Er}{i:Da}{E:(Str->Dc)->EI->Prop}{D:Eu->EI->Prop}{d:DefRec}{K:Params->Cq}{CX:Eu->OM}{sp:Eu->Sp}{x:Str}
  (hn:l.most=some n) (z:n<=sizeLine) (t:d.params.defaults=[]) (Q:xr k callerA)
  (N:∀(w:Eu) (h:EI),D w h->(K w.params).In h)
  (F:∀(w:Eu) (mg:Str->Dc) (fa:Eo) (h:EI),(K w.params).In h->h.Ns EA mg->mg d.name=some (.ref fa) -> ∃fd:Ev,(∀(s:Et) (u:Ep),BindsTo s fd ⟨[u],[]⟩ [(x,u)]) /\ ∀base:EI,(K w.params).In base->base.Ns EA mg->zc l.prog w (K w.params) mg base (CX w) k fa fd [x] (sp w))
  (A:∀(w:Eu) (H:Hp) (a:Eo) (ns:List Int),ns.length<=n->Only H->yu (K w.params) H a (ns.map V.int)->sp w [.ref a] H (λv _=>v=.bl true) λ_ _ _=>False)
  (r:∀(w:Eu) (H:Hp) (s:Et) (e:Ep) (s':Et),CX w [] H s (λ_ _ _=>False) e s'->False) :
  PySem.W.WalkO q i E D l.row.toRowW d [] (λf vs=>PySem.call f vs):=by
 refine Att.oR hn t λw s₀ p mg U fa o Z R I a vs ns G Y S hd O y j c B P=>?_;have C:=N w _ Y;obtain⟨fd,hb,J⟩:=F w mg fa _ C G.T.g y;exact Pw C G.T.g G.T.b G.T.builtins G.T.nolimit P j c (Yk B z) Q J hb (λH L M=>A w H a ns B L M) λH e s'=>r w H p e s'
def inClass (s:ER)(j:Nat):Stmt:=match s with
 | .ClassDef _ _ _ body _ _ _ _ _ _ _=>body.getD j<|.Pass ⟨0,0,0,0⟩
 |_=>.Pass ⟨0,0,0,0⟩
def qP (s:ER):Arguments:=match s with
 | .FunctionDef _ a _ _ _ _ _ _ _ _=>a
 |_=>{ posonlyargs:=[],args:=[],vararg:=none,kwonlyargs:=[],kw_defaults:=[],kwarg:=none,defaults:=[] }
def xM (s:ER):List Stmt:=match s with
 | .FunctionDef _ _ b _ _ _ _ _ _ _=>b
 |_=>[]
def zF (s:ER):Scope:=match s with
 | .FunctionDef _ _ _ _ _ _ sc _ _ _=>sc
 |_=>{ kind:=.function,names:=[],isGenerator:=false,isCoroutine:=false }
abbrev CA:OM:=λ_ _ _ _ _ _=>False
abbrev E0:XK:=λ_ _ _=>False
theorem Iu:vL CA X E0:=λ_ _ _ _ _ _ _ h=>h.elim
structure yc (K:Cq)(x qual:Str)(st:ER)(f:Eo)(fd:Ev):Prop where
 ex:∃(oc:Ep) (od:Option Eo) (kV doc pm:Ep) (an:Option Eo) (cdv ct:Ep) (osl:Array Dc),
  fd=Lf x qual (qP st) (xM st) (zF st) .none kV doc pm an cdv ct/\K.lookup f=some ⟨oc,od,.func fd,osl⟩/\LK K cdv qual=true
 kp:EY K (.ref f)=true
section
variable {P:Er}{w:Eu}{K:Cq}{mg:Str->Dc}{base:EI}
theorem yc.ok {st:ER}{k:Nat}{sp:Sp}(F:yc K x qual st f fd)(S:zy N ps<|zF st)
  (d:∀(cdv:Ep) (A:EJ) (outer:List Env) (s:Et) (H:Hp) (vs:Dj) (Q:VK) (E:XK),xr k (A.deeper<|Mw qual (zF st) s.heap.objs.size f cdv)->sp vs H Q E -> ∃t,qw (GG CA P w K mg base N qual (zF st) f cdv A outer s H E).iy (xM st) t/\t { nx:=λ_ H'=>Q .non H',rt:=Q } (start N vs) H)(len:∀vs H Q E,sp vs H Q E->vs.length=ps.length:=by intro _ _ _ _ h;first|(cases h;subst_vars;rfl)|repeat first|(obtain⟨rfl,_⟩:=h;rfl)|obtain⟨_,h⟩:=h):zc P w K mg base CA (k+1) f fd ps sp:=by
 obtain⟨n,o,kV,e,p,l,cdv,ct,j,rfl,i,b⟩:=F.ex;refine Tl i b S len λA outer s H vs Q E g c=>?_;obtain⟨t,h,q⟩:=d cdv A outer s H vs Q E g c;exact⟨t,h.iy,q⟩
theorem yc.binds {st:ER}{ps:Da}(F:yc K x qual st f fd)
  (h:∀(kV doc pm:Ep) (an:Option Eo) (cdv ct:Ep) (us:Db),us.length=ps.length->bindArgs (Lf x qual (qP st) (xM st) (zF st) .none kV doc pm an cdv ct) ⟨us,[]⟩=LC (ps.zip us)):wX K fd ps []:=by
 obtain⟨e,g,kV,doc,pm,an,cdv,ct,c,rfl,d,b⟩:=F.ex;exact .all<|h kV doc pm an cdv ct
theorem vE {x qual:Str}{st:ER}{f:Eo}{j:Ep}{n g:Option Eo}{e:Array Dc}{kV d i b ct:Ep}(l:K.lookup f=some ⟨j,n,.func<|Lf x qual (qP st) (xM st) (zF st) .none kV d i g b ct,e⟩)
  (c:LK K b qual=true) (k:EY K (.ref f)=true):yc K x qual st f (Lf x qual (qP st) (xM st) (zF st) .none kV d i g b ct):=⟨⟨j,n,kV,d,i,g,b,ct,e,rfl,l,c⟩,k⟩
end
theorem FQ (b:xr k A):A.units+1<cLine:=Vq (Nat.add_le_add_left (by decide:1<=64) _) b.units
section
variable {X:Cx}
theorem pv (i:Nat){x:Str}{pos:Pos}(c:X.N[i]?=some x:=by rfl)(hv:bA X.env.scope x:=by first|exact EU rfl|exact Or.inr (EU rfl)|exact Or.inr (Or.inr rfl))(hd:(x==("__debug__":Str))=false:=by decide)
  (b:(x==("__classdict__":Str))=false:=by decide):PE X (.Name x pos) (MV i):=Wt c hv hd b
end
theorem UC {A B:Prop}(h:B):if false=true then A else B:=by
 rwa[ZH Z3]
theorem UF {A B:Prop}(h:A):if true=true then A else B:=by
 rwa[ZK rfl]
theorem UM {c A B:Prop} [Decidable c](h1:c->A)(h2:¬c->B):if c then A else B:=by
 by_cases h:c
 .rw[ZK h];exact h1 h
 .rw[ZH h];exact h2 h
theorem To {c A B:Prop} [Decidable c](hc:c)(h:B):if(!decide c)=true then A else B:=by
 rw[Zq hc];exact UC h
def zx (H H':Hp):Prop:=∀b o,H b=some o->H' b=some o
theorem zx.refl (H:Hp):zx H H:=λ_ _ h=>h
theorem zx.trans (a:zx H H1)(b:zx H1 H2):zx H H2:=λc o h=>b c o<|a c o h
theorem zx.free (e:zx H H'){l:Eo}(h:H' l=Option.none):H l=Option.none:=by
 cases q:H l with
 |none=>rfl
 |some o =>
  rw[e l o q]at h;cases h
theorem zx.seq {K:Cq}(e:zx H H')(h:yu K H a xs):yu K H' a xs:=by
 rcases h with(h|⟨o,h⟩)|h
 .exact .inl (.inl<|e _ _ h)
 .exact .inl (.inr ⟨o,e _ _ h⟩)
 .exact .inr h
section
variable {κ:Type} [DecidableEq κ]
theorem vM {Dm:List (κ×V)}{k:κ}(h:UE Dm k=none):¬k∈Dm.map (·.1):=by
 intro m;obtain⟨p,b,e⟩:=Zr.mp m;have q:(Dm.any λkv=>decide (kv.1=k))=true:=Z8.mpr ⟨p,b,Zq e⟩;rw[qW,h]at q;exact absurd q (by simp)
theorem uW {Dm:List (κ×V)}{k:κ}{v:V}(h:UE Dm k=some v):k∈Dm.map (·.1):=by
 have q:(Dm.any λkv=>decide (kv.1=k))=true:=by
  rw[qW,h]
  all_goals rfl
 obtain⟨p,b,e⟩:=Z8.mp q;exact Zr.mpr ⟨p,b,ZI e⟩
theorem jM:∀{l:List κ} {k:κ},l.Nodup->¬k∈l->(l++[k]).Nodup
 |[],k,_,_=>by simp
 |a::r,k,h,hk=>by
  obtain⟨h1,b⟩:=ZY.mp h;show(a::(r++[k])).Nodup;refine ZY.mpr ⟨λm=>?_,jM b λm=>hk<|Zo.mpr<|Or.inr m⟩
  rcases ZR.mp m with q|q
  .exact h1 q
  .exact hk (Zo.mpr<|EU (Zl.mp q).symm)
end
theorem jQ {d b:Type}{f:d->b->Sem (ForInStep b)}(g:b->d->b):∀(l:List d) (c:b),(∀x∈l,∀c,f x c=LC (.yield<|g c x))->forIn l c f=LC (l.foldl g c)
 |[],c,_=>rfl
 |x::l,c,h=>by
  rw[List.forIn_cons,h x Zs,pure_bind];exact jQ g l (g c x) λy e=>h y<|Zn _ e
def Xk (cells:List<|Str×Eo)(c:List<|Str×Eo)(x:Str×Mb):List (Str×Eo) :=
 if x.2==.free then(match cells.lookup x.1 with|some a=>(x.1,a)::c|none=>c) else c
def qV (env:Env)(sc:LV):List (Str×Eo):=sc.names.foldl (Xk env.cells) []
theorem uF {scope:LV}{env:Env}(h:∀x∈scope.names,x.2=.free->∃c,env.cells.lookup x.1=some c):closureFor scope env=LC (qV env scope):=by
 simp only[closureFor];rw[jQ (Xk env.cells) scope.names []<|λx d c=>?_]
 .rfl
 .obtain⟨n,k⟩:=x;unfold Xk;cases hk:(k==NameKind.free) with
  |true =>
   have e:k=.free:=by simpa using hk
   obtain⟨a,ha⟩:=h (n,k) d e;have b:env.cells.lookup n=some a:=ha;simp only[hk,Uj,cellOf,b,pure_bind]
  |false=>simp only[hk,Yt,Js]
theorem qL {b:Type}(x n:Str)(a:b)(l:List<|Str×b):LO x ((n,a)::l)=if x=n then some a else LO x l:=by
 by_cases h:x=n
 .have hb:(x==n)=true:=JB.mpr h;simp only[List.lookup_cons,hb,ZK h]
 .have hb:(x==n)=false:=YT.mpr h;simp only[List.lookup_cons,hb,ZH h]
theorem IL {cells:List (Str×Eo)}:∀(names:List<|Str×Mb) (acc:List<|Str×Eo),(∀x c,acc.lookup x=some c->cells.lookup x=some c) ->
  ∀x c,(names.foldl (Xk cells) acc).lookup x=some c->cells.lookup x=some c
 |[],acc,h=>h
 |(n,k)::r,acc,h=>IL r _ λx c e=>by
  unfold Xk at e
  by_cases hk:((n,k).2==NameKind.free)=true
  .rw[ZK hk]at e;dsimp only at e;cases q:cells.lookup n with
   |none=>rw[q]at e;exact h x c e
   |some a =>
    rw[q]at e;dsimp only at e;rw[qL]at e
    by_cases b:x=n
    .rw[ZK b]at e;rwa[b,q]
    .rw[ZH b]at e;exact h x c e
  .rw[ZH hk]at e;exact h x c e
theorem Bt:∀(names:List<|Str×Mb) (acc:List<|Str×Eo) (x:Str),(∃c,acc.lookup x=some c)->∃c,(names.foldl (Xk cells) acc).lookup x=some c
 |[],acc,x,h=>h
 | (n,k)::r,acc,x,h=>Bt r _ x (by
  obtain⟨c,h⟩:=h;unfold Xk
  by_cases hk:((n,k).2==NameKind.free)=true
  .rw[ZK hk];dsimp only;cases q:cells.lookup n with
   |none=>exact⟨c,h⟩
   |some a =>
    dsimp only;rw[qL]
    by_cases b:x=n
    .exact⟨a,by rw[ZK b]⟩
    .exact⟨c,by rw[ZH b];exact h⟩
  .rw[ZH hk];exact⟨c,h⟩)
theorem Fx {cells:List (Str×Eo)}{x:Str}{c:Eo}(hc:cells.lookup x=some c):∀(names:List<|Str×Mb) (acc:List<|Str×Eo),(x,NameKind.free)∈names->∃c,(names.foldl (Xk cells) acc).lookup x=some c
 |[],acc,h=>by cases h
 |(n,k)::r,acc,h=>by
  rcases Zo.mp h with e|e
  .cases e;refine Bt r _ x ⟨c,?_⟩;unfold Xk;rw[ZK<|by rfl];dsimp only;rw[hc];dsimp only;rw[qL,ZK rfl]
  .exact Fx hc r _ e
theorem M8 {env:Env}{sc:LV}{x:Str}{c:Eo}(hc:env.cells.lookup x=some c)(hm:(x,NameKind.free)∈sc.names):(qV env sc).lookup x=some c:=by
 obtain⟨b,h⟩:=Fx hc sc.names [] hm;have e:=IL sc.names [] (λx c e=>by cases e) x b h;rw[hc]at e;cases e;exact h
theorem kK {x:Str}{c:Eo}(h:(qV env sc).lookup x=some c):env.cells.lookup x=some c :=
 IL sc.names [] (λx c e=>by cases e) x c h
def HM (env:Env)(x:Str)(k:Mb):NameKind:=if(k==.free&&env.scope.kind==.function&&env.kindOf x==some .cell) then .cell else k
theorem kJ {env:Env}(x:Str):∀names:List<|Str×Mb,
  (names.map λ(n,k)=>if(k==NameKind.free&&env.scope.kind==.function&&env.kindOf n==some .cell) then(n,NameKind.cell) else(n,k)).lookup x=(names.lookup x).map (HM env x)
 |[]=>rfl
 |(n,k)::r=>by
  have c:=kJ (env:=env) x r;rw[ZL];have e:(if(k==NameKind.free&&env.scope.kind==.function&&env.kindOf n==some .cell)=true then(n,NameKind.cell) else(n,k))=(n,HM env n k):=by
   unfold HM
   split<;>rfl
  dsimp only;rw[e,qL,qL]
  by_cases b:x=n
  .rw[ZK b,ZK b,b];rfl
  .rwa[ZH b,ZH b]
theorem XM {env:Env}{scope:LV}{cl:List (Str×Eo)}{C:Eo}(x:Str):(MB scope cl C env).scope.names.lookup x=(scope.names.lookup x).map (HM env x):=kJ x scope.names
def US (src:List<|Option Nat)(b:St):St:=src.map λo=>o.bind λi=>(b[i]?).join
structure wD (sc:LV)(N N':Da)(src:List<|Option Nat)(scope:LV):Prop where
 nd:N'.Nodup
 len:src.length=N'.length
 kind:scope.kind=.function
 pU:∀y∈scope.names,y.2≠.cell
 names:∀y∈scope.names,y.2=.local->scope.names.lookup y.1=some .local
 free:∀y∈scope.names,y.2=.free->sc.names.lookup y.1=some .cell\/sc.names.lookup y.1=some .free
 srcs:((src.zip N').all λ(o,x)=>match o with|none=>true|some i=>N[i]?==some x&&scope.names.lookup x==some .free)=true
theorem wD.a {sc:LV}{N N':Da}{src:List (Option Nat)}{scope:LV}(nd:N'.Nodup:=by decide+kernel)(len:src.length=N'.length:=by rfl)(kind:scope.kind=.function:=by rfl)(pU:∀y∈scope.names,y.2≠.cell:=by decide+kernel)(names:∀y∈scope.names,y.2=.local->scope.names.lookup y.1=some .local:=by decide+kernel)(free:∀y∈scope.names,y.2=.free->sc.names.lookup y.1=some .cell\/sc.names.lookup y.1=some .free:=by decide+kernel)(srcs:((src.zip N').all λ(o,x)=>match o with|none=>true|some i=>N[i]?==some x&&scope.names.lookup x==some .free)=true:=by decide+kernel):wD sc N N' src scope:=⟨nd,len,kind,pU,names,free,srcs⟩
theorem wD.at (O:wD sc N N' src scope){j i:Nat}{x:Str}(h1:src[j]?=some (some i))(c:N'[j]?=some x):N[i]?=some x/\scope.names.lookup x=some .free:=by
 have d:(src.zip N')[j]?=some (some i,x):=by rw[Jw];exact⟨h1,c⟩
 have q:=ZQ.mp O.srcs _<|ZG d;have b:(N[i]?==some x&&scope.names.lookup x==some .free)=true:=q;rw[Zw]at b;exact⟨Va b.1,Va b.2⟩
def Cx.comp (X:Cx)(N':Da)(scope:LV)(C:Eo)(s:Et)(H:Hp)(fp:Dd):Cx :=
 { X with N:=N',s₀:=s,H₀:=H,env:=MB scope (qV X.env scope) C X.env,outer:=X.stack,ex:=fp,fn:=λ_=>false,pn:=[],xe:=λ_ _=>False }
theorem Un.adopt {D:Eo}(u:Un fs ex H H1 h h1)(e:h.get? D=none)(c:H D=none):Un fs ex H (upd H1 D o) h h1 where
 keep:=u.keep
 slot:=u.slot
 free:=λb ob q n f=>by
  have hb:b≠D:=λz=>by rw[z,e]at q;cases q
  rw[zI hb];exact u.free b ob q n f
 there:=u.there
 tups:=λb d q=>by rw[zI<|zS q c];exact u.tups b d q
 uw:=λb ob d q=>by rw[zI<|zS q c];exact u.uw b ob d q
 tY:=λb ps q=>by rw[zI<|zS q c];exact u.tY b ps q
theorem tZ.adopt {D:Eo}(x:tZ P w H h)(n:H D=none)(new:yq P w (upd H D o) h D o):tZ P w (upd H D o) h:=λb u e=>by
 by_cases hb:b=D
 .subst hb;rw[zC]at e;cases e;exact new
 .rw[zI hb]at e;exact(x b u e).stay (λc v _ q=>q) (λc q=>by rwa[zI<|zS q n]) λc d q=>by rwa[zI<|zS q n]
def lH (X:Cx)(b:List EN)(f:TT):Prop :=
 ∀(e:De) (s:Et) (d:St) (H:Hp) (Q:Bool->Hp->Prop),Inv X e d H s->f d H Q ->
  Es (Ez X.prog X.w) X.A (forIn b true λc r=>if r=true then do let ok <-isTrue c X.env (Lc c X.env);LC (MD ok) else LC (MD r)) (TP X e d Q) X.xe s
def Im:TT:=λ_ H Q=>Q true H
theorem qD:lH X [] Im:=by
 intro b s c H Q I h;rw[List.forIn_nil];exact Zu ⟨H,I,h⟩
theorem Rj (hc:PT X c tc):lH X [c] tc:=by
 intro d s i H Q I h;rw[List.forIn_cons];refine Zm<|Zm<|Ct (hc d s i H _ I h) λb j ⟨e,f,g⟩=>Zu ?_;dsimp only;rw[List.forIn_nil];exact Zu ⟨e,f,g⟩
def U6 (src:List<|Option Nat)(J:It)(g:TG)(u:TT)(t:TE)(Q:VK)(v:St)(H:Hp):Prop :=
 ∃W:Nat->Nat->Dj->St->Hp->Prop,(∃m,W 0 m [] (US src v) H)/\∀i m f l d,W i m f l d->f.length<=sizeLine /\
 ((J.stop i d/\∀p,d p=none->Q (.ref p) (upd d p<|.lst f)) \/ (J.go i d/\∃n:Dj->St->Hp->Prop,(∀j c e,n j c e->∃q,q<m/\W (i+1) q j c e) /\ ∀x e,J.oM i d x e->g x l e λc r=>u c r λb o=>if b=true then t c o λy s=>n (f++[y]) c s else n f c o))
def NO (src:List<|Option Nat)(f:TI)(g:TG)(e:TT)(d:TE):TE:=λb H Q=>f b H λJ c=>U6 src J g e d Q b c
section
variable {X:Cx}{tg elt iter:EN}{ifs:List EN}{scope sc:LV}{N N':Da}{src:List (Option Nat)}{g:TG}{tf:TT}{te:TE}{wi:TI}{pos:Pos}
theorem Pz {prog:Er}{w:Eu}{A:EJ}{R:Result->Dh}{s:Et}{it e:Ep}{env:Env}(I:Nat->Dh)
  (l:∀n s,I n s->Es (Ez prog w) A (LR it) (λr s₁=>match r with
   |none=>R (.ok .next) s₁
   | some v=>Es (Ez prog w) A (Mc tg it v) (λ_ s₂=>Es (Ez prog w) A (assign tg env v) (λ_ s₃ =>
     Es (Ez prog w) A (forIn ifs true λc r=>if r=true then do let ok <-isTrue c env (Lc c env);LC (MD ok) else LC (MD r)) (λok s₄ =>
      if ok=true then Es (Ez prog w) A (Lc elt env) (λx s₅ =>
       Es (Ez prog w) A (call (.builtin "list.append") [e,x]) (λ_ s₆=>∃m,m<n/\I m s₆) (λ_ _=>False) s₅) (λ_ _=>False) s₄
      else∃m,m<n/\I m s₄) (λ_ _=>False) s₃) (λ_ _=>False) s₂) (λ_ _=>False) s₁) (λ_ _=>False) s)
  (n:Nat) (h:I n s):LS (Ez prog w) A (.compLoop (.ListComp elt [⟨tg,iter,ifs,0⟩] scope pos) 0 it e env) R s:=by
 refine codeAny_loop rfl I (λn s o=>?_) n h;show Es _ A ((compTurn (.ListComp elt [⟨tg,iter,ifs,0⟩] scope pos) 0 it e env).onRaise (λx=>do noteFrame x env;theTreesLotGoes x)) _ _ s;refine wpAny_noted ?_;rw[compTurn_list];refine Zm<|wpAny_standAt<|Zm<|Yy (l n s o) (λr s₁ b=>?_) λ_ _ h'=>h'.elim;cases r with
 |none=>exact Zu b
 |some v =>
  refine Zm<|Yy b (λ_ s₂ f=>?_) λ_ _ h'=>h'.elim;refine Zm<|Yy f (λ_ s₃ g=>Zm<|Yy g (λok s₄ d=>?_) λ_ _ h'=>h'.elim) λ_ _ h'=>h'.elim;cases ok with
  |false=>exact Zu ⟨rfl,d⟩
  |true =>
   exact Zm<|Zm<|Yy d (λx s₅ i=>Zm<|Yy i (λ_ s₆ j=>Zu<|Zu ⟨rfl,j⟩) λ_ _ h'=>h'.elim) λ_ _ h'=>h'.elim
theorem R7 {fp:Dd}{C:Eo}(O:wD sc N N' src scope)(f:X.env.scope=sc)(I:Inv X Dp σ H s)(d:∀b∈fp,XE X Dp H b)
  (l:∀b∈fp,∃o,s.heap.get? b=some o) (g:s.heap.objs.size<=C):(X.comp N' scope C s H fp).Ok:=by
 have hk:∀x,((MB scope (qV X.env scope) C X.env).kindOf x=some .cell\/(MB scope (qV X.env scope) C X.env).kindOf x=some .free)->(x,NameKind.free)∈scope.names:=λx h=>by
  have h:(MB scope (qV X.env scope) C X.env).scope.names.lookup x=some .cell\/(MB scope (qV X.env scope) C X.env).scope.names.lookup x=some .free:=h;rw[XM]at h;cases q:scope.names.lookup x with
  |none=>rw[q]at h;rcases h with h|h<;>cases h
  |some k =>
   have hm:=Y6 q;rw[q]at h;cases k with
   |free=>exact hm
   |cell=>exact absurd rfl<|O.pU _ hm
   |_ =>
    exfalso
    rcases h with h|h<;>(have h':=Option.some.inj h;unfold HM at h';simp at h')
 refine⟨I.ok.mod,O.kind,I.ok.glob,I.ok.blt,g,λx y c h1 j=>I.ok.inj x y c (kK h1)<|kK j,λx h=>?_,λx c h=>(by cases h),I.ok.hd,I.ok.frames,.inl rfl,λb hb=>?_,I.bs,Yk I.ok.nj I.sz,λb o e hb=>?_,λb hb z=>?_,I.stack,I.rY⟩
 .have hm:=hk x h;have i:=O.free _ hm rfl;rw[<-f]at i;obtain⟨c,hc⟩:=I.ok.has x i;exact⟨c,M8 hc hm⟩
 .refine⟨?_,λx c h=>(d b hb).2.2.2.2.1 x c<|kK h⟩;obtain⟨o,e⟩:=l b hb;exact ZO<|ZU (ZC e) g
 .rcases(d b hb).2.2.2.1 with z|z
  .exact I.ok.pW b o e z
  .exact absurd (ZU (ZU (ZC e) I.ok.nj) z) (YB _)
 .rcases Zo.mp (I.rG b z) with e|e
  .exact(d b hb).2.1 e
  .exact(d b hb).2.2.1 e
theorem O0 {fp:Dd}{C:Eo}{h':EI}{tk:Nat}(O:wD sc N N' src scope)(t:X.env.scope=sc)(E:X.N=N)(I:Inv X Dp σ H s)(F:∀b∈fp,XE X Dp H b)
  (G:∀b∈fp,∃o,s.heap.get? b=some o) (A:s.heap.objs.size<=C) (k:∀b o,s.heap.get? b=some o->h'.get? b=some o) {L:Str->Dc} (hn:h'.Ns C L) :
  Inv (X.comp N' scope C s H fp) [] (US src σ) H { s with heap:=h',toks:=tk }:=by
 have cells:∀x c,X.env.cells.lookup x=some c->∀v,s.heap.IsCell c v->h'.IsCell c v:=λx c _ v ⟨o,e,d⟩=>⟨o,k c o e,d⟩;refine⟨R7 O t I F G A,rfl,I.bare,Un.kept k,⟨_,hn,λj x v y f P=>?_⟩,λx c e=>?_,I.hok.fresh A,λx c e=>I.wR x c<|kK e,λp J=>(by cases J),I.hok.kept k,?_⟩
 .have f:(US src σ)[j]?=some (some v):=f;have y:N'[j]?=some x:=y;unfold US at f;rw[Zy]at f;cases q:src[j]? with
  |none=>rw[q]at f;cases f
  |some o =>
   rw[q]at f;have f:(o.bind λi=>(σ[i]?).join)=some v:=Option.some.inj f;cases o with
   |none=>cases f
   |some i =>
    have f:(σ[i]?).join=some v:=f;obtain⟨Q,n⟩:=O.at q y;have B:=Y6 n;have D:σ[i]?=some (some v):=by
     cases r:σ[i]? with
     |none=>rw[r]at f;cases f
     |some w=>rw[r]at f;cases w with
      |none=>cases f
      |some w'=>have:w'=v:=Option.some.inj f;rw[this]
    have l:=O.free _ B rfl;rw[<-t]at l;obtain⟨m,hm,hl⟩:=I.loc;obtain⟨u,M,K⟩:=hl i x v (by rwa[E]) D<|.inr l;refine⟨u,M,.inr ?_⟩;obtain⟨c,hc,g⟩:∃c,X.env.cells.lookup x=some c/\s.heap.IsCell c (some u):=by
     rcases K with⟨z,_⟩|⟨_,c,hc,hz⟩
     .exfalso;have z:X.env.scope.names.lookup x=some .local:=z
      rcases l with l|l<;>(rw[l]at z;cases z)
     .exact⟨c,hc,hz⟩
    refine⟨?_,c,M8 hc B,cells x c hc _ g⟩;show(MB scope (qV X.env scope) C X.env).scope.names.lookup x=some .cell\/(MB scope (qV X.env scope) C X.env).scope.names.lookup x=some .free;rw[XM,n];show some (HM X.env x .free)=some .cell\/some (HM X.env x .free)=some .free;unfold HM
    split
    .exact .inl rfl
    .exact .inr rfl
 .obtain⟨v,z⟩:=I.cell x c<|kK e;exact⟨v,cells x c (kK e) v z⟩
 .show(US src σ).length=N'.length;unfold US;rw[Zk];exact O.len
theorem Iv {Dp:De}{σ:St}{H:Hp}{s:Et}{fp:Dd}{it:Eo}{tn:Nat->EI->Prop}{J:It}{E:Ep->Dh}{RR:Ep->Eo->Result->Dh}{Fin:Dj->Hp->Prop}(O:wD sc N N' src scope)(a7:X.env.scope=sc)(hN:X.N=N){U:Cx->Prop}(hU:∀C s H fp,U<|X.comp N' scope C s H fp)
  (hg:∀C s H fp,PG (X.comp N' scope C s H fp) tg g) (a6:∀C s H fp,lH (X.comp N' scope C s H fp) ifs tf) (he:∀C s H fp,PE (X.comp N' scope C s H fp) elt te)
  (I:Inv X Dp σ H s) (T:ph U X.prog X.w X.K tg J fp it tn) (t0:tn 0 s.heap) (hf:∀b∈fp,XE X Dp H b)
  (W:Nat->Nat->Dj->St->Hp->Prop) (m0:Nat) (w0:W 0 m0 [] (US src σ) H)
  (hW:∀i m ys σ' H',W i m ys σ' H'->ys.length<=sizeLine/\((J.stop i H'/\Fin ys H') \/ (J.go i H'/\∃Nx:Dj->St->Hp->Prop,(∀ys2 σ2 H2,Nx ys2 σ2 H2->∃m',m'<m/\W (i+1) m' ys2 σ2 H2) /\ ∀x H2,J.oM i H' x H2->g x σ' H2 λσ2 H3=>tf σ2 H3 λb H4=>if b=true then te σ2 H4 λy H5=>Nx (ys++[y]) σ2 H5 else Nx ys σ2 H4)))
  (a5:∀(D C:Eo) (s':Et) (σ':St) (H':Hp) (ys:Dj) (its:Db) (n:Nat),s.heap.objs.size<=D->s.heap.objs.size<=C->Inv (X.comp N' scope C s H fp) [] σ' H' s'->s'.heap.get? D=some { cls:=.type "list",data:=.seq its.toArray n }->zb ys its->ys.length<=sizeLine -> H' D=none->D≠C->Fin ys H'->RR (.ref D) C (.ok .next) s') :
  Es (Ez X.prog X.w) X.A (newList []) (λacc s₃=>Es (Ez X.prog X.w) X.A (newFunctionEnv scope X.env.globals (qV X.env scope) [] X.env.qual none .none<|some X.env) (λcenv s₄ => LS (Ez X.prog X.w) X.A (.compStart (.ListComp elt [⟨tg,iter,ifs,0⟩] scope pos) 0 (.ref it) acc { cenv with scope:=relabel scope X.env }) (RR acc cenv.locals) s₄) E s₃) E s:=by
 refine Yh (wpAny_newFunctionEnv O.pU (by intro y hy;cases hy) (λF j f=>?_) O.kind);dsimp only at j f ⊢;generalize ac:s.heap.push { cls:=.type "list",dict:=none,data:=.seq ([]:Db).toArray }=P2 at j f ⊢;have ab:P2.objs.size=s.heap.objs.size+1:=by rw[<-ac,Je]
 have L:s.heap.objs.size≠P2.objs.size:=by rw[ab];exact ZO<|JH _
 have bh:s.heap.objs.size<=P2.objs.size:=by rw[ab];exact JM _
 have below:∀b,b<s.heap.objs.size->b≠P2.objs.size/\b≠s.heap.objs.size:=λb hb=>⟨by rw[ab];exact ZO<|J1 hb,ZO hb⟩;have old:∀b o,s.heap.get? b=some o->F.get? b=some o:=λb o e=>f.extBut b o (below b<|ZC e).1<|Zp _<|ac▸Zp _ e;have DN:F.get? s.heap.objs.size=some { cls:=.type "list",data:=.seq ([]:Db).toArray 0 }:=f.extBut _ _ L<|Zp _<|ac▸Zz _ rfl;have al:∀b∈fp,∃o,s.heap.get? b=some o:=λb hb=>let ⟨o,e,_⟩:=T.obj 0 _ t0 b hb;⟨o,e⟩;have G:∀b∈fp,b<s.heap.objs.size:=λb hb=>let ⟨o,e⟩:=al b hb;ZC e;generalize hD:s.heap.objs.size=D at *;generalize hC:P2.objs.size=C at *;have au:∀tk,Inv (X.comp N' scope C s H fp) [] (US src σ) H { s with heap:=F,toks:=tk }:=λtk=>O0 O a7 hN I hf al (by rwa[hD]) old j;have sU:(X.comp N' scope C s H fp).Ok:=(au 0).ok;have M:∀{H':Hp} {pl:De},(∀b∈fp,H' b=none)->(∀p∈pl,p.1∉fp)->∀b∈fp,XE (X.comp N' scope C s H fp) pl H' b:=λ{H' pl} hn l b hb =>
  ⟨hn b hb,(sU.ju b hb).1,sU.pL b hb,.inl hb,(sU.ju b hb).2,λp hm=>by
   have hm:p∈pl:=by simpa[Cx.comp] using hm
   exact λz=>l p hm<|z▸hb⟩
 have ai:D∉(X.comp N' scope C s H fp).fs:=λhb=>by
  obtain⟨_,o,ho,_⟩:=sU.uv.mem hb;have ho:s.heap.get? D=some o:=ho;have h1:=ZC ho;rw[hD]at h1;exact YB _ h1
 have S:∀x c,(X.comp N' scope C s H fp).env.cells.lookup x=some c->c≠D:=λx c e z=>by
  obtain⟨v,o,ho,_⟩:=I.cell x c<|kK e;have h1:=ZC ho;rw[hD,z]at h1;exact YB _ h1
 have loop:∀tk,LS (Ez X.prog X.w) X.A (.compLoop (.ListComp elt [⟨tg,iter,ifs,0⟩] scope pos) 0 (.ref it) (.ref D)<|MB scope (qV X.env scope) C X.env) (RR (.ref D) C) { s with heap:=F,toks:=tk }:=by
  intro tk;refine Pz (λn s'=>∃i ys σ' H' its c,Inv (X.comp N' scope C s H fp) [] σ' H' s'/\tn i s'.heap/\(∀b∈fp,H' b=none)/\s'.heap.get? D=some { cls:=.type "list",data:=.seq (its:Db).toArray c }/\zb ys its/\H' D=none/\W i n ys σ' H') ?_ m0
   ⟨0,[],US src σ,H,[],0,au tk,T.keep 0 _ _ t0 λb _ o e=>old b o e,λb hb=>(hf b hb).1,DN,.nil,I.hok.fresh (by rw[hD];exact Zt _),w0⟩
  rintro n s3 ⟨i,ys,t,H3,its,B,I3,ax,am,d3,v3,ap,w3⟩;obtain⟨Dq,a3⟩:=hW i n ys t H3 w3
  rcases a3 with⟨stop,fin⟩|⟨go,Nx,hNx,step⟩
  .have Y:Inv (X.comp N' scope C s H fp) [(D,{ cls:=.type "list",data:=.seq its.toArray B })] t H3 s3:=I3.vf λp l=>by
    have e:p=(D,{ cls:=.type "list",data:=.seq its.toArray B }):=by simpa using l
    subst e;exact⟨d3,ap,L,ai,λv z=>by cases z⟩
   refine Ct (T.done (X.comp N' scope C s H fp) rfl rfl rfl (hU _ _ _ _) i _ s3 t H3 _ Y (M am λp l z=>by
    have e:p=(D,{ cls:=.type "list",data:=.seq its.toArray B }):=by simpa using l
    rw[e]at z;exact YB _<|G D z) ax stop) λr s4 ⟨hr,I4⟩=>?_
   subst hr;obtain⟨d4,a8,_⟩:=I4.pin (D,{ cls:=.type "list",data:=.seq its.toArray B }) (by simp[Cx.comp]);exact a5 D C s4 t H3 ys its B (by lia) (by lia) (I4.vf λp l=>(by cases l)) d4 v3 Dq a8 L fin
  .have Y:Inv (X.comp N' scope C s H fp) [(D,{ cls:=.type "list",data:=.seq its.toArray B })] t H3 s3:=I3.vf λp l=>by
    have e:p=(D,{ cls:=.type "list",data:=.seq its.toArray B }):=by simpa using l
    subst e;exact⟨d3,ap,L,ai,λv z=>by cases z⟩
   have an:∀p∈[((D,{ cls:=.type "list",data:=.seq its.toArray B }):Eo×Obj)],p.1∉fp:=λp l z=>by
    have e:p=(D,{ cls:=.type "list",data:=.seq its.toArray B }):=by simpa using l
    rw[e]at z;exact YB _<|G D z
   refine Ct (T.item (X.comp N' scope C s H fp) rfl rfl rfl (hU _ _ _ _) i _ s3 t H3 _ Y (M am an) ax go) λr s4 ⟨u,hr,h4⟩=>?_;subst hr;refine Ct h4 λ_ s5 q9=>?_;obtain⟨x,H5,I5,r5,y5,ah,a4⟩:=q9;have a1:=I5.pinned (M a4 an)<|T.obj _ _ ah;have R:(D,({ cls:=.type "list",data:=.seq its.toArray B }:Obj))∈(X.comp N' scope C s H fp).pn++([((D,{ cls:=.type "list",data:=.seq its.toArray B }):Eo×Obj)]++Xt fp s5.heap):=by simp[Cx.comp]
   have Q:∀{a0:St} {P:Hp} {s7:Et},Inv (X.comp N' scope C s H fp) ([((D,{ cls:=.type "list",data:=.seq its.toArray B }):Eo×Obj)]++Xt fp s5.heap) a0 P s7 ->
     tn (i+1) s7.heap/\∀b∈fp,P b=none:=λ{a0 P s7} Z=>⟨T.keep _ _ _ ah λb hb o e=>(Z.pin (b,o)<|ZW _<|ZW _<|kF hb e).1,λb hb=>by
    obtain⟨o,e,d⟩:=T.obj _ _ ah b hb;exact(Z.pin (b,o)<|ZW _<|ZW _<|kF hb e).2.1⟩
   refine Ct (hg C s H fp _ s5 t H5 x u _ a1 r5<|step x H5 y5) λ_ s6 ⟨q,H6,I6,q6⟩=>?_;refine Ct (a6 C s H fp _ s6 q H6 _ I6 q6) λb s7 ⟨P,Z,q7⟩=>?_;cases b with
   |false =>
    obtain⟨m',ad,w7⟩:=hNx ys q P (by simpa using q7);obtain⟨b1,b2⟩:=Q Z;obtain⟨d7,a9,_⟩:=Z.pin _ R;exact⟨m',ad,i+1,ys,q,P,its,B,Z.vf λp l=>(by cases l),b1,b2,d7,v3,a9,w7⟩
   |true =>
    have q7:te q P λy H5=>Nx (ys++[y]) q H5:=by simpa using q7
    rw[ZK rfl];refine Ct (he C s H fp _ s7 q P _ Z q7) λu8 s8 ⟨y,H8,I8,r8,n8⟩=>?_;obtain⟨m',ad,w8⟩:=hNx _ _ _ n8;obtain⟨b1,b2⟩:=Q I8;obtain⟨d8,as,_⟩:=I8.pin _ R;have hl:=v3.length;refine wpAny_list_append_plain (items:=its.toArray) ⟨B,d8⟩ (λh9 ⟨c9,d9⟩ av=>?_) (by rwa[ZP,<-hl]);have a2:Inv (X.comp N' scope C s H fp) [] q H8 s8:=I8.vf λp l=>by cases l
    have I9:Inv (X.comp N' scope C s H fp) [] q H8 { s8 with heap:=h9 }:=a2.turned (t':=s8.toks) (it:=D) (λb o hb e=>(av.2 b hb).trans e) as L (.inr (by show s.heap.objs.size<=D;lia)) S (λp l=>by
     have l:p∈([]:De):=by simpa[Cx.comp] using l
     cases l)
    refine⟨m',ad,i+1,ys++[y],q,H8,its++[u8],c9,I9,T.keep _ _ _ b1 λb hb o e=>(av.2 b<|λz=>YB _<|z▸G b hb).trans e,b2,?_,v3.append<|.cons r8 .nil,as,w8⟩;show h9.get? D=_;rw[d9];simp
 exact codeAny_compStart_list (loop _)<|T.self _ 0 _ _ _ (T.keep 0 _ _ t0 λb _ o e=>old b o e)<|loop _
theorem comp_back {g:St}{H':Hp}{e:Et}{fp:Dd}{C D:Eo}{f:Dj}{c:Db}{n:Nat}(I:Inv X Dp σ H s)(q:∀b∈fp,XE X Dp H b)
  (J:Inv (X.comp N' scope C s H fp) [] g H' e) (i:s.heap.objs.size<=D) (d:e.heap.get? D=some { cls:=.type "list",data:=.seq c.toArray n }) (v:zb f c) (hl:f.length<=sizeLine) (r:H' D=none) :
  Inv X Dp σ (upd H' D<|.lst f) e:=by
 have u:Un (frs X.stack) fp H H' s.heap e.heap:=J.base;refine I.call' (ch:=fp) J.os (u.adopt (VX i)<|I.hok.fresh i) (J.hok.adopt r ⟨hl,c,n,v,d⟩) J.bare λb hb=>?_;obtain⟨_,j,_,l,o,p⟩:=q b hb;exact⟨l,j,o,p⟩
theorem Bn {C:Eo}{h':EI}(I:Inv X Dp σ H s)(d:Inv X Dp σ2 H2 s2)(l:s.heap.objs.size<=C)(c:H2 C=none)(n:Lp C s2.heap h'):Inv X Dp σ2 H2 { s2 with heap:=h' }:=by
 obtain⟨_,f,_,g,i,j⟩:=I.tB (H':=H2) l c;exact d.turned (t':=s2.toks) (it:=C) (λb o hb e=>(n.2 b hb).trans e) c f g i j
theorem xL (O:wD sc N N' src scope)(f:X.env.scope=sc)(P:X.N=N)(b:X.calm=true)(S:PI X tg iter wi)
  (R:∀C s H fp,PG (X.comp N' scope C s H fp) tg g) (t:∀C s H fp,lH (X.comp N' scope C s H fp) ifs tf) (he:∀C s H fp,PE (X.comp N' scope C s H fp) elt te)
  (hs:∀x,LW iter X.env x=LC x:=by intro _;rfl):PE X (.ListComp elt [⟨tg,iter,ifs,0⟩] scope pos) (NO src wi g tf te):=by
 intro y s F H Q I h;rw[eval_ListComp];have c:closureFor scope X.env=LC (qV X.env scope):=uF λx U hk=>I.ok.has x.1 (by
  have:=O.free x U hk;rw[<-f]at this;exact this)
 refine wpAny_comprehension_free (use:=none) rfl hs c O.kind O.names<|Ct (S y s F H _ I h) λv s1 h1=>Ct h1 λZ s2 K=>?_;obtain⟨it,fp,tn,J,H2,e,l,T,u,z,W,⟨m0,w0⟩,i⟩:=K;subst e;refine Iv (RR:=λq C=>compPost (Ez X.prog X.w) X.A X.xe none (EP X y F Q) q C) (Fin:=λE j=>∀p,j p=none->Q (.ref p) (upd j p<|.lst E)) O f P (λ_ _ _ _=>b) R t he l T u z W m0 w0 i ?_;intro D C s' ab j E Y n M L o d vv hl B r fin;have G:=comp_back l z o M d vv hl B;obtain⟨m,hm,_⟩:=o.loc;have nC:j C=none:=o.free;refine⟨m,hm,λh' sb=>⟨.ref D,_,Bn l G L (by rwa[zI<|EC r]) sb,rfl,fin D B⟩⟩
theorem Hx {U:Cx->Prop}{k:Nat}{y:Str}{f P:Pos}(O:wD sc N N' src scope)(l:X.env.scope=sc)(hN:X.N=N)(hU:∀C s H fp,U<|X.comp N' scope C s H fp)(hi:bF U X tg iter wi)
  (hg:∀C s H fp,PG (X.comp N' scope C s H fp) tg g) (G:∀C s H fp,lH (X.comp N' scope C s H fp) ifs tf) (he:∀C s H fp,PE (X.comp N' scope C s H fp) elt te)
  (nd:X.N.Nodup) (hk:X.N[k]?=some y) (L:Loc X.env.scope y)
  (K:Mi (.ListComp elt [⟨tg,iter,ifs,0⟩] scope pos) (some<|.Name y f) P.line X.env=LC true:=by rfl)
  (hf:X.fn y=true\/X.env.scope.names.lookup y=some .local:=by first|exact .inl rfl|exact .inr rfl|assumption)
  (hs:∀x,LW iter X.env x=LC x:=by intro _;rfl):PS X (.Assign [.Name y f] (.ListComp elt [⟨tg,iter,ifs,0⟩] scope pos) P) (OC (NO src wi g tf te)<|Xc k):=by
 intro t s Z H b I h;rw[exec_Assign_Name_used _ _ _ _ K];refine Zm<|wpAny_standAt<|Zm ?_;show Es _ X.A (do let _ <-comprehension (.ListComp elt [⟨tg,iter,ifs,0⟩] scope pos) scope X.env _ (newList []) false (Lc iter X.env) (some<|assign (.Name y f) X.env)) _ _ s;have c:closureFor scope X.env=LC (qV X.env scope):=uF λx L hk=>I.ok.has x.1 (by
  have:=O.free x L hk;rw[<-l]at this;exact this)
 refine Zm<|Yy (wpAny_comprehension_free (use:=some<|assign (.Name y f) X.env) (Q:=λ_ i=>SP X t b .next i) rfl hs c O.kind O.names<|Ct (hi t s Z H _ I h) λv s1 h1=>Ct h1 λac s2 h2=>?_) (λ_ i hq=>Zu<|Zu hq) λ_ _ e=>e
 obtain⟨it,fp,tn,J,H2,e,j,T,M,R,W,⟨m0,w0⟩,q⟩:=h2;subst e;refine Iv (RR:=λB C=>compPost (Ez X.prog X.w) X.A X.xe (some<|assign (.Name y f) X.env) (λ_ i=>SP X t b .next i) B C) (Fin:=λY r=>∀p,r p=none->Xc k (.ref p) Z (upd r p<|.lst Y) b.nx) O l hN hU hg G he j T M R W m0 w0 q ?_;intro D C i ad r Y ab n hD E u d vv hl S F fin;have I3:=comp_back j R u hD d vv hl S;obtain⟨m,hm,_⟩:=u.loc;have nC:r C=none:=u.free;show Es _ X.A (assign (.Name y f) X.env<|.ref D) _ _ i;refine wpAny_assign_Name<|G3 I3 nd hk L (v:=.ref D) rfl (λs4 I4 ⟨a,sa,ha⟩=>?_) hf;have aC:C≠a:=by
  rcases ha with e|e
  .rw[e];intro z;exact YB _<|ZU j.lt<|z▸E
  .intro z;obtain⟨v,o,ho,_⟩:=j.cell y a e;exact YB _<|ZU (ZC ho)<|z▸E
 refine⟨m,Heap.Ns.sameBut hm sa aC,λh' sb=>⟨_,_,Bn j I4 E (by rwa[zI<|EC F]) sb,fin D S⟩⟩
theorem NE {k:Nat}{y:Str}{i f:Pos}(O:wD sc N N' src scope)(d:X.env.scope=sc)(j:X.N=N)(b:X.calm=true)(o:PI X tg iter wi)
  (n:∀C s H fp,PG (X.comp N' scope C s H fp) tg g) (c:∀C s H fp,lH (X.comp N' scope C s H fp) ifs tf) (he:∀C s H fp,PE (X.comp N' scope C s H fp) elt te)
  (nd:X.N.Nodup) (hk:X.N[k]?=some y) (p:Loc X.env.scope y)
  (e:Mi (.ListComp elt [⟨tg,iter,ifs,0⟩] scope pos) (some<|.Name y i) f.line X.env=LC true:=by rfl)
  (l:X.fn y=true\/X.env.scope.names.lookup y=some .local:=by first|exact .inl rfl|exact .inr rfl|assumption)
  (hs:∀x,LW iter X.env x=LC x:=by intro _;rfl):PS X (.Assign [.Name y i] (.ListComp elt [⟨tg,iter,ifs,0⟩] scope pos) f) (OC (NO src wi g tf te)<|Xc k) :=
 Hx O d j (λ_ _ _ _=>b) o n c he nd hk p e l hs
end
def cj (t u:TS):TS:=λD d H=>∃R:St->Hp->Prop,t { D with nx:=R } d H/\∀b c,R b c->u D b c
theorem xQ {st:ER}{b:List ER}(h1:PS X st t)(i:qw X b u):qw X (st::b) (cj t u):=by
 intro d s n H D I ⟨R,h,j⟩;refine Uq<|Ct (h1 d s n H { D with nx:=R } I h) λf l q=>?_;cases f with
 |next =>
  obtain⟨c,e,g,q⟩:=q;exact i d l c e D g<|j c e q
 |ret v=>exact q
 |brk=>exact q
 |cont=>exact q
section
variable {K:Cq}{src:List (Option Nat)}{g:TG}{tf:TT}{te:TE}{Q:VK}{a:Eo}{xs:Dj}{σ:St}{H:Hp}
theorem Ii {J:It}(n:Nat)(d:Nat->Dj->St->Hp->Prop)(h0:d 0 [] (US src σ) H)(hz:n<=sizeLine)(hl:∀i ys σ H,i<=n->d i ys σ H->ys.length<=i)
  (o:∀ys σ H,d n ys σ H->J.stop n H) (l:∀i ys σ H,i<n->d i ys σ H->J.go i H)
  (hs:∀i ys σ H,i<n->d i ys σ H->∀x H2,J.oM i H x H2->g x σ H2 λσ2 H3=>tf σ2 H3 λb H4=>if b=true then te σ2 H4 λy H5=>d (i+1) (ys++[y]) σ2 H5 else d (i+1) ys σ2 H4)
  (hd:∀ys σ H,d n ys σ H->∀p,H p=none->Q (.ref p) (upd H p<|.lst ys)):U6 src J g tf te Q σ H:=by
 refine⟨λi m ys σ H=>m=n-i/\i<=n/\d i ys σ H,⟨n,by simp,Yb _,h0⟩,?_⟩;rintro i m ys c j ⟨rfl,q,p⟩;have s:=hl i ys c j q p;refine⟨by lia,?_⟩
 by_cases f:i<n
 .exact .inr ⟨l i ys c j f p,d<|i+1,λr σ2 H2 z=>⟨n-(i+1),by lia,rfl,f,z⟩,λx H2 y=>hs i ys c j f p x H2 y⟩
 .have e:i=n:=by lia
  subst e;exact .inl ⟨o ys c j p,hd ys c j p⟩
theorem GO (c:Nat->Dj->St->Hp->Prop)(h0:c 0 [] (US src σ) H)(hz:xs.length<=sizeLine)(hl:∀i ys σ H,i<=xs.length->c i ys σ H->yu K H a xs/\ys.length<=i)
  (hs:∀i x ys σ H,xs[i]?=some x->c i ys σ H->g x σ H λσ2 H3=>tf σ2 H3 λb H4=>if b=true then te σ2 H4 λy H5=>c (i+1) (ys++[y]) σ2 H5 else c (i+1) ys σ2 H4)
  (hd:∀ys σ H,c xs.length ys σ H->∀p,H p=none->Q (.ref p) (upd H p<|.lst ys)):U6 src (OL K a) g tf te Q σ H :=
 Ii xs.length c h0 hz (λi ys σ H d p=>(hl i ys σ H d p).2) (λys σ H p=>⟨xs,(hl _ ys σ H (Zt _) p).1,Zt _⟩) (λi ys σ H d p=>⟨xs,xs[i],(hl i ys σ H (YE d) p).1,by simp[d]⟩)
  (λi ys σ H d p x f y=>by
   obtain⟨e,y⟩:=y;subst e;exact hs i x ys σ _ (y xs (hl i ys σ _ (YE d) p).1) p) hd
theorem O1 (c:Nat->Dj->St->Hp->Prop)(h0:c 0 [] (US src σ) H)(hz:xs.length<=sizeLine)(hl:∀i ys σ H,i<=xs.length->c i ys σ H->wY K H a xs/\ys.length<=i)
  (hs:∀i x ys σ H,xs[i]?=some x->c i ys σ H->g x σ H λσ2 H3=>tf σ2 H3 λb H4=>if b=true then te σ2 H4 λy H5=>c (i+1) (ys++[y]) σ2 H5 else c (i+1) ys σ2 H4)
  (hd:∀ys σ H,c xs.length ys σ H->∀p,H p=none->Q (.ref p) (upd H p<|.lst ys)):U6 src (RV K a) g tf te Q σ H :=
 Ii xs.length c h0 hz (λi ys σ H d p=>(hl i ys σ H d p).2) (λys σ H p=>⟨xs,(hl _ ys σ H (Zt _) p).1,Zt _⟩) (λi ys σ H d p=>⟨xs,xs[i],(hl i ys σ H (YE d) p).1,by simp[d]⟩)
  (λi ys σ H d p x f y=>by
   obtain⟨e,y⟩:=y;subst e;exact hs i x ys σ _ (y xs (hl i ys σ _ (YE d) p).1) p) hd
theorem Ks {lo:Int}{n:Nat}(c:Nat->Dj->St->Hp->Prop)(h0:c 0 [] (US src σ) H)(hz:n<=sizeLine)(hl:∀i ys σ H,i<=n->c i ys σ H->ys.length<=i)
  (hs:∀i ys σ H,i<n->c i ys σ H->g (.int<|lo+i) σ H λσ2 H3=>tf σ2 H3 λb H4=>if b=true then te σ2 H4 λy H5=>c (i+1) (ys++[y]) σ2 H5 else c (i+1) ys σ2 H4)
  (hd:∀ys σ H,c n ys σ H->∀p,H p=none->Q (.ref p) (upd H p<|.lst ys)):U6 src (RX lo n) g tf te Q σ H :=
 Ii n c h0 hz hl (λ_ _ _ _=>Zt _) (λ_ _ _ _ d _=>d)
  (λi ys σ H d p x f y=>by
   obtain⟨e,y⟩:=y;subst e y;exact hs i ys σ _ d p) hd
theorem Fa {te:TE}{A:V->St->Hp->Prop}{B:St->Hp->Prop}:(λσ2 H3=>Im σ2 H3 λb H4=>if b=true then te σ2 H4 (λy H5=>A y σ2 H5) else B σ2 H4)=λ(σ2:St) (H3:Hp)=>te σ2 H3 λy H5=>A y σ2 H5:=by
 funext σ2 H3
 show(if true=true then(te σ2 H3 λy H5=>A y σ2 H5) else B σ2 H3)=_;rw[ZK rfl]
theorem jG (b:Nat->Dj->St->Hp->Prop)(h0:b 0 [] (US src σ) H)(hz:xs.length<=sizeLine)(hl:∀i ys σ H,i<=xs.length->b i ys σ H->yu K H a xs/\ys.length<=i)
  (hs:∀i x ys σ H,xs[i]?=some x->b i ys σ H->g x σ H λσ2 H3=>te σ2 H3 λy H5=>b (i+1) (ys++[y]) σ2 H5)
  (hd:∀ys σ H,b xs.length ys σ H->∀p,H p=none->Q (.ref p) (upd H p<|.lst ys)):U6 src (OL K a) g Im te Q σ H :=
 GO b h0 hz hl (λi x ys σ H e p=>by rw[Fa];exact hs i x ys σ H e p) hd
theorem uN (b:Nat->Dj->St->Hp->Prop)(h0:b 0 [] (US src σ) H)(hz:xs.length<=sizeLine)(hl:∀i ys σ H,i<=xs.length->b i ys σ H->wY K H a xs/\ys.length<=i)
  (hs:∀i x ys σ H,xs[i]?=some x->b i ys σ H->g x σ H λσ2 H3=>te σ2 H3 λy H5=>b (i+1) (ys++[y]) σ2 H5)
  (hd:∀ys σ H,b xs.length ys σ H->∀p,H p=none->Q (.ref p) (upd H p<|.lst ys)):U6 src (RV K a) g Im te Q σ H :=
 O1 b h0 hz hl (λi x ys σ H e p=>by rw[Fa];exact hs i x ys σ H e p) hd
theorem jI {lo:Int}{n:Nat}(b:Nat->Dj->St->Hp->Prop)(h0:b 0 [] (US src σ) H)(hz:n<=sizeLine)(hl:∀i ys σ H,i<=n->b i ys σ H->ys.length<=i)
  (hs:∀i ys σ H,i<n->b i ys σ H->g (.int<|lo+i) σ H λσ2 H3=>te σ2 H3 λy H5=>b (i+1) (ys++[y]) σ2 H5)
  (hd:∀ys σ H,b n ys σ H->∀p,H p=none->Q (.ref p) (upd H p<|.lst ys)):U6 src (RX lo n) g Im te Q σ H :=
 Ks b h0 hz hl (λi ys σ H e p=>by rw[Fa];exact hs i ys σ H e p) hd
end
mutual
def Dt (K:Cq)(H:Hp):Ey->V->Prop
 | .none,v=>v=.non
 | .bool b,v=>v=.bl b
 | .int i,v=>v=.int i
 | .str x,v=>v=.str x
 | .list ds,v=>∃a c,v=.ref a/\yu K H a c/\zu K H ds c
 | .tuple ds,v=>∃a c,v=.ref a/\wY K H a c/\zu K H ds c
 | .dict _,_=>False
def zu (K:Cq)(H:Hp):Df->Dj->Prop
 |[],xs=>xs=[]
 |d::ds,xs=>∃x r,xs=x::r/\Dt K H d x/\zu K H ds r
end
theorem zx.yg {K:Cq}(e:zx H H')(h:wY K H a xs):wY K H' a xs:=by
 rcases h with(h|⟨o,h⟩)|h
 .exact .inl (.inl<|e _ _ h)
 .exact .inl (.inr ⟨o,e _ _ h⟩)
 .exact .inr h
mutual
theorem Dt.same {K:Cq}(e:zx H H'):∀(d:Ey) (v:V),Dt K H d v->Dt K H' d v
 | .none,_,h=>h
 | .bool _,_,h=>h
 | .int _,_,h=>h
 | .str _,_,h=>h
 | .list ds,_,⟨a,xs,h1,h2,h3⟩=>⟨a,xs,h1,e.seq h2,zu.same e ds xs h3⟩
 | .tuple ds,_,⟨a,xs,h1,h2,h3⟩=>⟨a,xs,h1,e.yg h2,zu.same e ds xs h3⟩
 | .dict _,_,h=>h
theorem zu.same {K:Cq}(e:zx H H'):∀(ds:Df) (xs:Dj),zu K H ds xs->zu K H' ds xs
 |[],_,h=>h
 |d::ds,_,⟨x,r,h1,h2,h3⟩=>⟨x,r,h1,Dt.same e d x h2,zu.same e ds r h3⟩
end
theorem zu.length {K:Cq}:∀{ds:Df} {xs:Dj},zu K H ds xs->xs.length=ds.length
 |[],_,h=>by cases(show _=[] from h);rfl
 |d::ds,_,⟨x,r,h1,h2,h3⟩=>by rw[h1,ZF,ZF,zu.length h3]
theorem zu.append {K:Cq}:∀{ds es:Df} {xs ys:Dj},zu K H ds xs->zu K H es ys->zu K H (ds++es) (xs++ys)
 |[],_,_,_,h,h'=>by cases(show _=[] from h);exact h'
 |d::ds,_,_,_,⟨x,r,h1,h2,h3⟩,h'=>⟨x,r++_,by rw[h1];rfl,h2,zu.append h3 h'⟩
theorem zu.get {K:Cq}:∀{ds:Df} {xs:Dj} {i:Nat} {x:V},zu K H ds xs->xs[i]?=some x->∃d,ds[i]?=some d/\Dt K H d x
 |[],_,_,_,h,e=>by cases(show _=[] from h);simp at e
 |d::ds,_,0,_,⟨x,r,h1,h2,h3⟩,e=>by rw[h1]at e;simp at e;subst e;exact⟨d,rfl,h2⟩
 |d::ds,_,i+1,_,⟨x,r,h1,h2,h3⟩,e=>by
  rw[h1]at e;obtain⟨b,c,f⟩:=zu.get (i:=i) h3 (by simpa using e);exact⟨b,by simpa using c,f⟩
theorem zu.strs {K:Cq}:∀(ls:Da),zu K H (ls.map EQ) (ls.map V.str)
 |[]=>rfl
 |x::ls=>⟨.str x,ls.map V.str,rfl,rfl,zu.strs ls⟩
theorem zu.ud {K:Cq}:∀{ls:Da} {xs:Dj},zu K H (ls.map EQ) xs->xs=ls.map V.str
 |[],_,h=>h
 |x::ls,_,⟨v,r,h1,b,h3⟩=>by
  have b:v=V.str x:=b;rw[h1,b,zu.ud h3];rfl
section
variable {X:Cx}{Dp:De}{σ:St}{H:Hp}{s:Et}
mutual
theorem Dt.zq (I:Inv X Dp σ H s):∀(d:Ey) (v:V) (u:Ep),Dt X.K H d v->za v u->∃as,Reads s.heap u d as
 | .none,_,u,h,r=>by
  cases(show _=V.non from h);cases(show u=EH from r);exact⟨_,.none⟩
 | .bool b,_,u,h,r=>by
  cases(show _=V.bl b from h);cases(show u=Mg b from r);exact⟨_,.bool b⟩
 | .int i,_,u,h,r=>by
  cases(show _=V.int i from h);obtain⟨t,e⟩:=(show∃t,u=Mt i t from r);cases e;exact⟨_,.int i t⟩
 | .str x,_,u,h,r=>by
  cases(show _=V.str x from h);obtain⟨t,e⟩:=(show∃t,u=L8 x t from r);cases e;exact⟨_,.str x t⟩
 | .list ds,_,u,⟨a,xs,h1,h2,h3⟩,r=>by
  subst h1;cases(show u=EB a from r);obtain⟨f,g,⟨o,n,e,c,_,d⟩,_⟩:=I.list h2;obtain⟨as,q⟩:=zu.zq I ds xs f h3 g;exact⟨_,.list e c d<|by simpa using q⟩
 | .tuple ds,_,u,⟨a,xs,h1,h2,h3⟩,r=>by
  subst h1;cases(show u=EB a from r);obtain⟨f,g,⟨o,e,c,n,d⟩,_⟩:=I.tuple h2;obtain⟨as,q⟩:=zu.zq I ds xs f h3 g;exact⟨_,.tuple e c d<|by simpa using q⟩
 | .dict _,_,_,h,_=>EL h
theorem zu.zq (I:Inv X Dp σ H s):∀(ds:Df) (xs:Dj) (us:Db),zu X.K H ds xs->zb xs us->∃as,LU s.heap us ds as
 |[],_,us,h,r=>by
  cases(show _=[] from h);cases r;exact⟨_,.nil⟩
 |d::ds,_,us,⟨x,rr,h1,h2,h3⟩,r=>by
  subst h1;cases r with
  |cons r1 r2 =>
   obtain⟨as,b⟩:=Dt.zq I d x _ h2 r1;obtain⟨bs,c⟩:=zu.zq I ds rr _ h3 r2;exact⟨_,.cons b c⟩
end
end
section
variable {X:Cx}
inductive iU (K:Cq)(x y:V)(H:Hp)(Q:VK):Prop
 |mk (d e:Ey) (h:Dt K H d x) (i:Dt K H e y) (s:EW d=true) (t:EW e=true) (q:Q (.bl<|EM d e) H):iU K x y H Q
def bY (K:Cq):R2:=λx y H Q=>∃d e,Dt K H d x/\Dt K H e y/\EW d=true/\EW e=true/\Q (.bl<|!EM d e) H
theorem vK (f:X.A.units+64<E8):CH X (ES .Eq) (iU X.K):=by
 intro n s p H x y v u Q I j l h;obtain⟨d,e,h1,b,c,h4,q⟩:=h;obtain⟨o,g⟩:=Dt.zq I d x v h1 j;obtain⟨bs,i⟩:=Dt.zq I e y u b l;exact SeqAt.compareEq_shaped g i c h4 f ⟨.bl _,H,I,rfl,q⟩
theorem Wr (f:X.A.units+64<E8):CH X (ES .NotEq) (bY X.K):=by
 intro n s p H x y v u Q I j l h;obtain⟨d,e,h1,b,c,h4,q⟩:=h;obtain⟨o,g⟩:=Dt.zq I d x v h1 j;obtain⟨bs,i⟩:=Dt.zq I e y u b l;exact SeqAt.compareNe_shaped g i c h4 f ⟨.bl _,H,I,rfl,q⟩
theorem uY:∀{ys:Da} {us:Db},zb (ys.map V.str) us->StrsAre us ys
 |[],us,r=>by rw[VE]at r;cases r;exact .nil
 |y::ys,us,r=>by
  rw[ZL]at r;cases r with
  |cons r1 r2 =>
   obtain⟨t,e⟩:=r1;subst e;exact .cons y t<|uY r2
theorem Bc:∀{us:Db} {ys:Da},StrsAre us ys->zb (ys.map V.str) us
 |_,_,.nil=>.nil
 |_,_,.cons y t r=>.cons ⟨t,rfl⟩<|Bc r
def rJoin (K:Cq):V->Dj->Hp->VK->Prop:=λx d H Q=>∃b p c,x=.str b/\d=[.ref p]/\(yu K H p (c.map V.str)\/wY K H p (c.map V.str))/\(c.map (·.length)).sum+c.length*b.length<=16777216/\Q (.str<|Lu b c) H
theorem X4:TF X "str.join" (rJoin X.K):=by
 intro n s z H x w v o Q I i f h;obtain⟨j,p,y,rfl,rfl,b,e,q⟩:=h;obtain⟨t,rfl⟩:=i;obtain⟨u,rfl,g⟩:=wW f;cases g
 rcases b with b|b
 .obtain⟨c,r,d,_⟩:=I.list b;exact join_list d.isList (by simpa using uY r) e λl k=>⟨.str _,H,I.tok _,⟨_,rfl⟩,q⟩
 .obtain⟨c,r,d,_⟩:=I.tuple b;exact join_tuple d (by simpa using uY r) e λl k=>⟨.str _,H,I.tok _,⟨_,rfl⟩,q⟩
theorem XU {vl:Ep}{lo:Option Int}(h:IsPart vl lo):∃o:Option<|Int×Tok,vl=partValue o/\lo=o.map (·.1):=by
 cases h with
 |none=>exact⟨none,rfl,rfl⟩
 |int i t=>exact⟨some (i,t),rfl,rfl⟩
def cb:V->Option Int->Option Int->Hp->VK->Prop:=λx c b H Q=>∃z,x=.str z/\z.length<=sizeLine/\Q (.str<|LL z c b) H
theorem MN:W2 X cb:=by
 intro j s y H x v vl w o n p Q I i b f g h;obtain⟨z,rfl,c,q⟩:=h;obtain⟨t,rfl⟩:=i;obtain⟨d,rfl,rfl⟩:=XU f;obtain⟨e,rfl,rfl⟩:=XU g;refine⟨"str",_,F.slot_str_getitem.lookup,Vo _ _ _,wpAny_getItem_str_slice (l:=d) (u:=e) (st:=none) ?_ rfl<|post_val_or_str ⟨Yk (Txt.slice_le z _ _) c,λr k=>⟨.str _,H,I.tok _,⟨_,rfl⟩,q⟩⟩⟩;exact b
end
section
variable {X:Cx}{Dp:De}{σ:St}{H:Hp}{s:Et}{h':EI}
theorem Inv.qt {t':Nat}{ch:Dd}(I:Inv X Dp σ H s)(f:∀b∈ch,XE X Dp H b)(k:∀b o,b∉ch->s.heap.get? b=some o->h'.get? b=some o)(th:∀b∈ch,∃o,h'.get? b=some o):Inv X Dp σ H { s with heap:=h',toks:=t' }:=by
 have d:∀b u,H b=some u->b∉ch:=λb u e z=>by rw[(f b z).1]at e;cases e
 refine I.step (g':=s.gens) (d':=s.drawn) (ch:=ch) (λb hb=>?_) (λb o _ _ hc e _=>k b o hc e) (λb o _ _ hc e _=>⟨o.slots,k b o hc e⟩) (λ_ _ _ _ n=>n)
  (λb o hc e=>⟨o,k b o hc e⟩) (λ_ _ e=>e) (λ_ _ _ e=>e) (λb ps e=>⟨#[],by rw[e];simp⟩) (λm hm=>?_) (λb u e=>?_) I.bare
 .obtain⟨_,j,_,l,p,t⟩:=f b hb;exact⟨l,j,p,t⟩
 .obtain⟨o,i,g,w,r⟩:=hm;exact⟨o,i,g,k _ o (λz=>(f _ z).2.1 rfl) w,r⟩
 .refine(I.hok b u e).stay (λc v hc q=>k c v ?_ q) (λ_ q=>q) λ_ _ q=>q
  rcases hc with z|z
  .rw[z];exact d b u e
  .exact d c _ z
theorem Un.mq {D:Eo}(u:Un fs ex H H1 h h1)(f:h.get? D=none)(d:H1 D=none):Un fs ex H (upd H1 D o) h h1 where
 keep:=u.keep
 slot:=u.slot
 free:=λb ob q n g=>by
  have hb:b≠D:=λz=>by rw[z,f]at q;cases q
  rw[zI hb];exact u.free b ob q n g
 there:=u.there
 tups:=λb c q=>by rw[zI<|zS (u.tups b c q) d];exact u.tups b c q
 uw:=λb ob c q=>by rw[zI<|zS (u.uw b ob c q) d];exact u.uw b ob c q
 tY:=λb ps q=>by
  obtain⟨m,e⟩:=u.tY b ps q;exact⟨m,by rw[zI<|zS e d];exact e⟩
theorem Inv.lZ {T:Eo}{o:HO}(I:Inv X Dp σ H s)(n:H T=none)(h0:X.s₀.heap.objs.size<=T)(f:T≠X.env.locals)(hc:∀x c,X.env.cells.lookup x=some c->c≠T)(g:∀p∈X.pn++Dp,p.1≠T)
  (new:yq X.prog X.w (upd H T o) s.heap T o):Inv X Dp σ (upd H T o) s:=by
 refine⟨I.ok,I.os,I.bare,I.base.mq (VX h0) n,I.loc,I.cell,?_,λx c e=>?_,λp b=>?_,I.hok.adopt n new,I.len⟩
 .rw[zI<|EC f];exact I.free
 .rw[zI<|hc x c e];exact I.wR x c e
 .obtain⟨e,i,ne,j,d⟩:=I.pin p b;exact⟨e,by rw[zI<|g p b];exact i,ne,j,d⟩
end
def W9 (x:Str):It:=⟨λi _=>i<x.length,λi H v b=>b=H/\∃c,x.cps[i]?=some c/\v=.str ⟨#[c]⟩,λi _=>i=x.length⟩
theorem Ij {P:Er}{w:Eu}{K:Cq}{M:EN}{it:Eo}{x:Str}{f:Nat->EI->Prop}(B:∀A:EJ,A.handled=none->Walks P w A it [it] [it] x.cps.size (SignAt x) f)
  (S:∀i h,f i h->∃o,h.get? it=some o/\∀v,o.data≠.cell v) (d:∀(A:EJ) (i:Nat) (s:Et) (Q:Ep->Dh) (E:Ep->Dh),f i s.heap->Q (.ref it) s->Es (Ez P w) A (pyIter<|.ref it) Q E s) :
  Turn P w K M (W9 x) [it] it f where
 mem:=by simp
 obj:=λi h st b hb=>by
  have e:b=it:=by simpa using hb
  subst e;exact S i h st
 keep:=λi h h' st k=>(B {} rfl).frame i h h' st k
 item:=by
  intro X z F y hc i j s L H E I g st D;subst z F y;obtain⟨n,p,R,q,r,t⟩:=g it (by simp);refine(B X.A<|I.ok.hd hc).item i s _ _ D st λv h' tk hv J G=>?_;obtain⟨c,u,C,rfl⟩:=hv;have O:Inv X j L H { s with heap:=h',toks:=tk }:=I.turned (λb o hb e=>G b o (by simpa using hb) e) n p q r t;refine⟨_,rfl,?_⟩;have fin:∃N l,Inv X j L l { s with heap:=h',toks:=tk }/\za N (.str ⟨#[c]⟩ u)/\(W9 x).oM i H N l/\f (i+1) h'/\∀b∈[it],l b=none :=
   ⟨.str ⟨#[c]⟩,H,O,⟨u,rfl⟩,⟨rfl,c,C,rfl⟩,J,λb hb=>(g b hb).1⟩
  unfold Mc;cases M<;>exact Zu fin
 done:=by
  intro X z F y hc i j s L H E I g st D;subst z F y;obtain⟨n,p,R,q,r,t⟩:=g it (by simp);exact(B X.A<|I.ok.hd hc).done s _ _ (by have e:i=x.length:=D;subst e;exact st) λh' tk G=>⟨rfl,I.turned (λb o hb e=>G b o (by simpa using hb) e) n p q r t⟩
 self:=d
section
variable {X:Cx}{tg:EN}
def bM (c:TE):TI:=λd H R=>c d H λx b=>∃z,x=.str z/\R (W9 z) b
theorem KZ (he:PE X e te):PI X tg e (bM te):=by
 intro n s u H R I h;refine Ct (he n s u H _ I h) λv c ⟨x,f,d,r,p⟩=>?_;obtain⟨z,e,q⟩:=p;subst e;obtain⟨t,rfl⟩:=r;have fr:f c.heap.objs.size=none:=d.hok.fresh<|Zt _;cases ha:z.cps.all (·<128)
 .refine wpAny_pyIter_wide ha ?_;refine⟨c.heap.objs.size,[c.heap.objs.size],λi h=>h.IsStrIter c.heap.objs.size "str_iterator" z t i,_,f,rfl,d.kept (t':=c.toks) λb o e=>Zp _ e,Ij (λA g=>Walks.strWide g _ z t) (λi h ⟨o,l,_,hd⟩=>⟨o,l,λv z=>by rw[hd]at z;cases z⟩)<|λ_ _ _ _ _ st j=>wpAny_pyIter_striter_wide st j,⟨_,Zz _ rfl,rfl,rfl⟩,λb hb=>?_,q⟩
  have e:b=c.heap.objs.size:=by simpa using hb
  subst e;exact d.tB (Zt _) fr
 .refine wpAny_pyIter_ascii ha ?_;refine⟨c.heap.objs.size,[c.heap.objs.size],λi h=>h.IsStrIter c.heap.objs.size "str_ascii_iterator" z t i,_,f,rfl,d.kept (t':=c.toks) λb o e=>Zp _ e,Ij (λA g=>Walks.strAscii g _ z t) (λi h ⟨o,l,_,hd⟩=>⟨o,l,λv z=>by rw[hd]at z;cases z⟩)<|λ_ _ _ _ _ st j=>wpAny_pyIter_striter_ascii st j,⟨_,Zz _ rfl,rfl,rfl⟩,λb hb=>?_,q⟩
  have e:b=c.heap.objs.size:=by simpa using hb
  subst e;exact d.tB (Zt _) fr
end
abbrev NU (J:It)(g:TG)(tb:TS)(D:Ends)(σ:St)(H:Hp):Prop :=
 ∃W:Nat->Nat->St->Hp->Prop,(∃m,W 0 m σ H)/\∀i m σ H,W i m σ H ->
  (J.stop i H/\D.nx σ H)\/(J.go i H/\∃N:St->Hp->Prop,(∀σ' H',N σ' H'->∃m',m'<m/\W (i+1) m' σ' H')/\∀x H',J.oM i H x H'->g x σ H' λσ2 H2=>tb { D with nx:=N,ct:=N,bk:=D.nx } σ2 H2)
theorem Nh {J:It}{g:TG}{tb:TS}{D:Ends}{b:St}{H:Hp}(n:Nat)(c:Nat->St->Hp->Prop)(h0:c 0 b H)(j:∀b H,c n b H->J.stop n H)(f:∀i b H,i<n->c i b H->J.go i H)
  (hs:∀i b H,i<n->c i b H->∀x H',J.oM i H x H'->g x b H' λσ2 H2=>tb { D with nx:=c<|i+1,ct:=c<|i+1,bk:=D.nx } σ2 H2) (hd:∀b H,c n b H->D.nx b H):NU J g tb D b H:=by
 refine⟨λi m b H=>m=n-i/\i<=n/\c i b H,⟨n,by simp,Yb _,h0⟩,?_⟩;rintro i m b H ⟨rfl,q,p⟩
 by_cases d:i<n
 .exact .inr ⟨f i b H d p,c<|i+1,λo H' l=>⟨n-(i+1),by lia,rfl,d,l⟩,λx H' y=>hs i b H d p x H' y⟩
 .have e:i=n:=by lia
  subst e;exact .inl ⟨j b H p,hd b H p⟩
theorem R9 {x:Str}{g:TG}{tb:TS}{D:Ends}{b:St}{H:Hp}(d:Nat->St->Hp->Prop)(h0:d 0 b H)
  (hs:∀i c b H,x.cps[i]?=some c->d i b H->g (.str ⟨#[c]⟩) b H λσ2 H2=>tb { D with nx:=d<|i+1,ct:=d<|i+1,bk:=D.nx } σ2 H2) (hd:∀b H,d x.length b H->D.nx b H):NU (W9 x) g tb D b H :=
 Nh x.length d h0 (λ_ _ _=>rfl) (λ_ _ _ f _=>f) (λi b H f p v l y=>by
  obtain⟨e,c,hc,j⟩:=y;subst e j;exact hs i c b _ hc p) hd
def bE (K:Cq)(a:Eo):It :=
 ⟨λi H=>∃b x,yu K H a b/\b[i]?=some x,λi H v c=>∃T x,H T=none/\v=.ref T/\c=upd H T (.tup [.int i,x])/\∀b,yu K H a b->b[i]?=some x,λi H=>∃b,yu K H a b/\b.length<=i⟩
theorem OE {P:Er}{w:Eu}{K:Cq}{D1:List EN} {x1}{Ef:Pos}(a e it:Eo)(g:e≠it) :
  Turn P w K (.Tuple D1 x1 Ef) (bE K a) [e,it] e (λi h=>(∃old,IsEnum h e it i old)/\h.IsListIter it a i) where
 mem:=by simp
 obj:=λi h st b hb=>by
  obtain⟨⟨old,Y⟩,o,Z,s3,s4⟩:=st
  rcases Zo.mp hb with z|z
  .subst z;exact⟨_,Y,λv z=>by cases z⟩
  .have z:b=it:=by simpa using z
   subst z;exact⟨o,Z,λv z=>by rw[s4]at z;cases z⟩
 keep:=λi h h' st k=>by
  obtain⟨⟨old,Y⟩,Z⟩:=st;exact⟨⟨old,k e (by simp) _ Y⟩,Z.at λo q=>k it (by simp) o q⟩
 item:=by
  intro X J O G hc i C s σ H E I j st N;subst J O G;obtain⟨xs,x,A,Q⟩:=N;obtain⟨R,U,p,hz⟩:=I.list A;obtain⟨u,hu,ru⟩:=U.get Q;obtain⟨⟨old,c⟩,d⟩:=st;have fe:=j e (by simp);have fi:=j it (by simp);have L:H s.heap.objs.size=none:=I.hok.fresh<|Zt _;have t:e<s.heap.objs.size:=ZC c;have S:it<s.heap.objs.size:=by obtain⟨o,n,_⟩:=d;exact ZC n
  refine wpAny_pyNext_enum_item c d p.isList (x:=u) (by simpa using hu) g λh' T f tup sz kp=>?_;refine⟨_,rfl,wpAny_letOwnedTupleGo_enum T λl en B=>?_⟩;have D:∃old,IsEnum l e it ((i+1:Nat):Int) old:=⟨u,by push_cast;exact en⟩;have y:l.get? s.heap.objs.size=some { cls:=.type "tuple",data:=.seq #[.int i s.toks,u] }:=(B.2 _<|JP t).trans tup;have I1:Inv X C σ H { s with heap:=l,toks:=s.toks+1 }:=I.qt (ch:=[e,it]) j (λb o hb q=>by
   have b1:b≠e:=λz=>hb (by simp[z]);have b2:b≠it:=λz=>hb (by simp[z]);exact(B.2 b b1).trans (kp b o b1 b2 q)) (λb hb=>by
   rcases Zo.mp hb with z|z
   .subst z;exact⟨_,en⟩
   .have z:b=it:=by simpa using z
    subst z;obtain⟨o,n,_⟩:=f;exact⟨o,(B.2 b<|EC g).trans n⟩)
  have F:=I.tB (Zt _) L;have new:yq X.prog X.w (upd H s.heap.objs.size<|.tup [.int i,x]) l s.heap.objs.size (.tup [.int i,x]) :=
   ⟨by show 2<=sizeLine;decide,[.int i s.toks,u],.cons ⟨_,rfl⟩<|.cons ru .nil,⟨_,y,rfl,_,rfl,rfl⟩⟩
  have I2:Inv X C σ (upd H s.heap.objs.size<|.tup [.int i,x]) { s with heap:=l,toks:=s.toks+1 } :=
   I1.lZ L (Yk I.sz<|Zt _) F.2.1 F.2.2.2.2.1 F.2.2.2.2.2 new
  refine⟨.ref s.heap.objs.size,_,I2,rfl,⟨_,x,L,rfl,rfl,λys hy=>by rw[I.oY hy A];exact Q⟩,⟨D,?_⟩,λb hb=>?_⟩
  .obtain⟨o,n,r⟩:=f;exact⟨o,(B.2 it<|EC g).trans n,r⟩
  .have M:b<s.heap.objs.size:=by
    rcases Zo.mp hb with z|z
    .subst z;exact t
    .have z:b=it:=by simpa using z
     subst z;exact S
   rw[zI<|ZO M];exact(j b hb).1
 done:=by
  intro X J O G hc i C s σ H E I j st N;subst J O G;obtain⟨xs,A,Q⟩:=N;obtain⟨R,U,p,hz⟩:=I.list A;obtain⟨⟨old,c⟩,d⟩:=st;obtain⟨f0,f1,f2,f3,f4,f5⟩:=j it (by simp);have hl:=U.length;exact wpAny_pyNext_enum_end (I.ok.hd hc) c d p.isList (by simp;lia) λh' eb=>⟨rfl,I.turned (t':=s.toks) (λb o hb q=>eb b o hb q) f0 f1 f3 f4 f5⟩
 self:=λ_ _ _ _ _ st h=>wpAny_pyIter_enum st.1.choose_spec h
section
variable {X:Cx}{D1:List EN}{x1:Nat}{Ef:Pos}
def ar (K:Cq)(c:TA):TI:=λf H R=>c f H λd b=>∃a,d=[.ref a]/\(∃e,yu K b a e)/\R (bE K a) b
theorem SL {a:EN}{p pos:Pos}(n:Gl X "enumerate")(hm:X.mg "enumerate"=none)(ha:PA X [a] ta)(hs:EG [a] X.env=[(false,Lc a X.env)]:=by rfl):PI X (.Tuple D1 x1 Ef) (.Call (.Name "enumerate" p) [a] [] pos) (ar X.K ta):=by
 intro i s A H R I h;refine Call_<|vU I n hm boot_enumerate<|Jk (Ct (ha pos i s A H _ I h) λD c ⟨E,f,d,x,w⟩=>?_) hs rfl;obtain⟨a',e,⟨F,o⟩,q⟩:=w;subst e;obtain⟨u,rfl,y⟩:=wW x;cases y;obtain⟨t,C,v,B⟩:=d.list o;refine call_enumerate_list v.isList λh' g r sz kp=>wpAny_pyIter_enum g ?_;have l:f (c.heap.objs.size+1)=none:=d.hok.fresh<|JM _;have j:f c.heap.objs.size=none:=d.hok.fresh<|Zt _;refine⟨c.heap.objs.size+1,[c.heap.objs.size+1,c.heap.objs.size],_,_,f,rfl,d.kept (t':=c.toks) kp,OE a' _ _<|JP<|JH _,⟨⟨_,g⟩,r⟩,λb hb=>?_,q⟩
 rcases Zo.mp hb with z|z
 .subst z;exact d.tB (JM _) l
 .have z:b=c.heap.objs.size:=by simpa using z
  subst z;exact d.tB (Zt _) j
theorem Pd {K:Cq}{xs:Dj}{g:TG}{tb:TS}{D:Ends}{b:St}{H:Hp}(c:Nat->St->Hp->Prop)(h0:c 0 b H)(hl:∀i b H,i<=xs.length->c i b H->yu K H a xs)
  (hs:∀i x T b H,xs[i]?=some x->c i b H->H T=none->g (.ref T) b (upd H T<|.tup [.int i,x]) λσ2 H2=>tb { D with nx:=c<|i+1,ct:=c<|i+1,bk:=D.nx } σ2 H2) (hd:∀b H,c xs.length b H->D.nx b H):NU (bE K a) g tb D b H :=
 Nh xs.length c h0 (λb H p=>⟨xs,hl _ b H (Zt _) p,Zt _⟩) (λi b H d p=>⟨xs,xs[i],hl i b H (YE d) p,by simp[d]⟩) (λi b H d p v n y=>by
  obtain⟨T,x,j,f,e,l⟩:=y;subst f e;exact hs i x T b H (l xs<|hl i b H (YE d) p) p j) hd
end
namespace AxT
variable {prog:Er}{w:Eu}{A:EJ}{E:Ep->Dh}{s:Et}
open HT
end AxT
section
variable {X:Cx}
def Ts (K:Cq):V->Option Int->Option Int->Hp->VK->Prop:=λx b d H Q=>∃a y c,x=.ref a/\b=some 1/\wY K H a (y::c)/\∀p,H p=none->Q (.ref p) (upd H p<|.tup<|Gs (y::c) b d)
theorem lO:W2 X (Ts X.K):=by
 intro w s C H x v vl B z e A Q I u i p t h;obtain⟨a,y,c,rfl,rfl,l,q⟩:=h;cases u;obtain⟨f,r,g,n⟩:=I.tuple l;have d:f.toArray.size=(y::c).length:=by rw[ZP];exact r.length.symm
 refine⟨"tuple",_,VN.lookup,g.typeIs,?_⟩;refine HT.tO g i p t (λj=>?_) ?_ (by rwa[d])
 .have:=j.1;rw[d,show(1:Int)=((1:Nat):Int) from rfl,HT.pI,ZF]at this;lia
 .rw[d];refine⟨.ref s.heap.objs.size,_,I.laid (t':=s.toks) (o:=.tup<|Gs (y::c) (some 1) e) (λb ob q=>Zp _ q) (Zt _) ?_,rfl,q _<|I.hok.fresh<|Zt _⟩;exact⟨Yk (XX (y::c) (some 1) e) n,_,(r.drop<|HT.wI (y::c).length 0<|some 1).take<|HT.wI (y::c).length (y::c).length e-HT.wI (y::c).length 0 (some 1),TupAt.new _ _⟩
structure wV (P:Er)(w:Eu)(K:Cq)(mg:Str->Dc)(base:EI)(k:Nat)(x:Str)(ps:Da)(sp:Sp):Prop where
 ex:∃(f:Eo) (fd:Ev),zc P w K mg base CA k f fd ps sp/\mg x=some (.ref f)/\EY K (.ref f)=true/\wX K fd ps []
theorem zK {e:EN}{es:List EN}{p pos:Pos}(C:wV X.prog X.w X.K X.mg X.base k x ps sp)(g:xr k X.A)(ha:PA X (e::es) t)(d:Gl X x:=by rfl)
  (b:(x==("__debug__":Str))=false:=by decide) (he:EG (e::es) X.env=(false,Lc e X.env)::EG es X.env:=by rfl) (c:(Li pos<|EG es X.env).any (·.1)=false:=by rfl) :
  PE X (.Call (.Name x p) (e::es) [] pos) (RL sp [] E0 t):=by
 obtain⟨f,i,F,hm,hk,hb⟩:=C.ex;exact SC F g d hm hk hb .nil Iu ha b he c
theorem wV.mk' {K:Cq}{st:ER}(F:yc K x qual st f fd)(G:zc P w K mg base CA k f fd ps sp)(hm:mg x=some (.ref f))
  (b:wX K fd ps []):wV P w K mg base k x ps sp:=⟨f,fd,G,hm,F.kp,b⟩
def KD (P:Er)(w:Eu)(K:Cq)(a:Eo)(Dm:Dl):Prop:=∀h:EI,K.In h->∃b,KV Dm b/\h.DictOf (z5 P w) a b
def bg (P:Er)(w:Eu)(K:Cq)(f ty:TE):TE:=λc H Q=>f c H λx d=>ty c d λy e=>∃a b k v,x=.ref a/\y=kV k/\KD P w K a b/\UE b k=some v/\Q v e
theorem SF {pos:Pos}(t:PE X o td)(r:PE X i ty)(hs:RZ i):PE X (.Subscript o i pos) (bg X.prog X.w X.K td ty):=by
 intro d s g H Q I h;refine BD PySem.F.slot_dict_getitem.lookup hs<|Ct (t d s g H _ I h) λu E ⟨x,j,p,C,A⟩=>Ct (r d E g j _ p A) λL M q9=>?_;obtain⟨y,n,e,D,a,J,k,v,ex,q,kd,l,B⟩:=q9;subst ex q;obtain rfl:u=EB a:=C;obtain⟨G,b,f⟩:=kd _ e.vh;obtain⟨N,z,c⟩:=vz.some_of (v:=v) (o:=Me G k) (by rw[<-l];exact b.val k);exact⟨f.typeIs,wpAny_getItem_of (v8 D) f.mapOf z ⟨v,n,e.tok _,c,B⟩⟩
end
theorem yq.there (x:yq P w H h a o):∃ob,h.get? a=some ob:=by
 cases o with
 |lst xs=>obtain⟨_,_,_,_,e⟩:=x;exact⟨_,e⟩
 |tup xs=>obtain⟨_,_,_,ob,e,_⟩:=x;exact⟨_,e⟩
 |dK Dm=>obtain⟨_,_,_,_,ob,_,_,e,_⟩:=x;exact⟨_,e⟩
 |dT Dm=>obtain⟨_,_,_,_,ob,_,_,e,_⟩:=x;exact⟨_,e⟩
 |set S n=>obtain⟨ob,_,_,_,e,_⟩:=x;exact⟨_,e⟩
 |ins C dx fs=>obtain⟨_,_,_,e,_⟩:=x;exact⟨_,e⟩
 |own y=>exact x
 |xd fs=>obtain⟨_,⟨_,_,_,e,_⟩,_⟩:=x;exact⟨_,e⟩
 |rng lo hi=>obtain⟨_,_,_,e⟩:=x;exact⟨_,e⟩
 |frz ob u=>obtain⟨e,_⟩:=x;exact⟨_,e⟩
 |tbl ps=>exact⟨_,(show h.get? a=some _ from x)⟩
 |met f y=>exact⟨_,(show h.get? a=some _ from x)⟩
 |ext φ=>obtain⟨_,e,_⟩:=x;exact e
def ctx0 (vs:Array Ep):Prop:=vs[2]?=some .none
theorem Xv:GZ ctx0:=λb v h=>by
 show(b.setIfInBounds 1 v)[2]?=some .none;rwa[Array.getElem?_setIfInBounds_ne<|by decide]
def ExcAt (h:EI)(a T:Eo)(cls:Ep):Prop :=
 ∃b c d e,h.get? a=some b/\(b.cls=cls/\ctx0 c)/\b.data=.fields c/\c[1]?=some (.ref T)/\T≠a/\h.get? T=some d/\d.data=.fields e/\e[3]?=some .none
def CI (P:Er)(w:Eu):OM:=λouter H s E e c=>∃a T cls b,e=.ref a/\c.os=s.os/\ME c.gens/\Un (frs outer) [] H b s.heap c.heap/\tZ P w b c.heap /\
 s.heap.get? a=none/\s.heap.get? T=none/\b a=none/\b T=none/\ExcAt c.heap a T cls/\E cls none b
section
variable {X:Cx}{Dp:De}{σ:St}{H:Hp}{s:Et}
theorem Inv.none_of (I:Inv X Dp σ H s){a:Eo}(e:s.heap.get? a=none):H a=none:=by
 cases q:H a with
 |none=>rfl
 |some u =>
  obtain⟨ob,z⟩:=(I.hok a u q).there;rw[e]at z;cases z
theorem Inv.wC (I:Inv X Dp σ H s)(b:X.ex=[]){a:Eo}(e:s.heap.get? a=none):X.s₀.heap.get? a=none:=by
 cases q:X.s₀.heap.get? a with
 |none=>rfl
 |some o =>
  obtain⟨ob,z⟩:=I.base.there a o q (by rw[b];simp);rw[e]at z;cases z
abbrev U8 (h:EI)(as:Dd)(l:List Env):Heap:=PySem.W.hideAll h<|as++frs l
theorem kP {h:EI}{base:EI}{l:List Env}(f:h.FunFrames base l):h.FunFrames (U8 h as l) l :=
 PySem.W.funFrames_hide f λenv he b hb=>ZW _<|JQ.mpr ⟨env,he,hb⟩
theorem j9:(U8 h as l).StaysIn h:=λ_ _ q=>PySem.W.of_hideAll _ q
theorem O5 (B:X.ex=[])(I:Inv X Dp σ H s){a T p:Eo}{cls:Ep}{t:EI}{E:XK}(J:X.s₀.heap.get? a=none)(N:X.s₀.heap.get? T=none)(ha:H a=none)(L:H T=none)(D:X.s₀.heap.get? p=none)(F:H p=none)(K:ExcAt t a p cls)(q:E cls none H)
  (kp:∀b o,s.heap.get? b=some o->b≠a->b≠T->b∉frs X.stack->t.get? b=some o) (x:∀b o,s.heap.get? b=some o->b∈frs X.stack->∃x,t.get? b=some { o with slots:=x }):CI X.prog X.w X.outer X.H₀ X.s₀ E (.ref a) { s with heap:=t }:=by
 have M:∀b o,X.s₀.heap.get? b=some o->b≠X.env.locals:=λb o e=>ZO<|ZU (ZC e) I.ok.above;have f:∀b,b∉X.ex:=λb=>by rw[B];simp
 have C:∀b o,X.s₀.heap.get? b=some o->b≠a:=λb o e z=>by rw[z,J]at e;cases e
 have g:∀b o,X.s₀.heap.get? b=some o->b≠T:=λb o e z=>by rw[z,N]at e;cases e
 refine⟨a,p,cls,H,rfl,I.os,I.bare,⟨λb o d n hb _=>?_,λb o d n hb _=>?_,λb o d n _=>I.base.free b o d n<|f b,λb o d _=>?_,I.base.tups,I.base.uw,I.base.tY⟩,λb u d=>?_,J,D,ha,F,K,q⟩
 .refine kp b o (I.base.keep b o d n hb<|f b) (C b o d) (g b o d) λz=>?_
  rcases Zo.mp (I.rG b z) with r|r
  .exact M b o d r
  .exact hb r
 .obtain⟨G,i⟩:=I.base.slot b o d n hb<|f b
  by_cases j:b∈frs X.stack
  .obtain⟨l,A⟩:=x b _ i j;exact⟨l,A⟩
  .exact⟨G,kp b _ i (C b o d) (g b o d) j⟩
 .obtain⟨O,i⟩:=I.base.there b o d<|f b
  by_cases j:b∈frs X.stack
  .obtain⟨l,A⟩:=x b _ i j;exact⟨_,A⟩
  .exact⟨O,kp b _ i (C b o d) (g b o d) j⟩
 .have off:∀c,(c=b\/H c=some (.own b))->H c=none->False:=λc hc z=>by
   rcases hc with y|y
   .rw[y,d]at z;cases z
   .rw[y]at z;cases z
  exact(I.hok b u d).stay (λc v hc r=>kp c v r (λz=>off c hc<|z▸ha) (λz=>off c hc<|z▸L) λz=>off c hc<|I.rY c z) (λ_ r=>r) λ_ _ r=>r
theorem Fh (f:X.stack=X.env::X.outer)(l:X.env.frame=some X.env.locals)(d:X.ex=[])(I:Inv X Dp σ H s){e:Eo}{cls:Ep}{args:Db}{h':EI}(g:Heap.MadeExcOf s.heap h' e cls args){E:XK}(q:E cls none H)
  {Ex:Ep->Dh}:Es (Ez X.prog X.w) X.A (leaving X.env<|.ref e) (λ_ s''=>CI X.prog X.w X.outer X.H₀ X.s₀ E (.ref e) s'') Ex { s with heap:=h' }:=by
 have fr:=kP (as:=[]) I.stack;have y:X.A.frames=some (X.env::X.outer):=by rw[I.ok.frames,f]
 obtain⟨t,he,C,ht⟩:=g.there;have fresh:∀b,s.heap.get? b=none->(U8 s.heap [] X.stack).get? b=none:=λb hb=>by
  cases B:(U8 s.heap [] X.stack).get? b with
  |none=>rfl
  |some p=>have:=j9 b p B;rw[hb]at this;cases this
 rw[f]at fr;refine FV (base:=U8 s.heap [] X.stack) (q:=ctx0) Xv y ((by rw[f];exact fr:s.heap.FunFrames (U8 s.heap [] X.stack) (X.env::X.outer)).of_keeps λb o hb _=>⟨o,g.keeps b o hb,rfl⟩) l he (λb o hb=>g.keeps b o<|j9 b o hb) (fresh e g.new) rfl rfl rfl λj D F L G=>?_;obtain⟨K,Z,T,J,Y,N,O,P,Q,R,S,v,x,U⟩:=L;have kp:∀b o,s.heap.get? b=some o->b∉frs X.stack->j.get? b=some o:=λb o e hb=>D b o (Ji _ e<|by simpa using hb);have r:∀b o,s.heap.get? b=some o->b∈frs X.stack->∃r,j.get? b=some { o with slots:=r }:=λb o e hb=>by
  obtain⟨_,p,c,hd⟩:=I.stack.mem hb;rw[e]at c;cases c;exact G b o (g.keeps b o e) hd
 have i:s.heap.get? T=none:=by
  cases M:s.heap.get? T with
  |none=>rfl
  |some o =>
   exfalso
   by_cases u:T∈frs X.stack
   .have n:j.FunFrames (U8 s.heap [] X.stack) X.stack:=by have z:=F;rw[<-f]at z;exact z
    obtain⟨_,p,c,hd⟩:=n.mem u;rw[v]at c;cases c;exact hd _ x
   .have z:(U8 s.heap [] X.stack).get? T=some o:=Ji _ M (by simpa using u);rw[R]at z;cases z
 exact O5 d I (I.wC d g.new) (I.wC d i) (I.none_of g.new) (I.none_of i) (I.wC d i) (I.none_of i) ⟨K,Z,J,Y,N,O,P,Q,S,v,x,U⟩ q (λb o e _ _ hb=>kp b o e hb) r
end
theorem N8 {K:Cq}{h:EI}{C:Eo}{d:Db}{b:String}(X:K.In h)(q:EX K C d b=true) :
  ∃bm N nm q bs hdct sn sub ab col dd k0 k1 k2 k3 k5 mN,h.get? C=some (excClassObj nm q C N bs bm hdct sn sub ab col dd k0 k1 k2 k3 k5 b)/\h.Ns N mN/\mN "__init__"=none/\OwnTail h d bm:=by
 unfold EX at q
 split at q
 .rename_i dd j i p
  split at q
  .rename_i t bm k0 k1 k2 k3 n k5 hm g;simp only[Zw,JB,Ul]at q;obtain⟨⟨⟨⟨⟨rfl,rfl⟩,c⟩,r⟩,hok⟩,e⟩:=q;obtain⟨nm,bs,mro,ns,s,hd,sn,sub,ab,col,o⟩:=j;dsimp only at hm c hok e;subst hm c;have f:i=#[k0,k1,k2,k3,some<|.builtin n,k5]:=by
    obtain⟨l⟩:=i;simp only at g;rw[g]
   subst f;exact⟨bm,ns,nm,s,bs,hd,sn,sub,ab,col,dd,k0,k1,k2,k3,k5,_,X _ _ p,.of_isNs<|PySem.W.isNs_of_in X hok,PySem.W.nsMap_none_of_in X hok e,PySem.W.tail_of_in X r⟩
  .cases q
 .cases q
abbrev UX:Db:=[.type "ValueError",.type "Exception",.type "BaseException",.type "object"]
def Throws (X:Cx)(R:St->Hp->Ep->Prop):Prop:=∀(d:De) (c:St) (H:Hp) (s:Et) (e:Eo) (cls:Ep) (b:Db) (h':EI),Inv X d c H s->Heap.MadeExcOf s.heap h' e cls b->R c H cls->X.xe (.ref e) { s with heap:=h' }
def WR (C:Eo)(R:St->Hp->Ep->Prop)(t:TA):TS:=λ_ b H=>t b H λd c=>d.length<=sizeLine/\R b c (.ref C)
section
variable {X:Cx}
theorem xT {C:Eo}{c:EN}{b:List EN}{B g pos:Pos}(hc:X.calm=true)(A:Throws X R)(z:Gl X x)(hm:X.mg x=some (.ref C))(j:EX X.K C UX "ValueError.__new__"=true)(ha:PA X (c::b) t)
  (he:EG (c::b) X.env=(false,Lc c X.env)::EG b X.env:=by rfl) (r:(Li g<|EG b X.env).any (·.1)=false:=by rfl) (hd:(x==("__debug__":Str))=false:=by decide) :
  PS X (.Raise (some<|.Call (.Name x B) (c::b) [] g) none pos) (WR C R t):=by
 intro o s p H D I h;obtain⟨J,N,nm,q,bs,hdct,sn,sub,ab,col,dd,k0,k1,k2,k3,k5,mN,v,w,n,T⟩:=N8 I.ok.mod.lQ j;refine wpAny_Raise_call_subU (C:=C) (nm:=nm) (q:=q) (N:=N) (bs:=bs) (bm:=J) (hdct:=hdct) (sn:=sn) (sub:=sub) (ab:=ab) (col:=col) (dd:=dd) (k0:=k0) (k1:=k1) (k2:=k2) (k3:=k3) (k5:=k5)
  F.excBase_ValueError (by decide+kernel) F.excBase_ValueError (mN:=mN) (T.hasType F.excBase_ValueError.hasBase) (I.ok.hd hc) (by rw[he];show(false||(Li g<|EG b X.env).any (·.1))=false;rw[r];rfl) n (jZ I z hm ⟨rfl,?_⟩ hd)
 have d:=ha g o s p H _ I h;rw[he]at d ⊢;exact Lx (Yy d (λM f ⟨O,u,i,G,L,E⟩=>⟨rfl,by rw[<-G.length];exact L,i.bk _ _ v,w.keeps i.bk,T.keeps i.bk,λh' e l=>A o p u f e _ _ h' i l E⟩) λ_ _ y=>y)
theorem xD {P:Er}{w:Eu}{K:Cq}{mg:Str->Dc}{base:EI}{N:Da}{qual:Str}{scope:LV}{f:Eo}{b:Ep}{A:EJ}{outer:List Env}{s:Et}{H:Hp}{E:XK} :
  Throws (GG (CI P w) P w K mg base N qual scope f b A outer s H E) (λ_ H' cls=>E cls none H') :=
 λ_ _ _ _ _ _ _ _ I c q=>Fh rfl rfl rfl I c q
end
def Raises (X:Cx)(R:St->Hp->Ep->Prop):Prop:=∀(d:De) (c:St) (H:Hp) (s:Et) (e:Ep) (b:Et),Inv X d c H s->CI X.prog X.w X.stack H s (λcls _ f=>R c f cls) e b->X.xe e b
def WK (sp:Sp)(R:St->Hp->Ep->Prop)(t:TA):TE:=λb H Q=>t b H λe d=>sp e d Q<|λcls _ c=>R b c cls
section
variable {X:Cx}{k:Nat}{f:Eo}{fd:Ev}{ps:Da}{sp:Sp}{x:Str}{p pos:Pos}{e:EN}{es:List EN}{t:TA}{R:St->Hp->Ep->Prop}
theorem NK {g:De}{d:St}{H:Hp}{s:Et}{Q:VK}{us:Db}{vs:Dj}(F:zc X.prog X.w X.K X.mg X.base (CI X.prog X.w) k f fd ps sp)(i:xr k X.A)(hb:wX X.K fd ps [])(j:Raises X R)
  (I:Inv X g d H s) (r:zb vs us) (h:sp vs H Q<|λcls _ H'=>R d H' cls):Es (Ez X.prog X.w) X.A (call (.ref f) us) (EP X g d Q) X.xe s:=by
 have hl:us.length=ps.length:=by rw[<-r.length];exact F.len _ _ _ _ h
 have b:=hb s us I.vh (by simpa using hl);rw[Z2]at b;refine Vm<|Jl (F.run X.A X.stack s H ⟨us,[]⟩ us vs Q _ i I.env0 b r h) λr l c=>?_;cases r with
 |error e=>exact j g d H s e l I c
 |ok fl =>
  cases fl with
  |ret u=>exact I.after c
  |next=>exact EL c
  |brk=>exact EL c
  |cont=>exact EL c
structure wz (P:Er)(w:Eu)(K:Cq)(mg:Str->Dc)(base:EI)(k:Nat)(x:Str)(ps:Da)(sp:Sp):Prop where
 ex:∃(f:Eo) (fd:Ev),zc P w K mg base (CI P w) k f fd ps sp/\mg x=some (.ref f)/\EY K (.ref f)=true/\wX K fd ps []
theorem yQ (C:wz X.prog X.w X.K X.mg X.base k x ps sp)(j:xr k X.A)(l:Raises X R)(ha:PA X (e::es) t)(i:Gl X x:=by rfl)
  (b:(x==("__debug__":Str))=false:=by decide) (he:EG (e::es) X.env=(false,Lc e X.env)::EG es X.env:=by rfl) (c:(Li pos<|EG es X.env).any (·.1)=false:=by rfl) :
  PE X (.Call (.Name x p) (e::es) [] pos) (WK sp R t):=by
 obtain⟨f,fd,F,hm,hk,hb⟩:=C.ex;intro g s n H Q I h;refine Y0<|jZ I i hm ?_ b;refine Jr (h₀:=X.base) I.ok.mod.lQ hk (Ct (ha pos g s n H _ I h) λv u ⟨y,o,d,r,q⟩=>⟨d.vh,?_⟩) he c;exact NK F j hb l d r q
end
def W0 (X:Cx)(d:De)(H:Hp)(b:Eo):Prop :=
 H b=none/\X.s₀.heap.get? b=none/\b≠X.env.locals/\(∀x c,X.env.cells.lookup x=some c->c≠b)/\∀p∈X.pn++d,p.1≠b
section
variable {X:Cx}{Dp D9:De}{σ:St}{H:Hp}{s:Et}{h':EI}{R:St->Hp->Ep->Prop}
theorem Inv.jz (I:Inv X Dp σ H s)(f:X.ex=[]){H':Hp}{b:Eo}(e:s.heap.get? b=none)(n:H' b=none):W0 X Dp H' b:=by
 refine⟨n,I.wC f e,λz=>?_,λx c q z=>?_,λp g z=>?_⟩
 .obtain⟨m,⟨o,_,_,d,_⟩,_⟩:=I.loc;rw[<-z,e]at d;cases d
 .obtain⟨v,o,d,_⟩:=I.cell x c q;rw[z,e]at d;cases d
 .have d:=(I.pin p g).1;rw[z,e]at d;cases d
theorem Inv.land {ch:Dd}(I:Inv X Dp σ H s)(j:∀b∈ch,W0 X Dp H b)(k1:(U8 s.heap ch X.stack).StaysIn h')(k2:s.heap.UpToSlots h')(tk:Nat):Inv X Dp σ H { s with heap:=h',toks:=tk }:=by
 have kp:∀b o,s.heap.get? b=some o->b∉ch->b∉frs X.stack->h'.get? b=some o:=λb o e hc hb=>k1 b o (Ji _ e (by
  intro z
  rcases ZR.mp z with z|z
  .exact hc z
  .exact hb z))
 have any:∀b o,s.heap.get? b=some o->b∉ch->∃E,h'.get? b=some { o with slots:=E }:=λb o e hc=>by
  by_cases hb:b∈frs X.stack
  .obtain⟨_,N,A,hd⟩:=I.stack.mem hb;rw[e]at A;cases A;exact k2 b o e hd
  .exact⟨o.slots,kp b o e hc hb⟩
 have C:∀b,b≠X.env.locals->b∉X.fs->b∉frs X.stack:=λb h1 K z=>(Zo.mp<|I.rG b z).elim h1 K;have M:∀b o,X.s₀.heap.get? b=some o->b≠X.env.locals:=λb o e=>ZO<|ZU (ZC e) I.ok.above;have q:∀b o,X.s₀.heap.get? b=some o->b∉ch:=λb o e z=>by rw[(j b z).2.1]at e;cases e
 have f:∀c v,s.heap.IsCell c v->h'.IsCell c v:=λc v ⟨o,L,hd⟩=>by
  obtain⟨E,e⟩:=k2 c o L λO z=>by rw[hd]at z;cases z
  exact⟨_,e,hd⟩
 refine⟨I.ok,I.os,I.bare,⟨λb o e n hb B=>?_,λb o e n hb B=>?_,I.base.free,λb o e B=>?_,I.base.tups,I.base.uw,I.base.tY⟩,?_,λx c e=>?_,I.free,I.wR,λp F=>?_,λb u e=>?_,I.len⟩
 .exact kp b o (I.base.keep b o e n hb B) (q b o e) (C b (M b o e) hb)
 .obtain⟨E,t⟩:=I.base.slot b o e n hb B;obtain⟨D,w⟩:=any b _ t<|q b o e;exact⟨D,w⟩
 .obtain⟨N,t⟩:=I.base.there b o e B;obtain⟨D,w⟩:=any b _ t<|q b o e;exact⟨_,w⟩
 .obtain⟨m,hn,hl⟩:=I.loc;refine⟨m,k2.ns hn,λi x v t w J=>?_⟩;obtain⟨u,r,l⟩:=hl i x v t w J;refine⟨u,r,?_⟩
  rcases l with l|⟨k,c,e,z⟩
  .exact .inl l
  .exact .inr ⟨k,c,e,f c _ z⟩
 .obtain⟨v,z⟩:=I.cell x c e;exact⟨v,f c v z⟩
 .obtain⟨e,n,ne,G,d⟩:=I.pin p F;exact⟨kp _ _ e (λz=>(j _ z).2.2.2.2 p F rfl) (C _ ne G),n,ne,G,d⟩
 .refine(I.hok b u e).stay (λc v hc r=>kp c v r (λz=>?_) λz=>?_) (λ_ r=>r) λ_ _ r=>r
  .have g:=(j c z).1
   rcases hc with y|y
   .rw[y,e]at g;cases g
   .rw[y]at g;cases g
  .have g:=I.rY c z
   rcases hc with y|y
   .rw[y,e]at g;cases g
   .rw[y]at g;cases g
theorem Inv.lM (I:Inv X Dp σ H s)(f:W0 X Dp H T)(new:yq X.prog X.w (upd H T o) s.heap T o):Inv X Dp σ (upd H T o) s:=by
 obtain⟨n,g,i,hc,j⟩:=f;refine⟨I.ok,I.os,I.bare,I.base.mq g n,I.loc,I.cell,?_,λx c e=>?_,λp b=>?_,I.hok.adopt n new,I.len⟩
 .rw[zI<|EC i];exact I.free
 .rw[zI<|hc x c e];exact I.wR x c e
 .obtain⟨e,l,ne,q,d⟩:=I.pin p b;exact⟨e,by rw[zI<|j p b];exact l,ne,q,d⟩
def Cx.lU (X:Cx)(Dp:De)(R:St->Hp->Ep->Prop):Cx :=
 { X with pn:=X.pn++Dp,xe:=λe b=>∃a T cls σ H,e=.ref a/\Inv X Dp σ H b/\W0 X Dp H a/\W0 X Dp H T/\ExcAt b.heap a T cls/\R σ H cls }
theorem Inv.into (I:Inv X Dp σ H s)(R:St->Hp->Ep->Prop):Inv (X.lU Dp R) [] σ H s :=
 ⟨⟨I.ok.mod,I.ok.kind,I.ok.glob,I.ok.blt,I.ok.above,I.ok.inj,I.ok.has,I.ok.cab,I.ok.hd,I.ok.frames,I.ok.stk,I.ok.ju,I.ok.bs,I.ok.nj,I.ok.pW,I.ok.pL,I.ok.uv,I.ok.mW⟩,I.os,I.bare,I.base,I.loc,I.cell,I.free,I.wR,λp b=>I.pin p (by
  have b:p∈(X.pn++Dp)++[]:=b;simpa using b),I.hok,I.len⟩
theorem Inv.rW (I:Inv (X.lU Dp R) D9 σ H s):Inv X Dp σ H s :=
 ⟨⟨I.ok.mod,I.ok.kind,I.ok.glob,I.ok.blt,I.ok.above,I.ok.inj,I.ok.has,I.ok.cab,I.ok.hd,I.ok.frames,I.ok.stk,I.ok.ju,I.ok.bs,I.ok.nj,I.ok.pW,I.ok.pL,I.ok.uv,I.ok.mW⟩,I.os,I.bare,I.base,I.loc,I.cell,I.free,I.wR,λp b=>I.pin p<|Yl _ b,I.hok,I.len⟩
theorem SP.rW (h:SP (X.lU Dp R) D9 D f s'):SP X Dp D f s':=by
 cases f with
 |next=>obtain⟨b,c,I,q⟩:=h;exact⟨b,c,I.rW,q⟩
 |brk=>obtain⟨b,c,I,q⟩:=h;exact⟨b,c,I.rW,q⟩
 |cont=>obtain⟨b,c,I,q⟩:=h;exact⟨b,c,I.rW,q⟩
 |ret u=>obtain⟨v,b,c,I,r,q⟩:=h;exact⟨v,b,c,I.rW,r,q⟩
theorem xY (c:X.ex=[]):Raises (X.lU Dp R) R:=by
 intro D9 σ H s e p I l;obtain⟨a,T,cls,f,rfl,os,bare,un,hok,o,n,ha,j,i,q⟩:=l;have d:Inv X Dp σ H s:=I.rW;have g:Inv X Dp σ f p:=d.call' (ch:=[]) os un hok bare λb z=>absurd z (by simp);exact⟨a,T,cls,σ,f,rfl,g,d.jz c o ha,d.jz c n j,i,q⟩
def Cx.pC (X:Cx)(e:Ep):Cx:={ X with A:=X.A.mark<|some e,calm:=false,xe:=λ_ _=>False }
theorem Inv.mark (I:Inv X Dp σ H s)(e:Ep):Inv (X.pC e) Dp σ H s :=
 ⟨⟨I.ok.mod,I.ok.kind,I.ok.glob,I.ok.blt,I.ok.above,I.ok.inj,I.ok.has,I.ok.cab,λz=>(by cases z),I.ok.frames,I.ok.stk,I.ok.ju,I.ok.bs,I.ok.nj,I.ok.pW,I.ok.pL,I.ok.uv,I.ok.mW⟩,I.os,I.bare,I.base,I.loc,I.cell,I.free,I.wR,I.pin,I.hok,I.len⟩
theorem Inv.unmark {e:Ep}(ok:X.Ok)(I:Inv (X.pC e) Dp σ H s):Inv X Dp σ H s :=
 ⟨ok,I.os,I.bare,I.base,I.loc,I.cell,I.free,I.wR,I.pin,I.hok,I.len⟩
end
def UW (a:Eo)(cls:Ep):HO:=.ext λh=>∃o b,h.get? a=some o/\o.cls=cls/\o.data=.fields b/\ctx0 b
section
variable {P:Er}{w:Eu}{K:Cq}{mg:Str->Dc}{base:EI}
theorem yc.sU {st:ER}{k:Nat}{sp:Sp}(F:yc K x qual st f fd)(S:zy N ps<|zF st)
  (d:∀(cdv:Ep) (A:EJ) (outer:List Env) (s:Et) (H:Hp) (vs:Dj) (Q:VK) (E:XK),xr k (A.deeper<|Mw qual (zF st) s.heap.objs.size f cdv)->sp vs H Q E -> ∃t,qw (GG (CI P w) P w K mg base N qual (zF st) f cdv A outer s H E) (xM st) t/\t { nx:=λ_ H'=>Q .non H',rt:=Q } (start N vs) H)(len:∀vs H Q E,sp vs H Q E->vs.length=ps.length:=by intro _ _ _ _ h;first|(cases h;subst_vars;rfl)|repeat first|(obtain⟨rfl,_⟩:=h;rfl)|obtain⟨_,h⟩:=h):zc P w K mg base (CI P w) (k+1) f fd ps sp:=by
 obtain⟨n,o,kV,e,p,l,cdv,ct,j,rfl,i,b⟩:=F.ex;refine Tl i b S len λA outer s H vs Q E g c=>?_;obtain⟨t,h,q⟩:=d cdv A outer s H vs Q E g c;exact⟨t,h,q⟩
end
section
variable {X:Cx}{a:EN}{ta:TE}{K:Cq}
def cy (K:Cq)(ta:TE):TT:=λc H Q=>ta c H λx b=>∃k,TL K x b k/\Q k b
theorem zU (ha:PE X a ta)(he:∀whole,isTrue a X.env whole=(do let v <-whole;standAt a.pos;MG [v] (truthy v)):=by intro _;rfl)(b:X.K=K:=by rfl):PT X a (cy K ta):=by
 subst b;exact Rp ha he
end
end L2
namespace An
open PySem L2
abbrev cs (x:Str):List Nat:=x.cps.toList
theorem xj (h:cs x=cs y):x=y:=by
 obtain⟨a⟩:=x;obtain⟨b⟩:=y;have:a=b:=by simpa using h
 rw[this]
theorem zm (x y:Str):cs (x++y)=cs x++cs y:=by
 show(x.cps++y.cps).toList=_;simp
theorem zf (x:Str):x.length=(cs x).length:=by simp[Str.length]
theorem yr (x y:Str):(x++y).length=x.length+y.length:=by rw[zf,zf,zf,zm,ZB]
theorem uR:∀xs:Da,cs (MI "" xs)=xs.flatMap cs
 |[]=>rfl
 |[x]=>by show cs x=_;simp
 |x::y::r=>by
  show cs (x++""++MI "" (y::r))=_;have:cs ("":Str)=[]:=by decide+kernel
  rw[zm,zm,uR (y::r),this,Z2];simp
theorem qF:∀(a b:Da),E5 (a.map .str) (b.map .str)=decide (a=b)
 |[],[]=>rfl
 |[],_::_=>rfl
 |_::_,[]=>rfl
 |x::a,y::b=>by
  show((x==y)&&E5 (a.map .str) (b.map .str))=_;rw[qF a b,Yx];simp
structure Ok (n:Nat)(x:Str):Prop where
 len:x.length<=n
 ok:Ew x=true
theorem yX (x:Str):Ew x=true↔∀c∈cs x,c<1114112:=by
 unfold Ew;rw[<-Array.all_toList,ZQ];simp
theorem uL:∀ls:Da,(∀p∈ls,Ew p=true)->EE (ls.map .str)=true/\EK (ls.map .str)=0
 |[],_=>⟨rfl,rfl⟩
 |x::ls,h=>by
  obtain⟨h1,b⟩:=uL ls λp c=>h p<|Zn _ c;refine⟨?_,?_⟩
  .show(Ew x&&EE (ls.map .str))=true;rw[h x Zs,h1];rfl
  .show max 0 (EK<|ls.map .str)=0;rw[b];rfl
theorem yO {ls:Da}(h:∀p∈ls,Ew p=true):EW (.list<|ls.map .str)=true/\EW (.tuple<|ls.map .str)=true:=by
 obtain⟨h1,b⟩:=uL ls h;refine⟨?_,?_⟩
 .show(EE (ls.map .str)&&decide (EK (ls.map .str)+1<=64))=true;rw[h1,b];rfl
 .show(EE (ls.map .str)&&decide (EK (ls.map .str)+1<=64))=true;rw[h1,b];rfl
theorem zG {H:Hp}{l:Eo}(h:H l=none):zx H (upd H l o):=λb u e=>by rwa[zI<|zS e h]
theorem zx.rC {l:Eo}(e:zx H H2)(n:H l=none):zx H (upd H2 l o):=λb u q=>by rw[zI<|zS q n];exact e b u q
theorem zp {n:Nat}(h:n<=16777216):n<=sizeLine:=by rwa[YK]
theorem yJ {n:Nat}(h:n<16777216):n<sizeLine:=by rwa[YK]
theorem Fs {b:Type}(x:b)(r:List b):CO (x::r) 0=some x:=yA (j:=0) rfl
theorem UD (n:Nat)(h:n<=16777216:=by decide):n<=sizeLine:=zp h
theorem GB {c A B:Prop} [Decidable c](hc:¬c)(h:B):if decide c=true then A else B:=by
 rw[ZE hc];exact UC h
theorem MT {n:Nat}:∀(ys:Da),(∀y∈ys,y.length<=n)->(ys.map (·.length)).sum<=ys.length*n
 |[],_=>by simp
 |y::ys,h=>by
  have h1:=MT ys λz b=>h z<|Zn _ b;have c:=h y Zs;rw[ZL,JC,ZF,Nat.succ_mul];lia
theorem jH {b:Type}{p:b->Prop}{l:List b}{x:b}(h:∀y∈l,p y)(d:p x):∀y∈l++[x],p y:=λy c=>by
 rcases ZR.mp c with z|z
 .exact h y z
 .rwa[Zl.mp z]
theorem OV {c:Type}{f:c->V}{xs:List c}{i:Int}(h0:0<=i)(h1:i<xs.length):∃x,xs[i.toNat]?=some x/\CO (xs.map f) i=some (f x):=by
 obtain⟨j,rfl⟩:=Yn h0;have b:j<xs.length:=by lia
 refine⟨xs[j],by simp[b],yA ?_⟩;rw[Zy,Zv b];rfl
theorem T6 {i:Int}(h0:0<=i):Gs xs none (some i)=xs.take i.toNat:=by
 obtain⟨j,rfl⟩:=Yn h0;unfold Gs;rw[HT.oU,HT.pI,Ub];show xs.take (min j xs.length-0)=xs.take j
 by_cases h:j<=xs.length
 .rw[Nat.min_eq_left h];rfl
 .rw[Nat.min_eq_right<|by lia,Nat.sub_zero,ZV,JS<|by lia]
theorem O4 {i:Int}(h0:0<=i):Gs xs (some i) none=xs.drop i.toNat:=by
 obtain⟨j,rfl⟩:=Yn h0;unfold Gs;rw[HT.oU,HT.pI];show(xs.drop<|min j xs.length).take (xs.length-min j xs.length)=xs.drop j
 by_cases h:j<=xs.length
 .rw[Nat.min_eq_left h];exact JS (by rw[Jo];lia)
 .rw[Nat.min_eq_right<|by lia,List.drop_eq_nil_of_le<|Zt _,List.drop_eq_nil_of_le<|by lia];simp
theorem IS (K:Cq)(T:String):EV K (.type T) (.type T)=some true:=by
 unfold EV;rw[ZK<|by simp]
theorem UN {A B:Prop}(h:B):if(!true)=true then A else B:=by
 show if false=true then A else B;exact UC h
theorem Nn {A B:Prop}(h:A):if(!false)=true then A else B:=by
 show if true=true then A else B;exact UF h
def one (c:Nat):Str:=⟨#[c]⟩
theorem kN:∀l:List Nat,cs (Lu ""<|l.map one)=l:=by
 intro l;have b:Lu "" (l.map one)=MI "" (l.map one):=Lm _ _;rw[b,uR,List.flatMap_map]
 induction l with
 |nil=>rfl
 |cons c l ih =>
  rw[Jg];show[c]++_=_;rw[ih<|Lm _ _];rfl
theorem Iy:∀l:List Nat,((l.map one).map (·.length)).sum=l.length
 |[]=>rfl
 |c::l=>by
  rw[ZL,ZL,JC,Iy l,ZF];show 1+l.length=_;lia
end An
namespace L2
open PySem PySem.Spec PyProof.Rows
section
variable {X:Cx}{K:Cq}
def bW:R2:=λx y H Q=>∃i j:Str,x=.str i/\y=.str j/\Q (.bl<|!decide (j.cps.toList<i.cps.toList)) H
theorem Fd:CH X (ES .LtE) bW:=by
 intro d s f H x y v u Q I b c h;obtain⟨i,j,rfl,rfl,q⟩:=h;obtain⟨t,rfl⟩:=b;obtain⟨e,rfl⟩:=c;exact P.le_str ⟨.bl _,H,I,rfl,q⟩
theorem BF:∀{bs:List Bool} {us:Db},zb (bs.map V.bl) us->us=bs.map Mg
 |[],us,h=>by cases h;rfl
 |b::bs,us,h=>by
  cases h with
  |cons r1 r2=>rw[BF r2];cases r1;rfl
def bR (K:Cq):Dj->Hp->VK->Prop:=λb H Q=>∃(a:Eo) (bs:List Bool),b=[.ref a]/\yu K H a (bs.map V.bl)/\Q (.bl<|bs.all id) H
theorem kA (hc:X.calm=true)(n:X.K=K:=by rfl):yd X (.builtin "all") (bR K):=by
 subst n;intro w s E H D C Q I r h;obtain⟨a,bs,rfl,ha,q⟩:=h;obtain⟨u,rfl,p⟩:=wW r;cases p;obtain⟨c,t,o,z⟩:=I.list ha;have g:=BF t;have hl:=o.isList;have f:a<s.heap.objs.size:=by obtain⟨_,e,_⟩:=hl;exact ZC e
 refine call_all_walk<|J0 hl ?_;refine⟨s.heap.objs.size,[s.heap.objs.size,a],[s.heap.objs.size],c.toArray.size,_,_,λi=>(bs[i]?).getD true,rfl,Walks.list (A:=X.A.in1) (I.ok.hd hc) _ a (ZO f) c.toArray,⟨⟨_,Zz _ rfl,rfl,rfl⟩,hl.push _⟩,λi v B y x d j=>?_,λh' tk hk=>?_⟩
 .have d:c[i]?=some v:=by simpa using d
  rw[g,Zy]at d;cases e:bs[i]? with
  |none=>rw[e]at d;cases d
  |some b =>
   rw[e]at d;have d:Mg b=v:=Option.some.inj d;subst d;simp only[e,VU]at j;exact Y2 j
 .have l:c.length=bs.length:=by rw[g,Zk]
  have e:((ET c.toArray.size).all λi=>(bs[i]?).getD true)=bs.all id:=by
   rw[ZP,l];exact PyProof.Rows.LSm.range_all bs
  rw[e];exact⟨.bl _,H,I.kept<|PyProof.Rows.LSm.kept_iter hk,rfl,q⟩
end
mutual
def Dw (K:Cq)(H:Hp):Ey->V->Prop
 | .none,v=>v=.non
 | .bool b,v=>v=.bl b
 | .int i,v=>v=.int i
 | .str x,v=>v=.str x
 | .list ds,v=>∃a c,v=.ref a/\yu K H a c/\xq K H ds c
 | .tuple ds,v=>∃a c,v=.ref a/\wY K H a c/\xq K H ds c
 | .dict _,v=>∃a d,v=.ref a/\H a=some (.dK d)
def xq (K:Cq)(H:Hp):Df->Dj->Prop
 |[],xs=>xs=[]
 |d::ds,xs=>∃x r,xs=x::r/\Dw K H d x/\xq K H ds r
end
mutual
theorem Dw.same {K:Cq}(e:zx H H'):∀(d:Ey) (v:V),Dw K H d v->Dw K H' d v
 | .none,_,h=>h
 | .bool _,_,h=>h
 | .int _,_,h=>h
 | .str _,_,h=>h
 | .list ds,_,⟨a,xs,h1,h2,h3⟩=>⟨a,xs,h1,e.seq h2,xq.same e ds xs h3⟩
 | .tuple ds,_,⟨a,xs,h1,h2,h3⟩=>⟨a,xs,h1,e.yg h2,xq.same e ds xs h3⟩
 | .dict _,_,⟨a,Dm,h1,h2⟩=>⟨a,Dm,h1,e _ _ h2⟩
theorem xq.same {K:Cq}(e:zx H H'):∀(ds:Df) (xs:Dj),xq K H ds xs->xq K H' ds xs
 |[],_,h=>h
 |d::ds,_,⟨x,r,h1,h2,h3⟩=>⟨x,r,h1,Dw.same e d x h2,xq.same e ds r h3⟩
end
mutual
theorem Dt.dw {K:Cq}:∀{d:Ey} {v:V},Dt K H d v->Dw K H d v
 | .none,_,h=>h
 | .bool _,_,h=>h
 | .int _,_,h=>h
 | .str _,_,h=>h
 | .list ds,_,⟨a,xs,h1,h2,h3⟩=>⟨a,xs,h1,h2,zu.dw h3⟩
 | .tuple ds,_,⟨a,xs,h1,h2,h3⟩=>⟨a,xs,h1,h2,zu.dw h3⟩
 | .dict _,_,h=>h.elim
theorem zu.dw {K:Cq}:∀{ds:Df} {xs:Dj},zu K H ds xs->xq K H ds xs
 |[],_,h=>h
 |d::ds,_,⟨x,r,h1,h2,h3⟩=>⟨x,r,h1,Dt.dw h2,zu.dw h3⟩
end
theorem xq.length {K:Cq}:∀{ds:Df} {xs:Dj},xq K H ds xs->xs.length=ds.length
 |[],_,h=>by rw[show _=[] from h];rfl
 |d::ds,_,⟨x,r,h1,h2,h3⟩=>by rw[h1,ZF,ZF,xq.length h3]
theorem xq.get {K:Cq}:∀{ds:Df} {xs:Dj} {i:Nat} {x:V},xq K H ds xs->xs[i]?=some x->∃d,ds[i]?=some d/\Dw K H d x
 |[],_,i,x,h,e=>by rw[show _=[] from h]at e;cases e
 |d::ds,_,0,x,⟨x',r,h1,h2,h3⟩,e=>by
  rw[h1]at e;cases e;exact⟨d,rfl,h2⟩
 |d::ds,_,i+1,x,⟨x',r,h1,h2,h3⟩,e=>by
  rw[h1]at e;obtain⟨b,c,f⟩:=xq.get (i:=i) h3 (by simpa using e);exact⟨b,by simpa using c,f⟩
theorem xq.at {K:Cq}{i:Nat}{d:Ey}(h:xq K H ds xs)(e:ds[i]?=some d):∃x,xs[i]?=some x/\Dw K H d x:=by
 have c:i<xs.length:=by rw[h.length];exact(ZJ.mp e).1
 obtain⟨f,b,q⟩:=h.get<|Zv c;rw[e]at b;cases b;exact⟨_,Zv c,q⟩
def U1:Ey->String
 | .none=>"NoneType"
 | .bool _=>"bool"
 | .int _=>"int"
 | .str _=>"str"
 | .list _=>"list"
 | .tuple _=>"tuple"
 | .dict _=>"dict"
section
variable {X:Cx}{Dp:De}{σ:St}{H:Hp}{s:Et}{A:EJ}{E:Ep->Dh}{Q:Ep->Dh}{c:Ep}{b:Bool}{K:Cq}
theorem Oi (I:Inv X Dp σ H s)(f:za x u)(hd:Dw X.K H d x)(e:EV X.K (.type<|U1 d) c=some b)(h:∀tk,Q (.bool b) { s with toks:=tk }) :
  Es (Ez X.prog X.w) A (call (.builtin "isinstance") [u,c]) Q E s:=by
 cases d with
 |none=>cases(show x=_ from hd);exact jW I f .non e h
 |bool y=>cases(show x=_ from hd);exact jW I f (.bl y) e h
 |int i=>cases(show x=_ from hd);exact jW I f (.int i) e h
 |str y=>cases(show x=_ from hd);exact jW I f (.str y) e h
 |dict Dm=>obtain⟨a,t,rfl,q⟩:=hd;exact jW I f (.dK q) e h
 |list ds =>
  obtain⟨a,r,rfl,j,_⟩:=hd;cases(show u=EB a from f);obtain⟨l,_,⟨o,n,h1,g,_⟩,_⟩:=I.list j;exact Ys Uh I.vh ⟨o,h1,g⟩ e (λz=>nomatch z) h
 |tuple ds =>
  obtain⟨a,r,rfl,j,_⟩:=hd;cases(show u=EB a from f);obtain⟨l,_,p,_⟩:=I.tuple j;obtain⟨o,h1,g,_⟩:=p;exact Ys PySem.W.kitx_tuple I.vh ⟨o,h1,g⟩ e (λz=>nomatch z) h
def aR (K:Cq):Dj->Hp->VK->Prop:=λc H Q=>∃y T d b,c=[y,.ty T]/\Dw K H d y/\EV K (.type<|U1 d) (.type T)=some b/\Q (.bl b) H
theorem z7 (e:X.K=K:=by rfl):yd X (.builtin "isinstance") (aR K):=by
 subst e;intro Dp s σ H l j Q I r h;obtain⟨y,T,d,b,rfl,hd,f,q⟩:=h;obtain⟨u,i,rfl,g,c⟩:=vals2 r;cases(show i=Value.type T from c);exact Oi I g hd f λtk=>⟨.bl b,H,I.tok _,rfl,q⟩
end
section
variable {src:List (Option Nat)}{g:TG}{te:TE}{Q:VK}{σ:St}{H:Hp}
theorem Be {x:Str}(b:Nat->Dj->St->Hp->Prop)(h0:b 0 [] (US src σ) H)(hz:x.length<=sizeLine)(hl:∀i ys σ H,i<=x.length->b i ys σ H->ys.length<=i)
  (hs:∀i c ys σ H,x.cps[i]?=some c->b i ys σ H->g (.str ⟨#[c]⟩) σ H λσ2 H3=>te σ2 H3 λy H5=>b (i+1) (ys++[y]) σ2 H5)
  (hd:∀ys σ H,b x.length ys σ H->∀p,H p=none->Q (.ref p) (upd H p<|.lst ys)):U6 src (W9 x) g Im te Q σ H :=
 Ii x.length b h0 hz hl (λ_ _ _ _=>rfl) (λ_ _ _ _ d _=>d)
  (λi ys σ H d p j f y=>by
   obtain⟨e,c,hc,rfl⟩:=y;subst e;rw[Fa];exact hs i c ys σ _ hc p) hd
end
end L2
namespace L2
open PySem PyProof.Rows
mutual
def W1:Ey->Ey->Bool->Prop
 | .int a,.int b,r=>r=decide (a<b)
 | .str a,.str b,r=>r=decide (a.cps.toList<b.cps.toList)
 | .tuple xs,.tuple ys,r=>Tf xs ys r
 |_,_,_=>False
def Tf:Df->Df->Bool->Prop
 |[],ys,r=>r=decide (0<ys.length)
 |_::_,[],r=>r=false
 |x::xs,y::ys,r=>(EM x y=true/\Tf xs ys r)\/(EM x y=false/\W1 x y r)
end
section
variable {prog:Er}{w:Eu}
def M6 (prog:Er)(w:Eu)(A:EJ)(r:Bool)(fin:Bool)(s:Et):List (Ep×Ep)->Prop
 |[]=>fin=r
 |p::l=>(∀(Q:Bool->Dh) (E:Ep->Dh),Q true s->Es (Ez prog w) A (eqBool p.1 p.2) Q E s)/\M6 prog w A r fin s l \/
  (∀(Q:Bool->Dh) (E:Ep->Dh),Q false s->Es (Ez prog w) A (eqBool p.1 p.2) Q E s) /\
  (∀(Q:Ep->Dh) (E:Ep->Dh),Q (.bool r) s->Es (Ez prog w) A (LZ .Lt p.1 p.2) Q E s)
theorem GE {A:EJ}{E:Ep->Dh}{s:Et}{a b:Eo}{p ob:Obj}{xs e:Array Ep}{t nb:Nat}{r:Bool}{P:Fin->Dh}
  (o:s.heap.get? a=some p) (l:p.data=.seq xs t) (f:s.heap.get? b=some ob) (j:ob.cls=.type "tuple") (n:ob.data=.seq e nb)
  (q:M6 prog w A r (decide (xs.size<e.size)) s (xs.toList.zip e.toList)) (h:P (.done<|.ret<|.bool r) s) :
  Es (Ez prog w) A (Builtin.«tuple.__lt__» ⟨[.ref a,.ref b],[]⟩) P E s:=by
 have i:s.TypeIs (.ref b) "tuple":=⟨ob,f,j⟩;show Es _ _ (isInstance (.ref b) (.type "tuple")>>=_) _ _ s;refine Zm<|Jb i isSubtype_tuple_tuple ?_;simp only[Uo,Yt,Js];refine Zm<|Uc o l<|Zm<|Uc f n<|Zm ?_;refine Ur _ (λd c g=>c.1=none/\g=s/\M6 prog w A r (decide (xs.size<e.size)) s d) _ ?_ ?_ _ _ ⟨rfl,rfl,q⟩
 .rintro⟨u,v⟩ d c g ⟨hc,rfl,ha⟩
  rcases ha with⟨h1,h2⟩|⟨h1,h2⟩
  .refine Zm (h1 _ _ ?_);simp only[Uo,Yt,Js];exact Zu ⟨rfl,rfl,h2⟩
  .refine Zm (h1 _ _ ?_);simp only[Bool.not_false,Uj];refine Zm<|J4<|Zm<|h2 _ _<|Zm<|Zu<|Zu ?_;exact Zu h
 .rintro⟨x,y⟩ g ⟨hc,rfl,ha⟩;simp only at hc;subst hc;refine Zu ?_;have ha:decide (xs.size<e.size)=r:=ha;show P (.done<|.ret<|.bool<|decide (xs.size<e.size)) g;rwa[ha]
def ON (prog:Er)(w:Eu)(d:Ey):Prop:=∀(e:Ey) (r:Bool) (A:EJ) (s:Et) (a b:Ep) (c bs:Dd),Reads s.heap a d c->Reads s.heap b e bs->d.canLay0=true->e.canLay0=true->A.units+min d.depth e.depth<E8->W1 d e r ->
  ∀(Q:Ep->Dh) (E:Ep->Dh),Q (.bool r) s->Es (Ez prog w) A (LZ .Lt a b) Q E s
def Fn (prog:Er)(w:Eu)(xs:Df):Prop:=∀(b:Df) (r:Bool) (A:EJ) (s:Et) (d c:Db) (e bs:Dd),LU s.heap d xs e->LU s.heap c b bs->EE xs=true->EE b=true->A.units+min (EK xs) (EK b)<E8->Tf xs b r ->
  ∀k:Nat,M6 prog w A r (decide (k+d.length<k+c.length)) s (d.zip c)
theorem Oq (i:Int):ON prog w (.int i):=by
 intro e r A s a b f bs c d _ _ _ h Q E q;cases e with
 |int j =>
  cases c;cases d;cases(show r=_ from h);exact(lt_int q:Es _ _ (ES .Lt _ _) _ _ _)
 |_=>exact EL h
theorem Os (i:Str):ON prog w (.str i):=by
 intro e r A s a b f bs c d _ _ _ h Q E q;cases e with
 |str j =>
  cases c;cases d;cases(show r=_ from h);exact(lt_str q:Es _ _ (ES .Lt _ _) _ _ _)
 |_=>exact EL h
theorem Ot (f:Fn prog w xs):ON prog w (.tuple xs):=by
 intro e r A s a b j bs g i ha hb d h Q E q;cases e with
 |tuple ys =>
  cases g with
  |tuple h1 h2 h3 h4 =>
   cases i with
   |tuple k1 k2 k3 k4 =>
    have c:=f ys r A.in1 s _ _ _ _ h4 k4 ha hb (SeqAt.room_in d) h 0;rw[Uw,Uw,ZT,ZT]at c;exact V8 (op:=.Lt) ⟨_,h1,h2⟩ ⟨_,k1,k2⟩ F.slot_tuple_lt
     (Yq F.slot_tuple_lt ⟨_,h1,h2⟩ F.entry_tuple_lt (GE h1 h3 k1 k2 k3 (r:=r) c ⟨_,rfl,(λe=>nomatch e),q⟩)<|F.args_tuple_lt_2 _ _) (SeqAt.room_here d)
 |_=>exact EL h
theorem Sm:Fn prog w []:=by
 intro f r A s i b g bs c d _ _ _ h k;cases c;have e:b.length=f.length:=SeqAt.ReadsAll.length _ _ _ d;rw[List.zip_nil_left];show decide (k+0<k+b.length)=r;rw[show r=_ from h,e];exact Vb.mpr (by lia)
theorem PK (h1:ON prog w x)(p:Fn prog w xs):Fn prog w (x::xs):=by
 intro f r A s j i B bs n o t z l h k;cases f with
 |nil =>
  cases o;cases n;rw[List.zip_nil_right];show decide (k+_<k+0)=r;rw[show r=_ from h];exact ZE (by lia)
 |cons y f =>
  have b:x.canLay0=true/\EE xs=true:=by simpa[EE] using t
  have c:y.canLay0=true/\EE f=true:=by simpa[EE] using z
  have d:A.units+min x.depth y.depth<cLine:=SeqAt.room_head l;have g:A.units+min (EK xs) (EK f)<cLine:=SeqAt.room_tail l;cases n with
  | @cons v j _ _ _ _ p1 p2 =>
   cases o with
   | @cons u i _ _ _ _ q1 q2 =>
    rw[List.zip_cons_cons];have h:(EM x y=true/\Tf xs f r)\/(EM x y=false/\W1 x y r):=h
    rcases h with⟨e,h⟩|⟨e,h⟩
    .refine .inl ⟨λQ E q=>L4 prog w A E s _ _ _ _ _ _ Q p1 q1 b.1 c.1 d<|by rwa[e],?_⟩;have C:=p f r A s _ _ _ _ p2 q2 b.2 c.2 g h<|k+1;rwa[ZF,ZF,show k+(j.length+1)=k+1+j.length by lia,show k+(i.length+1)=k+1+i.length by lia]
    .exact .inr ⟨λQ E q=>L4 prog w A E s _ _ _ _ _ _ Q p1 q1 b.1 c.1 d<|by rwa[e],λQ E q=>h1 y r A s _ _ _ _ p1 q1 b.1 c.1 d h Q E q⟩
mutual
theorem PD:∀d:Ey,ON prog w d
 | .int i=>Oq i
 | .str i=>Os i
 | .tuple xs=>Ot<|PF xs
 | .none=>λe r A s a b c bs f g _ _ _ h=>EL h
 | .bool _=>λe r A s a b c bs f g _ _ _ h=>EL h
 | .list _=>λe r A s a b c bs f g _ _ _ h=>EL h
 | .dict _=>λe r A s a b c bs f g _ _ _ h=>EL h
theorem PF:∀xs:Df,Fn prog w xs
 |[]=>Sm
 |x::xs=>PK (PD x)<|PF xs
end
end
end L2
namespace L2
open PySem PySem.Spec PyProof.Rows
section
variable {X:Cx}{Dp:De}{σ:List (Option V)}{H:Hp}{s:Et}{h':EI}
theorem Inv.lost {i:Nat}{y:Str}{w:Dc}(I:Inv X Dp σ H s){m:Str->Dc}(hm:∀(i:Nat) (x:Str) (v:V),X.N[i]?=some x->σ[i]?=some (some v)->bA X.env.scope x->∃u,za v u/\Look X.env s.heap m x u)(E:X.N.Nodup)(F:X.N[i]?=some y)(hn:h'.Ns X.env.locals<|λx=>if x=y then w else m x)(f:Lp X.env.locals s.heap h')(tk:Nat):Inv X Dp (σ.set i none) H { s with heap:=h',toks:=tk }:=by
 have C:∀b o,X.s₀.heap.get? b=some o->b≠X.env.locals:=λb o e=>ZO<|ZU (ZC e) I.ok.above;refine⟨I.ok,I.os,I.bare,⟨λb o e n hb l=>(f.2 b<|C b o e).trans<|I.base.keep b o e n hb l,λb o e n hb l=>?_,I.base.free,λb o e l=>?_,I.base.tups,I.base.uw,I.base.tY⟩,⟨_,hn,λj x v g A D=>?_⟩,λx c e=>?_,I.free,I.wR,λp G=>?_,λb u e=>?_,by simpa using I.len⟩
 .obtain⟨M,g⟩:=I.base.slot b o e n hb l;exact⟨M,(f.2 b<|C b o e).trans g⟩
 .obtain⟨K,g⟩:=I.base.there b o e l;exact⟨K,(f.2 b<|C b o e).trans g⟩
 .by_cases B:j=i
  .subst B;rw[List.getElem?_set]at A;simp at A
  .rw[VY<|EC B]at A;obtain⟨O,L,q⟩:=hm j x v g A D;refine⟨O,L,?_⟩
   rcases q with⟨k,e⟩|⟨k,c,e,z⟩
   .refine .inl ⟨k,?_⟩;have:x≠y:=λe=>B<|Ix E g<|e▸F;simp[this,e]
   .exact .inr ⟨k,c,e,z.sameBut f<|I.kj x c e⟩
 .obtain⟨v,z⟩:=I.cell x c e;exact⟨v,z.sameBut f<|I.kj x c e⟩
 .obtain⟨e,n,ne,J,d⟩:=I.pin p G;exact⟨(f.2 p.1 ne).trans e,n,ne,J,d⟩
 .refine(I.hok b u e).stay (λc v hc r=>(f.2 c λz=>?_).trans r) (λ_ r=>r) λ_ _ r=>r;have t:=I.free;rw[<-z]at t
  rcases hc with y|y
  .rw[y,e]at t;cases t
  .rw[y]at t;cases t
def bn (K:Cq)(C:Eo)(i:Nat)(tb:(St->Hp->Ep->Prop)->TS)(th:Eo->TS):TS:=λD σ H=>∃R:St->Hp->Ep->Prop,tb R D σ H /\
 ∀b c cls a,R b c cls->c a=none->PySem.W.exmOne K cls (.ref C)=some true/\th a { nx:=λd e=>D.nx (d.set i none) e,rt:=D.rt } (b.set i (some<|.ref a)) (upd c a<|UW a cls)
theorem BR {body j:List ER}{p:ER}{c n:Str}{C:Eo}{i:Nat}{np O pos:Pos}{tb:(St->Hp->Ep->Prop)->TS}{th:Eo->TS}(P:X.stack=X.env::X.outer)(ai:X.env.frame=some X.env.locals)(ax:X.ex=[])
  (hb:∀Dp R,qw (X.lU Dp R) body<|tb R) (hg:Gl X c) (hm:X.mg c=some (.ref C)) (hN:X.N.Nodup) (hi:X.N[i]?=some n) (hl:X.env.scope.names.lookup n=some .local) (hs:∀z:Eo,qw (X.pC<|.ref z) (p::j)<|th z)
  (hd:(c==("__debug__":Str))=false:=by decide):PS X (.Try body [.ExceptHandler (some<|.Name c np) (some n) (p::j) O] [] [] pos) (bn X.K C i tb th):=by
 intro Dp s σ H D I h;obtain⟨R,ah,hh⟩:=h;refine wpAny_Try_except<|Yy (hb Dp R [] s σ H D (I.into R) ah) (λf g q=>?_) λe g q=>?_
 .have q':SP X Dp D f g:=q.rW;cases f with
  |next=>exact V2 q'
  |brk=>exact q'
  |cont=>exact q'
  |ret u=>exact q'
 .obtain⟨a,T,cls,l,E,rfl,F,fa,fT,⟨oe,vs,oT,ts,e1,e2,e3,e4,e5,e6,e7,e8⟩,r1⟩:=q;obtain⟨hx,am⟩:=hh l E cls a r1 fa.1;have hA:X.A.frames=some (X.env::X.outer):=by rw[F.ok.frames,P]
  have L:∀b∈[a,T],W0 X Dp E b:=λb z=>by
   rcases Zo.mp z with z|z
   .rwa[z]
   .rwa[Zl.mp z]
  have ac:g.heap.FunFrames (U8 g.heap [a,T] X.stack) (X.env::X.outer):=by have z:=kP (as:=[a,T]) F.stack;rw[P]at z ⊢;exact z
  have ad:OO ctx0 g.heap (U8 g.heap [a,T] X.stack) a cls .none:=⟨oe,vs,T,oT,ts,e1,e2,e3,e4,J3 _<|by simp,e5,e6,e7,e8⟩;refine Ny Xv hA ac ai ad j9 (J3 _<|by simp) λh2 Z g2 t S=>?_;refine jO (s:={ g with heap:=h2 }) Z g2 t λh3 Y ab r U=>?_;have I3:Inv X Dp l E { g with heap:=h3 }:=F.land L Y (S.trans U) g.toks;refine wpAny_handleBy_cons (codeAny_handlers_test ?_) (by intro z;cases z);refine jZ (X:=X.pC<|.ref a) (I3.mark _) hg hm ?_ hd;obtain⟨ob,_,_,_,_,al,⟨M,_⟩,_⟩:=id r;have LT:PySem.W.Looks (Ez X.prog X.w) h3 (typeOf<|.ref a) cls:=M▸(PySem.W.Looks.ld al).andThen .now;refine(PySem.W.exm_one (K:=X.K) (h:=h3) I3.vh LT hx).here ?_;refine codeAny_handlers_suite_as<|jO (s:={ g with heap:=h3 }) Y ab r λh4 ap av J an=>?_;have I4:Inv X Dp l E { g with heap:=h4 }:=F.land L ap ((S.trans U).trans an) g.toks;have new:yq X.prog X.w (upd E a<|UW a cls) h4 a (UW a cls):=by
   obtain⟨Q,au,_,_,_,Z,⟨g2,gc⟩,g3,_⟩:=J;exact⟨⟨Q,au,Z,g2,g3,gc⟩,⟨Q,Z⟩,λu1 u2 ⟨o,v,z1,z2,z3⟩ k=>⟨o,v,k o z1,z2,z3⟩⟩
  have I5:Inv X Dp l (upd E a<|UW a cls) { g with heap:=h4 }:=I4.lM fa new;refine Gk (X:=X.pC<|.ref a) (v:=.ref a) (I5.mark _) hN hi (EU hl) rfl (λs6 I6=>?_)<|Or.inr hl;refine Yy (hs a Dp s6 _ _ _ I6 am) (λf s7 q7=>?_) λ_ _ z=>z.elim;cases f with
  |ret u =>
   obtain⟨v,B,G,I7,rv,q⟩:=q7;have d:Inv X Dp B G s7:=I7.unmark F.ok;obtain⟨m,hn,hm⟩:=d.loc;refine wpAny_nameGoes_keeps hl hn (by rw[d.ok.kind];rfl) λh8 m8 x y=>?_;exact⟨v,_,G,d.lost hm hN hi x y _,rv,q⟩
  |next =>
   obtain⟨B,G,I7,q⟩:=q7;have d:Inv X Dp B G s7:=I7.unmark F.ok;obtain⟨m,hn,hm⟩:=d.loc;refine wpAny_nameGoes_keeps hl hn (by rw[d.ok.kind];rfl) λh8 m8 x y=>?_;exact⟨_,G,d.lost hm hN hi x y _,q⟩
  |brk=>obtain⟨_,_,_,z⟩:=q7;exact z.elim
  |cont=>obtain⟨_,_,_,z⟩:=q7;exact z.elim
end
end L2
namespace AxT
open PySem PySem.Spec PyProof.Rows PySem.SeqAt
open AutoSeq1 (wpAny_loadPart')
end AxT
namespace AxR
open PySem PySem.Spec PyProof.Rows
open AutoSeq1 (wpAny_loadPart')
end AxR
namespace L2
open PySem PySem.Spec PyProof.Rows
section
variable {X:Cx}{K:Cq}{a b c d:EN}{ta tb tc td:TE}{pos:Pos}
def aU:R2:=λx y H Q=>∃(i:Str) (n:Int),x=.str i/\y=.int n/\MulOk i n/\Q (.str<|Txt.mul i n) H
theorem Sw:CH X (Mz .Mult) aU:=by
 intro e s f H x y v u Q I b c h;obtain⟨i,n,rfl,rfl,ok,q⟩:=h;obtain⟨t,rfl⟩:=b;obtain⟨d,rfl⟩:=c;exact SB.mul ok λd k=>⟨.str _,H,I.tok _,⟨_,rfl⟩,q⟩
def Wy (K:Cq)(tup c:Bool):R2:=λx y H Q=>∃(d:Ey) (b:Df),Dt K H d x/\Dt K H (if tup then .tuple b else .list b) y/\EE b=true/\d.canLay0=true/\d.depth<=60/\Q (.bl<|c !=b.any λy=>EM y d) H
theorem Wp (r:X.A.units+64<E8)(e:X.K=K:=by rfl):CH X (ES .In) (Wy K false false):=by
 subst e;intro n s t H x y v u Q I i j h;obtain⟨d,l,h1,b,c,h4,p,q⟩:=h;obtain⟨o,f⟩:=Dt.zq I d x v h1 i;obtain⟨bs,g⟩:=Dt.zq I _ y u b j;have hm:min (EK l) d.depth<=d.depth:=VT _ _;exact SeqAt.in_list_reads g f c h4 (by lia) ⟨.bl _,H,I,rfl,by simpa using q⟩
end
section
variable {X:Cx}{Dp:De}{σ:St}{H:Hp}{s:Et}
theorem GM (f:X.stack=X.env::X.outer)(p:X.env.frame=some X.env.locals)(g:X.ex=[])(I:Inv X Dp σ H s){a T:Eo}{cls:Ep}(U:X.s₀.heap.get? a=none)(S:X.s₀.heap.get? T=none)(ha:H a=none)(O:H T=none)(K:ExcAt s.heap a T cls){E:XK}(q:E cls none H)
  {Ex:Ep->Dh}:Es (Ez X.prog X.w) X.A (leaving X.env<|.ref a) (λ_ s''=>CI X.prog X.w X.outer X.H₀ X.s₀ E (.ref a) s'') Ex s:=by
 have fr:=kP (as:=[a,T]) I.stack;have N:X.A.frames=some (X.env::X.outer):=by rw[I.ok.frames,f]
 have i:∀b,b=a\/b=T->(U8 s.heap [a,T] X.stack).get? b=none:=λb hb=>by
  cases j:(U8 s.heap [a,T] X.stack).get? b with
  |none=>rfl
  |some o =>
   exfalso;have z:=J3 ([a,T]++frs X.stack) (h:=s.heap) (b:=b) (Yl _<|by simpa using hb);rw[z]at j;cases j
 obtain⟨oe,vs,Z,ts,t1,t2,t3,t4,t6,t7,t8,t9⟩:=K;have tw:OO ctx0 s.heap (U8 s.heap [a,T] X.stack) a cls .none:=⟨oe,vs,T,Z,ts,t1,t2,t3,t4,i T<|.inr rfl,t6,t7,t8,t9⟩;refine KL (base:=U8 s.heap [a,T] X.stack) Xv N (by rwa[<-f]) p tw j9 (i a<|.inl rfl) λn P Q L R=>?_;obtain⟨x,C,d,t,B,u1,u2,u3,u4,u5,F,G,J,u9⟩:=L;have kp:∀b o,s.heap.get? b=some o->b≠a->b≠T->b∉frs X.stack->n.get? b=some o:=λb o e M h4 hb=>P b o (Ji _ e (by
  intro z
  rcases ZR.mp z with z|z
  .have z:b=a\/b=T:=by simpa using z
   exact z.elim M h4
  .exact hb z))
 have y:∀b o,s.heap.get? b=some o->b∈frs X.stack->∃y,n.get? b=some { o with slots:=y }:=λb o e hb=>by
  obtain⟨_,Y,c,hd⟩:=I.stack.mem hb;rw[e]at c;cases c;exact R b o e hd
 have l:d=T\/s.heap.get? d=none:=by
  by_cases j:d=T
  .exact .inl j
  .refine .inr ?_;cases qT:s.heap.get? d with
   |none=>rfl
   |some o =>
    exfalso
    by_cases D:d∈frs X.stack
    .have r:n.FunFrames (U8 s.heap [a,T] X.stack) X.stack:=by have z:=Q;rw[<-f]at z;exact z
     obtain⟨_,Y,c,hd⟩:=r.mem D;rw[G]at c;cases c;exact hd _ J
    .have z:(U8 s.heap [a,T] X.stack).get? d=some o:=Ji _ qT (by
      intro z
      rcases ZR.mp z with z|z
      .have z:d=a\/d=T:=by simpa using z
       exact z.elim F j
      .exact D z)
     rw[u5]at z;cases z
 have u:X.s₀.heap.get? d=none:=l.elim (λz=>by rwa[z]) λz=>I.wC g z;have v:H d=none:=l.elim (λz=>by rwa[z]) λz=>I.none_of z;exact O5 g I U S ha O u v ⟨x,C,t,B,u1,u2,u3,u4,F,G,J,u9⟩ q kp y
end
theorem yD {P:Er}{w:Eu}{K:Cq}{mg:Str->Dc}{base:EI}{N:Da}{qual:Str}{scope:LV}{f:Eo}{d:Ep}{A:EJ}{outer:List Env}{s:Et}{H:Hp}{E:XK} :
  Raises (GG (CI P w) P w K mg base N qual scope f d A outer s H E) (λ_ H' cls=>E cls none H'):=by
 intro o u p t e r I j;obtain⟨a,T,cls,H',rfl,os,bare,un,hok,n,l,ha,i,g,q⟩:=j;have c:=I.call' (ch:=[]) os un hok bare λb z=>absurd z (by simp);exact GM rfl rfl rfl c (I.wC rfl n) (I.wC rfl l) ha i g q
theorem wz.mk' {K:Cq}{st:ER}(F:yc K x qual st f fd)(G:zc P w K mg base (CI P w) k f fd ps sp)(hm:mg x=some (.ref f))
  (b:wX K fd ps []):wz P w K mg base k x ps sp:=⟨f,fd,G,hm,F.kp,b⟩
instance:DecidableEq PyData:=λa b=>decidable_of_iff _<|same_iff (a:=a) (b:=b)
mutual
def U0:Ey->Bool
 | .str x=>Ew x
 | .tuple ds=>xB ds
 | .none=>true
 |_=>false
def xB:Df->Bool
 |[]=>true
 |d::ds=>U0 d&&xB ds
end
mutual
def Gd:Ey->Nat
 | .tuple ds=>qE ds+1
 |_=>0
def qE:Df->Nat
 |[]=>0
 |d::ds=>max (Gd d)<|qE ds
end
mutual
def qj (h:EI):Ey->Ep->Prop
 | .str x,v=>∃t,v=.str x t
 | .tuple ds,v=>∃a o b n,v=.ref a/\h.get? a=some o/\o.cls=.type "tuple"/\o.data=.seq b n/\wO h ds b.toList
 | .none,v=>v=.none
 |_,_=>False
def wO (h:EI):Df->Db->Prop
 |[],vs=>vs=[]
 |d::ds,vs=>∃v r,vs=v::r/\qj h d v/\wO h ds r
end
mutual
def U7 (w:Eu):Ey->Int
 | .str x=>hashStr w x
 | .tuple ds=>reduceHash<|E4<|vV w ds
 | .none=>reduceHash 0xFCA86420
 |_=>0
def vV (w:Eu):Df->List Int
 |[]=>[]
 |d::ds=>U7 w d::vV w ds
end
mutual
def Bz:Ey->Nat
 | .tuple ds=>xN ds+1
 |_=>1
def xN:Df->Nat
 |[]=>0
 |d::ds=>Bz d+xN ds
end
theorem Go (w:Eu):∀ds,vV w ds=ds.map (U7 w)
 |[]=>rfl
 |d::ds=>by rw[vV,Go w ds];rfl
theorem XT:∀(a b:Df),xN (a++b)=xN a+xN b
 |[],b=>by simp[xN]
 |d::a,b=>by
  show Bz d+xN (a++b)=(Bz d+xN a)+xN b;rw[XT a b];lia
mutual
theorem qj.zq:∀(d:Ey) (v:Ep),qj h d v->∃as,Reads h v d as
 | .str x,_,⟨t,e⟩=>by subst e;exact⟨_,.str x t⟩
 | .tuple ds,_,⟨a,o,vs,n,e,h1,h2,h3,h4⟩=>by
  subst e;obtain⟨as,q⟩:=wO.zq ds vs.toList h4;exact⟨_,.tuple h1 h2 h3 q⟩
 | .none,_,e=>by cases(show _=EH from e);exact⟨_,.none⟩
 | .bool _,_,q=>q.elim
 | .int _,_,q=>q.elim
 | .list _,_,q=>q.elim
 | .dict _,_,q=>q.elim
theorem wO.zq:∀(ds:Df) (vs:Db),wO h ds vs->∃as,LU h vs ds as
 |[],vs,e=>by cases(show vs=[] from e);exact⟨_,.nil⟩
 |d::ds,_,⟨v,r,e,h1,h2⟩=>by
  subst e;obtain⟨as,q⟩:=qj.zq d v h1;obtain⟨bs,b⟩:=wO.zq ds r h2;exact⟨_,.cons q b⟩
end
mutual
theorem qj.inj:∀(d e:Ey) (v:Ep),qj h d v->qj h e v->d=e
 | .str x,e,v,⟨t,h1⟩,h2=>by
  subst h1;cases e with
  |str y=>obtain⟨g,q⟩:=h2;cases q;rfl
  |tuple ds=>obtain⟨a,o,b,n,q,_⟩:=h2;cases q
  |none=>cases(show _=EH from h2)
  |bool _=>exact h2.elim
  |int _=>exact h2.elim
  |list _=>exact h2.elim
  |dict _=>exact h2.elim
 | .tuple ds,e,v,⟨a,o,b,n,h1,h3,h4,h5,h6⟩,h2=>by
  subst h1;cases e with
  |str y=>obtain⟨g,q⟩:=h2;cases q
  |tuple es =>
   obtain⟨a',p,j,l,q,c,r,f,i⟩:=h2;cases q;rw[h3]at c;cases c;rw[h5]at f;cases f;rw[wO.inj ds es b.toList h6 i]
  |none=>cases(show _=EH from h2)
  |bool _=>exact h2.elim
  |int _=>exact h2.elim
  |list _=>exact h2.elim
  |dict _=>exact h2.elim
 | .none,e,v,h1,h2=>by
  cases(show v=EH from h1);cases e with
  |str y=>obtain⟨g,q⟩:=h2;cases q
  |tuple es=>obtain⟨a,o,b,n,q,_⟩:=h2;cases q
  |none=>rfl
  |bool _=>exact h2.elim
  |int _=>exact h2.elim
  |list _=>exact h2.elim
  |dict _=>exact h2.elim
 | .bool _,_,_,q,_=>q.elim
 | .int _,_,_,q,_=>q.elim
 | .list _,_,_,q,_=>q.elim
 | .dict _,_,_,q,_=>q.elim
theorem wO.inj:∀(ds es:Df) (vs:Db),wO h ds vs->wO h es vs->ds=es
 |[],[],_,_,_=>rfl
 |[],e::es,vs,h1,⟨v,r,q,_⟩=>by rw[show vs=[] from h1]at q;cases q
 |d::ds,[],vs,⟨v,r,q,_⟩,h2=>by rw[show vs=[] from h2]at q;cases q
 |d::ds,e::es,_,⟨v,r,h1,h3,h4⟩,⟨v',r',q1,q3,q4⟩=>by
  subst h1;injection q1 with b c;subst b c;rw[qj.inj d e v h3 q3,wO.inj ds es r h4 q4]
end
mutual
theorem qj.keeps {h h':EI}{dd:Eo}{c:Obj}{es:Array Mm}{ep:Nat}(b:h.get? dd=some c)(hd:c.data=.dict es ep)(hs:Lp dd h h'):∀(d:Ey) (v:Ep),qj h d v->qj h' d v
 | .str x,_,q=>q
 | .tuple ds,_,⟨a,o,vs,n,e,h1,h2,h3,h4⟩=>by
  have ne:a≠dd:=λz=>by
   subst z;rw[h1]at b;cases b;rw[h3]at hd;cases hd
  exact⟨a,o,vs,n,e,(hs.2 a ne).trans h1,h2,h3,wO.keeps b hd hs ds vs.toList h4⟩
 | .none,_,q=>q
 | .bool _,_,q=>q.elim
 | .int _,_,q=>q.elim
 | .list _,_,q=>q.elim
 | .dict _,_,q=>q.elim
theorem wO.keeps {h h':EI}{dd:Eo}{c:Obj}{es:Array Mm}{ep:Nat}(b:h.get? dd=some c)(hd:c.data=.dict es ep)(hs:Lp dd h h'):∀(ds:Df) (vs:Db),wO h ds vs->wO h' ds vs
 |[],_,q=>q
 |d::ds,_,⟨v,r,e,h1,h2⟩=>⟨v,r,e,qj.keeps b hd hs d v h1,wO.keeps b hd hs ds r h2⟩
end
section
variable {prog:Er}{w:Eu}
def BU (prog:Er)(w:Eu)(d:Ey):Prop:=∀(A:EJ) (E:Ep->Dh) (s:Et) (v:Ep) (Q:Int->Dh),A.units+Gd d<E8->qj s.heap d v->Q (U7 w d) { s with toks:=s.toks+Bz d }->Es (Ez prog w) A (pyHash v) Q E s
theorem CS:∀{ds:Df} {d:Ey},d∈ds->Gd d<=qE ds
 |[],_,h=>nomatch h
 |e::ds,d,h=>by
  show Gd d<=max (Gd e) (qE ds)
  rcases Zo.mp h with rfl|h
  .lia
  .have:=CS h;lia
theorem KB {ds:Df}(I:∀d∈ds,BU prog w d):BU prog w (.tuple ds):=by
 intro A E s v Q G i h;obtain⟨a,o,J,n,rfl,t,hc,hd,D⟩:=i;have p:A.units<cLine:=by lia
 have j:s.TypeIs (.ref a) "tuple":=⟨o,t,hc⟩;have H:A.units+(qE ds+1)<cLine:=G;unfold pyHash
 first|unfold pyHashByItsType|skip
 first|refine Zm (wpAny_cRoomFor_or (.inr p) ?_)|skip
 refine Zm<|JV j F.slot_tuple_hash.lookup ?_;show Es _ _ (if(some (Value.builtin "tuple.__hash__")==some EH)=true then _ else _) Q E s;rw[ZH (by rw[beq_builtin_none];exact Z3)];refine Zm<|JV j F.slot_tuple_hash.lookup ?_;show Es _ _ (callSpecialIfBoundUnlessNone? (.ref a) "__hash__" _>>=_) Q E s;refine Zm<|wpAny_callSpecialIfBoundUnlessNone?_slot j F.slot_tuple_hash<|Yq F.slot_tuple_hash j F.entry_tuple_hash ?_<|F.args_tuple_hash_1 _;show Es _ _ (Builtin.Tuple.tupleItemsOf (.ref a)>>=_) _ _ s;refine Zm<|Uc t hd ?_;refine Zm ?_;rw[<-Array.forIn_toList];refine Ur _
  (λf (b:Array Int) q=>∃done left,ds=done++left/\wO s.heap left f/\b.toList=done.map (U7 w)/\q={ s with toks:=s.toks+xN done })
  _ ?_ ?_ _ _ ⟨[],ds,rfl,D,rfl,by simp[xN]⟩
 .rintro x f b q ⟨done,left,e,hl,hb,rfl⟩;cases left with
  |nil=>cases(show x::f=[] from hl)
  |cons d left =>
   obtain⟨v,r,l,h1,B⟩:=hl;injection l with y z;subst y z;have hm:d∈ds:=by rw[e];simp
   have C:=CS hm;have u:∃c g,ds=c++g/\wO s.heap g f/\(b.push<|U7 w d).toList=c.map (U7 w)/\({ s with toks:=s.toks+xN done+Bz d }:Et)={ s with toks:=s.toks+xN c } :=
    ⟨done++[d],left,by simp[e],B,by simp[hb],by rw[XT];simp[xN,Nat.add_assoc]⟩
   refine Zm (I d hm A.in1 _ _ _ _ (by show A.units+1+Gd d<E8;lia) h1 ?_)
   first
    |exact Zu u
    |exact Zm (Zu<|Zu u)
 .rintro b q ⟨done,left,e,hl,hb,rfl⟩;cases left with
  |cons d left=>obtain⟨v,r,l,_⟩:=hl;cases l
  |nil =>
   rw[Z2]at e;subst e;show Es _ _ (retInt<|E4 b.toList) _ _ _;rw[hb];have h:Q (reduceHash<|E4<|vV w ds) { s with toks:=s.toks+(xN ds+1) }:=h;rw[Go]at h;refine wpAny_ret_mkInt ?_;show Es _ _ (if(decide (-(2:Int) ^ 63<=E4 (ds.map<|U7 w))&&decide (E4 (ds.map<|U7 w)<2 ^ 63))=true then _ else _) Q E _;unfold reduceHash at h
   by_cases i:(decide (-(2:Int) ^ 63<=E4 (ds.map<|U7 w))&&decide (E4 (ds.map<|U7 w)<2 ^ 63))=true
   .rw[ZK i];rw[ZK i]at h;exact Zu (by simpa[Nat.add_assoc] using h)
   .rw[ZH i];rw[ZH i]at h;exact Zm (J4<|Zu<|by simpa[Nat.add_assoc] using h)
mutual
theorem Nk:∀d:Ey,BU prog w d
 | .str x=>λA E s v Q _ b h=>by
  obtain⟨t,rfl⟩:=b;exact(strKind prog w).pyHash (k:=x) (by show Le x (.str x t)=true;simp[Le]) h
 | .tuple ds=>KB<|FP ds
 | .none=>λA E s v Q c b h=>by
  cases(show v=EH from b);exact PySem.W.pyHash_slot (T:="NoneType") rfl F.slot_NoneType_hash F.entry_NoneType_hash (F.args_NoneType_hash_1 _) (beq_builtin_none _) (.inr<|by lia)<|Zm<|Zu<|Zm<|wpAny_mkInt<|Zu ⟨_,_,rfl,h⟩
 | .bool _=>λ_ _ _ _ _ _ b _=>b.elim
 | .int _=>λ_ _ _ _ _ _ b _=>b.elim
 | .list _=>λ_ _ _ _ _ _ b _=>b.elim
 | .dict _=>λ_ _ _ _ _ _ b _=>b.elim
theorem FP:∀ds:Df,∀d∈ds,BU prog w d
 |[],_,h=>nomatch h
 |e::ds,d,h=>(Zo.mp h).elim (λz=>z▸Nk e)<|FP ds d
end
mutual
theorem Ng:∀(d e:Ey),U0 d=true->U0 e=true->EM d e=decide (d=e)
 | .str x,.str y,_,_=>by
  show(x==y)=_;rw[Yx];simp
 | .str _,.tuple _,_,_=>by rw[ZE<|by simp];rfl
 | .tuple _,.str _,_,_=>by rw[ZE<|by simp];rfl
 | .tuple ds,.tuple es,h1,h2=>by
  show E5 ds es=_;rw[FG ds es h1 h2];exact Vb.mpr (by simp)
 | .none,.none,_,_=>rfl
 | .none,.str _,_,_=>by rw[ZE<|by simp];rfl
 | .none,.tuple _,_,_=>by rw[ZE<|by simp];rfl
 | .none,.bool _,_,h=>by cases h
 | .none,.int _,_,h=>by cases h
 | .none,.list _,_,h=>by cases h
 | .none,.dict _,_,h=>by cases h
 | .bool _,_,h,_=>by cases h
 | .int _,_,h,_=>by cases h
 | .list _,_,h,_=>by cases h
 | .dict _,_,h,_=>by cases h
 | .str _,.none,_,_=>by rw[ZE<|by simp];rfl
 | .str _,.bool _,_,h=>by cases h
 | .str _,.int _,_,h=>by cases h
 | .str _,.list _,_,h=>by cases h
 | .str _,.dict _,_,h=>by cases h
 | .tuple _,.none,_,_=>by rw[ZE<|by simp];rfl
 | .tuple _,.bool _,_,h=>by cases h
 | .tuple _,.int _,_,h=>by cases h
 | .tuple _,.list _,_,h=>by cases h
 | .tuple _,.dict _,_,h=>by cases h
theorem FG:∀(ds es:Df),xB ds=true->xB es=true->E5 ds es=decide (ds=es)
 |[],[],_,_=>rfl
 |[],_::_,_,_=>rfl
 |_::_,[],_,_=>rfl
 |d::ds,e::es,h1,b=>by
  have h1:(U0 d&&xB ds)=true:=h1;have b:(U0 e&&xB es)=true:=b;rw[Zw]at h1 b;show(EM d e&&E5 ds es)=_;rw[Ng d e h1.1 b.1,FG ds es h1.2 b.2,<-Bool.decide_and];exact Vb.mpr (by simp)
end
mutual
theorem Fm:∀d:Ey,U0 d=true->d.canLay0=true/\d.depth<=Gd d
 | .str x,h=>⟨h,Zt _⟩
 | .tuple ds,h=>by
  obtain⟨h1,b⟩:=Kg ds h;refine⟨h1,?_⟩;show EK ds+1<=qE ds+1;lia
 | .none,_=>⟨rfl,Zt _⟩
 | .bool _,h=>by cases h
 | .int _,h=>by cases h
 | .list _,h=>by cases h
 | .dict _,h=>by cases h
theorem Kg:∀ds:Df,xB ds=true->EE ds=true/\EK ds<=qE ds
 |[],_=>⟨rfl,Zt _⟩
 |d::ds,h=>by
  have h:(U0 d&&xB ds)=true:=h;rw[Zw]at h;obtain⟨h1,c⟩:=Fm d h.1;obtain⟨b,h4⟩:=Kg ds h.2;refine⟨?_,?_⟩
  .show(d.canLay0&&EE ds)=true;rw[h1,b];rfl
  .show max d.depth (EK ds)<=max (Gd d) (qE ds);lia
end
def X1 (prog:Er)(w:Eu)(d:Ey):Prop:=∀(A:EJ) (E:Ep->Dh) (s:Et) (v:Ep) (n:Nat) (Q:Bool->Dh),Gd d<=n->qj s.heap d v->Q true s->Es (Ez prog w) A (eqIsQuiet n v) Q E s
theorem HK {ds:Df}(y:∀d∈ds,X1 prog w d):X1 prog w (.tuple ds):=by
 intro A E s v n Q hn f h;obtain⟨a,o,l,m,rfl,j,hc,hd,x⟩:=f;have i:s.TypeIs (.ref a) "tuple":=⟨o,j,hc⟩;have hn:qE ds+1<=n:=hn;obtain⟨n,rfl⟩:∃k,n=k+1:=⟨n-1,by lia⟩;unfold eqIsQuiet;refine Zm<|JV i F.slot_tuple_eq.lookup ?_;show Es _ _ (isInstance (.ref a) (.type "tuple")>>=_) _ _ s;refine Zm<|Jb i isSubtype_tuple_tuple ?_;simp only[Uo,Yt,Js];refine Zm<|J5 j hd ?_;refine Zm ?_;show Es _ _ (forIn l _ _) _ _ s;rw[<-Array.forIn_toList];refine Ur _ (λb r g=>r.1=none/\g=s/\∃left,(∀d∈left,d∈ds)/\wO s.heap left b) _ ?_ ?_ _ _ ⟨rfl,rfl,ds,λ_ z=>z,x⟩
 .rintro v b r g ⟨f,rfl,left,hm,hl⟩;cases left with
  |nil=>cases(show v::b=[] from hl)
  |cons d left =>
   obtain⟨G,B,t,h1,u⟩:=hl;injection t with p q;subst p q;have c:=hm d Zs;have:=CS c;refine Zm (y d c A _ g _ n _ (by lia) h1 ?_);simp only[Uo,Yt,Js];exact Zu ⟨rfl,rfl,left,λe he=>hm e<|Zn _ he,u⟩
 .rintro⟨C,D⟩ g ⟨f,rfl,_⟩;simp only at f;subst f;exact Zu h
mutual
theorem HJ:∀d:Ey,X1 prog w d
 | .str x=>λA E s v n Q _ b h=>by
  obtain⟨t,rfl⟩:=b;rw[eqIsQuiet_byValue _<|by rfl];exact Zu h
 | .tuple ds=>HK<|GU ds
 | .none=>λA E s v n Q _ b h=>by
  cases(show v=EH from b);rw[eqIsQuiet_byValue _<|by rfl];exact Zu h
 | .bool _=>λ_ _ _ _ _ _ _ b _=>b.elim
 | .int _=>λ_ _ _ _ _ _ _ b _=>b.elim
 | .list _=>λ_ _ _ _ _ _ _ b _=>b.elim
 | .dict _=>λ_ _ _ _ _ _ _ b _=>b.elim
theorem GU:∀ds:Df,∀d∈ds,X1 prog w d
 |[],_,h=>nomatch h
 |e::ds,d,h=>(Zo.mp h).elim (λz=>z▸HJ e)<|GU ds d
end
def yW (prog:Er)(w:Eu):HeapKind prog w Ey where
 is:=λh d a=>qj h d (.ref a)/\U0 d=true/\Gd d<=6
 hash:=U7 w
 draws:=Bz
 room:=λA=>A.units+8<E8
 inj:=λc f=>qj.inj _ _ _ c.1 f.1
 keeps:=λx i hd j=>⟨qj.keeps i hd j _ _ x.1,x.2⟩
 pyHash:=λl hk h=>Nk _ _ _ _ _ _ (by have:=hk.2.2;lia) hk.1 h
 eqBool:=λ{A E s x y a b Q} l c f h=>by
  obtain⟨g,p⟩:=qj.zq _ _ c.1;obtain⟨bs,q⟩:=qj.zq _ _ f.1;obtain⟨n,r⟩:=Fm _ c.2.1;obtain⟨o,t⟩:=Fm _ f.2.1;have e:=SeqAt.eqAt_reads x y A s _ _ g bs p q n o (by have:=c.2.2;lia);rw[Ng _ _ c.2.1 f.2.1]at e;exact e prog w E Q h
 quiet:=λhk h=>HJ _ _ _ _ _ _ _ (by have:=hk.2.2;lia) hk.1 h
end
def Iq (d:Eo)(es:List Mm):HO:=.ext λh=>∃o b,h.get? d=some o/\o.ExactDict/\o.data=.dict es.toArray b/\(d==E3)=false
theorem NG {h:EI}{d:Eo}{es:List Mm}{o:Obj}{ep:Nat}(h1:h.get? d=some o)(e:o.ExactDict)(f:o.data=.dict es.toArray ep)(h4:(d==E3)=false):yq P w H h d (Iq d es) :=
 ⟨⟨o,ep,h1,e,f,h4⟩,⟨o,h1⟩,λ_ _ ⟨c,b,g,i⟩ k=>⟨c,b,k c g,i⟩⟩
mutual
theorem Dt.other {K:Cq}(n:∀xs,¬Rd H d (.tup xs)):∀(k:Ey) (v:V),U0 k=true->Dt K H k v->Dt K (upd H d o) k v
 | .str x,_,_,h=>h
 | .tuple ds,_,t,⟨a,xs,h1,b,h3⟩=>by
  refine⟨a,xs,h1,?_,zu.other n ds xs t h3⟩
  rcases b with b|b
  .have ne:a≠d:=λz=>n xs<|z▸b
   left
   unfold Rd;rwa[zI ne]
  .exact .inr b
 | .none,_,_,h=>h
 | .bool _,_,t,_=>by cases t
 | .int _,_,t,_=>by cases t
 | .list _,_,t,_=>by cases t
 | .dict _,_,t,_=>by cases t
theorem zu.other {K:Cq}(n:∀xs,¬Rd H d (.tup xs)):∀(ks:Df) (vs:Dj),xB ks=true->zu K H ks vs->zu K (upd H d o) ks vs
 |[],_,_,h=>h
 |k::ks,_,t,⟨x,r,h1,h2,h3⟩=>by
  have t:(U0 k&&xB ks)=true:=t;rw[Zw]at t;exact⟨x,r,h1,Dt.other n k x t.1 h2,zu.other n ks r t.2 h3⟩
end
section
variable {X:Cx}{Dp:De}{σ:St}{H:Hp}{s:Et}
mutual
theorem Dt.iY (I:Inv X Dp σ H s):∀(d:Ey) (v:V) (u:Ep),U0 d=true->Dt X.K H d v->za v u->qj s.heap d u
 | .str x,_,u,_,h,r=>by
  cases(show _=V.str x from h);exact r
 | .tuple ds,_,u,t,⟨a,xs,h1,h2,h3⟩,r=>by
  subst h1;cases(show u=EB a from r);obtain⟨b,f,⟨o,e,c,n,d⟩,_⟩:=I.tuple h2;exact⟨a,o,b.toArray,n,rfl,e,c,d,by simpa using zu.iY I ds xs b t h3 f⟩
 | .none,_,u,_,h,r=>by cases(show _=V.non from h);exact r
 | .bool _,_,_,t,_,_=>by cases t
 | .int _,_,_,t,_,_=>by cases t
 | .list _,_,_,t,_,_=>by cases t
 | .dict _,_,_,t,_,_=>by cases t
theorem zu.iY (I:Inv X Dp σ H s):∀(ds:Df) (xs:Dj) (us:Db),xB ds=true->zu X.K H ds xs->zb xs us->wO s.heap ds us
 |[],_,us,_,h,r=>by
  cases(show _=[] from h);cases r;exact rfl
 |d::ds,_,us,t,⟨x,r,h1,h2,h3⟩,rv=>by
  have t:(U0 d&&xB ds)=true:=t;rw[Zw]at t;subst h1;cases rv with
  |cons r1 r2=>exact⟨_,_,rfl,Dt.iY I d x _ t.1 h2 r1,zu.iY I ds r _ t.2 h3 r2⟩
end
def Xr (k:Ey):Prop:=U0 k=true/\Gd k<=6
def wN (K:Cq)(H:Hp)(p:Ey×V)(q:Ey×Eo×Ep):Prop:=p.1=q.1/\Dt K H p.1 (.ref q.2.1)/\za p.2 q.2.2
def nu (P:Er)(w:Eu)(K:Cq)(H:Hp)(d:Eo)(ps:List<|Ey×V):Prop :=
 ps.length<=10000/\(∀p∈ps,Xr p.1)/\(ps.map (·.1)).Nodup/\∃b:List<|Ey×Eo×Ep,H d=some (Iq d<|b.map<|Mh<|yW P w)/\Lq (wN K H) ps b
theorem wN.keys {K:Cq}:∀{ps:List (Ey×V)} {xs:List (Ey×Eo×Ep)},Lq (wN K H) ps xs->xs.map (·.1)=ps.map (·.1)
 |_,_,.nil=>rfl
 |_,_,.cons r t=>by rw[ZL,ZL,wN.keys t,r.1]
theorem wN.at {K:Cq}{k:Ey}:∀{ps:List (Ey×V)} {xs:List (Ey×Eo×Ep)},Lq (wN K H) ps xs->(atKey xs k=none/\UE ps k=none)\/∃p v,atKey xs k=some p/\UE ps k=some v/\za v p.2
 |_,_,.nil=>.inl ⟨rfl,rfl⟩
 |p::ps,q::xs,.cons r t=>by
  unfold atKey UE;rw[YN,YN];have e:p.1=q.1:=r.1
  by_cases h:q.1=k
  .rw[Zq h,Zq<|show p.1=k by rwa[e]];exact .inr ⟨q.2,p.2,rfl,rfl,r.2.2⟩
  .rw[ZE h,ZE<|show¬p.1=k by rwa[e]];exact wN.at t
theorem wN.is (I:Inv X Dp σ H s):∀{ps:List (Ey×V)} {xs:List (Ey×Eo×Ep)},(∀p∈ps,Xr p.1)->Lq (wN X.K H) ps xs->∀x∈xs,(yW X.prog X.w).is s.heap x.1 x.2.1
 |_,_,_,.nil,x,h=>nomatch h
 |p::ps,q::xs,hk,.cons r t,x,h=>by
  rcases Zo.mp h with rfl|h
  .obtain⟨b,d⟩:=hk p Zs;rw[<-r.1];exact⟨Dt.iY I _ _ _ b r.2.1 rfl,b,d⟩
  .exact wN.is I (λp c=>hk p<|Zn _ c) t x h
theorem nu.heap (I:Inv X Dp σ H s)(T:nu X.prog X.w X.K H d ps):∃xs,H d=some (Iq d<|xs.map<|Mh<|yW X.prog X.w)/\Lq (wN X.K H) ps xs/\s.heap.DictOfH (yW X.prog X.w) d xs/\(d==E3)=false:=by
 obtain⟨hl,hk,nd,xs,e,r⟩:=T;obtain⟨⟨o,b,h1,c,f,h4⟩,_⟩:(∃o b,s.heap.get? d=some o/\o.ExactDict/\o.data=.dict (xs.map<|Mh<|yW X.prog X.w).toArray b/\(d==E3)=false)/\_:=I.hok d _ e;exact⟨xs,e,r,⟨o,_,b,h1,c,f,by simp,wN.is I hk r,by rw[wN.keys r];exact nd⟩,h4⟩
theorem RB {A:EJ}(b:A.units+64<E8)(prog:Er)(w:Eu):(yW prog w).room A.in1:=by
 show A.units+1+8<E8;lia
theorem key_is (I:Inv X Dp σ H s){k:Ey}{a:Eo}(hk:Xr k)(h:Dt X.K H k<|.ref a):(yW X.prog X.w).is s.heap k a:=⟨Dt.iY I _ _ _ hk.1 h rfl,hk⟩
end
section
variable {X:Cx}{K:Cq}
def bU (P:Er)(w:Eu)(K:Cq):R2:=λy x H Q=>∃a d ps k,y=.ref a/\x=.ref d/\nu P w K H d ps/\Xr k/\Dt K H k (.ref a)/\Q (.bl (UE ps k).isSome) H
theorem Wq (c:X.A.units+64<E8):CH X (ES .In) (bU X.prog X.w X.K):=by
 intro g s j H y x v u Q I f e h;obtain⟨a,d,ps,k,rfl,rfl,T,hk,ha,q⟩:=h;cases f;cases e;obtain⟨i,_,r,b,hd⟩:=T.heap I;refine wpAny_in_heap (RB c _ _) (key_is I hk ha) hd b ⟨.bl _,H,I.tok _,?_,q⟩
 rcases wN.at (k:=k) r with⟨e1,e2⟩|⟨p,v,e1,e2,_⟩
 .rw[e1,e2];rfl
 .rw[e1,e2];rfl
def bj (P:Er)(w:Eu)(K:Cq)(f ty:TE):TE:=λc H Q=>f c H λx e=>ty c e λy b=>∃a d ps k v,x=.ref d/\y=.ref a/\nu P w K b d ps/\Xr k/\Dt K b k (.ref a)/\UE ps k=some v/\Q v b
theorem SJ {pos:Pos}(z:X.A.units+64<E8)(t:PE X o td)(q:PE X i ty)(hs:RZ i):PE X (.Subscript o i pos) (bj X.prog X.w X.K td ty):=by
 intro c s f H Q I h;refine BD PySem.F.slot_dict_getitem.lookup hs<|Ct (t c s f H _ I h) λu J ⟨x,g,l,E,C⟩=>Ct (q c J f g _ l C) λB L q9=>?_;obtain⟨y,j,b,G,a,d,ps,k,v,ex,n,T,hk,ha,hv,D⟩:=q9;subst ex n;obtain rfl:u=EB d:=E;obtain rfl:B=EB a:=G;obtain⟨M,_,r,e,hd⟩:=T.heap b;refine⟨e.typeIs,?_⟩
 rcases wN.at (k:=k) r with⟨e1,e2⟩|⟨p,v',e1,e2,rv⟩
 .rw[hv]at e2;cases e2
 .rw[hv]at e2;cases e2;exact wpAny_getItem_heap (RB z _ _) (key_is b hk ha) e e1 ⟨v,j,b.tok _,rv,D⟩
def aY (P:Er)(w:Eu)(K:Cq)(i ty j:TE):TS:=λD c H=>j c H λv e=>i c e λx f=>ty c f λy b=>∃a d ps k,x=.ref d/\y=.ref a/\nu P w K b d ps/\ps.length<10000/\Xr k/\Dt K b k (.ref a) /\
 ∀o,nu P w K (upd b d o) d (yt ps k v)->(∃g,o=Iq d g)->D.nx c (upd b d o)
theorem kY {b c:Type}{F:b->c->Prop}:∀{l l':List b} {m m':List c},Lq F l m->Lq F l' m'->Lq F (l++l') (m++m')
 |_,_,_,_,.nil,h=>h
 |_,_,_,_,.cons r t,h=>.cons r<|kY t h
theorem wN.repl {K:Cq}{k:Ey}(b:za v u):∀{ps:List (Ey×V)} {xs:List (Ey×Eo×Ep)},Lq (wN K H) ps xs->Lq (wN K H) (ps.map λp=>if p.1=k then(p.1,v) else p) (xs.map<|putAt k u)
 |_,_,.nil=>.nil
 |p::ps,q::xs,.cons r t=>by
  rw[ZL,ZL];refine .cons ?_<|wN.repl b t;have e:p.1=q.1:=r.1;unfold putAt
  by_cases h:q.1=k
  .rw[ZK h,ZK<|show p.1=k by rwa[e]];exact⟨r.1,r.2.1,b⟩
  .rw[ZH h,ZH<|show¬p.1=k by rwa[e]];exact r
theorem wN.put {K:Cq}{a:Eo}{ps:List (Ey×V)}{xs:List (Ey×Eo×Ep)}(r:Lq (wN K H) ps xs)(ha:Dt K H k<|.ref a)(b:za v u):Lq (wN K H) (yt ps k v) (storedH xs k a u):=by
 have e:(ps.any λkv=>decide (kv.1=k))=(atKey xs k).isSome:=by
  rcases wN.at (k:=k) r with⟨e1,e2⟩|⟨p,v',e1,e2,_⟩
  .rw[e1];refine YH.mpr λz=>?_;obtain⟨kv,hm,hk⟩:=Z8.mp z;exact vM e2<|Zr.mpr ⟨kv,hm,ZI hk⟩
  .obtain⟨kv,hm,hk⟩:=Zr.mp<|uW e2;rw[e1,Z8.mpr ⟨kv,hm,Zq hk⟩];rfl
 unfold yt storedH;rw[e]
 split
 .exact wN.repl b r
 .exact kY r (.cons ⟨rfl,ha,b⟩ .nil)
theorem Ru {ps:List (Ey×V)}(h:∀p∈ps,Xr p.1)(hk:Xr k):∀p∈yt ps k v,Xr p.1:=by
 unfold yt
 split
 .intro p b;obtain⟨q,c,rfl⟩:=Zr.mp b
  split
  .exact h q c
  .exact h q c
 .intro p b
  rcases ZR.mp b with b|b
  .exact h p b
  .rwa[Zl.mp b]
theorem SR {ps:List (Ey×V)}(h:(ps.map (·.1)).Nodup):((yt ps k v).map (·.1)).Nodup:=by
 unfold yt
 split
 .have e:(ps.map λkv=>if kv.1=k then(kv.1,v) else kv).map (·.1)=ps.map (·.1):=by
   rw[ZM];refine Yf λp _=>?_;show(if p.1=k then(p.1,v) else p).1=p.1
   split<;>rfl
  rwa[e]
 .rename_i hn;rw[Zx];refine jM h λz=>hn ?_;obtain⟨p,b,e⟩:=Zr.mp z;exact Z8.mpr ⟨p,b,Zq e⟩
theorem SN {pos C:Pos}(hu:X.A.units+64<E8)(Y:PE X o td)(U:PE X i ty)(hv:PE X value tv)(hs:Mi value (some<|.Subscript o i C) pos.line X.env=LC false) :
  PS X (.Assign [.Subscript o i C] value pos) (aY X.prog X.w X.K td ty tv):=by
 intro l s j H D I h;refine wpAny_Assign_Subscript (Ct (hv l s j H _ I h) λr s1 ⟨v,F,J,rv,q1⟩=>Ct (Y l s1 j F _ J q1) λu s2 ⟨x,G,L,rx,q2⟩=>Ct (U l s2 j G _ L q2) λiv s3 q9=>?_) hs;obtain⟨y,c,n,ry,a,d,ps,k,ex,P,T,hl,hk,ha,q3⟩:=q9;subst ex P;obtain rfl:u=EB d:=rx;obtain rfl:iv=EB a:=ry;obtain⟨b,e,g,N,hd⟩:=T.heap n;have hz:b.length<=sizeLine:=by rw[<-Paired.length g];exact An.zp (by lia)
 refine wpAny_setItem_heap (hsz:=hz) (RB hu _ _) (key_is n hk ha) N λh' q B=>?_;obtain⟨ob,es,O,E,Q,R,S,_,_⟩:=q;have t:ob.data=.dict ((storedH b k a r).map<|Mh<|yW X.prog X.w).toArray O:=by rw[R,<-S]
 have mu:TH (c d):=by rw[e];exact Lg
 have M:=uX (t':=s3.toks+(yW X.prog X.w).draws k) n mu B ⟨ob,E⟩<|NG (H:=upd c d<|Iq d<|(storedH b k a r).map<|Mh<|yW X.prog X.w) E Q t hd;have nt:∀b,¬Rd c d (.tup b):=λys z=>by
  rcases z with z|⟨o',z⟩
  .rw[e]at z;cases z
  .rw[e]at z;cases z
 refine⟨j,_,M,q3 _ ⟨?_,Ru T.2.1 hk,SR T.2.2.1,storedH b k a r,zC,?_⟩ ⟨_,rfl⟩⟩
 .have:=xZ ps k v;lia
 .have r2:Lq (wN X.K<|upd c d<|Iq d<|(storedH b k a r).map<|Mh<|yW X.prog X.w) ps b:=by
   have key:∀{ps:List (Ey×V)} {b:List (Ey×Eo×Ep)},(∀p∈ps,Xr p.1)->Lq (wN X.K c) ps b->∀o,Lq (wN X.K<|upd c d o) ps b:=by
    intro ps b f r
    induction r with
    |nil=>intro _;exact .nil
    |cons r1 _ ih=>intro o;exact .cons ⟨r1.1,Dt.other nt _ _ (f _ Zs).1 r1.2.1,r1.2.2⟩<|ih (λp Z=>f p<|Zn _ Z) o
   exact key T.2.1 g _
  exact wN.put r2 (Dt.other nt _ _ hk.1 ha) rv
theorem Rc {pos:Pos}:PE X (.Dict [] [] pos) (λ_ H Q=>∀p o,H p=none->nu X.prog X.w X.K (upd H p o) p []->(∃es,o=Iq p es)->Q (.ref p) (upd H p o)):=by
 intro c s d H Q I h;have hn:H s.heap.objs.size=none:=I.hok.fresh<|Zt _;have b:(s.heap.objs.size==E3)=false:=YT.mpr<|EC<|ZO I.big;exact wpAny_Dict_empty ⟨.ref s.heap.objs.size,_,I.laid (a:=s.heap.objs.size) (o:=Iq s.heap.objs.size []) (t':=s.toks) (λ_ _ q=>Zp _ q) (Zt _)<|NG (ep:=0) (Zz _ rfl) ⟨rfl,rfl,rfl⟩ rfl b,rfl,h _ _ hn ⟨Yb _,λ_ z=>(nomatch z),YL,[],zC,.nil⟩ ⟨_,rfl⟩⟩
end
structure Met (P:Er)(w:Eu)(K:Cq)(mg:Str->Dc)(base:EI)(C:Eo)(k:Nat)(m:Str)(ps:Da)(sp:Sp):Prop where
 ex:∃(f:Eo) (fd:Ev),zc P w K mg base CA k f fd ps sp/\Meth K C m f/\wX K fd ps []
structure wK (P:Er)(w:Eu)(K:Cq)(mg:Str->Dc)(base:EI)(C:Eo)(k:Nat)(m:Str)(ps:Da)(sp:Sp):Prop where
 ex:∃(f:Eo) (fd:Ev),zc P w K mg base (CI P w) k f fd ps sp/\Meth K C m f/\wX K fd ps []
inductive jw (C:Eo)(m:Str)(sp:Sp)(R:St->Hp->Ep->Prop)(t:TA)(σ:St)(Q:VK)(x:V)(H1:Hp):Prop
 |mk (a dx:Eo) (fs:List<|Str×V) (e:x=.ref a) (h:H1 a=some (.ins C dx fs)) (n:fs.lookup m=none) (q:t σ H1 λvs H2=>sp (x::vs) H2 Q<|λcls _ H'=>R σ H' cls):jw C m sp R t σ Q x H1
def WQ (C:Eo)(m:Str)(sp:Sp)(R:St->Hp->Ep->Prop)(d:TE)(t:TA):TE:=λb H Q=>d b H λx c=>jw C m sp R t b Q x c
section
variable {X:Cx}{C:Eo}{k:Nat}{m:Str}{ps:Da}{sp:Sp}{o e:EN}{es:List EN}{ta:TE}{t:TA}{Dr pos:Pos}{R:St->Hp->Ep->Prop}
theorem jY {pl:Sem Bool}(he:PE X o ta)(c:Cls X.K C)(M:Met X.prog X.w X.K X.mg X.base C k m ps sp)(g:xr k X.A)(ha:PA X (e::es) t)
  (d:EG (e::es) X.env=(false,Lc e X.env)::EG es X.env:=by rfl) (b:(Li pos<|EG es X.env).any (·.1)=false:=by rfl)
  (i:Lc (.Call (.Attribute o m Dr) (e::es) [] pos) X.env=(do
   let ov <-Lc o X.env
   standAt Dr.atName
   let (f,first) <-MG [ov] (Mu ov m pl)
   callWith pos f first (Li pos<|EG (e::es) X.env) (MA pos<|LP [] X.env)):=by rfl) :
  PE X (.Call (.Attribute o m Dr) (e::es) [] pos) (Kb C m sp [] E0 ta t):=by
 obtain⟨f,j,F,hm,hb⟩:=M.ex;exact SH (pl:=pl) he c hm F g hb .nil Iu ha d b i
theorem k7 {pl:Sem Bool}(he:PE X o ta)(c:Cls X.K C)(M:Met X.prog X.w X.K X.mg X.base C k m ps sp)(b:xr k X.A)
  (d:Lc (.Call (.Attribute o m Dr) [] [] pos) X.env=(do
   let ov <-Lc o X.env
   standAt Dr.atName
   let (f,first) <-MG [ov] (Mu ov m pl)
   callWith pos f first (Li pos<|EG [] X.env) (MA pos<|LP [] X.env)):=by rfl) :
  PE X (.Call (.Attribute o m Dr) [] [] pos) (Kb C m sp [] E0 ta Xj):=by
 obtain⟨f,e,F,hm,hb⟩:=M.ex;exact Rh (pl:=pl) he c hm F b hb .nil Iu d
theorem yE {pl:Sem Bool}(he:PE X o ta)(c:Cls X.K C)(M:wK X.prog X.w X.K X.mg X.base C k m ps sp)(y:xr k X.A)(B:Raises X R)(ha:PA X (e::es) t)
  (d:EG (e::es) X.env=(false,Lc e X.env)::EG es X.env:=by rfl) (b:(Li pos<|EG es X.env).any (·.1)=false:=by rfl)
  (z:Lc (.Call (.Attribute o m Dr) (e::es) [] pos) X.env=(do
   let ov <-Lc o X.env
   standAt Dr.atName
   let (f,first) <-MG [ov] (Mu ov m pl)
   callWith pos f first (Li pos<|EG (e::es) X.env) (MA pos<|LP [] X.env)):=by rfl) :
  PE X (.Call (.Attribute o m Dr) (e::es) [] pos) (WQ C m sp R ta t):=by
 obtain⟨f,N,F,hm,hb⟩:=M.ex;intro g s n H Q I h;refine JX (pl:=pl) (Ct (he g s n H _ I h) λu G q9=>?_) z;obtain⟨x,p,i,E,a,L,fs,ex,v,l,q⟩:=q9;subst ex;obtain rfl:u=EB a:=E;refine kI i v c hm l ?_;refine Jr (first:=[.ref a]) (h₀:=X.base) I.ok.mod.lQ hm.kp (Ct (ha pos g G n p _ i q) λus O ⟨vs,J,j,r,D⟩=>⟨j.vh,?_⟩) d b;exact NK (us:=.ref a::us) (vs:=.ref a::vs) F y hb B j (.cons rfl r) D
end
structure iZ (P:Er)(w:Eu)(K:Cq)(mg:Str->Dc)(base:EI)(C:Eo)(k:Nat)(x:Str)(ps:Da)(sp:Sp):Prop where
 ex:∃(f:Eo) (fd:Ev),zc P w K mg base CA k f fd ps sp/\Mk K C f/\wX K fd ps []/\mg x=some (.ref C)
theorem NC {X:Cx}{e:EN}{es:List EN}{p pos:Pos}(M:iZ X.prog X.w X.K X.mg X.base C k x ps sp)(g:xr (k+1) X.A)(ha:PA X (e::es) t)(d:Gl X x:=by rfl)
  (b:(x==("__debug__":Str))=false:=by decide) (he:EG (e::es) X.env=(false,Lc e X.env)::EG es X.env:=by rfl) (c:(Li pos<|EG es X.env).any (·.1)=false:=by rfl) :
  PE X (.Call (.Name x p) (e::es) [] pos) (NP C sp [] E0 t):=by
 obtain⟨f,j,F,hm,hb,i⟩:=M.ex;exact SG hm F g d i hb .nil Iu ha b he c
theorem BG (x:Str)(i j:Nat):An.cs (Lo x i j)=((An.cs x).take j).drop i:=by
 show(x.cps.extract i j).toList=_;rw[Array.toList_extract,List.extract_eq_drop_take,List.drop_take]
theorem XZ (x:Str)(c i:Nat)(t u:Tok)(r:List Nat)(d:La x ⟨#[c]⟩ 0 x.length 1=i::r)(hz:x.length<=100000):Meets (Builtin.«str.partition» ⟨[.str x t,.str ⟨#[c]⟩ u],[]⟩)
  (λ_ R s=>R (.ok<|.ret<|.ref s.heap.objs.size) { s with heap:=s.heap.push { cls:=.type "tuple",data:=.seq #[.str (Lo x 0 i) s.toks,.str ⟨#[c]⟩ u,.str (Lo x (i+1) x.length)<|s.toks+1] },toks:=s.toks+1+1 }) :=
 .of_wp λprog w A R s h=>by
  obtain⟨b,e⟩:=partition_tree x ⟨#[c]⟩ t u;rw[e,ZH<|show¬((⟨#[c]⟩:Str).length==0)=true from(by show¬(1==0)=true;decide),d];have f:(Lo x 0 i).length<=sizeLine:=by
   rw[An.zf,BG,Jo,ZS];refine An.zp ?_;rw[<-An.zf];lia
  have g:(Lo x (i+(⟨#[c]⟩:Str).length) x.length).length<=sizeLine:=by
   rw[An.zf,BG,Jo,ZS];refine An.zp ?_;rw[<-An.zf];lia
  refine Zm<|wpAny_mkStr ?_ f;refine Zm<|wpAny_mkStr ?_ g;refine Zm (wpAny_newTuple ?_ (by show 3<=sizeLine;decide));exact Zu ⟨_,rfl,h⟩
section
variable {X:Cx}
def Tr:V->Dj->Hp->VK->Prop:=λx b H Q=>∃(u v:Str) (c:Nat),x=.str (u++⟨#[c]⟩++v)/\b=[.str ⟨#[c]⟩]/\c∉An.cs u/\(u++⟨#[c]⟩++v).length<=100000/\∀p,H p=none->Q (.ref p) (upd H p<|.tup [.str u,.str ⟨#[c]⟩,.str v])
theorem vJ:TF X "str.partition" Tr:=by
 intro p s A H x y v u Q I n l h;obtain⟨a,b,c,rfl,rfl,hc,j,q⟩:=h;obtain⟨t,rfl⟩:=n;obtain⟨w,rfl,t',rfl⟩:=wW l;have d:An.cs (a++⟨#[c]⟩++b)=An.cs a++c::An.cs b:=by
  rw[An.zm,An.zm];show An.cs a++[c]++An.cs b=_;simp
 have e:(An.cs<|a++⟨#[c]⟩++b)[(An.cs a).length]?=some c:=by rw[d];simp
 have f:∃r,La (a++⟨#[c]⟩++b) ⟨#[c]⟩ 0 (a++⟨#[c]⟩++b).length 1=(An.cs a).length::r:=by
  rcases StrLaws.occ_head_from (a++⟨#[c]⟩++b) ⟨#[c]⟩ 0 1 (Zt 1) with⟨h0,hn⟩|⟨k,r,h0,hlo,hk,hn⟩
  .exact absurd ((Mq _ c _).mpr e) (hn _<|Yb _)
  .have hm:=(Mq _ c k).mp hk;have hm:(An.cs<|a++⟨#[c]⟩++b)[k]?=some c:=hm
   rcases VH k (An.cs a).length with z|z|z
   .rw[d,Ya z]at hm;exact absurd (ZG hm) hc
   .exact⟨r,by rw[h0,z]⟩
   .exact absurd ((Mq _ c _).mpr e) (hn _ (Yb _) z)
 obtain⟨r,f⟩:=f;refine Ua F.slot_str_partition (Vo s _ t) F.entry_str_partition (F.args_str_partition_2 _ _) (XZ _ c _ t t' r f j) ?_;have g:Lo (a++⟨#[c]⟩++b) 0 (An.cs a).length=a:=An.xj (by rw[BG,d,Ub,List.take_left]);have i:Lo (a++⟨#[c]⟩++b) ((An.cs a).length+1) (a++⟨#[c]⟩++b).length=b:=An.xj (by
  rw[BG,An.zf,ZV,d];rw[show An.cs a++c::An.cs b=(An.cs a++[c])++An.cs b by simp];rw[show(An.cs a).length+1=(An.cs a++[c]).length by simp];exact List.drop_left)
 rw[g,i];have hn:H s.heap.objs.size=none:=I.hok.fresh<|Zt _;refine⟨.ref s.heap.objs.size,_,I.laid (t':=s.toks+1+1) (a:=s.heap.objs.size) (o:=.tup [.str a,.str ⟨#[c]⟩,.str b]) (λ_ _ q=>Zp _ q) (Zt _) ?_,rfl,q _ hn⟩;exact⟨by show 3<=sizeLine;decide,_,.cons ⟨_,rfl⟩<|.cons ⟨_,rfl⟩<|.cons ⟨_,rfl⟩ .nil,⟨_,Zz _ rfl,rfl,_,rfl,rfl⟩⟩
def UR (n:Nat):Str:=EZ<|E7 ((n:Nat):Int)
theorem N0:yd X (.type "int") (λxs H Q=>∃n:Nat,xs=[.str<|UR n]/\n<10000000000/\Q (.int n) H):=by
 intro b s d H xs c Q I r h;obtain⟨n,rfl,hn,q⟩:=h;obtain⟨u,rfl,t,rfl⟩:=wW r;exact PySem.W.KIN.call_num (by lia) (by lia) ⟨.int n,H,I.tok _,⟨_,rfl⟩,q⟩
def tF3 (e:TE)(y:Str)(f:TE):TE:=λb H Q=>e b H λv c=>∃x:Str,v=.str x/\x.length<=100000/\y.length<=1000/\f b c λu d=>∃n:Nat,u=.int n/\n<1000000/\Q (.str<|x++y++UR n) d
theorem aK {y:Str}{k:Nat}{p1 p2 p3 pos:Pos}(h1:PE X e1 t1)(w:PE X e2 t2):PE X (.JoinedStr [.FormattedValue e1 (-1) none p1,.Constant (.str y) k p2,.FormattedValue e2 (-1) none p3] pos) (tF3 t1 y t2):=by
 intro c s d H Q I h;refine JoinedStr_many<|joinParts_cons<|FormattedValue_plain<|Ct (h1 c s d H _ I h) λv K q9=>?_;obtain⟨R,f,o,B,x,ex,U,Y,A⟩:=q9;subst ex;obtain⟨t,rfl⟩:=B;refine formatField_str (λM tk=>⟨?_,?_⟩) (An.zp<|by lia)
 .show(Mj++x).length<=sizeLine;rw[An.yr];exact An.zp (by show 0+x.length<=_;lia)
 refine joinParts_cons<|Ct ((zz:PE X (.Constant (.str y) k p2) _) c _ d f (λv i=>v=.str y/\i=f) (o.tok tk) ⟨rfl,rfl⟩) λO E q9=>?_;obtain⟨S,j,p,C,e2,r⟩:=q9;subst e2 r;obtain⟨F,rfl⟩:=C;refine⟨?_,?_⟩
 .show(Mj++x++y).length<=sizeLine;rw[An.yr,An.yr];exact An.zp (by show 0+x.length+y.length<=_;lia)
 refine joinParts_cons<|FormattedValue_plain<|Ct (w c E d j _ p A) λP L q9=>?_;obtain⟨T,l,q,D,n,u,G,J⟩:=q9;subst u;obtain⟨N,rfl⟩:=D;have b:((n:Int)).natAbs.log2<1920:=by
  rw[Ud]
  rcases JT n with z|z
  .subst z;decide
  .have:n.log2<20:=(Nat.log2_lt<|by lia).mpr (by lia);lia
 have g:(Mj++x++y++UR n).length<=sizeLine:=by
  rw[An.yr,An.yr,An.yr];have:=VW b;exact An.zp (by show 0+x.length+y.length+(UR n).length<=_;have e:(UR n).length<=1921:=this;lia)
 refine formatField_int_small b ⟨g,joinParts_nil ⟨.str _,l,q.tok _,⟨_,rfl⟩,?_⟩ g⟩;have e:Mj++x++y++(EZ<|E7 (n:Int))=x++y++UR n:=An.xj (by
  rw[An.zm,An.zm,An.zm,An.zm,An.zm];rfl)
 rwa[e]
theorem IB:∀{Dm:Dl} {vs:List (Key×Ep)} {us:Db},KV Dm vs->us.length=vs.length->(∀(j:Nat) (v:Ep),us[j]?=some v->∃k x,vs[j]?=some (k,x)/\(z5 P w).is k v=true)->zb (Dm.map λkv=>kV kv.1) us
 |[],_,[],.nil,_,_=>.nil
 |[],_,_::_,.nil,hl,_=>by cases hl
 |_::_,_,[],.cons _ _,hl,_=>by cases hl
 |p::_,q::_,u::us,.cons r1 r2,hl,hm=>by
  obtain⟨k,x,e,hk⟩:=hm 0 u rfl;have e:q=(k,x):=by simpa using e
  have b:p.1=k:=by rw[show p.1=q.1 from r1.1,e]
  refine .cons (by
   show za (kV p.1) u;rw[b];cases k with
   |inl i =>
    have hk:My i u=true:=hk;cases u<;>simp[My]at hk;subst hk;exact⟨_,rfl⟩
   |inr z =>
    obtain⟨t,rfl⟩:=Y4<|show Le z u=true from hk;exact⟨t,rfl⟩) (IB (P:=P) (w:=w) r2 (by simpa using hl) λj v c=>?_)
  obtain⟨d,l,f,g⟩:=hm (j+1) v (by simpa using c);exact⟨d,l,by simpa using f,g⟩
theorem Km (hc:X.calm=true):yd X (.type "list") (λxs H Q=>∃a Dm,xs=[.ref a]/\H a=some (.dK Dm)/\∀l,H l=none->Q (.ref l) (upd H l<|.lst<|Dm.map λkv=>kV kv.1)):=by
 intro E s J H xs G Q I r h;obtain⟨a,Dm,rfl,ha,q⟩:=h;obtain⟨u,rfl,C⟩:=wW r;cases C;obtain⟨B,x,b,f,o,t,ep,y,A,hd,hk,z,i⟩:Dm.length<=sizeLine/\(a==E3)=false/\∃b,KV Dm b/\s.heap.DictOf (z5 X.prog X.w) a b:=I.hok a _ ha;have p:s.heap.DictAt (z5 X.prog X.w) a b ep:=⟨o,t,y,A,hd,hk,z,i⟩;have F:Dm.length=b.length:=Paired.length f;refine PySem.W.kdl_call (Us (knd:=z5 X.prog X.w) (kvs:=b) (ep:=ep) x) (I.ok.hd hc) p (by lia) λh' tk d c g hl n=>?_;have D:zb (Dm.map λkv=>kV kv.1) d.toList:=IB f (by rw[ZT];exact n.1) λj v e=>n.2 j v (by rwa[<-Yu]);exact⟨.ref s.heap.objs.size,_,I.laid (t':=tk) g (Zt _)<|show yq X.prog X.w _ h' _ (.lst<|Dm.map λkv=>kV kv.1) from⟨by rw[Zk];exact B,d.toList,c,D,hl⟩,rfl,q _<|I.hok.fresh<|Zt _⟩
end
section
variable {X:Cx}{Dp:De}{σ:St}{H:Hp}{s:Et}{d:Eo}{Dm:Dl}
theorem xr.vq (r:xr k A):A.units+128<cLine:=by have:=r.un;lia
theorem Inv.freeze (I:Inv X Dp σ H s)(e:H d=some (.dK Dm)):∃ob:Obj,Inv X Dp σ (upd H d<|.frz ob<|.dK Dm) s:=by
 obtain⟨t,n,c,i,o,l,j,g,r,hd,hk,p,f⟩:Dm.length<=sizeLine/\(d==E3)=false/\∃c,KV Dm c/\s.heap.DictOf (z5 X.prog X.w) d c:=I.hok d _ e;refine⟨o,?_⟩;have v:TH (H d):=by rw[e];trivial
 exact I.write (x:=d) (e:=d) (h':=s.heap) (t':=s.toks) v (.inl rfl) (λb u _ q=>q) ⟨o,g⟩ ⟨g,t,n,c,i,o,l,j,g,r,hd,hk,p,f⟩
theorem K8 {k:Key}{u:Ep}(h:(z5 P w).is k u=true):za (kV k) u:=by
 cases k with
 |inl i =>
  have h:My i u=true:=h;cases u<;>simp[My]at h;subst h;exact⟨_,rfl⟩
 |inr x =>
  obtain⟨t,rfl⟩:=Y4<|show Le x u=true from h;exact⟨t,rfl⟩
theorem jX {c b:Type}{F:c->b->Prop}:∀{l₁:List c} {l₂:List b} {i:Nat} {y:b},Lq F l₁ l₂->l₂[i]?=some y->∃x,l₁[i]?=some x/\F x y
 |_,_,_,_,.nil,h=>by cases h
 |_,_,0,_,.cons r _,h=>by cases h;exact⟨_,rfl,r⟩
 |_,_,i+1,_,.cons _ t,h=>by
  obtain⟨x,h1,d⟩:=jX (i:=i) t (by simpa using h);exact⟨x,by simpa using h1,d⟩
theorem Ky {ob:Obj}(z:yq P w H h d<|.frz ob<|.dK Dm):∃vs es ep,ob.data=.dict es ep/\KV Dm vs/\h.DictAt (z5 P w) d vs ep/\(d==E3)=false/\Dm.length<=sizeLine:=by
 obtain⟨i,q,l,vs,g,o,b,e,j,p,c,hk,n,f⟩:=z;rw[i]at j;cases j;exact⟨vs,b,e,c,g,⟨ob,b,i,p,c,hk,n,f⟩,l,q⟩
theorem Ie {ob:Obj}{es:Array Mm}{ep:Nat}(hd:ob.data=.dict es ep)(z:yq P w H h d<|.frz ob<|.dK Dm):∃vs,KV Dm vs/\h.DictAt (z5 P w) d vs ep/\(d==E3)=false:=by
 obtain⟨vs,g,f,b,c,e,i,_⟩:=Ky z;rw[hd]at b;cases b;exact⟨vs,c,e,i⟩
def bD (d:Eo)(Dm:Dl)(ob:Obj):It where
 go:=λi H=>H d=some (.frz ob<|.dK Dm)/\i<Dm.length
 oM:=λi H x b=>b=H/\∃k v,Dm[i]?=some (k,v)/\x=kV k
 stop:=λi H=>H d=some (.frz ob<|.dK Dm)/\i=Dm.length
theorem OF {K:Cq}{ob:Obj}{es:Array Mm}{ep:Nat}(hd:ob.data=.dict es ep)(it:Eo):Turn P w K tg (bD d Dm ob) [it] it (λi h=>h.IsKeyIter it d i Dm.length ep) where
 mem:=by simp
 obj:=λi h st b hb=>by
  have e:b=it:=by simpa using hb
  subst e;obtain⟨o,e,c,q⟩:=st;exact⟨o,e,λv z=>by rw[q]at z;cases z⟩
 keep:=λi h h' st k=>by
  obtain⟨o,e,c⟩:=st;exact⟨o,k it (by simp) o e,c⟩
 item:=by
  intro X B D A hc i Dp s σ H E I n st C;subst B D A;obtain⟨j,G⟩:=C;obtain⟨g,f,p,R⟩:=Ie hd<|I.hok d _ j;have hl:Dm.length=g.length:=Paired.length f;rw[hl]at st;have J:g[i]?=some (g[i]'(by lia)):=Zv (by lia);obtain⟨r,t,O,u,x,y⟩:=n it (by simp);refine wpAny_pyNext_dict_item (k:=(g[i]'(by lia)).1) (v:=(g[i]'(by lia)).2) st p J λkey h' L l T=>?_;have M:Inv X Dp σ H { s with heap:=h' }:=I.turned (t':=s.toks) (λb o hb e=>(T.2 b hb).trans e) r t u x y;rw[<-hl]at l;obtain⟨o,e,c,q⟩:=id l;have hk:∃v,Dm[i]?=some ((g[i]'(by lia)).1,v):=by
   obtain⟨⟨S,F⟩,Q,h1,_⟩:=jX f J;have h1:S=_:=h1;subst h1;exact⟨F,Q⟩
  obtain⟨F,hk⟩:=hk;exact⟨key,rfl,Nj (s:={ s with heap:=h' }) e c q (by decide) ⟨kV (g[i]'(by lia)).1,H,M,K8 L,⟨rfl,_,F,hk,rfl⟩,l,λb hb=>(n b hb).1⟩⟩
 done:=by
  intro X B D A hc i Dp s σ H E I n st C;subst B D A;obtain⟨j,G⟩:=C;subst G;obtain⟨g,f,p,R⟩:=Ie hd<|I.hok d _ j;have hl:Dm.length=g.length:=Paired.length f;obtain⟨r,t,O,u,x,y⟩:=n it (by simp);rw[hl]at st;exact wpAny_pyNext_dict_end (I.ok.hd hc) st p (Yv<|by lia) λh' N=>⟨rfl,I.turned (t':=s.toks) (λb o hb e=>N b o hb e) r t u x y⟩
 self:=λ_ _ _ _ _ st h=>wpAny_pyIter_keyiter st h
def bx (d:Eo)(Dm:Dl)(ob:Obj):It where
 go:=λi H=>H d=some (.frz ob<|.dK Dm)/\i<Dm.length
 oM:=λi H x b=>∃T k v,Dm[i]?=some (k,v)/\H T=none/\x=.ref T/\b=upd H T (.tup [kV k,v])
 stop:=λi H=>H d=some (.frz ob<|.dK Dm)/\i=Dm.length
theorem MX {P:Er}{w:Eu}{K:Cq}{T:List EN} {x1}{Y:Pos}{ob:Obj}{es:Array Mm}{ep:Nat}(hd:ob.data=.dict es ep)(it:Eo) :
  Turn P w K (.Tuple T x1 Y) (bx d Dm ob) [it] it (λi h=>∃ok ov,IsItemIter h it d i Dm.length ep ok ov) where
 mem:=by simp
 obj:=λi h st b hb=>by
  have e:b=it:=by simpa using hb
  subst e;obtain⟨ok,ov,e⟩:=st;exact⟨_,e,λv z=>by cases z⟩
 keep:=λi h h' st k=>by
  obtain⟨ok,ov,e⟩:=st;exact⟨ok,ov,k it (by simp) _ e⟩
 item:=by
  intro X C G B hc i Dp s σ H E I x st F;subst C G B;obtain⟨f,O⟩:=F;obtain⟨r,c,y,hS⟩:=Ie hd<|I.hok d _ f;have hl:Dm.length=r.length:=Paired.length c;obtain⟨ok,ov,st⟩:=st;rw[hl]at st;obtain⟨⟨R,t⟩,Q⟩:∃p,r[i]?=some p:=⟨_,Zv<|show i<r.length by lia⟩;obtain⟨⟨g,n⟩,h0,h1,L⟩:=jX c Q;have h1:g=R:=h1;have L:za n t:=L;have fi:=x it (by simp);have D:H s.heap.objs.size=none:=I.hok.fresh<|Zt _;have j:it<s.heap.objs.size:=ZC st;refine wpAny_pyNext_items_item (k:=R) (v:=t) st y Q λkey h' U J tup sz kp=>?_;refine⟨_,rfl,wpAny_letOwnedTupleGo_items J λu N S=>?_⟩;have l:u.get? s.heap.objs.size=some { cls:=.type "tuple",data:=.seq #[key,t] }:=(S.2 _<|JP j).trans tup;have Z:Inv X Dp σ H { s with heap:=u }:=I.qt (t':=s.toks) (ch:=[it]) x (λb o hb q=>by
   have M:b≠it:=λz=>hb (by simp[z]);exact(S.2 b M).trans (kp b o M q)) (λb hb=>by
   have z:b=it:=by simpa using hb
   subst z;exact⟨_,N⟩)
  have A:=I.tB (Zt _) D;have new:yq X.prog X.w (upd H s.heap.objs.size<|.tup [kV g,n]) u s.heap.objs.size (.tup [kV g,n]) :=
   ⟨by show 2<=sizeLine;decide,[key,t],.cons (by rw[h1];exact K8 U)<|.cons L .nil,⟨_,l,rfl,_,rfl,rfl⟩⟩
  have I2:Inv X Dp σ (upd H s.heap.objs.size<|.tup [kV g,n]) { s with heap:=u } :=
   Z.lZ D (Yk I.sz<|Zt _) A.2.1 A.2.2.2.2.1 A.2.2.2.2.2 new
  refine⟨.ref s.heap.objs.size,_,I2,rfl,⟨_,g,n,h0,D,rfl,rfl⟩,⟨key,t,by rw[hl];exact N⟩,λb hb=>?_⟩;have z:b=it:=by simpa using hb
  subst z;rw[zI<|ZO j];exact fi.1
 done:=by
  intro X C G B hc i Dp s σ H E I x st F;subst C G B;obtain⟨f,O⟩:=F;subst O;obtain⟨r,c,y,hS⟩:=Ie hd<|I.hok d _ f;have hl:Dm.length=r.length:=Paired.length c;obtain⟨f0,f1,f2,f3,f4,f5⟩:=x it (by simp);obtain⟨ok,ov,st⟩:=st;rw[hl]at st;exact wpAny_pyNext_items_end (I.ok.hd hc) st y (Yv<|by lia) λh' eb=>⟨rfl,I.turned (t':=s.toks) (λb o hb e=>eb b o hb e) f0 f1 f3 f4 f5⟩
 self:=λ_ _ _ _ _ st h=>by
  obtain⟨ok,ov,st⟩:=st;exact PySem.W.kcp_self st h
end
section
variable {X:Cx}{tg:EN}
def cm (t:TE):TE:=λe H Q=>t e H λv c=>∃d b,v=.ref d/\c d=some (.dK b)/\∀ob,Q v<|upd c d<|.frz ob<|.dK b
theorem Fe (h:PE X e t):PE X e (cm t):=by
 intro b s g H Q I q;refine Ct (h b s g H _ I q) λv l q9=>?_;obtain⟨x,j,c,r,d,i,ex,hd,q⟩:=q9;subst ex;obtain⟨ob,f⟩:=c.freeze hd;exact⟨.ref d,_,f,r,q ob⟩
def aw (e:TE):TI:=λf H R=>e f H λv c=>∃d ob b,v=.ref d/\c d=some (.frz ob<|.dK b)/\R (bD d b ob) c
theorem SM (hl:PE X l tl):PI X tg l (aw tl):=by
 intro j s p H R I h;refine Ct (hl j s p H _ I h) λv c q9=>?_;obtain⟨x,w,g,r,d,ob,t,ex,hd,q⟩:=q9;subst ex;cases r;obtain⟨n,C,A,f,i,z,B,_⟩:=Ky<|g.hok d _ hd;have u:t.length=n.length:=Paired.length i;refine wpAny_pyIter_dict B z ?_;have y:Inv X j p w { c with heap:=c.heap.push { cls:=.type "dict_keyiterator",data:=.fields #[.ref d,.int 0 0,.int n.length 0,.int A 0] } }:=g.kept (t':=c.toks) λb o e=>Zp _ e;refine⟨c.heap.objs.size,[c.heap.objs.size],_,_,_,rfl,y,OF f _,?_,λb hb=>?_,q⟩
 .exact⟨_,Zz _ rfl,rfl,by rw[u];rfl⟩
 .have e:b=c.heap.objs.size:=by simpa using hb
  subst e;exact g.tB (Zt _)<|g.hok.fresh<|Zt _
def Wb (e:TE):TI:=λf H R=>e f H λv c=>∃d ob b,v=.ref d/\c d=some (.frz ob<|.dK b)/\R (bx d b ob) c
theorem IR {C:List EN}{J y z:Pos}(Q:PE X o td)(K:LD o "items" X.env (Lc o X.env)=Lc o X.env:=by rfl)(D:(y.endLine==z.line)=true:=by rfl) :
  PI X (.Tuple C x1 J) (.Call (.Attribute o "items" y) [] [] z) (Wb td):=by
 intro u s B H R I h;refine wpAny_Call_method0_late K D<|Ct (Q u s B H _ I h) λv c q9=>?_;obtain⟨x,L,A,r,d,ob,E,ex,hd,q⟩:=q9;subst ex;cases r;obtain⟨t,S,M,f,p,j,P,_⟩:=Ky<|A.hok d _ hd;have G:E.length=t.length:=Paired.length p;have i:=j.dictOf;obtain⟨n,N,h1,O,T⟩:=id j;refine⟨"dict","dict.items",F.plainAttrs_dict,Mr,F.type_dict_items,i.typeIs,λb q=>by cases q;exact⟨n,h1,O.2.1⟩,Lj rfl<|PySem.evalArgs_none ?_⟩;refine JR Mr i.typeIs F.entry_dict_items (F.args_dict_items_1 _) (meets_dict_items (z5 X.prog X.w) d P) ⟨⟨t,i⟩,?_⟩;have g:Inv X u B L { c with heap:=c.heap.push { cls:=.type "dict_items",data:=.fields #[.ref d] } }:=A.kept (t':=c.toks) λb o e=>Zp _ e;have l:(c.heap.push { cls:=.type "dict_items",data:=.fields #[.ref d] }).DictAt (z5 X.prog X.w) d t M:=j.at' λo e=>Zp _ e;refine wpAny_pyIter_items (v:=c.heap.objs.size) (d:=d) ⟨_,Zz _ rfl,rfl,rfl⟩ l ?_;refine⟨_,[_],_,_,_,rfl,g.kept (t':=c.toks) λb o e=>Zp _ e,MX f _,⟨_,_,by rw[G];exact Zz _ rfl⟩,λb hb=>?_,q⟩;have e:=Zl.mp hb;subst e;exact g.tB (Zt _)<|g.hok.fresh<|Zt _
section
variable {d:Eo}{Dm:Dl}{ob:Obj}{g:TG}{tb:TS}{D:Ends}{σ:St}{H:Hp}
theorem Pe (b:Nat->St->Hp->Prop)(h0:b 0 σ H)(hl:∀i σ H,i<=Dm.length->b i σ H->H d=some (.frz ob<|.dK Dm))
  (hs:∀i k v σ H,Dm[i]?=some (k,v)->b i σ H->g (kV k) σ H λσ2 H2=>tb { D with nx:=b<|i+1,ct:=b<|i+1,bk:=D.nx } σ2 H2) (hd:∀σ H,b Dm.length σ H->D.nx σ H):NU (bD d Dm ob) g tb D σ H :=
 Nh Dm.length b h0 (λσ H p=>⟨hl _ σ H (Zt _) p,rfl⟩) (λi σ H c p=>⟨hl i σ H (YE c) p,c⟩) (λi σ H c p v l y=>by
  obtain⟨e,k,x,j,f⟩:=y;subst f e;exact hs i k x σ _ j p) hd
theorem Bm (b:Nat->St->Hp->Prop)(h0:b 0 σ H)(hl:∀i σ H,i<=Dm.length->b i σ H->H d=some (.frz ob<|.dK Dm))
  (hs:∀i k v T σ H,Dm[i]?=some (k,v)->b i σ H->H T=none->g (.ref T) σ (upd H T<|.tup [kV k,v]) λσ2 H2=>tb { D with nx:=b<|i+1,ct:=b<|i+1,bk:=D.nx } σ2 H2) (hd:∀σ H,b Dm.length σ H->D.nx σ H):NU (bx d Dm ob) g tb D σ H :=
 Nh Dm.length b h0 (λσ H p=>⟨hl _ σ H (Zt _) p,rfl⟩) (λi σ H c p=>⟨hl i σ H (YE c) p,c⟩) (λi σ H c p v n y=>by
  obtain⟨T,k,x,l,j,f,e⟩:=y;subst f e;exact hs i k x T σ H l p j) hd
end
def bV:R2:=λy x H Q=>∃a o,x=.ref a/\ux H a y o/\Q (.bl o.isSome) H
theorem P5 (f:X.A.units+64<E8):CH X (ES .In) bV:=by
 intro e s j H y x v u Q I d c h;obtain⟨a,o,rfl,g,q⟩:=h;cases c;exact bJ (by lia) I g d λi b=>⟨.bl _,H,b,rfl,q⟩
theorem Sb {H:Hp}{a:Eo}{ob:Obj}{Dm:Dl}(e:H a=some (.frz ob<|.dK Dm)):ux H a (kV k) (UE Dm k):=.inl ⟨Dm,k,.inr ⟨ob,e⟩,rfl,rfl⟩
theorem XA:∀{Dm:Dl} {vs:List (Key×Ep)} {us:Db},KV Dm vs->us.length=vs.length->(∀(j:Nat) (v:Ep),us[j]?=some v->∃k x,vs[j]?=some (k,x)/\(z5 P w).is k v=true)->zb (Dm.map λkv=>kV kv.1) us:=IB
inductive rP (K:Cq)(H:Hp)(kb:Dl):Dl->Bool->Prop
 |nil:rP K H kb [] true
 |miss {k:Key} {v:V} {r:Dl}:UE kb k=none->rP K H kb ((k,v)::r) false
 |hit {k:Key} {v y:V} {d e:Ey} {r:Dl} {b:Bool}:UE kb k=some y->Dt K H d v->Dt K H e y->EW d=true->EW e=true->rP K H kb r b->rP K H kb ((k,v)::r) (EM d e&&b)
theorem rP.keq (I:Inv X Dp σ H s)(f:X.A.in1.units+64<E8)(g:KV kb ub) :
  ∀{ka:Dl} {ua:List (Key×Ep)} {b:Bool},KV ka ua->rP X.K H kb ka b->PySem.W.KeqHits X.A.in1 s ub ua b
 |[],_,_,.nil,.nil=>.nil
 |p::ka,q::ua,_,.cons r1 r2,h=>by
  obtain⟨k,v⟩:=p;obtain⟨i,u⟩:=q;obtain⟨d,n⟩:=r1;have d:k=i:=d;subst d;have c:=g.val k;cases h with
  |miss hn =>
   rw[hn]at c;cases e:Me ub k with
   |none=>exact .miss e
   |some y=>rw[e]at c;exact c.elim
  |hit hy h1 h2 s1 s2 hr =>
   rw[hy]at c;cases e:Me ub k with
   |none=>rw[e]at c;exact c.elim
   |some y =>
    rw[e]at c;obtain⟨o,j⟩:=Dt.zq I _ _ _ h1 n;obtain⟨bs,l⟩:=Dt.zq I _ _ _ h2 c;exact .hit e (PySem.W.keq_at j l s1 s2 f)<|rP.keq I f g r2 hr
end
section
variable {X:Cx}{K:Cq}
theorem Sz (r:X.A.units+64<E8)(e:X.K=K:=by rfl):CH X (ES .NotIn) (Wy K false true):=by
 subst e;intro n s t H x y v u Q I i j h;obtain⟨d,l,h1,b,c,h4,p,q⟩:=h;obtain⟨o,f⟩:=Dt.zq I d x v h1 i;obtain⟨bs,g⟩:=Dt.zq I _ y u b j;have hm:min (EK l) d.depth<=d.depth:=VT _ _;exact SeqAt.notIn_list_reads g f c h4 (by lia) ⟨.bl _,H,I,rfl,by simpa using q⟩
theorem P8 (r:X.A.units+64<E8)(e:X.K=K:=by rfl):CH X (ES .NotIn) (Wy K true true):=by
 subst e;intro n s t H x y v u Q I i j h;obtain⟨d,l,h1,b,c,h4,p,q⟩:=h;obtain⟨o,f⟩:=Dt.zq I d x v h1 i;obtain⟨bs,g⟩:=Dt.zq I _ y u b j;have hm:min (EK l) d.depth<=d.depth:=VT _ _;exact SeqAt.notIn_tuple_reads g f c h4 (by lia) ⟨.bl _,H,I,rfl,by simpa using q⟩
end
structure vm (k:Nat)(A:EJ):Prop where
 dp:A.depth+3*k+5<recursionLimit
 un:A.units+16*k+200<E8
theorem xr.h (r:xr k A):vm k A:=⟨r.dp,r.un⟩
theorem vm.mark (r:vm k A)(e:Ep):vm k (A.mark<|some e):=⟨r.dp,r.un⟩
theorem vm.deeper {k:Nat}(r:vm (k+1) A)(env:Env):vm k (A.deeper env) :=
 ⟨by have:=r.dp;show A.depth+1+3*k+5<_;lia,by have:=r.un;show A.units+3+16*k+200<_;lia⟩
def af (P:Er)(w:Eu)(K:Cq)(mg:Str->Dc)(base:EI)(N:Da)(qual:Str)(scope:LV)(f:Eo)(b:Ep)(A:EJ)(outer:List Env)(s:Et)(H:Hp)(E:XK):Cx :=
 { GG CA P w K mg base N qual scope f b A outer s H E with calm:=false,xe:=λ_ _=>False }
section
variable {P:Er}{w:Eu}{K:Cq}{mg:Str->Dc}{base:EI}
theorem KG {N ps:Da}{qual:Str}{scope:LV}{f:Eo}{c:Ep}{A:EJ}{outer:List Env}{s d:Et}{H:Hp}{E:XK}{us:Db}{vs:Dj}
  (S:zy N ps scope) (b:rQ P w K mg base A outer s H) (hl:vs.length=ps.length) (r:zb vs us)
  (x:InCallC s s.heap.objs.size (bindL (Mw qual scope s.heap.objs.size f c).kindOf (ps.zip us) λ_=>none) (cellsFrom (s.heap.objs.size+1) scope.names []) (bindC (Mw qual scope s.heap.objs.size f c).kindOf (ps.zip us) λ_=>none) d) :
  Inv (af P w K mg base N qual scope f c A outer s H E) [] (start N vs) H d:=by
 have e:rQ P w K mg base { A with handled:=none } outer s H:=⟨b.frames,b.mod,b.bs,b.nj,b.uv,b.mW,b.hok,b.bare⟩;have I:=Bk (CX:=CA) (E:=E) (A:={ A with handled:=none }) S rfl e hl r x;exact⟨⟨I.ok.mod,I.ok.kind,I.ok.glob,I.ok.blt,I.ok.above,I.ok.inj,I.ok.has,I.ok.cab,λz=>(by cases z),Around.frames_deeper b.frames,I.ok.stk,I.ok.ju,I.ok.bs,I.ok.nj,I.ok.pW,I.ok.pL,I.ok.uv,I.ok.mW⟩,I.os,I.bare,I.base,I.loc,I.cell,I.free,I.wR,I.pin,I.hok,I.len⟩
end
section
variable {X:Cx}
theorem kX:∀{l:List (Str×Tok)} {ys:Da},l.map (·.1)=ys->zb (ys.map V.str) (strValues l)
 |[],_,h=>by rw[<-h];exact .nil
 |p::l,_,h=>by
  rw[<-h];exact .cons ⟨p.2,rfl⟩<|kX rfl
def WC:V->Dj->Hp->VK->Prop:=λx b H Q=>∃(a:Str) (c:Nat),x=.str a/\b=[.str ⟨#[c]⟩]/\a.length<=100000/\∀l,H l=none->Q (.ref l) (upd H l<|.lst<|(LM a ⟨#[c]⟩).map V.str)
theorem F9:TF X "str.split" WC:=by
 intro j s p H x o v n Q I i g h;obtain⟨a,c,rfl,rfl,ha,q⟩:=h;obtain⟨t,rfl⟩:=i;obtain⟨u,rfl,t',rfl⟩:=wW g;have f:a.length<=sizeLine:=An.zp (by lia);have d:((⟨#[c]⟩:Str).length==0)=false:=rfl;have hn:(LG a (La a ⟨#[c]⟩ 0 a.length<|a.length+1) (⟨#[c]⟩:Str).length).length<=200000:=by
  unfold LG;have:=StrLaws.occ_length_le a ⟨#[c]⟩ 0 a.length<|a.length+1;simp only[Zk,List.length_zip,ZF,ZB,Y7];lia
 cases h1:(decide (a.length<(⟨#[c]⟩:Str).length)||decide (Builtin.Str.strKind a<Builtin.Str.strKind ⟨#[c]⟩))
 .cases b:(La a ⟨#[c]⟩ 0 a.length<|a.length+1).isEmpty
  .have e:LM a ⟨#[c]⟩=LG a (La a ⟨#[c]⟩ 0 a.length<|a.length+1) (⟨#[c]⟩:Str).length:=(ZH<|V6 h1).trans<|ZH<|V6 b;refine Ua F.slot_str_split (Vo s a t) F.entry_str_split (F.args_str_split_2 _ _) (meets_str_split_sep a ⟨#[c]⟩ t t' h1 d b f<|An.zp<|by lia) ?_;rw[strsFrom_eq];refine⟨.ref _,_,I.lJ (kX<|numbered_texts _ _) (by rw[Zk];exact An.zp<|by lia),rfl,?_⟩;rw[<-e];exact q _ I.fresh
  .have e:LM a ⟨#[c]⟩=[a]:=(ZH<|V6 h1).trans<|ZK b;rw[e]at q;refine Ua F.slot_str_split (Vo s a t) F.entry_str_split (F.args_str_split_2 _ _) (meets_str_split_not_found a ⟨#[c]⟩ t t' h1 d b) ?_;exact⟨.ref _,_,I.lJ (t':=s.toks) (kX (l:=[(a,t)]) rfl) (by show 1<=sizeLine;decide),rfl,q _ I.fresh⟩
 .have e:LM a ⟨#[c]⟩=[a]:=ZK h1;rw[e]at q;refine Ua F.slot_str_split (Vo s a t) F.entry_str_split (F.args_str_split_2 _ _) (meets_str_split_cannot_occur a ⟨#[c]⟩ t t' h1) ?_;exact⟨.ref _,_,I.lJ (t':=s.toks) (kX (l:=[(a,t)]) rfl) (by show 1<=sizeLine;decide),rfl,q _ I.fresh⟩
def bS (K:Cq):Dj->Hp->VK->Prop:=λb H Q=>∃(a:Eo) (bs:List Bool),b=[.ref a]/\yu K H a (bs.map V.bl)/\Q (.bl<|bs.any id) H
theorem OZ {K:Cq}(hc:X.calm=true)(n:X.K=K:=by rfl):yd X (.builtin "any") (bS K):=by
 subst n;intro w s E H D C Q I r h;obtain⟨a,bs,rfl,ha,q⟩:=h;obtain⟨u,rfl,p⟩:=wW r;cases p;obtain⟨c,t,o,z⟩:=I.list ha;have g:=BF t;have hl:=o.isList;have f:a<s.heap.objs.size:=by obtain⟨_,e,_⟩:=hl;exact ZC e
 refine call_any_walk<|J0 hl ?_;refine⟨s.heap.objs.size,[s.heap.objs.size,a],[s.heap.objs.size],c.toArray.size,_,_,λi=>(bs[i]?).getD false,rfl,Walks.list (A:=X.A.in1) (I.ok.hd hc) _ a (ZO f) c.toArray,⟨⟨_,Zz _ rfl,rfl,rfl⟩,hl.push _⟩,λi v B y x d j=>?_,λh' tk hk=>?_⟩
 .have d:c[i]?=some v:=by simpa using d
  rw[g,Zy]at d;cases e:bs[i]? with
  |none=>rw[e]at d;cases d
  |some b =>
   rw[e]at d;have d:Mg b=v:=Option.some.inj d;subst d;simp only[e,VU]at j;exact Y2 j
 .have l:c.length=bs.length:=by rw[g,Zk]
  have e:((ET c.toArray.size).any λi=>(bs[i]?).getD false)=bs.any id:=by
   rw[ZP,l];exact PyProof.Rows.LSm.range_any bs
  rw[e];exact⟨.bl _,H,I.kept<|PyProof.Rows.LSm.kept_iter hk,rfl,q⟩
theorem PR {K:Cq}(b:X.K=K:=by rfl):TF X "str.join" (rJoin K):=by
 subst b;exact X4
theorem F4 (x:Str)(c:Nat)(t u:Tok)(d:La x ⟨#[c]⟩ 0 x.length 1=[]):Meets (Builtin.«str.partition» ⟨[.str x t,.str ⟨#[c]⟩ u],[]⟩)
  (λ_ R s=>R (.ok<|.ret<|.ref s.heap.objs.size) { s with heap:=s.heap.push { cls:=.type "tuple",data:=.seq #[.str x t,.str Mj s.toks,.str Mj s.toks] },toks:=s.toks+1 }) :=
 .of_wp λprog w A R s h=>by
  obtain⟨b,e⟩:=partition_tree x ⟨#[c]⟩ t u;rw[e,ZH<|show¬((⟨#[c]⟩:Str).length==0)=true from(by show¬(1==0)=true;decide),d];refine Zm<|J4 ?_;refine Zm<|wpAny_mkStr ?_<|Yb _;refine Zm (wpAny_newTuple ?_ (by show 3<=sizeLine;decide));exact Zu ⟨_,rfl,h⟩
def Rw:V->Dj->Hp->VK->Prop:=λx b H Q=>∃(u:Str) (c:Nat),x=.str u/\b=[.str ⟨#[c]⟩]/\c∉An.cs u/\∀p,H p=none->Q (.ref p) (upd H p<|.tup [.str u,.str "",.str ""])
def WB:V->Dj->Hp->VK->Prop:=λx b H Q=>Tr x b H Q\/Rw x b H Q
theorem GK:TF X "str.partition" Rw:=by
 intro f s j H x i v g Q I e d h;obtain⟨a,c,rfl,rfl,hc,q⟩:=h;obtain⟨t,rfl⟩:=e;obtain⟨w,rfl,t',rfl⟩:=wW d;have b:La a ⟨#[c]⟩ 0 a.length 1=[]:=by
  rcases StrLaws.occ_head_from a ⟨#[c]⟩ 0 1 (Zt 1) with⟨h0,hn⟩|⟨k,r,h0,hlo,hk,hn⟩
  .exact h0
  .have hm:=(Mq _ c k).mp hk;have hm:(An.cs a)[k]?=some c:=hm;exact absurd (ZG hm) hc
 refine Ua F.slot_str_partition (Vo s _ t) F.entry_str_partition (F.args_str_partition_2 _ _) (F4 _ c t t' b) ?_;have hn:H s.heap.objs.size=none:=I.hok.fresh<|Zt _;refine⟨.ref s.heap.objs.size,_,I.laid (t':=s.toks+1) (a:=s.heap.objs.size) (o:=.tup [.str a,.str "",.str ""]) (λ_ _ q=>Zp _ q) (Zt _) ?_,rfl,q _ hn⟩;exact⟨by show 3<=sizeLine;decide,_,.cons ⟨_,rfl⟩<|.cons ⟨_,rfl⟩<|.cons ⟨_,rfl⟩ .nil,⟨_,Zz _ rfl,rfl,_,rfl,rfl⟩⟩
theorem GH:TF X "str.partition" WB:=by
 intro b s g H x f v e Q I d c h
 rcases h with h|h
 .exact vJ b s g H x f v e Q I d c h
 .exact GK b s g H x f v e Q I d c h
end
theorem GA:entryFor table "proto.unchain"=some Builtin.«proto.unchain»:=entryFor_of_tree (by kernel_rfl)
section
variable {prog:Er}{w:Eu}{A:EJ}{E:Ep->Dh}{s:Et}
theorem SU {i:Type}{e x:Eo}{d f:Obj}{ve g:Array Ep}{Q:i->Dh}(hh:A.handled=some (.ref x))(ne:x≠e)(he:s.heap.get? e=some d)(b:d.data=.fields ve)(hz:2<ve.size)(j:s.heap.get? x=some f)(c:f.data=.fields g)(hc:g[2]?=some .none)
  (h:E (.ref e) { s with heap:=s.heap.update e (LB (·.setIfInBounds 2 (.ref x))) }):Es (Ez prog w) A (raiseNew (.ref e):Sem i) Q E s:=by
 unfold raiseNew;refine Zm<|wpAny_handled ?_;rw[hh];have hb:(EB x !=EB e)=true:=by simp[ne]
 simp only[hb,Uj];refine Zm<|Yp<|wpAny_runValue<|Jh GA ?_;show Es _ _ (field (.ref x) 2>>=_) _ _ s;refine Zm<|Jd j c hc ?_;simp only[show(EH==EH)=true from rfl,Uj];refine Zm<|Zu<|Zu ?_;refine Zm ?_;unfold updateField;refine Zm<|wpAny_load he ?_;rw[b];simp only[ZK hz];refine wpAny_update he ?_;exact wpAny_throw h
theorem MS {j:Type}{x:Eo}{d:Obj}{f:Array Ep}{h0:EI}{Q:j->Dh}(hh:A.handled=some (.ref x))(l:h0.get? x=some d)(c:d.data=.fields f)(hc:f[2]?=some .none)
  (h:∀e h',(∀b ob,h0.get? b=some ob->h'.get? b=some ob)->Shared.TypeIs { s with heap:=h' } (.ref e) "StopIteration"->E (.ref e) { s with heap:=h' }):Es (Ez prog w) A (newExc (.type "StopIteration") []>>=λe=>(raiseNew e:Sem j)) Q E { s with heap:=h0 }:=by
 refine Zm ?_;simp only[newExc,newTuple];refine Zm (Yh ?_<|by size_fits);refine Zm (m:=L5 _ _) (JN (a:=EH) (by first|rfl|(simp only[L5];rfl)) ?_);refine Yh ?_ (by size_fits);have kx:∀b ob,h0.get? b=some ob->(h0.push { cls:=Value.type "tuple",data:=Data.seq #[] }).get? b=some ob:=λb ob e=>Zp _ e;have g:=kx x d l;refine SU (x:=x) hh (ZO<|ZC g) (Zz _ rfl) rfl (by simp;lia) (Zp _ g) c hc<|h _ _ (λb ob e=>?_) ⟨_,Yd _ (Zz _ rfl)<|Obj.isFreed_of_fields<|Mf rfl _,Obj.cls_mapFields _ _⟩;have i:=kx b ob e;rw[ZX _ _<|JP<|ZC i];exact Zp _ i
theorem KN {it l x:Eo}{i:Nat}{p:Array Ep}{q:Obj}{r:Array Ep}{Q:Dc->Dh}(hh:A.handled=some (.ref x))(v:s.heap.get? x=some q)(d:q.data=.fields r)(hc:r[2]?=some .none)(n:it≠x)
  (hit:s.heap.IsListIter it l i) (hl:s.heap.IsList l p) (f:p[i]?=none) (u:∀h',MC it s.heap h'->Q none { s with heap:=h' }):Es (Ez prog w) A (LR<|.ref it) Q E s:=by
 obtain⟨o,g,_,hd⟩:=id hit;obtain⟨z,j,_,y,c⟩:=id hl;unfold LR;refine Zm<|Jn<|Yz (name:=EZ "__next__") hit.typeIs slot_listiter_next<|Yq slot_listiter_next hit.typeIs entry_listiter_next ?_<|args_listiter_next _;show Es _ _ (field (.ref it) 0>>=_) _ _ _;refine Zm<|Jd g hd (x:=.ref l) rfl ?_;show Es _ _ (if(EB l==EH)=true then _ else _) _ _ _;rw[ZH<|show¬(EB l==EH)=true from Z3];show Es _ _ (field (.ref it) 1>>=_) _ _ _;refine Zm<|Jd g hd (x:=.int i 0) rfl ?_;show Es _ _ (seqItems? (.ref l)>>=_) _ _ _;refine Zm<|J5 j c ?_;simp only[VD,f];refine Zm (J4<|Zm<|YJ g hd (by simp) ?_);show Es _ _ (newExc (.type "StopIteration") []>>=_) _ _ _;refine MS hh (h0:=s.heap.update it _) (by rwa[ZX _ _ n]) d hc λe h' k t=>?_;exact Zm (Jb (T:="StopIteration") (b:=true) t VI<|Zu<|u _ λb ob nb e=>k b ob<|by rwa[ZX _ _<|EC nb])
end
structure sW (P:Er)(w:Eu)(K:Cq)(mg:Str->Dc)(base:EI)(k:Nat)(f:Eo)(fd:Ev)(ps:Da)(sp:Eo->Sp):Prop where
 len:∀x vs H Q E,sp x vs H Q E->vs.length=ps.length
 run:∀(x:Eo) (A:EJ) (outer:List Env) (s:Et) (H:Hp) (args:Args) (us:Db) (vs:Dj) (Q:VK) (E:XK),vm k A->A.handled=some (.ref x)->rQ P w K mg base A outer s H->BindsTo s fd args (ps.zip us)->zb vs us->sp x vs H Q E ->
  LS (Ez P w) A (.call (.ref f) args) (CR CA outer P w H s Q E) s
section
variable {P:Er}{w:Eu}{K:Cq}{mg:Str->Dc}{base:EI}
theorem yc.gU {st:ER}{k:Nat}(F:yc K x qual st f fd)(S:zy N ps<|zF st){A:EJ}{outer:List Env}{s:Et}{H:Hp}{args:Args}{us:Db}{vs:Dj}{Q:VK}{E:XK}
  (C:vm (k+1) A) (i:rQ P w K mg base A outer s H) (hb:BindsTo s fd args<|ps.zip us) (r:zb vs us) (hl:vs.length=ps.length)
  (G:∀(cdv:Ep),vm k (A.deeper<|Mw qual (zF st) s.heap.objs.size f cdv)->∃t,qw (af P w K mg base N qual (zF st) f cdv A outer s H E) (xM st) t/\t { nx:=λ_ H'=>Q .non H',rt:=Q } (start N vs) H) :
  LS (Ez P w) A (.call (.ref f) args) (CR CA outer P w H s Q E) s:=by
 obtain⟨oc,od,kV,L,pm,Z,cdv,ct,Y,rfl,U,j⟩:=F.ex;have B:K.In s.heap:=i.mod.lQ.keeps λb o e=>(i.bs b o e).1;have l:s.heap.NoLimit:=i.mod.nolimit.keeps λb o e=>(i.bs b o e).1;have d:∀y∈ps.zip us,(zF st).names.lookup y.1=some .local\/((zF st).names.lookup y.1=some .cell/\((cellsFrom (s.heap.objs.size+1) (zF st).names []).lookup y.1).isSome=true):=λ⟨n,v⟩ T=>by
  rcases S.par n (JU T).1 with q|q
  .exact .inl q
  .exact .inr ⟨q,VB _ _ _<|.inl q⟩
 refine codeAny_call_function (by have:=C.dp;lia) (B _ _ U) rfl S.co S.gen rfl (PySem.W.codeRec_of B j)<|hb _ _ _ _ ?_;refine wpAny_newFunctionEnv_cells S.kind d λenv he D x=>?_;subst he;refine⟨l.keeps x.toInCall.keep,codeAny_func ?_⟩;obtain⟨t,R,O⟩:=G cdv<|C.deeper _;have I:Inv (af P w K mg base N qual (zF st) f cdv A outer s H E) [] (start N vs) H D:=KG S i hl r x;refine Yy (R [] D (start N vs) H _ I O) (λM z g=>?_) λe z g=>EL g;have fin:∀{c:St} {H':Hp} {v:V} {u:Ep},Inv (af P w K mg base N qual (zF st) f cdv A outer s H E) [] c H' z->za v u->Q v H'->CE outer P w H s Q u z :=
  λ{c H' v u} J p q=>⟨v,H',J.os,J.bare,J.base,J.hok,p,q⟩
 cases M with
 |ret u =>
  obtain⟨v,c,H',J,p,q⟩:=g;exact fin J p q
 |next =>
  obtain⟨c,H',J,q⟩:=g;exact fin (v:=V.non) (u:=EH) J rfl q
 |brk =>
  obtain⟨_,_,_,q⟩:=g;exact EL q
 |cont =>
  obtain⟨_,_,_,q⟩:=g;exact EL q
theorem yc.okE {st:ER}{k:Nat}{sp:Eo->Sp}(F:yc K x qual st f fd)(S:zy N ps<|zF st)(len:∀z vs H Q E,sp z vs H Q E->vs.length=ps.length)
  (e:∀(z:Eo) (cdv:Ep) (A:EJ) (outer:List Env) (s:Et) (H:Hp) (vs:Dj) (Q:VK) (E:XK),vm k (A.deeper<|Mw qual (zF st) s.heap.objs.size f cdv)->A.handled=some (.ref z)->sp z vs H Q E -> ∃t,qw (af P w K mg base N qual (zF st) f cdv A outer s H E) (xM st) t/\t { nx:=λ_ H'=>Q .non H',rt:=Q } (start N vs) H):sW P w K mg base (k+1) f fd ps sp :=
 ⟨len,λz A outer s H d j vs Q E i hh g hb r b=>F.gU S i g hb r (len _ _ _ _ _ b) λcdv c=>e z cdv A outer s H vs Q E c hh b⟩
end
structure oO (P:Er)(w:Eu)(K:Cq)(mg:Str->Dc)(base:EI)(k:Nat)(x:Str)(ps:Da)(sp:Eo->Sp):Prop where
 ex:∃(f:Eo) (fd:Ev),sW P w K mg base k f fd ps sp/\mg x=some (.ref f)/\EY K (.ref f)=true/\wX K fd ps []
theorem oO.mk' {K:Cq}{st:ER}(F:yc K x qual st f fd)(G:sW P w K mg base k f fd ps sp)(hm:mg x=some (.ref f))
  (b:wX K fd ps []):oO P w K mg base k x ps sp:=⟨f,fd,G,hm,F.kp,b⟩
section
variable {X:Cx}
theorem IK {e:EN}{es:List EN}{p pos:Pos}{z:Eo}(C:oO X.prog X.w X.K X.mg X.base k x ps sp)(D:vm k X.A)(hh:X.A.handled=some (.ref z))(ha:PA X (e::es) t)(B:Gl X x:=by rfl)
  (g:(x==("__debug__":Str))=false:=by decide) (he:EG (e::es) X.env=(false,Lc e X.env)::EG es X.env:=by rfl) (i:(Li pos<|EG es X.env).any (·.1)=false:=by rfl) :
  PE X (.Call (.Name x p) (e::es) [] pos) (RL (sp z) [] E0 t):=by
 obtain⟨f,G,F,hm,hk,hb⟩:=C.ex;intro l s y H Q I h;refine Y0<|jZ I B hm ?_ g;refine Jr (h₀:=X.base) I.ok.mod.lQ hk (Ct (ha pos l s y H _ I h) λd j ⟨v,n,b,r,q⟩=>⟨b.vh,?_⟩) he i;have o:zb (v++[]) (d++[]):=r.append .nil;have hl:(d++[]).length=ps.length:=by rw[<-o.length];exact F.len _ _ _ _ _ q
 refine Vm<|Jl (F.run z X.A X.stack j n ⟨d,[]⟩ (d++[]) (v++[]) Q E0 D hh b.env0 (hb j d b.vh hl) o q) λr E c=>?_;cases r with
 |error e=>exact Iu l y n j e E b c
 |ok fl =>
  cases fl with
  |ret u=>exact b.after c
  |next=>exact EL c
  |brk=>exact EL c
  |cont=>exact EL c
end
def TC (K:Cq)(a z:Eo):It :=
 ⟨(OL K a).go,(OL K a).oM,λi H=>(∃b,yu K H a b/\b.length<=i)/\∃cls,H z=some (UW z cls)⟩
theorem MW {K:Cq}{z:Eo}(a it:Eo):ph (λX=>X.A.handled=some (.ref z)) P w K tg (TC K a z) [it] it (λi h=>h.IsListIter it a i):=IW a it (by
 intro X x D v hh i L s T H E I y st B;subst x D v;obtain⟨⟨S,C,N⟩,cls,c⟩:=B;obtain⟨G,J,p,O⟩:=I.list C;obtain⟨d,n,M,r,t,u⟩:=y it (by simp);have hl:=J.length;obtain⟨⟨Q,R,f,F,g,j⟩,_⟩:=I.hok z _ c;exact KN hh f g j (λq=>by rw[q,c]at d;cases d) st p.isList (by simp;lia) λh' l=>⟨rfl,I.turned (t':=s.toks) (λb o hb e=>l b o hb e) d n r t u⟩)
def Pm (K:Cq)(z:Eo)(c:TE):TI:=λe H R=>c e H λv b=>∃a,v=.ref a/\(∃d,yu K b a d)/\R (TC K a z) b
abbrev WM (K:Cq)(z:Eo)(src:List<|Option Nat)(tl:TE)(g:TG)(tf:TT)(te:TE):TE:=NO src (Pm K z tl) g tf te
section
variable {X:Cx}{tg elt iter:EN}{ifs:List EN}{scope sc:LV}{N N':Da}{src:List (Option Nat)}{g:TG}{tf:TT}{te:TE}{wi:TI}{pos:Pos}
theorem Rk {z:Eo}(hl:PE X iter tl):bF (λX=>X.A.handled=some (.ref z)) X tg iter (Pm X.K z tl):=by
 intro i s n H R I h;refine Ct (hl i s n H _ I h) λv d h1=>?_;obtain⟨y,j,c,u,a,r,⟨x,f⟩,q⟩:=h1;subst r;cases u;obtain⟨l,w,g,t⟩:=c.list f;refine J0 g.isList ?_;have p:Inv X i n j { d with heap:=d.heap.push { cls:=.type "list_iterator",data:=.fields #[.ref a,.int 0 0] } }:=c.kept (t':=d.toks) λb o e=>Zp _ e;refine⟨_,[d.heap.objs.size],_,_,j,rfl,p,MW a _,⟨_,Zz _ rfl,rfl,rfl⟩,λb hb=>?_,q⟩;rw[Zl.mp hb];exact c.tB (Zt _)<|c.hok.fresh<|Zt _
theorem Ro {k:Nat}{y:Str}{f e:Pos}(O:wD sc N N' src scope)(c:X.env.scope=sc)(j:X.N=N){z:Eo}{i:TE}(hh:X.A.handled=some (.ref z))(hl:PE X iter i)
  (n:∀C s H fp,PG (X.comp N' scope C s H fp) tg g) (b:∀C s H fp,lH (X.comp N' scope C s H fp) ifs tf) (he:∀C s H fp,PE (X.comp N' scope C s H fp) elt te)
  (nd:X.N.Nodup) (hk:X.N[k]?=some y) (o:Loc X.env.scope y)
  (d:Mi (.ListComp elt [⟨tg,iter,ifs,0⟩] scope pos) (some<|.Name y f) e.line X.env=LC true:=by rfl)
  (l:X.fn y=true\/X.env.scope.names.lookup y=some .local:=by first|exact .inl rfl|exact .inr rfl|assumption)
  (hs:∀x,LW iter X.env x=LC x:=by intro _;rfl):PS X (.Assign [.Name y f] (.ListComp elt [⟨tg,iter,ifs,0⟩] scope pos) e) (OC (WM X.K z src i g tf te)<|Xc k) :=
 Hx O c j (λ_ _ _ _=>hh) (Rk hl) n b he nd hk o d l hs
end
section
variable {K:Cq}{src:List (Option Nat)}{g:TG}{tf:TT}{te:TE}{Q:VK}{a z:Eo}{xs:Dj}{σ:St}{H:Hp}
theorem Kr (c:Nat->Dj->St->Hp->Prop)(h0:c 0 [] (US src σ) H)(hz:xs.length<=sizeLine)(hl:∀i ys σ H,i<=xs.length->c i ys σ H->yu K H a xs/\(∃cls,H z=some (UW z cls))/\ys.length<=i)
  (hs:∀i x ys σ H,xs[i]?=some x->c i ys σ H->g x σ H λσ2 H3=>tf σ2 H3 λb H4=>if b=true then te σ2 H4 λy H5=>c (i+1) (ys++[y]) σ2 H5 else c (i+1) ys σ2 H4)
  (hd:∀ys σ H,c xs.length ys σ H->∀p,H p=none->Q (.ref p) (upd H p<|.lst ys)):U6 src (TC K a z) g tf te Q σ H :=
 Ii xs.length c h0 hz (λi ys σ H d p=>(hl i ys σ H d p).2.2) (λys σ H p=>⟨⟨xs,(hl _ ys σ H (Zt _) p).1,Zt _⟩,(hl _ ys σ H (Zt _) p).2.1⟩) (λi ys σ H d p=>⟨xs,xs[i],(hl i ys σ H (YE d) p).1,by simp[d]⟩)
  (λi ys σ H d p x f y=>by
   obtain⟨e,y⟩:=y;subst e;exact hs i x ys σ _ (y xs (hl i ys σ _ (YE d) p).1) p) hd
end
section
variable {prog:Er}{w:Eu}{A:EJ}{E:Ep->Dh}{s:Et}
theorem OD {it l x:Eo}{i:Nat}{p:Array Ep}{q:Obj}{r:Array Ep}{Q:Dc->Dh}(hh:A.handled=some (.ref x))(v:s.heap.get? x=some q)(d:q.data=.fields r)(hc:r[2]?=some .none)(n:it≠x)
  (hit:IsTupIter s.heap it l i) (hl:IsTup s.heap l p) (f:p[i]?=none) (u:∀h',MC it s.heap h'->Q none { s with heap:=h' }):Es (Ez prog w) A (LR<|.ref it) Q E s:=by
 obtain⟨o,g,_,hd⟩:=id hit;obtain⟨z,j,_,y,c⟩:=id hl;unfold LR;refine Zm<|Jn<|Yz (name:=EZ "__next__") hit.typeIs slot_tupleiter_next<|Yq slot_tupleiter_next hit.typeIs entry_tupleiter_next ?_<|args_tupleiter_next _;show Es _ _ (field (.ref it) 0>>=_) _ _ _;refine Zm<|Jd g hd (x:=.ref l) rfl ?_;show Es _ _ (if(EB l==EH)=true then _ else _) _ _ _;rw[ZH<|show¬(EB l==EH)=true from Z3];show Es _ _ (field (.ref it) 1>>=_) _ _ _;refine Zm<|Jd g hd (x:=.int i 0) rfl ?_;show Es _ _ (seqItems? (.ref l)>>=_) _ _ _;refine Zm<|J5 j c ?_;simp only[VD,f];refine Zm (J4<|Zm<|YJ g hd (by simp) ?_);show Es _ _ (newExc (.type "StopIteration") []>>=_) _ _ _;refine MS hh (h0:=s.heap.update it _) (by rwa[ZX _ _ n]) d hc λe h' k t=>?_;exact Zm (Jb (T:="StopIteration") (b:=true) t VI<|Zu<|u _ λb ob nb e=>k b ob<|by rwa[ZX _ _<|EC nb])
theorem Fr {env:Env}{y:List EN} {x1}{pos:Pos}{t x:Eo}{g:Array Ep}{z:Obj}{D:Array Ep}{Q:Unit->Dh}(hh:A.handled=some (.ref x))(C:s.heap.get? x=some z)(B:z.data=.fields D)(hc:D[2]?=some .none)(u:IsTup s.heap t g)
  (hn:(LQ y env).length=g.size) (l:(LQ y env).findIdx? (·.1)=none)
  (h:∀h',MC s.heap.objs.size s.heap h'->Es (Ez prog w) A (assignInOrder ((LQ y env).map (·.2)) g.toList) Q E { s with heap:=h' }) :
  Es (Ez prog w) A (assign (.Tuple y x1 pos) env<|.ref t) Q E s:=by
 rw[assign_Tuple];refine Zm<|wpAny_standAt ?_;unfold unpack;rw[hn,l];refine Zm<|Yp ?_;have r:t≠s.heap.objs.size:=by obtain⟨o,F,_⟩:=u;exact ZO<|ZC F
 have i:x≠s.heap.objs.size:=ZO<|ZC C;unfold unpackItems;refine Zm ?_;unfold notIterableAtAll;refine Zm<|JV u.typeIs slot_tuple_iter.lookup ?_;refine Zu ?_;simp only[Yt,Js];refine Zm<|Yp<|iter_tuple u ?_;refine Zm (Yp<|draw_tuple r g.size 0 _ _ ⟨_,Zz _ rfl,rfl,rfl⟩ (u.push _) (by lia) λd f c=>?_);have q:List.take g.size (List.drop 0 g.toList)=g.toList:=by
  rw[Ub];exact JS (by simp)
 rw[q];rw[ZH<|by simp];have n:IsTup d t g:=(u.push _).extBut c.extBut r;have p:d.get? x=some z:=c.extBut x z i<|Zp _ C;refine Zm (Yp<|OD (s:={ s with heap:=d }) hh p B hc (EC i) f n (by simp) λv j=>?_);simp only[Option.isSome_none,Yt,Js];exact Zu<|h v λb o hb e=>j b o hb<|c.extBut b o hb<|Zp _ e
end
section
variable {X:Cx}{K:Cq}{pos:Pos}
def ao (K:Cq)(n:Nat)(z:Eo)(t:Tg):TG:=λv c H Q=>∃a b cls,v=.ref a/\wY K H a b/\b.length=n/\H z=some (UW z cls)/\t b c H Q
theorem SK {k:Nat}{n:Nat}{z:Eo}(hh:X.A.handled=some (.ref z))(h:jo X es t)(x:X.K=K:=by rfl)
  (hn:(LQ es X.env).length=n:=by rfl) (c:(LQ es X.env).findIdx? (·.1)=none:=by rfl):PG X (.Tuple es k pos) (ao K n z t):=by
 subst x;intro j s p H v u Q I r d;obtain⟨a,G,cls,w,y,hl,E,d⟩:=d;subst w;cases r;obtain⟨F,l,B,_⟩:=I.tuple y;obtain⟨⟨J,L,f,D,g,i⟩,_⟩:=I.hok z _ E;refine Fr hh f g i B (by simp[hn,<-hl,l.length]) c λh' C=>?_;have q:Inv X j p H { s with heap:=h' }:=I.kept (t':=s.toks) λb o e=>C b o (ZO<|ZC e) e;exact h j _ p H G _ Q q (by simpa using l) d
end
end L2
namespace An
open PySem L2
def UQ (c:Nat):Bool:=decide (32<=c)&&decide (c<=126)&&decide (c≠37)
def UK (x:Str):Bool:=decide (x.length<=20)&&(cs x).all UQ
def Xb (c:Nat):Bool:=decide (97<=c)&&decide (c<=122)
def z9 (x:Str):Bool:=decide (1<=x.length)&&decide (x.length<=8)&&(cs x).all Xb
def UZ:Ey->Bool
 | .str x=>UK x
 |_=>false
def jE:Ey->Bool
 | .tuple ds=>ds.all UZ
 |_=>false
def kW:Ey->Bool
 | .str x=>z9 x
 |_=>false
def Xd:Ey->Bool
 | .str _=>true
 |_=>false
def Xf:Ey->Bool
 | .tuple [l,n]=>kW l&&Xd n
 |_=>false
mutual
def small:Ey->Bool
 | .str x=>decide (x.length<=1000)
 | .list ds=>decide (ds.length<=1000)&&yL ds
 | .tuple ds=>decide (ds.length<=1000)&&yL ds
 |_=>true
def yL:Df->Bool
 |[]=>true
 |d::ds=>small d&&yL ds
end
theorem xO:∀{ds:Df} {i:Nat} {d:Ey},yL ds=true->ds[i]?=some d->small d=true
 |[],_,_,_,h=>by cases h
 |e::ds,0,d,h,q=>by
  have h:(small e&&yL ds)=true:=h;have q:e=d:=Option.some.inj q;rw[Zw]at h;rw[<-q];exact h.1
 |e::ds,i+1,d,h,q=>by
  have h:(small e&&yL ds)=true:=h;rw[Zw]at h;exact xO h.2 (by simpa using q)
theorem jJ {ds:Df}(h:small (.tuple ds)=true):ds.length<=1000/\yL ds=true:=by
 have h:(decide (ds.length<=1000)&&yL ds)=true:=h;rw[Zw]at h;exact⟨ZI h.1,h.2⟩
theorem PJ (a c:Nat):[a]<[c]↔a<c:=by
 rw[YG];constructor
 .rintro(h|⟨_,h⟩)
  .exact h
  .exact absurd h (by simp)
 .exact .inl
theorem Fc {p q:Prop} [Decidable p] [Decidable q](h:¬p↔q):(!decide p)=decide q:=by
 by_cases b:p
 .rw[Zq b,ZE<|λz=>h.mpr z b];rfl
 .rw[ZE b,Zq<|h.mp b];rfl
theorem Py (c a:Nat)(x:Str)(b:x.cps.toList=[a]):(!decide ((⟨#[c]⟩:Str).cps.toList<x.cps.toList))=decide (a<=c):=by
 rw[b];exact Fc (by show¬[c]<[a]↔_;rw[PJ];lia)
theorem one_le (c a:Nat)(x:Str)(b:x.cps.toList=[a]):(!decide (x.cps.toList<(⟨#[c]⟩:Str).cps.toList))=decide (c<=a):=by
 rw[b];exact Fc (by show¬[a]<[c]↔_;rw[PJ];lia)
def RH:Sp:=λb H Q _=>∃c:Nat,b=[.str ⟨#[c]⟩]/\Q (.bl<|UQ c) H
def BH (K:Cq):Sp:=λc H Q _=>∃(d:Ey) (v:V),c=[v]/\Dw K H d v/\small d=true/\∀b,zx H b->Q (.bl<|UZ d) b
def BB (K:Cq):Sp:=λc H Q _=>∃(d:Ey) (v:V),c=[v]/\Dw K H d v/\small d=true/\∀b,zx H b->Q (.bl<|jE d) b
def X2 (K:Cq):Sp:=λc H Q _=>∃(d:Ey) (v:V),c=[v]/\Dw K H d v/\small d=true/\∀b,zx H b->Q (.bl<|kW d) b
def Tw (K:Cq):Sp:=λc H Q _=>∃(d:Ey) (v:V),c=[v]/\Dw K H d v/\small d=true/\∀b,zx H b->Q (.bl<|Xf d) b
theorem xE {b:Type}{l:List b}{f:b->Bool}{i:Nat}{c:b}(h:l[i]?=some c):(l.take<|i+1).map f=(l.take i).map f++[f c]:=by
 rw[Yi,h,Zx];rfl
theorem O3 {x:Str}{i c:Nat}(h:x.cps[i]?=some c):(cs x)[i]?=some c:=by rw[<-h];simp
theorem all_map (l:List α)(f:α->Bool):(l.map f).all id=l.all f:=by
 rw[List.all_map];rfl
mutual
def uS:Ey->Bool
 | .list _=>false
 | .dict _=>false
 | .tuple ds=>qJ ds
 |_=>true
def qJ:Df->Bool
 |[]=>true
 |d::ds=>uS d&&qJ ds
end
mutual
def xJ:Ey->Bool
 | .dict _=>false
 | .list ds=>xW ds
 | .tuple ds=>xW ds
 |_=>true
def xW:Df->Bool
 |[]=>true
 |d::ds=>xJ d&&xW ds
end
mutual
theorem O9:∀d:Ey,uS d=true->EM d d=true
 | .none,_=>rfl
 | .bool b,_=>by cases b<;>rfl
 | .int i,_=>by show(i==i)=true;exact Vc i
 | .str x,_=>by show(x==x)=true;exact Vc x
 | .list _,t=>by cases t
 | .tuple ds,t=>Xy ds t
 | .dict _,t=>by cases t
theorem Xy:∀ds:Df,qJ ds=true->E5 ds ds=true
 |[],_=>rfl
 |d::ds,t=>by
  have t:(uS d&&qJ ds)=true:=t;rw[Zw]at t;show(EM d d&&E5 ds ds)=true;rw[O9 d t.1,Xy ds t.2];rfl
end
theorem GV {d:Ey}(h1:d.canLay0=true)(b:d.depth<=60):EW d=true:=by
 show(PyData.canLay0 d&&decide (PyData.depth d<=64))=true;rw[h1,Zq<|by lia];rfl
theorem TM {xs:Dj}{n:Nat}{i:Int}{v:V}(e:i=(n:Int))(h:xs[n]?=some v):CO xs i=some v:=by
 subst e;exact yA h
structure En where
 h:Str
 n:Nat
 d:Ey
abbrev Di:=List En
def dot:Str:=⟨#[46]⟩
theorem O7:(".":Str)=dot:=by decide+kernel
def En.nm (e:En):Str:=e.h++dot++UR e.n
def ye (S:Di)(h:Str):Option Nat:=S.foldl (λb e=>if e.h=h then some (max (b.getD 0)<|e.n+1) else b) none
theorem XQ (S:Di)(e:En)(h:Str):ye (S++[e]) h=if e.h=h then some (max ((ye S h).getD 0)<|e.n+1) else ye S h:=by
 unfold ye;rw[Jy];rfl
structure mU (e:En):Prop where
 key:Xr e.d
 free:46∉cs e.h
 num:e.n<1000000
 hl:e.h.length<=100
structure uy (S:Di):Prop where
 ent:∀e∈S,mU e
 nd:(S.map (·.d)).Nodup
 nn:(S.map En.nm).Nodup
 len:S.length<=2000
theorem uy.nil:uy []:=⟨λ_ h=>(nomatch h),YL,YL,Yb _⟩
theorem uy.snoc (g:uy S)(h:mU e)(h1:e.d∉S.map (·.d))(b:e.nm∉S.map En.nm)(c:S.length<2000):uy (S++[e]) :=
 ⟨jH g.ent h,by rw[Zx];exact jM g.nd h1,by rw[Zx];exact jM g.nn b,by rw[ZB,Y8];lia⟩
def Off (fp:Dd)(H H':Hp):Prop:=∀b o,b∉fp->H b=some o->H' b=some o
theorem Off.refl (fp:Dd)(H:Hp):Off fp H H:=λ_ _ _ h=>h
theorem Off.trans (a:Off fp H H1)(b:Off fp H1 H2):Off fp H H2:=λc o n h=>b c o n<|a c o n h
theorem Off.of (s:zx H H'):Off fp H H':=λb o _ h=>s b o h
theorem Off.upd {a:Eo}{o:HO}(h:Off fp H H')(m:a∈fp):Off fp H (L2.upd H' a o):=λb u n e=>by
 have ne:b≠a:=λz=>n (by rwa[z]);rw[zI ne];exact h b u n e
def N9 (b d2 c:Eo):List (Str×V):=[("thing_by_name",.ref b),("name_by_thing",.ref d2),("next_numbers",.ref c)]
def nG (H:Hp)(fp:Dd):Prop:=∀b∈fp,∃o,H b=some o/\(∀c,o≠.tup c)/\(∀c,o≠.lst c)/\∀u v,o≠.frz u v
structure yo (P:Er)(w:Eu)(K:Cq)(C:Eo)(H:Hp)(a:Eo)(fp:Dd)(S:Di):Prop where
 good:uy S
 at_:∃(dx d1 d2 d3:Eo) (ts:Dd) (nx:Dl),fp=[a,dx,d1,d2,d3]/\(fp).Nodup/\H a=some (.ins C dx<|N9 d1 d2 d3)/\H dx=some (.own a)/\ts.length=S.length /\
  H d1=some (.dK<|(S.zip ts).map λe=>((ED e.1.nm:Key),V.ref e.2))/\nu P w K H d2 (S.map λe=>(e.d,V.str e.nm)) /\
  H d3=some (.dK nx)/\nx.length<=S.length/\(∀h,UE nx (ED h:Key)=(ye S h).map λn:Nat=>V.int (n:Int)) /\
  ∀(i:Nat) (e:En) (t:Eo),S[i]?=some e->ts[i]?=some t->Dt K H e.d (.ref t)
theorem xG {H:Hp}{b:Eo}{o:HO}(h:H b=some o)(h1:∀xs,o≠.tup xs)(c:∀u v,o≠.frz u v):∀xs,¬Rd H b (.tup xs):=λxs z=>by
 rcases z with z|⟨u,z⟩
 .rw[h]at z;exact h1 xs<|Option.some.inj z
 .rw[h]at z;exact c u _<|Option.some.inj z
mutual
theorem Dt.off {K:Cq}{fp:Dd}(n:∀b∈fp,∀xs,¬Rd H b (.tup xs))(o:Off fp H H'):∀(k:Ey) (v:V),U0 k=true->Dt K H k v->Dt K H' k v
 | .str x,_,_,h=>h
 | .tuple ds,_,t,⟨a,xs,h1,c,h3⟩=>by
  refine⟨a,xs,h1,?_,zu.off n o ds xs t h3⟩
  rcases c with c|c
  .have ne:a∉fp:=λz=>n a z xs c
   rcases c with c|⟨u,c⟩
   .exact .inl (.inl<|o a _ ne c)
   .exact .inl (.inr ⟨u,o a _ ne c⟩)
  .exact .inr c
 | .none,_,_,h=>h
 | .bool _,_,t,_=>by cases t
 | .int _,_,t,_=>by cases t
 | .list _,_,t,_=>by cases t
 | .dict _,_,t,_=>by cases t
theorem zu.off {K:Cq}{fp:Dd}(n:∀b∈fp,∀xs,¬Rd H b (.tup xs))(o:Off fp H H'):∀(ks:Df) (vs:Dj),xB ks=true->zu K H ks vs->zu K H' ks vs
 |[],_,_,h=>h
 |k::ks,_,t,⟨x,r,h1,h2,h3⟩=>by
  have t:(U0 k&&xB ks)=true:=t;rw[Zw]at t;exact⟨x,r,h1,Dt.off n o k x t.1 h2,zu.off n o ks r t.2 h3⟩
end
theorem nu.off {K:Cq}{fp:Dd}{d:Eo}(n:∀b∈fp,∀xs,¬Rd H b (.tup xs))(o:Off fp H H')(e:H' d=H d)(T:nu P w K H d ps):nu P w K H' d ps:=by
 obtain⟨hl,hk,nd,xs,f,r⟩:=T;refine⟨hl,hk,nd,xs,by rw[e];exact f,?_⟩;have key:∀{ps:List (Ey×V)} {xs:List (Ey×Eo×Ep)},(∀p∈ps,Xr p.1)->Lq (wN K H) ps xs->Lq (wN K H') ps xs:=by
  intro ps xs c r
  induction r with
  |nil=>exact .nil
  |cons r1 _ ih=>exact .cons ⟨r1.1,Dt.off n o _ _ (c _ Zs).1 r1.2.1,r1.2.2⟩<|ih λp g=>c p<|Zn _ g
 exact key hk r
theorem yo.off {K:Cq}{fp gp:Dd}(n:∀b∈gp,∀xs,¬Rd H b (.tup xs))(o:Off gp H H')(r:∀b∈fp,b∉gp)(h:yo P w K C H a fp S):yo P w K C H' a fp S:=by
 obtain⟨g,j,c,d,f,D,nx,rfl,nd,h1,s,v,h4,p,x,y,z,A⟩:=h;have k:∀b u,b∈[a,j,c,d,f]->H b=some u->H' b=some u:=λb u m e=>o b u (r b m) e;obtain⟨xs,l,_⟩:=p.2.2.2;refine⟨g,j,c,d,f,D,nx,rfl,nd,k _ _ (by simp) h1,k _ _ (by simp) s,v,k _ _ (by simp) h4,nu.off n o ?_ p,k _ _ (by simp) x,y,z,λi e t q B=>Dt.off n o _ _ (g.ent e<|ZG q).key.1<|A i e t q B⟩;rw[l];exact k _ _ (by simp) l
theorem yo.same {K:Cq}(s:zx H H')(h:yo P w K C H a fp S):yo P w K C H' a fp S :=
 h.off (gp:=[]) (λb m=>(nomatch m)) (Off.of s) (λb _=>by simp)
theorem yo.wA {K:Cq}(h:yo P w K C H a fp S):nG H fp:=by
 obtain⟨g,n,i,j,l,s,nx,rfl,nd,h1,d,o,h4,e,f,p,q,r⟩:=h;obtain⟨t,c,_⟩:=e.2.2.2;intro b m;simp only[Zo,ZD,Ye]at m
 rcases m with rfl|rfl|rfl|rfl|rfl
 .exact⟨_,h1,λ_ z=>(nomatch z),λ_ z=>(nomatch z),λ_ _ z=>(nomatch z)⟩
 .exact⟨_,d,λ_ z=>(nomatch z),λ_ z=>(nomatch z),λ_ _ z=>(nomatch z)⟩
 .exact⟨_,h4,λ_ z=>(nomatch z),λ_ z=>(nomatch z),λ_ _ z=>(nomatch z)⟩
 .exact⟨_,c,λ_ z=>(nomatch z),λ_ z=>(nomatch z),λ_ _ z=>(nomatch z)⟩
 .exact⟨_,f,λ_ z=>(nomatch z),λ_ z=>(nomatch z),λ_ _ z=>(nomatch z)⟩
theorem nG.tup (h:nG H fp):∀b∈fp,∀xs,¬Rd H b (.tup xs):=λb m xs=>by
 obtain⟨o,e,n1,_,n2⟩:=h b m;exact xG e n1 n2 xs
theorem jV {κ:Type} [DecidableEq κ]{Dm:List (κ×V)}{k:κ}{v:V}(h:k∉Dm.map (·.1)):yt Dm k v=Dm++[(k,v)]:=by
 unfold yt;rw[ZH];intro z;obtain⟨kv,hm,e⟩:=Z8.mp z;exact h<|Zr.mpr ⟨kv,hm,ZI e⟩
theorem uV {κ:Type} [DecidableEq κ]:∀{Dm:List (κ×V)} {k:κ} {v:V},(Dm.map (·.1)).Nodup->(k,v)∈Dm->UE Dm k=some v
 |[],_,_,_,h=>(nomatch h)
 |p::r,k,v,nd,h=>by
  rw[ZL,ZY]at nd;unfold UE;rw[YN]
  rcases Zo.mp h with e|h
  .subst e;rw[Zq<|show((k,v):κ×V).1=k from rfl];rfl
  .rw[ZE<|show¬p.1=k from λz=>nd.1<|Zr.mpr ⟨(k,v),h,z.symm⟩];exact uV nd.2 h
theorem PX (e:En):cs e.nm=cs e.h++46::cs (UR e.n):=by
 unfold En.nm;rw[zm,zm];show cs e.h++[46]++cs (UR e.n)=_;simp
theorem P0 (h:UR m=UR n):m=n:=by
 have b:cs (UR m)=cs (UR n):=by rw[h]
 have h1:=VQ m;have d:=VQ n;have c:=PySem.W.KIN.val_back m;have h4:=PySem.W.KIN.val_back n;rw[<-h1]at c;rw[<-d]at h4;have b:(EZ<|E7 ((m:Nat):Int)).cps.toList=(EZ<|E7 ((n:Nat):Int)).cps.toList:=b;rw[b]at c;exact c.symm.trans h4
theorem NN:∀{a b r s:List Nat},¬(46∈a)->¬(46∈b)->a++46::r=b++46::s->a=b/\r=s
 |[],[],r,s,_,_,h=>⟨rfl,by injection h⟩
 |[],y::b,r,s,_,hb,h=>by
  injection h with h1 c;exact absurd (by rw[<-h1];exact Zs) hb
 |x::a,[],r,s,ha,_,h=>by
  injection h with h1 c;exact absurd (by rw[h1];exact Zs) ha
 |x::a,y::b,r,s,ha,hb,h=>by
  injection h with h1 c;obtain⟨d,e⟩:=NN (λz=>ha<|Zn _ z) (λz=>hb<|Zn _ z) c;exact⟨by rw[h1,d],e⟩
theorem Wm {e f:En}(he:46∉cs e.h)(c:46∉cs f.h)(h:e.nm=f.nm):e.h=f.h/\e.n=f.n:=by
 have:=congrArg cs h;rw[PX,PX]at this;obtain⟨h1,b⟩:=NN he c this;exact⟨xj h1,P0<|xj b⟩
theorem Sn:∀{S:Di} {e:En},e∈S->e.n<(ye S e.h).getD 0:=by
 have key:∀(S:Di) (b:Option Nat) (h:Str),b.getD 0<=(S.foldl (λb e=>if e.h=h then some (max (b.getD 0)<|e.n+1) else b) b).getD 0/\∀e∈S,e.h=h->e.n<(S.foldl (λb e=>if e.h=h then some (max (b.getD 0)<|e.n+1) else b) b).getD 0:=by
  intro S
  induction S with
  |nil=>intro b h;exact⟨Zt _,λe he=>(nomatch he)⟩
  |cons f S ih =>
   intro b h;rw[JW];obtain⟨d,g⟩:=ih (if f.h=h then some (max (b.getD 0)<|f.n+1) else b) h;have mono:b.getD 0<=(if f.h=h then some (max (b.getD 0)<|f.n+1) else b).getD 0:=by
    split
    .exact Nat.le_max_left _ _
    .exact Zt _
   refine⟨Yk mono d,λe he c=>?_⟩
   rcases Zo.mp he with rfl|he
   .rw[ZK c]at d ⊢;have:e.n+1<=(some<|max (b.getD 0)<|e.n+1).getD 0:=Nat.le_max_right _ _;lia
   .exact g e he c
 intro S e he;exact(key S none e.h).2 e he rfl
theorem PV (g:uy S){h:Str}{d:Ey}(c:46∉cs h):(En.mk h ((ye S h).getD 0) d).nm∉S.map En.nm:=λz=>by
 obtain⟨e,he,q⟩:=Zr.mp z;obtain⟨h1,b⟩:=Wm (g.ent e he).free c q;have:=Sn he;have h1:e.h=h:=h1;have b:e.n=(ye S h).getD 0:=b;rw[h1]at this;lia
def dig (n:Nat):Str:=EZ<|E7 ((n:Nat):Int)
def enc (p:Str):List Nat:=cs (dig p.length)++58::cs p
inductive Th where
 |leaf (ls:Da)
 |tree (Do:Dg)
 |note (t:Str) (ps:Da) (w:Str)
def yH:Dg->Da
 |[]=>[]
 |r::rs=>r.1::r.2::yH rs
theorem j3:∀(a b:Dg),yH (a++b)=yH a++yH b
 |[],_=>rfl
 |(x,y)::a,b=>by
  show x::y::yH (a++b)=x::y::(yH a++yH b);rw[j3 a b]
def Th.word:Th->Str
 | .leaf _=>"leaf"|.tree _=>"tree"|.note _ _ _=>"note"
def Th.letter:Th->Str
 | .leaf _=>"L"|.tree _=>"T"|.note _ _ _=>"N"
def Th.parts:Th->Da
 | .leaf ls=>ls
 | .tree Do=>yH Do
 | .note t ps w=>[t,dig ps.length]++ps++[w]
def counted (p:Str):Str:=dig p.length++":"++p
def more (x p:Str):Str:=x++dig p.length++":"++p
def Th.sp (t:Th):Str:=t.parts.foldl more t.letter
theorem Fy:cs (":":Str)=[58]:=by decide+kernel
theorem Ku (p:Str):cs (counted p)=enc p:=by
 unfold counted enc;rw[zm,zm,Fy];simp
theorem R8 (x p:Str):cs (more x p)=cs x++enc p:=by
 unfold more enc;rw[zm,zm,zm,Fy];simp
theorem Fz:∀(ps:Da) (x:Str),cs (ps.foldl more x)=cs x++ps.flatMap enc
 |[],x=>by simp
 |p::ps,x=>by
  rw[JW,Fz ps,R8,Jg,YC]
theorem ae (t:Th):cs t.sp=cs t.letter++t.parts.flatMap enc:=Fz _ _
theorem ba (t:Th):t.letter++Lu "" (t.parts.map counted)=t.sp:=by
 apply xj
 rw[zm,ae];have e:cs (Lu ""<|t.parts.map counted)=t.parts.flatMap enc:=by
  show cs (Builtin.Str.glued ""<|t.parts.map counted)=_;rw[Lm];rw[uR,List.flatMap_map]
  congr 1
  funext p
  exact Ku p
 rw[e]
theorem k8 (t:Th):cs t.letter=[match t with|.leaf _=>76|.tree _=>84|.note _ _ _=>78]:=by
 cases t
 .show cs ("L":Str)=[76]
  decide+kernel
 .show cs ("T":Str)=[84]
  decide+kernel
 .show cs ("N":Str)=[78]
  decide+kernel
def CB (n:Int)(c:Nat):Int:=(31*n+c) % 97
def dg (x:Str):Int:=(cs x).foldl CB 0
def zj (r:Str×Str):PyData:=.tuple [.str r.1,.str r.2]
def Th.dat:Th->Ey
 | .leaf ls=>.tuple [.str "leaf",.tuple<|ls.map .str]
 | .tree Do=>.tuple [.str "tree",.tuple<|Do.map zj]
 | .note t ps w=>.tuple [.str "note",.str t,.tuple<|ps.map .str,.str w]
theorem FF:∀(a b:Dg),E5 (a.map zj) (b.map zj)=decide (a=b)
 |[],[]=>rfl
 |[],_::_=>rfl
 |_::_,[]=>rfl
 |(x,y)::a,(z,w)::b=>by
  show(((x==z)&&((y==w)&&true))&&E5 (a.map zj) (b.map zj))=_;rw[FF a b,Yx];simp[and_assoc]
theorem kH {x y:Str}{xs b:Df}(h:(x==y)=false):EM (.tuple (.str x::xs)) (.tuple (.str y::b))=false:=by
 show((x==y)&&E5 xs b)=false;rw[h];rfl
theorem Nf (a b:Th):EM a.dat b.dat=true↔a=b:=by
 have c:(("leaf":Str)=="tree")=false:=by decide+kernel
 have d:(("leaf":Str)=="note")=false:=by decide+kernel
 have e:(("tree":Str)=="leaf")=false:=by decide+kernel
 have f:(("tree":Str)=="note")=false:=by decide+kernel
 have g:(("note":Str)=="leaf")=false:=by decide+kernel
 have i:(("note":Str)=="tree")=false:=by decide+kernel
 cases a with
 |leaf ls =>
  cases b with
  |leaf ms =>
   show((("leaf":Str)=="leaf")&&(E5 (ls.map .str) (ms.map .str)&&true))=true↔_;rw[qF];simp
  |tree _ =>
   exact VJ (λz=>absurd ((kH c).symm.trans z) Z3) (λz=>by cases z)
  |note _ _ _ =>
   exact VJ (λz=>absurd ((kH d).symm.trans z) Z3) (λz=>by cases z)
 |tree rs =>
  cases b with
  |leaf ms =>
   exact VJ (λz=>absurd ((kH e).symm.trans z) Z3) (λz=>by cases z)
  |tree qs =>
   show((("tree":Str)=="tree")&&(E5 (rs.map zj) (qs.map zj)&&true))=true↔_;rw[FF];simp
  |note _ _ _ =>
   exact VJ (λz=>absurd ((kH f).symm.trans z) Z3) (λz=>by cases z)
 |note t ps w =>
  cases b with
  |leaf ms =>
   exact VJ (λz=>absurd ((kH g).symm.trans z) Z3) (λz=>by cases z)
  |tree qs =>
   exact VJ (λz=>absurd ((kH i).symm.trans z) Z3) (λz=>by cases z)
  |note t' ps' w' =>
   show((("note":Str)=="note")&&((t==t')&&(E5 (ps.map .str) (ps'.map .str)&&((w==w')&&true))))=true↔_;rw[qF];simp
def Th.Good (t:Th):Prop:=t.parts.length<=1000/\∀p∈t.parts,Ok 1000 p
theorem Iz (x:Str):0<=dg x/\dg x<97:=by
 unfold dg;have:∀(l:List Nat) (n:Int),(0<=n/\n<97)->0<=l.foldl CB n/\l.foldl CB n<97:=by
  intro l
  induction l with
  |nil=>intro n h;exact h
  |cons c l ih =>
   intro n _;rw[JW];refine ih _ ?_;unfold CB;lia
 exact this _ 0 ⟨by decide,by decide⟩
theorem P1 (x:Str):EZ (E7<|dg x)=UR (dg x).toNat:=by
 unfold UR;rw[Int.toNat_of_nonneg (Iz x).1]
theorem Hi {n:Nat}(h:n<97):(UR n).length<=10:=JD (by lia) (by decide) (by
 have:n<10 ^ 9:=by lia
 lia)
theorem Tj (x:Str)(n:Nat):cs (LL x none<|some (n:Int))=(cs x).take n:=by
 by_cases h:n<=x.length
 .have e:=Va (VZ (x:=x) (j:=(n:Int)) (by lia)<|by lia);rw[e];show((x.cps.toList.drop (0:Int).toNat).take ((n:Int)-0).toNat).toArray.toList=_;simp[cs]
 .have e:=Va (VZ (x:=x) (j:=(x.length:Int)) (by lia)<|by lia);rw[PyProof.Rows.slice_to_beyond<|by lia,e];have hl:(cs x).length<=n:=by rw[<-zf];lia
  rw[JS hl];show((x.cps.toList.drop (0:Int).toNat).take ((x.length:Int)-0).toNat).toArray.toList=_;have:((x.length:Int)-0).toNat=x.cps.toList.length:=by simp[Str.length]
  rw[this];show(x.cps.toList.take x.cps.toList.length)=cs x;rw[ZV]
theorem snoc_ind {b:Type}{p:List b->Prop}(h0:p [])(h1:∀l x,p l->p (l++[x]))(l:List b):p l:=by
 have:∀l:List b,p l.reverse:=by
  intro l
  induction l with
  |nil=>exact h0
  |cons x l ih=>rw[List.reverse_cons];exact h1 _ _ ih
 have:=this l.reverse
 rwa[List.reverse_reverse]at this
theorem lB (S:Di)(h:Str):(ye S h).getD 0=0\/∃e∈S,e.h=h/\e.n+1=(ye S h).getD 0:=by
 induction S using snoc_ind with
 |h0=>exact .inl rfl
 |h1 S e ih =>
  rw[XQ]
  by_cases q:e.h=h
  .rw[ZK q];show max ((ye S h).getD 0) (e.n+1)=0\/_
   rcases Nat.le_total ((ye S h).getD 0) (e.n+1) with z|z
   .exact .inr ⟨e,by simp,q,(Nat.max_eq_right z).symm⟩
   .have d:max ((ye S h).getD 0) (e.n+1)=(ye S h).getD 0:=Nat.max_eq_left z
    rcases ih with i|⟨f,c,h1,b⟩
    .exact .inl (d.trans i)
    .exact .inr ⟨f,by simp[c],h1,b.trans d.symm⟩
  .rw[ZH q]
   rcases ih with i|⟨f,c,h1,b⟩
   .exact .inl i
   .exact .inr ⟨f,by simp[c],h1,b⟩
theorem Nu {S:Di}(b:∀e∈S,e.n<S.length)(h:Str):(ye S h).getD 0<=S.length:=by
 rcases lB S h with i|⟨f,c,_,d⟩
 .lia
 .have:=b f c;lia
theorem IP (n:Nat):Ew (UR n)=true:=by
 rw[yX];intro c hc;have hc:c∈(EZ<|E7 ((n:Nat):Int)).cps.toList:=hc;rw[VQ]at hc;obtain⟨d,hd,rfl⟩:=Zr.mp hc;show d.val.toNat<1114112
 rcases d.valid with h|⟨_,h⟩
 .exact Nat.lt_trans h (by decide)
 .exact h
theorem KU {x y:Str}(h1:Ew x=true)(b:Ew y=true):Ew (x++y)=true:=by
 rw[yX]at *;intro c hc;rw[zm,ZR]at hc;exact hc.elim (h1 c)<|b c
theorem OS (xs:Da)(x:Str):(xs.map EQ).any (λy=>EM y<|.str x)=decide (x∈xs):=by
 induction xs with
 |nil=>rfl
 |cons y xs ih =>
  show((y==x)||(xs.map EQ).any (λy=>EM y<|.str x))=_;rw[ih,Yx,Uy,ZN,ZN,Zo,JB];exact⟨λh=>h.elim (λz=>.inl z.symm) .inr,λh=>h.elim (λz=>.inl z.symm) .inr⟩
theorem Wl {S:Di}(nd:(S.map (·.d)).Nodup){e f:En}(he:e∈S)(j:f∈S)(h:e.d=f.d):e=f:=by
 induction S with
 |nil=>cases he
 |cons x S ih =>
  rw[ZL,ZY]at nd
  rcases Zo.mp he with i|c
  .rcases Zo.mp j with g|b
   .rw[i,g]
   .exact absurd (Zr.mpr ⟨f,b,by rw[<-i];exact h.symm⟩) nd.1
  .rcases Zo.mp j with g|b
   .exact absurd (Zr.mpr ⟨e,c,by rw[<-g];exact h⟩) nd.1
   .exact ih nd.2 c b
def Ex (H:Hp)(X:Dd):Prop:=∀c∈X,∃o,H c=some o
theorem Ex.not {c:Eo}(h:Ex H X)(n:H c=none):c∉X:=λz=>by
 obtain⟨o,e⟩:=h c z;rw[n]at e;cases e
section
variable {P:Er}{w:Eu}{K:Cq}{C:Eo}{H H' H0:Hp}{S:Di}
theorem yo.ex (h:yo P w K C H a fp S):Ex H fp:=λc hc=>by
 obtain⟨o,e,_⟩:=h.wA c hc;exact⟨o,e⟩
theorem yo.nodup (h:yo P w K C H a fp S):fp.Nodup:=by
 obtain⟨_,_,_,_,_,_,_,_,nd,_⟩:=h;exact nd
end
theorem ID {b:Type}{l:List b}{i:Nat}{x:b}(nd:l.Nodup)(h:l[i]?=some x):x∉l.take i:=λz=>by
 obtain⟨j,f,e⟩:=Z4.mp z;rw[ZS]at f;rw[List.getElem_take]at e;obtain⟨d,c⟩:=ZJ.mp h;exact Jx.mp nd j i (by lia) d (by lia)<|e.trans c.symm
def UP (t:Th):Str:=t.letter++UR (dg t.sp).toNat
def GL (S:Di)(t:Th):En:=⟨UP t,(ye S<|UP t).getD 0,t.dat⟩
theorem Gf (t:Th):t.letter.length=1:=by rw[zf,k8];rfl
theorem FX (t:Th):46∉cs t.letter:=by
 rw[k8];cases t
 .show 46∉[76];decide
 .show 46∉[84];decide
 .show 46∉[78];decide
theorem kD (t:Th):46∉cs (UP t):=by
 unfold UP;rw[zm,ZR,Vr];exact⟨FX t,λh=>(PyProof.Rows.intText_free_46 _).mp h⟩
theorem uK (t:Th):(UP t).length<=100:=by
 unfold UP;have h1:=Hi (n:=(dg t.sp).toNat) (by have:=Iz t.sp;lia);rw[yr,Gf];lia
theorem Oo (t:Th):Ew t.letter=true:=by
 rw[yX,k8];intro c hc;rw[Zl.mp hc];cases t
 .show 76<1114112;decide
 .show 84<1114112;decide
 .show 78<1114112;decide
theorem IT:∀{ls:Da},(∀l∈ls,Ew l=true)->xB (ls.map .str)=true/\qE (ls.map .str)=0
 |[],_=>⟨rfl,rfl⟩
 |l::ls,h=>by
  obtain⟨h1,b⟩:=IT λx c=>h x<|Zn _ c;refine⟨?_,?_⟩
  .show(Ew l&&xB (ls.map .str))=true;rw[h l Zs,h1];rfl
  .show max 0 (qE<|ls.map .str)=0;rw[b];rfl
theorem Kf:∀{rs:Dg},(∀p∈yH rs,Ew p=true)->xB (rs.map zj)=true/\qE (rs.map zj)<=1
 |[],_=>⟨rfl,Yb _⟩
 |(x,y)::rs,h=>by
  obtain⟨h1,c⟩:=Kf (rs:=rs) λp b=>h p<|Zn _<|Zn _ b;refine⟨?_,?_⟩
  .show((Ew x&&(Ew y&&true))&&xB (rs.map zj))=true;rw[h x Zs,h y<|Zn _ Zs,h1];rfl
  .show max (max 0 (max 0 0)+1) (qE<|rs.map zj)<=1;lia
theorem BC {t:Th}(g:t.Good):Xr t.dat:=by
 have b:∀p∈t.parts,Ew p=true:=λp d=>(g.2 p d).ok;cases t with
 |leaf ls =>
  obtain⟨h1,c⟩:=IT (ls:=ls) b;refine⟨?_,?_⟩
  .show(Ew "leaf"&&(xB (ls.map .str)&&true))=true;rw[h1];decide+kernel
  .show max 0 (max (qE (ls.map .str)+1) 0)+1<=6;rw[c];decide
 |tree rs =>
  obtain⟨h1,c⟩:=Kf (rs:=rs) b;refine⟨?_,?_⟩
  .show(Ew "tree"&&(xB (rs.map zj)&&true))=true;rw[h1];decide+kernel
  .show max 0 (max (qE (rs.map zj)+1) 0)+1<=6;lia
 |note x ps y =>
  have p1:∀p∈ps,Ew p=true:=λp d=>b p (by show p∈[x,dig ps.length]++ps++[y];simp[d]);have p2:Ew x=true:=b x (by show x∈[x,dig ps.length]++ps++[y];simp);have p3:Ew y=true:=b y (by show y∈[x,dig ps.length]++ps++[y];simp);obtain⟨h1,c⟩:=IT p1;refine⟨?_,?_⟩
  .show(Ew "note"&&(Ew x&&(xB (ps.map .str)&&(Ew y&&true))))=true;rw[h1,p2,p3];decide+kernel
  .show max 0 (max 0<|max (qE (ps.map .str)+1)<|max 0 0)+1<=6;rw[c];decide
theorem Na {a b:Th}(h:a.dat=b.dat):a=b:=(Nf a b).mp (by
 rw[h];exact(Nf b b).mpr rfl)
def U2 (e:En):Prop:=∃t:Th,e.d=t.dat/\t.Good/\e.h=UP t
def NT (e:En):Str:=match e.d with|.tuple (.str x::_)=>x|_=>""
theorem RU (t:Th)(h:Str)(n:Nat):NT ⟨h,n,t.dat⟩=t.word:=by cases t<;>rfl
theorem j7 {e:En}{t:Th}(h:e.d=t.dat):NT e=t.word:=by
 obtain⟨a,b,c⟩:=e;have h:c=t.dat:=h;subst h;exact RU t a b
def zW (S:Di)(x:Str)(b:Da):Bool:=S.any λe=>decide (e.nm=x)&&decide (NT e∈b)
def namesOk (S:Di):Th->Bool
 | .leaf _=>true
 | .tree Do=>Do.all λr=>zW S r.2 ["leaf","tree"]
 | .note t ps _=>zW S t ["tree"]&&ps.all λp=>zW S p ["note"]
theorem vY (g:uy S){e:En}(he:e∈S)(l:Da):zW S e.nm l=decide (NT e∈l):=by
 unfold zW;rw[Yx,Z8,ZN];constructor
 .rintro⟨f,n,h⟩;rw[Zw,ZN,ZN]at h;obtain⟨i,o,b⟩:=Z4.mp he;obtain⟨j,p,c⟩:=Z4.mp n;have:i=j:=by
   have d:=Jx.mp g.nn
   rcases VH i j with z|z|z
   .exact absurd (by rw[Z9,Z9,b,c];exact h.1.symm) (d i j (by rwa[Zk]) (by rwa[Zk]) z)
   .exact z
   .exact absurd (by rw[Z9,Z9,b,c];exact h.1) (d j i (by rwa[Zk]) (by rwa[Zk]) z)
  subst this;rw[<-b,c];exact h.2
 .intro h;exact⟨e,he,by rw[Zq rfl,Zq h];rfl⟩
theorem FN {S:Di}{x:Str}(h:x∉S.map En.nm)(b:Da):zW S x b=false:=by
 unfold zW;rw[Ug];intro e he z;rw[Zw,ZN]at z;exact h<|Zr.mpr ⟨e,he,z.1⟩
theorem Xp {T:Di}(h:zW S x ws=true):zW (S++T) x ws=true:=by
 unfold zW at *;rw[List.any_append,h];rfl
def WJ:Str:=⟨#[47]⟩
theorem XI:("/":Str)=WJ:=by decide+kernel
def jn:List (List Nat)->List Nat
 |[]=>[]
 |[x]=>x
 |x::y::r=>x++47::jn (y::r)
def CL:List Nat->List (List Nat)
 |[]=>[[]]
 |c::r=>if c=47 then[]::CL r else match CL r with
  |[]=>[[c]]
  |p::ps=>(c::p)::ps
theorem Xw:∀l,CL l≠[]
 |[]=>by simp[CL]
 |c::r=>by
  unfold CL
  split
  .simp
  .split<;>simp
theorem X9 {x:List Nat}{r:List (List Nat)}(h:r≠[]):jn (x::r)=x++47::jn r:=by
 cases r with
 |nil=>exact absurd rfl h
 |cons y r=>rfl
theorem Ip:∀l,jn (CL l)=l
 |[]=>rfl
 |c::r=>by
  have b:=Ip r;unfold CL
  split
  .rename_i e;rw[X9<|Xw r,b,e];rfl
  .cases q:CL r with
   |nil=>exact absurd q<|Xw r
   |cons p ps =>
    rw[q]at b;cases ps with
    |nil=>show c::p=_;rw[show p=r from b]
    |cons y ps =>
     show(c::p)++47::jn (y::ps)=_;rw[<-b];rfl
theorem Fk:∀(a b:List Nat),CL (a++47::b)=CL a++CL b
 |[],b=>by
  show(if 47=47 then[]::CL b else _)=[[]]++CL b;rw[ZK rfl];rfl
 |c::a,b=>by
  have d:=Fk a b;show CL (c::(a++47::b))=_;rw[CL,CL,d]
  split
  .rfl
  .cases q:CL a with
   |nil=>exact absurd q<|Xw a
   |cons p ps=>rfl
theorem Io:∀{p:List Nat},47∉p->CL p=[p]
 |[],_=>rfl
 |c::p,h=>by
  have b:=Io (p:=p) λz=>h<|Zn _ z;unfold CL;rw[ZH<|λz=>h (by rw[z];exact Zs),b]
theorem MQ:∀{ps:List (List Nat)},ps≠[]->(∀p∈ps,47∉p)->CL (jn ps)=ps
 |[],h,_=>absurd rfl h
 |[p],_,h=>Io<|h p Zs
 |p::q::r,_,h=>by
  rw[X9<|by simp,Fk,Io<|h p Zs,MQ (ps:=q::r) (by simp) λx b=>h x<|Zn _ b];rfl
theorem KI:∀{a b:List (List Nat)},a≠[]->b≠[]->jn (a++b)=jn a++47::jn b
 |[],_,h,_=>absurd rfl h
 |[x],b,_,hb=>X9 hb
 |x::y::r,b,_,hb=>by
  show x++47::jn ((y::r)++b)=(x++47::jn (y::r))++47::jn b;rw[KI (a:=y::r) (by simp) hb];simp
theorem Pp:∀{ps:List (List Nat)} {p:List Nat},p∈ps->p.length<=(jn ps).length
 |[],_,h=>by cases h
 |[x],p,h=>by rw[Zl.mp h];exact Zt _
 |x::y::r,p,h=>by
  show _<=(x++47::jn (y::r)).length;rw[ZB,ZF]
  rcases Zo.mp h with rfl|h
  .lia
  .have:=Pp h;lia
theorem Po:∀{ps:List (List Nat)},ps.length<=(jn ps).length+1
 |[]=>by simp
 |[x]=>by simp
 |x::y::r=>by
  show _<=(x++47::jn (y::r)).length+1;have:=Po (ps:=y::r);have b:(x++47::jn (y::r)).length=x.length+((jn (y::r)).length+1):=by rw[ZB,ZF]
  have c:(x::y::r).length=(y::r).length+1:=ZF;lia
theorem Rb {l p:List Nat}:(∃t,l=p++47::t)↔∃i,i+1<(CL l).length/\p=jn ((CL l).take<|i+1):=by
 constructor
 .rintro⟨t,rfl⟩;rw[Fk];have h1:0<(CL p).length:=Vf.mpr<|Xw p;have b:0<(CL t).length:=Vf.mpr<|Xw t;refine⟨(CL p).length-1,by rw[ZB];lia,?_⟩;rw[show(CL p).length-1+1=(CL p).length by lia,List.take_left,Ip]
 .rintro⟨i,c,rfl⟩;refine⟨jn<|(CL l).drop<|i+1,?_⟩;rw[<-KI,YW,Ip]
  .intro z;have:=congrArg List.length z;rw[ZS,Y7]at this;lia
  .intro z;have:=congrArg List.length z;rw[Jo,Y7]at this;lia
def W6 (l:List Nat):Str:=⟨l.toArray⟩
theorem mD (l:List Nat):cs (W6 l)=l:=by simp[W6,cs]
theorem jl (x:Str):W6 (cs x)=x:=xj<|mD _
theorem qQ:∀ys:Da,cs (Lu "/" ys)=jn (ys.map cs):=by
 intro ys;have e:Lu "/" ys=MI "/" ys:=Lm "/" ys;rw[e];clear e
 induction ys with
 |nil=>rfl
 |cons x r ih =>
  cases r with
  |nil=>rfl
  |cons y r =>
   show cs (x++"/"++MI "/" (y::r))=cs x++47::jn ((y::r).map cs);have:cs ("/":Str)=[47]:=by decide+kernel
   rw[zm,zm,ih,this];simp
theorem RI (x:Str):LM x "/"=(CL<|cs x).map W6:=by
 have h1:cs (MI "/"<|LM x "/")=cs x:=by rw[StrLaws.join_split]
 have e:Lu "/" (LM x "/")=MI "/" (LM x "/"):=Lm "/" _;rw[<-e,qQ]at h1;have b:LM x "/"≠[]:=by
  unfold LM
  split
  .simp
  .split
   .simp
   .unfold LG;intro z;have:=congrArg List.length z;simp at this
 have c:=MQ (ps:=(LM x "/").map cs) (by simpa using b) (λp f=>by
  obtain⟨y,d,rfl⟩:=Zr.mp f;rw[XI]at d;exact StrLaws.split_free x 47 y d)
 rw[h1]at c;rw[c,ZM];have:(W6∘cs)=(id:Str->Str):=funext jl;rw[this,Vu]
def UJ (x:Str):Da:=LM x "/"
theorem kR (x:Str):(UJ x).map cs=CL (cs x):=by
 unfold UJ;rw[RI,ZM];have:(cs∘W6)=(id:List Nat->List Nat):=funext mD;rw[this,Vu]
theorem FU {y:Str}(h:y∈UJ x):y.length<=x.length:=by
 rw[zf,zf,<-Ip (cs x),<-kR];exact Pp<|List.mem_map_of_mem h
theorem Ih (x:Str):(UJ x).length<=x.length+1:=by
 have:=Po (ps:=CL<|cs x);rw[Ip,<-kR,Zk]at this;rwa[zf]
theorem Pu (x:Str):0<(UJ x).length:=by
 have:=Vf.mpr<|Xw<|cs x;rw[<-kR,Zk]at this;exact this
theorem uP {c:Da}(h:c≠[])(g:∀y∈c,47∉cs y):UJ (Lu "/" c)=c:=by
 have:(UJ<|Lu "/" c).map cs=c.map cs:=by
  rw[kR,qQ,MQ<|by simpa using h];intro p i;obtain⟨y,j,rfl⟩:=Zr.mp i;exact g y j
 have inj:∀{a b:Da},a.map cs=b.map cs->a=b:=by
  intro a
  induction a with
  |nil =>
   intro b e;cases b with
   |nil=>rfl
   |cons _ _=>cases e
  |cons x a ih =>
   intro b e;cases b with
   |nil=>cases e
   |cons y b =>
    rw[ZL,ZL]at e;injection e with d f;rw[xj d,ih f]
 exact inj this
def Hu (x:Str):Bool:=decide ((UJ x).length<=4)&&(UJ x).all z9
def U3:Ey->Bool
 | .str x=>Hu x
 |_=>false
theorem qK (h:z9 y=true):47∉cs y:=by
 unfold z9 at h;rw[Zw]at h;intro z;exact absurd (ZQ.mp h.2 47 z) (by decide)
theorem Bi {b:Da}(h0:b≠[])(h4:b.length<=4)(h:∀y∈b,z9 y=true):Hu (Lu "/" b)=true:=by
 unfold Hu;rw[uP h0 λy c=>qK<|h y c,Zq h4,ZQ.mpr h];rfl
def Xg (x:Str):Da:=(ET<|(UJ x).length-1).map λi=>Lu "/"<|(UJ x).take<|i+1
def NA (p q:Str):Bool:=Txt.startswith q<|p++"/"
theorem NB:NA p q=true↔∃t,cs q=cs p++47::t:=by
 unfold NA Txt.startswith;rw[StrLaws.subAt_eq,Ub,Uw,Zw,Yc,JB];have e:(p++"/":Str).cps.toList=cs p++[47]:=by
  have:cs ("/":Str)=[47]:=by decide+kernel
  show cs (p++"/")=_;rw[zm,this]
 have b:(p++"/":Str).length=(cs p).length+1:=by
  rw[zf];show(cs<|p++"/").length=_;rw[show cs (p++"/")=cs p++[47] from e,ZB];rfl
 rw[e,b];constructor
 .rintro⟨h1,c⟩;refine⟨(cs q).drop<|(cs p).length+1,?_⟩;have:=YW ((cs p).length+1)<|cs q;rw[c,YC]at this;exact this.symm
 .rintro⟨t,h⟩;rw[zf,h];refine⟨by simp,?_⟩;show(cs q).take _=_;rw[h];rw[show cs p++47::t=(cs p++[47])++t by simp];rw[List.take_left'<|by simp]
theorem mQ {p:Str}:p∈Xg q↔NA p q=true:=by
 rw[NB,Rb];unfold Xg;rw[Zr];have hl:(CL<|cs q).length=(UJ q).length:=by rw[<-kR,Zk]
 constructor
 .rintro⟨i,b,rfl⟩;have:=JF.mp b;refine⟨i,by lia,?_⟩;rw[qQ,Vh,kR]
 .rintro⟨i,b,h⟩;refine⟨i,JF.mpr<|by lia,xj ?_⟩;rw[qQ,Vh,kR,h]
theorem Ra (p t:Str):NA p (p++"/"++t)=true:=by
 rw[NB];refine⟨cs t,?_⟩;have:cs ("/":Str)=[47]:=by decide+kernel
 rw[zm,zm,this];simp
abbrev Fi:=Da×Da
abbrev Dk:=List Fi
def Cs (ls:Da):Str:=Lu "/" ls
structure wM (S:Di):Prop where
 good:uy S
 th:∀e∈S,U2 e
 num:∀e∈S,e.n<S.length
def At (S:Di)(x:Str)(t:Th):Prop:=∃e∈S,e.nm=x/\e.d=t.dat
section
variable {S T:Di}{x y:Str}{t u:Th}
theorem PY (g:(S.map En.nm).Nodup){e f:En}(he:e∈S)(b:f∈S)(h:e.nm=f.nm):e=f:=by
 obtain⟨i,c,rfl⟩:=Z4.mp he;obtain⟨j,d,rfl⟩:=Z4.mp b;have:=(JG (h₀:=by simpa using c) (h₁:=by simpa using d) g).mp (by rwa[Z9,Z9]);subst this;rfl
theorem At.thing (g:wM S)(h:At S x t)(k:At S x u):t=u:=by
 obtain⟨e,he,rfl,hd⟩:=h;obtain⟨f,c,fn,b⟩:=k;have:=PY g.good.nn c he fn;subst this;exact Na<|hd.symm.trans b
theorem At.name (g:wM S)(h:At S x t)(k:At S y t):x=y:=by
 obtain⟨e,he,rfl,hd⟩:=h;obtain⟨f,c,rfl,b⟩:=k;rw[Wl g.good.nd he c<|hd.trans b.symm]
theorem At.more (h:At S x t):At (S++T) x t:=let ⟨e,he,a⟩:=h;⟨e,Yl _ he,a⟩
theorem At.mem (h:At S x t):x∈S.map En.nm:=let ⟨e,he,a,_⟩:=h;Zr.mpr ⟨e,he,a⟩
end
noncomputable def TB (S:Di)(x:Str):Option Th:=open Classical in if h:∃t,At S x t then some (choose h) else none
theorem BV (g:wM S)(h:At S x t):TB S x=some t:=by
 unfold TB;have ex:∃t,At S x t:=⟨t,h⟩;rw[dif_pos ex];exact congrArg some<|At.thing g (Classical.choose_spec ex) h
noncomputable def zq:Nat->Di->Str->Dk
 | 0,_,_=>[]
 |d+1,S,x=>match TB S x with
  |some (.leaf ls)=>[([],ls)]
  |some (.tree Do)=>Do.flatMap λr=>(zq d S r.2).map λf=>(r.1::f.1,f.2)
  |_=>[]
theorem xF {ls:Da}{d:Nat}(g:wM S)(h:At S x<|.leaf ls):zq (d+1) S x=[([],ls)]:=by
 show(match TB S x with|some (.leaf ls)=>[([],ls)]|some (.tree Do)=>_|_=>_)=_;rw[BV g h]
theorem yY {Do:Dg}{d:Nat}(g:wM S)(h:At S x<|.tree Do):zq (d+1) S x=Do.flatMap λr=>(zq d S r.2).map λf=>(r.1::f.1,f.2):=by
 show(match TB S x with|some (.leaf ls)=>[([],ls)]|some (.tree Do)=>_|_=>_)=_;rw[BV g h]
def CN (a b:Str):Prop:=cs a<cs b
def Tree:Nat->Di->Str->Prop
 | 0,_,_=>False
 |d+1,S,x=>(∃c,At S x<|.leaf c)\/∃b,At S x (.tree b)/\(b.map (·.1)).Pairwise CN/\∀r∈b,z9 r.1=true/\Tree d S r.2/\zq d S r.2≠[]
theorem Tree.more {S T:Di}(g:wM<|S++T)(b:wM S):∀{d:Nat} {x:Str},Tree d S x->Tree d (S++T) x/\zq d (S++T) x=zq d S x
 | 0,_,h=>absurd h<|λz=>z
 |d+1,x,h=>by
  rcases h with⟨ls,h⟩|⟨Do,h,so,hr⟩
  .exact⟨.inl ⟨ls,h.more⟩,by rw[xF g h.more,xF b h]⟩
  .have c:∀r∈Do,Tree d (S++T) r.2/\zq d (S++T) r.2=zq d S r.2:=λr m=>Tree.more g b (hr r m).2.1;refine⟨.inr ⟨Do,h.more,so,λr m=>⟨(hr r m).1,(c r m).1,by rw[(c r m).2];exact(hr r m).2.2⟩⟩,?_⟩;rw[yY g h.more,yY b h];rw[Vd,Vd]
   congr 1
   exact Yf λr m=>by rw[(c r m).2]
theorem Tree.mem (h:Tree d S x):x∈S.map En.nm:=by
 cases d with
 |zero=>exact absurd h<|λz=>z
 |succ d =>
  rcases h with⟨ls,h⟩|⟨Do,h,_⟩
  .exact h.mem
  .exact h.mem
theorem PH:∀{a b:List Nat} (s t:List Nat),(∀c∈b,47<c)->(s=[]\/∃r,s=47::r)->a<b->a++s<b++t
 |[],[],_,_,_,_,h=>absurd h<|VL _
 |[],c::b,s,t,hb,hs,_=>by
  rcases hs with rfl|⟨r,rfl⟩
  .exact List.nil_lt_cons _ _
  .exact YG.mpr (.inl<|hb c<|Zs ..)
 |_::_,[],_,_,_,_,h=>absurd h<|List.not_lt_nil _
 |x::a,y::b,s,t,hb,hs,h=>by
  rcases YG.mp h with h1|⟨d,h1⟩
  .exact YG.mpr (.inl h1)
  .exact YG.mpr (.inr ⟨d,PH s t (λc hc=>hb c<|Zn _ hc) hs h1⟩)
theorem qH (l:Str){p:Da}(h:p≠[]):cs (Cs (l::p))=cs l++47::cs (Cs p):=by
 unfold Cs;rw[qQ,qQ,ZL,X9<|by simpa using h]
theorem vA (l:Str):cs (Cs [l])=cs l:=by
 unfold Cs;rw[qQ];rfl
theorem Hy (l:Str)(p:Da):∃s,cs (Cs (l::p))=cs l++s/\(s=[]\/∃r,s=47::r):=by
 by_cases h:p=[]
 .subst h;exact⟨[],by rw[vA,Z2],.inl rfl⟩
 .exact⟨_,qH l h,.inr ⟨_,rfl⟩⟩
theorem Pq (h:z9 l=true):∀c∈cs l,47<c:=λc hc=>by
 unfold z9 at h;rw[Zw]at h;have:=ZQ.mp h.2 c hc;unfold Xb at this;rw[Zw,Yc]at this;lia
theorem Wu (p q:Da)(hm:z9 m=true)(h:CN l m):CN (Cs (l::p)) (Cs (m::q)):=by
 obtain⟨s,e,c⟩:=Hy l p;obtain⟨t,b,_⟩:=Hy m q;unfold CN;rw[e,b];exact PH s t (Pq hm) c h
theorem OT:∀(a:List Nat) {s t:List Nat},s<t->a++s<a++t
 |[],_,_,h=>h
 |x::a,_,_,h=>YG.mpr<|.inr ⟨rfl,OT a h⟩
theorem Ww {l:Str}{p q:Da}(b:p≠[])(c:q≠[])(h:CN (Cs p)<|Cs q):CN (Cs (l::p)) (Cs (l::q)):=by
 unfold CN;rw[qH l b,qH l c];exact OT _<|YG.mpr<|.inr ⟨rfl,h⟩
theorem Tree.rise (g:wM S):∀{d:Nat} {x:Str},Tree d S x->(zq d S x).Pairwise (λf h=>CN (Cs f.1)<|Cs h.1)/\((∃ls,zq d S x=[([],ls)])\/∀f∈zq d S x,f.1≠[])
 | 0,_,h=>absurd h<|λz=>z
 |d+1,x,h=>by
  rcases h with⟨ls,h⟩|⟨Do,h,so,hr⟩
  .rw[xF g h];exact⟨Vv _ _,.inl ⟨ls,rfl⟩⟩
  .rw[yY g h];refine⟨?_,.inr λf e=>?_⟩
   .rw[Vd,List.pairwise_flatten];refine⟨λl hl=>?_,?_⟩
    .obtain⟨r,i,rfl⟩:=Zr.mp hl;obtain⟨n,c⟩:=Tree.rise g (hr r i).2.1;rw[YU]
     rcases c with⟨ls,c⟩|c
     .rw[c];exact Vv _ _
     .exact n.imp_of_mem λ{a b} ha hb z=>Ww (c a ha) (c b hb) z
    .rw[YU];rw[YU]at so;refine so.imp_of_mem λ{a b} ha hb z f e k hk=>?_;obtain⟨j,_,rfl⟩:=Zr.mp e;obtain⟨o,_,rfl⟩:=Zr.mp hk;exact Wu _ _ (hr b hb).1 z
   .obtain⟨r,_,e⟩:=YQ.mp e;obtain⟨j,_,rfl⟩:=Zr.mp e;exact Yr _ _
theorem Nt (h:CN a b)(k:CN b a):False:=List.lt_asymm h k
theorem F3 (h:CN a b):a≠b:=λz=>by subst z;exact VL _ h
theorem Oy {l m:Dk}(h1:l.Pairwise<|λf h=>CN (Cs f.1)<|Cs h.1)(c:m.Pairwise<|λf h=>CN (Cs f.1)<|Cs h.1)(e:∀f,f∈l↔f∈m):l=m:=by
 have nd:∀{l:Dk},l.Pairwise (λf h=>CN (Cs f.1)<|Cs h.1)->l.Nodup:=λ{l} h=>Yj.mpr (h.imp λ{a b} z q=>by subst q;exact VL _ z);exact Jc (λa b _ _ z q=>absurd q<|λq=>Nt z q) h1 c ((Y3 (nd h1)<|nd c).mpr e)
theorem Bp (B:∀{x y:Str},Tree d S x->Tree d S y->zq d S x=zq d S y->x=y):∀{a b:Dg},(a.map (·.1)).Pairwise CN->(b.map (·.1)).Pairwise CN ->
  (∀r∈a,Tree d S r.2/\zq d S r.2≠[])->(∀r∈b,Tree d S r.2/\zq d S r.2≠[]) ->
  (a.flatMap λr=>(zq d S r.2).map λf=>((r.1::f.1,f.2):Fi))=(b.flatMap λr=>(zq d S r.2).map λf=>((r.1::f.1,f.2):Fi))->a=b
 |[],[],_,_,_,_,_=>rfl
 |[],s::b,_,_,_,hb,e=>by
  rw[Ut,Jg]at e;have:=(List.append_eq_nil_iff.mp e.symm).1;exact absurd (List.map_eq_nil_iff.mp this) (hb s<|Zs ..).2
 |r::a,[],_,_,ha,_,e=>by
  rw[Ut,Jg]at e;have:=(List.append_eq_nil_iff.mp e).1;exact absurd (List.map_eq_nil_iff.mp this) (ha r<|Zs ..).2
 |r::a,s::b,oa,ob,ha,hb,e=>by
  obtain⟨n,o⟩:=ha r<|Zs ..;obtain⟨t,u⟩:=hb s<|Zs ..;rw[ZL,Vs]at oa ob;rw[Jg,Jg]at e;have g:r.1=s.1:=by
   cases C:zq d S r.2 with
   |nil=>exact absurd C o
   |cons f fs =>
    cases D:zq d S s.2 with
    |nil=>exact absurd D u
    |cons k ks =>
     rw[C,D]at e;have:=congrArg List.head? e;have:(some ((r.1::f.1,f.2):Fi))=some (s.1::k.1,k.2):=this;have:=congrArg Prod.fst<|Option.some.inj this;exact(List.cons.inj this).1
  have key:∀{c:Dg} {z:Str×Str} {l:Str},z.1=l->(∀y∈c.map (·.1),CN l y)->(((zq d S z.2).map λf=>((z.1::f.1,f.2):Fi))++c.flatMap λr=>(zq d S r.2).map λf=>((r.1::f.1,f.2):Fi)).filter (λf=>decide (f.1.head?=some l))=(zq d S z.2).map λf=>((z.1::f.1,f.2):Fi):=by
   intro c z l G hc;rw[List.filter_append,List.filter_eq_self.mpr,List.filter_eq_nil_iff.mpr,Z2]
   .intro f i q;obtain⟨w,j,i⟩:=YQ.mp i;obtain⟨H,_,rfl⟩:=Zr.mp i;have:some w.1=some l:=ZI q;have:=Option.some.inj this;exact F3 (hc w.1<|Zr.mpr ⟨w,j,rfl⟩) this.symm
   .intro f i;obtain⟨H,_,rfl⟩:=Zr.mp i;exact Zq<|congrArg some G
  have v:=congrArg (List.filter (λf:Fi=>decide (f.1.head?=some r.1))) e;rw[key rfl oa.1,key g.symm (by rw[g];exact ob.1),g]at v;have A:zq d S r.2=zq d S s.2:=by
   refine(List.map_inj_right λf k z=>?_).mp v;have h1:=congrArg Prod.fst z;have I:=congrArg Prod.snd z;exact Mp (List.cons.inj h1).2 I
  have E:=B n t A;rw[g,A]at e;have F:=Vw e;have:=Bp B oa.2 ob.2 (λw j=>ha w<|Zn _ j) (λw j=>hb w<|Zn _ j) F;have p:r=s:=Mp g E;rw[this,p]
theorem Tree.one (g:wM S):∀{d:Nat} {x y:Str},Tree d S x->Tree d S y->zq d S x=zq d S y->x=y
 | 0,_,_,h,_,_=>absurd h<|λz=>z
 |d+1,x,y,h,k,e=>by
  have i:∀{c:Dg} {b:Da},(c.flatMap λr=>(zq d S r.2).map λf=>((r.1::f.1,f.2):Fi))≠[([],b)]:=λ{c b} z=>by
   have:(([],b):Fi)∈(c.flatMap λr=>(zq d S r.2).map λf=>((r.1::f.1,f.2):Fi)):=by rw[z];exact Zl.mpr rfl
   obtain⟨r,_,j⟩:=YQ.mp this;obtain⟨o,_,q⟩:=Zr.mp j;exact absurd (congrArg Prod.fst q)<|Yr _ _
  rcases h with⟨b,h⟩|⟨c,h,so,hr⟩<;>rcases k with⟨ls',k⟩|⟨rows',k,so',hr'⟩
  .rw[xF g h,xF g k]at e;have:=congrArg Prod.snd (List.cons.inj e).1;have this:b=ls':=this;subst this;exact h.name g k
  .rw[xF g h,yY g k]at e;exact absurd e.symm i
  .rw[yY g h,xF g k]at e;exact absurd e i
  .rw[yY g h,yY g k]at e;have:=Bp (λl n z=>Tree.one g l n z) so so' (λr m=>(hr r m).2) (λr m=>(hr' r m).2) e;subst this;exact h.name g k
noncomputable def CD (S:Di)(t:Th):List En×Str:=open Classical in if h:∃x,At S x t then(S,choose h) else(S++[GL S t],(GL S t).nm)
section
variable {S T:Di}{x:Str}{t:Th}
theorem Ff (g:wM S)(h:At S x t):CD S t=(S,x):=by
 unfold CD;have ex:∃x,At S x t:=⟨x,h⟩;rw[dif_pos ex];exact congrArg (Prod.mk S)<|At.name g (Classical.choose_spec ex) h
theorem HH (h:∀e∈S,e.d≠t.dat):CD S t=(S++[GL S t],(GL S t).nm):=by
 unfold CD;rw[dif_neg];rintro⟨x,e,he,_,hd⟩;exact h e he hd
theorem T9 {e:En}(h:e.h=UP t)(hn:e.n<1000000):Ok 1000 e.nm:=by
 refine⟨?_,?_⟩
 .have h1:=uK t;have b:(UR e.n).length<=10:=JD (by lia) (by decide) (by
   have:e.n<10 ^ 9:=by lia
   lia)
  unfold En.nm;rw[yr,yr,h];have:dot.length=1:=rfl;lia
 .unfold En.nm;rw[h];exact KU (KU (KU (Oo t)<|IP _)<|by decide+kernel)<|IP _
theorem wM.nm (g:wM S){e:En}(he:e∈S):Ok 1000 e.nm:=by
 obtain⟨t,_,_,h⟩:=g.th e he;exact T9 h (g.good.ent e he).num
theorem wM.snoc (g:wM S)(b:t.Good)(l:S.length<2000)(h:∀e∈S,e.d≠t.dat):wM (S++[GL S t]):=by
 have c:=Nu g.num<|UP t;refine⟨g.good.snoc ⟨BC b,kD t,?_,uK t⟩ (λz=>?_) (PV g.good<|kD t) l,λe he=>?_,λe he=>?_⟩
 .show(ye S<|UP t).getD 0<1000000;lia
 .obtain⟨e,he,hd⟩:=Zr.mp z;exact h e he hd
 .rcases ZR.mp he with z|z
  .exact g.th e z
  .rw[Zl.mp z];exact⟨t,rfl,b,rfl⟩
 .rw[ZB,Y8]
  rcases ZR.mp he with z|z
  .have:=g.num e z;lia
  .rw[Zl.mp z];show(ye S<|UP t).getD 0<_;lia
theorem Fg (g:wM S)(b:t.Good)(l:S.length<2000):wM (CD S t).1/\At (CD S t).1 (CD S t).2 t/\(CD S t).1.length<=S.length+1/\∃T,(CD S t).1=S++T/\∀e∈T,e.nm=(CD S t).2:=by
 by_cases z:∃x,At S x t
 .obtain⟨x,h⟩:=z;rw[Ff g h];exact⟨g,h,JM _,[],(Z2 _).symm,λe he=>(nomatch he)⟩
 .have h:∀e∈S,e.d≠t.dat:=λe he hd=>z ⟨e.nm,e,he,rfl,hd⟩;rw[HH h];exact⟨g.snoc b l h,⟨_,ZW _<|Zl.mpr rfl,rfl,rfl⟩,by rw[ZB];exact Zt _,[GL S t],rfl,λe he=>by rw[Zl.mp he]⟩
end
noncomputable def met:Nat->Di->Str->Da
 | 0,_,_=>[]
 |d+1,S,x=>x::match TB S x with
  |some (.tree Do)=>Do.flatMap λr=>met d S r.2
  |_=>[]
theorem Gq {ls:Da}{d:Nat}(g:wM S)(h:At S x<|.leaf ls):met (d+1) S x=[x]:=by
 show x::(match TB S x with|some (.tree Do)=>_|_=>_)=_;rw[BV g h]
theorem vP {Do:Dg}{d:Nat}(g:wM S)(h:At S x<|.tree Do):met (d+1) S x=x::Do.flatMap λr=>met d S r.2:=by
 show x::(match TB S x with|some (.tree Do)=>_|_=>_)=_;rw[BV g h]
theorem PQ {x:Str}{d:Nat}:x∈met (d+1) S x:=Zs ..
theorem Tree.rM {S T:Di}(g:wM<|S++T)(b:wM S):∀{d:Nat} {x:Str},Tree d S x->met d (S++T) x=met d S x
 | 0,_,h=>absurd h<|λz=>z
 |d+1,x,h=>by
  rcases h with⟨ls,h⟩|⟨Do,h,so,hr⟩
  .rw[Gq g h.more,Gq b h]
  .rw[vP g h.more,vP b h,Vd,Vd]
   congr 2
   exact Yf λr m=>Tree.rM g b (hr r m).2.1
def W4 (a b:Str×Str):Bool:=!decide (cs b.1<cs a.1)
def UT (Do:Dg):Dg:=Do.mergeSort W4
theorem vg:W4 a b=true↔cs a.1<=cs b.1:=by
 unfold W4;rw[Ul,Vy];exact J6
theorem HV (Do:Dg):(UT Do).Pairwise (λa b=>W4 a b=true) :=
 List.pairwise_mergeSort (le:=W4) (λa b c h1 d=>vg.mpr<|List.le_trans (vg.mp h1)<|vg.mp d) (λa b=>by
  rw[Uy,vg (a:=a) (b:=b),vg (a:=b) (b:=a)];exact List.le_total _ _) Do
theorem x5 (Do:Dg):(UT Do).Perm Do:=List.mergeSort_perm Do W4
theorem HU {Do:Dg}(nd:(Do.map (·.1)).Nodup):((UT Do).map (·.1)).Pairwise CN:=by
 have c:((UT Do).map (·.1)).Nodup:=((x5 Do).map _).nodup_iff.mpr nd;have h1:((UT Do).map (·.1)).Pairwise (λa b=>cs a<=cs b):=YU.mpr<|(HV Do).imp λ{a b} h=>vg.mp h;exact(h1.and<|Yj.mp c).imp λ{a b} h=>by
  by_cases z:cs a<cs b
  .exact z
  .exact absurd (xj<|Uu h.1<|J6.mp z) h.2
theorem RF {Do ss:Dg}(nd:(Do.map (·.1)).Nodup)(p:ss.Perm Do)(g:ss.Pairwise<|λa b=>cs a.1<=cs b.1):ss=UT Do:=by
 refine Jc (le:=λa b=>cs a.1<=cs b.1) (λa b ha hb h1 c=>?_) g ((HV Do).imp λ{a b} h=>vg.mp h) (p.trans (x5 Do).symm);have e:=xj<|Uu h1 c;have ha:=p.mem_iff.mp ha;have hb:=(x5 Do).mem_iff.mp hb;obtain⟨i,d,rfl⟩:=Z4.mp ha;obtain⟨j,f,rfl⟩:=Z4.mp hb;have:=(JG (h₀:=by simpa using d) (h₁:=by simpa using f) nd).mp (by rwa[Z9,Z9]);subst this;rfl
theorem jF {c d:Type}{f:c->d}{l:List c}(h:(l.map f).Nodup):l.Nodup:=by
 rw[Yj]at h ⊢;rw[YU]at h;exact h.imp λ{a b} n e=>n (by rw[e])
def UV (ls:Da):Prop:=ls.length<=63/\∀l∈ls,UK l=true
structure yj (d:Nat)(fs:Dk):Prop where
 wL:∀f∈fs,f.1≠[]/\f.1.length<=d/\(∀l∈f.1,z9 l=true)/\UV f.2
 nd:(fs.map (·.1)).Nodup
 pre:∀f∈fs,∀k∈fs,∀t,k.1=f.1++t->t=[]
def Cw (fs:Dk):List (Str×Da):=fs.filterMap λf=>match f.1 with
 |[a]=>some (a,f.2)
 |_=>none
def Xi (l:Str)(f:Fi):Option Fi:=match f.1 with
 |a::b::r=>if a=l then some (b::r,f.2) else none
 |_=>none
def sub (fs:Dk)(l:Str):Dk:=fs.filterMap<|Xi l
def qM (L:Da)(p:Str):Da:=if p∈L then L else L++[p]
def CC (fs:Dk):Da:=fs.foldl (λL f=>match f.1 with
 |a::_::_=>qM L a
 |_=>L) []
theorem KQ {q:Str}:q∈qM L p↔q∈L\/q=p:=by
 unfold qM
 split
 .rename_i h;exact⟨.inl,λz=>z.elim id<|λz=>z▸h⟩
 .rw[ZR,Zl]
theorem NV {L:Da}(h:L.Nodup):(qM L p).Nodup:=by
 unfold qM
 split
 .exact h
 .rename_i z;exact jM h z
theorem kG (fs:Dk)(f:Fi):CC (fs++[f])=match f.1 with
 |a::_::_=>qM (CC fs) a
 |_=>CC fs:=by
 unfold CC;rw[Jy];rfl
theorem xR (fs:Dk):(CC fs).Nodup/\∀l,l∈CC fs↔∃f∈fs,∃b r,f.1=l::b::r:=by
 induction fs using snoc_ind with
 |h0=>exact⟨YL,λl=>⟨λh=>(nomatch h),λ⟨f,c,_⟩=>(nomatch c)⟩⟩
 |h1 fs f ih =>
  rw[kG];have old:∀l,(∃k∈fs++[f],∃b r,k.1=l::b::r)↔(∃k∈fs,∃b r,k.1=l::b::r)\/∃b r,f.1=l::b::r:=λl=>by
   constructor
   .rintro⟨k,hk,z⟩
    rcases ZR.mp hk with q|q
    .exact .inl ⟨k,q,z⟩
    .rw[Zl.mp q]at z;exact .inr z
   .rintro(⟨k,hk,z⟩|z)
    .exact⟨k,Yl _ hk,z⟩
    .exact⟨f,ZW _<|Zl.mpr rfl,z⟩
  match e:f.1 with
  |[]=>exact⟨ih.1,λl=>by rw[old,ih.2,e];exact⟨.inl,λz=>z.elim id λ⟨b,r,z⟩=>(nomatch z)⟩⟩
  |[a]=>exact⟨ih.1,λl=>by rw[old,ih.2,e];exact⟨.inl,λz=>z.elim id λ⟨b,r,z⟩=>(nomatch z)⟩⟩
  |a::b::r =>
   refine⟨NV ih.1,λl=>?_⟩;show l∈qM (CC fs) a↔_;rw[KQ,ih.2,old,e];exact or_congr Iff.rfl ⟨λz=>⟨b,r,by rw[z]⟩,λ⟨_,_,z⟩=>(List.cons.inj z).1.symm⟩
theorem wH {k:Fi}:k∈sub fs l↔k.1≠[]/\(l::k.1,k.2)∈fs:=by
 unfold sub;rw[JQ];constructor
 .rintro⟨f,c,e⟩;unfold Xi at e
  split at e
  .rename_i a b r q
   split at e
   .rename_i z;subst z;cases e;refine⟨Yr _ _,?_⟩;have:f=(a::b::r,f.2):=Mp q rfl;rwa[<-this]
   .cases e
  .cases e
 .rintro⟨d,c⟩;refine⟨_,c,?_⟩;cases q:k.1 with
  |nil=>exact absurd q d
  |cons b r =>
   unfold Xi;show(if l=l then some ((b::r,k.2):Fi) else none)=some k;rw[ZK rfl]
   congr 1
   exact Mp q.symm rfl
theorem wG {a:Str}{ls:Da}:(a,ls)∈Cw fs↔([a],ls)∈fs:=by
 unfold Cw;rw[JQ];constructor
 .rintro⟨f,c,e⟩
  split at e
  .rename_i b q;cases e;have:f=([a],f.2):=Mp q rfl;rwa[<-this]
  .cases e
 .intro h;exact⟨_,h,rfl⟩
theorem yj.sub {d:Nat}(h:yj (d+1) fs)(l:Str):yj d (sub fs l):=by
 refine⟨λk hk=>?_,?_,λk hk m hm t e=>?_⟩
 .obtain⟨i,c⟩:=wH.mp hk;obtain⟨_,g,j,h4⟩:=h.wL _ c;have g:k.1.length+1<=d+1:=g;exact⟨i,by lia,λz o=>j z<|Zn _ o,h4⟩
 .have:((An.sub fs l).map λk=>l::k.1).Sublist (fs.map (·.1)):=by
   unfold An.sub;have:∀fs:Dk,((fs.filterMap<|Xi l).map λk=>l::k.1).Sublist (fs.map (·.1)):=by
    intro fs
    induction fs with
    |nil=>exact List.Sublist.slnil
    |cons f fs ih =>
     rw[Y5,ZL];cases q:Xi l f with
     |none=>exact ih.cons _
     |some k =>
      show((l::k.1)::_).Sublist _;have e:l::k.1=f.1:=by
       unfold Xi at q
       split at q
       .rename_i a b r e
        split at q
        .rename_i z;subst z;cases q;exact e.symm
        .cases q
       .cases q
      rw[e];exact ih.cons₂ _
   exact this fs
  have:=this.nodup h.nd;have e:((An.sub fs l).map λk=>l::k.1)=((An.sub fs l).map (·.1)).map (List.cons l):=by rw[ZM];rfl
  rw[e]at this;exact jF this
 .obtain⟨_,c⟩:=wH.mp hk;obtain⟨_,n⟩:=wH.mp hm;exact h.pre _ c _ n t (by show l::m.1=l::k.1++t;rw[e];rfl)
noncomputable def Cr (a:List En×Dg)(f:Str×Da):List En×Dg:=((CD a.1<|.leaf f.2).1,a.2++[(f.1,(CD a.1<|.leaf f.2).2)])
noncomputable def UG:Nat->Di->Dk->List En×Str
 | 0,S,_=>(S,"")
 |d+1,S,fs =>
  let b:=(CC fs).foldl (λa l=>((UG d a.1<|sub fs l).1,a.2++[(l,(UG d a.1<|sub fs l).2)])) ((Cw fs).foldl Cr (S,[]))
  CD b.1 (.tree<|UT b.2)
structure Fo (d:Nat)(S0 S:Di)(Do:Dg)(ps:List<|Str×Dk):Prop where
 ok:wM S
 new:∃T,S=S0++T/\∀e∈T,∃r∈Do,e.nm∈met d S r.2
 wL:Do.map (·.1)=ps.map (·.1)
 rd:∀(i:Nat) (r:Str×Str) (p:Str×Dk),Do[i]?=some r->ps[i]?=some p->Tree d S r.2/\∀f,f∈zq d S r.2↔f∈p.2
theorem Fo.nil (g:wM S):Fo d S S [] []:=⟨g,⟨[],(Z2 _).symm,λe he=>(nomatch he)⟩,rfl,λi r p h=>(nomatch h)⟩
theorem Fo.len (h:Fo d S0 S Do ps):Do.length=ps.length:=by
 have:=congrArg List.length h.wL;rw[Zk,Zk]at this;exact this
theorem Fo.step {T:Di}(h:Fo d S0 S Do ps){l n:Str}{g:Dk}(ok:wM<|S++T)(new:∀e∈T,e.nm∈met d (S++T) n)(tr:Tree d (S++T) n)(rd:∀f,f∈zq d (S++T) n↔f∈g):Fo d S0 (S++T) (Do++[(l,n)]) (ps++[(l,g)]):=by
 obtain⟨s,u,v⟩:=h.new;refine⟨ok,⟨s++T,by rw[<-YC,<-u],λe he=>?_⟩,by rw[Zx,Zx,h.wL];rfl,λi r p b c=>?_⟩
 .rcases ZR.mp he with z|z
  .obtain⟨r,j,m⟩:=v e z;obtain⟨i,b⟩:=Y9.mp j;have hl:=(ZJ.mp b).1;obtain⟨t,_⟩:=h.rd i r _ b (Zv<|by rwa[<-h.len]);exact⟨r,Yl _ j,by rw[t.rM ok h.ok];exact m⟩
  .exact⟨(l,n),ZW _<|Zl.mpr rfl,new e z⟩
 .by_cases z:i<Do.length
  .rw[Ya z]at b;rw[Ya<|by rwa[<-h.len]]at c;obtain⟨t,k⟩:=h.rd i r p b c;obtain⟨x,w⟩:=t.more ok h.ok;exact⟨x,by rw[w];exact k⟩
  .rw[Ym<|by lia]at b;rw[Ym (by rw[<-h.len];lia)]at c;have o:i-Do.length=0:=by
    rcases JT (i-Do.length) with q|q
    .exact q
    .rw[List.getElem?_eq_none_iff.mpr (by show 1<=_;lia)]at b;cases b
   rw[o]at b;rw[<-h.len,o]at c;cases b;cases c;exact⟨tr,rd⟩
theorem wF:∀rs:Dg,(yH rs).length=2*rs.length
 |[]=>rfl
 |r::rs=>by
  show(yH rs).length+1+1=2*(rs.length+1);rw[wF rs];lia
theorem F5:∀{rs:Dg} {p:Str},p∈yH rs->∃r∈rs,p=r.1\/p=r.2
 |r::rs,p,h=>by
  rcases Zo.mp h with q|h
  .exact⟨r,Zs ..,.inl q⟩
  .rcases Zo.mp h with q|h
   .exact⟨r,Zs ..,.inr q⟩
   .obtain⟨s,b,q⟩:=F5 h;exact⟨s,Zn _ b,q⟩
structure sV (d:Nat)(S:Di)(fs:Dk)(q:List En×Str):Prop where
 ok:wM q.1
 new:∃T,q.1=S++T/\∀e∈T,e.nm∈met d q.1 q.2
 tree:Tree d q.1 q.2
 rd:∀f,f∈zq d q.1 q.2↔f∈fs
 node:∃Do,At q.1 q.2<|.tree Do
theorem k9 (h:z9 x=true):Ok 1000 x:=by
 unfold z9 at h;rw[Zw,Zw,Yc,Yc]at h;refine⟨by lia,?_⟩;rw[yX];intro c hc;have:=ZQ.mp h.2 c hc;unfold Xb at this;simp only[Zw,Yc]at this;lia
theorem S7 (g:wM S){Do:Dg}(hl:Do.length<=63)(h:∀r∈Do,z9 r.1=true/\r.2∈S.map En.nm):(Th.tree Do).Good:=by
 refine⟨by show(yH Do).length<=1000;rw[wF];lia,λp d=>?_⟩;obtain⟨r,f,q⟩:=F5 d;obtain⟨h1,c⟩:=h r f
 rcases q with q|q
 .rw[q];exact k9 h1
 .obtain⟨e,he,b⟩:=Zr.mp c;rw[q,<-b];exact g.nm he
theorem Fo.put (h:Fo d S0 S Do ps)(hl:Do.length<=63)(nd:(ps.map (·.1)).Nodup)(lb:∀p∈ps,z9 p.1=true/\p.2≠[])(ls:S.length<2000):sV (d+1) S0 (ps.flatMap λp=>p.2.map λf=>(p.1::f.1,f.2)) (CD S<|.tree<|UT Do)/\(CD S<|.tree<|UT Do).1.length<=S.length+1:=by
 have at_:∀r∈Do,∃p∈ps,r.1=p.1/\Tree d S r.2/\∀f,f∈zq d S r.2↔f∈p.2:=λr b=>by
  obtain⟨i,q⟩:=Y9.mp b;have hl:=(ZJ.mp q).1;have c:=Zv (l:=ps) (i:=i) (by rwa[<-h.len]);have e:=congrArg (λl=>l[i]?) h.wL;simp only[Zy,q,c,YO]at e;exact⟨_,Yo _,Option.some.inj e,h.rd i r _ q c⟩
 have E:∀p∈ps,∃r∈Do,r.1=p.1/\Tree d S r.2/\∀f,f∈zq d S r.2↔f∈p.2:=λp w=>by
  obtain⟨i,c⟩:=Y9.mp w;have hl:=(ZJ.mp c).1;have q:=Zv (l:=Do) (i:=i) (by rwa[h.len]);have e:=congrArg (λl=>l[i]?) h.wL;simp only[Zy,q,c,YO]at e;exact⟨_,Yo _,Option.some.inj e,h.rd i _ p q c⟩
 have s:∀{r},r∈UT Do↔r∈Do:=(x5 Do).mem_iff;have A:(Th.tree<|UT Do).Good:=S7 h.ok (by rwa[(x5 Do).length_eq]) λr b=>by
  obtain⟨p,c,e,t,_⟩:=at_ r<|s.mp b;exact⟨by rw[e];exact(lb p c).1,t.mem⟩
 obtain⟨ok,g,D,T,n,C⟩:=Fg h.ok A ls;refine⟨?_,D⟩;have ne:∀r∈Do,zq d S r.2≠[]:=λr b=>by
  obtain⟨p,c,e,t,k⟩:=at_ r b;intro z;refine(lb p c).2 (JJ.mpr λf o=>?_);rw[<-k,z]at o;cases o
 rw[n]at ok g;have u:∀r∈Do,Tree d (S++T) r.2/\zq d (S++T) r.2=zq d S r.2:=λr b=>by
  obtain⟨p,c,e,t,k⟩:=at_ r b;exact t.more ok h.ok
 obtain⟨x,y,B⟩:=h.new;refine⟨by rw[n];exact ok,⟨x++T,by rw[n,y,YC],λe he=>?_⟩,?_,λf=>?_,⟨_,by rw[n];exact g⟩⟩
 .rw[n,vP ok g]
  rcases ZR.mp he with z|z
  .obtain⟨r,b,m⟩:=B e z;obtain⟨p,c,_,t,_⟩:=at_ r b;exact Zn _ (YQ.mpr ⟨r,s.mpr b,by rw[t.rM ok h.ok];exact m⟩)
  .rw[C e z];exact Zs ..
 .rw[n];refine .inr ⟨_,g,HU<|by rwa[h.wL],λr b=>?_⟩;have b:=s.mp b;obtain⟨p,c,e,t,_⟩:=at_ r b;exact⟨by rw[e];exact(lb p c).1,(u r b).1,by rw[(u r b).2];exact ne r b⟩
 .rw[n,yY ok g,YQ,YQ];constructor
  .rintro⟨r,b,o⟩;have b:=s.mp b;obtain⟨p,c,e,t,k⟩:=at_ r b;obtain⟨v,j,rfl⟩:=Zr.mp o;rw[(u r b).2,k]at j;exact⟨p,c,Zr.mpr ⟨v,j,by rw[e]⟩⟩
  .rintro⟨p,c,o⟩;obtain⟨r,b,e,t,k⟩:=E p c;obtain⟨v,j,rfl⟩:=Zr.mp o;exact⟨r,s.mpr b,Zr.mpr ⟨v,by rw[(u r b).2,k];exact j,by rw[e]⟩⟩
def wt (fs:Dk):Nat:=(fs.map λf=>f.1.length).sum
theorem M5 (a b:Dk):wt (a++b)=wt a+wt b:=by
 unfold wt;rw[Zx,Uz]
theorem vO (h:UK x=true):Ok 1000 x:=by
 unfold UK at h;rw[Zw,Yc]at h;refine⟨by lia,?_⟩;rw[yX];intro c hc;have:=ZQ.mp h.2 c hc;unfold UQ at this;simp only[Zw,Yc]at this;lia
theorem Nq (h:UV ls):(Th.leaf ls).Good:=⟨by show ls.length<=1000;have:=h.1;lia,λp b=>vO<|h.2 p b⟩
theorem X6 {d:Nat}:∀(vs:List<|Str×Da) {S:Di} {Do:Dg} {ps:List (Str×Dk)},Fo (d+1) S0 S Do ps->(∀v∈vs,UV v.2)->S.length+vs.length<=2000 ->
  Fo (d+1) S0 (vs.foldl Cr (S,Do)).1 (vs.foldl Cr (S,Do)).2 (ps++vs.map λv=>(v.1,[([],v.2)]))/\(vs.foldl Cr (S,Do)).1.length<=S.length+vs.length
 |[],S,Do,ps,h,_,_=>⟨by rw[VE,Z2];exact h,Zt _⟩
 |v::vs,S,Do,ps,h,hv,hl=>by
  have hl:S.length+(vs.length+1)<=2000:=hl;obtain⟨ok,b,o,T,g,c⟩:=Fg h.ok (Nq<|hv v<|Zs ..) (by lia);rw[JW];show Fo (d+1) S0 (vs.foldl Cr<|Cr (S,Do) v).1 (vs.foldl Cr<|Cr (S,Do) v).2 _/\(vs.foldl Cr<|Cr (S,Do) v).1.length<=S.length+(vs.length+1);have e:Cr (S,Do) v=((CD S<|.leaf v.2).1,Do++[(v.1,(CD S<|.leaf v.2).2)]):=rfl;rw[e,ZL,show ps++(v.1,[(([],v.2):Fi)])::vs.map (λv=>(v.1,[(([],v.2):Fi)]))=(ps++[(v.1,[(([],v.2):Fi)])])++vs.map (λv=>(v.1,[(([],v.2):Fi)])) by simp];have st:Fo (d+1) S0 (CD S<|.leaf v.2).1 (Do++[(v.1,(CD S<|.leaf v.2).2)]) (ps++[(v.1,[(([],v.2):Fi)])]):=by
   generalize (CD S<|.leaf v.2).2=n at b c ⊢;rw[g]at ok b ⊢;exact h.step ok (λe he=>by rw[c e he];exact PQ) (.inl ⟨_,b⟩) (λf=>by rw[xF ok b])
  obtain⟨i,l⟩:=X6 vs st (λw j=>hv w<|Zn _ j) (by lia);exact⟨i,by lia⟩
noncomputable def Cu (d:Nat)(fs:Dk)(a:List En×Dg)(l:Str):List En×Dg:=((UG d a.1<|sub fs l).1,a.2++[(l,(UG d a.1<|sub fs l).2)])
theorem NF (d:Nat)(S:Di)(fs:Dk):UG (d+1) S fs=CD ((CC fs).foldl (Cu d fs)<|(Cw fs).foldl Cr (S,[])).1 (.tree<|UT ((CC fs).foldl (Cu d fs)<|(Cw fs).foldl Cr (S,[])).2):=rfl
theorem Kx {b:Di}:∀(ls:Da) (H:∀l∈ls,∀S,wM S->S.length+1+wt (sub fs l)<=2000->sV e S (sub fs l) (UG d S<|sub fs l)/\(UG d S<|sub fs l).1.length<=S.length+1+wt (sub fs l)) {S:Di} {Do:Dg} {ps:List (Str×Dk)},
  Fo e b S Do ps->S.length+(ls.map λl=>1+wt (sub fs l)).sum<=2000 ->
  Fo e b (ls.foldl (Cu d fs) (S,Do)).1 (ls.foldl (Cu d fs) (S,Do)).2 (ps++ls.map λl=>(l,sub fs l))/\(ls.foldl (Cu d fs) (S,Do)).1.length<=S.length+(ls.map λl=>1+wt (sub fs l)).sum
 |[],_,S,Do,ps,h,_=>⟨by rw[VE,Z2];exact h,Zt _⟩
 |l::ls,H,S,Do,ps,h,hl=>by
  rw[ZL,JC]at hl;obtain⟨o,q⟩:=H l (Zs ..) S h.ok (by lia);rw[JW,ZL,ZL,JC];have f:Cu d fs (S,Do) l=((UG d S<|sub fs l).1,Do++[(l,(UG d S<|sub fs l).2)]):=rfl;rw[f,show ps++(l,sub fs l)::ls.map (λl=>(l,sub fs l))=(ps++[(l,sub fs l)])++ls.map (λl=>(l,sub fs l)) by simp];obtain⟨ok,⟨T,g,c⟩,tr,rd,_⟩:=o;have st:Fo e b (UG d S<|sub fs l).1 (Do++[(l,(UG d S<|sub fs l).2)]) (ps++[(l,sub fs l)]):=by
   generalize (UG d S<|sub fs l).2=n at c tr rd ⊢;rw[g]at ok c tr rd ⊢;exact h.step ok c tr rd
  obtain⟨i,p⟩:=Kx ls (λw j=>H w<|Zn _ j) st (by lia);exact⟨i,by lia⟩
theorem Ka {g g':Str->Nat}{a:Str}{c:Nat}(h:∀l,l≠a->g' l=g l)(ha:g' a<=g a+c):∀{L:Da},L.Nodup->(L.map g').sum<=(L.map g).sum+c
 |[],_=>Yb _
 |l::L,nd=>by
  rw[ZY]at nd;rw[ZL,ZL,JC,JC]
  by_cases z:l=a
  .subst z;have:L.map g'=L.map g:=Yf λm hm=>h m λq=>nd.1<|q▸hm;rw[this];lia
  .have:=Ka h ha nd.2;rw[h l z];lia
theorem sub_snoc (fs:Dk)(f:Fi)(l:Str):sub (fs++[f]) l=sub fs l++(Xi l f).toList:=by
 unfold sub;rw[List.filterMap_append]
 congr 1
theorem RK {f:Fi}(h:f.1=[]):Xi l f=none:=by unfold Xi;rw[h]
theorem HY {f:Fi}{a:Str}(h:f.1=[a]):Xi l f=none:=by unfold Xi;rw[h]
theorem vR {f:Fi}{a b:Str}{r:Da}(h:f.1=a::b::r):Xi l f=if a=l then some (b::r,f.2) else none:=by unfold Xi;rw[h]
theorem vQ (fs:Dk)(f:Fi):Cw (fs++[f])=Cw fs++(match f.1 with|[a]=>[(a,f.2)]|_=>[]):=by
 unfold Cw;rw[List.filterMap_append]
 congr 1
 rw[Y5]
 match f.1 with
 |[]=>rfl
 |[a]=>rfl
 |a::b::r=>rfl
theorem many (fs:Dk):(Cw fs).length+((CC fs).map λl=>1+wt (sub fs l)).sum<=wt fs:=by
 induction fs using snoc_ind with
 |h0=>exact Zt _
 |h1 fs f ih =>
  have same:(∀l,Xi l f=none)->∀l,sub (fs++[f]) l=sub fs l:=λh l=>by rw[sub_snoc,h l];exact Z2 _
  rw[M5,vQ,kG,ZB];have o:wt [f]=f.1.length:=by unfold wt;simp
  rw[o]
  match e:f.1 with
  |[] =>
   have:=same λl=>RK e;rw[show(λl=>1+wt (sub (fs++[f]) l))=λl=>1+wt (sub fs l) from funext λl=>by rw[this l]];show(Cw fs).length+0+((CC fs).map λl=>1+wt (sub fs l)).sum<=wt fs+0;lia
  |[a] =>
   have:=same λl=>HY e;rw[show(λl=>1+wt (sub (fs++[f]) l))=λl=>1+wt (sub fs l) from funext λl=>by rw[this l]];show(Cw fs).length+1+((CC fs).map λl=>1+wt (sub fs l)).sum<=wt fs+1;lia
  |a::b::r =>
   show(Cw fs).length+0+((qM (CC fs) a).map λl=>1+wt (sub (fs++[f]) l)).sum<=wt fs+(r.length+1+1);have i:∀l,l≠a->1+wt (sub (fs++[f]) l)=1+wt (sub fs l):=λl hl=>by
    rw[sub_snoc,vR e,ZH<|EC hl];show 1+wt (sub fs l++[])=_;rw[Z2]
   have ha:1+wt (sub (fs++[f]) a)=1+wt (sub fs a)+(r.length+1):=by
    rw[sub_snoc,vR e,ZK rfl];show 1+wt (sub fs a++[(b::r,f.2)])=_;rw[M5];show 1+(wt (sub fs a)+((b::r).length+0))=_;rw[ZF];lia
   have bump:=Ka (g:=λl=>1+wt (sub fs l)) (g':=λl=>1+wt (sub (fs++[f]) l)) (a:=a) (c:=r.length+1) i (J9 ha) (xR fs).1;unfold qM
   split
   .lia
   .rename_i z;rw[Zx,Uz];have n:sub fs a=[]:=JJ.mpr λk hk=>by
     obtain⟨h0,j⟩:=wH.mp hk;refine z<|((xR fs).2 a).mpr ⟨_,j,?_⟩;cases q:k.1 with
     |nil=>exact absurd q h0
     |cons b r=>exact⟨b,r,rfl⟩
    have d:(CC fs).map (λl=>1+wt (sub (fs++[f]) l))=(CC fs).map (λl=>1+wt (sub fs l)):=Yf λl hl=>i l λq=>z<|q▸hl;rw[d];show(Cw fs).length+0+(((CC fs).map λl=>1+wt (sub fs l)).sum+((1+wt (sub (fs++[f]) a))+0))<=_;rw[ha,n];show _+(_+(1+0+(r.length+1)+0))<=_;lia
def pieces (fs:Dk):List (Str×Dk):=(Cw fs).map (λv=>(v.1,[([],v.2)]))++(CC fs).map λl=>(l,sub fs l)
theorem K0 (g:yj d fs)(f:Fi):f∈((pieces fs).flatMap λp=>p.2.map λk=>(p.1::k.1,k.2))↔f∈fs:=by
 rw[YQ];constructor
 .rintro⟨p,n,c⟩;obtain⟨k,hk,rfl⟩:=Zr.mp c
  rcases ZR.mp n with z|z
  .obtain⟨v,hv,rfl⟩:=Zr.mp z;rw[Zl.mp hk];exact wG.mp hv
  .obtain⟨l,hl,rfl⟩:=Zr.mp z;exact(wH.mp hk).2
 .intro c;obtain⟨j,_⟩:=g.wL f c
  match e:f.1 with
  |[]=>exact absurd e j
  |[a] =>
   have i:f=([a],f.2):=Mp e rfl;exact⟨(a,[([],f.2)]),Yl _<|Zr.mpr ⟨(a,f.2),wG.mpr<|i▸c,rfl⟩,Zr.mpr ⟨([],f.2),Zl.mpr rfl,i.symm⟩⟩
  |a::b::r =>
   have i:f=(a::b::r,f.2):=Mp e rfl;exact⟨(a,sub fs a),ZW _<|Zr.mpr ⟨a,((xR fs).2 a).mpr ⟨f,c,b,r,e⟩,rfl⟩,Zr.mpr ⟨(b::r,f.2),wH.mpr ⟨Yr _ _,i▸c⟩,i.symm⟩⟩
theorem PL {fs:Dk}(nd:(fs.map (·.1)).Nodup):((Cw fs).map (·.1)).Nodup:=by
 have:((Cw fs).map λv=>[v.1]).Sublist (fs.map (·.1)):=by
  unfold Cw
  induction fs with
  |nil=>exact List.Sublist.slnil
  |cons f fs ih =>
   rw[ZL,ZY]at nd;rw[Y5,ZL]
   match e:f.1 with
   |[]=>exact(ih nd.2).cons _
   |[a]=>exact(ih nd.2).cons₂ _
   |a::b::r=>exact(ih nd.2).cons _
 have:=this.nodup nd;have e:((Cw fs).map λv=>[v.1])=((Cw fs).map (·.1)).map λa=>[a]:=by rw[ZM];rfl
 rw[e]at this;exact jF this
theorem XD (g:yj d fs):((pieces fs).map (·.1)).Nodup:=by
 unfold pieces;rw[Zx,ZM,ZM,YD];refine⟨PL g.nd,by rw[show((λp:Str×Dk=>p.1)∘λl=>(l,sub fs l))=id from rfl,Vu];exact(xR fs).1,λa ha b hb z=>?_⟩;subst z;obtain⟨v,hv,e⟩:=Zr.mp ha;obtain⟨l,hl,rfl⟩:=Zr.mp hb;have e:v.1=l:=e;obtain⟨f,i,b,r,c⟩:=((xR fs).2 l).mp hl;have hv:([v.1],v.2)∈fs:=wG.mp hv;have:=g.pre _ hv f i (b::r) (by rw[c,e];rfl);cases this
theorem GT (g:yj d fs):∀p∈pieces fs,z9 p.1=true/\p.2≠[]:=λp i=>by
 rcases ZR.mp i with z|z
 .obtain⟨v,hv,rfl⟩:=Zr.mp z;exact⟨(g.wL _<|wG.mp hv).2.2.1 _<|Zl.mpr rfl,Yr _ _⟩
 .obtain⟨l,hl,rfl⟩:=Zr.mp z;obtain⟨f,e,b,r,c⟩:=((xR fs).2 l).mp hl;refine⟨(g.wL f e).2.2.1 _ (by rw[c];exact Zs ..),List.ne_nil_of_mem (a:=(b::r,f.2))<|wH.mpr ⟨Yr _ _,?_⟩⟩;have:f=(l::b::r,f.2):=Mp c rfl;exact this▸e
theorem sub_len:(sub fs l).length<=fs.length:=List.length_filterMap_le _ _
theorem jA (fs:Dk):(Cw fs).length+(CC fs).length<=fs.length:=by
 induction fs using snoc_ind with
 |h0=>exact Zt _
 |h1 fs f ih =>
  rw[vQ,kG,ZB,ZB]
  match e:f.1 with
  |[]=>show(Cw fs).length+0+(CC fs).length<=fs.length+1;lia
  |[a]=>show(Cw fs).length+1+(CC fs).length<=fs.length+1;lia
  |a::b::r =>
   show _+0+(qM (CC fs) a).length<=_+1;unfold qM
   split
   .lia
   .rw[ZB];show _+0+(_+1)<=_+1;lia
theorem Hz {d e:Nat}(ok:wM S)(g:yj n fs)(hl:fs.length<=63)(hs:S.length+1+wt fs<=2000)
  (H:∀l∈CC fs,∀S,wM S->S.length+1+wt (sub fs l)<=2000->sV (e+1) S (sub fs l) (UG d S<|sub fs l)/\(UG d S<|sub fs l).1.length<=S.length+1+wt (sub fs l)) :
  sV (e+2) S fs (UG (d+1) S fs)/\(UG (d+1) S fs).1.length<=S.length+1+wt fs:=by
 have hm:=many fs;have r:=jA fs;obtain⟨p,t⟩:=X6 (d:=e) (Cw fs) (Fo.nil ok) (λv hv=>(g.wL _<|wG.mp hv).2.2.2) (by lia);have b:=Kx (CC fs) H (S:=((Cw fs).foldl Cr (S,[])).1) (Do:=((Cw fs).foldl Cr (S,[])).2) p (by lia);obtain⟨c,j⟩:=b;rw[NF];rw[V3]at c;have o:pieces fs=(Cw fs).map (λv=>(v.1,[(([],v.2):Fi)]))++(CC fs).map λl=>(l,sub fs l):=rfl;rw[<-o]at c;have c:Fo (e+1) S ((CC fs).foldl (Cu d fs)<|(Cw fs).foldl Cr (S,[])).1 ((CC fs).foldl (Cu d fs)<|(Cw fs).foldl Cr (S,[])).2 (pieces fs):=c;have j:((CC fs).foldl (Cu d fs)<|(Cw fs).foldl Cr (S,[])).1.length<=_:=j;generalize (CC fs).foldl (Cu d fs) ((Cw fs).foldl Cr (S,[]))=q at c j ⊢;have s:q.2.length<=63:=by
  rw[c.len,o,ZB,Zk,Zk];lia
 obtain⟨i,r⟩:=c.put s (XD g) (GT g) (by lia);exact⟨⟨i.ok,i.new,i.tree,λf=>by rw[i.rd,K0 g],i.node⟩,by lia⟩
theorem Ia:∀(d:Nat) {S:Di} {fs:Dk},wM S->yj (d+1) fs->fs.length<=63->S.length+1+wt fs<=2000->sV (d+2) S fs (UG (d+1) S fs)/\(UG (d+1) S fs).1.length<=S.length+1+wt fs
 | 0,S,fs,ok,g,hl,hs=>Hz ok g hl hs λl hl=>by
  obtain⟨f,j,b,r,i⟩:=((xR fs).2 l).mp hl;have:=(g.wL f j).2.1;rw[i,ZF,ZF]at this;lia
 |d+1,S,fs,ok,g,hl,hs=>Hz ok g hl hs λl _ n e c=>Ia d e (g.sub l) (Yk sub_len hl) c
end An
namespace AxS
open PySem PySem.Spec PyProof.Rows
theorem XY (t:Ly)(n:Nat):(t.orStandIn n).led=t.led/\(t.plain=false->(t.orStandIn n).plain=false):=by
 unfold SetTable.orStandIn
 split
 .exact⟨rfl,id⟩
 .exact⟨rfl,λ_=>rfl⟩
theorem CY (t:Ly)(es:Array<|Int×Ep)(h:Int)(x:Ep):(layNew t es h x).2.1.led=t.led/\(t.plain=false->(layNew t es h x).2.1.plain=false):=by
 unfold layNew
 split
 .rename_i slot b _;have m:=XY (t.put slot).1 (SetTable.insertAt es (t.put slot).2 (h,x)).size;exact⟨m.1,m.2⟩
 .exact⟨rfl,λ_=>rfl⟩
theorem KK {d b c:Nat}{led plain:Bool}{hs:Array Int}{t:Ly}{o:Array Nat}(h:SetTable.laid d b c led plain hs=some (t,o)):t.led=led/\t.plain=plain:=by
 unfold SetTable.laid at h;simp only[Option.bind_eq_bind,Option.bind_eq_some_iff,Option.pure_def,Option.some.injEq,Prod.mk.injEq]at h;obtain⟨_,_,h,_⟩:=h;rw[<-h];exact⟨rfl,rfl⟩
theorem Gy (t:Ly)(es:Array<|Int×Ep)(n:Nat):(relayAll t es n).2.1.led=t.led/\(t.plain=false->(relayAll t es n).2.1.plain=false):=by
 unfold relayAll
 split
 .rename_i c b he;have m:=KK he;dsimp only
  split
  .exact⟨m.1,λz=>m.2.trans z⟩
  .exact⟨rfl,λ_=>rfl⟩
 .exact⟨rfl,λ_=>rfl⟩
def keyOf (e:Int×Ep):Str:=match e.2 with
 | .str k _=>k
 |_=>""
def OP (prog:Er)(w:Eu)(es:Array<|Int×Ep)(t:Ly)(ks:Da):Prop :=
 ElemsOf (strKind prog w) es.toList/\(es.toList.map keyOf).Perm ks/\es.size<Mx/\t.fits es.size=true/\t.led=!(w.params.followText "set-order")/\(es.size≠0->t.plain=false)
def wQ (prog:Er)(w:Eu)(h:EI)(a:Eo)(ks:Da):Prop:=∃o b c t,h.get? a=some o/\o.ExactSet/\o.data=.set b c t/\OP prog w b t ks
section
variable {prog:Er}{w:Eu}{A:EJ}{E:Ep->Dh}{s:Et}
theorem wQ.at {h':EI}(x:wQ prog w h a ks)(e:∀o,h.get? a=some o->h'.get? a=some o):wQ prog w h' a ks:=by
 obtain⟨o,c,b,t,d,r⟩:=x;exact⟨o,c,b,t,e _ d,r⟩
theorem key_is {es:Array (Int×Ep)}(h:ElemsOf (strKind prog w) es.toList){e:Int×Ep}(he:e∈es.toList)(k:Str):(strKind prog w).is k e.2=true↔keyOf e=k:=by
 obtain⟨⟨c,b,_⟩,_⟩:=h e he;obtain⟨t,d⟩:=Y4 b;have ek:keyOf e=c:=by unfold keyOf;rw[d]
 constructor
 .intro z;rw[ek];exact(strKind prog w).inj e.2 c k b z
 .intro z;rwa[<-z,ek]
theorem F6 {es:Array (Int×Ep)}{ks:Da}(h:ElemsOf (strKind prog w) es.toList)(p:(es.toList.map keyOf).Perm ks)(k:Str):k∈ks↔∃e∈es.toList,(strKind prog w).is k e.2=true:=by
 rw[<-p.mem_iff,Zr];exact⟨λ⟨e,he,z⟩=>⟨e,he,(key_is h he k).mpr z⟩,λ⟨e,he,z⟩=>⟨e,he,(key_is h he k).mp z⟩⟩
theorem M3 {es:Array (Int×Ep)}{t:Ly}{ks:Da}(x:OP prog w es t ks):es.size=ks.length:=by
 rw[<-x.2.1.length_eq,Zk,ZT]
theorem WW {k:Str}{tk:Tok}{Q:Bool->Dh}(hS:wQ prog w s.heap a ks)(ah:ks.length+1<Mx)
  (h:∀h' r,Lp a s.heap h'->wQ prog w h' a (if k∈ks then ks else ks++[k])->Q r { s with heap:=h' }) :
  Es (Ez prog w) A (setAddHashed a (.str k tk)<|hashStr w k) Q E s:=by
 obtain⟨o,y,T,t,M,C,hd,X⟩:=hS;have Dq:=M3 X;obtain⟨l,R,hb,U,n,ad⟩:=X;have D7:(strKind prog w).is k (.str k tk)=true:=by show Le k (.str k tk)=true;simp[Le]
 have G:(L8 k tk).scannable=true:=rfl;have hh:hashStr w k=(strKind prog w).hash k:=rfl;rw[hh];unfold setAddHashed setAddHashedIn;refine Yp<|Zm<|Jz M hd U ?_;dsimp only;rw[byScan_of (knd:=strKind prog w) G hb l];simp only[↓reduceIte];unfold setAddByScan;refine Zm<|Zm<|J4<|Zm<|wpAny_setScan_of (knd:=strKind prog w) D7 M hd U l ?_;cases hr:List.findIdx? (λe=>(strKind prog w).is k e.2) y.toList with
 |some j =>
  obtain⟨hj,ac,_⟩:=List.findIdx?_eq_some_iff_getElem.mp hr;have hk:k∈ks:=(F6 l R k).mpr ⟨y.toList[j],Yo hj,ac⟩;have:=h s.heap false (Heap.SameBut.refl a s.heap) (by rw[ZK hk];exact⟨o,y,T,t,M,C,hd,l,R,hb,U,n,ad⟩);exact Zu<|Zu this
 |none =>
  have hk:k∉ks:=λz=>by
   obtain⟨e,he,q⟩:=(F6 l R k).mp z;have:=List.findIdx?_eq_none_iff.mp hr e he;rw[q]at this;cases this
  rw[ZH hk]at h;have J:∀(b:Bool) {u:Et} {S:Unit->Dh},S () u->Es (Ez prog w) A (match b with|true=>rule "set.scan.the-table-gave-way"|false=>LC ()) S E u:=by
   intro b u S hq;cases b
   .exact Zu hq
   .exact J4 hq
  have d:=layNew_perm t y ((strKind prog w).hash k)<|.str k tk;have g:=layNew_fits t y ((strKind prog w).hash k)<|.str k tk;have x:=CY t y ((strKind prog w).hash k)<|.str k tk;dsimp only;generalize layNew t y ((strKind prog w).hash k) (.str k tk)=L at d g x ⊢;obtain⟨c,t1,wd,ai⟩:=L;dsimp only at d g x ⊢;rw[Array.toList_push]at d;have am:c.size=y.size+1:=by rw[<-ZT,d.length_eq,ZB,ZT];rfl
  have B:ElemsOf (strKind prog w) c.toList:=(l.push D7 G).perm d;have N:(c.toList.map keyOf).Perm (ks++[k]):=by
   refine(d.map keyOf).trans ?_;rw[Zx];exact R.append<|List.Perm.refl _
  have I:c.size<scanBound:=by lia
  refine Zm<|J _ ?_;have tail:∀(f:Ly),f.fits c.size=true->f.led=t.led->f.plain=false->Es (Ez prog w) A (do
    storeSet a c f
    if(!wd&&f.tooFull)=true then do
      (match(relayAll f c<|LN c.size).2.2 with|true=>rule "set.scan.the-table-gave-way"|false=>LC ())
      storeSet a (relayAll f c<|LN c.size).1 (relayAll f c<|LN c.size).2.1
      LC (some true)
     else LC (some true)) (λr s'=>r=some true/\Q true s') E s:=by
   intro f Y K O;refine Zm<|wpAny_storeSet_of M hd ?_<|fits_of_scanBound I;have P:=E6 s.heap a<|MJ c f;have F:(s.heap.update a<|MJ c f).get? a=some { o with data:=.set c (T+1) f }:=by
    have:=Yd (MJ c f) M (by rw[putSet_of c f hd];rfl);rw[putSet_of c f hd]at this;exact this
   split
   .have p:=relayAll_perm f c<|LN c.size;have D:=relayAll_fits f c<|LN c.size;have v:=Gy f c<|LN c.size;generalize relayAll f c (LN c.size)=Rl at p D v ⊢;obtain⟨i,H,gv⟩:=Rl;dsimp only at p D v ⊢;have al:i.size=c.size:=by rw[<-ZT,p.length_eq,ZT]
    refine Zm (J _<|Zm<|wpAny_storeSet_of F rfl ?_<|fits_of_scanBound<|by lia);have Z:((s.heap.update a<|MJ c f).update a<|MJ i H).get? a=some { o with data:=.set i (T+1+1) H }:=by
     have:=Yd (MJ i H) F (by rw[putSet_of i H rfl];rfl);rw[putSet_of i H rfl]at this;exact this
    exact Zu ⟨rfl,h _ true (P.trans<|E6 _ a _) ⟨_,i,_,H,Z,C,rfl,B.perm p,((p.map keyOf)).trans N,by lia,D,v.1.trans<|K.trans n,λ_=>v.2 O⟩⟩
   .exact Zu ⟨rfl,h _ true P ⟨_,c,_,f,F,C,rfl,B,N,I,Y,K.trans n,λ_=>O⟩⟩
  split
  .refine Zm ?_;rw[hashByValue_scannable 8 G];refine Zu ?_;refine Yy (tail { t1 with plain:=false } (SetTable.fits_plain_off g) x.1 rfl) (λr s' q=>?_) λ_ _ z=>z;obtain⟨rfl,q⟩:=q;exact Zu q
  .rename_i ab;refine Zm<|Zu ?_;simp only[↓reduceIte];refine Yy (tail t1 g x.1<|by simpa using ab) (λr s' q=>?_) λ_ _ z=>z;obtain⟨rfl,q⟩:=q;exact Zu q
def step (ks:Da)(k:Str):Da:=if k∈ks then ks else ks++[k]
def uniq (xs:Da):Da:=xs.foldl step []
theorem Bb (xs:Da)(k:Str):uniq (xs++[k])=step (uniq xs) k:=by unfold uniq;rw[Jy];rfl
theorem RJ (ks:Da)(k:Str):(step ks k).length<=ks.length+1:=by unfold step;split<;>simp
theorem rF:∀(n:Nat) (xs:Da),xs.length=n->(uniq xs).length<=n
 | 0,xs,h=>by rw[YV h];exact Zt _
 |n+1,xs,h=>by
  have b:xs≠[]:=λz=>by rw[z]at h;cases h
  rw[<-List.dropLast_concat_getLast b,Bb];have:=rF n xs.dropLast (by rw[List.length_dropLast];lia);have:=RJ (uniq xs.dropLast)<|xs.getLast b;lia
theorem OJ {xs:Da}{i:Nat}{k:Str}(h:xs[i]?=some k):uniq (xs.take<|i+1)=if k∈uniq (xs.take i) then uniq (xs.take i) else uniq (xs.take i)++[k]:=by
 have e:xs.take (i+1)=xs.take i++[k]:=by rw[Yi,h];rfl
 rw[e,Bb];rfl
end
section
variable {prog:Er}{w:Eu}{A:EJ}{R:Result->Dh}{I:Eo}{fp wr:Dd}{G:Array GenState->Array GenState->Prop}{n:Nat}{P:Nat->Ep->Prop}{St:Nat->Dh}
theorem Ta (W:WalksS prog w A.in1 I fp wr G n P St)(S:Eo)(j:S∉fp)(xs:Da)(hn:xs.length=n)(y:∀i v,P i v->∃k t,xs[i]?=some k/\v=.str k t)(hb:n+1<Mx) :
  ∀(m i:Nat) (s:Et),n-i=m->i<=n->St i s->wQ prog w s.heap S (uniq<|xs.take i) ->
   (∀s',Moved (S::wr) G s s'->wQ prog w s'.heap S (uniq xs)->R (.ok<|.ret .none) s')->LS (Ez prog w) A (.builtin "set.update.loop" ⟨[.ref S,.ref I],[]⟩) R s:=by
 have l:S∉wr:=λh=>j<|W.sub _ h;have c:∀b∈wr,b∈S::wr:=λb hb=>Zn _ hb;intro m
 induction m with
 |zero =>
  intro i s hk J d z B;have D:i=n:=by lia
  subst D;refine Jh Vg ?_;rw[Lz Jj _];show Es _ A.in1 (LR (.ref I)>>=_) _ _ s;refine Zm<|W.done s _ _ d λs' hm=>?_;show Es _ A.in1 (ret EH) _ _ s';rw[<-hn,ZV]at z;exact Zu<|B s' (hm.mono c)<|z.at λo e=>hm.heap S _ l e
 |succ m ih =>
  intro i s hk J d z B;have p:i<n:=by lia
  refine Jh Vg ?_;rw[Lz Jj _];show Es _ A.in1 (LR (.ref I)>>=_) _ _ s;refine Zm<|W.item i s _ _ p d λv s' H x hm=>?_;obtain⟨k,t,E,rfl⟩:=y i v H;have C:=z.at (h':=s'.heap) λo e=>hm.heap S _ l e;show Es _ A.in1 (MG [L8 k t] (setAdd S<|.str k t)>>=_) _ _ s';refine Zm<|Yp ?_;unfold setAdd;refine Yp ?_;refine Zm ((strKind prog w).pyHash (k:=k) (by show Le k (.str k t)=true;simp[Le]) ?_);have hl:=rF _ (xs.take i) rfl;rw[ZS]at hl;refine WW (s:={ s' with toks:=s'.toks+1 }) C (by lia) λh' r u g=>?_;rw[<-OJ E]at g;refine Zu ⟨Vi Jj _,ih (i+1) _ (by lia) p (W.frame _ s' _ _ x (JM _) λb hb o e=>?_) g λF q f=>?_⟩
  .rw[u.2 b (λh:b=S=>j<|by rwa[<-h])];exact e
  .refine B F (Moved.trans W.gtrans ((hm.mono c).then_heap (JM _) λb o hb e=>?_) q) f;rw[u.2 b (λh:b=S=>hb (by rw[h];exact Zs))];exact e
end
section
variable {prog:Er}{w:Eu}{A:EJ}{E:Ep->Dh}{s:Et}
def xC (w:Eu):Obj:={ cls:=.type "set",dict:=none,data:=.set #[] 0 (.fresh 0 0<|!(w.params.followText "set-order")) }
theorem RP {h:EI}{a:Eo}{xs:Da}(e:h.get? a=some (xC w)):wQ prog w h a (uniq<|xs.take 0) :=
 ⟨_,#[],0,_,e,⟨rfl,rfl,rfl⟩,rfl,λ_ z=>by simp at z,List.Perm.refl _,by decide,by rfl,rfl,λz=>absurd rfl z⟩
theorem Fj (a:Ep){Q₁:Ep->Dh}(h:Q₁ (.ref s.heap.objs.size) { s with heap:=s.heap.push (xC w) }) :
  LS (Ez prog w) A (.call (.builtin "set.__new__") ⟨[.type "set",a],[]⟩) (wants Q₁ E) s:=by
 refine codeAny_of_tree ?_;show Es _ A.in1 (do checkBuiltinCall "set.__new__" ⟨[.type "set",a],[]⟩;again (.builtin "set.__new__" ⟨[.type "set",a],[]⟩)) _ _ s;refine Zm<|JN (F.newCall_set_1 a)<|Zu ⟨Vi F.plain_set_new _,Jh F.entry_set_new ?_⟩;rw[Lz F.plain_set_new _];unfold Builtin.«set.__new__» Builtin.Frozenset.newClass;have b:=sub_set_self;obtain⟨c,g,d,tk,os⟩:=s;dsimp only
 wp_walk
 refine JK<|Zu ?_;dsimp only;simp only[newObj];refine Zm<|wpAny_alloc<|Zu ?_;exact Zu h
theorem sub_list_set:isSubtype (.type "list") (.type "set")=LC false:=by rw[JL];kernel_rfl
theorem sub_list_frozenset:isSubtype (.type "list") (.type "frozenset")=LC false:=by rw[JL];kernel_rfl
theorem sub_tuple_set:isSubtype (.type "tuple") (.type "set")=LC false:=by rw[JL];kernel_rfl
theorem sub_tuple_frozenset:isSubtype (.type "tuple") (.type "frozenset")=LC false:=by rw[JL];kernel_rfl
end
section
variable {M:Model}{A:EJ}{E:Ep->Dh}{s:Et}
theorem BE {src:Source}{n:Nat}{Q:Nat->Dh}(hn:n≠0)(h:∀i,i<n->Q i { s with drawn:=s.drawn.bump src }):Es M A (choose src n) Q E s :=
 λb p _=>⟨hn,h _<|Nat.mod_lt _<|Nat.pos_of_ne_zero hn⟩
theorem IY {b:Type}{xs:List b}{i:Nat}{x:b}(h:xs[i]?=some x):(x::xs.eraseIdx i).Perm xs:=by
 induction xs generalizing i with
 |nil=>cases h
 |cons y ys ih =>
  cases i with
  |zero =>
   have h:y=x:=Option.some.inj h;subst h;exact List.Perm.refl _
  |succ i =>
   have h:ys[i]?=some x:=by simpa using h
   show(x::y::ys.eraseIdx i).Perm (y::ys);exact(List.Perm.swap y x _).trans (List.Perm.cons y<|ih h)
theorem j4 {f:Type}:∀(n:Nat) (xs:List f) (s:Et) {Q:List f->Dh},xs.length<=n->(∀ys d,ys.Perm xs->Q ys { s with drawn:=d })->Es M A (drawOrder n xs) Q E s
 | 0,xs,s,Q,hl,h=>by
  have e:xs=[]:=YV (by lia);subst e;exact Zu<|h [] s.drawn<|List.Perm.refl _
 |n+1,[],s,Q,hl,h=>Zu<|h [] s.drawn<|List.Perm.refl _
 |n+1,x::xs,s,Q,hl,h=>by
  refine Zm (BE (by simp) λi b=>?_);have c:(x::xs)[i]?=some ((x::xs)[i]):=Zv b;have g:=IY c;show Es M A (match(x::xs)[i]? with|some x_1=>_|none=>_) Q E _;rw[c];refine Zm (j4 n _ _ (by rw[List.length_eraseIdx_of_lt b];simp at hl ⊢;lia) λys d j=>?_);exact Zu<|h _ d<|(List.Perm.cons _ j).trans g
theorem ND {d:Type}(next:Nat->Nat):∀(fuel k:Nat) (left:List d) (out:Array d),left.length=fuel->(pickOrder.go next fuel k left out).toList.Perm (out.toList++left)
 | 0,k,left,out,h=>by
  rw[YV h,Z2];exact List.Perm.refl _
 |fuel+1,k,left,out,h=>by
  unfold pickOrder.go;have b:next k % left.length<left.length:=Nat.mod_lt _ (by lia);have c:left[next k % left.length]?=some (left[next k % left.length]):=Zv b;rw[c];refine(ND next fuel (k+1) _ _ (by rw[List.length_eraseIdx_of_lt b];lia)).trans ?_;rw[Array.toList_push,YC];exact List.Perm.append_left _<|IY c
theorem Xo {b:Type}(next:Nat->Nat)(xs:Array b):(Mn next xs).toList.Perm xs.toList:=by
 have:=ND next xs.size 0 xs.toList #[] (by simp);simpa[Mn] using this
end
section
variable {prog:Er}{w:Eu}{A:EJ}{E:Ep->Dh}{s:Et}
def byText (w:Eu):Bool:=w.params.followText "set-order"
theorem Ig {a:Eo}{o:Obj}{es:Array (Int×Ep)}{ep:Nat}{t:Ly}{Q:Bool->Dh}(c:s.heap.get? a=some o)(hd:o.data=.set es ep t)(b:t.fits es.size=true)
  (h:Q (!byText w&&(!t.plain&&decide (es.size>1))) s):Es (Ez prog w) A (setDrawn a) Q E s:=by
 unfold setDrawn setsByText;refine Zm<|Jz c hd b ?_;refine Zm<|Zm<|JK<|Zu ?_;exact Zu h
theorem Kw:entryFor table "set.__iter__"=some Builtin.«frozenset.__iter__» :=
 entryFor_alias (id':="frozenset.__iter__") (by kernel_rfl) (by first|rfl|decide+kernel|(unfold String.splitOn;simp +decide [String.splitOnAux])) (by decide+kernel) (by kernel_rfl)
theorem Ho:Manifest.owners.lookup (String.ofList ['r','o','t','a','r','e','t','i','_','t','e','s'].reverse)=some Manifest.sig_set_iterator:=by kernel_rfl
theorem slot_next:Slot "set_iterator" "__next__" "set_iterator.__next__" :=
 .of (owner:="set_iterator") (n:="__next__") (by rw[typeLookup_type,builtinLookup_eq_fast];kernel_rfl) (by decide+kernel) (by decide+kernel) (by decide+kernel)
  (by first|exact .inl (by decide+kernel)|exact .inr (by decide+kernel)) (by rw[JL];kernel_rfl)
theorem entry_next:entryFor table "set_iterator.__next__"=some Builtin.«set_iterator.__next__»:=entryFor_of_tree (by kernel_rfl)
theorem args_next (a:Ep):argsOk "set_iterator.__next__" ⟨[a],[]⟩:=by
 unfold argsOk;rw[signature?_of (id:="set_iterator.__next__") (n:=['_','_','t','x','e','n','_','_']) (o:=['r','o','t','a','r','e','t','i','_','t','e','s']) (by kernel_rfl) Ho];kernel_rfl
theorem XR:Slot "set_iterator" "__iter__" "set_iterator.__iter__" :=
 .of (owner:="set_iterator") (n:="__iter__") (by rw[typeLookup_type,builtinLookup_eq_fast];kernel_rfl) (by decide+kernel) (by decide+kernel) (by decide+kernel)
  (by first|exact .inl (by decide+kernel)|exact .inr (by decide+kernel)) (by rw[JL];kernel_rfl)
theorem Fq (a:Ep):argsOk "set_iterator.__iter__" ⟨[a],[]⟩:=by
 unfold argsOk;rw[signature?_of (id:="set_iterator.__iter__") (n:=['_','_','r','e','t','i','_','_']) (o:=['r','o','t','a','r','e','t','i','_','t','e','s']) (by kernel_rfl) Ho];kernel_rfl
theorem CT:entryFor table "set_iterator.__iter__"=some Builtin.«dict_keyiterator.__iter__» :=
 entryFor_alias (id':="dict_keyiterator.__iter__") (by kernel_rfl) (by first|rfl|decide+kernel|(unfold String.splitOn;simp +decide [String.splitOnAux])) (by decide+kernel) (by kernel_rfl)
def Nm (first:Ep)(i:Int)(a:Eo)(n ep:Nat):Obj:={ cls:=.type "set_iterator",data:=.fields #[first,E9 i,.ref a,E9 n,E9 ep] }
theorem Pn {a:Eo}{o:Obj}{es:Array (Int×Ep)}{ep:Nat}{t:Ly}{Q:Ep->Dh}(b:s.heap.get? a=some o)(n:o.ExactSet)(hd:o.data=.set es ep t)(c:t.fits es.size=true)(hz:es.size<=1000)
  (h1:(!byText w&&(!t.plain&&decide (es.size>1)))=false->Q (.ref s.heap.objs.size) { s with heap:=s.heap.push (Nm (E9 0) 0 a es.size ep) })
  (l:(!byText w&&(!t.plain&&decide (es.size>1)))=true->∀(ps:List Nat) d tk,ps.Perm (ET es.size)->Q (.ref<|s.heap.objs.size+1) { s with heap:=(s.heap.push { cls:=.type "tuple",data:=.seq (ps.map λi=>E9 (i:Nat)).toArray }).push (Nm (.ref s.heap.objs.size) 0 a es.size ep),drawn:=d,toks:=tk }) :
  Es (Ez prog w) A (pyIter<|.ref a) Q E s:=by
 have g:s.TypeIs (.ref a) "set":=⟨o,b,n.1⟩;refine wpAny_pyIter_slot g PySem.F.slot_set_iter<|Yq PySem.F.slot_set_iter g Kw ?_<|PySem.F.args_set_iter_1 _;unfold Builtin.«frozenset.__iter__»;refine Zm (m:=Builtin.Frozenset.slot0 _ _)<|JN (a:=a) rfl ?_;unfold Builtin.Frozenset.sizeOf;refine Zm<|Zm<|JE b hd c<|Zu ?_;refine Zm<|Ig b hd c ?_;cases q:(!byText w&&(!t.plain&&decide (es.size>1))) with
 |false =>
  rw[ZH<|by decide];refine Zm<|Zu<|Zm<|wpAny_setEpoch_of b hd c ?_;simp only[newFields];refine Zm<|Yh ?_;exact Zu ⟨_,rfl,"set_iterator",_,⟨_,Zz _ rfl,rfl⟩,slot_next.lookup,h1 q⟩
 |true =>
  rw[ZK rfl];refine Zm (j4 es.size (ET es.size) s (by rw[YI];exact Zt _) λps d j=>?_);have p:ps.length=es.size:=by rw[j.length_eq,YI]
  simp only[newTuple];refine Zm<|Yh ?_ ?_
  .have f:(s.heap.push { cls:=.type "tuple",data:=.seq (ps.map λi=>E9 (i:Nat)).toArray }).get? a=some o:=Zp _ b;refine Zm<|wpAny_setEpoch_of (s:={ s with heap:=s.heap.push { cls:=.type "tuple",data:=.seq (ps.map λi=>E9 (i:Nat)).toArray },drawn:=d }) f hd c ?_;simp only[newFields];refine Zm<|Yh ?_;have e:(s.heap.push { cls:=.type "tuple",data:=.seq (ps.map λi=>E9 (i:Nat)).toArray }).objs.size=s.heap.objs.size+1:=Je _ _;refine Zu ⟨_,rfl,"set_iterator",_,⟨_,Zz _ rfl,rfl⟩,slot_next.lookup,?_⟩;have:=l q ps d s.toks j;rw[<-e]at this;exact this
  .show(ps.map λi=>E9 (i:Nat)).toArray.size<=sizeLine;rw[ZP,Zk,p,YK];lia
theorem qO {it:Eo}(h:s.heap.get? it=some (Nm f i a n ep)):s.TypeIs (.ref it) "set_iterator":=⟨_,h,rfl⟩
theorem GR {it a:Eo}{o:Obj}{es:Array (Int×Ep)}{ep:Nat}{t:Ly}{slot i D8:Nat}{x:Ep}{Q:Dc->Dh}(hit:s.heap.get? it=some (Nm (E9 slot) i a es.size ep))(e:a≠it)(f:s.heap.get? a=some o)(hd:o.data=.set es ep t)(d:t.fits es.size=true)
  (hn:∀(A:EJ) (E:Ep->Dh) (Q:Option (Ep×Nat)->Dh),Q (some (x,D8)) s->Es (Ez prog w) A (setNext a slot i ep) Q E s)
  (h:∀h',h'.get? it=some (Nm (E9 D8) (i+1) a es.size ep)->Lp it s.heap h'->Q (some x) { s with heap:=h' }):Es (Ez prog w) A (LR<|.ref it) Q E s:=by
 unfold LR;refine Zm<|Jn<|Yz (name:=EZ "__next__") (qO hit) slot_next<|Yq slot_next (qO hit) entry_next ?_<|args_next _
 unfold Builtin.«set_iterator.__next__»;refine Zm<|JN (a:=(EB it,[])) rfl ?_;refine Zm<|VM hit rfl ?_;show Es _ _ (setEntries a>>=_) _ _ s;refine Zm<|JE f hd d ?_;have b:(((es.size:Nat):Int) !=((es.size:Nat):Int))=false:=by simp
 rw[ZH (by rw[b];decide)];show Es _ _ (setNext a slot i ep>>=_) _ _ s;refine Zm<|hn _ _ _ ?_;show Es _ _ (setField (.ref it) 0 (E9 D8)>>=_) _ _ s;refine Zm (YJ hit rfl (by simp) ?_);have h1:=Yd (LB (·.setIfInBounds 0 (E9 (D8:Nat)))) hit rfl;refine Zm (YJ h1 rfl (by simp) ?_);have c:=Yd (LB (·.setIfInBounds 1 (E9<|(i:Int)+1))) h1 rfl;exact Zu ⟨x,rfl,Zu<|h _ c<|(E6 ..).trans<|E6 ..⟩
theorem kT {it a:Eo}{o:Obj}{es:Array (Int×Ep)}{ep:Nat}{t:Ly}{slot i:Nat}{Q:Dc->Dh}(hh:A.handled=none)(hit:s.heap.get? it=some (Nm (E9 slot) i a es.size ep))(e:s.heap.get? a=some o)(hd:o.data=.set es ep t)(d:t.fits es.size=true)
  (hn:∀(A:EJ) (E:Ep->Dh) (Q:Option (Ep×Nat)->Dh),Q none s->Es (Ez prog w) A (setNext a slot i ep) Q E s)
  (h:∀h',MC it s.heap h'->Q none { s with heap:=h' }):Es (Ez prog w) A (LR<|.ref it) Q E s:=by
 unfold LR;refine Zm<|Jn<|Yz (name:=EZ "__next__") (qO hit) slot_next<|Yq slot_next (qO hit) entry_next ?_<|args_next _
 unfold Builtin.«set_iterator.__next__»;refine Zm<|JN (a:=(EB it,[])) rfl ?_;refine Zm<|VM hit rfl ?_;show Es _ _ (setEntries a>>=_) _ _ s;refine Zm<|JE e hd d ?_;have c:(((es.size:Nat):Int) !=((es.size:Nat):Int))=false:=by simp
 rw[ZH (by rw[c];decide)];show Es _ _ (setNext a slot i ep>>=_) _ _ s;refine Zm<|hn _ _ _ ?_;show Es _ _ (setField (.ref it) 2 .none>>=_) _ _ s;refine Zm (YJ hit rfl (by simp) ?_);refine Zm ?_;simp only[newExc,newTuple];refine Zm (Yh ?_<|by size_fits);refine Zm (m:=L5 _ _) (JN (a:=EH) (by first|rfl|(simp only[L5];rfl)) ?_);refine Yh ?_ (by size_fits);simp only[raiseNew];refine Zm<|wpAny_handled ?_
 first|rw[show A.in1.handled=none from hh]|rw[hh]
 refine Zm<|Zu<|wpAny_throw ?_;refine Zm<|Jb (T:="StopIteration") (b:=true) ⟨_,Zz _ rfl,rfl⟩ VI ?_;refine Zu<|h _ ?_;refine((Heap.ExtBut.push ?_ _).push _);exact(E6 ..).extBut
def S8 (ps:List Nat):Obj:={ cls:=.type "tuple",data:=.seq (ps.map λi=>E9 (i:Nat)).toArray }
theorem KR {it a u:Eo}{o:Obj}{es:Array (Int×Ep)}{ep:Nat}{t:Ly}{i p:Nat}{ps:List Nat}{e:Int×Ep}{Q:Dc->Dh}(hit:s.heap.get? it=some (Nm (.ref u) i a es.size ep))(n:s.heap.get? u=some (S8 ps))(d:s.heap.get? a=some o)(hd:o.data=.set es ep t)(c:t.fits es.size=true)
  (l:ps[i]?=some p) (he:es[p]?=some e) (h:∀h',h'.get? it=some (Nm (.ref u) (i+1) a es.size ep)->Lp it s.heap h'->Q (some e.2) { s with heap:=h' }):Es (Ez prog w) A (LR<|.ref it) Q E s:=by
 unfold LR;refine Zm<|Jn<|Yz (name:=EZ "__next__") (qO hit) slot_next<|Yq slot_next (qO hit) entry_next ?_<|args_next _
 unfold Builtin.«set_iterator.__next__»;refine Zm<|JN (a:=(EB it,[])) rfl ?_;refine Zm<|VM hit rfl ?_;show Es _ _ (setEntries a>>=_) _ _ s;refine Zm<|JE d hd c ?_;have f:(((es.size:Nat):Int) !=((es.size:Nat):Int))=false:=by simp
 rw[ZH (by rw[f];decide)];show Es _ _ (seqItems? (.ref u)>>=_) _ _ s;refine Zm<|J5 n rfl ?_;have b:(ps.map λi=>E9 ((i:Nat):Int)).toArray[i]?=some (E9 (p:Nat)):=by
  rw[VR,Zy,l];rfl
 show Es _ _ (match(ps.map λi=>E9 ((i:Nat):Int)).toArray[i]? with|some (.int place _)=>_|some _=>_|none=>_) _ _ s;rw[b];show Es _ _ (setNextDrawn a p ep>>=_) _ _ s;unfold setNextDrawn;refine Zm<|Zm<|Jz d hd c ?_;have g:(ep !=ep)=false:=by simp
 dsimp only;rw[ZH (by rw[g];decide)];rw[he];refine Zu ?_;show Es _ _ (setField (.ref it) 1 (E9<|(i:Int)+1)>>=_) _ _ s;refine Zm (YJ hit rfl (by simp) ?_);have j:=Yd (LB (·.setIfInBounds 1 (E9<|(i:Int)+1))) hit rfl;exact Zu ⟨e.2,rfl,Zu<|h _ j<|E6 ..⟩
theorem IQ {it a u:Eo}{o:Obj}{es:Array (Int×Ep)}{ep:Nat}{t:Ly}{i:Nat}{ps:List Nat}{Q:Dc->Dh}(hh:A.handled=none)(hit:s.heap.get? it=some (Nm (.ref u) i a es.size ep))(j:s.heap.get? u=some (S8 ps))(f:s.heap.get? a=some o)(hd:o.data=.set es ep t)(e:t.fits es.size=true)
  (g:ps[i]?=none) (h:∀h',MC it s.heap h'->Q none { s with heap:=h' }):Es (Ez prog w) A (LR<|.ref it) Q E s:=by
 unfold LR;refine Zm<|Jn<|Yz (name:=EZ "__next__") (qO hit) slot_next<|Yq slot_next (qO hit) entry_next ?_<|args_next _
 unfold Builtin.«set_iterator.__next__»;refine Zm<|JN (a:=(EB it,[])) rfl ?_;refine Zm<|VM hit rfl ?_;show Es _ _ (setEntries a>>=_) _ _ s;refine Zm<|JE f hd e ?_;have d:(((es.size:Nat):Int) !=((es.size:Nat):Int))=false:=by simp
 rw[ZH (by rw[d];decide)];show Es _ _ (seqItems? (.ref u)>>=_) _ _ s;refine Zm<|J5 j rfl ?_;have c:(ps.map λi=>E9 ((i:Nat):Int)).toArray[i]?=none:=by
  rw[VR,Zy,g];rfl
 show Es _ _ (match(ps.map λi=>E9 ((i:Nat):Int)).toArray[i]? with|some (.int place _)=>_|some _=>_|none=>_) _ _ s;rw[c];show Es _ _ (setField (.ref it) 0 (E9 0)>>=_) _ _ s;refine Zm (YJ hit rfl (by simp) ?_);have h1:=Yd (LB (·.setIfInBounds 0 (E9 0))) hit rfl;refine Zm (YJ h1 rfl (by simp) ?_);refine Zm ?_;simp only[newExc,newTuple];refine Zm (Yh ?_<|by size_fits);refine Zm (m:=L5 _ _) (JN (a:=EH) (by first|rfl|(simp only[L5];rfl)) ?_);refine Yh ?_ (by size_fits);simp only[raiseNew];refine Zm<|wpAny_handled ?_
 first|rw[show A.in1.handled=none from hh]|rw[hh]
 refine Zm<|Zu<|wpAny_throw ?_;refine Zm<|Jb (T:="StopIteration") (b:=true) ⟨_,Zz _ rfl,rfl⟩ VI ?_;refine Zu<|h _ ?_;refine((Heap.ExtBut.push ?_ _).push _);exact((E6 ..).trans<|E6 ..).extBut
end
section
variable {prog:Er}{w:Eu}{A:EJ}{E:Ep->Dh}{s:Et}{a:Eo}{o:Obj}{es:Array (Int×Ep)}{ep:Nat}{t:Ly}
theorem vI {slot i:Nat}{Q:Option (Ep×Nat)->Dh}(hb:byText w=true)(d:s.heap.get? a=some o)(hd:o.data=.set es ep t)(c:t.fits es.size=true)
  (h:Q (((Mn (w.params.setOrder a ep) es)[i]?).map λe=>(e.2,slot)) s):Es (Ez prog w) A (setNext a slot i ep) Q E s:=by
 have b:(Setting.mk (Ez prog w).prog (Ez prog w).w.params).params.followText "set-order"=true:=hb;unfold setNext setsByText;refine Zm<|Jz d hd c ?_;refine Zm<|Zm<|JK<|Zu ?_;dsimp only;rw[ZK b];have f:(ep !=ep)=false:=by simp
 rw[ZH (by rw[f];decide)];unfold setWalk setsByText;refine Zm<|Zm<|Jz d hd c ?_;refine Zm<|Zm<|JK<|Zu ?_;dsimp only;rw[ZK b];refine Zm<|JK ?_;exact Zu<|Zu h
theorem XW {slot i:Nat}{Q:Option (Ep×Nat)->Dh}(hb:byText w=false)(hl:t.led=true)(h1:es.size<=1)(f:s.heap.get? a=some o)(hd:o.data=.set es ep t)(e:t.fits es.size=true)
  (h:Q (match es[Lk t.place slot]?,t.place[Lk t.place slot]? with|some (_,x),some j=>some (x,j+1)|_,_=>none) s):Es (Ez prog w) A (setNext a slot i ep) Q E s:=by
 have b:(Setting.mk (Ez prog w).prog (Ez prog w).w.params).params.followText "set-order"=false:=hb;have c:(!t.plain&&decide (es.size>1))=false:=by rw[ZE<|by lia,Jt]
 have d:(!t.led&&!es.isEmpty)=false:=by rw[hl];rfl
 unfold setNext setsByText;refine Zm<|Jz f hd e ?_;refine Zm<|Zm<|JK<|Zu ?_;dsimp only;rw[ZH (by rw[b];decide)];refine Zm<|Zu ?_;show Es _ _ (if(!t.plain&&decide (es.size>1))=true then _ else _) _ _ _;rw[ZH (by rw[c];decide)];refine Zm ?_;show Es _ _ (if(!t.led&&!es.isEmpty)=true then _ else _) _ _ _;rw[ZH (by rw[d];decide)];exact Zu<|Zu h
theorem BK {it:Eo}{Q:Ep->Dh}(hit:s.heap.get? it=some (Nm f i a n ep))(h:Q (.ref it) s):Es (Ez prog w) A (pyIter<|.ref it) Q E s:=by
 refine wpAny_pyIter_slot (qO hit) XR<|Yq XR (qO hit) CT ?_<|Fq _;show Es _ _ (ret<|.ref it) _ _ s;exact Zu ⟨_,rfl,"set_iterator",_,qO hit,slot_next.lookup,h⟩
theorem bp (hh:A.handled=none)(I:Eo)(c:a≠I)(hb:byText w=true)(hd:o.data=.set es ep t)(d:t.fits es.size=true) :
  Walks prog w A I [I,a] [I] es.size (λi v=>((Mn (w.params.setOrder a ep) es).toList.map (·.2))[i]?=some v) (λi h=>h.get? I=some (Nm (E9 (0:Nat)) (i:Nat) a es.size ep)/\h.get? a=some o) where
 sub:=λb hb=>by simp at hb;simp[hb]
 frame:=λ_ _ _ st hk=>⟨hk I (by simp) _ st.1,hk a (by simp) _ st.2⟩
 item:=λi s Q E n st f=>by
  have hl:(Mn (w.params.setOrder a ep) es).toList.length=es.size:=by rw[(Xo _ es).length_eq,ZT]
  have he:(Mn (w.params.setOrder a ep) es).toList[i]?=some ((Mn (w.params.setOrder a ep) es).toList[i]'(by lia)):=Zv (by lia);generalize (Mn (w.params.setOrder a ep) es).toList[i]'(by lia)=e at he;refine GR (slot:=0) (D8:=0) (x:=e.2) st.1 c st.2 hd d (λA E Q q=>vI hb st.2 hd d ?_) λh' h1 j=>?_
  .rwa[<-Yu,he]
  .exact f _ h' s.toks (by rw[Zy,he];rfl) ⟨h1,(j.2 a c).trans st.2⟩ λb g hb e=>(j.2 b<|by simpa using hb).trans e
 done:=λs Q E st f=>by
  have hl:(Mn (w.params.setOrder a ep) es).toList.length=es.size:=by rw[(Xo _ es).length_eq,ZT]
  refine kT (slot:=0) hh st.1 st.2 hd d (λA E Q q=>vI hb st.2 hd d ?_) λh' l=>f h' s.toks λb g hb e=>l b g (by simpa using hb) e;rwa[<-Yu,Yv<|by lia]
 self:=λ_ _ _ _ st h=>BK st.1 h
theorem br (hh:A.handled=none)(I u:Eo)(l:a≠I)(n:u≠I)(ps:List Nat)(f:ps.Perm<|ET es.size)(hd:o.data=.set es ep t)(y:t.fits es.size=true) :
  Walks prog w A I [I,a,u] [I] es.size (λi v=>(ps.filterMap λp=>(es[p]?).map (·.2))[i]?=some v) (λi h=>h.get? I=some (Nm (.ref u) (i:Nat) a es.size ep)/\h.get? a=some o/\h.get? u=some (S8 ps)) where
 sub:=λb hb=>by simp at hb;simp[hb]
 frame:=λ_ _ _ st hk=>⟨hk I (by simp) _ st.1,hk a (by simp) _ st.2.1,hk u (by simp) _ st.2.2⟩
 item:=λi s Q E F st j=>by
  have hl:ps.length=es.size:=by rw[f.length_eq,YI]
  have d:ps[i]?=some (ps[i]'(by lia)):=Zv (by lia);have hm:ps[i]'(by lia)<es.size:=JF.mp<|f.mem_iff.mp<|Yo _;have he:es[ps[i]'(by lia)]?=some (es[ps[i]'(by lia)]'hm):=YS hm;have all:ps.filterMap (λp=>(es[p]?).map (·.2))=ps.map λp=>(((es[p]?).map (·.2)).getD .none):=by
   have:∀c:List Nat,(∀q∈c,q<es.size)->c.filterMap (λp=>(es[p]?).map (·.2))=c.map λp=>(((es[p]?).map (·.2)).getD .none):=λc=>by
    induction c with
    |nil=>intro _;rfl
    |cons q c ih =>
     intro g;have r:es[q]?=some (es[q]'(g q Zs)):=YS _;rw[Y5,ZL,r];simp only[YO,VU];rw[ih λz D=>g z<|Zn _ D]
   exact this ps λq g=>JF.mp<|f.mem_iff.mp g
  refine KR st.1 st.2.2 st.2.1 hd y d he λh' h1 x=>?_;refine j _ h' s.toks ?_ ⟨h1,(x.2 a l).trans st.2.1,(x.2 u n).trans st.2.2⟩ λb B hb e=>(x.2 b<|by simpa using hb).trans e;rw[all,Zy,d];simp only[YO,he,VU]
 done:=λs Q E st j=>by
  have hl:ps.length=es.size:=by rw[f.length_eq,YI]
  exact IQ hh st.1 st.2.2 st.2.1 hd y (Yv<|by lia) λh' C=>j h' s.toks λb B hb e=>C b B (by simpa using hb) e
 self:=λ_ _ _ _ st h=>BK st.1 h
theorem Ge (xs:Array Nat)(h:xs.size<=1):Lk xs 0=0:=by
 unfold Lk;have b:xs.size=0\/xs.size=1:=by lia
 rcases b with e|e
 .rw[e];rfl
 .rw[e];unfold SetTable.below.go;rw[ZK<|by decide];show(if xs.getD 0 0<0 then _ else _)=_;rw[ZH<|by lia];rfl
theorem NY (xs:Array Nat)(h:xs.size=1):Lk xs (xs.getD 0 0+1)=1:=by
 unfold Lk;rw[h];unfold SetTable.below.go;rw[ZK<|by decide];show(if xs.getD 0 (xs.getD 0 0+1)<xs.getD 0 0+1 then _ else _)=_;have e:∀d,xs.getD 0 d=xs[0]'(by lia):=λd=>by
  rw[Yg,YS<|by lia];rfl
 rw[e,e,ZK<|by lia];rfl
def jx (t:Ly):Nat->Nat
 | 0=>0
 |_+1=>t.place.getD 0 0+1
theorem bq (hh:A.handled=none)(I:Eo)(d:a≠I)(hb:byText w=false)(hl:t.led=true)(h1:es.size<=1)(hd:o.data=.set es ep t)(c:t.fits es.size=true) :
  Walks prog w A I [I,a] [I] es.size (λi v=>(es.toList.map (·.2))[i]?=some v) (λi h=>h.get? I=some (Nm (E9 ((jx t i:Nat):Int)) (i:Nat) a es.size ep)/\h.get? a=some o) where
 sub:=λb hb=>by simp at hb;simp[hb]
 frame:=λ_ _ _ st hk=>⟨hk I (by simp) _ st.1,hk a (by simp) _ st.2⟩
 item:=λi s Q E l st f=>by
  have B:i=0:=by lia
  subst B;have n:t.place.size=es.size:=by
   unfold SetTable.fits at c;rw[Zw]at c;exact Va c.1
  have he:es[0]?=some (es[0]'l):=YS l;have p:t.place[0]?=some (t.place[0]'(by lia)):=YS (by lia);have g:t.place.getD 0 0=t.place[0]'(by lia):=by rw[Yg,p];rfl
  refine GR (slot:=0) (D8:=t.place.getD 0 0+1) (x:=(es[0]'l).2) st.1 d st.2 hd c (λA E Q q=>XW hb hl h1 st.2 hd c ?_) λh' h1 u=>?_
  .rwa[Ge _<|by lia,he,p,<-g]
  .refine f _ h' s.toks ?_ ⟨h1,(u.2 a d).trans st.2⟩ λb r hb e=>(u.2 b<|by simpa using hb).trans e;rw[Zy,Yu,he];rfl
 done:=λs Q E st f=>by
  have n:t.place.size=es.size:=by
   unfold SetTable.fits at c;rw[Zw]at c;exact Va c.1
  refine kT (slot:=jx t es.size) hh st.1 st.2 hd c (λA E Q q=>XW hb hl h1 st.2 hd c ?_) λh' y=>f h' s.toks λb r hb e=>y b r (by simpa using hb) e;have z:es.size=0\/es.size=1:=by lia
  rcases z with e|e
  .rw[e];show Q (match es[Lk t.place 0]?,t.place[Lk t.place 0]? with|some (_,x),some j=>some (x,j+1)|_,_=>none) s;rwa[Ge _<|by lia,Jm<|by lia]
  .rw[e];show Q (match es[Lk t.place<|t.place.getD 0 0+1]?,t.place[Lk t.place<|t.place.getD 0 0+1]? with|some (_,x),some j=>some (x,j+1)|_,_=>none) s;rwa[NY _<|by lia,Jm<|by lia]
 self:=λ_ _ _ _ st h=>BK st.1 h
end
def qG (vs:Db)(b:Da):Prop:=vs.length=b.length/\∀(i:Nat) (v:Ep),vs[i]?=some v->∃k t,b[i]?=some k/\v=.str k t
section
variable {prog:Er}{w:Eu}{A:EJ}{E:Ep->Dh}{s:Et}{a:Eo}{ks:Da}
theorem Gu {l:List (Int×Ep)}(h:ElemsOf (strKind prog w) l):qG (l.map (·.2)) (l.map keyOf):=by
 refine⟨by rw[Zk,Zk],λi v e=>?_⟩;rw[Zy]at e;cases q:l[i]? with
 |none=>rw[q]at e;cases e
 |some x =>
  rw[q]at e;have e:x.2=v:=Option.some.inj e;obtain⟨⟨k,hk,_⟩,_⟩:=h x<|ZG q;obtain⟨t,b⟩:=Y4 hk;exact⟨k,t,by rw[Zy,q];show some (keyOf x)=_;unfold keyOf;rw[b],by rw[<-e];exact b⟩
theorem S9 {Q:Ep->Dh}(L:wQ prog w s.heap a ks)(hk:ks.length<=1000)(hh:A.handled=none)
  (h:∀(I:Eo) (fp:Dd) (h':EI) d tk (vs:Db) (zs:Da) (St:Nat->EI->Prop),s.heap.objs.size<=I->(∀b∈fp,b=a\/s.heap.objs.size<=b)->(∀b o,s.heap.get? b=some o->h'.get? b=some o)->zs.Perm ks->qG vs zs -> Walks prog w A I fp [I] ks.length (λi v=>vs[i]?=some v) St->St 0 h'->Q (.ref I) { s with heap:=h',drawn:=d,toks:=tk }):Es (Ez prog w) A (pyIter<|.ref a) Q E s:=by
 obtain⟨o,es,ep,t,x,M,hd,X⟩:=L;have g:=M3 X;obtain⟨f,D,hb,B,l,F⟩:=X;have n:a<s.heap.objs.size:=ZC x;have r:a≠s.heap.objs.size:=ZO n;refine Pn x M hd B (by lia) (λq=>?_)<|λq ps d tk y=>?_
 .have kp:∀b u,s.heap.get? b=some u->(s.heap.push<|Nm (E9 0) 0 a es.size ep).get? b=some u:=λb u e=>Zp _ e;have j:∀b∈[s.heap.objs.size,a],b=a\/s.heap.objs.size<=b:=λb hb=>by
   rcases Zo.mp hb with z|z
   .exact .inr (J9 z.symm)
   .exact .inl (Zl.mp z)
  cases c:byText w with
  |true =>
   have W:=bp (prog:=prog) (A:=A) (es:=es) (ep:=ep) (t:=t) (o:=o) hh s.heap.objs.size r c hd B;have H:=Xo (w.params.setOrder a ep) es;rw[g]at W;exact h _ _ _ s.drawn s.toks _ _ _ (Zt _) j kp ((H.map keyOf).trans D) (Gu<|f.perm H) W ⟨by rw[<-g];exact Zz _ rfl,Zp _ x⟩
  |false =>
   have h1:es.size<=1:=by
    rw[c]at q
    by_cases z:es.size>1
    .rw[F<|by lia,Zq z]at q;cases q
    .lia
   have hl:t.led=true:=by rw[l];show(!byText w)=true;rw[c];rfl
   have W:=bq (prog:=prog) (A:=A) (es:=es) (ep:=ep) (t:=t) (o:=o) hh s.heap.objs.size r c hl h1 hd B;rw[g]at W;exact h _ _ _ s.drawn s.toks _ _ _ (Zt _) j kp D (Gu f) W ⟨by rw[<-g];exact Zz _ rfl,Zp _ x⟩
 .have C:a≠s.heap.objs.size+1:=ZO<|J1 n;have W:=br (prog:=prog) (w:=w) (A:=A) (es:=es) (ep:=ep) (t:=t) (o:=o) (a:=a) hh (s.heap.objs.size+1) s.heap.objs.size C (ZO<|JH _) ps y hd B;have G:(ps.filterMap λp=>es[p]?).Perm es.toList:=by
   refine(y.filterMap _).trans ?_;have e:=List.filterMap_getElem?_range_length es.toList;rw[ZT]at e;have J:(ET es.size).filterMap (λp=>es[p]?)=(ET es.size).filterMap λi=>es.toList[i]?:=by congr 1;funext p;exact(Yu ..).symm
   rw[J,e]
  have hv:(ps.filterMap λp=>(es[p]?).map (·.2))=(ps.filterMap λp=>es[p]?).map (·.2):=by rw[List.map_filterMap]
  rw[g]at W;rw[hv]at W;have K:(s.heap.push<|S8 ps).objs.size=s.heap.objs.size+1:=Je _ _;refine h _ _ _ d tk _ _ _ (JM _) (λb hb=>?_) (λb u e=>Zp _<|Zp _ e) ((G.map keyOf).trans D) (Gu<|f.perm G) W ⟨?_,Zp _<|Zp _ x,Zp _<|Zz _ rfl⟩
  .rcases Zo.mp hb with z|z
   .exact .inr (by rw[z];exact JM _)
   .rcases Zo.mp z with z|z
    .exact .inl z
    .exact .inr (J9 (Zl.mp z).symm)
  .rw[<-K,<-g];exact Zz _ rfl
theorem Pl (e:s.TypeIs (.ref a) "set"){Q:Bool->Dh}(h:Q false s):Es (Ez prog w) A (Builtin.List.listLengthHint<|.ref a) Q E s:=by
 unfold Builtin.List.listLengthHint;refine Zm<|JV e PySem.F.slot_set_len.lookup ?_;generalize d:("set.__len__":String)=f;wp_delta;rw[show splitId f=some ("set","__len__") from by subst d;decide+kernel];subst d;refine Zm (Jb (T:="set") (b:=true) e (by rw[JL];kernel_rfl) ?_);refine Vk (λc=>absurd c<|by decide) (λ_=>?_);refine Vk (λ_=>?_) (λc=>absurd (by decide+kernel) c);refine Zm<|Uv e ?_;exact Zu h
open PySem.Calls PyProof.V in
theorem OH {R:Result->Dh}(hh:A.handled=none)(x:wQ prog w s.heap a ks)(hk:ks.length<=1000)(S:Eo)(p:S≠a)(res:Ep)(n:Nat)(K:s.heap.get? S=some { cls:=.type "list",data:=.seq #[] n })
  (Q:∀h' d tk DU c' (zs:Da),(∀b o,b≠S->s.heap.get? b=some o->h'.get? b=some o)->h'.get? S=some { cls:=.type "list",dict:=none,data:=.seq DU c',slots:=#[] }->zs.Perm ks->qG DU.toList zs->R (.ok<|.ret res) { s with heap:=h',drawn:=d,toks:=tk }) :
  Es (Ez prog w) A.in1 (Lh (.ref S) (.ref a) res)
   (λfin s'=>match fin with|.done f=>R (.ok f) s'|.again c'=>c'.quiet=true/\LS (Ez prog w) A c' R s') (λe s'=>R (.error e) s') s:=by
 have r:S<s.heap.objs.size:=ZC K;have ty:s.TypeIs (.ref a) "set":=by obtain⟨o,O,N,t,C,E,_⟩:=x;exact⟨o,C,E.1⟩
 unfold Lh;refine Zm<|Uv (T:="set") ty ?_;have h1:LH (.ref S) (.ref a)=false:=by simp[LH,p]
 have Y:(Value.type "set"==Value.type "list")=false:=by decide
 have nt:(Value.type "set"==Value.type "tuple")=false:=by decide
 simp only[h1,Y,nt,Bool.or_false,Yt,Js];refine Zm<|S9 (A:=A.in1) x hk hh λI fp h' d tk L zs St P B kp hz Z W st=>?_;have H:Shared.TypeIs { s with heap:=h',drawn:=d,toks:=tk } (.ref a) "set":=by obtain⟨o,O,N,t,C,E,_⟩:=x;exact⟨o,kp _ _ C,E.1⟩
 refine Zm<|Yp<|Pl H ?_;have q:S∉fp:=λz=>by
  rcases B S z with e|e
  .exact p e
  .exact YB _ (ZU r e)
 have c:=kp _ _ K;refine Vk (λ_=>?_) (λz=>absurd (by decide) z);refine Zm<|J4 ?_;refine Zm ?_;show Es _ _ (updateSeq S (·.push .none)>>=λ_=>updateSeq S (·.pop)) _ _ _;refine Zm<|Vl c rfl ?_;have g:=Yd (E2 (·.push EH)) c rfl;refine Vl (hz:=by seq_fits) g rfl ?_;have l:=Yd (E2 (·.pop)) g rfl;refine Zu ⟨Vi PySem.F.plain_extend_loop _,?_⟩;have u:∀b o,b≠S->h'.get? b=some o->((h'.update S (E2 (·.push EH))).update S (E2 (·.pop))).get? b=some o:=λb o hb e =>
  (ZX _ _<|EC hb).trans ((ZX _ _<|EC hb).trans e)
 have G:=W.frame 0 _ _ st λb hb o e=>u b o (λz=>q<|z▸hb) e;refine codeAny_extend_loopS W.toS (by rw[YK];lia) S q res ks.length 0 _ #[] _ rfl (Yb _) G l (ItemsOf.nil _) λs' DU c' hm v J=>?_;rw[Moved.eq_with hm];have D:DU.toList=L:=by
  have hl:DU.toList.length=L.length:=by rw[ZT,J.1,Z.1,hz.length_eq]
  refine List.ext_getElem? λi=>?_
  by_cases U:i<DU.size
  .have e:=YS U;rw[Yu,e];exact(J.2 i _ e).symm
  .rw[Yv (by rw[ZT];lia),Yv (by rw[<-hl,ZT];lia)]
 refine Q s'.heap d s'.toks DU c' zs (λb o hb e=>hm.heap b o (λj=>?_)<|u b o hb<|kp b o e) v hz (by rwa[D])
 rcases Zo.mp j with M|j
 .exact hb M
 .have y:b=I:=Zl.mp j;exact absurd (y▸ZC e)<|Nat.not_lt.mpr P
open PySem.Calls PyProof.V PySem.W in
theorem M0 {R:Db->Dh}(hh:A.handled=none)(v:wQ prog w s.heap a ks)(hk:ks.length<=1000)
  (h:∀(h':EI) d (tk:Nat) (vs:Db) (zs:Da),(∀b o,s.heap.get? b=some o->h'.get? b=some o)->zs.Perm ks->qG vs zs->R vs { s with heap:=h',drawn:=d,toks:=tk }):Es (Ez prog w) A (collect<|.ref a) R E s:=by
 have r:a<s.heap.objs.size:=by obtain⟨o,G,D,t,C,_⟩:=v;exact ZC C
 unfold collect;refine Zm<|wpAny_runValue<|Jh entry_proto_collect' ?_;rw[Lz PySem.F.plain_proto_collect _];show Es _ A.in1 (newList []>>=λl=>again<|.builtin "list.__iadd__" ⟨[l,.ref a],[]⟩) _ _ s;refine Zm<|Yh ?_;refine Zu ⟨Vi PySem.F.plain_list_iadd _,Jh entry_list_iadd' ?_⟩;rw[Lz PySem.F.plain_list_iadd _];have g:(s.heap.push { cls:=.type "list",data:=.seq ([]:Db).toArray }).get? s.heap.objs.size=some { cls:=.type "list",data:=.seq #[] }:=Zz _ rfl;show Es _ A.in1 (Lh (.ref s.heap.objs.size) (.ref a)<|.ref s.heap.objs.size) _ _ _;have key:=OH (prog:=prog) (w:=w) (A:=A) (a:=a) (ks:=ks) (s:={ s with heap:=s.heap.push { cls:=.type "list",data:=.seq ([]:Db).toArray } })
  (R:=λ(q:Result) (u:Et)=>∃(h':EI) (d:Drawn) (tk:Nat) (i:Array Ep) (j:Nat) (zs:Da),q=.ok (.ret<|.ref s.heap.objs.size)/\u={ s with heap:=h',drawn:=d,toks:=tk } /\ (∀b o,s.heap.get? b=some o->h'.get? b=some o)/\h'.get? s.heap.objs.size=some { cls:=.type "list",dict:=none,data:=.seq i j,slots:=#[] }/\zs.Perm ks/\qG i.toList zs)
  hh (v.at λo e=>Zp _ e) hk s.heap.objs.size (JP r) (.ref s.heap.objs.size) 0 g
  (λh' d tk i j zs hk c n p=>⟨h',d,tk,i,j,zs,rfl,rfl,λb o e=>hk b o (ZO<|ZC e)<|Zp _ e,c,n,p⟩)
 refine Yy key (λfin u x=>?_) λe u x=>?_
 .cases fin with
  |done f =>
   obtain⟨h',d,tk,i,j,zs,e,rfl,hk,c,n,p⟩:=x;cases e;show Es _ A (load s.heap.objs.size>>=_) _ _ _;refine Zm<|wpAny_load c ?_;exact Zu<|h h' d tk _ zs hk n p
  |again c₁ =>
   refine⟨x.1,Jl x.2 λq z y=>?_⟩;obtain⟨h',d,tk,i,j,zs,rfl,rfl,hk,c,n,p⟩:=y;show Es _ A (load s.heap.objs.size>>=_) _ _ _;refine Zm<|wpAny_load c ?_;exact Zu<|h h' d tk _ zs hk n p
 .obtain⟨_,_,_,_,_,_,B,_⟩:=x;cases B
end
section
variable {prog:Er}{w:Eu}{A:EJ}{E:Ep->Dh}{s:Et}
set_option maxHeartbeats 6400000 in
theorem vD {T:String}{st:Eo->Nat->EI->Prop}{it:Obj}{l:Eo}{f:Array Ep}{xs:Da}{Q:Ep->Dh}(hh:A.handled=none)(hn:∃ol:Obj,s.heap.get? l=some ol/\ol.cls=.type T/\∃n,ol.data=.seq f n)(ai:isSubtype (.type T) (.type "set")=LC false)(ah:isSubtype (.type T) (.type "frozenset")=LC false)(au:(Value.type T==Value.type "dict")=false)
  (hp:∀{A:EJ} {E:Ep->Dh} {s:Et} {Q:Ep->Dh},(∃ol:Obj,s.heap.get? l=some ol/\ol.cls=.type T/\∃n,ol.data=.seq f n)->Q (.ref s.heap.objs.size) { s with heap:=s.heap.push it }->Es (Ez prog w) A (pyIter<|.ref l) Q E s)
  (hw:∀{A:EJ},A.handled=none->∀I,l≠I->Walks prog w A I [I,l] [I] f.size (λi v=>f[i]?=some v) (st I))
  (h0:∀h:EI,(∃ol:Obj,h.get? l=some ol/\ol.cls=.type T/\∃n,ol.data=.seq f n)->st h.objs.size 0 (h.push it)) (Dq:xs.length=f.size) (hi:∀(i:Nat) (v:Ep),f[i]?=some v->∃k t,xs[i]?=some k/\v=.str k t) (hb:f.size+1<Mx)
  (h:∀(h':EI) (tk:Nat),wQ prog w h' s.heap.objs.size (uniq xs)->(∀b o,s.heap.get? b=some o->h'.get? b=some o)->Q (.ref s.heap.objs.size) { s with heap:=h',toks:=tk }):Es (Ez prog w) A (call (.type "set") [.ref l]) Q E s:=by
 obtain⟨c,tl,ad⟩:=F.called_set.mro;have P:=F.called_set.made;have al:=F.called_set.sub;have h1:=F.called_set.notType;have h2:=F.called_set.canCreate;have ap:=F.typeCall_set_1<|.ref l;refine Vm<|codeAny_of_tree ?_;show Es _ _ (callAny (.type "set") _) _ _ _;refine Zu ⟨Code.quiet_builtin _<|by decide+kernel,Jh F.entry_type_call ?_⟩;rw[Around.under_plain (weight_type_call_type "set" [.ref l] []) rfl]
 repeat (any_goals (first|assumption|wp_step))
 refine Jl (Fj (.ref l) (E:=E) (Q₁:=λobj g=>obj=.ref s.heap.objs.size/\g={ s with heap:=s.heap.push (xC w) }) ⟨rfl,rfl⟩) λr g U=>?_;cases r with
 |error e=>exact U
 |ok fl =>
  cases fl with
  |ret obj =>
   obtain⟨rfl,rfl⟩:=U;have J:(s.heap.push<|xC w).get? s.heap.objs.size=some (xC w):=Zz _ rfl;have hT:Shared.TypeIs { s with heap:=s.heap.push (xC w) } (.ref s.heap.objs.size) "set":=⟨_,J,rfl⟩;have as:=F.called_set.init.lookup;have an:=F.called_set.init.bind<|.ref s.heap.objs.size
   repeat (any_goals (first|assumption|wp_step))
   refine Jl (V0 (R:=wants (λr j=>r=.none/\∃h' tk,j={ s with heap:=h',toks:=tk }/\wQ prog w h' s.heap.objs.size (uniq xs) /\ (∀b o,s.heap.get? b=some o->h'.get? b=some o)) E) F.called_set.init.plain F.entry_set_init (check_set_init_1 hT ?_)) λD j d=>?_
   .have q:∃ol:Obj,(s.heap.push<|xC w).get? l=some ol/\ol.cls=.type T/\∃n,ol.data=.seq f n:=let ⟨ol,e,r⟩:=hn;⟨ol,Zp _ e,r⟩;obtain⟨ol,S,x,nl,y⟩:=id q;have B:l<s.heap.objs.size:=by obtain⟨_,e,_⟩:=hn;exact ZC e
    obtain⟨am,Z,Y,G⟩:=ol;simp only at x y;subst x;subst y;unfold xC at J S;unfold Builtin.«set.__init__» noKeywords Builtin.Frozenset.updateFrom;generalize H:pyIter=PI;unfold xC
    wp_walk
    subst H;refine hp q ?_;refine Zm<|wpAny_runValue ?_;have N:A.in1.in1.in1.handled=none:=by simp[hh]
    have C:l≠(s.heap.push<|xC w).objs.size:=by
     rw[Je];exact ZO<|J1 B
    have K:s.heap.objs.size∉[(s.heap.push<|xC w).objs.size,l]:=by
     rw[Je];simp only[Zo,Zl,ZD,Ye,Vr];exact⟨ZO<|JH _,JP B⟩
    refine Ta ((hw N _ C).toS) s.heap.objs.size K xs Dq hi hb (f.size-0) 0 _ (by lia) (Yb _)
     (h0 _ q) ?hS0 ?hR
    case hS0 =>
     have z:((s.heap.push<|xC w).push it).get? s.heap.objs.size=some (xC w):=Zp _ J;exact RP z
    case hR =>
     intro s' hm p;obtain⟨h',g',d',ac,ab⟩:=s';have eg:g'=s.gens:=hm.gens;have ed:d'=s.drawn:=hm.drawn;have eo:ab=s.os:=hm.os;subst eg;subst ed;subst eo;show Es _ _ _ _ _ _;refine Zu ?_;show Es _ _ (ret EH) _ _ _;refine Zu ⟨rfl,h',ac,rfl,p,λb o e=>?_⟩;have u:=ZC e;have L:b≠s.heap.objs.size:=ZO u;have M:b≠(s.heap.push<|xC w).objs.size:=by
      rw[Je];exact ZO<|J1 u
     exact hm.heap b o (by simp only[Zo,Zl,ZD,Ye,Vr];exact⟨L,M⟩)<|Zp _<|Zp _ e
   .cases D with
    |error e=>exact d
    |ok fl₂ =>
     cases fl₂ with
     |ret r =>
      obtain⟨rfl,h',tk,rfl,p,O⟩:=d
      repeat (any_goals (first|assumption|wp_step))
      exact h _ _ p O
     |_=>exact d.elim
  |_=>exact U.elim
theorem call_set_list {l:Eo}{c:Array Ep}{xs:Da}{Q:Ep->Dh}(hh:A.handled=none)(hl:s.heap.IsList l c)(d:xs.length=c.size)(e:∀(i:Nat) (v:Ep),c[i]?=some v->∃k t,xs[i]?=some k/\v=.str k t)(hb:c.size+1<Mx)
  (h:∀(h':EI) (tk:Nat),wQ prog w h' s.heap.objs.size (uniq xs)->(∀b o,s.heap.get? b=some o->h'.get? b=some o)->Q (.ref s.heap.objs.size) { s with heap:=h',toks:=tk }):Es (Ez prog w) A (call (.type "set") [.ref l]) Q E s :=
 vD hh hl sub_list_set sub_list_frozenset (by decide) (λh q=>J0 h q) (λh I n=>Walks.list h I l n c) (λh hl=>⟨⟨_,Zz _ rfl,rfl,rfl⟩,Heap.IsList.push hl _⟩) d e hb h
theorem Gr {l:Eo}{c:Array Ep}{xs:Da}{Q:Ep->Dh}(hh:A.handled=none)(hl:s.heap.IsTuple l c)(d:xs.length=c.size)(e:∀(i:Nat) (v:Ep),c[i]?=some v->∃k t,xs[i]?=some k/\v=.str k t)(hb:c.size+1<Mx)
  (h:∀(h':EI) (tk:Nat),wQ prog w h' s.heap.objs.size (uniq xs)->(∀b o,s.heap.get? b=some o->h'.get? b=some o)->Q (.ref s.heap.objs.size) { s with heap:=h',toks:=tk }):Es (Ez prog w) A (call (.type "set") [.ref l]) Q E s :=
 vD hh hl sub_tuple_set sub_tuple_frozenset (by decide) (λh q=>wpAny_pyIter_tuple h q) (λh I n=>Walks.tuple h I l n c) (λh hl=>⟨⟨_,Zz _ rfl,rfl,rfl⟩,Heap.IsTuple.push hl _⟩) d e hb h
end
end AxS
namespace L2
open PySem PySem.Spec PyProof.Rows AxS
def CP (P:Er)(w:Eu)(a:Eo)(ks:Da):HO:=.ext λh=>wQ P w h a ks
theorem Tb (x:wQ P w h a ks):yq P w H h a (CP P w a ks):=by
 obtain⟨o,d,c,t,b,r⟩:=id x;exact⟨x,⟨o,b⟩,λf g z k=>wQ.at z λo e=>k o e⟩
theorem Ke (x:yq P w H h a<|CP P w a ks):wQ P w h a ks:=x.1
section
variable {X:Cx}{K:Cq}
def SS (P:Er)(w:Eu):Dj->Hp->VK->Prop:=λc H Q=>∃(a:Eo) (b:Da),c=[.ref a]/\H a=some (CP P w a b)/\Q (.int b.length) H
theorem N1:yd X (.builtin "len") (SS X.prog X.w):=by
 intro j s x H v p Q I r h;obtain⟨a,n,rfl,ha,q⟩:=h;obtain⟨u,rfl,i⟩:=wW r;cases i;obtain⟨o,e,l,t,g,b,hd,c⟩:=Ke<|I.hok a _ ha;have d:=M3 c;obtain⟨_,_,hb,f,_⟩:=c;have hb:e.size<4096:=hb;refine call_len_set g b hd f (by lia) ?_;rw[d];exact⟨.int _,H,I.tok _,⟨_,rfl⟩,q⟩
theorem Inv.drew {d:Drawn}(I:Inv X Dp σ H s):Inv X Dp σ H { s with drawn:=d } :=
 ⟨I.ok,I.os,I.bare,I.base,I.loc,I.cell,I.free,I.wR,I.pin,I.hok,I.len⟩
theorem ud:∀{vs:Db} {zs:Da},qG vs zs->StrsAre vs zs
 |[],[],_=>.nil
 |[],_::_,h=>by cases h.1
 |_::_,[],h=>by cases h.1
 |v::vs,z::zs,h=>by
  obtain⟨k,t,e,rfl⟩:=h.2 0 v rfl;have e:z=k:=Option.some.inj e;subst e;exact .cons _ _ (ud ⟨by have:=h.1;simpa using this,λi v e=>by
   obtain⟨k,t,b,c⟩:=h.2 (i+1) v (by simpa using e);exact⟨k,t,by simpa using b,c⟩⟩)
def Ry (P:Er)(w:Eu):Dj->Hp->VK->Prop:=λd H Q=>∃(a:Eo) (b:Da),d=[.ref a]/\H a=some (CP P w a b)/\b.length<64/\∀l c,H l=none->c.Perm b->sortedS c=true->Q (.ref l) (upd H l<|.lst<|c.map V.str)
theorem By {Q:VK}{u:Ep}{ks:Da}(I:Inv X Dp σ H s)(L:ks.length<64)(q:∀l ss,H l=none->ss.Perm ks->sortedS ss=true->Q (.ref l) (upd H l<|.lst<|ss.map V.str))
  (col:∀{R:Db->Dh} {E:Ep->Dh},(∀(h':EI) d (tk:Nat) (vs:Db) (zs:Da),(∀b o,s.heap.get? b=some o->h'.get? b=some o)->zs.Perm ks->qG vs zs->R vs { s with heap:=h',drawn:=d,toks:=tk })->Es (Ez X.prog X.w) X.A.in1 (collect u) R E s) :
  Es (Ez X.prog X.w) X.A (call (.builtin "sorted") [u]) (EP X Dp σ Q) X.xe s:=by
 refine Calls.call_function_entry kind_sorted plain_sorted entry_sorted (args_sorted1 _) ?_;unfold Builtin.«sorted»;refine Zm (m:=checkCount "sorted" 1 1 _)<|Zu ?_;refine Zm<|col λh' d tk c zs n p B=>?_;have f:=ud B;have M:c.length<64:=by rwa[B.1,p.length_eq]
 have O:64<=sizeLine:=by rw[YK];decide
 refine Zm (wpAny_newList ?_<|by lia);have g:(h'.push<|Ls "list" c.toArray 0).get? h'.objs.size=some (Ls "list" c.toArray 0):=Zz _ rfl;refine Zm (Yp<|Yq slot_list_sort ⟨_,g,rfl⟩ entry_list_sort (list_sort_treeK strKind_oneLt g f.keysOf (λC D z e=>keyKind_strs<|by rwa[<-e]) (by lia) λj F G=>⟨_,rfl,?_⟩) (args_list_sort _));obtain⟨i,J,x,K⟩:=sorted_out_str f F G;refine Zu ⟨_,rfl,?_⟩;obtain⟨e,he⟩:=sortedHeap_at (out:=(arrOf j).map (·.2)) g;have N:=Bc J;have v:Inv X Dp σ H { s with heap:=h',drawn:=d,toks:=tk }:=(I.kept (t':=tk) n).drew (d:=d);have t:∀b ob,h'.get? b=some ob->(sortedHeap (h'.push<|Ls "list" c.toArray 0) h'.objs.size c ((arrOf j).map (·.2))).get? b=some ob:=λb ob y=>by
  have hb:b<h'.objs.size:=ZC y;rw[sortedHeap_old (ZO hb) (by rw[Je];exact J1 hb)];exact Zp _ y
 have fr:H h'.objs.size=none:=v.hok.fresh<|Zt _;have r:(i.map V.str).length<=sizeLine:=by
  have:=x.length_eq;have:=p.length_eq;rw[Zk];lia
 exact⟨.ref h'.objs.size,_,v.laid (o:=.lst<|i.map V.str) (t':=tk) t (Zt _) ⟨r,_,e,N,he⟩,rfl,q _ i fr (x.trans p) K⟩
theorem BZ (hc:X.calm=true):yd X (.builtin "sorted") (Ry X.prog X.w):=by
 intro d s i H g f Q I r h;obtain⟨a,e,rfl,ha,b,q⟩:=h;obtain⟨u,rfl,c⟩:=wW r;cases c;exact By I b q λk=>M0 (A:=X.A.in1) (I.ok.hd hc) (Ke<|I.hok a _ ha) (by lia) k
def b9 (K:Cq)(P:Er)(w:Eu):Dj->Hp->VK->Prop:=λc H Q=>∃(a:Eo) (b:Da),c=[.ref a]/\(yu K H a (b.map V.str)\/wY K H a (b.map V.str))/\b.length<=1000/\∀p,H p=none->Q (.ref p) (upd H p<|CP P w p<|uniq b)
theorem IZ {ls:Da}(r:zb (ls.map V.str) us):qG us ls:=by
 refine⟨by rw[<-r.length,Zk],λi v e=>?_⟩;have b:i<ls.length:=by have:=(ZJ.mp e).1;rw[<-r.length,Zk]at this;exact this
 obtain⟨u,c,d⟩:=r.get (show(ls.map V.str)[i]?=some (V.str ls[i]) by rw[Zy,Zv b];rfl);rw[c]at e;cases e;obtain⟨t,rfl⟩:=d;exact⟨_,t,Zv b,rfl⟩
theorem Fv (hc:X.calm=true)(p:X.K=K:=by rfl):yd X (.type "set") (b9 K X.prog X.w):=by
 subst p;intro n s y H A z Q I r h;obtain⟨a,j,rfl,ha,hl,q⟩:=h;obtain⟨u,rfl,t⟩:=wW r;cases t;have fin:∀(h':EI) (tk:Nat),wQ X.prog X.w h' s.heap.objs.size (uniq j)->(∀b o,s.heap.get? b=some o->h'.get? b=some o)->EP X n y Q (.ref s.heap.objs.size) { s with heap:=h',toks:=tk }:=λh' tk x k =>
  ⟨.ref s.heap.objs.size,_,I.laid (o:=CP X.prog X.w s.heap.objs.size<|uniq j) (t':=tk) k (Zt _)<|Tb x,rfl,q _<|I.hok.fresh<|Zt _⟩
 have l:Mx=4096:=rfl
 rcases ha with ha|ha
 .obtain⟨d,g,f,_⟩:=I.list ha;have c:=IZ g;exact call_set_list (I.ok.hd hc) f.isList (by rw[ZP];exact c.1.symm) (λi v e=>c.2 i v<|by simpa using e) (by rw[ZP,c.1,l];lia) fin
 .obtain⟨d,g,f,_⟩:=I.tuple ha;have c:=IZ g;exact Gr (I.ok.hd hc) f (by rw[ZP];exact c.1.symm) (λi v e=>c.2 i v<|by simpa using e) (by rw[ZP,c.1,l];lia) fin
end
end L2
namespace An
open PySem PySem.Spec PyProof.Rows L2
def Px (a b:Str):Prop:=¬b.cps.toList<a.cps.toList
theorem On (h1:Px a b)(d:Px b c):Px a c:=by
 have h1:a.cps.toList<=b.cps.toList:=J6.mp h1;have d:b.cps.toList<=c.cps.toList:=J6.mp d;exact J6.mpr<|List.le_trans h1 d
theorem vS (h1:Px a b)(c:Px b a):a=b:=by
 have e:a.cps.toList=b.cps.toList:=Uu (J6.mp h1)<|J6.mp c;exact xj e
theorem GX:∀(l:Da) (p:Str),risingS p l=true->(p::l).Pairwise Px
 |[],p,_=>Vv _ _
 |x::r,p,h=>by
  have h:(!ltCps x.cps.toList p.cps.toList&&risingS x r)=true:=h;rw[Zw,ltCps_eq]at h;have c:Px p x:=λz=>by rw[Zq z]at h;exact absurd h.1 (by decide)
  have d:=GX r x h.2;refine Vs.mpr ⟨λy b=>?_,d⟩
  rcases Zo.mp b with rfl|b
  .exact c
  .exact On c ((Vs.mp d).1 y b)
theorem j6:∀{l:Da},sortedS l=true->l.Pairwise Px
 |[],_=>List.Pairwise.nil
 |x::r,h=>GX r x h
def Xh:Da->Bool
 |[]=>true
 |x::r=>r.all (λy=>decide (x.cps.toList<y.cps.toList))&&Xh r
theorem rN:∀{l:Da},Xh l=true↔l.Pairwise Px/\l.Nodup
 |[]=>⟨λ_=>⟨List.Pairwise.nil,YL⟩,λ_=>rfl⟩
 |x::r=>by
  show(r.all _&&Xh r)=true↔_;rw[Zw,rN,ZQ,Vs,ZY];constructor
  .rintro⟨h1,c,d⟩;refine⟨⟨λy b=>?_,c⟩,λz=>?_,d⟩
   .have:=ZI<|h1 y b;exact λz=>VL _<|List.lt_trans this z
   .exact VL _ (ZI<|h1 x z)
  .rintro⟨⟨h1,c⟩,d,h4⟩;refine⟨λy b=>Zq ?_,c,h4⟩
   by_cases z:x.cps.toList<y.cps.toList
   .exact z
   .have:=vS (h1 y b) z;exact absurd (this▸b) d
theorem MR {ks:Da}{k:Str}(h:ks.Nodup):(AxS.step ks k).Nodup:=by
 unfold AxS.step
 split
 .exact h
 .rename_i z;rw[YD];exact⟨h,by simp,λa ha b hb=>by rw[Zl.mp hb];exact λe=>z<|e▸ha⟩
theorem Gb:∀(xs ks:Da),ks.Nodup->(xs.foldl AxS.step ks).Nodup
 |[],ks,h=>h
 |x::xs,ks,h=>Gb xs _<|MR h
theorem fold_all:∀(xs ks:Da),(ks++xs).Nodup->xs.foldl AxS.step ks=ks++xs
 |[],ks,_=>by rw[Z2];rfl
 |x::xs,ks,h=>by
  have e:AxS.step ks x=ks++[x]:=by
   unfold AxS.step;rw[ZH];intro z;exact(YD.mp h).2.2 x z x Zs rfl
  rw[JW,e,fold_all xs (ks++[x])<|by rwa[YC],YC];rfl
theorem M4 (xs:Da):(AxS.uniq xs).Nodup:=Gb xs [] YL
theorem Bx {xs:Da}(h:xs.Nodup):AxS.uniq xs=xs:=fold_all xs [] h
theorem FK:∀(xs ks:Da) {x:Str},x∈xs.foldl AxS.step ks->x∈ks\/x∈xs
 |[],ks,x,h=>.inl h
 |y::xs,ks,x,h=>by
  rcases FK xs _ h with z|z
  .unfold AxS.step at z
   split at z
   .exact .inl z
   .rcases ZR.mp z with z|z
    .exact .inl z
    .exact .inr (Zo.mpr<|.inl<|Zl.mp z)
  .exact .inr (Zn _ z)
theorem RQ {xs:Da}{x:Str}(h:x∈AxS.uniq xs):x∈xs:=(FK xs [] h).elim (λz=>nomatch z) id
theorem MP {xs ss:Da}(c:ss.Perm<|AxS.uniq xs)(hs:sortedS ss=true):decide (xs=ss)=Xh xs:=by
 rw[Yx,ZN,rN];constructor
 .intro e;subst e;exact⟨j6 hs,c.nodup_iff.mpr<|M4 _⟩
 .rintro⟨h1,d⟩;rw[Bx d]at c;exact(Jc (λa b _ _=>vS) (j6 hs) h1 c).symm
end An
namespace PySem.SeqAt
open MeetsSeq PyProof.Rows
end PySem.SeqAt
namespace PySem.W
open PySem PySem.Spec PySem.Calls PyProof.Rows Builtin Builtin.ObjectAttr Builtin.Getset_descriptor
section
variable {prog:Er}{w:Eu}{A:EJ}{E:Ep->Dh}{s:Et}{K:Frag}{x D:Eo}{ox:Obj}
structure wg (K:Frag)(D:Eo):Prop where
 ga:findIn K (.ref D) "__getattribute__"=some (some<|.builtin "BaseException.__getattribute__")
 hk:findIn K (.ref D) "__getattr__"=some none
 ha:findIn K (.ref D) "__class__"=some (some<|.builtin "object.__class__")
 hn:specialIn K (.builtin "object.__class__") "__get__"=some (some<|.builtin "getset_descriptor.__get__")
 htk:takesIn K (.builtin "object.__class__")=some true
 hm:mroIn K D (.type "object")=some true
 hb:subIn K (.ref D) (.type "BaseException")=some true
 cl:(clsIn K D).isSome=true
structure rR (h:EI)(x D:Eo):Prop where
 ex:∃o,h.get? x=some o/\o.cls=.ref D/\notCls o=true
theorem rR.type {M:Model}(I:rR h x D):Looks M h (typeOf<|.ref x) (.ref D):=by
 obtain⟨o,b,hc,_⟩:=I.ex;exact hc▸(Looks.ld b).andThen .now
theorem GD {R:Result->Dh}{b:Ep}(X:K.In s.heap)(I:rR s.heap x D)(hm:mroIn K D (.type "object")=some true)
  (h:R (.ok<|.ret<|.ref D) s):LS (Ez prog w) A (.call (.builtin "getset_descriptor.__get__") ⟨[.builtin "object.__class__",.ref x,b],[]⟩) R s:=by
 obtain⟨hh,g,e,t,os⟩:=s;have c:=I.type (M:=Ez prog w);have d:=looks_mroIn (M:=Ez prog w) X hm;refine V0 KF.slot_gs.plain KF.entry_gs<|KF.slot_gs.check _ _ _ _ _ _ _ _ KF.type_class (KF.args_gs _ _ _) ?_;unfold Builtin.«getset_descriptor.__get__» descrGet;rw[dga_obj];refine Zm<|Zu ?_;unfold descrGetter descrCheckInstance descrNameAndClass isInstance;simp only[KF.owner_class]
 repeat lk
 refine⟨Code.quiet_builtin _<|by decide+kernel,Jh KF.entry_class ?_⟩;unfold Builtin.«object.__class__» shownTypeOf
 repeat lk
 exact h
theorem Pa {M:Model}{h:EI}(X:K.In h)(k:wg K D):Looks M h (find (.ref x) (.ref D) "__class__") (.bind (.builtin "getset_descriptor.__get__")<|.builtin "object.__class__"):=by
 have b:=looks_findIn (M:=M) X k.ha;have c:=looks_specialIn (M:=M) X k.hn;have d:=looks_takesIn (M:=M) X k.htk;unfold find;exact b.andThen<|Looks.andThen c<|Looks.andThen (d.andThen .now)<|Looks.tag .now
theorem N5 {M:Model}{b:Ep}{Q:Unit->Dh}(k:wg K D)(X:K.In s.heap)(I:rR s.heap x D)(e:Q () s):Es M A (checkBuiltinCall "BaseException.__getattribute__" ⟨[.ref x,b],[]⟩) Q E s:=by
 have hk:builtinKind "BaseException.__getattribute__"=some .slot:=by decide+kernel
 have c:splitId "BaseException.__getattribute__"=some ("BaseException","__getattribute__"):=by decide+kernel
 have ha:=F.args_bexc_ga (.ref x) b;obtain⟨hh,g,d,t,os⟩:=s;have f:=I.type (M:=M);have i:=looks_subIn (M:=M) X k.hb;simp only[checkBuiltinCall,hk,c];refine Zm ?_
 .unfold isInstance
  repeat (first|lk|wp_step)
  exact e
theorem N7 {tk:Tok}{Q:Fin->Dh}(k:wg K D)(X:K.In s.heap)(I:rR s.heap x D)(e:Q (.done<|.ret<|.ref D) s) :
  Es (Ez prog w) A (Builtin.«object.__getattribute__» ⟨[.ref x,.str "__class__" tk],[]⟩) Q E s:=by
 obtain⟨hh,g,d,t,os⟩:=s;have b:=I.type (M:=Ez prog w);have c:=Pa (M:=Ez prog w) (x:=x) X k;unfold Builtin.«object.__getattribute__»;refine Zm<|Zu<|Zm<|Zu<|Zm<|b.at (Zm<|c.at ?_);show Es _ _ (bindTo _ _ _ _) _ _ _;show Es _ _ (MG [Value.builtin "object.__class__"] (call (Value.builtin "getset_descriptor.__get__") [Value.builtin "object.__class__",EB x,EB D])>>=ret) _ _ _;exact Zm<|Yp<|Vm<|GD (s:=⟨hh,g,d,t,os⟩) X I k.hm<|Zu e
theorem N6 {Q:Dc->Dh}(k:wg K D)(X:K.In s.heap)(I:rR s.heap x D)(h:Q (some<|.ref D) { s with toks:=s.toks+1 }):Es (Ez prog w) A (getAttr? (.ref x) "__class__") Q E s:=by
 obtain⟨hh,g,d,t,os⟩:=s;have b:=I.type (M:=Ez prog w);have c:=looks_findIn (M:=Ez prog w) X k.ga;have e:=looks_findIn (M:=Ez prog w) X k.hk;unfold getAttr? getAttrBy? getAttrBy;refine Zm<|wpAny_mkText<|Zm<|Jn<|Yp<|Zm<|b.at (Zm<|c.at ?_);show Es _ _ (getAttrByItsOwn _ _ _ _ _ _) _ _ _;unfold getAttrByItsOwn hookBefore;refine Zm<|e.at ?_;refine Zm<|Jn<|Yp ?_;show Es _ _ (boundAndCalled _ _ _) _ _ _;unfold boundAndCalled;rw[F.attr_ValueError.ga.bind];refine Zm<|Zu ?_;refine Vm<|V0 F.attr_ValueError.ga.plain F.entry_bexc_ga<|N5 k X I<|N7 k X I ?_;exact handed_on (s:=⟨hh,g,d,t+1,os⟩) rfl<|Zu h
theorem mO (k:wg K D):KitX K (.ref x) (.ref D) (λh=>rR h x D) where
 ty:=λ_ _ _ I=>I.type
 it:=λ_ _ X _=>by
  obtain⟨d,b⟩:=Z6.mp k.cl;unfold clsIn at b
  split at b
  .rename_i j l c i f;intro r t s v k q;unfold isType loadHead;exact Zm<|wpAny_loadPart (k _ _<|X _ _ f)<|Zu q
  .cases b
 ne:=λh p u o n w X g=>by
  obtain⟨d,b⟩:=Z6.mp k.cl;refine YH.mpr λq=>?_;have e:D=p:=Value.ref.inj<|JB.mp q;subst e;unfold clsIn at b
  split at b
  .rename_i j l c i f;have z:=(X _ _ f).symm.trans g;cases z
  .cases b
 ca:=λX I q=>N6 k X I q
end
end PySem.W
namespace L2
open PySem PySem.Spec PyProof.Rows
section
variable {X:Cx}{K:Cq}
def Rv (K:Cq)(c:Ep)(d:V):Dj->Hp->VK->Prop:=λe H Q=>∃(a D:Eo) (b:Bool),e=[.ref a,d]/\H a=some (UW a<|.ref D)/\PySem.W.wg K D/\EV K (.ref D) c=some b/\Q (.bl b) H
theorem Nl {a D:Eo}{b:Bool}{c:Ep}{Q:VK}(I:Inv X Dp σ H s)(ha:H a=some (UW a<|.ref D))(k:PySem.W.wg X.K D)(e:EV X.K (.ref D) c=some b)(q:Q (.bl b) H) :
  Es (Ez X.prog X.w) X.A (call (.builtin "isinstance") [.ref a,c]) (EP X Dp σ Q) X.xe s:=by
 obtain⟨⟨o,g,h1,d,f,_⟩,_⟩:=(I.hok a _ ha);refine Ys (PySem.W.mO k) I.vh ⟨o,h1,d,?_⟩ e (λz=>nomatch z) λtk=>⟨.bl b,H,I.tok _,rfl,q⟩;unfold PySem.W.notCls;rw[f]
theorem yM (d:X.K=K:=by rfl){C:Eo}:yd X (.builtin "isinstance") (Rv K (.ref C)<|.ref C):=by
 subst d;intro i s n H l j Q I r h;obtain⟨a,D,b,rfl,ha,k,e,q⟩:=h;obtain⟨u,g,rfl,f,c⟩:=vals2 r;cases(show u=EB a from f);cases(show g=EB C from c);exact Nl I ha k e q
theorem GN (d:X.K=K:=by rfl){T:String}:yd X (.builtin "isinstance") (Rv K (.type T)<|.ty T):=by
 subst d;intro i s n H l j Q I r h;obtain⟨a,D,b,rfl,ha,k,e,q⟩:=h;obtain⟨u,g,rfl,f,c⟩:=vals2 r;cases(show u=EB a from f);cases(show g=Value.type T from c);exact Nl I ha k e q
end
end L2
namespace AxK
structure TO (β:Type) where
 lt:β->β->Bool
 iw:∀a b,lt a b=true->lt b a=false
 iV:∀a b c,lt b a=false->lt c b=false->lt c a=false
 iW:∀a b,lt a b=false->lt b a=false->a=b
section
variable {β γ:Type}{O:TO β}
def TO.le (O:TO β)(a b:β):Prop:=O.lt b a=false
theorem TO.refl (O:TO β)(a:β):O.le a a:=by
 show O.lt a a=false;cases h:O.lt a a with
 |false=>rfl
 |true=>exact h.symm.trans<|O.iw a a h
theorem TO.of_lt {a b:β}(h:O.lt a b=true):O.le a b:=O.iw a b h
theorem TO.trans {a b c:β}(h1:O.le a b)(d:O.le b c):O.le a c:=O.iV a b c h1 d
def TO.nat:TO Nat:=⟨λa b=>decide (a<b),λa b h=>by have:=ZI h;exact ZE<|by lia,λa b c h1 d=>by
 have:=Ju h1;have:=Ju d;exact ZE<|by lia,λa b h1 d=>by
 have:=Ju h1;have:=Ju d;lia⟩
def yU (O:TO β):List β->List β->Bool
 |[],[]=>false
 |[],_::_=>true
 |_::_,[]=>false
 |a::as,b::bs=>O.lt a b||(!O.lt b a&&yU O as bs)
theorem FZ (O:TO β):∀a b:List β,yU O a b=true->yU O b a=false
 |[],[],h=>nomatch h
 |[],_::_,_=>rfl
 |_::_,[],h=>nomatch h
 |a::as,b::bs,h=>by
  unfold yU at h ⊢;cases h1:O.lt a b with
  |true =>
   rw[O.iw _ _ h1];simp
  |false =>
   rw[h1]at h;have h:O.lt b a=false/\yU O as bs=true:=by simpa using h
   rw[h.1,FZ O as bs h.2];rfl
theorem FY (O:TO β):∀a b:List β,yU O a b=false->yU O b a=false->a=b
 |[],[],_,_=>rfl
 |[],_::_,h,_=>nomatch h
 |_::_,[],_,h=>nomatch h
 |a::as,b::bs,h1,c=>by
  unfold yU at h1 c;have h1:=JA.mp h1;have c:=JA.mp c;have e:=O.iW _ _ h1.1 c.1;have d:yU O as bs=false:=by have:=h1.2;rw[c.1]at this;simpa using this
  have f:yU O bs as=false:=by have:=c.2;rw[h1.1]at this;simpa using this
  rw[e,FY O as bs d f]
theorem F1 (O:TO β):∀a b c:List β,yU O b a=false->yU O c b=false->yU O c a=false
 |[],[],c,_,h=>h
 |[],_::_,[],_,_=>rfl
 |[],_::_,_::_,_,_=>rfl
 |_::_,[],c,h,_=>nomatch h
 |_::_,_::_,[],_,h=>nomatch h
 |a::as,b::bs,c::cs,h1,d=>by
  unfold yU at h1 d ⊢;have h1:=JA.mp h1;have d:=JA.mp d;rw[O.iV _ _ _ h1.1 d.1,Um];cases q:O.lt a c with
  |true=>rfl
  |false =>
   have e:a=c:=O.iW _ _ q<|O.iV _ _ _ h1.1 d.1;have f:O.lt a b=false:=by rw[e];exact d.1
   have g:O.lt b c=false:=by rw[<-e];exact h1.1
   have i:yU O bs as=false:=by have:=h1.2;rw[f]at this;simpa using this
   have j:yU O cs bs=false:=by have:=d.2;rw[g]at this;simpa using this
   rw[F1 O as bs cs i j];rfl
def TO.list (O:TO β):TO (List β):=⟨yU O,FZ O,F1 O,FY O⟩
def TO.by_ (O:TO β)(f:γ->β)(h:∀a b,f a=f b->a=b):TO γ:=⟨λa b=>O.lt (f a)<|f b,λa b=>O.iw _ _,λa b c=>O.iV _ _ _,λa b h1 d=>h a b<|O.iW _ _ h1 d⟩
end
open PySem PySem.W PyProof.Rows
def run {b:Type}(lt:Nat->Nat->Bool):KasT b->b
 | .ret a=>a
 | .ask i j k=>run lt<|k<|lt i j
theorem run_bind {b c:Type}{f:b->KasT c}:∀t:KasT b,run lt (t.bind f)=run lt (f<|run lt t)
 | .ret _=>rfl
 | .ask i j k=>run_bind<|k<|lt i j
section
variable {β:Type}{O:TO β}{key:Nat->β}
def kn (key:Nat->β)(p:Array Nat)(i:Nat):β:=key<|p.getD i 0
def Up (O:TO β)(key:Nat->β)(p:Array Nat)(n:Nat):Prop:=∀i j,i<=j->j<n->O.le (kn key p i) (kn key p j)
def Down (O:TO β)(key:Nat->β)(p:Array Nat)(n:Nat):Prop:=∀i j,i<=j->j<n->O.le (kn key p j) (kn key p i)
theorem FS {p q:Array Nat}{i j:Nat}(h:p[i]?=q[j]?):kn key p i=kn key q j:=by
 unfold kn;rw[Yg,Yg,h]
theorem Up.snoc {n:Nat}(h1:1<=n)(h:Up O key p n)(hl:O.le (kn key p<|n-1)<|kn key p n):Up O key p (n+1):=λi j b c=>by
 by_cases z:j<n
 .exact h i j b z
 .have z:j=n:=by lia
  subst z
  by_cases z:i=j
  .subst z;exact O.refl _
  .exact TO.trans (h i (j-1) (by lia)<|by lia) hl
theorem Down.snoc {n:Nat}(h1:1<=n)(h:Down O key p n)(hl:O.le (kn key p n)<|kn key p<|n-1):Down O key p (n+1):=λi j b c=>by
 by_cases z:j<n
 .exact h i j b z
 .have z:j=n:=by lia
  subst z
  by_cases z:i=j
  .subst z;exact O.refl _
  .exact TO.trans hl (h i (j-1) (by lia)<|by lia)
theorem one_up (p:Array Nat):Up O key p 1:=λi j b c=>by
 have:i=j:=by lia
 subst this;exact O.refl _
theorem Kl:∀(f n:Nat),1<=n->Up O key p n->∃m,run (λi j=>O.lt (key i)<|key j) (kas_asc p f n)=m/\n<=m/\m<=n+f/\Up O key p m/\(m=n+f\/O.lt (kn key p m) (kn key p<|m-1)=true)
 | 0,n,_,h=>⟨n,rfl,Zt _,Zt _,h,.inl rfl⟩
 |f+1,n,h1,h=>by
  unfold kas_asc;show∃m,run _ (if O.lt (kn key p n) (kn key p<|n-1)=true then KasT.ret n else kas_asc p f (n+1))=m/\_;cases q:O.lt (kn key p n) (kn key p<|n-1) with
  |true=>exact⟨n,by rw[ZK rfl];rfl,Zt _,by lia,h,.inr q⟩
  |false =>
   rw[ZH<|by decide];obtain⟨m,e,a,b,c,d⟩:=Kl f (n+1) (by lia)<|h.snoc h1 q;exact⟨m,e,by lia,by lia,c,d.imp (λz=>by lia) id⟩
theorem MK {p:Array Nat}{i j:Nat}(b:j<=p.size)(k:Nat):kn key (kas_rev p i j) k=if i<=k/\k<j then kn key p (i+j-1-k) else kn key p k:=by
 have e:=getElem?_mirror_all (i:=i) b k;unfold kas_rev
 by_cases z:i<=k/\k<j
 .rw[ZK z]at e ⊢;exact FS e
 .rw[ZH z]at e ⊢;exact FS e
theorem Gh {p:Array Nat}{i j:Nat}(b:j<=p.size)(h:∀k,i<=k->k<j->kn key p k=kn key p (j-1))(k:Nat):kn key (kas_rev p i j) k=kn key p k:=by
 rw[MK b]
 split
 .rw[h _ (by lia)<|by lia,h k (by lia)<|by lia]
 .rfl
theorem xS (p:Array Nat)(i j:Nat):(kas_rev p i j).Perm p:=mirror_perm _ _ _ _
theorem Down.lW (h:Down O key p n)(e:∀k,kn key q k=kn key p k):Down O key q n:=λi j h1 b=>by
 rw[e,e];exact h i j h1 b
def Flat (key:Nat->β)(p:Array Nat)(n q:Nat):Prop:=q+1<=n/\∀i,n-(q+1)<=i->i<n->kn key p i=kn key p (n-1)
theorem IG {n:Nat}(h:1<=n):Flat key p n 0:=⟨h,λi h1 b=>by
 have:i=n-1:=by lia
 rw[this]⟩
theorem Ic:∀(f:Nat) (p:Array Nat) (n q:Nat),1<=n->n+f<=p.size->Down O key p n->Flat key p n q ->
  ∃p' n' q',run (λi j=>O.lt (key i)<|key j) (kas_desc f p n q)=(p',n',q')/\p'.Perm p/\n<=n'/\n'<=n+f/\Down O key p' n'/\Flat key p' n' q'
 | 0,p,n,q,_,_,h,hq=>⟨p,n,q,rfl,Array.Perm.refl _,Zt _,Zt _,h,hq⟩
 |f+1,p,n,q,h1,hz,h,hq=>by
  unfold kas_desc;show∃p' n' q',run (λi j=>O.lt (key i)<|key j) (if O.lt (kn key p n) (kn key p<|n-1)=true then(if q>0 then kas_desc f (kas_rev p (n-(q+1)) n) (n+1) 0 else kas_desc f p (n+1) 0)
   else .ask (p.getD (n-1) 0) (p.getD n 0) λd=>if d=true then .ret (p,n,q) else kas_desc f p (n+1) (q+1))=(p',n',q')/\_
  cases c:O.lt (kn key p n) (kn key p<|n-1) with
  |true =>
   rw[ZK rfl];have hd:=h.snoc h1<|TO.of_lt c
   by_cases z:q>0
   .rw[ZK z];have o:=Gh (key:=key) (p:=p) (i:=n-(q+1)) (j:=n) (by lia) hq.2;obtain⟨p',n',q',e,a,b,d,g,k⟩:=Ic f (kas_rev p (n-(q+1)) n) (n+1) 0 (by lia) (by rw[(xS p _ _).size_eq];lia) (hd.lW o) (IG<|by lia);exact⟨p',n',q',e,a.trans<|xS _ _ _,by lia,by lia,g,k⟩
   .rw[ZH z];obtain⟨p',n',q',e,a,b,d,g,k⟩:=Ic f p (n+1) 0 (by lia) (by lia) hd (IG<|by lia);exact⟨p',n',q',e,a,by lia,by lia,g,k⟩
  |false =>
   rw[ZH<|by decide];show∃p' n' q',run (λi j=>O.lt (key i)<|key j) (if O.lt (kn key p<|n-1) (kn key p n)=true then KasT.ret (p,n,q) else kas_desc f p (n+1) (q+1))=(p',n',q')/\_;cases d:O.lt (kn key p<|n-1) (kn key p n) with
   |true=>exact⟨p,n,q,by rw[ZK rfl];rfl,Array.Perm.refl _,Zt _,by lia,h,hq⟩
   |false =>
    rw[ZH<|by decide];have eq:kn key p n=kn key p (n-1):=O.iW _ _ c d;have o:Flat key p (n+1) (q+1):=⟨by have:=hq.1;lia,λi r s=>by
     rw[show n+1-1=n by lia]
     by_cases z:i=n
     .rw[z]
     .rw[eq];exact hq.2 i (by lia)<|by lia⟩
    obtain⟨p',n',q',e,a,b,g,k,l⟩:=Ic f p (n+1) (q+1) (by lia) (by lia) (h.snoc h1 d) o;exact⟨p',n',q',e,a,by lia,by lia,k,l⟩
theorem Kc {p:Array Nat}{n Du:Nat}(h1:1<=n)(hn:n<=Du)(hz:Du<=p.size)(h:Down O key p n) :
  ∃m p',run (λi j=>O.lt (key i)<|key j) (kas_tail3 n Du p)=(m,p')/\p'.Perm p/\1<=m/\m<=Du/\Up O key p' m:=by
 have up:Up O key (kas_rev p 0 n) n:=λi j d f=>by
  rw[MK<|by lia,MK<|by lia,ZK<|by lia,ZK<|by lia];exact h _ _ (by lia) (by lia)
 obtain⟨m,e,a,b,c,_⟩:=Kl (Du-n) n h1 up;refine⟨m,kas_rev p 0 n,?_,xS _ _ _,by lia,by lia,c⟩;unfold kas_tail3;rw[run_bind,e];rfl
theorem XL {p:Array Nat}{n Du:Nat}(hn:n+1<=Du)(hz:Du<=p.size)(h:Down O key p<|n+1) :
  ∃m p',run (λi j=>O.lt (key i)<|key j) (kas_descPart n Du p)=(m,p')/\p'.Perm p/\1<=m/\m<=Du/\Up O key p' m:=by
 obtain⟨p',g,l,e,a,b,c,d,v⟩:=Ic (Du-(n+1)) p (n+1) 0 (by lia) (by lia) h (IG<|by lia);have u:Du<=p'.size:=by rwa[a.size_eq]
 unfold kas_descPart;rw[run_bind,e];show∃m f,run _ (if l>0 then kas_tail3 g Du (kas_rev p' (g-(l+1)) g) else kas_tail3 g Du p')=(m,f)/\_
 by_cases z:l>0
 .rw[ZK z];have w:=Gh (key:=key) (p:=p') (i:=g-(l+1)) (j:=g) (by lia) v.2;obtain⟨m,f,t,o,q,r,s⟩:=Kc (Du:=Du) (by lia) (by lia) (by rwa[(xS p' _ _).size_eq]) (d.lW w);exact⟨m,f,t,(o.trans<|xS _ _ _).trans a,q,r,s⟩
 .rw[ZH z];obtain⟨m,f,t,o,q,r,s⟩:=Kc (Du:=Du) (by lia) (by lia) u d;exact⟨m,f,t,o.trans a,q,r,s⟩
theorem O2 {p:Array Nat}{Du:Nat}(h1:1<=Du)(hz:Du<=p.size) :
  ∃m p',run (λi j=>O.lt (key i)<|key j) (kas_count Du p)=(m,p')/\p'.Perm p/\1<=m/\m<=Du/\Up O key p' m:=by
 obtain⟨n,e,a,b,c,d⟩:=Kl (O:=O) (key:=key) (p:=p) (Du-1) 1 (Zt _)<|one_up p;unfold kas_count;rw[run_bind,e]
 by_cases z:n=Du
 .rw[ZK<|by simpa using z];exact⟨n,p,rfl,Array.Perm.refl _,a,by lia,c⟩
 rw[ZH<|by simpa using z];have l:O.lt (kn key p n) (kn key p<|n-1)=true:=d.resolve_left (by lia)
 by_cases g:n>1
 .rw[ZK g];show∃m p',run _ (if O.lt (kn key p 0) (kn key p<|n-1)=true then KasT.ret (n,p) else kas_descPart n Du (kas_rev p 0 n))=(m,p')/\_;cases q:O.lt (kn key p 0) (kn key p<|n-1) with
  |true =>
   rw[ZK rfl];exact⟨n,p,rfl,Array.Perm.refl _,a,by lia,c⟩
  |false =>
   rw[ZH<|by decide];have f:∀k,0<=k->k<n->kn key p k=kn key p (n-1):=λk _ hk =>
    O.iW _ _ (TO.trans q<|c 0 k (by lia) hk) (c k (n-1) (by lia)<|by lia)
   have y:=Gh (key:=key) (p:=p) (i:=0) (j:=n) (by lia) f;have w:Down O key p n:=λi j o r=>by
    rw[f i (by lia)<|by lia,f j (by lia) r];exact O.refl _
   obtain⟨m,p',x,s,t,u,v⟩:=XL (O:=O) (key:=key) (p:=kas_rev p 0 n) (n:=n) (Du:=Du) (by lia) (by rwa[(xS p _ _).size_eq]) ((w.snoc a<|TO.of_lt l).lW y);exact⟨m,p',x,s.trans<|xS _ _ _,t,u,v⟩
 .rw[ZH g];have g:n=1:=by lia
  subst g;exact XL (by lia) hz (Down.snoc (Zt _) (λi j o r=>by
   have:i=j:=by lia
   subst this;exact O.refl _)<|TO.of_lt l)
theorem Gn (hs:Up O key p k):∀(f l r:Nat),l<=r->r<=k->r-l<=f->(∀i,i<l->O.le (kn key p i) (kn key p k))->(∀i,r<=i->i<k->O.lt (kn key p k) (kn key p i)=true) ->
  ∃m,run (λi j=>O.lt (key i)<|key j) (kas_place p k f l r)=m/\m<=k/\(∀i,i<m->O.le (kn key p i) (kn key p k))/\(∀i,m<=i->i<k->O.lt (kn key p k) (kn key p i)=true)
 | 0,l,r,h1,h2,h3,h4,h5=>⟨l,rfl,by lia,h4,λi c b=>h5 i (by lia) b⟩
 |f+1,l,r,h1,h2,h3,h4,h5=>by
  unfold kas_place
  by_cases z:l≥r
  .rw[ZK z];exact⟨l,rfl,by lia,h4,λi c b=>h5 i (by lia) b⟩
  rw[ZH z];show∃m,run _ (if O.lt (kn key p k) (kn key p<|(l+r) / 2)=true then kas_place p k f l ((l+r) / 2) else kas_place p k f ((l+r) / 2+1) r)=m/\_;cases q:O.lt (kn key p k) (kn key p<|(l+r) / 2) with
  |true =>
   rw[ZK rfl];refine Gn hs f l ((l+r) / 2) (by lia) (by lia) (by lia) h4 λi c b=>?_;cases w:O.lt (kn key p k) (kn key p i) with
   |true=>rfl
   |false =>
    have:=O.iV _ _ _ (hs _ _ c b) w;rw[q]at this;exact this.symm
  |false =>
   rw[ZH<|by decide];exact Gn hs f ((l+r) / 2+1) r (by lia) (by lia) (by lia) (λi c=>TO.trans (hs i ((l+r) / 2) (by lia)<|by lia) q) h5
theorem Bl {p:Array Nat}{k l:Nat}(hk:k<p.size)(hl:l<=k)(i:Nat):kn key (bubble p k<|k-l) i=if i=l then kn key p k else if l<i/\i<=k then kn key p (i-1) else kn key p i:=by
 have e:=getElem?_bubble hk (k-l) (by lia) i;rw[show k-(k-l)=l by lia]at e
 by_cases z:i=l
 .rw[ZK z]at e ⊢;exact FS e
 .rw[ZH z]at e ⊢
  by_cases z:l<i/\i<=k
  .rw[ZK z]at e ⊢;exact FS e
  .rw[ZH z]at e ⊢;exact FS e
theorem OW:∀(f:Nat) (p:Array Nat) (k:Nat),k+f<=p.size->Up O key p k->∃p',run (λi j=>O.lt (key i)<|key j) (kas_bin f p k)=p'/\p'.Perm p/\Up O key p' (k+f)
 | 0,p,k,_,h=>⟨p,rfl,Array.Perm.refl _,h⟩
 |f+1,p,k,hz,h=>by
  obtain⟨m,e,a,b,c⟩:=Gn h k 0 k (by lia) (Zt _) (by lia) (λi o=>by lia) (λi r s=>by lia);have up:Up O key (bubble p k<|k-m) (k+1):=λi j n q=>by
   rw[Bl (by lia) a,Bl (by lia) a]
   repeat' split
   all_goals first
    |(exfalso;lia)
    |exact O.refl _
    |exact b _ (by lia)
    |exact TO.of_lt (c _ (by lia)<|by lia)
    |exact h _ _ (by lia) (by lia)
  obtain⟨p',l,d,g⟩:=OW f (bubble p k<|k-m) (k+1) (by rw[bubble_size];lia) up;unfold kas_bin;rw[run_bind,e];exact⟨p',l,d.trans<|bubble_perm _ _ _,by rw[show k+(f+1)=k+1+f by lia];exact g⟩
theorem SZ {n:Nat}(h1:1<=n):∃p',run (λi j=>O.lt (key i)<|key j) (kas_sort n)=p'/\p'.Perm (Ll<|ET n)/\Up O key p' n:=by
 have l:(Ll<|ET n).size=n:=by simp
 obtain⟨m,p',e,a,b,c,d⟩:=O2 (O:=O) (key:=key) (p:=Ll<|ET n) (Du:=n) h1<|J9 l.symm;unfold kas_sort;rw[run_bind,e];show∃f,run _ (if m<n then kas_bin (n-max m 1) p' (max m 1) else KasT.ret p')=f/\_;have em:max m 1=m:=by lia
 rw[em]
 by_cases z:m<n
 .rw[ZK z];obtain⟨f,q,o,g⟩:=OW (n-m) p' m (by rw[a.size_eq,l];lia) d;exact⟨f,q,o.trans a,by rw[show m+(n-m)=n by lia]at g;exact g⟩
 .rw[ZH z];have z:m=n:=by lia
  rw[z]at d;exact⟨p',rfl,a,d⟩
end
def Asks (n:Nat){c:Type}(R:c->Prop):KasT c->Prop
 | .ret a=>R a
 | .ask i j k=>i<n/\j<n/\∀b,Asks n R<|k b
theorem Asks.bind {c g:Type}{R:c->Prop}{d:g->Prop}{f:c->KasT g}(e:∀a,R a->Asks n d (f a)):∀{t:KasT c},Asks n R t->Asks n d (t.bind f)
 | .ret a,h=>e a h
 | .ask i j k,h=>⟨h.1,h.2.1,λb=>Asks.bind e<|h.2.2 b⟩
theorem Asks.wp {n:Nat}{c:Type}{R:c->Prop}{b:Nat->Nat->(Bool->Dh)->Dh}{lt:Nat->Nat->Bool}{s:Et}(hc:∀i j,i<n->j<n->∀C:Bool->Dh,C (lt i j) s->b i j C s){Q:c->Dh} :
  ∀{t:KasT c},Asks n R t->Q (run lt t) s->t.kasWp b Q s
 | .ret _,_,q=>q
 | .ask i j k,h,q=>hc i j h.1 h.2.1 _<|Asks.wp hc (h.2.2 _) q
def Bd (n:Nat)(p:Array Nat):Prop:=∀i:Nat,p.getD i 0<n
theorem Bd.perm {q:Array Nat}(h:Bd n p)(e:q.Perm p):Bd n q:=λi=>by
 rw[Yg]
 rcases Nat.lt_or_ge i q.size with z|z
 .rw[Ux q i z];have hm:q[i]∈p:=e.mem_iff.mp<|Array.getElem_mem z;obtain⟨j,c,b⟩:=Array.getElem_of_mem hm;have:=h j;rw[Yg,Ux p j c,b]at this;exact this
 .rw[Jm z];have:=h p.size;rw[Yg,Jm<|Zt _]at this;exact this
theorem Gx (h:Bd n p):∀f m:Nat,Asks n (λ_=>True) (kas_asc p f m)
 | 0,m=>trivial
 | f+1,m=>⟨h _,h _,λc=>by
  show Asks n _ (if c=true then KasT.ret m else kas_asc p f (m+1))
  split
  .trivial
  .exact Gx h f (m+1)⟩
theorem uI:∀(f:Nat) (p:Array Nat) (m q:Nat),Bd n p->Asks n (λr=>Bd n r.1) (kas_desc f p m q)
 | 0,p,m,q,h=>h
 | f+1,p,m,q,h=>⟨h _,h _,λc=>by
  cases c with
  |true =>
   show Asks n _ (if q>0 then kas_desc f (kas_rev p (m-(q+1)) m) (m+1) 0 else kas_desc f p (m+1) 0)
   split
   .exact uI f _ _ _ (h.perm<|xS _ _ _)
   .exact uI f _ _ _ h
  |false =>
   refine⟨h _,h _,λd=>?_⟩;cases d with
   |true=>exact h
   |false=>exact uI f _ _ _ h⟩
theorem Gc {m r:Nat}(h:Bd n p):Asks n (λr=>Bd n r.2) (kas_tail3 m r p):=by
 have h':Bd n (kas_rev p 0 m):=h.perm<|xS _ _ _;unfold kas_tail3;refine Asks.bind (λa _=>?_)<|Gx h' _ _;exact h'
theorem uE {m r:Nat}(h:Bd n p):Asks n (λr=>Bd n r.2) (kas_descPart m r p):=by
 refine Asks.bind (λa ha=>?_)<|uI _ _ _ _ h;show Asks n _ (if a.2.2>0 then _ else _)
 split
 .exact Gc (Bd.perm ha<|xS _ _ _)
 .exact Gc ha
theorem Kt {r:Nat}(h:Bd n p):Asks n (λr=>Bd n r.2) (kas_count r p):=by
 refine Asks.bind (λa _=>?_)<|Gx h _ _;show Asks n _ (if(a==r)=true then _ else _)
 split
 .exact h
 .split
  .refine⟨h _,h _,λc=>?_⟩;cases c with
   |true=>exact h
   |false=>exact uE<|h.perm<|xS _ _ _
  .exact uE h
theorem uU {k:Nat}(h:Bd n p):∀f l r:Nat,Asks n (λ_=>True) (kas_place p k f l r)
 | 0,l,r=>trivial
 |f+1,l,r=>by
  unfold kas_place
  split
  .trivial
  .refine⟨h _,h _,λc=>?_⟩;cases c with
   |true=>exact uU h f _ _
   |false=>exact uU h f _ _
theorem Ft:∀(f:Nat) (p:Array Nat) (k:Nat),Bd n p->Asks n (λr=>Bd n r) (kas_bin f p k)
 | 0,p,k,h=>h
 |f+1,p,k,h=>Asks.bind (λl _=>Ft f _ _<|h.perm<|bubble_perm _ _ _) (uU h _ _ _)
theorem OB {n:Nat}(h1:1<=n):Asks n (λr=>Bd n r) (kas_sort n):=by
 have h:Bd n (Ll<|ET n):=λi=>by
  rw[Yg,VR]
  rcases Nat.lt_or_ge i n with z|z
  .rwa[V7 z]
  .rw[Yv<|by rwa[YI]];exact h1
 refine Asks.bind (λa ha=>?_)<|Kt h;show Asks n _ (if a.1<n then _ else _)
 split
 .exact Ft _ _ _ ha
 .exact ha
end AxK
namespace L2
open PySem PySem.Spec PyProof.Rows PySem.W AxK
section
variable {prog:Er}{w:Eu}{A:EJ}{E:Ep->Dh}{s:Et}
theorem MO {a:Eo}{vs:Db}{n:Nat}{κ:SortKind}{lt:Nat->Nat->Bool}{P:PySem.Fin->Dh}(v:s.heap.get? a=some (Ls "list" vs.toArray n))(x:vs.length<64)
  (hk:2<=vs.length->∀s1:Et,(∀b o,b≠a->s.heap.get? b=some o->s1.heap.get? b=some o)->(∀(Q:SortKind->Dh) (E':Ep->Dh),Q κ s1->Es (Ez prog w) A (keyKind' vs.toArray) Q E' s1) /\ ∀i j,i<vs.length->j<vs.length->∀C:Bool->Dh,C (lt i j) s1->kas_ask prog w A κ vs i j C s1)
  (h:∀p:Array Nat,(vs.length<2/\p=Ll (ET vs.length))\/(2<=vs.length/\p=run lt (kas_sort vs.length))->P (.done<|.ret .none) { s with heap:=sortedHeap s.heap a vs (Ll<|p.toList.map λi=>vs.getD i EH) }) :
  Es (Ez prog w) A (Builtin.«list.sort» ⟨[.ref a],[]⟩) P E s:=by
 have ha:a<s.heap.objs.size:=ZC v;have N:=E6 s.heap a<|E2 λ_=>(#[]:Array Ep);obtain⟨n1,r⟩:∃G,(s.heap.update a<|E2 λ_=>(#[]:Array Ep)).get? a=some (Ls "list" #[] G):=⟨_,get?_update_seq v λ_=>#[]⟩;have d:(((s.heap.update a<|E2 λ_=>(#[]:Array Ep)).push (Ls "tuple" vs.toArray 0)).push (Ls "list" #[] 0)).get? a=some (Ls "list" #[] n1):=Zp _<|Zp _ r;have keep:∀b o,b≠a->s.heap.get? b=some o->(((s.heap.update a<|E2 λ_=>(#[]:Array Ep)).push (Ls "tuple" vs.toArray 0)).push (Ls "list" #[] 0)).get? b=some o:=λb o hb q =>
  Zp _ (Zp _<|by rwa[Heap.get?_update_ne _ _ _ _ hb])
 have c:vs.toArray.size=vs.length:=by simp
 rw[list_sort_plain];refine Zm (listItems_at v rfl<|Zm<|listUpdate_at v rfl (Zm<|seqEpoch_at r rfl<|Zm<|wpAny_newTuple (Zm<|wpAny_newList (Yp ?_)<|Yb _) (by show vs.length<=_;rw[YK];lia)) (by rw[ZP,YK];lia)<|Yb _);show Es (Ez prog w) A _ P E { s with heap:=((s.heap.update a<|E2 λ_=>#[]).push<|Ls "tuple" vs.toArray 0).push (Ls "list" #[] 0) };dsimp only
 by_cases I:vs.length<2
 .have fin:=h (Ll<|ET vs.length)<|.inl ⟨I,rfl⟩;have H:(Ll<|(Ll<|ET vs.length).toList.map λi=>vs.getD i EH)=(vs.toArray.zip vs.toArray).map (·.2):=by
   have e:=kas_range<|vs.toArray.zip vs.toArray;rw[show(vs.toArray.zip vs.toArray).size=vs.length by simp]at e;exact(kat_snds (ks:=vs) (vs:=vs) (st:=SortSt.mk' general' (vs.toArray.zip vs.toArray) #[] 7 none) rfl e.symm).symm
  rw[H]at fin;rw[ZK<|by rwa[c],ZK<|by rwa[c]];refine Zm<|Zu ?_;rw[StateT.run_pure];refine Zm<|Zu ?_;dsimp only;refine Zm (seqEpoch_at d rfl<|Zm<|listUpdate_at d rfl ?_ (Yb _) (by rw[Array.size_map,Array.size_zip,c,Nat.min_self,YK];lia));simp only[bne_self_eq_false,Yt,Js];exact Zu fin
 .have l:2<=vs.length:=by lia
  rw[ZH<|by rwa[c],ZH<|by rwa[c]];obtain⟨L,M⟩:=hk l { s with heap:=((s.heap.update a<|E2 λ_=>(#[]:Array Ep)).push (Ls "tuple" vs.toArray 0)).push (Ls "list" #[] 0) } keep;refine Zm<|L _ _ ?_;have g:(kas_sort vs.length).kasWp (kas_ask prog w A κ vs) (λp u=>p=run lt (kas_sort vs.length)/\u={ s with heap:=((s.heap.update a<|E2 λ_=>(#[]:Array Ep)).push (Ls "tuple" vs.toArray 0)).push (Ls "list" #[] 0) })
    { s with heap:=((s.heap.update a<|E2 λ_=>(#[]:Array Ep)).push (Ls "tuple" vs.toArray 0)).push (Ls "list" #[] 0) }:=(OB<|by lia).wp M ⟨rfl,rfl⟩
  refine Zm (Yy (kat_run (Q:=λf u=>arrOf f=(run lt<|kas_sort vs.length).map (kas_item<|vs.toArray.zip vs.toArray)/\failedOf f=none/\(run lt<|kas_sort vs.length).size=vs.length/\u={ s with heap:=((s.heap.update a<|E2 λ_=>(#[]:Array Ep)).push (Ls "tuple" vs.toArray 0)).push (Ls "list" #[] 0) }) rfl l x (λO f u z B D F=>by obtain⟨rfl,rfl⟩:=F;exact⟨B,D,z,rfl⟩) g) ?_ λ_ _ e=>e)
  rintro⟨⟨⟩,f⟩ u ⟨y,J,K,rfl⟩;dsimp only;have t:=kat_snds rfl y;rw[t];refine Zm (seqEpoch_at d rfl<|Zm<|listUpdate_at d rfl ?_ (Yb _) (by rw[ZP,Zk,ZT,K,YK];lia));rw[J];simp only[bne_self_eq_false,Yt,Js];exact Zu<|h _<|.inr ⟨l,rfl⟩
def IU (T:String):Ey->Prop
 | .tuple (.int _::_)=>T="int"
 | .tuple (.str _::_)=>T="str"
 | .tuple (.tuple _::_)=>T="tuple"
 |_=>False
def TD (h h':EI)(d:Ey):Prop:=∀(v:Ep) (b:Dd),d.canLay0=true->Reads h v d b->Reads h' v d b
def RY (h h':EI)(ds:Df):Prop:=∀(c:Db) (b:Dd),EE ds=true->LU h c ds b->LU h' c ds b
mutual
theorem K4 {h h':EI}(k:∀b o,h.get? b=some o->h'.get? b=some o):∀d:Ey,TD h h' d
 | .none=>λv c _ r=>by cases r;exact .none
 | .bool _=>λv c _ r=>by cases r;exact .bool _
 | .int _=>λv c _ r=>by cases r;exact .int _ _
 | .str _=>λv c _ r=>by cases r;exact .str _ _
 | .list xs=>λv c l r=>by
  have e:=qI k xs;cases r with
  |list h1 h2 h3 h4=>exact .list (k _ _ h1) h2 h3<|e _ _ l h4
 | .tuple xs=>λv c l r=>by
  have e:=qI k xs;cases r with
  |tuple h1 h2 h3 h4=>exact .tuple (k _ _ h1) h2 h3<|e _ _ l h4
 | .dict Dm=>λv c l r=>nomatch l
theorem qI {h h':EI}(k:∀b o,h.get? b=some o->h'.get? b=some o):∀ds:Df,RY h h' ds
 |[]=>λg c _ r=>by cases r;exact .nil
 |d::ds=>λg c l r=>by
  have e:=K4 k d;have f:=qI k ds;have l:d.canLay0=true/\EE ds=true:=by simpa[EE] using l
  cases r with
  |cons h1 h2=>exact .cons (e _ _ l.1 h1)<|f _ _ l.2 h2
end
theorem G7 {h:EI}:∀{ds:Df} {us:Db} {as:Dd},LU h us ds as->(∀d∈ds,IU T d)->∃fs:Db,fs.length=ds.length/\KatTups h us fs/\∀v∈fs,(T="int"/\∃i t,v=.int i t)\/(T="str"/\∃i t,v=.str i t)\/(T="tuple"/\∃a o,v=.ref a/\h.get? a=some o/\o.cls=.type "tuple")
 |[],_,_,r,_=>by
  cases r;exact⟨[],rfl,KatTups.nil,λv hv=>(nomatch hv)⟩
 |d::ds,_,_,r,hf=>by
  cases r with
  |cons r1 r2 =>
   obtain⟨fs,c,e,f⟩:=G7 r2 λx g=>hf x<|Zn _ g;have hd:=hf d<|Zs ..;unfold IU at hd
   split at hd
   all_goals first
    |exact hd.elim
    | (cases r1 with
     |tuple h1 h2 h3 h4 =>
      rename_i b nx;cases q:b.toList with
      |nil=>rw[q]at h4;cases h4
      |cons v0 vr =>
       rw[q]at h4;have n:b[0]?=some v0:=by rw[<-Yu,q];rfl
       cases h4 with
       |cons g1 g2 =>
        refine⟨v0::fs,by rw[ZF,ZF,c],KatTups.cons h1 h2 h3 n e,λv hv=>?_⟩
        rcases Zo.mp hv with rfl|hv
        .cases g1
         first
          |exact .inl ⟨hd,_,_,rfl⟩
          |exact .inr (.inl ⟨hd,_,_,rfl⟩)
          |(rename_i j l p s;exact .inr<|.inr ⟨hd,_,_,rfl,j,l⟩)
        .exact f v hv)
theorem Sj {ds:Df}{us:Db}{as:Dd}(r:LU s.heap us ds as)(e:∀d∈ds,IU T d)(hn:0<ds.length){Q:SortKind->Dh}(q:Q (tuples'<|Value.type T !=Value.type "tuple") s) :
  Es (Ez prog w) A (keyKind' us.toArray) Q E s:=by
 obtain⟨fs,f,b,c⟩:=G7 r e;refine kat_kind b (by lia) (T:=.type T) (λv hv=>?_) (by simp) q
 rcases c v hv with⟨rfl,i,t,rfl⟩|⟨rfl,i,t,rfl⟩|⟨rfl,a,o,rfl,ho,hc⟩
 .exact .now
 .exact .now
 .rw[<-hc];exact(Looks.ld ho).andThen .now
def TJ (x y:Ey):Prop:=(∃i j,x=.int i/\y=.int j)\/(∃i j,x=.str i/\y=.str j)
theorem Wi {b:Bool}{Q:Bool->Dh}{r:Bool}(q:Q r s)(xs:Df):∀(ys:Df) (vs us:Db) (as bs:Dd) (i k:Nat),LU s.heap vs xs as->LU s.heap us ys bs->EE xs=true->EE ys=true->A.units+min (EK xs) (EK ys)<E8 ->
  Tf xs ys r->(b=true->i=0->∀x xs' y ys',xs=x::xs'->ys=y::ys'->TJ x y)->KatLex prog w A b (decide (k+vs.length<k+us.length)) Q (vs.zip us) i s:=by
 induction xs with
 |nil =>
  intro ys vs us as bs i k j l _ _ _ h _;cases j;have e:us.length=ys.length:=SeqAt.ReadsAll.length _ _ _ l;rw[List.zip_nil_left];show Q (decide (k+0<k+us.length)) s;rw[show decide (k+0<k+us.length)=r by rw[show r=_ from h,e];exact Vb.mpr<|by lia];exact q
 |cons x xs t =>
  intro ys vs us as bs i k j l B C p h hb;cases ys with
  |nil =>
   cases l;cases j with
   | @cons v vs _ _ _ _ p1 p2 =>
    rw[List.zip_nil_right];show Q (decide (k+(vs.length+1)<k+0)) s;rw[show decide (k+(vs.length+1)<k+0)=r by rw[show r=_ from h];exact ZE<|by lia];exact q
  |cons y ys =>
   have d:x.canLay0=true/\EE xs=true:=by simpa[EE] using B
   have f:y.canLay0=true/\EE ys=true:=by simpa[EE] using C
   have g:A.units+min x.depth y.depth<cLine:=SeqAt.room_head p;have n:A.units+min (EK xs) (EK ys)<cLine:=SeqAt.room_tail p;cases j with
   | @cons v vs _ _ _ _ p1 p2 =>
    cases l with
    | @cons u us _ _ _ _ q1 q2 =>
     rw[List.zip_cons_cons];refine kat_cons ?_;have h:(EM x y=true/\Tf xs ys r)\/(EM x y=false/\W1 x y r):=h
     rcases h with⟨e,h⟩|⟨e,h⟩
     .refine L4 prog w A _ s _ _ _ _ _ _ _ p1 q1 d.1 f.1 g ?_;rw[e];refine kat_yes ?_;have t:=t ys vs us _ _ (i+1) (k+1) p2 q2 d.2 f.2 n h (λ_ z=>by lia);rwa[ZF,ZF,show k+(vs.length+1)=k+1+vs.length by lia,show k+(us.length+1)=k+1+us.length by lia]
     .refine L4 prog w A _ s _ _ _ _ _ _ _ p1 q1 d.1 f.1 g ?_;rw[e];refine kat_no ?_;cases c:(b&&i==0) with
      |true =>
       have o:b=true/\i=0:=by simpa using c
       rcases hb o.1 o.2 x xs y ys rfl rfl with⟨i1,j1,rfl,rfl⟩|⟨i1,j1,rfl,rfl⟩
       .cases p1;cases q1;refine kat_lt_int ?_;rwa[<-(show r=_ from h)]
       .cases p1;cases q1;refine kas_lt_str ?_;rwa[<-(show r=_ from h)]
      |false=>exact kat_one _ _<|PD x y r A s _ _ _ _ p1 q1 d.1 f.1 g h _ _ q
theorem Om {d e:Ey}{u v:Ep}{as bs:Dd}{C:Bool->Dh}(o:Reads s.heap u d as)(p:Reads s.heap v e bs)(g:IU T d)(f:IU T e)(ld:d.canLay0=true)(le:e.canLay0=true)(n:A.units+min d.depth e.depth<E8)(h:W1 d e r)(c:C r s) :
  Es (Ez prog w) A (keyLt' (tuples'<|Value.type T !=Value.type "tuple") u v) C (λ_ _=>False) s:=by
 cases d with
 |tuple xs =>
  cases e with
  |tuple ys =>
   cases o with
   |tuple h1 h2 h3 h4 =>
    cases p with
    |tuple k1 k2 k3 k4 =>
     refine kat_lt h1 h3 k1 k3 ?_;have:=Wi (prog:=prog) (w:=w) (A:=A) (b:=(Value.type T !=Value.type "tuple")) c xs ys _ _ _ _ 0 0 h4 k4 ld le (by
      have i:(PyData.tuple xs).depth=EK xs+1:=rfl;have j:(PyData.tuple ys).depth=EK ys+1:=rfl;rw[i,j]at n;lia) h (λhb _ x q y t ex l=>by
      subst ex l;unfold IU at g f
      split at g
      .rename_i e;cases e
       split at f
       .rename_i e;cases e;exact .inl ⟨_,_,rfl,rfl⟩
       .rw[g]at f;exact absurd f (by decide)
       .rw[g]at f;exact absurd f (by decide)
       .exact f.elim
      .rename_i e;cases e
       split at f
       .rw[g]at f;exact absurd f (by decide)
       .rename_i e;cases e;exact .inr ⟨_,_,rfl,rfl⟩
       .rw[g]at f;exact absurd f (by decide)
       .exact f.elim
      .subst g;simp at hb
      .exact g.elim)
     simpa using this
  |_=>exact f.elim
 |_=>exact g.elim
end
section
variable {X:Cx}{K:Cq}
theorem G2:∀{vs:Dj} {us:Db},zb vs us->∀(p:List Nat),(∀i∈p,i<vs.length)->zb (p.map λi=>vs.getD i .non) (p.map λi=>us.getD i EH)
 |vs,us,r,[],_=>.nil
 |vs,us,r,i::p,h=>by
  refine .cons ?_<|G2 r p λj d=>h j<|Zn _ d;have c:=h i<|Zs ..;have go:∀{vs:Dj} {us:Db} (i:Nat),zb vs us->i<vs.length->za (vs.getD i .non) (us.getD i EH):=λ{vs us} i r c=>by
   induction i generalizing vs us with
   |zero =>
    cases r with
    |nil=>exact absurd c<|UA _
    |cons a b=>exact a
   |succ i ih =>
    cases r with
    |nil=>exact absurd c<|UA _
    |cons a b=>exact ih b (by simpa using c)
  exact go i r c
theorem Nd (h:zu K H ds vs):∀(p:List Nat),(∀i∈p,i<vs.length)->zu K H (p.map λi=>ds.getD i .none) (p.map λi=>vs.getD i .non)
 |[],_=>rfl
 |i::p,hp=>by
  have b:=hp i<|Zs ..;obtain⟨d,c,f⟩:=h.get<|Zv b;refine⟨vs.getD i .non,_,rfl,?_,Nd h p λj e=>hp j<|Zn _ e⟩;show Dt K H (ds.getD i .none) (vs.getD i .non);rwa[YM,YM,c,Zv b]
theorem XH {h:EI}:∀{ds:Df} {us:Db} {as:Dd} (i:Nat),LU h us ds as->i<ds.length->∃bs,Reads h (us.getD i EH) (ds.getD i .none) bs
 |[],_,_,i,_,hi=>absurd hi<|UA _
 |d::ds,_,_,0,r,_=>by
  cases r with
  |cons r1 r2=>exact⟨_,r1⟩
 |d::ds,_,_,i+1,r,hi=>by
  cases r with
  |cons r1 r2=>exact XH i r2 (by simpa using hi)
theorem Rm {b:Type}{l:List b}{z:b}:(ET l.length).map (λi=>l.getD i z)=l:=by
 apply List.ext_getElem?
 intro i;rw[Zy]
 rcases Nat.lt_or_ge i l.length with q|q
 .rw[V7 q,Zv q];simp[YM,Zv q]
 .rw[Yv<|by rwa[YI],Yv q];rfl
end
end L2
namespace L2
open PySem PySem.Spec PyProof.Rows AxS
section
variable {X:Cx}{Dp:De}{σ:St}{H:Hp}{s:Et}{d:Eo}{Dm:Dl}
theorem vT (I:Inv X Dp σ H s)(e:Rd H d<|.dK Dm):∃vs ep,KV Dm vs/\s.heap.DictAt (z5 X.prog X.w) d vs ep/\(d==E3)=false/\Dm.length<=sizeLine:=by
 obtain⟨z,hd,vs,f,o,g,ep,i,l,b,hk,j,c⟩:=v9 I.hok e;exact⟨vs,ep,f,⟨o,g,i,l,b,hk,j,c⟩,hd,z⟩
theorem Il {c d:Type}{F G:c->d->Prop}(h:∀a b,F a b->G a b):∀{l:List c} {m:List d},Lq F l m->Lq G l m
 |_,_,.nil=>.nil
 |_,_,.cons r t=>.cons (h _ _ r)<|Il h t
theorem yq.jk {ob:Obj}{x:HO}(hd:H d=some (.frz ob x)){y:HO}(ok:yq P w H h b u):yq P w (upd H d y) h b u:=by
 have keep:∀{c:Eo} {z:HO},H c=some z->(∀o v,z≠.frz o v)->upd H d y c=some z:=λ{c z} e n=>by
  rw[zI λq=>by rw[q,hd]at e;exact n _ _ (Option.some.inj e).symm];exact e
 induction u generalizing b with
 |lst g=>exact ok
 |tup g=>exact ok
 |dK Dm=>exact ok
 |dT Dm =>
  obtain⟨h1,i,g,l,j⟩:=ok;exact⟨h1,i,g,Il (λp q r=>⟨r.1,keep r.2.1 (λo v z=>(nomatch z)),r.2.2⟩) l,j⟩
 |set S n=>exact ok
 |ins C dx fs=>exact⟨keep ok.1 (λo v z=>(nomatch z)),ok.2⟩
 |own x=>exact ok
 |xd fs=>exact ok
 |rng lo hi=>exact ok
 |frz o u ih=>exact⟨ok.1,ih ok.2⟩
 |tbl ps=>exact ok
 |met f x=>exact ok
 |ext φ=>exact ok
theorem Inv.jk {ob:Obj}(I:Inv X Dp σ H s)(hd:H d=some (.frz ob<|.dK Dm))(t:∀o u,X.H₀ d≠some (.frz o u)):Inv X Dp σ (upd H d<|.dK Dm) s:=by
 have ne:∀{b:Eo},H b=none->b≠d:=λ{b} e z=>by rw[z,hd]at e;cases e
 have nt:∀{b:Eo} {z:HO},H b=some z->(∀o v,z≠.frz o v)->b≠d:=λ{b z} e n q=>by rw[q,hd]at e;exact n _ _ (Option.some.inj e).symm
 refine⟨I.ok,I.os,I.bare,⟨I.base.keep,I.base.slot,λb o h1 j l=>?_,I.base.there,λb w h1=>?_,λb o u h1=>?_,λb ps h1=>?_⟩,I.loc,I.cell,?_,λx c h1=>?_,λp r=>?_,λb u h1=>?_,I.len⟩
 .have:=I.base.free b o h1 j l;rwa[zI<|ne this]
 .have:=I.base.tups b w h1;rwa[zI<|nt this λo v z=>(nomatch z)]
 .have:=I.base.uw b o u h1;rw[zI λz=>t o u<|by rwa[<-z]];exact this
 .obtain⟨more,this⟩:=I.base.tY b ps h1;exact⟨more,by rw[zI<|nt this λo v z=>(nomatch z)];exact this⟩
 .rw[zI<|ne I.free];exact I.free
 .have:=I.wR x c h1;rwa[zI<|ne this]
 .obtain⟨g,f,i⟩:=I.pin p r;exact⟨g,by rw[zI<|ne f];exact f,i⟩
 .by_cases z:b=d
  .rw[z,zC]at h1;cases h1;rw[z];exact(I.hok d _ hd).2
  .rw[zI z]at h1;exact(I.hok b u h1).jk hd
end
section
variable {X:Cx}{tg:EN}
def WA:Dj->Hp->VK->Prop:=λc H Q=>∃a b,c=[.ref a]/\Rd H a (.dK b)/\∀l,H l=none->Q (.ref l) (upd H l<|.lst<|b.map λkv=>kV kv.1)
theorem Kq (hc:X.calm=true):yd X (.type "list") WA:=by
 intro y s C H B A Q I r h;obtain⟨a,f,rfl,ha,q⟩:=h;obtain⟨u,rfl,t⟩:=wW r;cases t;obtain⟨l,ep,d,n,o,p⟩:=vT I ha;have z:f.length=l.length:=Paired.length d;refine PySem.W.kdl_call (Us (knd:=z5 X.prog X.w) (kvs:=l) (ep:=ep) o) (I.ok.hd hc) n (by lia) λh' tk b c g hl i=>?_;have x:zb (f.map λkv=>kV kv.1) b.toList:=XA d (by rw[ZT];exact i.1) λj v e=>i.2 j v (by rwa[<-Yu]);exact⟨.ref s.heap.objs.size,_,I.laid (t':=tk) g (Zt _)<|show yq X.prog X.w _ h' _ (.lst<|f.map λkv=>kV kv.1) from⟨by rw[Zk];exact p,b.toList,c,x,hl⟩,rfl,q _<|I.hok.fresh<|Zt _⟩
def Wx:Dj->Hp->VK->Prop:=λc H Q=>∃a b,c=[.ref a]/\Rd H a (.dK b)/\∀l,H l=none->Q (.ref l) (upd H l<|.dK b)
theorem jD:yd X (.type "dict") Wx:=by
 intro f s l H j i Q I r h;obtain⟨a,e,rfl,ha,q⟩:=h;obtain⟨u,rfl,d⟩:=wW r;cases d;exact O6 I ha λp g c b=>⟨.ref p,_,b,rfl,q p c⟩
def GJ (kv:Key×V):Str:=match kv.1 with
 | .inr x=>x
 | .inl _=>""
def RW (Dm:Dl):Prop:=∀kv∈Dm,kv.1=.inr (GJ kv)
theorem KJ {us:Db}(f:RW Dm)(c:KV Dm vs)(hl:us.length=vs.length)(hm:∀(j:Nat) (v:Ep),us[j]?=some v->∃k x,vs[j]?=some (k,x)/\(z5 P w).is k v=true):qG us (Dm.map GJ):=by
 have n:Dm.length=vs.length:=Paired.length c;refine⟨by rw[Zk];lia,λi v e=>?_⟩;obtain⟨k,x,g,hk⟩:=hm i v e;obtain⟨p,d,b,_⟩:=jX c g;have b:p.1=k:=b;have ap:=f p<|ZG d;rw[<-b,ap]at hk;obtain⟨t,l⟩:=Y4<|show Le (GJ p) v=true from hk;exact⟨GJ p,t,by rw[Zy,d];rfl,l⟩
def Rx:Dj->Hp->VK->Prop:=λd H Q=>∃a b,d=[.ref a]/\Rd H a (.dK b)/\RW b/\b.length<64/\∀l c,H l=none->c.Perm (b.map GJ)->sortedS c=true->Q (.ref l) (upd H l<|.lst<|c.map V.str)
theorem qZ (hc:X.calm=true):yd X (.builtin "sorted") Rx:=by
 intro x s D H C B Q I r h;obtain⟨a,g,rfl,ha,l,o,q⟩:=h;obtain⟨u,rfl,t⟩:=wW r;cases t;obtain⟨f,ep,b,n,p,z⟩:=vT I ha;have y:g.length=f.length:=Paired.length b;exact By I (by rwa[Zk]) q λk=>PySem.W.kdu_collect (A:=X.A.in1) (Us (knd:=z5 X.prog X.w) (kvs:=f) (ep:=ep) p) (I.ok.hd hc) n (by lia) λh' tk i c d=>k h' s.drawn tk _ _ c (List.Perm.refl _) (KJ l b (by rw[ZT];exact d.1) λj v e=>d.2 j v<|by rwa[<-Yu])
def putAll (Dm more:Dl):Dl:=more.foldl (λb kv=>yt b kv.1 kv.2) Dm
theorem KV.putAll:∀{more:Dl} {um:List (Key×Ep)} {Dm:Dl} {vs:List (Key×Ep)},KV Dm vs->KV more um->KV (putAll Dm more) (merged vs um)
 |[],_,_,_,r,.nil=>r
 |p::more,q::um,Dm,vs,r,.cons h t=>by
  have e:p.1=q.1:=h.1;have:=KV.putAll (Dm:=yt Dm p.1 p.2) (vs:=stored vs q.1 q.2) (by rw[<-e];exact r.put p.1 h.2) t;exact this
theorem kS:∀(more Dm:Dl),(putAll Dm more).length<=Dm.length+more.length
 |[],Dm=>Zt _
 |p::more,Dm=>by
  have:=kS more<|yt Dm p.1 p.2;have:=xZ Dm p.1 p.2;show(putAll (yt Dm p.1 p.2) more).length<=_;rw[ZF];lia
def bc (g ty:TE):TE:=λf H Q=>g f H λx e=>∃a,x=.ref a/\bw e a/\ty f e λy d=>∃b c more,y=.ref b/\a≠b/\d a=some (.dK c)/\Rd d b (.dK more)/\c.length+more.length<=sizeLine/\Q .non (upd d a<|.dK<|putAll c more)
theorem SD (J:PE X o td)(he:PE X e ty)(m:M1 X o "update" Dr e Ds):PE X (.Call (.Attribute o "update" Dr) [e] [] Ds) (bc td ty):=by
 intro p s B H Q I h;refine Uk m.base m.few m.line Vt PySem.F.slot_dict_update PySem.F.type_dict_update<|Ct (J p s B H _ I h) λu P q9=>?_;obtain⟨x,D,r,N,a,ex,d,L⟩:=q9;subst ex;obtain rfl:u=EB a:=N;obtain⟨R,S,_⟩:=KH r d;refine⟨R,S,?_⟩;rw[m.trees];refine Lj rfl<|Lx<|Ln<|Ct (he p P B D _ r L) λZ s2 ⟨y,Y,i,O,b,C,more,G,ne,v,E,A,M⟩=>LY ?_;subst G;cases O;obtain⟨z,hd,U,g,t⟩:=FE i.hok v;obtain⟨z2,l,T,c,j⟩:=v9 i.hok E;refine JR PySem.F.slot_dict_update t.typeIs PySem.F.entry_dict_update (PySem.F.args_dict_update_2 _ _) (meets_dict_update (z5 X.prog X.w) a b ne l)
  ⟨U,T,t,j,by rw[<-g.length,<-c.length];exact A,λh' f _ K=>⟨.non,_,?_,rfl,M⟩⟩
 have n:∃q,h'.get? a=some q:=let ⟨q,_,_,hq,_⟩:=f;⟨q,hq⟩;exact uX i (by rw[v];exact Lg) K n<|Ir (Yk (kS more C) A) hd (g.putAll c) f
end
open PySem.W
section
variable {X:Cx}
def WT (H₀:Hp)(t:TS):TS:=λD f H=>t { D with nx:=λb e=>∃d ob c,e d=some (.frz ob<|.dK c)/\(∀o u,H₀ d≠some (.frz o u))/\D.nx b (upd e d<|.dK c) } f H
theorem Id {st:ER}(h:PS X st t):PS X st (WT X.H₀ t):=by
 intro c s i H D I q;refine Ct (h c s i H _ I q) λf n z=>?_;cases f with
 |next =>
  obtain⟨b,l,e,d,ob,j,hd,g,q⟩:=z;exact⟨b,_,e.jk hd g,q⟩
 |ret v=>exact z
 |brk=>exact z
 |cont=>exact z
def aS (K:Cq):Dj->Hp->VK->Prop:=λd H Q=>∃a T c b,d=[.ref a,.ty T]/\Rd H a (.dK c)/\EV K (.type "dict") (.type T)=some b/\Q (.bl b) H
theorem vH {K:Cq}(e:X.K=K:=by rfl):yd X (.builtin "isinstance") (aS K):=by
 subst e;intro n s x H w t Q I r h;obtain⟨a,T,l,b,rfl,ha,f,q⟩:=h;obtain⟨u,j,rfl,i,c⟩:=vals2 r;cases(show j=Value.type T from c);cases i;obtain⟨v,o,g,d,p,_⟩:=vT I ha;exact Ys Ui I.vh d.dictOf.typeIs f (λz=>nomatch z) λtk=>⟨.bl b,H,I.tok _,rfl,q⟩
end
section
variable {prog:Er}{w:Eu}{A:EJ}{s:Et}
def jt (prog:Er)(w:Eu)(A:EJ)(s:Et)(u v:Ep):Prop:=∀(E:Ep->Dh) (Q:Bool->Dh),Q true s->Es (Ez prog w) A (eqBool u v) Q E s
theorem jt.self (u:Ep):jt prog w A s u u:=λE Q q=>SeqAt.EqAt.same u prog w E Q q
theorem jt.refs {p q:Eo}(ne:p≠q)(h:∀(E:Ep->Dh) (Q:Ep->Dh),Q (.bool true) s->Es (Ez prog w) A (LZ .Eq (.ref p)<|.ref q) Q E s):jt prog w A s (.ref p) (.ref q):=λE Q k=>by
 unfold eqBool;refine Yp<|Vk (λz=>?_) λ_=>Zm<|h E _<|Y2 k;have:=Va z;injection this with this;exact absurd this ne
structure gQ (prog:Er)(w:Eu)(A:EJ)(s:Et)(u v:Ep):Prop where
 eq:jt prog w A s u v
 rc:∀(E:Ep->Dh) (Q:Ep->Dh),Q (.bool true) s->Es (Ez prog w) A (LZ .Eq u v) Q E s
 ne:∀(E:Ep->Dh) (Q:Ep->Dh),Q (.bool false) s->Es (Ez prog w) A (LZ .NotEq u v) Q E s
theorem gQ.of {p q:Eo}(b:∀(E:Ep->Dh) (Q:Ep->Dh),Q (.bool true) s->Es (Ez prog w) A (LZ .Eq (.ref p)<|.ref q) Q E s)(ne:∀(E:Ep->Dh) (Q:Ep->Dh),Q (.bool false) s->Es (Ez prog w) A (LZ .NotEq (.ref p)<|.ref q) Q E s):gQ prog w A s (.ref p) (.ref q):=by
 refine⟨?_,b,ne⟩
 by_cases z:p=q
 .subst z;exact jt.self _
 .exact jt.refs z b
end
def mX (K:Cq)(n:Nat)(H:Hp)(x y:V):Prop:=∀(X:Cx) (b:De) (c:St) (s:Et) (A:EJ),X.K=K->Inv X b c H s->A.units+n<E8->∀u v,za x u->za y v->gQ X.prog X.w A s u v
theorem mX.more {K:Cq}{m:Nat}(h:mX K n H x y)(l:n<=m):mX K m H x y:=λX b e s A k I f u v c d=>h X b e s A k I (by lia) u v c d
theorem mX.data {K:Cq}(h1:Dt K H d x)(n:Dt K H e y)(b:EW d=true)(j:EW e=true)(q:EM d e=true):mX K 64 H x y:=λX r t s A k I f u v o p=>by
 subst k;obtain⟨l,g⟩:=Dt.zq I d x u h1 o;obtain⟨bs,i⟩:=Dt.zq I e y v n p;refine⟨λE Q c=>?_,λE Q c=>SeqAt.compareEq_shaped g i b j f<|by rwa[q],λE Q c=>SeqAt.compareNe_shaped g i b j f<|by rwa[q]⟩;have:=SeqAt.eqAt_reads d e A s u v l bs g i (SeqAt.canLay_of_shaped b) (SeqAt.canLay_of_shaped j)<|SeqAt.room_of_shaped b f;rw[q]at this;exact this _ _ E Q c
def Ti (K:Cq)(H:Hp)(c b:Dl):Prop:=∀kv∈b,∃y d e,UE c kv.1=some y/\Dt K H d kv.2/\Dt K H e y/\EW d=true/\EW e=true/\EM d e=true
theorem No {A:EJ}(I:Inv X Dp σ H s)(g:A.in1.units+64<E8){i:Dl}{f:List (Key×Ep)}(l:KV i f) :
  ∀{ka:Dl} {ua:List (Key×Ep)},KV ka ua->Ti X.K H i ka->PySem.W.KeqHits A.in1 s f ua true
 |[],_,.nil,_=>.nil
 |p::ka,q::ua,.cons r1 r2,h=>by
  obtain⟨y,d,e,t,n,o,z,B,x⟩:=h p<|Zs ..;have r:p.1=q.1:=r1.1;have b:=l.val p.1;rw[t]at b;cases c:Me f p.1 with
  |none=>rw[c]at b;exact b.elim
  |some v =>
   rw[c]at b;obtain⟨C,u⟩:=Dt.zq I _ _ _ n r1.2;obtain⟨bs,w⟩:=Dt.zq I _ _ _ o b;have j:=PySem.W.keq_at (A:=A) u w z B g;rw[x]at j;exact PySem.W.KeqHits.hit (k:=q.1) (v:=q.2) (r▸c) j<|No I g l r2 λkv hkv=>h kv<|Zn _ hkv
theorem mX.dic {K:Cq}{d e:Dl}(ha:Rd H a<|.dK d)(hb:Rd H b<|.dK e)(hl:d.length=e.length)(h:Ti K H e d):mX K 65 H (.ref a) (.ref b):=λX w C s A k I z u v r t=>by
 subst k;cases r;cases t;obtain⟨f,x,n,i,sa,_⟩:=vT I ha;obtain⟨g,y,o,j,p,_⟩:=vT I hb;have B:d.length=f.length:=Paired.length n;have lb:e.length=g.length:=Paired.length o;have c:=No (A:=A) I (by show A.units+1+64<E8;lia) o n h;have l:(f.length==g.length&&true)=true:=by rw[show f.length=g.length by lia,Vc];rfl
 exact .of (λE Q q=>PySem.W.keq_eq sa p i.dictOf j.dictOf (by lia) (λ_=>c)<|by rwa[l]) λE Q q=>PySem.W.keq_ne sa p i.dictOf j.dictOf (by lia) (λ_=>c) (by rwa[l])
section
variable {X:Cx}
def aW (K:Cq)(n:Nat):R2:=λx y H Q=>mX K n H x y/\Q (.bl false) H
theorem Ws (f:X.A.units+128<E8):CH X (ES .NotEq) (aW X.K 100):=by
 intro b s e H x y v u Q I c d h;exact(h.1 X b e s X.A rfl I (by lia) v u c d).ne _ _ ⟨.bl false,H,I,rfl,h.2⟩
def b0 (K:Cq):R2:=λx y H Q=>∃a b c d r,x=.ref a/\y=.ref b/\Rd H a (.dK c)/\Rd H b (.dK d)/\rP K H d c r/\Q (.bl<|!(c.length==d.length&&r)) H
theorem P7 (z:X.A.units+128<E8):CH X (ES .NotEq) (b0 X.K):=by
 intro w s B H x y v u Q I l n h;obtain⟨a,b,g,i,r,rfl,rfl,ha,hb,hh,q⟩:=h;cases l;cases n;obtain⟨p,_,c,e,sa,_⟩:=vT I ha;obtain⟨t,_,d,f,o,_⟩:=vT I hb;have j:g.length=p.length:=Paired.length c;have lb:i.length=t.length:=Paired.length d;refine PySem.W.keq_ne sa o e.dictOf f.dictOf (by lia) (λ_=>hh.keq I (by show X.A.units+1+64<E8;lia) d c) ⟨.bl _,H,I,?_,q⟩;rw[j,lb];rfl
def bT (K:Cq):R2:=λx y H Q=>∃a b c d r,x=.ref a/\y=.ref b/\Rd H a (.dK c)/\Rd H b (.dK d)/\rP K H d c r/\Q (.bl<|c.length==d.length&&r) H
theorem Wo (z:X.A.units+128<E8):CH X (ES .Eq) (bT X.K):=by
 intro w s B H x y v u Q I l n h;obtain⟨a,b,g,i,r,rfl,rfl,ha,hb,hh,q⟩:=h;cases l;cases n;obtain⟨p,_,c,e,sa,_⟩:=vT I ha;obtain⟨t,_,d,f,o,_⟩:=vT I hb;have j:g.length=p.length:=Paired.length c;have lb:i.length=t.length:=Paired.length d;refine PySem.W.keq_eq sa o e.dictOf f.dictOf (by lia) (λ_=>hh.keq I (by show X.A.units+1+64<E8;lia) d c) ⟨.bl _,H,I,?_,q⟩;rw[j,lb];rfl
end
section
variable {prog:Er}{w:Eu}{A:EJ}{s:Et}
theorem F0 {p q:Eo}{us vs:Array Ep}{n m:Nat}{b d2:Option Eo}{f i:Array Dc}(sz:us.size≠vs.size) :
  MeetsIn prog w (Builtin.«list.__ne__» ⟨[.ref p,.ref q],[]⟩) (λ_ R s=>s.heap.get? p=some { cls:=.type "list",dict:=b,data:=.seq us n,slots:=f }/\s.heap.get? q=some { cls:=.type "list",dict:=d2,data:=.seq vs m,slots:=i }/\R (.ok<|.ret<|.bool true) s):=by
 intro A R s ⟨c,e,k⟩;obtain⟨hh,g,d,tk,os⟩:=s;have sub:=AutoSeq1.sub_list_list;have ne:(us.size !=vs.size)=true:=by simp[sz]
 wp_walk using AutoSeq1.wpAny_loadPart' c,AutoSeq1.wpAny_loadPart' e
 exact k
theorem BS {p q:Eo}{us vs:Array Ep}(l:s.heap.IsList p us)(o:s.heap.IsList q vs)(sz:us.size≠vs.size)(r:A.units<E8){E:Ep->Dh}{Q:Ep->Dh}(k:Q (.bool true) s):Es (Ez prog w) A (LZ .NotEq (.ref p)<|.ref q) Q E s:=by
 obtain⟨⟨t,v,i,y⟩,b,c,n,e⟩:=id l;obtain⟨⟨u,x,j,B⟩,g,d,m,f⟩:=id o;simp only at c e d f;subst c e d f;exact V8 (op:=.NotEq) ⟨_,b,rfl⟩ ⟨_,g,rfl⟩ F.slot_list_ne (JR F.slot_list_ne ⟨_,b,rfl⟩ F.entry_list_ne (F.args_list_ne_2 _ _) (F0 sz) ⟨b,g,⟨λz=>(nomatch z),k⟩⟩) r
end
section
variable {X:Cx}{K:Cq}
def bZ (K:Cq):R2:=λx y H Q=>∃a b c,x=.ref a/\y=.ref b/\yu K H a c/\yu K H b []/\Q (.bl<|!decide (c=[])) H
theorem P6 (r:X.A.units+128<E8):CH X (ES .NotEq) (bZ X.K):=by
 intro i s p H x y v u Q I c f h;obtain⟨a,b,g,rfl,rfl,ha,hb,q⟩:=h;cases g with
 |nil=>exact(mX.data (d:=.list []) (e:=.list []) ⟨_,_,rfl,ha,rfl⟩ ⟨_,_,rfl,hb,rfl⟩ rfl rfl rfl X i p s X.A rfl I (by lia) v u c f).ne _ _ ⟨.bl false,H,I,rfl,q⟩
 |cons x0 g =>
  cases c;cases f;obtain⟨t,l,o,_⟩:=I.list ha;obtain⟨w,n,tb,_⟩:=I.list hb;have j:=l.length;have lb:=n.length;exact BS o.isList tb.isList (by rw[ZP,ZP];simp at j lb;lia) (by lia) ⟨.bl true,H,I,rfl,q⟩
theorem Sy (c:X.A.units+128<E8)(b:X.K=K:=by rfl):CH X (ES .NotEq) (aW K 100):=by
 subst b;exact Ws c
end
end L2
set_option maxHeartbeats 400000
namespace L2
open PySem PySem.Spec PyProof.Rows
section
variable {prog:Er}{w:Eu}{A:EJ}{E:Ep->Dh}{s:Et}{K:Type} [DecidableEq K]{knd:KeyKind prog w K}{d x it:Eo}{i ep:Nat}{Dm:List (K×Ep)}{ox:Obj}{vx:Array Ep}
theorem Kv {Q:Dc->Dh}(hh:A.handled=some (.ref x))(v:s.heap.get? x=some ox)(j:ox.data=.fields vx)(hc:vx[2]?=some .none)(n:it≠x)
  (hit:s.heap.IsKeyIter it d i Dm.length ep) (hm:s.heap.DictAt knd d Dm ep) (l:Dm[i]?=none) (r:∀h',MC it s.heap h'->Q none { s with heap:=h' }):Es (Ez prog w) A (LR<|.ref it) Q E s:=by
 obtain⟨o,q,_,hd⟩:=id hit;obtain⟨y,p,f,_,c,_,u,_⟩:=id hm;unfold LR;refine Zm<|Jn<|Yz (name:=EZ "__next__") hit.typeIs F.slot_dict_keyiterator_next<|Yq F.slot_dict_keyiterator_next hit.typeIs F.entry_dict_keyiterator_next ?_<|F.args_dict_keyiterator_next_1 _;refine Zm<|Zu<|Zm<|Zm ?_
 first|refine Zm (V1 hit.typeIs<|Zu ?_)|refine Zm (wpAny_typeNameOf_keyiter hit.typeIs<|Zu ?_)
 refine Zm<|VM q hd ?_;simp only[show Builtin.Dict_items.ownsTuple "dict_keyiterator"=false by decide,Yt,Js];show Es _ _ (if(EB d==EH)=true then _ else _) _ _ s;rw[ZH (by rw[show(EB d==EH)=false from rfl];decide)];refine Zm<|Zu<|Zm<|wpAny_dictEntries f c ?_;have g:p.size=Dm.length:=by rw[<-u.length];simp
 rw[ZH (by rw[g];simp)];refine Zm<|Zu<|Zm<|wpAny_dictEpoch f c ?_;rw[ZH<|by simp];refine Zu ?_;simp only[show¬((i:Int)<0) from by lia,Js,VD,Jm (show p.size<=i by rw[g];simpa using l)];refine Zm ?_
 first|refine Zm (V1 hit.typeIs<|Zu ?_)|refine Zm (wpAny_typeNameOf_keyiter hit.typeIs<|Zu ?_)
 show Es _ _ (setField (.ref it) 0 .none>>=_) _ _ s;refine Zm (YJ q hd (by simp) ?_);refine MS hh (h0:=s.heap.update it _) (by rwa[ZX _ _ n]) j hc λe h' k t=>?_;exact Zm (Jb (T:="StopIteration") (b:=true) t VI<|Zu<|r _ λb ob nb e=>k b ob<|by rwa[ZX _ _<|EC nb])
theorem Td (hh:A.handled=some (.ref x))(j:ox.data=.fields vx)(hc:vx[2]?=some .none)(I:Eo)(nd:d≠I)(nx:x≠I):Walks prog w A I [I,d,x] [I] Dm.length (λi v=>∃k u,Dm[i]?=some (k,u)/\knd.is k v=true) (λi h=>h.IsKeyIter I d i Dm.length ep/\h.DictAt knd d Dm ep/\h.get? x=some ox) where
 sub:=λb hb=>Zo.mpr<|.inl<|Zl.mp hb
 frame:=λ_ _ _ st hk=>⟨st.1.at λo e=>hk I (by simp) o e,st.2.1.at' λo e=>hk d (by simp) o e,hk x (by simp) _ st.2.2⟩
 item:=λi s Q E r st f=>by
  obtain⟨⟨k,u⟩,n⟩:∃p,Dm[i]?=some p:=⟨_,Zv r⟩;refine wpAny_pyNext_dict_item st.1 st.2.1 n λkey h' q g c=>?_;exact f key h' s.toks ⟨k,u,n,q⟩ ⟨g,st.2.1.extBut c.extBut nd,c.extBut _ _ nx st.2.2⟩ λb o hb e=>c.extBut b o (λh=>hb<|by simp[h]) e
 done:=λs Q E st f=>Kv hh st.2.2 j hc (EC nx) st.1 st.2.1 (by simp) λh' l=>f h' s.toks λb o hb e=>l b o (λh=>hb<|by simp[h]) e
 self:=λ_ _ _ _ st f=>wpAny_pyIter_keyiter st.1 f
theorem Wj {Q:Ep->Dh}(hh:A.handled=some (.ref x))(lo:(d==E3)=false)(hm:s.heap.DictAt knd d Dm ep)(D:s.heap.get? x=some ox)(K:ox.data=.fields vx)(hc:vx[2]?=some .none)(hn:Dm.length<=sizeLine)
  (R:∀h' tk acc c,(∀b o,s.heap.get? b=some o->h'.get? b=some o)->h'.get? s.heap.objs.size=some { cls:=.type "list",dict:=none,data:=.seq acc c,slots:=#[] }->ItemsOf (λi v=>∃k u,Dm[i]?=some (k,u)/\knd.is k v=true) acc Dm.length->Q (.ref s.heap.objs.size) { s with heap:=h',toks:=tk }) :
  Es (Ez prog w) A (call (.type "list") [.ref d]) Q E s:=by
 refine callType_codes (Q₁:=λobj l=>obj=.ref s.heap.objs.size/\l={ s with heap:=s.heap.push { cls:=.type "list",data:=.seq #[] } }) F.called_list (F.typeCall_list_1 _) F.entry_list_init (code_list_new _ ⟨rfl,rfl⟩) λobj l y=>?_;obtain⟨rfl,rfl⟩:=y;have q:(s.heap.push { cls:=.type "list",data:=.seq #[] }).get? s.heap.objs.size=some { cls:=.type "list",data:=.seq #[] }:=Zz _ rfl;have B:∀b o,s.heap.get? b=some o->b≠s.heap.objs.size/\(s.heap.push { cls:=.type "list",data:=.seq #[] }).get? b=some o:=λb o e=>⟨ZO<|ZC e,Zp _ e⟩;generalize es:s.heap.objs.size=S at q B R ⊢;generalize s.heap.push { cls:=.type "list",data:=.seq #[] }=h1 at q B ⊢;refine⟨⟨_,q,rfl⟩,F.args_list_init_2 _ _,?_⟩;show Es _ _ (Builtin.List.listItems (.ref S)>>=_) _ _ _;unfold Builtin.List.listItems;refine Zm<|Zm<|J5 q rfl<|Zu ?_;show Es _ _ (updateSeq S (λ_=>#[])>>=λ_=>letGo (#[]:Array Ep).toList.reverse>>=λ_=>Lh (.ref S) (.ref d) .none) _ _ _;refine Zm<|Vl q rfl<|Zm<|wpAny_letGo ?_;have n:=Yd (E2<|λ_=>(#[]:Array Ep)) q rfl;have C:∀b o,s.heap.get? b=some o->(h1.update S<|E2<|λ_=>(#[]:Array Ep)).get? b=some o:=λb o e=>(ZX _ _<|EC (B b o e).1).trans (B b o e).2;generalize h1.update S (E2<|λ_=>(#[]:Array Ep))=g at n C ⊢;have f:g.DictAt knd d Dm ep:=hm.at' λo e=>C d o e;have N:=C _ _ D;have G:∀b o,s.heap.get? b=some o->b≠S:=λb o e=>(B b o e).1;have Sd:S≠d:=λz=>by obtain⟨od,_,L,_⟩:=id hm;exact G d od L z.symm
 have P:S≠x:=λz=>G x ox D z.symm;have W:=Td (prog:=prog) (w:=w) (A:=A.in1.in1) (knd:=knd) (Dm:=Dm) (ep:=ep) (d:=d) (x:=x) hh K hc g.objs.size (ZO f.lt_size)<|ZO<|ZC N;have O:S≠g.objs.size:=ZO<|ZC n;have key:∀(h:EI) (c tk:Nat),(h.IsKeyIter g.objs.size d 0 Dm.length ep/\h.DictAt knd d Dm ep/\h.get? x=some ox)->(∀b o,s.heap.get? b=some o->h.get? b=some o)->h.get? S=some { cls:=.type "list",data:=.seq #[] c }->LS (Ez prog w) A.in1 (.builtin "list.extend.loop" ⟨[.ref S,.ref g.objs.size,.none],[]⟩) (wants (λr H=>r=EH/\Q (.ref S) H) E) { s with heap:=h,toks:=tk }:=by
  intro h c tk st kp I;refine codeAny_extend_loopS W.toS hn S (by simp[O,Sd,P]) .none Dm.length 0 _ #[] c rfl (Yb _) st I (ItemsOf.nil _) λH acc Z mv M Y=>⟨rfl,?_⟩;rw[Moved.eq_with mv];refine R H.heap H.toks acc Z (λb o e=>mv.heap b o (λz=>?_)<|kp b o e) M Y
  rcases Zo.mp z with z|z
  .exact G b o e z
  .exact absurd (ZC<|C b o e) (by rw[Zl.mp z];exact YB _)
 unfold Lh;refine Zm<|Uv (T:="dict") f.dictOf.typeIs ?_;have e1:LH (.ref S) (.ref d)=false:=by simp[LH,Sd]
 simp only[e1,show(Value.type "dict"==Value.type "list")=false by decide,show(Value.type "dict"==Value.type "tuple")=false by decide,Bool.or_false,Yt,Js];refine Zm<|wpAny_pyIter_dict lo f ?_;have kp:∀(U:Obj) b o,s.heap.get? b=some o->(g.push U).get? b=some o:=λU b o e=>Zp _<|C b o e;refine Zm<|Yp<|PySem.W.kdl_hint_dict (f.push _).dictOf.typeIs ?_;have p:=Zp { cls:=.type "dict_keyiterator",data:=.fields #[.ref d,.int 0 0,.int Dm.length 0,.int ep 0] } n;refine Vk (λ_=>?_)<|λ_=>Zu ⟨Vi F.plain_extend_loop _,key _ _ s.toks ⟨⟨_,Zz _ rfl,rfl,rfl⟩,f.push _,kp _ _ _ D⟩ (kp _) p⟩;refine Zm<|J4<|Zm ?_;show Es _ _ (updateSeq S (·.push .none)>>=λ_=>updateSeq S (·.pop)) _ _ _;refine Zm<|Vl p rfl ?_;have t:=Yd (E2 (·.push EH)) p rfl;refine Vl (hz:=by seq_fits) t rfl ?_;have J:=Yd (E2 (·.pop)) t rfl;have j:∀b o,b≠S->(g.push { cls:=.type "dict_keyiterator",data:=.fields #[.ref d,.int 0 0,.int Dm.length 0,.int ep 0] }).get? b=some o->(((g.push { cls:=.type "dict_keyiterator",data:=.fields #[.ref d,.int 0 0,.int Dm.length 0,.int ep 0] }).update S (E2 (·.push EH))).update S (E2 (·.pop))).get? b=some o:=λb o nb e=>(ZX _ _<|EC nb).trans<|(ZX _ _<|EC nb).trans e;have st:(g.push { cls:=.type "dict_keyiterator",data:=.fields #[.ref d,.int 0 0,.int Dm.length 0,.int ep 0] }).IsKeyIter g.objs.size d 0 Dm.length ep:=⟨_,Zz _ rfl,rfl,rfl⟩;have fin:=key _ _ s.toks ⟨st.at λo e=>j _ o (EC O) e,(f.push _).at' λo e=>j _ o (EC Sd) e,j _ _ (EC P)<|kp _ _ _ D⟩ (λb o e=>j b o (G b o e)<|kp _ b o e) J;exact Zu ⟨Vi F.plain_extend_loop _,fin⟩
end
section
variable {X:Cx}
def Wz (z:Eo):Dj->Hp->VK->Prop:=λc H Q=>∃a b cls,c=[.ref a]/\Rd H a (.dK b)/\H z=some (UW z cls)/\∀l,H l=none->Q (.ref l) (upd H l<|.lst<|b.map λkv=>kV kv.1)
theorem Kn {z:Eo}(hh:X.A.handled=some (.ref z)):yd X (.type "list") (Wz z):=by
 intro D s M H L G Q I r h;obtain⟨a,Dm,cls,rfl,ha,p,q⟩:=h;obtain⟨u,rfl,t⟩:=wW r;cases t;obtain⟨l,ep,d,n,o,hl⟩:=vT I ha;have E:Dm.length=l.length:=Paired.length d;obtain⟨⟨F,J,y,K,B,C⟩,_⟩:=I.hok z _ p;refine Wj (knd:=z5 X.prog X.w) (Dm:=l) (ep:=ep) hh o n y B C (by lia) λh' tk b c f g i=>?_;have x:zb (Dm.map λkv=>kV kv.1) b.toList:=XA d (by rw[ZT];exact i.1) λj v e=>i.2 j v (by rwa[<-Yu]);exact⟨.ref s.heap.objs.size,_,I.laid (t':=tk) f (Zt _)<|show yq X.prog X.w _ h' _ (.lst<|Dm.map λkv=>kV kv.1) from⟨by rw[Zk];exact hl,b.toList,c,x,g⟩,rfl,q _<|I.hok.fresh<|Zt _⟩
end
structure jh (P:Er)(w:Eu)(K:Cq)(mg:Str->Dc)(base:EI)(C:Eo)(k:Nat)(m:Str)(ps:Da)(sp:Eo->Sp):Prop where
 ex:∃(f:Eo) (fd:Ev),sW P w K mg base k f fd ps sp/\Meth K C m f/\wX K fd ps []
section
variable {X:Cx}{C z:Eo}{k:Nat}{m:Str}{ps:Da}{sp:Eo->Sp}{o:EN}{ta:TE}{Dr pos:Pos}
theorem Rg {pl:Sem Bool}(he:PE X o ta)(c:Cls X.K C)(M:jh X.prog X.w X.K X.mg X.base C k m ps sp)(t:vm k X.A)(hh:X.A.handled=some (.ref z))
  (v:Lc (.Call (.Attribute o m Dr) [] [] pos) X.env=(do
   let ov <-Lc o X.env
   standAt Dr.atName
   let (f,first) <-MG [ov] (Mu ov m pl)
   callWith pos f first (Li pos<|EG [] X.env) (MA pos<|LP [] X.env)):=by rfl) :
  PE X (.Call (.Attribute o m Dr) [] [] pos) (Kb C m (sp z) [] E0 ta Xj):=by
 obtain⟨f,G,F,hm,hb⟩:=M.ex;intro i s n H Q I h;refine JX (pl:=pl) (Ct (he i s n H _ I h) λu g q9=>?_) v;obtain⟨x,j,b,B,a,E,fs,ex,p,l,q⟩:=q9;subst ex;obtain rfl:u=EB a:=B;refine kI b p c hm l ?_;refine V5 (first:=[.ref a]) b.vh hm.kp ?_;have y:zb [V.ref a] [EB a]:=.cons rfl .nil;have hl:[EB a].length=ps.length:=F.len _ _ _ _ _ q;refine Vm<|Jl (F.run z X.A X.stack g j ⟨[.ref a],[]⟩ [.ref a] [.ref a] Q E0 t hh b.env0 (hb g [.ref a] b.vh hl) y q) λr D d=>?_;cases r with
 |error e=>exact Iu i n j g e D b d
 |ok fl =>
  cases fl with
  |ret u=>exact b.after d
  |next=>exact EL d
  |brk=>exact EL d
  |cont=>exact EL d
end
end L2
namespace An10
open PySem L2 An
end An10
namespace An12
open PySem L2 An An10
end An12
namespace AnJ
section
variable {α:Type}
inductive Pt (α:Type) where
 |same (ls:List α)
 |clash (b m y:List α)
end
open An10
open AxK
open PySem L2 An An12
def yg (ls:Da):PyData:=.tuple<|ls.map .str
theorem pG (l m:Da):EM (yg l) (yg m)=decide (l=m):=by
 show E5 (l.map .str) (m.map .str)=_;exact qF l m
theorem Nr:∀a b:List Nat,decide (a<b)=yU TO.nat a b
 |[],[]=>by decide
 |[],_::_=>by simp[yU]
 |_::_,[]=>by simp[yU]
 |a::as,b::bs=>by
  have c:=Nr as bs;unfold yU;rw[<-c,Yx,ZN,YG];show _↔(decide (a<b)||(!decide (b<a)&&decide (as<bs)))=true;rw[Uy,Zw,ZN,ZN,Ul,Vy];constructor
  .rintro(h|⟨h,h'⟩)
   .exact .inl h
   .exact .inr ⟨by lia,h'⟩
  .rintro(h|⟨h,h'⟩)
   .exact .inl h
   .by_cases z:a<b
    .exact .inl z
    .exact .inr ⟨by lia,h'⟩
def vy:TO Str:=TO.by_ (TO.list TO.nat) cs λa b h=>xj h
theorem nJ (a b:Str):vy.lt a b=decide (a.cps.toList<b.cps.toList):=(Nr _ _).symm
theorem nF:∀a b:Da,Tf (a.map .str) (b.map .str) ((TO.list vy).lt a b)
 |[],[]=>by
  show false=decide (0<0);rfl
 |[],_::_=>by
  show true=decide (0<_);simp
 |_::_,[]=>rfl
 |x::a,y::b=>by
  show((x==y)=true/\Tf (a.map .str) (b.map .str) (yU vy (x::a) (y::b)))\/((x==y)=false/\yU vy (x::a) (y::b)=decide (x.cps.toList<y.cps.toList))
  by_cases e:x=y
  .subst e;refine .inl ⟨by simp,?_⟩;unfold yU;have:vy.lt x x=false:=vy.refl x;rw[this];exact nF a b
  .refine .inr ⟨by simpa using e,?_⟩;unfold yU;rw[<-nJ];cases q:vy.lt x y with
   |true=>rfl
   |false =>
    cases c:vy.lt y x with
    |true=>rfl
    |false=>exact absurd (vy.iW _ _ q c) e
end AnJ
namespace L2
open PySem PySem.Spec PyProof.Rows PySem.W AxK An
def lays:Hp->List (Eo×Dj)->Hp
 |H,[]=>H
 |H,p::r=>lays (upd H p.1<|.tup p.2) r
theorem kU:∀{l:List (Eo×Dj)} {H:Hp} {b:Eo},b∉l.map (·.1)->lays H l b=H b
 |[],_,_,_=>rfl
 |p::r,H,b,h=>by
  rw[ZL,Zo,Vr]at h;show lays (upd H p.1<|.tup p.2) r b=_;rw[kU h.2,zI h.1]
theorem CZ:∀{l:List (Eo×Dj)} {H:Hp} {p:Eo×Dj},(l.map (·.1)).Nodup->p∈l->lays H l p.1=some (.tup p.2)
 |q::r,H,p,nd,h=>by
  rw[ZL,ZY]at nd;show lays (upd H q.1<|.tup q.2) r p.1=_
  rcases Zo.mp h with rfl|h
  .rw[kU nd.1,zC]
  .exact CZ nd.2 h
theorem m6:∀{l:List (Eo×Dj)} {H:Hp} {b:Eo} {o:HO},(l.map (·.1)).Nodup->lays H l b=some o->H b=some o\/∃xs,(b,xs)∈l/\o=.tup xs:=λ{l H b o} nd h=>by
 by_cases z:b∈l.map (·.1)
 .obtain⟨p,c,rfl⟩:=Zr.mp z;rw[CZ nd c]at h;exact .inr ⟨p.2,c,(Option.some.inj h).symm⟩
 .rw[kU z]at h;exact .inl h
theorem G6 {l:List (Eo×Dj)}{H:Hp}(f:∀p∈l,H p.1=none):zx H (lays H l):=λb o e=>by
 rw[kU]
 .exact e
 .intro z;obtain⟨p,c,rfl⟩:=Zr.mp z;rw[f p c]at e;cases e
section
variable {X:Cx}{Dp:De}{σ:St}{H:Hp}{s:Et}{h':EI}{K:Cq}
theorem Inv.lays {t':Nat}(I:Inv X Dp σ H s){l:List (Eo×Dj)}(nd:(l.map (·.1)).Nodup)(k:∀b u,s.heap.get? b=some u->h'.get? b=some u)(g:∀p∈l,s.heap.objs.size<=p.1)(new:∀p∈l,yq X.prog X.w (lays H l) h' p.1<|.tup p.2) :
  Inv X Dp σ (lays H l) { s with heap:=h',toks:=t' }:=by
 have fr:∀p∈l,H p.1=none:=λp m=>I.hok.fresh<|g p m;have d:=G6 fr;have nx:∀b u,s.heap.get? b=some u->b∉l.map (·.1):=λb u q z=>by
  obtain⟨p,m,rfl⟩:=Zr.mp z;exact absurd (ZC q)<|Nat.not_lt.mpr<|g p m
 refine I.un ⟨λb u q _ _ _=>k b u q,λb u q _ _ _=>⟨u.slots,k b u q⟩,λb u q n _=>by rw[kU<|nx b u q];exact n,λb u q _=>⟨u,k b u q⟩,λb f q=>d _ _ q,λb u f q=>d _ _ q,λb ps q=>⟨#[],by rw[d _ _ q];simp⟩⟩ λb u e=>?_
 rcases m6 nd e with z|⟨f,m,rfl⟩
 .exact(I.hok b u z).stay (λc v _ q=>k c v q) (λc q=>d _ _ q) λc f q=>d _ _ q
 .exact new _ m
theorem Gp:∀{ps:Dg},(∀p∈ps,Ew p.1=true/\Ew p.2=true)->EE (ps.map An.zj)=true
 |[],_=>rfl
 |p::ps,h=>by
  obtain⟨h1,b⟩:=h p<|Zs ..;show(((Ew p.1)&&((Ew p.2)&&true))&&EE (ps.map An.zj))=true;rw[h1,b,Gp λq c=>h q<|Zn _ c];rfl
def GI:Ey->Da
 | .tuple xs=>xs.map λd=>match d with
  | .str x=>x
  |_=>""
 |_=>[]
theorem IX {ps:Dg}{i:Nat}(h:i<ps.length):(ps.map An.zj).getD i .none=An.zj (ps.getD i ("","")):=by
 rw[YM,YM,Zy,Zv h];rfl
theorem WF {a b:Str×Str}(h:(TO.list AnJ.vy).le (GI<|An.zj a)<|GI<|An.zj b):cs a.1<=cs b.1:=by
 have h:yU AnJ.vy [b.1,b.2] [a.1,a.2]=false:=h;have h:(AnJ.vy.lt b.1 a.1||(!AnJ.vy.lt a.1 b.1&&yU AnJ.vy [b.2] [a.2]))=false:=h;rw[JA,AnJ.nJ,Vy]at h;exact J6.mp h.1
def WS (K:Cq)(i:TE):TE:=λσ H Q=>i σ H λv e=>∃(d:Eo) (ps:Dg),v=.ref d/\Rd e d (.dK<|ps.map λp=>((.inr p.1:Key),V.str p.2))/\ps.length<64/\(∀p∈ps,Ew p.1=true/\Ew p.2=true) /\
 ∀(l:Eo) (f:Dg) (g:Dj) (c:Hp),f.Perm ps->(f.Pairwise λa b=>cs a.1<=cs b.1)->zx e c->e l=none->c l=some (.lst g)->zu K c (f.map An.zj) g->Q (.ref l) c
theorem Ri {p Dr Ds pos:Pos}(hc:X.calm=true)(hu:X.A.units+64<E8)(hg:Gl X x)(hm:X.mg x=none)(hv:L9 x=some (.builtin "sorted"))(ho:PE X o td)
  (Ei:LD o "items" X.env (Lc o X.env)=Lc o X.env:=by rfl) (D6:(Dr.endLine==Ds.line)=true:=by rfl) (hn:x≠"__name__":=by decide) (a0:(x==("__debug__":Str))=false:=by decide)
  (he:EG [.Call (.Attribute o "items" Dr) [] [] Ds] X.env=(false,Lc (.Call (.Attribute o "items" Dr) [] [] Ds) X.env)::EG [] X.env:=by rfl) (a5:(Li pos<|EG [] X.env).any (·.1)=false:=by rfl) (hK:X.K=K:=by rfl) :
  PE X (.Call (.Name x p) [.Call (.Attribute o "items" Dr) [] [] Ds] [] pos) (WS K td):=by
 subst hK;intro Dp s σ H Q I h;refine Y0<|vU I hg hm hv ?_ hn a0;refine VS ?_ he a5;rw[he];show Es _ _ (spliced ((false,Lc (.Call (.Attribute o "items" Dr) [] [] Ds) X.env)::Li pos (EG [] X.env))) _ _ s;refine Ln ?_;refine wpAny_Call_method0_late Ei D6<|Ct (ho Dp s σ H _ I h) λv y q9=>?_;obtain⟨x,G,I1,r,d,ps,ex,hd,av,hok,q⟩:=q9;subst ex;cases r;obtain⟨vs,ep,U,da,hS,a7⟩:=vT I1 hd;have dO:=da.dictOf;obtain⟨bh,bl,h1,h2,h3⟩:=id da;refine⟨"dict","dict.items",F.plainAttrs_dict,Mr,F.type_dict_items,dO.typeIs,λb q=>by cases q;exact⟨bh,h1,h2.2.1⟩,Lj rfl<|PySem.evalArgs_none ?_⟩;refine JR Mr dO.typeIs F.entry_dict_items (F.args_dict_items_1 _) (meets_dict_items (z5 X.prog X.w) d hS) ⟨⟨vs,dO⟩,?_⟩;refine LY ?_;have I2:Inv X Dp σ G { y with heap:=y.heap.push { cls:=.type "dict_items",data:=.fields #[.ref d] } }:=I1.kept (t':=y.toks) λb o e=>Zp _ e;have ac:(y.heap.push { cls:=.type "dict_items",data:=.fields #[.ref d] }).DictAt (z5 X.prog X.w) d vs ep:=da.at' λo e=>Zp _ e;have an:(y.heap.push { cls:=.type "dict_items",data:=.fields #[.ref d] }).IsItemsView y.heap.objs.size d:=⟨_,Zz _ rfl,rfl,rfl⟩;have Dq:(ps.map λp=>((.inr p.1:Key),V.str p.2)).length=vs.length:=Paired.length U;rw[Zk]at Dq;have D6:64<=sizeLine:=by rw[YK];decide
 refine Calls.call_function_entry kind_sorted plain_sorted entry_sorted (args_sorted1 _) ?_;unfold Builtin.«sorted»;refine Zm (m:=checkCount "sorted" 1 1 _)<|Zu ?_;refine Zm (kdx_collect (A:=X.A.in1) (knd:=z5 X.prog X.w) (I.ok.hd hc) an ac (by lia) λh' tk g al hl P=>?_);have M:∀b o,(y.heap.push { cls:=.type "dict_items",data:=.fields #[.ref d] }).get? b=some o->h'.get? b=some o:=al;generalize y.heap.push { cls:=.type "dict_items",data:=.fields #[.ref d] }=h0 at I2 P M;clear ac an al;have ln:g.length=ps.length:=by rw[hl,<-Dq]
 have ap:g.Nodup:=Yj.mpr<|P.rise.imp λ{a b} z=>ZO z;have z1:((g.zip ps).map λ(q:Eo×(Str×Str))=>(q.1,[V.str q.2.1,V.str q.2.2])).map (·.1)=g:=by
  rw[ZM];exact Ve (by lia)
 have Z:Inv X Dp σ (lays G<|(g.zip ps).map λ(q:Eo×(Str×Str))=>(q.1,[V.str q.2.1,V.str q.2.2])) { y with heap:=h',toks:=tk }:=by
  refine Inv.lays (s:={ y with heap:=h0 }) I2 (by rwa[z1]) M (λp u=>?_)<|λp u=>?_
  .obtain⟨c,B,rfl⟩:=Zr.mp u;exact YE<|P.above _ (JU B).1
  .obtain⟨c,B,rfl⟩:=Zr.mp u;obtain⟨j,l⟩:=Y9.mp B;rw[Jw]at l;obtain⟨key,k,x,e1,hk,e2⟩:=P.pairs j _ l.1;obtain⟨p,J,N,rx⟩:=jX U e1;rw[Zy,l.2]at J;have J:=(Option.some.inj J).symm;subst J;have N:(ED c.2.1:Key)=k:=N;rw[<-N]at hk;obtain⟨t,et⟩:=Y4<|show Le c.2.1 key=true from hk;exact⟨by show 2<=_;lia,[key,x],.cons ⟨t,et⟩<|.cons rx .nil,_,e2,rfl,0,rfl,rfl⟩
 have sm:zx G (lays G<|(g.zip ps).map λ(q:Eo×(Str×Str))=>(q.1,[V.str q.2.1,V.str q.2.2])):=G6 λp u=>by
  obtain⟨c,B,rfl⟩:=Zr.mp u;exact I2.hok.fresh<|YE<|P.above _ (JU B).1
 have D:zu X.K (lays G<|(g.zip ps).map λ(q:Eo×(Str×Str))=>(q.1,[V.str q.2.1,V.str q.2.2])) (ps.map An.zj) (g.map V.ref):=by
  have at_:∀(j:Nat) (a:Eo) (p:Str×Str),g[j]?=some a->ps[j]?=some p->lays G ((g.zip ps).map λ(q:Eo×(Str×Str))=>(q.1,[V.str q.2.1,V.str q.2.2])) a=some (.tup [V.str p.1,V.str p.2]):=λj a p ha u =>
   CZ (p:=(a,[V.str p.1,V.str p.2])) (by rwa[z1]) (Zr.mpr ⟨(a,p),ZG (i:=j)<|Jw.mpr ⟨ha,u⟩,rfl⟩)
  generalize lays G ((g.zip ps).map λ(q:Eo×(Str×Str))=>(q.1,[V.str q.2.1,V.str q.2.2]))=Hs at at_;clear Z sm z1 ap P hl hok q hd U av Dq a7
  induction g generalizing ps with
  |nil =>
   cases ps with
   |nil=>rfl
   |cons p ps=>cases ln
  |cons a g ih =>
   cases ps with
   |nil=>cases ln
   |cons p ps =>
    have h0:=at_ 0 a p rfl rfl;exact⟨.ref a,g.map V.ref,rfl,⟨a,[V.str p.1,V.str p.2],rfl,wY.of h0,_,_,rfl,rfl,_,_,rfl,rfl,rfl⟩,ih ps (by simpa using ln) λj b q' hb a6=>at_ (j+1) b q' hb a6⟩
 generalize lays G ((g.zip ps).map λ(q:Eo×(Str×Str))=>(q.1,[V.str q.2.1,V.str q.2.2]))=Hs at Z sm D;have rv:zb (g.map V.ref) (g.map EB):=by
  clear P hl ap ln z1 D Z
  induction g with
  |nil=>exact .nil
  |cons a g ih=>exact .cons rfl ih
 obtain⟨ab,rd⟩:=zu.zq Z _ _ _ D rv;have rd:LU h' (g.map EB) (ps.map An.zj) ab:=rd;have a9:EE (ps.map An.zj)=true:=Gp hok;have l1:(g.map V.ref).length=(ps.map An.zj).length:=by rwa[Zk,Zk]
 have l2:(g.map EB).length=(ps.map An.zj).length:=by rwa[Zk,Zk]
 have l3:(ps.map An.zj).length<64:=by rwa[Zk]
 have R:∀d∈ps.map An.zj,IU "str" d/\d.canLay0=true/\d.depth<=60:=λd hd=>by
  obtain⟨p,u,rfl⟩:=Zr.mp hd;obtain⟨h1,h2⟩:=hok p u;refine⟨rfl,?_,by show max 0 (max 0 0)+1<=60;decide⟩;show(Ew p.1&&(Ew p.2&&true))=true;rw[h1,h2];rfl
 have a4:∀d∈ps.map An.zj,∀e∈ps.map An.zj,W1 d e ((TO.list AnJ.vy).lt (GI d)<|GI e):=λd hd e he=>by
  obtain⟨p,u,rfl⟩:=Zr.mp hd;obtain⟨p',bm,rfl⟩:=Zr.mp he;exact AnJ.nF [p.1,p.2] [p'.1,p'.2]
 generalize g.map EB=f at rd rv l2;generalize g.map V.ref=Y at rv D l1;refine Zm (wpAny_newList ?_ (by rw[l2];lia));have L:(h'.push<|Ls "list" f.toArray 0).get? h'.objs.size=some (Ls "list" f.toArray 0):=Zz _ rfl;have kp:∀b o,h'.get? b=some o->(h'.push<|Ls "list" f.toArray 0).get? b=some o:=λb o z=>Zp _ z;show Es _ _ _ _ _ { y with heap:=h'.push<|Ls "list" f.toArray 0,toks:=tk };generalize h'.push (Ls "list" f.toArray 0)=ah at L kp;refine Zm<|Yp<|Yq slot_list_sort ⟨_,L,rfl⟩ entry_list_sort ?body<|args_list_sort _;refine MO (s:={ y with heap:=ah,toks:=tk }) (κ:=tuples'<|Value.type "str" !=Value.type "tuple") (lt:=λi j=>(TO.list AnJ.vy).lt (GI<|(ps.map An.zj).getD i .none)<|GI<|(ps.map An.zj).getD j .none) L (by lia) (λh2 s2 k1=>?_) λp u=>⟨_,rfl,Zu ⟨_,rfl,?_⟩⟩
 .have T:LU s2.heap f (ps.map An.zj) ab:=qI (λb o z=>k1 b o (ZO<|ZC z)<|kp b o z) _ _ _ a9 rd;refine⟨λQ' E' z=>Sj T (λd ax=>(R d ax).1) (by lia) z,λi j E l C c=>?_⟩;obtain⟨b1,r1⟩:=XH i T (by lia);obtain⟨b2,r2⟩:=XH j T (by lia);have m:∀k,k<f.length->(ps.map An.zj).getD k .none∈ps.map An.zj:=λk hk=>by
   rw[YM,Zv<|by lia];exact Yo _
  have d1:=R _<|m i E;have d2:=R _<|m j l;exact Om r1 r2 d1.1 d2.1 d1.2.1 d2.2.1 (by show X.A.units+1+1+_<_;lia) (a4 _ (m i E) _<|m j l) c
 .have pp:p.Perm (Ll<|ET f.length)/\Up (TO.list AnJ.vy) (λi=>GI<|(ps.map An.zj).getD i .none) p f.length:=by
   rcases u with⟨n2,rfl⟩|⟨n2,rfl⟩
   .refine⟨Array.Perm.refl _,λ(i j:Nat) (ai:i<=j) (l:j<f.length)=>?_⟩;have:i=j:=by lia
    subst this;exact(TO.list AnJ.vy).refl _
   .obtain⟨p',e,a1,a2⟩:=SZ (O:=TO.list AnJ.vy) (key:=λi=>GI<|(ps.map An.zj).getD i .none) (n:=f.length) (by lia);rw[e];exact⟨a1,a2⟩
  obtain⟨pp,up⟩:=pp;have S:p.toList.Perm (ET f.length):=by simpa using Array.perm_iff_toList_perm.mp pp
  have pm:∀i∈p.toList,i<Y.length:=λi E=>by
   have:=JF.mp<|S.mem_iff.mp E;lia
  obtain⟨e,a3⟩:=sortedHeap_at (out:=Ll<|p.toList.map λi=>f.getD i EH) L;have nl:=G2 rv p.toList pm;have a8:∀b ob,h'.get? b=some ob->(sortedHeap ah h'.objs.size f<|Ll<|p.toList.map λi=>f.getD i EH).get? b=some ob:=λb ob q1=>by
   have hb:b<h'.objs.size:=ZC q1;rw[sortedHeap_old (ZO hb)<|ZC<|kp b ob q1];exact kp b ob q1
  have am:p.toList.length=f.length:=by rw[S.length_eq,YI]
  have ad:Hs h'.objs.size=none:=Z.hok.fresh<|Zt _;have jz:G h'.objs.size=none:=sm.free ad;have au:=zG (o:=.lst<|p.toList.map λi=>Y.getD i .non) ad;refine⟨.ref h'.objs.size,_,Z.laid (o:=.lst<|p.toList.map λi=>Y.getD i .non) (t':=tk) a8 (Zt _) ⟨by rw[Zk,am,YK];lia,_,e,nl,a3⟩,rfl,q _ (p.toList.map λi=>ps.getD i ("","")) _ _ ?_ ?_ (sm.trans au) jz zC ?_⟩
  .have:=S.map λi=>ps.getD i ("","");rw[show f.length=ps.length by rw[l2,Zk],Rm]at this;exact this
  .rw[Jx];intro i j E l ai;rw[Z9,Z9];have:=up i j (YE ai) (by rw[Zk,am]at l;exact l);unfold kn at this;rw[Zk,ZT]at E l;rw[Yg,Yg,Ux p i E,Ux p j l]at this;have pi:p[i]<ps.length:=by
    have:=pm p[i] (by rw[<-J7 E];exact Yo _);rw[l1,Zk]at this;exact this
   have pj:p[j]<ps.length:=by
    have:=pm p[j] (by rw[<-J7 l];exact Yo _);rw[l1,Zk]at this;exact this
   rw[J7 E,J7 l];have this:(TO.list AnJ.vy).le (GI<|(ps.map An.zj).getD p[i] .none) (GI<|(ps.map An.zj).getD p[j] .none):=by simpa using this
   rw[IX pi,IX pj]at this;exact WF this
  .have:=zu.same au _ _<|Nd D p.toList pm;rw[show(p.toList.map λi=>(ps.map An.zj).getD i .none)=(p.toList.map λi=>ps.getD i ("","")).map An.zj by
    rw[ZM];refine Yf λi E=>IX ?_;have:=pm i E;rw[l1,Zk]at this;exact this]at this
   exact this
end
end L2
namespace An
open PySem L2 AnJ
theorem kC (h:UV ls):U0 (yg ls)=true:=(BC<|Nq h).1 |> λz=>by
 have z:(U0 (.str "leaf")&&(U0 (yg ls)&&true))=true:=z;rw[Zw,Zw]at z;exact z.2.1
structure yp (K:Cq)(H:Hp)(fs:Dk)(Dm:Dl):Prop where
 keys:Dm.map (·.1)=fs.map λf=>(.inr (Cs f.1):Key)
 val:∀(i:Nat) (f:Fi) (kv:Key×V),fs[i]?=some f->Dm[i]?=some kv->Dt K H (yg f.2) kv.2/\UV f.2
section
variable {K:Cq}{H H':Hp}{fs:Dk}{Dm:Dl}
theorem yp.nil:yp K H [] []:=⟨rfl,λi f kv h=>(nomatch h)⟩
theorem yp.len (h:yp K H fs Dm):Dm.length=fs.length:=by
 have:=congrArg List.length h.keys;rw[Zk,Zk]at this;exact this
theorem yp.same (h:yp K H fs Dm)(e:zx H H'):yp K H' fs Dm:=⟨h.keys,λi f kv a b=>⟨Dt.same e _ _ (h.val i f kv a b).1,(h.val i f kv a b).2⟩⟩
theorem yp.off {X:Dd}(h:yp K H fs Dm)(n:∀b∈X,∀xs,¬Rd H b (.tup xs))(o:Off X H H'):yp K H' fs Dm:=⟨h.keys,λi f kv a b=>⟨Dt.off n o _ _ (kC (h.val i f kv a b).2) (h.val i f kv a b).1,(h.val i f kv a b).2⟩⟩
theorem yp.get (h:yp K H fs Dm){i:Nat}{k:Key}{v:V}(e:Dm[i]?=some (k,v)):∃f,fs[i]?=some f/\k=.inr (Cs f.1)/\Dt K H (yg f.2) v/\UV f.2:=by
 have hl:=(ZJ.mp e).1;have c:=Zv (l:=fs) (i:=i) (by rwa[<-h.len]);have ek:=congrArg (λl=>l[i]?) h.keys;simp only[Zy,e,c,YO]at ek;obtain⟨a,b⟩:=h.val i _ _ c e;exact⟨_,c,Option.some.inj ek,a,b⟩
theorem yp.snoc (h:yp K H fs Dm){f:Fi}{v:V}(hv:Dt K H (yg f.2) v)(hl:UV f.2):yp K H (fs++[f]) (Dm++[(.inr<|Cs f.1,v)]):=by
 refine⟨by rw[Zx,Zx,h.keys];rfl,λi g kv a b=>?_⟩
 by_cases z:i<fs.length
 .rw[Ya z]at a;rw[Ya<|by rwa[h.len]]at b;exact h.val i g kv a b
 .rw[Ym<|by lia]at a;rw[Ym (by rw[h.len];lia)]at b;have c:i-fs.length=0:=by
   rcases JT (i-fs.length) with q|q
   .exact q
   .rw[List.getElem?_eq_none_iff.mpr (by show 1<=_;lia)]at a;cases a
  rw[c]at a;rw[h.len,c]at b;cases a;cases b;exact⟨hv,hl⟩
end
theorem jR {d:Nat}{a b:Da}(ha:a≠[])(hb:b≠[])(g:∀l∈a,z9 l=true)(lb:∀l∈b,z9 l=true)(e:Cs a=Cs b):a=b:=by
 have h1:=uP ha λy c=>qK<|g y c;have f:=uP hb λy c=>qK<|lb y c;unfold Cs at e;rw[<-h1,<-f,e]
def Ki (Do:Dg):Dl:=Do.map λp=>((.inr p.1:Key),V.str p.2)
theorem RA (Do:Dg):(Ki Do).map (·.1)=Do.map λp=>(.inr p.1:Key):=by unfold Ki;rw[ZM];rfl
theorem NI {Do:Dg}{l n:Str}(h:l∉Do.map (·.1)):yt (Ki Do) (.inr l) (.str n)=Ki (Do++[(l,n)]):=by
 rw[jV]
 .unfold Ki;rw[Zx];rfl
 .rw[RA];intro z;obtain⟨p,b,e⟩:=Zr.mp z;cases e;exact h<|Zr.mpr ⟨p,b,rfl⟩
def CG (b:List<|Str×Eo):Dl:=b.map λp=>((.inr p.1:Key),V.ref p.2)
theorem FH (b:List<|Str×Eo):(CG b).map (·.1)=b.map λp=>(.inr p.1:Key):=by unfold CG;rw[ZM];rfl
theorem Wa {c:List (Str×Eo)}(nd:(c.map (·.1)).Nodup):((CG c).map (·.1)).Nodup:=by
 rw[FH];have:(c.map λp=>(.inr p.1:Key))=(c.map (·.1)).map Sum.inr:=by rw[ZM];rfl
 rw[this];exact List.Pairwise.map _ (λa b n e=>by cases e;exact n rfl) nd
theorem vB {b:List (Str×Eo)}(nd:(b.map (·.1)).Nodup){p:Str×Eo}(h:p∈b):UE (CG b) (.inr p.1)=some (.ref p.2):=uV (Wa nd)<|Zr.mpr ⟨p,h,rfl⟩
theorem Pb {b:List (Str×Eo)}{l:Str}(h:l∉b.map (·.1)):UE (CG b) (.inr l)=none:=by
 cases e:UE (CG b) (.inr l) with
 |none=>rfl
 |some v =>
  have:=uW e;rw[FH]at this;obtain⟨p,c,z⟩:=Zr.mp this;cases z;exact absurd (Zr.mpr ⟨p,c,rfl⟩) h
theorem FI {c:List (Str×Eo)}{l:Str}{b:Eo}(h:l∉c.map (·.1)):yt (CG c) (.inr l) (.ref b)=CG (c++[(l,b)]):=by
 rw[Rs _<|Pb h];unfold CG;rw[Zx];rfl
theorem FJ {b:List (Str×Eo)}(nd:(b.map (·.1)).Nodup){p:Str×Eo}(h:p∈b):yt (CG b) (.inr p.1) (.ref p.2)=CG b:=by
 unfold yt;rw[ZK (by rw[qW,vB nd h];rfl)];unfold CG;rw[ZM];refine Yf λq c=>?_;show(if(.inr q.1:Key)=.inr p.1 then((.inr q.1:Key),V.ref p.2) else(.inr q.1,V.ref q.2))=(.inr q.1,V.ref q.2)
 split
 .rename_i e;have e:q.1=p.1:=Sum.inr.inj e;have:V.ref q.2=V.ref p.2:=by
   have h1:=vB nd c;rw[e,vB nd h]at h1;exact(Option.some.inj h1).symm
  rw[this]
 .rfl
structure wJ (K:Cq)(H1 H:Hp)(fs:Dk)(fa:List<|Str×Eo):Prop where
 wL:fa.map (·.1)=CC fs
 nd:(fa.map (·.2)).Nodup
 new:∀p∈fa,H1 p.2=none
 at_:∀p∈fa,∃Dm,H p.2=some (.dK Dm)/\yp K H (sub fs p.1) Dm
section
variable {K:Cq}{H1 H H':Hp}{fs:Dk}{fa:List (Str×Eo)}
theorem wJ.nil:wJ K H1 H [] []:=⟨rfl,YL,λp h=>(nomatch h),λp h=>(nomatch h)⟩
theorem wJ.off {X:Dd}(h:wJ K H1 H fs fa)(ex:∀c∈X,∃o,H1 c=some o)(n:∀b∈X,∀xs,¬Rd H b (.tup xs))(o:Off X H H'):wJ K H1 H' fs fa:=⟨h.wL,h.nd,h.new,λp d=>by
 obtain⟨f,a,b⟩:=h.at_ p d;refine⟨f,o _ _ (λz=>?_) a,b.off n o⟩;obtain⟨q,e⟩:=ex _ z;rw[h.new p d]at e;cases e⟩
theorem wJ.same (h:wJ K H1 H fs fa)(e:zx H H'):wJ K H1 H' fs fa:=⟨h.wL,h.nd,h.new,λp d=>by
 obtain⟨c,a,b⟩:=h.at_ p d;exact⟨c,e _ _ a,b.same e⟩⟩
theorem wJ.one (h:wJ K H1 H fs fa){f:Fi}{a:Str}(e:f.1=[a]):wJ K H1 H (fs++[f]) fa:=⟨by rw[kG,e];exact h.wL,h.nd,h.new,λp c=>by
 rw[sub_snoc,HY e];show∃b,_/\yp K H (sub fs p.1++[]) b;rw[Z2];exact h.at_ p c⟩
theorem wJ.sH (h:wJ K H1 H fs fa):(fa.map (·.1)).Nodup:=by rw[h.wL];exact(xR fs).1
theorem zY {c:Eo}:Off [c] H (upd H c o):=(Off.refl _ _).upd<|Zl.mpr rfl
theorem yF {c:Eo}{Dm:Dl}(h:H c=some (.dK Dm)):∀b∈[c],∀xs,¬Rd H b (.tup xs):=λb hb xs=>by
 rw[Zl.mp hb];exact xG h (λ_ z=>(nomatch z)) (λ_ _ z=>(nomatch z)) xs
theorem wJ.old (h:wJ K H1 H fs fa){p:Str×Eo}(d:p∈fa){Dm:Dl}(hk:H p.2=some (.dK Dm))(u:yp K H (sub fs p.1) Dm){f:Fi}{b:Str}{r:Da}(e:f.1=p.1::b::r){v:V}(hv:Dt K H (yg f.2) v)(hl:UV f.2) :
  wJ K H1 (upd H p.2<|.dK<|Dm++[(.inr<|Cs (b::r),v)]) (fs++[f]) fa:=by
 have nt:=yF hk;have o:Off [p.2] H (upd H p.2<|.dK<|Dm++[((.inr (Cs (b::r)):Key),v)]):=zY;have inl:p.1∈CC fs:=by rw[<-h.wL];exact Zr.mpr ⟨p,d,rfl⟩
 refine⟨?_,h.nd,h.new,λq g=>?_⟩
 .rw[kG,e];show _=qM (CC fs) p.1;unfold qM;rw[ZK inl];exact h.wL
 .rw[sub_snoc,vR e]
  by_cases z:p.1=q.1
  .rw[ZK z];have eq:p.2=q.2:=by
    have h1:=vB h.sH g;rw[<-z,vB h.sH d]at h1;injection (Option.some.inj h1)
   refine⟨_,by rw[<-eq];exact zC,?_⟩;rw[<-z];exact(u.off nt o).snoc (f:=(b::r,f.2)) (Dt.off nt o _ _ (kC hl) hv) hl
  .rw[ZH z];obtain⟨n,s,t⟩:=h.at_ q g;have ne:q.2≠p.2:=λy=>by
    obtain⟨i,w,l⟩:=Z4.mp d;obtain⟨j,x,c⟩:=Z4.mp g;have:=(JG (h₀:=by simpa using w) (h₁:=by simpa using x) h.nd).mp (by rw[Z9,Z9,l,c];exact y.symm);subst this;rw[l]at c;exact z (by rw[c])
   refine⟨n,by rw[zI ne];exact s,?_⟩;show yp K _ (sub fs q.1++[]) n;rw[Z2];exact t.off nt o
theorem wJ.jm (h:wJ K H1 H fs fa){l b:Str}{r:Da}(g:l∉CC fs){c:Eo}(hc:H c=some (.dK []))(n1:H1 c=none)(j:∀p∈fa,p.2≠c){f:Fi}(e:f.1=l::b::r){v:V}(hv:Dt K H (yg f.2) v)(hl:UV f.2) :
  wJ K H1 (upd H c<|.dK [(.inr<|Cs (b::r),v)]) (fs++[f]) (fa++[(l,c)]):=by
 have nt:=yF hc;have o:Off [c] H (upd H c<|.dK [((.inr (Cs (b::r)):Key),v)]):=zY;have u:sub fs l=[]:=JJ.mpr λk hk=>by
  obtain⟨s,t⟩:=wH.mp hk;refine g<|((xR fs).2 l).mpr ⟨_,t,?_⟩;cases q:k.1 with
  |nil=>exact absurd q s
  |cons b r=>exact⟨b,r,rfl⟩
 refine⟨?_,?_,λp d=>?_,λp d=>?_⟩
 .rw[kG,e,Zx,h.wL];show _=qM (CC fs) l;unfold qM;rw[ZH g];rfl
 .rw[Zx];refine jM h.nd λz=>?_;obtain⟨p,d,n⟩:=Zr.mp z;exact j p d n
 .rcases ZR.mp d with z|z
  .exact h.new p z
  .rwa[Zl.mp z]
 .rw[sub_snoc,vR e]
  rcases ZR.mp d with z|z
  .have ne:l≠p.1:=λy=>g (by rw[y,<-h.wL];exact Zr.mpr ⟨p,z,rfl⟩);rw[ZH ne];obtain⟨i,a,b⟩:=h.at_ p z;refine⟨i,by rw[zI<|j p z];exact a,?_⟩;show yp K _ (sub fs p.1++[]) i;rw[Z2];exact b.off nt o
  .rw[Zl.mp z,ZK rfl,u];exact⟨_,zC,yp.snoc (fs:=[]) yp.nil (f:=(b::r,f.2)) (Dt.off nt o _ _ (kC hl) hv) hl⟩
end
theorem Te (fs:Dk)(i:Nat):wt (fs.take i)<=wt fs:=by
 have:=M5 (fs.take i)<|fs.drop i;rw[YW]at this;lia
theorem PM {fs:Dk}{i:Nat}{v:Str×Da}(h:v∈Cw (fs.take i)):v∈Cw fs:=by
 obtain⟨a,b⟩:=v;exact wG.mpr<|Jf<|wG.mp h
theorem aF (ok:wM S)(g:yj n fs)(hs:S.length+1+wt fs<=2000)(i:Nat) :
  wM ((Cw<|fs.take i).foldl Cr (S,[])).1/\((Cw<|fs.take i).foldl Cr (S,[])).1.length<2000/\((Cw<|fs.take i).foldl Cr (S,[])).2.map (·.1)=(Cw<|fs.take i).map (·.1):=by
 have hm:=many<|fs.take i;have e:=Te fs i;obtain⟨b,c⟩:=X6 (d:=0) (Cw<|fs.take i) (Fo.nil ok) (λv hv=>(g.wL _<|wG.mp<|PM hv).2.2.2) (by lia);refine⟨b.ok,by lia,?_⟩;rw[b.wL,V3,ZM];rfl
theorem Tk {d:Nat}(ok:wM S)(g:yj (d+1) fs)(hl:fs.length<=63)(hs:S.length+1+wt fs<=2000)(ls c:Da)(e:ls++c=CC fs) :
  Fo (d+1) S (ls.foldl (Cu d fs)<|(Cw fs).foldl Cr (S,[])).1 (ls.foldl (Cu d fs)<|(Cw fs).foldl Cr (S,[])).2 ((Cw fs).map (λv=>(v.1,[(([],v.2):Fi)]))++ls.map λl=>(l,sub fs l)) /\
  (ls.foldl (Cu d fs)<|(Cw fs).foldl Cr (S,[])).1.length+(c.map λl=>1+wt (sub fs l)).sum<=S.length+wt fs:=by
 have hm:=many fs;rw[<-e,Zx,Uz]at hm;obtain⟨o,w⟩:=X6 (d:=d) (Cw fs) (Fo.nil ok) (λv hv=>(g.wL _<|wG.mp hv).2.2.2) (by lia);rw[V3]at o;have H:∀l∈ls,∀S,wM S->S.length+1+wt (sub fs l)<=2000->sV (d+1) S (sub fs l) (UG d S<|sub fs l)/\(UG d S<|sub fs l).1.length<=S.length+1+wt (sub fs l):=λl i u n j=>by
  cases d with
  |zero =>
   obtain⟨f,t,b,r,s⟩:=((xR fs).2 l).mp (by rw[<-e];exact Yl _ i);have:=(g.wL f t).2.1;rw[s,ZF,ZF]at this;lia
  |succ d=>exact Ia d n (g.sub l) (Yk sub_len hl) j
 obtain⟨q,p⟩:=Kx ls H (S:=((Cw fs).foldl Cr (S,[])).1) (Do:=((Cw fs).foldl Cr (S,[])).2) o (by lia);refine⟨q,?_⟩;have p:(ls.foldl (Cu d fs)<|(Cw fs).foldl Cr (S,[])).1.length<=_:=p;lia
theorem bK {d:Nat}(ok:wM S)(g:yj (d+1) fs)(hl:fs.length<=63)(hs:S.length+1+wt fs<=2000){j:Nat}{l:Str}(c:(CC fs)[j]?=some l) :
  wM (((CC fs).take j).foldl (Cu d fs)<|(Cw fs).foldl Cr (S,[])).1/\(((CC fs).take j).foldl (Cu d fs)<|(Cw fs).foldl Cr (S,[])).1.length+1+wt (sub fs l)<=2000 /\
  (((CC fs).take j).foldl (Cu d fs)<|(Cw fs).foldl Cr (S,[])).2.map (·.1)=(Cw fs).map (·.1)++(CC fs).take j:=by
 obtain⟨h1,b⟩:=Tk ok g hl hs ((CC fs).take j) ((CC fs).drop j)<|YW _ _;have hd:(CC fs).drop j=l::(CC fs).drop (j+1):=by
  have:=(ZJ.mp c);rw[<-this.2];exact List.drop_eq_getElem_cons this.1
 rw[hd,ZL,JC]at b;refine⟨h1.ok,by lia,?_⟩;rw[h1.wL,Zx,ZM,ZM]
 congr 1
 exact Vu _
theorem ak {d:Nat}(ok:wM S)(g:yj (d+1) fs)(hl:fs.length<=63)(hs:S.length+1+wt fs<=2000){q:List En×Dg}(e:q=(CC fs).foldl (Cu d fs) ((Cw fs).foldl Cr (S,[]))) :
  wM q.1/\q.1.length<2000/\(q.2.map (·.1)).Nodup/\(∀r∈q.2,z9 r.1=true/\∃e,Tree e q.1 r.2)/\q.2.length<=63:=by
 subst e;obtain⟨h1,c⟩:=Tk ok g hl hs (CC fs) []<|Z2 _;have h1:Fo (d+1) S _ _ (pieces fs):=h1;have c:_+0<=S.length+wt fs:=c;have o:=jA fs;refine⟨h1.ok,by lia,by rw[h1.wL];exact XD g,λr j=>?_,?_⟩
 .obtain⟨i,b⟩:=Y9.mp j;have n:=(ZJ.mp b).1;have f:=Zv (l:=pieces fs) (i:=i) (by rwa[<-h1.len]);have e:=congrArg (λl=>l[i]?) h1.wL;simp only[Zy,b,f,YO]at e;exact⟨by rw[Option.some.inj e];exact(GT g _<|Yo _).1,d+1,(h1.rd i r _ b f).1⟩
 .rw[h1.len];unfold pieces;rw[ZB,Zk,Zk];lia
theorem IM (l:Str):Cs [l]=l:=xj<|vA l
theorem SQ (l b:Str)(r:Da):Cs (l::b::r)=l++⟨#[47]⟩++Cs (b::r):=xj (by
 rw[qH l<|Yr _ _,zm,zm];show _=cs l++[47]++_;simp)
theorem Wv (l b:Str)(r:Da):l≠Cs (l::b::r):=λz=>by
 have:=congrArg (λx=>(cs x).length) z;simp only[qH l<|Yr b r,ZB,ZF]at this;lia
theorem Ib:∀{p:Da},(∀l∈p,z9 l=true)->(cs<|Cs p).length<=9*p.length
 |[],_=>by
  show(cs<|Lu "/" []).length<=0;rw[qQ];exact Zt _
 |[l],h=>by
  have:=h l<|Zl.mpr rfl;rw[vA];unfold z9 at this;rw[Zw,Zw,Yc,Yc,zf]at this;show _<=9;lia
 |l::b::r,h=>by
  have h1:=h l<|Zs ..;have d:=Ib (p:=b::r) λx c=>h x<|Zn _ c;rw[qH l<|Yr _ _,ZB,ZF];unfold z9 at h1;rw[Zw,Zw,Yc,Yc,zf]at h1;rw[ZF]at d ⊢;rw[ZF];lia
theorem S5 (g:yj n fs){i:Nat}{f:Fi}{l b:Str}{r:Da}(p:fs[i]?=some f)(e:f.1=l::b::r):(.inr (Cs (b::r)):Key)∉(sub (fs.take i) l).map λk=>(.inr (Cs k.1):Key):=λz=>by
 obtain⟨k,hk,q⟩:=Zr.mp z;have q:Cs k.1=Cs (b::r):=Sum.inr.inj q;obtain⟨v,hk⟩:=wH.mp hk;have y:=(g.wL _<|Jf hk).2.2.1;have w:=(g.wL _<|ZG p).2.2.1;have q:=jR (d:=0) v (Yr _ _) (λx o=>y x<|Zn _ o) (λx o=>w x (by rw[e];exact Zn _ o)) q;obtain⟨j,c⟩:=Y9.mp hk;rw[List.getElem?_take]at c
 split at c
 .rename_i C;have h1:(fs.map (·.1))[j]?=some f.1:=by rw[Zy,c];show some (l::k.1)=_;rw[q,e]
  have u:(fs.map (·.1))[i]?=some f.1:=by rw[Zy,p];rfl
  obtain⟨A,s⟩:=ZJ.mp h1;obtain⟨B,t⟩:=ZJ.mp u;have:=(JG g.nd).mp<|s.trans t.symm;lia
 .cases c
structure wj (K:Cq)(H:Hp)(ah:Str)(fs:Dk)(Dm:Dl):Prop where
 keys:Dm.map (·.1)=fs.map λf=>(.inr (ah++Cs f.1):Key)
 val:∀(i:Nat) (f:Fi) (kv:Key×V),fs[i]?=some f->Dm[i]?=some kv->Dt K H (yg f.2) kv.2/\UV f.2
section
variable {K:Cq}{H H':Hp}{ah l:Str}{fs gs:Dk}{Dm more:Dl}
theorem wj.nil:wj K H ah [] []:=⟨rfl,λi f kv h=>(nomatch h)⟩
theorem wj.len (h:wj K H ah fs Dm):Dm.length=fs.length:=by
 have:=congrArg List.length h.keys;rw[Zk,Zk]at this;exact this
theorem wj.same (h:wj K H ah fs Dm)(e:zx H H'):wj K H' ah fs Dm:=⟨h.keys,λi f kv a b=>⟨Dt.same e _ _ (h.val i f kv a b).1,(h.val i f kv a b).2⟩⟩
theorem wj.off {X:Dd}(h:wj K H ah fs Dm)(n:∀b∈X,∀xs,¬Rd H b (.tup xs))(o:Off X H H'):wj K H' ah fs Dm:=⟨h.keys,λi f kv a b=>⟨Dt.off n o _ _ (kC (h.val i f kv a b).2) (h.val i f kv a b).1,(h.val i f kv a b).2⟩⟩
theorem wj.app (h:wj K H ah fs Dm)(k:wj K H ah gs more):wj K H ah (fs++gs) (Dm++more):=by
 refine⟨by rw[Zx,Zx,h.keys,k.keys],λi g kv a b=>?_⟩
 by_cases z:i<fs.length
 .rw[Ya z]at a;rw[Ya<|by rwa[h.len]]at b;exact h.val i g kv a b
 .rw[Ym<|by lia]at a;rw[Ym (by rw[h.len];lia),h.len]at b;exact k.val _ g kv a b
theorem R1 (ah l:Str){p:Da}(h:p≠[]):ah++l++"/"++Cs p=ah++Cs (l::p):=xj (by
 have:cs ("/":Str)=[47]:=by decide+kernel
 rw[zm,zm,zm,zm,qH l h,this];simp)
theorem OQ (ah l:Str):ah++l=ah++Cs [l]:=by rw[IM]
theorem wj.deep (h:wj K H (ah++l++"/") fs Dm)(ne:∀f∈fs,f.1≠[]):wj K H ah (fs.map λf=>(l::f.1,f.2)) Dm:=by
 refine⟨?_,λi f kv a b=>?_⟩
 .rw[h.keys,ZM];exact Yf λf c=>by
   show(ED (ah++l++"/"++Cs f.1):Key)=.inr (ah++Cs (l::f.1));rw[R1 ah l<|ne f c]
 .rw[Zy]at a;obtain⟨g,d,rfl⟩:=Z0.mp a;exact h.val i g kv d b
theorem wj.one (hv:Dt K H (yg ls) v)(hl:UV ls):wj K H ah [([l],ls)] [(.inr<|ah++l,v)]:=by
 refine⟨by rw[OQ];rfl,λi f kv a b=>?_⟩;cases i with
 |zero=>cases a;cases b;exact⟨hv,hl⟩
 |succ i=>cases a
theorem wj.at (h:wj K H "" fs Dm):yp K H fs Dm:=⟨by
 rw[h.keys];exact Yf λf _=>by
  congr 1
  exact xj (by rw[zm];rfl),h.val⟩
end
theorem Ga:∀{more Dm:Dl},(∀k∈more.map (·.1),k∉Dm.map (·.1))->(more.map (·.1)).Nodup->putAll Dm more=Dm++more
 |[],Dm,_,_=>(Z2 _).symm
 |p::more,Dm,h,nd=>by
  rw[ZL,ZY]at nd;show putAll (yt Dm p.1 p.2) more=_;rw[jV<|h p.1<|Zs ..,Ga (λk hk z=>?_) nd.2,YC]
  .rfl
  .rw[Zx]at z
   rcases ZR.mp z with z|z
   .exact h k (Zn _ hk) z
   .have z:k=p.1:=Zl.mp z;exact nd.1<|z▸hk
theorem Si {ah:Str}{fs:Dk}(h:fs.Pairwise<|λf g=>CN (Cs f.1)<|Cs g.1):(fs.map λf=>(.inr (ah++Cs f.1):Key)).Nodup:=by
 rw[Yj,YU];refine h.imp λ{a b} z e=>?_;have e:ah++Cs a.1=ah++Cs b.1:=Sum.inr.inj e;have:=congrArg cs e;rw[zm,zm]at this;exact F3 z<|xj<|Vw this
noncomputable def CJ (d:Nat)(S:Di)(r:Str×Str):Dk:=(zq d S r.2).map λf=>(r.1::f.1,f.2)
end An
namespace AxS
open PySem PySem.Spec PyProof.Rows
section
variable {prog:Er}{w:Eu}{A:EJ}{E:Ep->Dh}{s:Et}
set_option maxHeartbeats 6400000 in
end
end AxS
namespace L2
open PySem PySem.Spec PyProof.Rows AxS
theorem xr.zr (r:xr k A):A.units+1<cLine:=by have:=r.un;lia
end L2
namespace AnS
open PySem L2 An AnJ
end AnS
namespace An
open PySem L2
inductive gY (par:Str->Da)(rs:Da):Str->Prop
 |root {x:Str}:x∈rs->gY par rs x
 |step {x y:Str}:gY par rs x->y∈par x->gY par rs y
def Sq (S:Di)(x:Str):Bool:=zW S x ["note"]
theorem Sr {S:Di}(th:∀e∈S,U2 e){x:Str}(h:Sq S x=true):∃e∈S,e.nm=x/\∃t ps y,e.d=(Th.note t ps y).dat:=by
 unfold Sq zW at h;rw[Z8]at h;obtain⟨e,he,h⟩:=h;rw[Zw,ZN,ZN]at h;obtain⟨t,c,_⟩:=th e he;refine⟨e,he,h.1,?_⟩;have b:=h.2;rw[j7 c]at b;cases t with
 |note t ps y=>exact⟨t,ps,y,c⟩
 |leaf ls=>exact absurd (show("leaf":Str)∈(["note"]:Da) from b) (by decide+kernel)
 |tree rs=>exact absurd (show("tree":Str)∈(["note"]:Da) from b) (by decide+kernel)
theorem Nw {S:Di}{e:En}(he:e∈S){t:Str}{ps:Da}{y:Str}(hd:e.d=(Th.note t ps y).dat):Sq S e.nm=true:=by
 unfold Sq zW;rw[Z8];refine⟨e,he,?_⟩;rw[Zw,ZN,ZN,j7 hd];exact⟨rfl,Zl.mpr rfl⟩
def UL (S:Di):Ey->Str->Bool
 | .str x,f=>zW S x [f]
 |_,_=>false
def oV:Option Str->V
 |none=>.non
 |some n=>.str n
def W5:Option Str->Ey
 |none=>.none
 |some n=>.str n
open AnJ
def XS (fs:Dk)(f:Fi):Dk:=if f.1∈fs.map (·.1) then fs.map (λg=>if g.1=f.1 then f else g) else fs++[f]
theorem K2 (fs:Dk)(f:Fi):(XS fs f).map (·.1)=if f.1∈fs.map (·.1) then fs.map (·.1) else fs.map (·.1)++[f.1]:=by
 unfold XS
 split
 .rw[ZM];refine Yf λg _=>?_;show(if g.1=f.1 then f else g).1=g.1
  split
  .rename_i z;exact z.symm
  .rfl
 .rw[Zx];rfl
theorem Ow {k:Fi}(h:k∈XS fs f):k∈fs\/k=f:=by
 unfold XS at h
 split at h
 .obtain⟨g,b,e⟩:=Zr.mp h
  split at e
  .exact .inr e.symm
  .exact .inl (e▸b)
 .rcases ZR.mp h with z|z
  .exact .inl z
  .exact .inr (Zl.mp z)
theorem SO {a t:Da}(ha:a≠[])(b:t≠[]):Cs (a++t)=Cs a++"/"++Cs t:=xj (by
 have e:cs ("/":Str)=[47]:=by decide+kernel
 unfold Cs;rw[qQ,Zx,KI (by simpa using ha)<|by simpa using b,zm,zm,qQ,qQ,e];simp)
theorem yp.put {K:Cq}(h:yp K H fs Dm){n:Nat}(g:yj n fs){f:Fi}{v:V}(h0:f.1≠[])(hl:∀l∈f.1,z9 l=true)(hv:Dt K H (yg f.2) v)(hn:UV f.2):yp K H (XS fs f) (yt Dm (.inr<|Cs f.1) v):=by
 have key:∀k∈fs,((.inr (Cs k.1):Key)=.inr (Cs f.1))↔k.1=f.1:=λk hk=>⟨λz=>jR (d:=0) (g.wL k hk).1 h0 (g.wL k hk).2.2.1 hl<|Sum.inr.inj z,λz=>by rw[z]⟩
 by_cases z:f.1∈fs.map (·.1)
 .have u:∃k∈fs,k.1=f.1:=let ⟨k,hk,e⟩:=Zr.mp z;⟨k,hk,e⟩;have ha:(Dm.any λkv=>decide (kv.1=.inr (Cs f.1)))=true:=by
   obtain⟨k,hk,e⟩:=u;have:(.inr (Cs f.1):Key)∈Dm.map (·.1):=by rw[h.keys];exact Zr.mpr ⟨k,hk,by rw[e]⟩
   obtain⟨kv,m,w⟩:=Zr.mp this;exact Z8.mpr ⟨kv,m,Zq w⟩
  unfold yt XS;rw[ZK ha,ZK z];refine⟨?_,λi k kv a b=>?_⟩
  .rw[ZM,ZM];have o:Dm.map ((λp=>p.1)∘λkv=>if kv.1=.inr (Cs f.1) then(kv.1,v) else kv)=Dm.map (·.1):=Yf λkv _=>by
    show(if kv.1=.inr (Cs f.1) then(kv.1,v) else kv).1=kv.1
    split<;>rfl
   rw[o,h.keys];refine Yf λk _=>?_;show(ED (Cs k.1):Key)=.inr (Cs (if k.1=f.1 then f else k).1)
   split
   .rename_i q;rw[q]
   .rfl
  .rw[Zy]at a b;obtain⟨t,r,ek⟩:=Z0.mp a;obtain⟨s,j,c⟩:=Z0.mp b;have o:=congrArg (λl=>l[i]?) h.keys;simp only[Zy,r,j,YO]at o;have o:s.1=.inr (Cs t.1):=Option.some.inj o
   by_cases q:t.1=f.1
   .rw[ZK q]at ek;rw[ZK<|by rw[o,q]]at c;rw[<-ek,<-c];exact⟨hv,hn⟩
   .rw[ZH q]at ek;rw[ZH<|λy=>q<|(key t<|ZG r).mp<|o.symm.trans y]at c;rw[<-ek,<-c];exact h.val i t s r j
 .have x:(.inr (Cs f.1):Key)∉Dm.map (·.1):=λy=>by
   rw[h.keys]at y;obtain⟨k,hk,e⟩:=Zr.mp y;exact z<|Zr.mpr ⟨k,hk,(key k hk).mp e⟩
  rw[jV x];unfold XS;rw[ZH z];exact h.snoc hv hn
theorem Rq (B:Da)(l:Str)(b:B≠[]):Cs B++"/"++l=Cs (B++[l]):=by
 rw[SO b<|Yr _ _,IM]
theorem yj.subs {b:Dk}(g:yj n fs)(h:∀k∈b,k∈fs)(nd:(b.map (·.1)).Nodup):yj n b :=
 ⟨λf c=>g.wL f<|h f c,nd,λf c k hk t e=>g.pre f (h f c) k (h k hk) t e⟩
theorem yj.one (g:yj n fs){f k:Fi}(b:f∈fs)(hk:k∈fs)(e:f.1=k.1):f=k:=by
 obtain⟨i,c,rfl⟩:=Z4.mp b;obtain⟨j,d,rfl⟩:=Z4.mp hk;have:=(JG (h₀:=by simpa using c) (h₁:=by simpa using d) g.nd).mp (by rwa[Z9,Z9]);subst this;rfl
theorem bu {n:Nat}{fs:Dk}(g:∀f∈fs,f.1.length<=n):wt fs<=n*fs.length:=by
 unfold wt
 induction fs with
 |nil=>exact Yb _
 |cons f fs ih =>
  have h1:=g f<|Zs ..;have b:=ih λk hk=>g k<|Zn _ hk;rw[ZL,JC,ZF,Nat.mul_succ];lia
theorem yj.wt (g:yj n fs):wt fs<=n*fs.length:=bu λf b=>(g.wL f b).2.1
theorem KY {rs:Dk}{ss:Da}(g:yj n fs)(i:rs.Pairwise λf h=>CN (Cs f.1)<|Cs h.1)(e:∀f,f∈rs↔f∈fs)(p:ss.Perm<|fs.map λf=>Cs f.1)(j:L6 ss=true):rs.map (λf=>Cs f.1)=ss:=by
 have h1:(rs.map λf=>Cs f.1).Pairwise CN:=YU.mpr i;have n1:(rs.map λf=>Cs f.1).Nodup:=Yj.mpr<|h1.imp λ{a b} z=>F3 z;have n2:(fs.map λf=>Cs f.1).Nodup:=by
  have:=g.nd;rw[Yj,YU]at this ⊢;refine this.imp_of_mem λ{a b} ha hb ne q=>ne<|jR (d:=0) (g.wL a ha).1 (g.wL b hb).1 (g.wL a ha).2.2.1 (g.wL b hb).2.2.1 q
 refine Jc (le:=Px) (λa b _ _ z q=>vS z q) (h1.imp λ{a b} z q=>Nt z q) (j6 j) ?_;refine((Y3 n1 n2).mpr λx=>?_).trans p.symm;rw[Zr,Zr];exact⟨λ⟨f,c,q⟩=>⟨f,(e f).mp c,q⟩,λ⟨f,c,q⟩=>⟨f,(e f).mpr c,q⟩⟩
section
variable {K:Cq}{H:Hp}{fs:Dk}{Dm:Dl}
theorem yp.nd (h:yp K H fs Dm)(g:yj n fs):(Dm.map (·.1)).Nodup:=by
 rw[h.keys];have:=g.nd;rw[Yj,YU]at this ⊢;exact this.imp_of_mem λ{a b} ha hb ne q=>ne<|jR (d:=0) (g.wL a ha).1 (g.wL b hb).1 (g.wL a ha).2.2.1 (g.wL b hb).2.2.1<|Sum.inr.inj q
theorem yp.at (h:yp K H fs Dm)(g:yj n fs){f:Fi}(j:f∈fs):∃v,UE Dm (.inr<|Cs f.1)=some v/\Dt K H (yg f.2) v/\UV f.2:=by
 obtain⟨i,l,rfl⟩:=Z4.mp j;have hk:i<Dm.length:=by rwa[h.len]
 obtain⟨o,b,c,d,e⟩:=h.get (i:=i) (k:=Dm[i].1) (v:=Dm[i].2)<|Zv hk;rw[Zv l]at b;cases b;refine⟨Dm[i].2,uV (h.nd g) ?_,d,e⟩;rw[<-c];exact Yo hk
theorem yp.kV (h:yp K H fs Dm):(Dm.map λkv=>kV kv.1)=(fs.map λf=>Cs f.1).map V.str:=by
 have:(Dm.map λkv=>L2.kV kv.1)=(Dm.map (·.1)).map L2.kV:=by rw[ZM];rfl
 rw[this,h.keys,ZM,ZM];rfl
theorem yp.iu (h:yp K H fs Dm):RW Dm/\Dm.map GJ=fs.map λf=>Cs f.1:=by
 constructor
 .intro kv hkv;have:kv.1∈Dm.map (·.1):=Zr.mpr ⟨kv,hkv,rfl⟩;rw[h.keys]at this;obtain⟨f,_,e⟩:=Zr.mp this;unfold GJ;rw[<-e]
 .have e:Dm.map GJ=(Dm.map (·.1)).map λk=>GJ (k,V.non):=by rw[ZM];rfl
  rw[e,h.keys,ZM];rfl
end
section
variable {d n:Nat}{S:Di}{fs gs:Dk}{q q2:List En×Str}
theorem NH {l:Dk}(h:l.Pairwise λf h=>CN (Cs f.1)<|Cs h.1):l.Nodup:=Yj.mpr (h.imp λ{a b} (z:CN (Cs a.1)<|Cs b.1) (q:a=b)=>F3 z<|by rw[q])
end
theorem HZ {c:Type} [DecidableEq c]:∀{a b:List c},a.Nodup->(∀x∈a,x∈b)->b.length<=a.length->∀x∈b,x∈a
 |[],b,_,_,l,x,hx=>by
  have:b=[]:=YV<|Nat.le_zero.mp l;rw[this]at hx;exact hx
 |y::a,b,nd,h,l,x,hx=>by
  have e:=h y<|Zs ..;have nd:=ZY.mp nd
  by_cases z:x=y
  .rw[z];exact Zs ..
  .refine Zn _ (HZ (b:=b.erase y) nd.2 (λu d=>?_) ?_ x<|(List.mem_erase_of_ne z).mpr hx)
   .exact(List.mem_erase_of_ne<|λ(q:u=y)=>nd.1<|by rwa[<-q]).mpr (h u<|Zn _ d)
   .rw[List.length_erase_of_mem e];rw[ZF]at l;lia
section
variable {K:Cq}{H:Hp}{fs rs:Dk}{ka kb:Dl}{n m:Nat}
theorem yp.tail {f:Fi}{kv:Key×V}(h:yp K H (f::fs) (kv::ka)):yp K H fs ka:=⟨List.tail_eq_of_cons_eq h.keys,λi f kv a b=>h.val (i+1) f kv a b⟩
theorem BT (hb:yp K H fs kb)(j:yj n fs):∀{rs:Dk} {ka:Dl},yp K H rs ka->(∀f∈rs,f.1≠[]/\∀l∈f.1,z9 l=true)->rP K H kb ka (decide (∀f∈rs,f∈fs))
 |[],[],_,_=>by
  rw[Zq<|λf o=>(nomatch o)];exact .nil
 |[],_::_,h,_=>by cases h.keys
 |_::_,[],h,_=>by cases h.keys
 |f::rs,(k,v)::ka,h,ho=>by
  have E:=BT hb j h.tail λk hk=>ho k<|Zn _ hk;obtain⟨A,r,x,u,F⟩:=h.get (i:=0) (k:=k) (v:=v) rfl;have r:f=A:=Option.some.inj r;subst r x;obtain⟨B,C⟩:=ho f<|Zs ..;have sh:∀{s:Da},UV s->EW (yg s)=true:=λ{s} h=>(yO λp D=>(vO<|h.2 p D).ok).2
  by_cases z:f.1∈fs.map (·.1)
  .obtain⟨g,b,c⟩:=Zr.mp z;obtain⟨y,t,w,ly⟩:=hb.at j b;rw[c]at t;have e:decide (∀k∈f::rs,k∈fs)=(EM (yg f.2) (yg g.2)&&decide (∀k∈rs,k∈fs)):=by
    rw[pG,Yx,Zw,ZN,ZN,ZN,List.forall_mem_cons];refine and_congr_left λ_=>⟨λo=>?_,λo=>?_⟩
    .rw[j.one o b c.symm]
    .have:f=g:=Mp c.symm o;rwa[this]
   rw[e];exact .hit t u w (sh F) (sh ly) E
  .have G:UE kb (.inr<|Cs f.1)=none:=by
    cases q:UE kb (.inr<|Cs f.1) with
    |none=>rfl
    |some y =>
     exfalso;have:=uW q;rw[hb.keys]at this;obtain⟨g,b,c⟩:=Zr.mp this;exact z<|Zr.mpr ⟨g,b,jR (d:=0) (j.wL g b).1 B (j.wL g b).2.2.1 C<|Sum.inr.inj c⟩
   rw[ZE<|λq=>z<|Zr.mpr ⟨f,q f<|Zs ..,rfl⟩];exact .miss G
theorem FC (ha:yp K H rs ka)(hb:yp K H fs kb)(b:yj n fs)(ga:rs.Nodup):(ka.length==kb.length&&decide (∀f∈rs,f∈fs))=true↔∀f,f∈rs↔f∈fs:=by
 rw[Zw,JB,ZN,ha.len,hb.len];constructor
 .rintro⟨l,h⟩ f;exact⟨h f,HZ ga h (by lia) f⟩
 .intro h;exact⟨((Y3 ga<|jF b.nd).mpr h).length_eq,λf c=>(h f).mp c⟩
end
end An
namespace PySem.SeqAt
open MeetsSeq PyProof.Rows
end PySem.SeqAt
namespace L2
open PySem PySem.Spec PyProof.Rows
section
variable {X:Cx}{K:Cq}
theorem SE {f:Str}{pos:Pos}(he:PE X e ta)(hb:LD e f X.env (Lc e X.env)=Lc e X.env)(b:X.K=K:=by rfl):PE X (.Attribute e f pos) (bf K ta f):=by
 subst b;exact yP he hb
theorem Hw {p pos:Pos}(M:iZ X.prog X.w X.K X.mg X.base C k x ps sp)(d:xr (k+1) X.A)(c:Gl X x:=by rfl)(b:(x==("__debug__":Str))=false:=by decide):PE X (.Call (.Name x p) [] [] pos) (NP C sp [] E0 Xj):=by
 obtain⟨f,g,F,hm,hb,e⟩:=M.ex;exact Rf hm F d c e hb .nil Iu b
end
end L2
namespace An23
open PySem L2 An
seal L2.PS L2.qw L2.PE L2.PT L2.PW L2.PA L2.PG L2.jo L2.PI L2.lH L2.PC
abbrev yc0 (K)(x)(st)(f)(fd):=yc K x x st f fd
def top (i:Nat):Stmt:=PySem.Challenge.pw_annals_k23_whole_versions.main.body.getD i<|.Pass ⟨0,0,0,0⟩
def kinds:List String:=["NoneType","bool","int","str","list","tuple","dict"]
def xV:Dl:=[(ED "leaf",.str "L"),(ED "tree",.str "T"),(ED "note",.str "N")]
theorem KM (t:Th):UE xV (ED t.word:Key)=some (.str t.letter):=by
 cases t
 .show UE xV (ED "leaf":Key)=some (.str "L")
  decide+kernel
 .show UE xV (ED "tree":Key)=some (.str "T")
  decide+kernel
 .show UE xV (ED "note":Key)=some (.str "N")
  decide+kernel
section
variable {K:Cq}{H:Hp}
theorem DE {ls:Da}{v:V}(h:Dt K H (Th.leaf ls).dat v):∃a b,v=.ref a/\wY K H a [.str "leaf",.ref b]/\wY K H b (ls.map V.str):=by
 obtain⟨a,n,rfl,e,i,j,rfl,c,l,g,rfl,⟨b,o,rfl,hb,f⟩,d⟩:=h;have c:i=.str "leaf":=c;have d:g=[]:=d;subst c d;rw[zu.ud f]at hb;exact⟨a,b,rfl,e,hb⟩
theorem BQ {rs:Dg}{v:V}(h:Dt K H (Th.tree rs).dat v):∃a b,v=.ref a/\wY K H a [.str "tree",.ref b]/\Dt K H (.tuple<|rs.map zj) (.ref b):=by
 obtain⟨a,o,rfl,e,i,l,rfl,c,n,g,rfl,⟨b,j,rfl,hb,f⟩,d⟩:=h;have c:i=.str "tree":=c;have d:g=[]:=d;subst c d;exact⟨a,b,rfl,e,b,j,rfl,hb,f⟩
theorem uZ {t:Str}{ps:Da}{w:Str}{v:V}(h:Dt K H (Th.note t ps w).dat v):∃a b,v=.ref a/\wY K H a [.str "note",.str t,.ref b,.str w]/\wY K H b (ps.map V.str):=by
 obtain⟨a,u,rfl,g,l,p,rfl,c,n,q,rfl,d,s,r,rfl,⟨b,x,rfl,hb,i⟩,o,j,rfl,e,f⟩:=h;have c:l=.str "note":=c;have d:n=.str t:=d;have e:o=.str w:=e;have f:j=[]:=f;subst c d e f;rw[zu.ud i]at hb;exact⟨a,b,rfl,g,hb⟩
theorem uM {t:Th}(h:Dt K H t.dat v):∃a r,v=.ref a/\wY K H a (.str t.word::r):=by
 cases t with
 |leaf ls=>obtain⟨a,b,e,h1,_⟩:=DE h;exact⟨a,_,e,h1⟩
 |tree rs=>obtain⟨a,b,e,h1,_⟩:=BQ h;exact⟨a,_,e,h1⟩
 |note t ps w=>obtain⟨a,b,e,h1,_⟩:=uZ h;exact⟨a,_,e,h1⟩
theorem WD (h:Dt K H (zj r) v):∃a,v=.ref a/\wY K H a [.str r.1,.str r.2]:=by
 obtain⟨a,l,rfl,e,g,j,rfl,b,i,f,rfl,c,d⟩:=h;have b:g=.str r.1:=b;have c:i=.str r.2:=c;have d:f=[]:=d;subst b c d;exact⟨a,rfl,e⟩
theorem HN {rs:Dg}{i:Nat}{x:V}(h:zu K H (rs.map zj) xs)(e:xs[i]?=some x):∃r a,rs[i]?=some r/\x=.ref a/\wY K H a [.str r.1,.str r.2]:=by
 obtain⟨d,b,c⟩:=h.get e;rw[Zy]at b;cases q:rs[i]? with
 |none=>rw[q]at b;cases b
 |some r =>
  rw[q]at b;have b:zj r=d:=Option.some.inj b;subst b;obtain⟨a,f,g⟩:=WD c;exact⟨r,a,rfl,f,g⟩
end
def IE (K:Cq):Sp:=λb H Q _=>∃v t,b=[v]/\Dt K H (Th.dat t) v/\Q (.str t.letter) H
def XV (K:Cq):Sp:=λc H Q _=>∃v b,c=[v]/\Dt K H (.tuple<|b.map zj) v/\b.length<=1000/\∀l,H l=none->Q (.ref l) (upd H l<|.lst<|(yH b).map V.str)
def NM (K:Cq):Sp:=λc H Q _=>∃v t,c=[v]/\Dt K H (Th.dat t) v/\t.Good/\∀l b,zx H b->H l=none->b l=some (.lst<|t.parts.map V.str)->Q (.ref l) b
def Bw:Sp:=λb H Q _=>∃x,b=[.str x]/\x.length<=1000/\Q (.str<|counted x) H
def Bo (K:Cq):Sp:=λc H Q _=>∃v t,c=[v]/\Dt K H (Th.dat t) v/\t.Good/\∀b,zx H b->Q (.str t.sp) b
def HW (K:Cq):Sp:=λc H Q _=>∃v t,c=[v]/\Dt K H (Th.dat t) v/\t.Good/\∀b,zx H b->Q (.int<|dg t.sp) b
structure Txt (P:Er)(w:Eu)(K:Cq)(mg:Str->Dc)(t1 t2 t3 t4 t5 t6 t7:Tok)(aL aC aN aT aA b1 b2 b3 b4 b5 b6 b7 b8 aD:Eo):Prop where
 len:mg "len"=none
 all:mg "all"=none
 ord:mg "ord"=none
 isinstance:mg "isinstance"=none
 str:mg "str"=none
 set:mg "set"=none
 sorted:mg "sorted"=none
 tuple:mg "tuple"=none
 list:mg "list"=none
 max:mg "max"=none
 int:mg "int"=none
 bool:mg "bool"=none
 range:mg "range"=none
 dict:mg "dict"=none
 any:mg "any"=none
 enumerate:mg "enumerate"=none
 p6:mg "LONGEST_LINE"=some (.int 20 t1)
 rm:mg "LONGEST_LABEL"=some (.int 8 t2)
 pR:mg "MOST_PARENTS"=some (.int 2 t3)
 PERCENT:mg "PERCENT"=some (.int 37 t4)
 pH:mg "MOST_LABELS"=some (.int 4 t7)
 rB:mg "DIGEST_FACTOR"=some (.int 31 t5)
 pY:mg "DIGEST_BOUND"=some (.int 97 t6)
 LETTERS:mg "LETTERS"=some (.ref aL)
 pX:mg "NoName"=some (.ref aN)
 nH:mg "NoThing"=some (.ref aT)
 uo:mg "AnnalsError"=some (.ref aA)
 lC:mg "BadPath"=some (.ref b1)
 tL:mg "BadFiles"=some (.ref b2)
 iC:mg "NoFit"=some (.ref b3)
 iM:mg "Clash"=some (.ref b4)
 qu:mg "NoVersion"=some (.ref b5)
 ni:mg "BadLine"=some (.ref b6)
 pB:mg "NoBranch"=some (.ref b7)
 qp:mg "BadBranch"=some (.ref b8)
 jg:mg "Annals"=some (.ref aD)
 min:mg "min"=none
 ValueError:mg "ValueError"=none
 iD:mg "Shelf"=some (.ref aC)
 qd:EX K aN UX "ValueError.__new__"=true
 mF:EX K aT UX "ValueError.__new__"=true
 tG:EX K b2 UX "ValueError.__new__"=true
 dst:[b5,b2,b6,b7,b8,aN,aT,b1,b3,b4].Nodup
 ek:∀a∈[b5,b2,b6,b7],PySem.W.wg K a
 kx:∀a∈[b5,b2,b6,b7],∀b∈[b5,b2,b6,b7,b8,aN,aT,b1,b3,b4],EV K (.ref a) (.ref b)=some (decide (a=b))
 kv:∀a∈[b5,b2,b6,b7],EV K (.ref a) (.type "ValueError")=some true
 gR:∀a∈[b5,b2,b6,b7],PySem.W.exmOne K (.ref a) (.ref aA)=some true
 nW:EX K b5 UX "ValueError.__new__"=true
 mj:EX K b6 UX "ValueError.__new__"=true
 mZ:EX K b7 UX "ValueError.__new__"=true
 nQ:EX K b8 UX "ValueError.__new__"=true
 xx:Cls K aD
 m1:wB K aD "shelf"
 m2:wB K aD "heads"
 kd:KD P w K aL xV
 cls:Cls K aC
 n1:wB K aC "thing_by_name"
 n2:wB K aC "name_by_thing"
 n3:wB K aC "next_numbers"
 kit:∀a∈kinds,∀b∈kinds,EV K (.type a) (.type b)=some (a==b||(a=="bool"&&b=="int"))
theorem PU (d:Ey):U1 d∈kinds:=by cases d<;>simp[U1,kinds]
def OI:Ey->Str
 | .str x=>x
 |_=>""
def Ht:Ey->Bool
 | .tuple ds=>ds.all Xd&&(decide (ds.length<=2)&&decide ((AxS.uniq<|ds.map OI).length=ds.length))
 |_=>false
inductive nR (K:Cq)(vs:Dj)(H:Hp)(Q:VK)(e3:XK):Prop
 |mk (d:Ey) (v:V) (h0:vs=[v]) (h1:Dw K H d v) (h2:small d=true) (h3:∀H',zx H H'->Q (.bl<|Ht d) H'):nR K vs H Q e3
theorem Kd {K:Cq}:∀{ds:Df} {xs:Dj},xq K H ds xs->ds.all Xd=true->xs=(ds.map OI).map V.str
 |[],_,h,_=>by rw[show _=[] from h];rfl
 | .str x::ds,_,⟨v,r,e,hv,hr⟩,h=>by
  rw[List.all_cons,Zw]at h;rw[e,Kd hr h.2,show v=V.str x from hv];rfl
 | .none::_,_,_,h=>by cases h
 | .bool _::_,_,_,h=>by cases h
 | .int _::_,_,_,h=>by cases h
 | .list _::_,_,_,h=>by cases h
 | .tuple _::_,_,_,h=>by cases h
 | .dict _::_,_,_,h=>by cases h
def Xa:Ey->Str
 | .tuple (.str l::_)=>l
 |_=>""
def Bu:Ey->Bool
 | .tuple ds=>ds.all Xf&&Xh (ds.map Xa)
 |_=>false
inductive nO (K:Cq)(vs:Dj)(H:Hp)(Q:VK)(e3:XK):Prop
 |mk (d:Ey) (v:V) (h0:vs=[v]) (h1:Dw K H d v) (h2:small d=true) (h3:(∀ds,d=.tuple ds->ds.length<=63)) (h4:∀H',zx H H'->Q (.bl<|Bu d) H'):nO K vs H Q e3
theorem NJ {K:Cq}(h:Dw K H d v)(r:Xf d=true):∃(t:Eo) (y:V),v=.ref t/\wY K H t [.str<|Xa d,y]/\z9 (Xa d)=true:=by
 match d,r with
 | .tuple [l,n],r =>
  have r:(kW l&&Xd n)=true:=r;rw[Zw]at r;obtain⟨t,o,rfl,c,g,j,rfl,b,i,f,rfl,h1,e⟩:=h;have e:f=[]:=e;subst e;cases l with
  |str x=>cases(show g=_ from b);exact⟨t,i,rfl,c,r.1⟩
  |none=>cases r.1
  |bool _=>cases r.1
  |int _=>cases r.1
  |list _=>cases r.1
  |tuple _=>cases r.1
  |dict _=>cases r.1
theorem G8 (h:z9 x=true):Ew x=true:=by
 unfold z9 at h;rw[Zw]at h;rw[yX];intro c hc;have:=ZQ.mp h.2 c hc;unfold Xb at this;rw[Zw]at this;have:=ZI this.2;lia
def NW (ds:Df)(i:Nat):PyData:=(ds[i]?).getD .none
def U5 (word:Str)(ds:Df):Bool:=decide (word="leaf")&&(decide (ds.length=1)&&jE (NW ds 0))
def U9 (word:Str)(ds:Df):Bool:=decide (word="tree")&&(decide (ds.length=1)&&Bu (NW ds 0))
inductive rT (K:Cq)(b:Str->Df->Bool)(vs:Dj)(H:Hp)(Q:VK)(e3:XK):Prop
 |mk (word:Str) (a:Eo) (ds:Df) (xs:Dj) (h0:vs=[.str word,.ref a]) (h1:wY K H a xs) (h2:xq K H ds xs) (h3:yL ds=true) (h4:ds.length<=63) (h5:(∀e∈ds,∀es,e=.tuple es->es.length<=63)) (h6:∀H',zx H H'->Q (.bl<|b word ds) H'):rT K b vs H Q e3
def PZ (word:Str)(ds:Df):Bool:=decide (word="note")&&(decide (ds.length=3)&&(Xd (NW ds 0)&&(Ht (NW ds 1)&&UZ (NW ds 2))))
def WU:Ey->Bool
 | .tuple (.str word::ds)=>U5 word ds||(U9 word ds||PZ word ds)
 |_=>false
def narrow (d:Ey):Prop:=∀b,d=.tuple b->b.length<=63/\∀e∈b,∀c,e=.tuple c->c.length<=63
def vC (t:Th):Prop:=t.Good/\WU t.dat=true/\small t.dat=true/\narrow t.dat
inductive rE (K:Cq)(vs:Dj)(H:Hp)(Q:VK)(e3:XK):Prop
 |mk (t:Th) (v:V) (h0:vs=[v]) (h1:Dt K H t.dat v) (h2:vC t) (h3:∀H',zx H H'->Q (.bl true) H'):rE K vs H Q e3
inductive nZ (K:Cq)(aT:Eo)(vs:Dj)(H:Hp)(Q:VK)(e3:XK):Prop
 |mk (t:Th) (v:V) (h0:vs=[v]) (h1:Dt K H t.dat v) (h2:vC t) (h3:∀H',zx H H'->Q v H'):nZ K aT vs H Q e3
inductive mC (K:Cq)(vs:Dj)(H:Hp)(Q:VK)(e3:XK):Prop
 |mk (a:Eo) (ps:Da) (h0:vs=[.ref a]) (h1:wY K H a<|ps.map V.str) (h2:ps.length<=2) (h3:(AxS.uniq ps).length=ps.length) (h4:∀H',zx H H'->Q (.bl true) H'):mC K vs H Q e3
inductive p8 (K:Cq)(vs:Dj)(H:Hp)(Q:VK)(e3:XK):Prop
 |mk (a b:Eo) (x:Str) (ps:Da) (y:Str) (h0:vs=[.str "note",.ref a]) (h1:wY K H a [.str x,.ref b,.str y]) (h2:wY K H b<|ps.map V.str) (h3:ps.length<=2) (h4:(AxS.uniq ps).length=ps.length) (h5:UK y=true) (h6:∀H',zx H H'->Q (.bl true) H'):p8 K vs H Q e3
inductive lK (e0:Dj)(e1:Hp)(e2:VK)(e3:XK):Prop
 |mk  (h0:False):lK e0 e1 e2 e3
def Xz (S:Di):Ey->Bool
 | .str x=>decide (x∈S.map En.nm)
 |_=>false
inductive qi (P:Er)(w:Eu)(K:Cq)(C:Eo)(vs:Dj)(H:Hp)(Q:VK)(e3:XK):Prop
 |mk (a:Eo) (fp:Dd) (S:Di) (e:En) (t:Eo) (h0:vs=[.ref a,.str e.nm,.ref t]) (h1:yo P w K C H a fp S) (h2:mU e) (h3:Dt K H e.d<|.ref t) (h4:e.d∉S.map (·.d)) (h5:e.nm∉S.map En.nm) (h6:S.length<2000) (h7:∀H',Off fp H H'->yo P w K C H' a fp (S++[e])->Q .non H'):qi P w K C vs H Q e3
inductive ug (P:Er)(w:Eu)(K:Cq)(C:Eo)(vs:Dj)(H:Hp)(Q:VK)(e3:XK):Prop
 |mk (a:Eo) (fp:Dd) (S:Di) (h0:vs=[.ref a]) (h1:yo P w K C H a fp S) (h2:∀l,H l=none->Q (.ref l) (upd H l<|.lst<|S.map λe=>V.str e.nm)):ug P w K C vs H Q e3
def aq (Dm:Dl):Ey->Bool
 | .str x=>(UE Dm (ED x:Key)).isSome
 |_=>false
inductive m9 (K:Cq)(vs:Dj)(H:Hp)(Q:VK)(e3:XK):Prop
 |mk (d1:Eo) (Dm:Dl) (d:Ey) (v:V) (h0:vs=[.ref d1,v]) (h1:H d1=some (.dK Dm)) (h2:Dw K H d v) (h3:Q (.bl<|aq Dm d) H):m9 K vs H Q e3
inductive tQ (P:Er)(w:Eu)(K:Cq)(C aN:Eo)(vs:Dj)(H:Hp)(Q:VK)(E:XK):Prop
 |mk (a:Eo) (fp:Dd) (S:Di) (d:Ey) (v:V) (h0:vs=[.ref a,v]) (h1:yo P w K C H a fp S) (h2:Dw K H d v) (h3:(Xz S d=true->Q .non H)) (h4:(Xz S d=false->E (.ref aN) none H)):tQ P w K C aN vs H Q E
inductive oW (P:Er)(w:Eu)(K:Cq)(C:Eo)(vs:Dj)(H:Hp)(Q:VK)(e3:XK):Prop
 |mk (a:Eo) (fp:Dd) (S:Di) (d:Ey) (v:V) (h0:vs=[.ref a,v]) (h1:yo P w K C H a fp S) (h2:Dw K H d v) (h3:Q (.bl<|Xz S d) H):oW P w K C vs H Q e3
inductive wk (P:Er)(w:Eu)(K:Cq)(C aN:Eo)(vs:Dj)(H:Hp)(Q:VK)(E:XK):Prop
 |mk (a:Eo) (fp:Dd) (S:Di) (d:Ey) (v:V) (h0:vs=[.ref a,v]) (h1:yo P w K C H a fp S) (h2:Dw K H d v) (h3:(∀e∈S,d=.str e.nm->∀t,Dt K H e.d (.ref t)->Q (.ref t) H)) (h4:(Xz S d=false->E (.ref aN) none H)):wk P w K C aN vs H Q E
inductive pQ (P:Er)(w:Eu)(K:Cq)(C:Eo)(vs:Dj)(H:Hp)(Q:VK)(e3:XK):Prop
 |mk (a f:Eo) (fp:Dd) (S:Di) (x:Str) (ws:Da) (h0:vs=[.ref a,.str x,.ref f]) (h1:yo P w K C H a fp S) (h2:(∀e∈S,U2 e)) (h3:wY K H f<|ws.map V.str) (h4:(∀y∈ws,Ew y=true)) (h5:zW S x ws=true) (h6:Q .non H):pQ P w K C vs H Q e3
inductive pO (P:Er)(w:Eu)(K:Cq)(C:Eo)(vs:Dj)(H:Hp)(Q:VK)(e3:XK):Prop
 |mk (a:Eo) (fp:Dd) (S:Di) (t:Th) (v:V) (h0:vs=[.ref a,v]) (h1:yo P w K C H a fp S) (h2:(∀e∈S,U2 e)) (h3:Dt K H t.dat v) (h4:namesOk S t=true) (h5:∀H',zx H H'->Q .non H'):pO P w K C vs H Q e3
def TK (P:Er)(w:Eu)(K:Cq)(C:Eo)(H:Hp)(a:Eo)(fp:Dd)(S:Di)(t:Th)(c:Hp)(b:Di)(e:En):Prop :=
 Off fp H c/\yo P w K C c a fp b/\e∈b/\e.d=t.dat/\(b=S\/(b=S++[e]/\e=GL S t/\t.dat∉S.map (·.d)))
inductive tX (P:Er)(w:Eu)(K:Cq)(C:Eo)(vs:Dj)(H:Hp)(Q:VK)(e3:XK):Prop
 |mk (a:Eo) (fp:Dd) (S:Di) (t:Th) (v:V) (h0:vs=[.ref a,v]) (h1:yo P w K C H a fp S) (h2:(∀e∈S,U2 e)) (h3:Dt K H t.dat v) (h4:vC t) (h5:S.length<2000) (h6:(∀h,(ye S h).getD 0<1000000)) (h7:namesOk S t=true) (h8:∀H2 S' e,TK P w K C H a fp S t H2 S' e->Q (.str e.nm) H2):tX P w K C vs H Q e3
inductive pP (P:Er)(w:Eu)(K:Cq)(C:Eo)(vs:Dj)(H:Hp)(Q:VK)(e3:XK):Prop
 |mk (x dx:Eo) (b:V) (S:Di) (h0:vs=[.ref x,b]) (h1:H x=some (.ins C dx [])) (h2:H dx=some (.own x)) (h3:dx≠x) (h4:((b=.non/\S=[])\/∃a fp0,b=.ref a/\yo P w K C H a fp0 S/\x∉fp0/\dx∉fp0/\S.length<2000)) (h5:∀fp H',(∀c∈fp,c=x\/c=dx\/H c=none)->Off [x] H H'->yo P w K C H' x fp S->Q .non H'):pP P w K C vs H Q e3
section
variable {P:Er}{w:Eu}{K:Cq}{mg:Str->Dc}{base:EI}{t1 t2 t3 t4 t5 t6 t7:Tok}{aL aC aN aT aA b1 b2 b3 b4 b5 b6 b7 b8 aD:Eo}(T:Txt P w K mg t1 t2 t3 t4 t5 t6 t7 aL aC aN aT aA b1 b2 b3 b4 b5 b6 b7 b8 aD)
theorem Txt.is {T:String}(t:Txt P w K mg t1 t2 t3 t4 t5 t6 t7 aL aC aN aT aA b1 b2 b3 b4 b5 b6 b7 b8 aD)(b:T∈kinds):EV K (.type<|U1 d) (.type T)=some (U1 d==T||(U1 d=="bool"&&T=="int")):=t.kit _ (PU d) _ b
namespace Aa
abbrev st:Stmt:=top 23
theorem sc:zy ["sign"] ["sign"] (zF st):=Cz
include T in
theorem ok (F:yc0 K "is_sign" st f fd):zc P w K mg base CA 1 f fd ["sign"] RH:=by
 refine F.ok sc λ_ _ _ _ H g Q E d h=>?_;obtain⟨c,rfl,k⟩:=h;refine⟨_,(zE<|zL<|y8 (Gi Fd Fd zz (pv 0) zz)<|xU<|yK Bj (zJ Fu (by rfl) T.ord PyProof.Rows.boot_ord<|zA (pv 0) zB) (y7 (v:=.int 37) rfl T.PERCENT ⟨_,rfl⟩)<|zO _),?_⟩;refine⟨_,rfl,_,_,rfl,rfl,_,rfl,?_⟩;rw[Py c 32 " "<|by decide+kernel];refine UM (λh1=>?_)<|λh1=>?_
 .refine⟨_,_,rfl,rfl,_,rfl,?_⟩;rw[one_le c 126 "~"<|by decide+kernel];refine UM (λb=>?_)<|λb=>?_
  .refine⟨_,rfl,_,rfl,rfl,rfl,?_⟩;have e:UQ c=!decide (V.int (((⟨#[c]⟩:Str).cps.getD 0 0:Nat):Int)=V.int 37):=by
    unfold UQ;rw[h1,b];show decide (c≠37)=!decide (V.int (c:Int)=V.int 37);rw[eq_comm];exact Fc ⟨λh z=>h (by rw[z];rfl),λh z=>h (by injection z with z;lia)⟩
   rw[e]at k;exact k
  .have e:UQ c=false:=by
    unfold UQ;rw[h1,YH.mpr b];rfl
   rw[e]at k;exact k
 .have e:UQ c=false:=by
   unfold UQ;rw[YH.mpr h1];rfl
  rw[e]at k;exact⟨_,rfl,k⟩
end Aa
namespace Ab
abbrev st:Stmt:=top 24
theorem sc:zy ["thing"] ["thing"] (zF st):=Cz
include T in
theorem ok (F:yc0 K "is_line" st f fd)(n:wV P w K mg base 1 "is_sign" ["sign"] RH):zc P w K mg base CA 2 f fd ["thing"] (BH K):=by
 refine F.ok sc λ_ _ _ _ H u Q E q h=>?_;obtain⟨d,v,rfl,hd,s,k⟩:=h;refine⟨_,(zE<|zL<|y8 (zJ (z7 (K:=K)) (by rfl) T.isinstance ZA<|zA (pv 0)<|zA (y6 (v:=.ty "str") rfl T.str Z7 rfl) zB)<|y8 (yK Hn (zJ jU (by rfl) T.len ZZ<|zA (pv 0) zB) (y7 (v:=.int 20) rfl T.p6 ⟨_,rfl⟩)<|zO _)<|xU<|zJ (kA rfl) (by rfl) T.all Ja<|zA (xL (sc:=zF st) (N:=["thing"]) (N':=["sign"]) (src:=[none]) .a rfl rfl rfl (KZ<|pv 0) (λ_ _ _ _=>(z6 (i:=0) (show(["sign"]:Da).Nodup by decide+kernel) rfl (EU rfl))) (λ_ _ _ _=>qD) (λ_ _ _ _=>(zK n q.m<|zA (pv 0) zB))) zB),?_⟩;refine⟨_,rfl,_,_,d,_,rfl,hd,T.is<|by simp[kinds],_,rfl,?_⟩;cases d with
 |str x =>
  cases(show v=_ from hd);have y:x.length<=1000:=ZI s;refine UF ⟨_,rfl,x,rfl,zp<|by lia,_,_,rfl,rfl,_,rfl,UM (λh1=>?_)<|λh1=>?_⟩
  .have h1:x.length<=20:=by have:=ZI h1;lia
   refine⟨_,rfl,_,rfl,Be (λi j l g=>∃o,l=[o]/\g=H/\j=(((cs x).take i).map UQ).map V.bl) ⟨none,rfl,rfl,rfl⟩ (zp<|by lia) ?_ ?_ ?_⟩
   .rintro i j l g t ⟨o,rfl,rfl,rfl⟩;rw[Zk,Zk,ZS];lia
   .rintro i c j l g hc ⟨o,rfl,rfl,rfl⟩;refine⟨_,rfl,c,rfl,_,rfl,rfl,?_⟩;rw[xE<|O3 hc,Zx];rfl
   .rintro j l g ⟨o,rfl,rfl,rfl⟩ p r;refine⟨p,_,rfl,yu.of zC,?_⟩;rw[zf,ZV,all_map];have e:UZ (.str x)=(cs x).all UQ:=by
     show(decide (x.length<=20)&&(cs x).all UQ)=_;rw[Zq h1];rfl
    rw[e]at k;exact k _<|zG r
  .have e:UZ (.str x)=false:=by
    show(decide (x.length<=20)&&(cs x).all UQ)=_;rw[ZE<|λz=>h1<|Zq<|by lia];rfl
   rw[e]at k;exact k _<|zx.refl _
 |none=>exact UC<|k _<|zx.refl _
 |bool b=>exact UC<|k _<|zx.refl _
 |int i=>exact UC<|k _<|zx.refl _
 |list ds=>exact UC<|k _<|zx.refl _
 |tuple ds=>exact UC<|k _<|zx.refl _
 |dict Dm=>exact UC<|k _<|zx.refl _
end Ab
namespace Ac
abbrev st:Stmt:=top 25
theorem sc:zy ["thing"] ["thing"] (zF st):=Cz
include T in
theorem ok (F:yc0 K "is_lines" st f fd)(q:wV P w K mg base 2 "is_line" ["thing"]<|BH K):zc P w K mg base CA 3 f fd ["thing"] (BB K):=by
 refine F.ok sc λ_ _ _ _ H D Q E t h=>?_;obtain⟨d,v,rfl,hd,z,k⟩:=h;refine⟨_,(zE<|zL<|y8 (zJ (z7 (K:=K)) (by rfl) T.isinstance ZA<|zA (pv 0)<|zA (y6 (v:=.ty "tuple") rfl T.tuple YA rfl) zB)<|xU<|zJ (kA rfl) (by rfl) T.all Ja<|zA (xL (sc:=zF st) (N:=["thing"]) (N':=["line"]) (src:=[none]) .a rfl rfl rfl (vF<|pv 0) (λ_ _ _ _=>(z6 (i:=0) (show(["line"]:Da).Nodup by decide+kernel) rfl (EU rfl))) (λ_ _ _ _=>qD) (λ_ _ _ _=>(zK q t.m<|zA (pv 0) zB))) zB),?_⟩;refine⟨_,rfl,_,_,d,_,rfl,hd,T.is<|by simp[kinds],_,rfl,?_⟩;cases d with
 |tuple ds =>
  obtain⟨a,xs,rfl,l,ha⟩:=hd;obtain⟨C,sa⟩:=jJ z;have n:=ha.length;refine UF ⟨_,rfl,a,rfl,⟨_,l⟩,uN (K:=K) (a:=a) (xs:=xs) (λi g j e=>∃o,j=[o]/\zx H e/\g=((ds.take i).map UZ).map V.bl) ⟨none,rfl,zx.refl _,rfl⟩ (zp<|by lia) ?_ ?_ ?_⟩
  .rintro i g j e B ⟨o,rfl,c,rfl⟩;refine⟨c.yg l,?_⟩;rw[Zk,Zk,ZS];lia
  .rintro i x g j e u ⟨o,rfl,c,rfl⟩;obtain⟨d,hd,r⟩:=ha.get u;refine⟨_,rfl,d,x,rfl,r.same c,xO sa hd,λA s=>⟨_,rfl,c.trans s,?_⟩⟩;rw[xE hd,Zx];rfl
  .rintro g j e ⟨o,rfl,c,rfl⟩ p y;refine⟨p,_,rfl,yu.of zC,?_⟩;rw[n,ZV,all_map];exact k _<|c.trans<|zG y
 |none=>exact UC<|k _<|zx.refl _
 |bool b=>exact UC<|k _<|zx.refl _
 |int i=>exact UC<|k _<|zx.refl _
 |list ds=>exact UC<|k _<|zx.refl _
 |str x=>exact UC<|k _<|zx.refl _
 |dict Dm=>exact UC<|k _<|zx.refl _
end Ac
namespace Ae
abbrev st:Stmt:=top 26
theorem sc:zy ["thing"] ["thing"] (zF st):=Cz
include T in
theorem ok (F:yc0 K "is_label" st f fd):zc P w K mg base CA 1 f fd ["thing"] (X2 K):=by
 refine F.ok sc λ_ _ _ _ H y Q E u h=>?_;obtain⟨d,v,rfl,hd,s,k⟩:=h;refine⟨_,(zD (yG (yS<|zU (K:=K)<|zJ (z7 (K:=K)) (by rfl) T.isinstance ZA<|zA (pv 0)<|zA (y6 (v:=.ty "str") rfl T.str Z7 rfl) zB) (zE<|zL qN) zR)<|zE<|zL<|y8 (Gi Hn Hn zH (zJ jU (by rfl) T.len ZZ<|zA (pv 0) zB)<|y7 (v:=.int 8) rfl T.rm ⟨_,rfl⟩)<|xU<|zJ (kA rfl) (by rfl) T.all Ja<|zA (xL (sc:=zF st) (N:=["thing"]) (N':=["sign"]) (src:=[none]) .a rfl rfl rfl (KZ<|pv 0) (λ_ _ _ _=>(z6 (i:=0) (show(["sign"]:Da).Nodup by decide+kernel) rfl (EU rfl))) (λ_ _ _ _=>qD) (λ_ _ _ _=>(Gi Fd Fd zz (pv 0) zz))) zB),?_⟩
 refine⟨_,rfl,_,_,d,_,rfl,hd,T.is<|by simp[kinds],_,rfl,?_⟩;cases d with
 |str x =>
  cases(show v=_ from hd);have A:x.length<=1000:=ZI s;refine UC ?_;refine⟨_,rfl,x,rfl,zp<|by lia,_,_,rfl,rfl,_,rfl,UM (λg=>?_)<|λg=>?_⟩
  .refine⟨_,_,rfl,rfl,_,rfl,UM (λh1=>?_)<|λh1=>?_⟩
   .have g:1<=x.length:=by have:=ZI g;lia
    have h1:x.length<=8:=by have:=ZI h1;lia
    refine⟨_,rfl,_,rfl,Be (λi l n j=>∃o,n=[o]/\j=H/\l=(((cs x).take i).map Xb).map V.bl) ⟨none,rfl,rfl,rfl⟩ (zp<|by lia) ?_ ?_ ?_⟩
    .rintro i l n j t ⟨o,rfl,rfl,rfl⟩;rw[Zk,Zk,ZS];lia
    .rintro i c l n j hc ⟨o,rfl,rfl,rfl⟩;rw[xE<|O3 hc,Zx];refine⟨_,rfl,_,_,rfl,rfl,_,rfl,?_⟩;rw[Py c 97 "a"<|by decide+kernel];refine UM (λq=>?_)<|λq=>?_
     .refine⟨_,_,rfl,rfl,?_⟩;rw[one_le c 122 "z"<|by decide+kernel];have e:Xb c=decide (c<=122):=by unfold Xb;rw[q];rfl
      rw[e];exact⟨_,rfl,rfl,rfl⟩
     .have e:Xb c=false:=by unfold Xb;rw[YH.mpr q];rfl
      rw[e];exact⟨_,rfl,rfl,rfl⟩
    .rintro l n j ⟨o,rfl,rfl,rfl⟩ p r;refine⟨p,_,rfl,yu.of zC,?_⟩;rw[zf,ZV,all_map];have e:kW (.str x)=(cs x).all Xb:=by
      show(decide (1<=x.length)&&decide (x.length<=8)&&(cs x).all Xb)=_;rw[Zq g,Zq h1];rfl
     rw[e]at k;exact k _<|zG r
   .have e:kW (.str x)=false:=by
     show(decide (1<=x.length)&&decide (x.length<=8)&&(cs x).all Xb)=_;rw[ZE (p:=x.length<=8)<|λz=>h1<|Zq<|by lia,Jt];rfl
    rw[e]at k;exact k _<|zx.refl _
  .have e:kW (.str x)=false:=by
    show(decide (1<=x.length)&&decide (x.length<=8)&&(cs x).all Xb)=_;rw[ZE (p:=1<=x.length)<|λz=>g<|Zq<|by lia];rfl
   rw[e]at k;exact⟨_,rfl,k _<|zx.refl _⟩
 |none=>exact UF<|k _<|zx.refl _
 |bool b=>exact UF<|k _<|zx.refl _
 |int i=>exact UF<|k _<|zx.refl _
 |list ds=>exact UF<|k _<|zx.refl _
 |tuple ds=>exact UF<|k _<|zx.refl _
 |dict Dm=>exact UF<|k _<|zx.refl _
end Ae
namespace Af
abbrev st:Stmt:=top 27
theorem sc:zy ["thing"] ["thing"] (zF st):=Cz
include T in
theorem ok (F:yc0 K "is_row" st f fd)(q:wV P w K mg base 1 "is_label" ["thing"]<|X2 K):zc P w K mg base CA 2 f fd ["thing"] (Tw K):=by
 refine F.ok sc λ_ _ _ _ H A Q E r h=>?_;obtain⟨d,v,rfl,hd,s,k⟩:=h;refine⟨_,(zE<|zL<|y8 (zJ (z7 (K:=K)) (by rfl) T.isinstance ZA<|zA (pv 0)<|zA (y6 (v:=.ty "tuple") rfl T.tuple YA rfl) zB)<|y8 (yK xH (zJ zQ (by rfl) T.len ZZ<|zA (pv 0) zB) zH<|zO _)<|y8 (zK q r.m<|zA (yB (yw:Cy _<|wZ K) (pv 0) zH) zB)<|xU<|zJ (z7 (K:=K)) (by rfl) T.isinstance ZA<|zA (yB (yw:Cy _<|wZ K) (pv 0) zH)<|zA (y6 (v:=.ty "str") rfl T.str Z7 rfl) zB),?_⟩;refine⟨_,rfl,_,_,d,_,rfl,hd,T.is<|by simp[kinds],_,rfl,?_⟩;cases d with
 |tuple ds =>
  obtain⟨a,t,rfl,o,ha⟩:=hd;obtain⟨y,sa⟩:=jJ s;have p:=ha.length;refine UF ⟨_,rfl,a,_,rfl,.inr o,rfl,_,rfl,UM (λh1=>?_)<|λh1=>?_⟩
  .have h1:t.length=2:=by have:=ZI h1;injection this with z;lia
   match ds,ha,p,sa,k with
   |[l,n],⟨x0,r0,e0,d0,x1,r1,e1,d1,g⟩,_,sa,k =>
    have g:r1=[]:=g;subst g e1 e0;refine⟨_,rfl,a,_,_,_,rfl,rfl,o,rfl,l,_,rfl,d0,xO (i:=0) sa rfl,λu c=>⟨_,rfl,UM (λj=>?_)<|λj=>?_⟩⟩
    .refine⟨_,rfl,a,_,_,_,rfl,rfl,c.yg o,rfl,_,_,n,_,rfl,d1.same c,T.is<|by simp[kinds],?_⟩;have e:Xf (.tuple [l,n])=(U1 n=="str"||(U1 n=="bool"&&"str"=="int")):=by
      show(kW l&&Xd n)=_;rw[j];cases n<;>rfl
     rw[e]at k;exact k _ c
    .have e:Xf (.tuple [l,n])=false:=by
      show(kW l&&Xd n)=_;rw[YH.mpr j];rfl
     rw[e]at k;exact k _ c
   |[],_,hl,_,_=>exact absurd (hl.symm.trans h1) (by simp)
   |[_],_,hl,_,_=>exact absurd (hl.symm.trans h1) (by simp)
   |_::_::_::_,_,hl,_,_=>exact absurd (hl.symm.trans h1) (by simp)
  .have e:Xf (.tuple ds)=false:=by
    match ds,p with
    |[_,_],hl=>exact absurd (Zq (by rw[hl];rfl)) h1
    |[],_=>rfl
    |[_],_=>rfl
    |_::_::_::_,_=>rfl
   rw[e]at k;exact k _<|zx.refl _
 |none=>exact UC<|k _<|zx.refl _
 |bool b=>exact UC<|k _<|zx.refl _
 |int i=>exact UC<|k _<|zx.refl _
 |list ds=>exact UC<|k _<|zx.refl _
 |str x=>exact UC<|k _<|zx.refl _
 |dict Dm=>exact UC<|k _<|zx.refl _
end Af
namespace Ag
abbrev st:Stmt:=top 29
theorem sc:zy ["thing"] ["thing"] (zF st):=Cz
include T in
theorem ok (F:yc0 K "is_parents" st f fd):zc P w K mg base CA 1 f fd ["thing"] (mC K):=by
 refine F.ok sc λ_ _ _ _ H A Q E y h=>?_;obtain⟨a,ps,rfl,c,z,un,k⟩:=h;refine⟨_,(zD (yG (PW.pt<|v7 (yS<|zU (K:=K)<|zJ (z7 (K:=K)) (by rfl) T.isinstance ZA<|zA (pv 0)<|zA (y6 (v:=.ty "tuple") rfl T.tuple YA rfl) zB)<|vG<|yS<|zU (K:=K)<|zJ (kA rfl) (by rfl) T.all Ja<|zA (xL (sc:=zF st) (N:=["thing"]) (N':=["name"]) (src:=[none]) .a rfl rfl rfl (vF<|pv 0) (λ_ _ _ _=>(z6 (i:=0) (show(["name"]:Da).Nodup by decide+kernel) rfl (EU rfl))) (λ_ _ _ _=>qD) (λ_ _ _ _=>(zJ (z7 (K:=K)) (by rfl) T.isinstance ZA<|zA (pv 0)<|zA (y6 (v:=.ty "str") rfl T.str Z7 rfl) zB))) zB) (zE<|zL qN) zR) (zE<|zL<|y8 (yK Hn (zJ zQ (by rfl) T.len ZZ<|zA (pv 0) zB) (y7 (v:=.int 2) rfl T.pR ⟨_,rfl⟩)<|zO _)<|xU<|yK xH (zJ N1 (by rfl) T.len ZZ<|zA (z8 (Fv (K:=K) rfl) (by rfl) T.set PyProof.Rows.boot_set (zA (pv 0) zB)) zB) (zJ zQ (by rfl) T.len ZZ<|zA (pv 0) zB) (zO _))),?_⟩
 refine⟨_,rfl,_,_,.tuple<|ps.map .str,_,rfl,Dt.dw ⟨a,_,rfl,c,zu.strs _⟩,T.is<|by simp[kinds],_,rfl,UC ?_⟩;refine⟨_,rfl,a,rfl,⟨_,c⟩,uN (K:=K) (a:=a) (xs:=ps.map V.str) (λi e g d=>∃o,g=[o]/\d=H/\e=LI i (V.bl true)) ⟨none,rfl,rfl,rfl⟩ (zp (by rw[Zk];lia)) ?_ ?_ ?_⟩
 .rintro i e g d s ⟨o,rfl,rfl,rfl⟩;exact⟨c,J9 List.length_replicate⟩
 .rintro i x e g d j ⟨o,rfl,rfl,rfl⟩;rw[Zy]at j;obtain⟨p,t,rfl⟩:=Z0.mp j;refine⟨_,rfl,_,_,.str p,_,rfl,rfl,T.is<|by simp[kinds],_,rfl,rfl,?_⟩;exact(List.replicate_succ' (n:=i) (a:=V.bl true)).symm
 .rintro e g d ⟨o,rfl,rfl,rfl⟩ p r;rw[Zk,show LI ps.length (V.bl true)=(LI ps.length true).map V.bl by rw[List.map_replicate]];refine⟨p,_,rfl,yu.of zC,?_⟩;have u:=zG (o:=.lst<|(LI ps.length true).map V.bl) r;have q:(LI ps.length true).all id=true:=by rw[ZQ];intro b hb;exact List.eq_of_mem_replicate hb
  rw[q];refine⟨_,rfl,UC ⟨_,rfl,a,_,rfl,.inr<|u.yg c,_,_,rfl,rfl,_,rfl,?_⟩⟩;rw[Zk,show decide (((ps.length:Nat):Int)<=2)=true from Zq (by lia)];refine UF ⟨_,rfl,a,ps,rfl,.inr<|u.yg c,by lia,λp2 n2=>?_⟩;have l:=zG (o:=CP P w p2<|AxS.uniq ps) n2;refine⟨p2,_,rfl,zC,_,rfl,a,_,rfl,.inr<|(u.trans l).yg c,rfl,?_⟩;rw[un,Zk,Zq rfl];exact k _<|u.trans l
end Ag
namespace Ah
abbrev st:Stmt:=top 28
theorem sc:zy ["thing","labels"] ["thing"] (zF st):=Cz
include T in
theorem ok (F:yc0 K "is_rows" st f fd)(Z:wV P w K mg base 2 "is_row" ["thing"]<|Tw K):zc P w K mg base CA 3 f fd ["thing"] (nO K):=by
 refine F.ok sc λ_ _ _ _ H vs Q E U h=>?_;obtain⟨d,v,rfl,hd,sm,B,k⟩:=h;refine⟨_,(zD (yG (PW.pt<|v7 (yS<|zU (K:=K)<|zJ (z7 (K:=K)) (by rfl) T.isinstance ZA<|zA (pv 0)<|zA (y6 (v:=.ty "tuple") rfl T.tuple YA rfl) zB)<|vG<|yS<|zU (K:=K)<|zJ (kA rfl) (by rfl) T.all Ja<|zA (xL (sc:=zF st) (N:=["thing","labels"]) (N':=["row"]) (src:=[none]) .a rfl rfl rfl (vF<|pv 0) (λ_ _ _ _=>(z6 (i:=0) (show(["row"]:Da).Nodup by decide+kernel) rfl (EU rfl))) (λ_ _ _ _=>qD) (λ_ _ _ _=>(zK Z U.m<|zA (pv 0) zB))) zB) (zE<|zL qN) zR) (zD (NE (sc:=zF st) (N:=["thing","labels"]) (N':=["row"]) (src:=[none]) .a rfl rfl rfl (vF<|pv 0) (λ_ _ _ _=>(z6 (i:=0) (show(["row"]:Da).Nodup by decide+kernel) rfl (EU rfl))) (λ_ _ _ _=>qD) (λ_ _ _ _=>(yB (yw:Cy _<|wZ K) (pv 0) zH)) sc.nd rfl (EU rfl) (k:=1)) (zE<|zL<|yK (vK U.units) (pv 1) (zJ (BZ rfl) (by rfl) T.sorted YX<|zA (z8 (Fv (K:=K) rfl) (by rfl) T.set PyProof.Rows.boot_set (zA (pv 1) zB)) zB) (zO _)))),?_⟩
 refine⟨_,rfl,_,_,d,_,rfl,hd,T.is<|by simp[kinds],_,rfl,?_⟩;cases d with
 |tuple ds =>
  have B:=B ds rfl;obtain⟨a,xs,rfl,I,ha⟩:=hd;obtain⟨sl,sa⟩:=jJ sm;have R:=ha.length;refine UC ⟨_,rfl,a,rfl,⟨_,I⟩,uN (K:=K) (a:=a) (xs:=xs) (λi g n c=>∃o,n=[o]/\zx H c/\g=((ds.take i).map Xf).map V.bl) ⟨none,rfl,zx.refl _,rfl⟩ (zp<|by lia) ?_ ?_ ?_⟩
  .rintro i g n c hi ⟨o,rfl,A,rfl⟩;refine⟨A.yg I,?_⟩;rw[Zk,Zk,ZS];lia
  .rintro i x g n c r ⟨o,rfl,A,rfl⟩;obtain⟨d,hd,J⟩:=ha.get r;refine⟨_,rfl,d,x,rfl,J.same A,xO sa hd,λH3 e3=>⟨_,rfl,A.trans e3,?_⟩⟩;rw[xE hd,Zx];rfl
  .rintro g n c ⟨o,rfl,A,rfl⟩ p np;refine⟨p,_,rfl,yu.of zC,?_⟩;rw[R,ZV,all_map];have u:=A.trans<|zG (o:=.lst<|(ds.map Xf).map V.bl) np;cases q:ds.all Xf with
   |false =>
    have e:Bu (.tuple ds)=false:=by show(ds.all Xf&&_)=false;rw[q];rfl
    rw[e]at k;exact⟨_,rfl,UF<|k _ u⟩
   |true =>
    refine⟨_,rfl,UC ?_⟩;show RO _ _ _ _ (upd c p<|.lst<|(ds.map Xf).map V.bl);generalize upd c p (.lst<|(ds.map Xf).map V.bl)=G at u;have C:=xq.same u _ _ ha;refine⟨_,rfl,a,rfl,⟨_,u.yg I⟩,uN (K:=K) (a:=a) (xs:=xs) (λi g n c=>∃o,n=[o]/\c=G/\g=((ds.take i).map Xa).map V.str) ⟨none,rfl,rfl,rfl⟩ (zp<|by lia) ?_ ?_ ?_⟩
    .rintro i g n c hi ⟨o,rfl,rfl,rfl⟩;refine⟨u.yg I,?_⟩;rw[Zk,Zk,ZS];lia
    .rintro i x g n c r ⟨o,rfl,rfl,rfl⟩;obtain⟨d,hd,J⟩:=C.get r;obtain⟨t,y,rfl,ht,_⟩:=NJ J<|ZQ.mp q d<|ZG hd;refine⟨_,rfl,t,_,_,_,rfl,rfl,ht,rfl,_,rfl,rfl,?_⟩;have e1:ds.take (i+1)=ds.take i++[d]:=by rw[Yi,hd];rfl
     rw[e1,Zx,Zx];rfl
    .rintro g n c ⟨o,rfl,rfl,rfl⟩ l nl;rw[R,ZV];have v1:=zG (o:=.lst<|(ds.map Xa).map V.str) nl;have ul:=AxS.rF _ (ds.map Xa) rfl;rw[Zk]at ul;refine⟨_,rfl,_,rfl,l,ds.map Xa,rfl,.inl<|yu.of zC,by rw[Zk];lia,λp2 n2=>?_⟩;have Y:=v1.trans<|zG (o:=CP P w p2<|AxS.uniq<|ds.map Xa) n2;refine⟨p2,_,rfl,zC,by lia,λl3 s n3 S M=>?_⟩;have v3:=Y.trans<|zG (o:=.lst<|s.map V.str) n3;have D:∀x∈ds.map Xa,Ew x=true:=λx r=>by
      obtain⟨d,hd,rfl⟩:=Zr.mp r;obtain⟨j,hj⟩:=List.getElem?_of_mem hd;obtain⟨z,hz,dz⟩:=C.at hj;obtain⟨_,_,_,_,hl⟩:=NJ dz<|ZQ.mp q d hd;exact G8 hl
     have O:∀x∈s,Ew x=true:=λx r=>D x<|RQ<|S.mem_iff.mp r;have ab:=(Y.trans<|zG (o:=.lst<|s.map V.str) n3);have L:=(((zG (o:=CP P w p2<|AxS.uniq<|ds.map Xa) n2).trans<|zG (o:=.lst<|s.map V.str) n3)) _ _<|zC (H:=c) (a:=l) (o:=.lst<|(ds.map Xa).map V.str);refine⟨.list<|(ds.map Xa).map .str,.list<|s.map .str,⟨l,_,rfl,yu.of L,zu.strs _⟩,⟨l3,_,rfl,yu.of zC,zu.strs _⟩,(yO D).1,(yO O).1,?_⟩;have ev:EM (.list<|(ds.map Xa).map .str) (.list<|s.map .str)=decide (ds.map Xa=s):=qF _ _;rw[ev,MP S M];have e:Bu (.tuple ds)=Xh (ds.map Xa):=by show(ds.all Xf&&_)=_;rw[q];rfl
     rw[e]at k;exact k _<|u.trans v3
 |none=>exact UF<|k _<|zx.refl _
 |bool b=>exact UF<|k _<|zx.refl _
 |int i=>exact UF<|k _<|zx.refl _
 |list ds=>exact UF<|k _<|zx.refl _
 |str x=>exact UF<|k _<|zx.refl _
 |dict Dm=>exact UF<|k _<|zx.refl _
end Ah
namespace Ai
abbrev st:Stmt:=top 30
theorem sc:zy ["word","parts"] ["word","parts"] (zF st):=Cz
include T in
theorem ok (F:yc0 K "is_leaf" st f fd)(l:wV P w K mg base 3 "is_lines" ["thing"]<|BB K):zc P w K mg base CA 4 f fd ["word","parts"] (rT K U5):=by
 refine F.ok sc λ_ _ _ _ H y Q E r h=>?_;obtain⟨word,a,b,u,rfl,g,ha,sa,n,q,k⟩:=h;refine⟨_,(zE<|zL<|y8 (yK xH (pv 0) zz<|zO _)<|y8 (yK xH (zJ zQ (by rfl) T.len ZZ<|zA (pv 1) zB) zH<|zO _)<|xU<|zK l r.m<|zA (yB (yw:Cy _<|wZ K) (pv 1) zH) zB),?_⟩;have i:=ha.length;refine⟨_,rfl,rfl,_,rfl,UM (λh1=>?_)<|λh1=>?_⟩
 .have h1:V.str word=V.str "leaf":=ZI h1;have h1:word="leaf":=by injection h1
  refine⟨_,rfl,a,_,rfl,.inr g,rfl,_,rfl,UM (λd=>?_)<|λd=>?_⟩
  .have d:u.length=1:=by have:=ZI d;injection this with z;lia
   have c:b[0]?=some (NW b 0):=by
    have:b[0]?=some (b[0]'(by lia)):=Zv _;unfold NW;rw[this];rfl
   obtain⟨x,s,o⟩:=ha.at c;refine⟨_,rfl,a,_,_,_,rfl,rfl,g,yA (j:=0) s,NW b 0,_,rfl,o,xO sa c,λv t=>?_⟩;have e:U5 word b=jE (NW b 0):=by
    unfold U5;rw[Zq h1,Zq<|show b.length=1 by lia];rfl
   rw[e]at k;exact k _ t
  .have e:U5 word b=false:=by
    unfold U5;rw[ZE (p:=b.length=1)<|λz=>d<|Zq (by rw[i,z];rfl),Vz,Jt]
   rw[e]at k;exact k _<|zx.refl _
 .have e:U5 word b=false:=by
   unfold U5;rw[ZE (p:=word="leaf")<|λz=>h1<|Zq<|by rw[z],Vz]
  rw[e]at k;exact k _<|zx.refl _
end Ai
namespace Aj
abbrev st:Stmt:=top 31
theorem sc:zy ["word","parts"] ["word","parts"] (zF st):=Cz
include T in
theorem ok (F:yc0 K "is_tree" st f fd)(n:wV P w K mg base 3 "is_rows" ["thing"]<|nO K):zc P w K mg base CA 4 f fd ["word","parts"] (rT K U9):=by
 refine F.ok sc λ_ _ _ _ H A Q E s h=>?_;obtain⟨word,a,b,v,rfl,i,ha,sa,o,g,k⟩:=h;refine⟨_,(zE<|zL<|y8 (yK xH (pv 0) zz<|zO _)<|y8 (yK xH (zJ zQ (by rfl) T.len ZZ<|zA (pv 1) zB) zH<|zO _)<|xU<|zK n s.m<|zA (yB (yw:Cy _<|wZ K) (pv 1) zH) zB),?_⟩;have l:=ha.length;refine⟨_,rfl,rfl,_,rfl,UM (λh1=>?_)<|λh1=>?_⟩
 .have h1:V.str word=V.str "tree":=ZI h1;have h1:word="tree":=by injection h1
  refine⟨_,rfl,a,_,rfl,.inr i,rfl,_,rfl,UM (λd=>?_)<|λd=>?_⟩
  .have d:v.length=1:=by have:=ZI d;injection this with z;lia
   have c:b[0]?=some (NW b 0):=by
    have:b[0]?=some (b[0]'(by lia)):=Zv _;unfold NW;rw[this];rfl
   obtain⟨x,t,q⟩:=ha.at c;refine⟨_,rfl,a,_,_,_,rfl,rfl,i,yA (j:=0) t,NW b 0,_,rfl,q,xO sa c,λr he=>g _ (ZG c) r he,λy u=>?_⟩;have e:U9 word b=Bu (NW b 0):=by
    unfold U9;rw[Zq h1,Zq<|show b.length=1 by lia];rfl
   rw[e]at k;exact k _ u
  .have e:U9 word b=false:=by
    unfold U9;rw[ZE (p:=b.length=1)<|λz=>d<|Zq (by rw[l,z];rfl),Vz,Jt]
   rw[e]at k;exact k _<|zx.refl _
 .have e:U9 word b=false:=by
   unfold U9;rw[ZE (p:=word="tree")<|λz=>h1<|Zq<|by rw[z],Vz]
  rw[e]at k;exact k _<|zx.refl _
end Aj
namespace Ak
abbrev st:Stmt:=top 32
theorem sc:zy ["word","parts"] ["word","parts"] (zF st):=Cz
include T in
theorem ok (F:yc0 K "is_note" st f fd)(g:wV P w K mg base 1 "is_parents" ["thing"]<|mC K)(i:wV P w K mg base 2 "is_line" ["thing"]<|BH K):zc P w K mg base CA 3 f fd ["word","parts"] (p8 K):=by
 refine F.ok sc λ_ _ _ _ H r Q E d h=>?_;obtain⟨a,b,x,ps,y,rfl,c,hb,l,un,ly,k⟩:=h;refine⟨_,(zD (yG (PW.pt<|v7 (zP Bj (pv 0) zz<|zO _)<|vG<|zP Bj (zJ zQ (by rfl) T.len ZZ<|zA (pv 1) zB) zH<|zO _) (zE<|zL qN) zR)<|zE<|zL<|y8 (zJ (z7 (K:=K)) (by rfl) T.isinstance ZA<|zA (yB (yw:Cy _<|wZ K) (pv 1) zH)<|zA (y6 (v:=.ty "str") rfl T.str Z7 rfl) zB)<|y8 (zK g d.m<|zA (yB (yw:Cy _<|wZ K) (pv 1) zH) zB)<|xU<|zK i d.m<|zA (yB (yw:Cy _<|wZ K) (pv 1) zH) zB),?_⟩
 refine⟨_,rfl,rfl,_,rfl,To rfl ?_⟩;refine⟨_,rfl,a,_,rfl,.inr c,rfl,_,rfl,To rfl ?_⟩;refine⟨_,rfl,a,_,_,_,rfl,rfl,c,yA (j:=0) rfl,_,_,.str x,_,rfl,rfl,T.is<|by simp[kinds],_,rfl,UF ?_⟩;refine⟨_,rfl,a,_,_,_,rfl,rfl,c,yA (j:=1) rfl,b,ps,rfl,hb,l,un,λp e=>⟨_,rfl,UF ?_⟩⟩;have n:y.length<=1000:=by
  have z:(decide (y.length<=20)&&(cs y).all UQ)=true:=ly;rw[Zw]at z;have:=ZI z.1;lia
 refine⟨_,rfl,a,_,_,_,rfl,rfl,e.yg c,yA (j:=2) rfl,.str y,_,rfl,rfl,Zq n,λq o=>?_⟩;rw[show UZ (.str y)=true from ly];exact k _<|e.trans o
end Ak
namespace Al
abbrev st:Stmt:=top 33
theorem sc:zy ["thing","word","parts"] ["thing"] (zF st):=Cz
include T in
theorem ok (F:yc0 K "is_thing" st f fd)(Z:wV P w K mg base 4 "is_leaf" ["word","parts"]<|rT K U5)(QN:wV P w K mg base 4 "is_tree" ["word","parts"]<|rT K U9)(QO:wV P w K mg base 3 "is_note" ["word","parts"]<|p8 K) :
  zc P w K mg base CA 5 f fd ["thing"] (rE K):=by
 refine F.ok sc λ_ _ _ _ H vs Q E L h=>?_;obtain⟨t,v,rfl,hd,⟨_,tb,U,A⟩,k⟩:=h;refine⟨_,(zD (yG (PW.pt<|v7 (yS<|zU (K:=K)<|zJ (z7 (K:=K)) (by rfl) T.isinstance ZA<|zA (pv 0)<|zA (y6 (v:=.ty "tuple") rfl T.tuple YA rfl) zB)<|v7 (zP xH (zJ zQ (by rfl) T.len ZZ<|zA (pv 0) zB) zH<|zO _)<|vG<|yS<|zU (K:=K)<|zJ (z7 (K:=K)) (by rfl) T.isinstance ZA<|zA (yB (yw:Cy _<|wZ K) (pv 0) zH)<|zA (y6 (v:=.ty "str") rfl T.str Z7 rfl) zB) (zE<|zL qN) zR)<|zD (Cv (i:=1) sc.nd<|yB (yw:Cy _<|wZ K) (pv 0) zH)<|zD (Cv (i:=2) sc.nd<|uH (lO:W2 _<|Ts K) (pv 0) (v5 zH) vZ)<|zE<|zL<|Tq (zK Z L.m<|zA (pv 1)<|zA (pv 2) zB)<|Tq (zK QN L.m<|zA (pv 1)<|zA (pv 2) zB)<|xU<|zK QO L.m<|zA (pv 1)<|zA (pv 2) zB),?_⟩
 have M:=Dt.dw hd;obtain⟨a,r0,rfl,ab⟩:=uM hd;have n:∃c,t.dat=.tuple (.str t.word::c):=by cases t<;>exact⟨_,rfl⟩
 obtain⟨c,R⟩:=n;rw[R]at U A M tb;obtain⟨n1,n2⟩:=A _ rfl;obtain⟨a',xs,e,D,ha⟩:=id M;cases e;obtain⟨sl,sa⟩:=jJ U;obtain⟨x0,r,rfl,p,g⟩:=ha;refine⟨_,rfl,_,_,_,_,rfl,M,T.is<|by simp[kinds],_,rfl,UC ?_⟩;refine⟨_,rfl,a,_,rfl,.inr D,rfl,_,rfl,GB (λz=>by injection z with z;simp at z;lia) ?_⟩;refine⟨_,rfl,a,_,_,_,rfl,rfl,D,yA (j:=0) rfl,_,_,.str t.word,_,rfl,p,T.is<|by simp[kinds],_,rfl,UC ?_⟩;cases(show x0=_ from p);refine⟨_,rfl,a,_,_,_,rfl,rfl,D,yA (j:=0) rfl,?_⟩;refine⟨_,rfl,_,rfl,a,_,_,rfl,rfl,D,λq nq=>?_⟩;rw[O4<|by decide];have G:=zG (o:=.tup r) nq;have C:=wY.of (K:=K)<|zC (H:=H) (a:=q) (o:=.tup r);show Xc 2 (.ref q) _ (upd H q<|.tup r) _;generalize upd H q (.tup r)=H1 at G C ⊢;have B:yL c=true:=by
  have sa:(small (.str t.word)&&yL c)=true:=sa;rw[Zw]at sa;exact sa.2
 have s:c.length<=63:=by have:=n1;simp at this;lia
 have u:∀e∈c,∀O,e=.tuple O->O.length<=63:=λe he=>n2 e<|Zn _ he;refine⟨_,rfl,_,rfl,t.word,q,c,r,rfl,C,xq.same G _ _ g,B,s,u,λH2 I=>⟨_,rfl,?_⟩⟩;have tb:(U5 t.word c||(U9 t.word c||PZ t.word c))=true:=tb;cases q0:U5 t.word c with
 |true=>exact UF<|k _<|G.trans I
 |false =>
  rw[q0,Um]at tb;have d:=G.trans I;refine UC ⟨_,rfl,_,rfl,t.word,q,c,r,rfl,I.yg C,xq.same d _ _ g,B,s,u,λH3 J=>⟨_,rfl,?_⟩⟩;cases q1:U9 t.word c with
  |true=>exact UF<|k _<|d.trans J
  |false =>
   rw[q1,Um]at tb;unfold PZ at tb;simp only[Zw,Yc]at tb;obtain⟨Y,_,_,l,ld⟩:=tb;cases t with
   |leaf ls=>exact absurd Y (by show("leaf":Str)≠"note";decide+kernel)
   |tree rs=>exact absurd Y (by show("tree":Str)≠"note";decide+kernel)
   |note x ps y =>
    have ed:[EQ x,.tuple<|ps.map .str,.str y]=c:=by injection R with z;injection z
    subst ed;obtain⟨v1,r1,rfl,h1,v2,r2,rfl,⟨b,ys,rfl,hb,hy⟩,v3,r3,rfl,h3,e⟩:=g;cases(show v1=_ from h1);cases(show v3=_ from h3);cases(show r3=[] from e);have l:((ps.map EQ).all Xd&&(decide ((ps.map EQ).length<=2)&&decide ((AxS.uniq<|(ps.map EQ).map OI).length=(ps.map EQ).length)))=true:=l;have N:(ps.map EQ).map OI=ps:=by rw[ZM];exact Vu _
    rw[N,Zk]at l;simp only[Zw,Yc]at l;have S:=Kd hy (by rw[List.all_map,ZQ];exact λ_ _=>rfl);rw[N]at S;subst S;exact UC ⟨_,rfl,_,rfl,q,b,x,ps,y,rfl,(I.trans J).yg C,(d.trans J).yg hb,l.2.1,l.2.2,ld,λH4 s4=>k _<|(d.trans J).trans s4⟩
end Al
namespace Am
abbrev st:Stmt:=top 34
theorem sc:zy ["thing"] ["thing"] (zF st):=Cz
include T in
theorem ok (F:yc0 K "need_thing" st f fd)(b:wV P w K mg base 5 "is_thing" ["thing"]<|rE K):zc P w K mg base (CI P w) 6 f fd ["thing"] (nZ K aT):=by
 refine F.sU sc λ_ _ _ _ H i Q E c h=>?_;obtain⟨t,v,rfl,hd,g,k⟩:=h;refine⟨_,(zD (yG (yS<|zU (K:=K)<|zK b c.m<|zA (pv 0) zB) (zE<|xT rfl xD rfl T.nH T.mF<|zA zz zB) zR)<|zE<|zL<|pv 0),?_⟩
 exact⟨_,rfl,t,v,rfl,hd,g,λe d=>⟨_,rfl,UC ⟨_,rfl,k _ d⟩⟩⟩
end Am
namespace Ao
abbrev st:Stmt:=top 35
theorem sc:zy ["thing"] ["thing"] (zF st):=Cz
include T in
theorem ok (F:yc0 K "letter_of" st f fd):zc P w K mg base CA 1 f fd ["thing"] (IE K):=by
 refine F.ok sc λ_ _ _ _ H d Q E c h=>?_;obtain⟨v,t,rfl,hd,k⟩:=h;refine⟨_,(zE<|zL<|SF (y7 (v:=.ref aL) rfl T.LETTERS rfl) (yB (yw:Cy _<|wZ K) (pv 0) zH)<|λ_ _=>rfl),?_⟩;obtain⟨a,r,rfl,b⟩:=uM hd;exact⟨_,rfl,a,_,_,_,rfl,rfl,b,Fs _ _,_,_,ED t.word,_,rfl,rfl,T.kd,KM t,k⟩
end Ao
namespace Ap
abbrev st:Stmt:=top 36
theorem sc:zy ["rows","parts","label","name"] ["rows"] (zF st):=Cz
theorem wF:∀rs:Dg,(yH rs).length=2*rs.length
 |[]=>rfl
 |r::rs=>by
  show(yH rs).length+2=2*(rs.length+1);rw[wF rs];lia
include T in
theorem ok (F:yc0 K "tree_parts" st f fd):zc P w K mg base CA 1 f fd ["rows"] (XV K):=by
 refine F.ok sc λ_ _ _ _ H C Q E B h=>?_;obtain⟨v,c,rfl,hd,hl,k⟩:=h;obtain⟨a,xs,rfl,q,s⟩:=hd;have o:xs.length=c.length:=by rw[s.length,Zk]
 refine⟨_,(zD (Cv (i:=1) sc.nd<|yT zB)<|zD (qS Lb rfl (vF<|pv 0) (Xq rfl<|y9 (z6 (i:=2) sc.nd rfl<|EU rfl)<|y9 (z6 (i:=3) sc.nd rfl<|EU rfl) kO)<|zD (yC<|k6 Y1 YY YZ jB (pv 1)<|zA (pv 2) zB)<|zE<|yC<|k6 Y1 YY YZ jB (pv 1)<|zA (pv 3) zB)<|zE<|zL<|pv 1),?_⟩
 refine⟨Yb _,λl j=>?_⟩;refine⟨_,rfl,a,rfl,⟨_,(zG j).yg q⟩,X8 (K:=K) (a:=a) (xs:=xs) (λi n g=>∃(x y:Option V),n=[some<|.ref a,some<|.ref l,x,y]/\g=upd H l (.lst<|(yH<|c.take i).map V.str)) ⟨none,none,rfl,rfl⟩ (λi n g _ ⟨_,_,_,e⟩=>by rw[e];exact(zG j).yg q) ?_ ?_⟩
 .rintro i x n g t ⟨z,A,rfl,rfl⟩;obtain⟨r,b,p,rfl,hb⟩:=HN s t;have u:i<c.length:=(ZJ.mp p).1;have d:((yH<|c.take i).map V.str).length<=2000:=by
   rw[Zk,wF,ZS];lia
  refine⟨b,_,rfl,(zG j).yg hb,rfl,_,_,rfl,_,_,rfl,rfl,?_⟩;refine⟨_,rfl,.inl ⟨rfl,_,yu.of zC⟩,_,rfl,l,_,_,rfl,rfl,zC,Vq d (by rw[YK];decide),?_⟩;refine⟨_,rfl,.inl ⟨rfl,_,yu.of zC⟩,_,rfl,l,_,_,rfl,rfl,zC,?_,?_⟩
  .rw[ZB,Y8];exact Vq (Jp d) (by rw[YK];decide)
  .refine⟨_,_,rfl,?_⟩;rw[NS,NS]
   congr 2
   rw[Yi,p];show _=(yH<|c.take i++[r]).map V.str;rw[j3,Zx];show _=(yH<|c.take i).map V.str++[V.str r.1,V.str r.2];rw[YC];rfl
 .rintro n g ⟨z,A,rfl,rfl⟩;refine⟨_,rfl,?_⟩;rw[o,ZV];exact k l j
end Ap
theorem FR {c A B:Prop} [Decidable c](hc:c)(h:A):if decide c=true then A else B:=by
 rw[Zq hc];exact UF h
theorem GB {c A B:Prop} [Decidable c](hc:¬c)(h:B):if decide c=true then A else B:=by
 rw[ZE hc];exact UC h
theorem BJ {n:Nat}(h:n<=100000):(dig n).length<=10:=JD (by lia) (by decide) (by
 have:(10:Int) ^ 10=10000000000:=by decide
 rw[this];lia)
theorem G4 {n:Nat}(h:n<=1900):((n:Int)).natAbs.log2<1920:=by
 rw[Ud];exact Vq (Nat.log2_le_self n) (by lia)
theorem Oe {rs:Dg}(g:(Th.tree rs).Good):rs.length<=1000:=by
 have h:=g.1;have e:(yH rs).length<=1000:=h;rw[Ap.wF]at e;lia
theorem Od {x:Str}{ps:Da}{w:Str}(g:(Th.note x ps w).Good):ps.length<=1000:=by
 have h:=g.1;have e:([x,dig ps.length]++ps++[w]).length<=1000:=h;simp at e;lia
namespace Aq
abbrev st:Stmt:=top 37
theorem sc:zy ["thing","parents"] ["thing"] (zF st):=Cz
include T in
theorem ok (F:yc0 K "parts_of" st f fd)(C:wV P w K mg base 1 "tree_parts" ["rows"]<|XV K):zc P w K mg base CA 2 f fd ["thing"] (NM K):=by
 refine F.ok sc λ_ _ _ _ H L Q E D h=>?_;obtain⟨v,t,rfl,hd,g,k⟩:=h;refine⟨_,(zD (yG (zP xH (yB (yw:Cy _<|wZ K) (pv 0) zH) zz<|zO _) (zE<|zL<|z8 xP (by rfl) T.list Yw<|zA (yB (yw:Cy _<|wZ K) (pv 0) zH) zB) zR)<|zD (yG (zP xH (yB (yw:Cy _<|wZ K) (pv 0) zH) zz<|zO _) (zE<|zL<|zK C D.m<|zA (yB (yw:Cy _<|wZ K) (pv 0) zH) zB) zR)<|zD (Cv (i:=1) sc.nd<|yB (yw:Cy _<|wZ K) (pv 0) zH)<|zE<|zL<|zV XB (zV XB (yT<|zA (yB (yw:Cy _<|wZ K) (pv 0) zH)<|zA (z8 x6 (by rfl) T.str Z7<|zA (zJ zQ (by rfl) T.len ZZ<|zA (pv 1) zB) zB) zB)<|z8 xP (by rfl) T.list Yw<|zA (pv 1) zB)<|yT<|zA (yB (yw:Cy _<|wZ K) (pv 0) zH) zB),?_⟩
 cases t with
 |leaf ls =>
  obtain⟨a,b,rfl,c,hb⟩:=DE hd;refine⟨_,rfl,a,_,_,_,rfl,rfl,c,rfl,rfl,_,rfl,FR rfl ?_⟩;exact⟨_,rfl,a,_,_,_,rfl,rfl,c,rfl,b,_,rfl,.inr hb,λl d=>k l _ (zG d) d zC⟩
 |tree rs =>
  obtain⟨a,b,rfl,c,hb⟩:=BQ hd;refine⟨_,rfl,a,_,_,_,rfl,rfl,c,rfl,rfl,_,rfl,GB (by decide+kernel) ?_⟩;refine⟨_,rfl,a,_,_,_,rfl,rfl,c,rfl,rfl,_,rfl,FR rfl ?_⟩;exact⟨_,rfl,a,_,_,_,rfl,rfl,c,rfl,_,rs,rfl,hb,Oe g,λl d=>k l _ (zG d) d zC⟩
 |note x ps y =>
  obtain⟨a,b,rfl,c,hb⟩:=uZ hd;have J:=Od g;refine⟨_,rfl,a,_,_,_,rfl,rfl,c,rfl,rfl,_,rfl,GB (by decide+kernel) ?_⟩;refine⟨_,rfl,a,_,_,_,rfl,rfl,c,rfl,rfl,_,rfl,GB (by decide+kernel) ?_⟩;refine⟨_,rfl,a,_,_,_,rfl,rfl,c,rfl,?_⟩;refine⟨_,rfl,a,_,_,_,rfl,rfl,c,rfl,_,rfl,b,_,rfl,.inr hb,_,rfl,?_,UD 2,λn n1=>?_⟩
  .rw[Zk];exact G4 (by lia)
  have z:=zG (o:=.lst [V.str x,V.str<|EZ<|E7 (((ps.map V.str).length:Nat):Int)]) n1;refine⟨_,rfl,b,_,rfl,.inr<|z.yg hb,λp n2=>?_⟩;have I:=z.trans<|zG (o:=.lst<|ps.map V.str) n2;have e:n≠p:=zS zC n2;refine⟨n,p,_,_,rfl,rfl,(by rw[zI e];exact zC),zC,(by rw[Zk];exact zp (by simp only[ZF,Y7];lia)),λq n3=>?_⟩;have A:=I.trans<|zG (o:=.lst<|[V.str x,V.str<|EZ<|E7 (((ps.map V.str).length:Nat):Int)]++ps.map V.str) n3;refine⟨_,rfl,a,_,_,_,rfl,rfl,A.yg c,rfl,UD 1,λr s=>?_⟩;have B:=A.trans<|zG (o:=.lst [V.str y]) s;have j:q≠r:=zS zC s;refine⟨q,r,_,_,rfl,rfl,(by rw[zI j];exact zC),zC,?_,λG u=>?_⟩
  .rw[ZB,Zk];exact zp (by simp only[ZF,Y7];lia)
  .refine k G _ (B.trans<|zG u) (B.free u) ?_;rw[zC]
   congr 2
   show _=([x,dig ps.length]++ps++[y]).map V.str;rw[Zx,Zx];show([V.str x,V.str<|EZ<|E7 (((ps.map V.str).length:Nat):Int)]++ps.map V.str)++[V.str y]=_;rw[Zk];rfl
end Aq
namespace Ar
abbrev st:Stmt:=top 38
theorem sc:zy ["part"] ["part"] (zF st):=Cz
include T in
theorem ok (F:yc0 K "counted" st f fd):zc P w K mg base CA 1 f fd ["part"] Bw:=by
 refine F.ok sc λ_ _ _ _ H g Q E e h=>?_;obtain⟨x,rfl,hl,k⟩:=h;refine⟨_,(zE<|zL<|zV zZ (zV zZ (z8 x6 (by rfl) T.str Z7<|zA (zJ jU (by rfl) T.len ZZ<|zA (pv 0) zB) zB) zz)<|pv 0),?_⟩;have d:=BJ (n:=x.length) (by lia);have c:(""++":":String).length=1:=by decide
 have b:(":":Str).length=1:=by decide+kernel
 refine⟨_,rfl,x,rfl,zp<|by lia,_,rfl,G4<|by lia,_,_,rfl,rfl,zp (by rw[b];exact Yk (Nat.add_le_add_right d 1)<|by decide),_,rfl,_,_,rfl,rfl,zp ?_,k⟩;show(dig x.length++":").length+x.length<=_;rw[yr,b];lia
end Ar
namespace As
abbrev st:Stmt:=top 39
theorem sc:zy ["thing"] ["thing"] (zF st):=Cz
theorem FW {x:Str}(h:x.length<=1000):(counted x).length<=1011:=by
 have d:=BJ (n:=x.length) (by lia);have b:(":":Str).length=1:=by decide+kernel
 show(dig x.length++":"++x).length<=_;rw[yr,yr,b];lia
include T in
theorem ok (F:yc0 K "spelled" st f fd)(A:wV P w K mg base 1 "letter_of" ["thing"]<|IE K)(s:wV P w K mg base 2 "parts_of" ["thing"]<|NM K)
  (u:wV P w K mg base 1 "counted" ["part"] Bw):zc P w K mg base CA 3 f fd ["thing"] (Bo K):=by
 refine F.ok sc λ_ _ _ _ H U Q E n h=>?_;obtain⟨v,t,rfl,hd,g,k⟩:=h;refine⟨_,(zE<|zL<|zV zZ (zK A n.m<|zA (pv 0) zB)<|k6 YF JY JZ X4 zz<|zA (xL (sc:=zF st) (N:=["thing"]) (N':=["part"]) (src:=[none]) .a rfl rfl rfl (jL<|zK s n.m<|zA (pv 0) zB) (λ_ _ _ _=>(z6 (i:=0) (show(["part"]:Da).Nodup by decide+kernel) rfl (EU rfl))) (λ_ _ _ _=>qD) (λ_ _ _ _=>(zK u n.m<|zA (pv 0) zB))) zB),?_⟩;refine⟨_,rfl,v,t,rfl,hd,rfl,_,rfl,v,t,rfl,hd,g,λl r L S hl=>?_⟩;have O:(t.parts.map V.str).length<=1000:=by rw[Zk];exact g.1
 refine⟨l,rfl,⟨_,yu.of hl⟩,jG (K:=K) (a:=l) (xs:=t.parts.map V.str) (λi d j c=>∃x,j=[x]/\c=r/\d=((t.parts.take i).map counted).map V.str) ⟨none,rfl,rfl,rfl⟩ (zp<|by lia) (λi d j c b ⟨x,_,e,C⟩=>⟨by rw[e];exact yu.of hl,?_⟩) ?_ ?_⟩
 .rw[C,Zk,Zk,ZS];exact Nat.min_le_left _ _
 .rintro i x d j c b ⟨M,rfl,rfl,rfl⟩;rw[Zy]at b;cases q:t.parts[i]? with
  |none=>rw[q]at b;cases b
  |some p =>
   rw[q]at b;have b:V.str p=x:=Option.some.inj b;subst b;have D:=g.2 p<|ZG q;refine⟨_,rfl,p,rfl,D.len,_,rfl,rfl,?_⟩;rw[Yi,q,Zx,Zx];rfl
 .rintro d j c ⟨M,rfl,rfl,rfl⟩ p J;have e:(t.parts.take (t.parts.map V.str).length)=t.parts:=by rw[Zk,ZV]
  rw[e];have b1:∀y∈t.parts.map counted,y.length<=1011:=λy G=>by
   obtain⟨z,I,rfl⟩:=Zr.mp G;exact FW (g.2 z I).len
  have b2:=MT _ b1;have b3:(t.parts.map counted).length<=1000:=by rw[Zk];exact g.1
  have b4:(t.parts.map counted).length*1011<=1011000:=Nat.mul_le_mul_right 1011 b3;have o:("":Str).length=0:=by decide+kernel
  have R:t.letter.length=1:=by rw[zf,k8];rfl
  refine⟨_,p,t.parts.map counted,rfl,rfl,.inl<|yu.of zC,by rw[o];lia,_,_,rfl,rfl,?_,?_⟩
  .have:=StrLaws.join_length_le ""<|t.parts.map counted;have B:Lu "" (t.parts.map counted)=MI "" (t.parts.map counted):=Lm _ _;rw[B];rw[o]at this;exact zp (by lia)
  .rw[ba];exact k _<|L.trans<|zG J
end As
namespace Au
abbrev st:Stmt:=top 40
theorem sc:zy ["thing","number","sign"] ["thing"] (zF st):=Cz
include T in
theorem ok (F:yc0 K "digest" st f fd)(l:wV P w K mg base 3 "spelled" ["thing"]<|Bo K):zc P w K mg base CA 4 f fd ["thing"] (HW K):=by
 refine F.ok sc λ_ _ _ _ H p Q E n h=>?_;obtain⟨v,t,rfl,hd,g,k⟩:=h;refine⟨_,(zD (Cv (i:=1) sc.nd zH)<|zD (qS Lb rfl (KZ<|zK l n.m<|zA (pv 0) zB) (z6 (i:=2) sc.nd rfl<|EU rfl)<|zE<|Cv (i:=1) sc.nd<|zV yN (zV qX (zV XG (y7 (v:=.int 31) rfl T.rB ⟨_,rfl⟩)<|pv 1)<|zJ Fu (by rfl) T.ord PyProof.Rows.boot_ord<|zA (pv 2) zB)<|y7 (v:=.int 97) rfl T.pY ⟨_,rfl⟩)<|zE<|zL<|pv 1),?_⟩
 refine⟨_,rfl,v,t,rfl,hd,g,λj o=>⟨_,rfl,R9 (λi e b=>∃x,e=[some v,some<|.int<|((cs t.sp).take i).foldl CB 0,x]/\b=j) ⟨none,rfl,rfl⟩ ?_ ?_⟩⟩
 .rintro i c e b hc ⟨x,rfl,rfl⟩;refine⟨_,rfl,_,_,rfl,rfl,.inl ⟨by decide,by decide⟩,_,rfl,_,rfl,rfl,_,_,rfl,rfl,_,_,rfl,rfl,(by show(0:Int)<97;decide),some<|.str ⟨#[c]⟩,?_,rfl⟩;have d:(cs t.sp)[i]?=some c:=by rw[<-hc];simp
  rw[Yi,d,Jy];rfl
 .rintro e b ⟨x,rfl,rfl⟩;refine⟨_,rfl,?_⟩;rw[zf,ZV];exact k _ o
end Au
namespace Av
abbrev st:Stmt:=inClass (top 48) 7
theorem sc:zy ["self"] ["self"] (zF st):=Cz
include T in
theorem ok (F:yc K "names" "Shelf.names" st f fd):zc P w K mg base CA 1 f fd ["self"] (ug P w K aC):=by
 refine F.ok sc λ_ _ _ _ H x Q E v h=>?_;obtain⟨a,fp,S,rfl,sh,k⟩:=h;refine⟨_,(zE<|zL<|z8 (Km rfl) (by rfl) T.list Yw<|zA (yP (pv 0) rfl) zB),?_⟩;obtain⟨g,d,c,j,n,b,nx,rfl,nd,h1,o,p,h4,q,r,s,t,u⟩:=sh;refine⟨_,rfl,a,aC,d,_,_,rfl,h1,T.cls,T.n1,rfl,c,_,rfl,h4,λl i=>?_⟩;have e:(((S.zip b).map λe=>((ED e.1.nm:Key),V.ref e.2)).map λkv=>kV kv.1)=S.map λe=>V.str e.nm:=by
  rw[ZM];have:(S.zip b).map (·.1)=S:=Ve (by lia)
  conv=>rhs;rw[<-this]
  rw[ZM];rfl
 rw[e];exact k l i
end Av
namespace Aw
abbrev st:Stmt:=inClass (top 48) 1
theorem sc:zy ["self","name","thing","halves","head"] ["self","name","thing"] (zF st):=Cz
include T in
theorem ok (F:yc K "take" "Shelf.take" st f fd):zc P w K mg base CA 1 f fd ["self","name","thing"] (qi P w K aC):=by
 refine F.ok sc λ_ _ _ _ H vs Q E hr h=>?_;obtain⟨a,fp,S,e,t,rfl,sh,u,ht,hd,hn,hl,k⟩:=h;have hu:=FQ hr;refine⟨_,(zD (Cv (i:=3) sc.nd<|k6 YF PySem.F.slot_str_partition PySem.F.type_str_partition vJ (pv 1)<|zA zz zB)<|zD (Cv (i:=4) sc.nd<|yB (yw:Cy _<|wZ K) (pv 3) zH)<|zD (yZ hu (yP (pv 0) rfl) (pv 4) (zJ (G0 rfl) (by rfl) T.max PyProof.Rows.boot_max<|zA (IF hu (yP (pv 0) rfl) (pv 4) zH ⟨rfl,rfl,rfl,rfl⟩)<|zA (zV qX (z8 N0 (by rfl) T.int PyProof.Rows.boot_int<|zA (yB (yw:Cy _<|wZ K) (pv 3) zH) zB) zH) zB) rfl)<|zD (yZ hu (yP (pv 0) rfl) (pv 1) (pv 2) rfl)<|zE<|SN hr.units (yP (pv 0) rfl) (pv 2) (pv 1) rfl),?_⟩
 obtain⟨g,r,c,l,b,j,nx,rfl,nd,h1,h2,h3,h4,h5,h6,h7,h8,h9⟩:=id sh;have wA:=sh.wA.tup;have nl:(UR e.n).length<=2000:=by
  have U:((e.n:Int)).natAbs.log2<1920:=by
   have:=u.num;rw[Ud]
   rcases JT e.n with z|z
   .rw[z];decide
   .have:e.n.log2<20:=(Nat.log2_lt<|by lia).mpr (by lia);lia
  have:=VW U;have G:(UR e.n).length<=1921:=this;lia
 have av:e.nm.length<=100000:=by
  have:=u.hl;have e1:dot.length=1:=rfl;unfold En.nm;rw[yr,yr,e1];lia
 simp only[ZY,Zo,ZD,Ye,Vr,YL,and_true,not_false_eq_true]at nd;obtain⟨⟨au,Y,Z,ab⟩,⟨ac,ad,ah⟩,⟨y,A⟩,B⟩:=nd;refine⟨_,rfl,rfl,e.h,UR e.n,46,rfl,by rw[O7];rfl,u.free,av,λp np=>?_⟩;have D:=zG (o:=.tup [V.str e.h,V.str ⟨#[46]⟩,V.str<|UR e.n]) np;have hp:wY K (upd H p<|.tup [V.str e.h,V.str ⟨#[46]⟩,V.str<|UR e.n]) p [V.str e.h,V.str ⟨#[46]⟩,V.str<|UR e.n]:=wY.of zC;show RO _ _ _ _ (upd H p<|.tup [V.str e.h,V.str ⟨#[46]⟩,V.str<|UR e.n]);generalize upd H p (.tup [V.str e.h,V.str ⟨#[46]⟩,V.str<|UR e.n])=s at D hp;have g1:=D _ _ h1;have g4:=D _ _ h4;have g6:=D _ _ h6;refine⟨_,rfl,p,_,_,_,rfl,rfl,hp,rfl,?_⟩;refine⟨_,rfl,a,aC,r,_,_,rfl,g1,T.cls,T.n3,rfl,b,rfl,.inl ⟨_,.inl g6⟩,_,rfl,_,ux.k (k:=(ED e.h:Key)) g6,?_⟩;obtain⟨m,em,en⟩:∃m:Nat,(UE nx (ED e.h:Key)).getD (V.int 0)=V.int (m:Int)/\m=(ye S e.h).getD 0:=by
  rw[h8];cases ye S e.h with
  |none=>exact⟨0,rfl,rfl⟩
  |some m=>exact⟨m,rfl,rfl⟩
 rw[em];refine⟨_,rfl,p,_,_,_,rfl,rfl,hp,rfl,e.n,rfl,by have:=u.num;lia,_,_,rfl,rfl,_,_,rfl,?_⟩;have I:(if(e.n:Int)+1>(m:Int) then(e.n:Int)+1 else(m:Int))=((max m (e.n+1):Nat):Int):=by
  split<;>lia
 rw[I];have ax:nx.length<2000:=by lia
 refine⟨_,rfl,a,aC,r,_,_,rfl,g1,T.cls,T.n3,rfl,_,rfl,b,_,rfl,tD.k (k:=(ED e.h:Key)) g6<|yJ<|by lia,?_⟩;have o1:Off [a,r,c,l,b] H (upd s b<|.dK<|yt nx (ED e.h:Key)<|V.int ((max m (e.n+1):Nat):Int)):=(Off.of D).upd (by simp);have J:upd s b (.dK<|yt nx (ED e.h:Key)<|V.int ((max m (e.n+1):Nat):Int)) a=some (.ins aC r<|N9 c l b):=by rwa[zI ab]
 have M:upd s b (.dK<|yt nx (ED e.h:Key)<|V.int ((max m (e.n+1):Nat):Int)) c=some (.dK<|(S.zip j).map λe=>((ED e.1.nm:Key),V.ref e.2)):=by rwa[zI A]
 have am:upd s b (.dK<|yt nx (ED e.h:Key)<|V.int ((max m (e.n+1):Nat):Int)) b=some (.dK<|yt nx (ED e.h:Key)<|V.int ((max m (e.n+1):Nat):Int)):=zC;have ai:upd s b (.dK<|yt nx (ED e.h:Key)<|V.int ((max m (e.n+1):Nat):Int)) r=some (.own a):=by rw[zI ah];exact D _ _ h2
 obtain⟨a0,e5,_⟩:=h5.2.2.2;have al:upd s b (.dK<|yt nx (ED e.h:Key)<|V.int ((max m (e.n+1):Nat):Int)) l=H l:=by rw[zI B,e5];exact D _ _ e5
 show RO _ _ _ _ (upd s b<|.dK<|yt nx (ED e.h:Key)<|V.int ((max m (e.n+1):Nat):Int));generalize upd s b (.dK<|yt nx (ED e.h:Key)<|V.int ((max m (e.n+1):Nat):Int))=v at o1 J M am ai al;have zl:((S.zip j).map λe=>((ED e.1.nm:Key),V.ref e.2)).length<=2000:=by rw[Zk,List.length_zip];lia
 refine⟨_,rfl,_,rfl,a,aC,r,_,_,rfl,J,T.cls,T.n1,rfl,_,rfl,c,_,rfl,tD.k (k:=(ED e.nm:Key)) M<|yJ<|by lia,?_⟩;have ek:((S.zip j).map λe=>((ED e.1.nm:Key),V.ref e.2)).map (·.1)=S.map λe=>(ED e.nm:Key):=by
  rw[ZM];have:(S.zip j).map (·.1)=S:=Ve (by lia)
  conv=>rhs;rw[<-this]
  rw[ZM];rfl
 have hk:(ED e.nm:Key)∉((S.zip j).map λe=>((ED e.1.nm:Key),V.ref e.2)).map (·.1):=λz=>by
  rw[ek]at z;obtain⟨G,an,q⟩:=Zr.mp z;exact hn<|Zr.mpr ⟨G,an,Sum.inr.inj q⟩
 rw[jV hk];have o2:Off [a,r,c,l,b] H (upd v c<|.dK<|(S.zip j).map (λe=>((ED e.1.nm:Key),V.ref e.2))++[(ED e.nm,V.ref t)]):=o1.upd (by simp);have x:upd v c (.dK<|(S.zip j).map (λe=>((ED e.1.nm:Key),V.ref e.2))++[(ED e.nm,V.ref t)]) a=some (.ins aC r<|N9 c l b):=by rwa[zI Y]
 have L:upd v c (.dK<|(S.zip j).map (λe=>((ED e.1.nm:Key),V.ref e.2))++[(ED e.nm,V.ref t)]) r=some (.own a):=by rwa[zI ac]
 have N:upd v c (.dK<|(S.zip j).map (λe=>((ED e.1.nm:Key),V.ref e.2))++[(ED e.nm,V.ref t)]) c=some (.dK<|(S.zip j).map (λe=>((ED e.1.nm:Key),V.ref e.2))++[(ED e.nm,V.ref t)]):=zC;have O:upd v c (.dK<|(S.zip j).map (λe=>((ED e.1.nm:Key),V.ref e.2))++[(ED e.nm,V.ref t)]) l=H l:=by rwa[zI<|EC y]
 have R:upd v c (.dK<|(S.zip j).map (λe=>((ED e.1.nm:Key),V.ref e.2))++[(ED e.nm,V.ref t)]) b=some (.dK<|yt nx (ED e.h:Key)<|V.int ((max m (e.n+1):Nat):Int)):=by rwa[zI<|EC A]
 generalize upd v c (.dK<|(S.zip j).map (λe=>((ED e.1.nm:Key),V.ref e.2))++[(ED e.nm,V.ref t)])=H3 at o2 x L N O R;have T3:nu P w K H3 l (S.map λe=>(e.d,V.str e.nm)):=nu.off wA o2 O h5;have as:Dt K H3 e.d (.ref t):=Dt.off wA o2 _ _ u.key.1 ht;refine⟨_,rfl,_,rfl,a,aC,r,_,_,rfl,x,T.cls,T.n2,rfl,_,rfl,t,l,_,e.d,rfl,rfl,T3,by rw[Zk];lia,u.key,as,λo T4 ⟨es,eo⟩=>?_⟩;have ap:e.d∉(S.map λe=>(e.d,V.str e.nm)).map (·.1):=by rwa[ZM]
 rw[jV ap]at T4;have o3:Off [a,r,c,l,b] H (upd H3 l o):=o2.upd (by simp);refine k _ o3 ⟨g.snoc u hd hn<|by lia,r,c,l,b,j++[t],_,rfl,by simp[au,Y,Z,ab,ac,ad,ah,y,A,B],by rw[zI Z];exact x,by rw[zI ad];exact L,by rw[ZB,ZB,h3];rfl,?_,?_,by rw[zI<|EC B];exact R,?_,?_,?_⟩
 .rw[zI y,N,List.zip_append h3.symm,Zx];rfl
 .rw[Zx];exact T4
 .have:=xZ nx (ED e.h:Key)<|V.int ((max m (e.n+1):Nat):Int);rw[ZB,Y8];lia
 .intro h;rw[RS,XQ]
  by_cases q:e.h=h
  .rw[ZK<|by rw[q],ZK q,<-q,<-en];rfl
  .rw[ZH<|λz=>q (Sum.inr.inj z).symm,ZH q];exact h8 h
 .intro i G t' C q2
  rcases VH i S.length with z|z|z
  .rw[Ya z]at C;rw[Ya<|by lia]at q2;exact Dt.off wA o3 _ _ (g.ent G<|ZG C).key.1<|h9 i G t' C q2
  .subst z;rw[Ym<|Zt _,Nat.sub_self]at C;rw[Ym<|by lia,h3,Nat.sub_self]at q2;cases C;cases q2;exact Dt.off wA o3 _ _ u.key.1 ht
  .rw[Yv (by rw[ZB,Y8];lia)]at C;cases C
end Aw
theorem Np {S:Di}{b:Dd}(h:b.length=S.length):((S.zip b).map λe=>((ED e.1.nm:Key),V.ref e.2)).map (·.1)=S.map λe=>(ED e.nm:Key):=by
 rw[ZM];have:(S.zip b).map (·.1)=S:=Ve (by lia)
 conv=>rhs;rw[<-this]
 rw[ZM];rfl
theorem Sf {S:Di}{b:Dd}(h:b.length=S.length)(x:Str):(UE ((S.zip b).map λe=>((ED e.1.nm:Key),V.ref e.2)) (ED x:Key)).isSome=decide (x∈S.map En.nm):=by
 have ek:=Np h;rw[Yx,ZN];constructor
 .intro z;obtain⟨v,hv⟩:=Z6.mp z;have:=uW hv;rw[ek]at this;obtain⟨e,he,q⟩:=Zr.mp this;exact Zr.mpr ⟨e,he,Sum.inr.inj q⟩
 .intro z;obtain⟨e,he,q⟩:=Zr.mp z;cases hv:UE ((S.zip b).map λe=>((ED e.1.nm:Key),V.ref e.2)) (ED x:Key) with
  |some v=>rfl
  |none =>
   refine absurd ?_<|vM hv;rw[ek];exact Zr.mpr ⟨e,he,by rw[q]⟩
theorem TQ {c:Dd}(g:uy S)(h:c.length=S.length){i:Nat}{e:En}{t:Eo}(f:S[i]?=some e)(j:c[i]?=some t):UE ((S.zip c).map λe=>((ED e.1.nm:Key),V.ref e.2)) (ED e.nm:Key)=some (V.ref t):=by
 have d:(((S.zip c).map λe=>((ED e.1.nm:Key),V.ref e.2)).map (·.1)).Nodup:=by
  rw[Np h];have:=List.Pairwise.map (S:=λa b:Key=>a≠b) (λx=>(ED x:Key)) (λa b h z=>h<|Sum.inr.inj z) g.nn;rw[ZM]at this;exact this
 have hm:((ED e.nm:Key),V.ref t)∈(S.zip c).map λe=>((ED e.1.nm:Key),V.ref e.2) :=
  Zr.mpr ⟨(e,t),ZG (i:=i) (by rw[Jw];exact⟨f,j⟩),rfl⟩
 exact uV d hm
namespace Ax
abbrev st:Stmt:=top 13
theorem sc:zy ["table","thing"] ["table","thing"] (zF st):=Cz
include T in
theorem ok (F:yc0 K "is_key" st f fd):zc P w K mg base CA 1 f fd ["table","thing"] (m9 K):=by
 refine F.ok sc λ_ _ _ _ H j Q E g h=>?_;obtain⟨e,c,d,v,rfl,h4,hd,k⟩:=h;refine⟨_,(zE<|zL<|y8 (zJ (z7 (K:=K)) (by rfl) T.isinstance ZA<|zA (pv 1)<|zA (y6 (v:=.ty "str") rfl T.str Z7 rfl) zB)<|xU<|yK (P5 g.units) (pv 1) (pv 0)<|by with_unfolding_all rfl),?_⟩;refine⟨_,rfl,_,_,d,_,rfl,hd,T.is<|by simp[kinds],_,rfl,?_⟩;cases d with
 |str x =>
  cases(show v=_ from hd);exact UF ⟨_,rfl,_,rfl,e,_,rfl,ux.k (k:=(ED x:Key)) h4,k⟩
 |none=>exact UC k
 |bool b=>exact UC k
 |int i=>exact UC k
 |list ds=>exact UC k
 |tuple ds=>exact UC k
 |dict c=>exact UC k
end Ax
theorem Se {S:Di}{c:Dd}(h:c.length=S.length)(d:Ey):aq ((S.zip c).map λe=>((ED e.1.nm:Key),V.ref e.2)) d=Xz S d:=by
 cases d with
 |str x=>exact Sf h x
 |none=>rfl
 |bool b=>rfl
 |int i=>rfl
 |list ds=>rfl
 |tuple ds=>rfl
 |dict Dm=>rfl
namespace Ay
abbrev st:Stmt:=inClass (top 48) 5
theorem sc:zy ["self","name"] ["self","name"] (zF st):=Cz
include T in
theorem ok (F:yc K "has" "Shelf.has" st f fd)(b:wV P w K mg base 1 "is_key" ["table","thing"]<|m9 K):zc P w K mg base CA 2 f fd ["self","name"] (oW P w K aC):=by
 refine F.ok sc λ_ _ _ _ H x Q E j h=>?_;obtain⟨a,fp,S,d,v,rfl,sh,hd,k⟩:=h;refine⟨_,(zE<|zL<|zK b j.m<|zA (yP (pv 0) rfl)<|zA (pv 1) zB),?_⟩;obtain⟨g,e,c,l,n,u,nx,rfl,nd,h1,o,i,h4,p,q,r,s,t⟩:=sh;refine⟨_,rfl,a,aC,e,_,_,rfl,h1,T.cls,T.n1,rfl,_,rfl,c,_,d,v,rfl,h4,hd,?_⟩;rwa[Se i d]
end Ay
namespace Az
abbrev st:Stmt:=top 14
theorem sc:zy ["store","name"] ["store","name"] (zF st):=Cz
include T in
theorem ok (F:yc0 K "need_name" st f fd)(b:Met P w K mg base aC 2 "has" ["self","name"]<|oW P w K aC):zc P w K mg base (CI P w) 3 f fd ["store","name"] (tQ P w K aC aN):=by
 refine F.sU sc λ_ _ _ _ H B Q E i h=>?_;obtain⟨a,fp,S,d,v,rfl,sh,hd,j,l⟩:=h;refine⟨_,(zE<|yG (yS<|zU (K:=K)<|jY (pv 0) T.cls b i.m<|zA (pv 1) zB) (zE<|xT rfl xD rfl T.pX T.qd<|zA zz zB) zR),?_⟩
 obtain⟨g,c,n,o,p,A,nx,e,nd,h1,r,s,h4,t,u,x,y,z⟩:=id sh;refine⟨_,rfl,a,c,_,rfl,h1,rfl,_,rfl,a,_,S,d,v,rfl,sh,hd,_,rfl,?_⟩;cases q:Xz S d with
 |false=>exact UF ⟨UD 1,l q⟩
 |true=>exact UC<|j q
end Az
namespace AA
abbrev st:Stmt:=inClass (top 48) 6
theorem sc:zy ["self","name"] ["self","name"] (zF st):=Cz
include T in
theorem ok (F:yc K "thing" "Shelf.thing" st f fd)(p:wz P w K mg base 3 "need_name" ["store","name"]<|tQ P w K aC aN):zc P w K mg base (CI P w) 4 f fd ["self","name"] (wk P w K aC aN):=by
 refine F.sU sc λ_ _ _ _ H R Q E l h=>?_;obtain⟨a,fp,S,d,v,rfl,sh,hd,C,D⟩:=h;have B:=FQ l;refine⟨_,(zD (yC<|yQ p l.m yD<|zA (pv 0)<|zA (pv 1) zB)<|zE<|zL<|zM B (yP (pv 0) rfl) (pv 1)<|λ_ _=>rfl),?_⟩
 obtain⟨g,s,r,G,I,j,nx,t,nd,h1,J,y,h4,L,M,N,O,z⟩:=id sh;refine⟨_,rfl,_,rfl,a,_,S,d,v,rfl,sh,hd,λq=>?_,D⟩;cases d with
 |str x =>
  cases(show v=_ from hd);have q:x∈S.map En.nm:=ZI q;obtain⟨e,he,rfl⟩:=Zr.mp q;obtain⟨i,A,u⟩:=Z4.mp he;have c:i<j.length:=by lia
  have n:S[i]?=some e:=by rw[Zv A,u]
  have o:j[i]?=some j[i]:=Zv c;have hv:=TQ g y n o;exact⟨_,rfl,a,aC,s,_,_,rfl,h1,T.cls,T.n1,rfl,_,rfl,r,_,rfl,by rw[<-hv];exact ux.k (k:=(ED e.nm:Key)) h4,C e he rfl _<|z i e _ n o⟩
 |none=>cases q
 |bool b=>cases q
 |int i=>cases q
 |list ds=>cases q
 |tuple ds=>cases q
 |dict Dm=>cases q
end AA
namespace AB
abbrev st:Stmt:=inClass (top 48) 4
theorem sc:zy ["self","name","forms"] ["self","name","forms"] (zF st):=Cz
include T in
theorem ok (F:yc K "need_form" "Shelf.need_form" st f fd)(s:wK P w K mg base aC 4 "thing" ["self","name"]<|wk P w K aC aN):zc P w K mg base (CI P w) 5 f fd ["self","name","forms"] (pQ P w K aC):=by
 refine F.sU sc λ_ _ _ _ H L Q E p h=>?_;obtain⟨a,z,fp,S,x,b,rfl,sh,th,A,n,j,k⟩:=h;refine⟨_,(zE<|yG (zP (P8 (K:=K) p.units) (yB (yw:Cy _<|wZ K) (yE (pv 0) T.cls s p.m yD<|zA (pv 1) zB) zH) (pv 2)<|by with_unfolding_all rfl) (zE<|xT rfl xD rfl T.pX T.qd<|zA zz zB) zR),?_⟩
 obtain⟨g,u,C,D,G,J,nx,y,nd,h1,_⟩:=id sh;refine⟨_,rfl,a,u,_,rfl,h1,rfl,_,rfl,a,_,S,.str x,.str x,rfl,sh,rfl,λe he ex t q=>?_,λl=>?_⟩
 .have ex:x=e.nm:=by injection ex
  obtain⟨d,o,I,_⟩:=th e he;rw[o]at q;obtain⟨c,r,v,hc⟩:=uM q;cases v;have B:=j7 o;have i:=vY g he b;rw[<-ex,B]at i;refine⟨t,_,_,_,rfl,rfl,hc,Fs _ _,_,rfl,.str d.word,b.map .str,rfl,⟨z,_,rfl,A,zu.strs b⟩,(uL b n).1,?_,(show 0<=60 by decide),!decide (d.word∈b),?_,?_⟩
  .cases d
   .show Ew "leaf"=true;decide+kernel
   .show Ew "tree"=true;decide+kernel
   .show Ew "note"=true;decide+kernel
  .rw[OS];cases decide (d.word∈b)<;>rfl
  .rw[j]at i;rw[<-i];exact UC k
 .have l:x∉S.map En.nm:=Ju l;rw[FN l b]at j;cases j
end AB
theorem aE:∀y∈(["leaf","tree"]:Da),Ew y=true:=λy b=>by
 rcases Zo.mp b with rfl|b
 .decide+kernel
 .rw[Zl.mp b];decide+kernel
theorem cA:∀y∈(["tree"]:Da),Ew y=true:=λy b=>by
 rw[Zl.mp b];decide+kernel
theorem bP:∀y∈(["note"]:Da),Ew y=true:=λy b=>by
 rw[Zl.mp b];decide+kernel
namespace AC
abbrev st:Stmt:=inClass (top 48) 3
theorem sc:zy ["self","thing","row","parent"] ["self","thing"] (zF st):=Cz
include T in
theorem ok (F:yc K "need_names" "Shelf.need_names" st f fd)(L:wK P w K mg base aC 5 "need_form" ["self","name","forms"]<|pQ P w K aC):zc P w K mg base (CI P w) 6 f fd ["self","thing"] (pO P w K aC):=by
 refine F.sU sc λ_ A _ _ H vs Q E O h=>?_;obtain⟨a,fp,S,t,v,rfl,sh,th,hd,d,k⟩:=h;refine⟨_,(xQ (yG (zP xH (yB (yw:Cy _<|wZ K) (pv 1) zH) zz<|zO _) (zE<|qS Ms rfl (vF<|yB (yw:Cy _<|wZ K) (pv 1) zH) (z6 (i:=2) sc.nd rfl<|EU rfl)<|zE<|yC<|yE (pv 0) T.cls L O.m yD<|zA (yB (yw:Cy _<|wZ K) (pv 2) zH)<|zA (yR<|zA zz<|zA zz zB) zB) zR)<|zE<|yG (zP xH (yB (yw:Cy _<|wZ K) (pv 1) zH) zz<|zO _) (zD (yC<|yE (pv 0) T.cls L O.m yD<|zA (yB (yw:Cy _<|wZ K) (pv 1) zH)<|zA (yR<|zA zz zB) zB)<|zE<|qS Ms rfl (vF<|yB (yw:Cy _<|wZ K) (pv 1) zH) (z6 (i:=3) sc.nd rfl<|EU rfl)<|zE<|yC<|yE (pv 0) T.cls L O.m yD<|zA (pv 3)<|zA (yR<|zA zz zB) zB) zR),?_⟩
 obtain⟨g,M,d1,d2,d3,ts,nx,Z,nd,h1,_⟩:=id sh;cases t with
 |leaf ls =>
  obtain⟨p,b,rfl,n,hb⟩:=DE hd;refine⟨λj l=>j=[some<|.ref a,some<|.ref p,none,none]/\l=H,⟨_,rfl,p,_,_,_,rfl,rfl,n,rfl,rfl,false,congrArg V.bl<|by decide+kernel,UC (A:=False) ⟨rfl,rfl⟩⟩,?_⟩;rintro j l ⟨rfl,rfl⟩;exact⟨_,rfl,p,_,_,_,rfl,rfl,n,rfl,rfl,false,congrArg V.bl<|by decide+kernel,UC (A:=False)<|k _<|zx.refl _⟩
 |tree rs =>
  obtain⟨p,b,rfl,n,hb⟩:=BQ hd;obtain⟨b',xs,e,I,hx⟩:=hb;cases e;have d:(rs.all λr=>zW S r.2 ["leaf","tree"])=true:=d;refine⟨λj l=>∃o,j=[some<|.ref a,some<|.ref p,o,none]/\zx H l,?_,?_⟩
  .refine⟨_,rfl,p,_,_,_,rfl,rfl,n,rfl,rfl,true,congrArg V.bl<|Zq rfl,UF (B:=False) ?_⟩;refine⟨_,rfl,p,_,_,_,rfl,rfl,n,rfl,b,rfl,⟨_,I⟩,X8 (K:=K) (a:=b) (xs:=xs) (λi D u=>∃o,D=[some<|.ref a,some<|.ref p,o,none]/\zx H u) ⟨none,rfl,zx.refl _⟩ (λi D u _ ⟨_,_,e⟩=>e.yg I) ?_ λ_ _ z=>z⟩;rintro i x D u J ⟨o,rfl,s⟩;obtain⟨r,c,N,rfl,hc⟩:=HN hx J;refine⟨_,rfl,a,M,_,rfl,s _ _ h1,rfl,_,rfl,c,_,_,_,rfl,rfl,s.yg hc,rfl,UD 2,λq R=>?_⟩;have C:=s.trans<|zG (o:=.tup [V.str "leaf",V.str "tree"]) R;exact⟨a,q,fp,S,r.2,["leaf","tree"],rfl,sh.same C,th,wY.of zC,aE,ZQ.mp d r<|ZG N,_,rfl,C⟩
  .rintro j l ⟨o,rfl,s⟩;exact⟨_,rfl,p,_,_,_,rfl,rfl,s.yg n,rfl,rfl,false,congrArg V.bl<|by decide+kernel,UC (A:=False)<|k _ s⟩
 |note x ps y =>
  obtain⟨p,b,rfl,n,hb⟩:=uZ hd;have d:(zW S x ["tree"]&&ps.all λp=>zW S p ["note"])=true:=d;rw[Zw]at d;refine⟨λj l=>j=[some<|.ref a,some<|.ref p,none,none]/\l=H,⟨_,rfl,p,_,_,_,rfl,rfl,n,rfl,rfl,false,congrArg V.bl<|by decide+kernel,UC (A:=False) ⟨rfl,rfl⟩⟩,?_⟩;rintro j l ⟨rfl,rfl⟩;refine⟨_,rfl,p,_,_,_,rfl,rfl,n,rfl,rfl,true,congrArg V.bl<|Zq rfl,UF (B:=False) ?_⟩;refine⟨_,rfl,a,M,_,rfl,h1,rfl,_,rfl,p,_,_,_,rfl,rfl,n,rfl,UD 1,λq R=>?_⟩;have C:=zG (o:=.tup [V.str "tree"]) R;refine⟨a,q,fp,S,x,["tree"],rfl,sh.same C,th,wY.of zC,cA,d.1,?_⟩;show RN _ _ (upd l q<|.tup [V.str "tree"]);generalize upd l q (.tup [V.str "tree"])=G at C;refine⟨_,rfl,p,_,_,_,rfl,rfl,C.yg n,rfl,b,rfl,⟨_,C.yg hb⟩,X8 (K:=K) (a:=b) (xs:=ps.map V.str) (λi D u=>∃o,D=[some<|.ref a,some<|.ref p,none,o]/\zx l u) ⟨none,rfl,C⟩ (λi D u _ ⟨_,_,e⟩=>e.yg hb) ?_ ?_⟩
  .rintro i z D u J ⟨o,rfl,s⟩;rw[Zy]at J;obtain⟨r,N,rfl⟩:=Z0.mp J;refine⟨_,rfl,a,M,_,rfl,s _ _ h1,rfl,_,rfl,UD 1,λq2 U=>?_⟩;have Y:=s.trans<|zG (o:=.tup [V.str "note"]) U;exact⟨a,q2,fp,S,r,["note"],rfl,sh.same Y,th,wY.of zC,bP,ZQ.mp d.2 r<|ZG N,_,rfl,Y⟩
  .rintro D u ⟨o,rfl,s⟩;exact k _ s
end AC
theorem zX:Raises X (λ_ _ _=>False):=by
 intro c f H s e d I b;obtain⟨_,_,_,_,_,_,_,_,_,_,_,_,_,_,q⟩:=b;exact q.elim
theorem Nv (g:uy S){e f:En}(he:e∈S)(l:f∈S)(h:e.nm=f.nm):e=f:=by
 obtain⟨i,n,b⟩:=Z4.mp he;obtain⟨j,o,c⟩:=Z4.mp l;have d:=Jx.mp g.nn;have:i=j:=by
  rcases VH i j with z|z|z
  .exact absurd (by rwa[Z9,Z9,b,c]) (d i j (by rwa[Zk]) (by rwa[Zk]) z)
  .exact z
  .exact absurd (by rw[Z9,Z9,b,c];exact h.symm) (d j i (by rwa[Zk]) (by rwa[Zk]) z)
 subst this;rw[<-b,c]
namespace AD
abbrev st:Stmt:=inClass (top 48) 2
theorem sc:zy ["self","thing","head","number","name"] ["self","thing"] (zF st):=Cz
include T in
theorem ok (F:yc K "put" "Shelf.put" st f fd)(QV:wz P w K mg base 6 "need_thing" ["thing"]<|nZ K aT)(QW:wK P w K mg base aC 6 "need_names" ["self","thing"]<|pO P w K aC)
  (Qq:wV P w K mg base 1 "letter_of" ["thing"]<|IE K) (QX:wV P w K mg base 4 "digest" ["thing"]<|HW K) (Qt:Met P w K mg base aC 1 "take" ["self","name","thing"]<|qi P w K aC):zc P w K mg base (CI P w) 7 f fd ["self","thing"] (tX P w K aC):=by
 refine F.sU sc λ_ A _ _ H vs Q E l h=>?_;obtain⟨a,fp,S,t,v,rfl,sh,th,hd,g,hl,hn,ab,k3⟩:=h;have gt:=g.1;have hu:=FQ l;refine⟨_,(zD (yC<|yQ QV l.m yD<|zA (pv 1) zB)<|zD (yC<|yE (pv 0) T.cls QW l.m yD<|zA (pv 1) zB)<|zD (yG (zP (Wq l.units) (pv 1) (yP (pv 0) rfl)<|by with_unfolding_all rfl) (zE<|zL<|SJ l.units (yP (pv 0) rfl) (pv 1)<|λ_ _=>rfl) zR)<|zD (Cv (i:=2) sc.nd<|zV zZ (zK Qq l.m<|zA (pv 1) zB)<|z8 x6 (by rfl) T.str Z7<|zA (zK QX l.m<|zA (pv 1) zB) zB)<|zD (Cv (i:=3) sc.nd<|IF hu (yP (pv 0) rfl) (pv 2) zH ⟨rfl,rfl,rfl,rfl⟩)<|zD (Cv (i:=4) sc.nd<|aK (pv 2)<|pv 3)<|zD (yC<|jY (pv 0) T.cls Qt l.m<|zA (pv 4)<|zA (pv 1) zB)<|zE<|zL<|pv 4),?_⟩
 refine⟨_,rfl,t,v,rfl,hd,g,λH1 s1=>?_⟩;obtain⟨x,ev⟩:∃t,v=.ref t:=by
  obtain⟨c,r,e,_⟩:=uM hd;exact⟨c,e⟩
 subst ev;have j:=sh.same s1;have o:=Dt.same s1 _ _ hd;obtain⟨O,s,d1,M,d3,ts,nx,y,nd,h1,R,h3,h4,L,U,h7,Y,h9⟩:=id j;refine⟨_,rfl,a,s,_,rfl,h1,rfl,_,rfl,a,fp,S,t,.ref x,rfl,j,th,o,ab,λH2 s2=>?_⟩;have G:=s1.trans s2;have q:=j.same s2;have b:=Dt.same s2 _ _ o;clear j R h3 h4 L U h7 Y h9 h1 o y nd;obtain⟨O,s,d1,M,d3,ts,nx,y,nd,h1,R,h3,h4,L,U,h7,Y,h9⟩:=id q;have kt:=BC gt;refine⟨_,rfl,_,rfl,a,aC,s,_,_,rfl,h1,T.cls,T.n2,rfl,x,M,_,t.dat,rfl,rfl,L,kt,b,_,rfl,?_⟩;cases hv:UE (S.map λe=>(e.d,V.str e.nm)) t.dat with
 |some u =>
  obtain⟨p,hp,e⟩:=Zr.mp<|uW hv;obtain⟨J,B,rfl⟩:=Zr.mp hp;have e:J.d=t.dat:=e;have Z:UE (S.map λe=>(e.d,V.str e.nm)) t.dat=some (V.str J.nm):=uV (by rw[ZM];exact O.nd) (Zr.mpr ⟨J,B,by rw[e]⟩);exact UF ⟨_,rfl,a,aC,s,_,_,rfl,h1,T.cls,T.n2,rfl,_,rfl,x,M,_,t.dat,_,rfl,rfl,L,kt,b,Z,k3 _ S J ⟨Off.of G,q,B,e,.inl rfl⟩⟩
 |none =>
  have C:t.dat∉S.map (·.d):=λz=>by
   have:=vM hv;rw[ZM]at this;exact this z
  refine UC (A:=False) ?_;have db:=Iz t.sp;have D:=hn<|UP t;refine⟨_,rfl,.ref x,t,rfl,b,_,rfl,.ref x,t,rfl,b,gt,λH3 I=>⟨_,rfl,?_,_,_,rfl,rfl,?_,?_⟩⟩
  .have hz:(dg t.sp).natAbs<97:=by lia
   rcases JT (dg t.sp).natAbs with z|z
   .rw[z];decide
   .have:(dg t.sp).natAbs.log2<7:=(Nat.log2_lt<|by lia).mpr (by lia);lia
  .rw[P1];have h1:=Hi (n:=(dg t.sp).toNat) (by lia);have R:=Gf t;exact zp (by lia)
  rw[P1];show Xc 2 (V.str<|UP t) _ H3 _;have ac:=q.same I;have g1:=I _ _ h1;have g6:=I _ _ U;refine⟨_,rfl,a,aC,s,_,_,rfl,g1,T.cls,T.n3,rfl,d3,rfl,.inl ⟨_,.inl g6⟩,_,rfl,_,ux.k (k:=(ED (UP t):Key)) g6,?_⟩;have em:(UE nx (ED (UP t):Key)).getD (V.int 0)=V.int (((ye S<|UP t).getD 0:Nat):Int):=by
   rw[Y];cases ye S (UP t) with
   |none=>rfl
   |some m=>rfl
  rw[em];have dl:(".":Str).length=1:=by decide+kernel
  refine⟨_,rfl,_,rfl,by have:=uK t;lia,by rw[dl];decide,_,rfl,_,rfl,D,?_⟩;have N:UP t++"."++UR ((ye S<|UP t).getD 0)=(GL S t).nm:=by unfold En.nm GL;rw[O7]
  rw[N];refine⟨_,rfl,a,s,_,rfl,g1,rfl,_,rfl,_,rfl,a,fp,S,GL S t,x,rfl,ac,⟨kt,kD t,D,uK t⟩,Dt.same I _ _ b,C,PV O<|kD t,hl,λH4 o4 ad=>?_⟩;exact⟨_,rfl,k3 _ _ _ ⟨(Off.of<|G.trans I).trans o4,ad,by simp,rfl,.inr ⟨rfl,rfl,C⟩⟩⟩
end AD
namespace AE
abbrev st:Stmt:=inClass (top 48) 0
theorem sc:zy ["self","base","name"] ["self","base"] (zF st):=Cz
include T in
theorem ok (F:yc K "__init__" "Shelf.__init__" st f fd)(Qd:Met P w K mg base aC 1 "names" ["self"]<|ug P w K aC)(Qt:Met P w K mg base aC 1 "take" ["self","name","thing"]<|qi P w K aC)
  (Qa:wK P w K mg base aC 4 "thing" ["self","name"]<|wk P w K aC aN):zc P w K mg base CA 5 f fd ["self","base"] (pP P w K aC):=by
 refine F.ok sc λ_ A _ _ H vs Q E hr h=>?_;obtain⟨x,n,b,S,rfl,hx,G,ne,hb,k⟩:=h;refine⟨_,(zD (XF (pv 0) qY rfl)<|zD (XF (pv 0) Rc rfl)<|zD (XF (pv 0) qY rfl)<|zE<|yG (zP X5 (pv 1) x9<|zO _) (zE<|qS Lb rfl (jL<|k7 (pv 1) T.cls Qd hr.m) (z6 (i:=2) sc.nd rfl<|EU rfl)<|zE<|yC<|jY (pv 0) T.cls Qt hr.m<|zA (pv 2)<|zA (yE (pv 1) T.cls Qa hr.m zX<|zA (pv 2) zB) zB) zR),?_⟩
 refine λg n1=>⟨_,rfl,x,aC,n,_,rfl,(zG n1) _ _ hx,T.cls,T.n1,by decide,?_⟩;have M:x≠g:=zS hx n1;have ai:n≠g:=zS G n1;refine λd o2 n2 T2 e2=>?_;obtain⟨es,rfl⟩:=e2;have a4:d≠x/\d≠g/\H d=none:=by
  refine⟨λz=>?_,λz=>?_,?_⟩
  .rw[z,zC]at n2;cases n2
  .rw[z,zI<|EC M,zC]at n2;cases n2
  .have a1:d≠x:=λz=>by rw[z,zC]at n2;cases n2
   have a2:d≠g:=λz=>by rw[z,zI<|EC M,zC]at n2;cases n2
   rw[zI a1,zI a2]at n2;exact n2
 obtain⟨y,N,O⟩:=a4;have al:n≠d:=zS G O;refine⟨_,rfl,x,aC,n,[("thing_by_name",V.ref g)],rfl,by rw[zI<|EC y,zC];rfl,T.cls,T.n2,(show 1<1000 by decide),?_⟩;refine λj n3=>?_;have a5:j≠x/\j≠d/\j≠g/\H j=none:=by
  have a1:j≠x:=λz=>by rw[z,zC]at n3;cases n3
  have a2:j≠d:=λz=>by rw[z,zI y,zC]at n3;cases n3
  have a3:j≠g:=λz=>by rw[z,zI<|EC M,zI<|EC N,zI<|EC M,zC]at n3;cases n3
  refine⟨a1,a2,a3,?_⟩;rw[zI a1,zI a2,zI a1,zI a3]at n3;exact n3
 obtain⟨U,ah,ad,R⟩:=a5;have am:n≠j:=zS G R;refine⟨_,rfl,x,aC,n,[("thing_by_name",V.ref g),("name_by_thing",V.ref d)],rfl,by rw[zI<|EC U,zC];rfl,T.cls,T.n3,(show 2<1000 by decide),?_⟩;obtain⟨p,I⟩:∃p,p=upd (upd (upd (upd (upd (upd H g<|.dK []) x<|.ins aC n<|UG "thing_by_name" (V.ref g) []) d<|Iq d es) x<|.ins aC n<|UG "name_by_thing" (V.ref d) [("thing_by_name",V.ref g)]) j<|.dK []) x (.ins aC n<|UG "next_numbers" (V.ref j) [("thing_by_name",V.ref g),("name_by_thing",V.ref d)]):=⟨_,rfl⟩;have q0:p x=some (.ins aC n<|N9 g d j):=by rw[I,zC];rfl
 have q1:p g=some (.dK []):=by rw[I,zI<|EC M,zI<|EC ad,zI<|EC M,zI<|EC N,zI<|EC M,zC]
 have q2:p d=some (Iq d es):=by rw[I,zI y,zI<|EC ah,zI y,zC]
 have q3:p j=some (.dK []):=by rw[I,zI U,zC]
 have qx:p n=some (.own x):=by rwa[I,zI ne,zI am,zI ne,zI al,zI ne,zI ai]
 have Z:Off [x] H p:=λc o hc e=>by
  have cx:c≠x:=λz=>hc (by rw[z];exact Zs);rwa[I,zI cx,zI<|zS e R,zI cx,zI<|zS e O,zI cx,zI<|zS e n1]
 have D:∀c∈[x,n,g,d,j],c=x\/c=n\/H c=none:=λc hc=>by
  simp only[Zo,ZD,Ye]at hc
  rcases hc with rfl|rfl|rfl|rfl|rfl
  .exact .inl rfl
  .exact .inr (.inl rfl)
  .exact .inr (.inr n1)
  .exact .inr (.inr O)
  .exact .inr (.inr R)
 have ab:yo P w K aC p x [x,n,g,d,j] []:=by
  obtain⟨_,_,_,xs,as,r⟩:=T2;cases r;rw[zC]at as;have a7:p d=some (Iq d<|List.map (Mh<|yW P w) []):=q2.trans as;exact⟨uy.nil,n,g,d,j,[],[],rfl,by simp[EC ne,M,EC y,EC U,ai,al,am,EC N,EC ad,EC ah],q0,qx,rfl,q1,⟨Yb _,λ_ z=>(nomatch z),YL,[],a7,.nil⟩,q3,Yb _,λh=>rfl,λi e t z=>by cases z⟩
 rw[<-I];clear I
 rcases hb with⟨rfl,rfl⟩|⟨a,fp0,rfl,sh0,x0,dx0,Sl⟩
 .exact⟨_,rfl,rfl,false,congrArg V.bl (by rw[Zq rfl];rfl),UC (A:=False)<|k _ _ D Z ab⟩
 .refine⟨_,rfl,rfl,true,congrArg V.bl (by rw[ZE<|λz=>by cases z];rfl),UF (B:=False) ?_⟩;have dj:∀c∈fp0,c∉[x,n,g,d,j]:=λc hc z=>by
   obtain⟨o,eo,_⟩:=sh0.wA c hc
   rcases D c z with rfl|rfl|q
   .exact x0 hc
   .exact dx0 hc
   .rw[eo]at q;cases q
  have C:yo P w K aC p a fp0 S:=sh0.off (gp:=[x]) (λb hb xs z=>by
   rw[Zl.mp hb]at z
   rcases z with z|⟨u,z⟩
   .rw[hx]at z;cases z
   .rw[hx]at z;cases z) Z (λc hc z=>x0<|by rwa[<-Zl.mp z])
  obtain⟨gS,dy,e1,e2,e3,ts,nx,a8,nd,h1,h2,h3,h4,h5,h6,h7,h8,h9⟩:=id C;refine⟨_,rfl,a,dy,_,rfl,h1,rfl,a,fp0,S,rfl,C,λl nl=>?_⟩;have ul:=zG (o:=.lst<|S.map λe=>V.str e.nm) nl;have Y:upd p l (.lst<|S.map λe=>V.str e.nm) l=some (.lst<|S.map λe=>V.str e.nm):=zC;have ac:=ab.same ul;have J:=C.same ul;have a0:l∉[x,n,g,d,j]:=λz=>by
   obtain⟨o,eo,_⟩:=ab.wA l z;rw[eo]at nl;cases nl
  have au:Off [x] H (upd p l<|.lst<|S.map λe=>V.str e.nm):=Z.trans<|Off.of ul;refine⟨l,rfl,⟨_,yu.of Y⟩,?_⟩;generalize upd p l (.lst<|S.map λe=>V.str e.nm)=H5 at ul Y ac J au;have a6:=ac.wA.tup;refine FL (K:=K) (a:=l) (xs:=S.map λe=>V.str e.nm) (λi σ H6=>∃o,σ=[some<|.ref x,some<|.ref a,o]/\Off [x,n,g,d,j] H5 H6/\yo P w K aC H6 x [x,n,g,d,j] (S.take i)) ⟨none,rfl,Off.refl _ _,ac⟩ (λi σ H6 hi ⟨_,_,o6,_⟩=>yu.of<|o6 _ _ a0 Y) ?_ ?_
  .rintro i v σ H6 hv ⟨o,rfl,o6,s⟩;rw[Zy]at hv;cases q:S[i]? with
   |none=>rw[q]at hv;cases hv
   |some e =>
    rw[q]at hv;have hv:V.str e.nm=v:=Option.some.inj hv;subst hv;have he:=ZG q;have L:=J.off a6 o6 dj;obtain⟨_,av,_,_,_,_,_,_,_,k1,_⟩:=id L;obtain⟨_,an,_,_,_,_,_,_,_,z1,_⟩:=id s;refine⟨_,rfl,x,an,_,rfl,z1,rfl,_,rfl,_,rfl,a,av,_,rfl,k1,rfl,_,rfl,a,fp0,S,.str e.nm,.str e.nm,rfl,L,rfl,λe2 ax ex t ht=>?_,λno=>(Ju no<|Zr.mpr ⟨e,he,rfl⟩)⟩;cases Nv gS he ax (by injection ex);refine⟨x,_,S.take i,e,t,rfl,s,gS.ent e he,ht,?_,?_,by rw[ZS];lia,λH7 o7 a9=>?_⟩
    .rw[Vh];exact ID gS.nd (by rw[Zy,q];rfl)
    .rw[Vh];exact ID gS.nn (by rw[Zy,q];rfl)
    .refine⟨_,rfl,o6.trans o7,?_⟩;rwa[Yi,q]
  .rintro σ H6 ⟨o,rfl,o6,s⟩;rw[Zk,ZV]at s;refine k _ _ D (λc u hc e=>?_) s;have e5:=au c u hc e
   by_cases z:c∈[x,n,g,d,j]
   .rcases D c z with q|q|q
    .exact absurd (by rw[q];exact Zs) hc
    .subst q;obtain⟨_,an,y1,y2,y3,_,_,ap,_,_,z2,_⟩:=id s;injection ap with w1 w2;injection w2 with w2 w3;subst w2;rw[G]at e;cases e;exact z2
    .rw[e]at q;cases q
   .exact o6 c u z e5
end AE
inductive nM (K:Cq)(vs:Dj)(H:Hp)(Q:VK)(e3:XK):Prop
 |mk (d:Ey) (v:V) (h0:vs=[v]) (h1:Dw K H d v) (h2:small d=true) (h3:∀H',zx H H'->Q (.bl<|U3 d) H'):nM K vs H Q e3
inductive lR (K:Cq)(aP:Eo)(vs:Dj)(H:Hp)(Q:VK)(E:XK):Prop
 |mk (d:Ey) (v:V) (h0:vs=[v]) (h1:Dw K H d v) (h2:small d=true) (h3:(∀x,d=.str x->Hu x=true->∀p H',zx H H'->yu K H' p ((UJ x).map V.str)->Q (.ref p) H')) (h4:(U3 d=false->∀H',zx H H'->E (.ref aP) none H')):lR K aP vs H Q E
inductive oG (K:Cq)(vs:Dj)(H:Hp)(Q:VK)(e3:XK):Prop
 |mk (x:Str) (h0:vs=[.str x]) (h1:x.length<=1000) (h2:∀p H',zx H H'->yu K H' p ((Xg x).map V.str)->Q (.ref p) H'):oG K vs H Q e3
inductive oh (K:Cq)(vs:Dj)(H:Hp)(Q:VK)(e3:XK):Prop
 |mk (d e:Ey) (v u:V) (h0:vs=[v,u]) (h1:Dw K H d v) (h2:Dw K H e u) (h3:small d=true) (h4:small e=true) (h5:∀H',zx H H'->Q (.bl<|U3 d&&jE e) H'):oh K vs H Q e3
theorem SY:[V.str "/"]=[V.str ⟨#[47]⟩]:=by rw[XI];rfl
theorem Pr (x:Str):PySem.Txt.split x ⟨#[47]⟩=UJ x:=by unfold UJ;rw[XI];rfl
theorem rD:UK x=true↔x.length<=20/\(cs x).all UQ=true:=by
 unfold UK;rw[Zw,Yc]
theorem uq:z9 x=true↔1<=x.length/\x.length<=8/\(cs x).all Xb=true:=by
 unfold z9;rw[Zw,Zw,Yc,Yc,and_assoc]
theorem j5 (h:UK x=true):Ok 1000 x:=by
 obtain⟨h1,b⟩:=rD.mp h;refine⟨by lia,?_⟩;rw[yX];intro c hc;have:=ZQ.mp b c hc;unfold UQ at this;simp only[Zw,Yc]at this;lia
theorem Gm (h:z9 x=true):Ok 1000 x:=⟨by have:=(uq.mp h).2.1;lia,G8 h⟩
theorem kB:∀{ls:Da},(∀l∈ls,l.length<=1000)->yL (ls.map .str)=true
 |[],_=>rfl
 |l::ls,h=>by
  show(decide (l.length<=1000)&&yL (ls.map .str))=true;rw[Zq<|h l Zs,kB λx b=>h x<|Zn _ b];rfl
theorem IC:∀{rs:Dg},(∀r∈rs,r.1.length<=1000/\r.2.length<=1000)->yL (rs.map zj)=true
 |[],_=>rfl
 |r::rs,h=>by
  obtain⟨h1,b⟩:=h r Zs;show((decide (2<=1000)&&(decide (r.1.length<=1000)&&(decide (r.2.length<=1000)&&true)))&&yL (rs.map zj))=true;rw[Zq h1,Zq b,IC λx c=>h x<|Zn _ c];rfl
theorem Oc {ls:Da}(h:∀l∈ls,UK l=true)(hl:ls.length<=63):vC (.leaf ls):=by
 have h1:∀l∈ls,l.length<=1000:=λl hl=>(j5<|h l hl).len;refine⟨⟨by show ls.length<=1000;lia,λp d=>j5<|h p d⟩,?_,?_,λc e=>?_⟩
 .show((decide (("leaf":Str)="leaf")&&(decide (1=1)&&((ls.map EQ).all UZ)))||_)=true;have:(ls.map EQ).all UZ=true:=by rwa[List.all_map,ZQ]
  rw[this,Zq rfl];rfl
 .show(decide (2<=1000)&&(decide (("leaf":Str).length<=1000)&&((decide ((ls.map EQ).length<=1000)&&yL (ls.map .str))&&true)))=true;rw[kB h1,Zk,Zq<|show ls.length<=1000 by lia,Zq<|show("leaf":Str).length<=1000 by decide+kernel];rfl
 .have e:[EQ "leaf",.tuple<|ls.map .str]=c:=by injection e
  subst e;refine⟨by show 2<=63;decide,λe he f b=>?_⟩
  rcases Zo.mp he with q|q
  .rw[q]at b;cases b
  .rw[Zl.mp q]at b;cases b;rwa[Zk]
theorem Of {rs:Dg}(h:∀r∈rs,z9 r.1=true/\Ok 1000 r.2)(c:Xh (rs.map (·.1))=true)(hl:rs.length<=63):vC (.tree rs):=by
 have j:∀rs:Dg,(∀r∈rs,z9 r.1=true/\Ok 1000 r.2)->∀p∈yH rs,Ok 1000 p:=by
  intro rs
  induction rs with
  |nil=>intro _ p b;cases b
  |cons r rs ih =>
   intro h p b
   rcases Zo.mp b with q|b
   .rw[q];exact Gm (h r Zs).1
   .rcases Zo.mp b with q|b
    .rw[q];exact(h r Zs).2
    .exact ih (λx l=>h x<|Zn _ l) p b
 refine⟨⟨?_,j rs h⟩,?_,?_,λf e=>?_⟩
 .show(yH rs).length<=1000;rw[Ap.wF];lia
 .show((decide (("tree":Str)="leaf")&&(decide (1=1)&&jE (.tuple<|rs.map zj)))||((decide (("tree":Str)="tree")&&(decide (1=1)&&((rs.map zj).all Xf&&Xh ((rs.map zj).map Xa))))||_))=true;have g:(rs.map zj).all Xf=true:=by
   rw[List.all_map,ZQ];intro r c;show(z9 r.1&&true)=true;rw[(h r c).1];rfl
  have i:(rs.map zj).map Xa=rs.map (·.1):=by rw[ZM];rfl
  rw[g,i,c,ZE<|show¬("tree":Str)="leaf" by decide+kernel,Zq<|show("tree":Str)="tree" from rfl];rfl
 .show(decide (2<=1000)&&(decide (("tree":Str).length<=1000)&&((decide ((rs.map zj).length<=1000)&&yL (rs.map zj))&&true)))=true;rw[IC λr c=>⟨(Gm (h r c).1).len,(h r c).2.len⟩,Zk,Zq<|show rs.length<=1000 by lia,Zq<|show("tree":Str).length<=1000 by decide+kernel];rfl
 .have e:[EQ "tree",.tuple<|rs.map zj]=f:=by injection e
  subst e;refine⟨by show 2<=63;decide,λe he n d=>?_⟩
  rcases Zo.mp he with q|q
  .rw[q]at d;cases d
  .rw[Zl.mp q]at d;cases d;rwa[Zk]
theorem G5 {ps:Da}(j:Ok 1000 x)(c:UK y=true)(d:∀p∈ps,Ok 1000 p)(nd:ps.Nodup)(hl:ps.length<=2):vC (.note x ps y):=by
 refine⟨⟨?_,λp h=>?_⟩,?_,?_,λf e=>?_⟩
 .show([x,dig ps.length]++ps++[y]).length<=1000;simp;lia
 .have h:p∈[x,dig ps.length]++ps++[y]:=h;simp at h
  rcases h with z|z|z|z
  .rwa[z]
  .rw[z];exact⟨Yk (BJ<|by lia)<|by decide,IP _⟩
  .exact d p z
  .rw[z];exact j5 c
 .show((decide (("note":Str)="leaf")&&(decide (3=1)&&jE (.str x)))||((decide (("note":Str)="tree")&&(decide (3=1)&&Bu (.str x)))||(decide (("note":Str)="note")&&(decide (3=3)&&(true&&(((ps.map EQ).all Xd&&(decide ((ps.map EQ).length<=2)&&decide ((AxS.uniq<|(ps.map EQ).map OI).length=(ps.map EQ).length)))&&UK y))))))=true;have g:(ps.map EQ).all Xd=true:=by rw[List.all_map,ZQ];exact λ_ _=>rfl
  have i:(ps.map EQ).map OI=ps:=by rw[ZM];exact Vu _
  rw[g,i,Bx nd,Zk,c,Zq hl,Zq<|show ps.length=ps.length from rfl,ZE<|show¬("note":Str)="leaf" by decide+kernel,ZE<|show¬("note":Str)="tree" by decide+kernel,Zq<|show("note":Str)="note" from rfl];rfl
 .show(decide (4<=1000)&&(decide (("note":Str).length<=1000)&&(decide (x.length<=1000)&&((decide ((ps.map EQ).length<=1000)&&yL (ps.map .str))&&(decide (y.length<=1000)&&true)))))=true;rw[kB λp h=>(d p h).len,Zk,Zq<|show ps.length<=1000 by lia,Zq j.len,Zq (j5 c).len,Zq<|show("note":Str).length<=1000 by decide+kernel];rfl
 .have e:[EQ "note",.str x,.tuple<|ps.map .str,.str y]=f:=by injection e
  subst e;refine⟨by show 4<=63;decide,λe he l b=>?_⟩;simp only[Zo,ZD,Ye]at he
  rcases he with q|q|q|q
  .rw[q]at b;cases b
  .rw[q]at b;cases b
  .rw[q]at b;cases b;rw[Zk];lia
  .rw[q]at b;cases b
theorem SV {l:Da}(h:l.Pairwise CN):Xh l=true:=rN.mpr ⟨h.imp λ{a b} z q=>List.lt_asymm z q,Yj.mpr<|h.imp λ{a b} z=>F3 z⟩
theorem kM (h:zW S x ws=true):x∈S.map En.nm:=by
 unfold zW at h;obtain⟨e,he,q⟩:=Z8.mp h;rw[Zw,Yc]at q;exact Zr.mpr ⟨e,he,q.1⟩
theorem Oa {ls:Da}(h:At S x<|.leaf ls):zW S x ["leaf","tree"]=true:=by
 obtain⟨e,he,rfl,hd⟩:=h;refine Z8.mpr ⟨e,he,?_⟩;rw[Zw,ZN,ZN,j7 hd];exact⟨rfl,Zs ..⟩
theorem Ob {Do:Dg}(h:At S x<|.tree Do):zW S x ["leaf","tree"]=true:=by
 obtain⟨e,he,rfl,hd⟩:=h;refine Z8.mpr ⟨e,he,?_⟩;rw[Zw,ZN,ZN,j7 hd];exact⟨rfl,Zn _<|Zs ..⟩
theorem Sa (h:Tree d S x):zW S x ["leaf","tree"]=true:=by
 cases d with
 |zero=>exact absurd h<|λz=>z
 |succ d =>
  rcases h with⟨ls,h⟩|⟨Do,h,_⟩
  .exact Oa h
  .exact Ob h
theorem Rt {K:Cq}{Q:VK}{E:XK}(sh:yo P w K C H a fp S)(ok:wM S)(g:vC t)(d:namesOk S t=true)(l:S.length<2000)(hv:Dt K H t.dat v)
  (k:∀H2,Off fp H H2->yo P w K C H2 a fp (CD S t).1->Q (.str (CD S t).2) H2):tX P w K C [.ref a,v] H Q E:=by
 refine⟨a,fp,S,t,v,rfl,sh,ok.th,hv,g,l,λh=>by have:=Nu ok.num h;lia,d,λH2 r i o=>?_⟩
 .skip
  obtain⟨of,b,c,n,q⟩:=o
  rcases q with q|⟨q,j,p⟩
  .rw[q]at c b;have f:=Ff ok (x:=i.nm) ⟨i,c,rfl,n⟩;rw[f]at k;exact k H2 of b
  .have f:=HH (S:=S) (t:=t) λe he hd=>p<|Zr.mpr ⟨e,he,hd⟩;rw[f]at k;rw[j]at q;rw[q]at b;rw[j];exact k H2 of b
inductive uf (P:Er)(w:Eu)(K:Cq)(C:Eo)(vs:Dj)(H:Hp)(Q:VK)(e3:XK):Prop
 |mk (a d:Eo) (fp:Dd) (S:Di) (Do:Dg) (h0:vs=[.ref a,.ref d]) (h1:yo P w K C H a fp S) (h2:wM S) (h3:Rd H d<|.dK<|Ki Do) (h4:(Do.map (·.1)).Nodup) (h5:(∀r∈Do,z9 r.1=true/\zW S r.2 ["leaf","tree"]=true)) (h6:Do.length<=63) (h7:S.length<2000) (h8:∀H',Off fp H H'->yo P w K C H' a fp (CD S<|.tree<|UT Do).1->Q (.str (CD S<|.tree<|UT Do).2) H'):uf P w K C vs H Q e3
theorem CV (h:yo P w K C H a fp S):∃dx d1 d2 d3,H a=some (.ins C dx<|N9 d1 d2 d3):=by
 obtain⟨_,dx,d1,d2,d3,_,_,_,_,h1,_⟩:=h;exact⟨dx,d1,d2,d3,h1⟩
namespace AF
abbrev st:Stmt:=top 43
theorem sc:zy ["thing","labels"] ["thing"] (zF st):=Cz
include T in
theorem ok (F:yc0 K "is_path" st f fd)(s:wV P w K mg base 1 "is_label" ["thing"]<|X2 K):zc P w K mg base CA 2 f fd ["thing"] (nM K):=by
 refine F.ok sc λ_ _ _ _ H J Q E t h=>?_;obtain⟨d,v,rfl,hd,D,k⟩:=h;refine⟨_,(zD (yG (yS<|zU (K:=K)<|zJ (z7 (K:=K)) (by rfl) T.isinstance ZA<|zA (pv 0)<|zA (y6 (v:=.ty "str") rfl T.str Z7 rfl) zB) (zE<|zL qN) zR)<|zD (Cv (i:=1) sc.nd<|k6 YF PySem.F.slot_str_split PySem.F.type_str_split F9 (pv 0)<|zA zz zB)<|zE<|zL<|y8 (yK Hn (zJ zQ (by rfl) T.len ZZ<|zA (pv 1) zB) (y7 (v:=.int 4) rfl T.pH ⟨_,rfl⟩)<|zO _)<|xU<|zJ (kA rfl) (by rfl) T.all Ja<|zA (xL (sc:=zF st) (N:=["thing","labels"]) (N':=["label"]) (src:=[none]) .a rfl rfl rfl (jL<|pv 1) (λ_ _ _ _=>(z6 (i:=0) (show(["label"]:Da).Nodup by decide+kernel) rfl (EU rfl))) (λ_ _ _ _=>qD) (λ_ _ _ _=>(zK s t.m<|zA (pv 0) zB))) zB),?_⟩
 refine⟨_,rfl,_,_,d,_,rfl,hd,T.is<|by simp[kinds],_,rfl,?_⟩;cases d with
 |str x =>
  cases(show v=_ from hd);have L:x.length<=1000:=ZI D;have cl:=Ih x;refine UC ⟨_,rfl,rfl,x,47,rfl,SY,by lia,λl A=>?_⟩;rw[Pr];have u:=zG (o:=.lst<|(UJ x).map V.str) A;refine⟨_,rfl,l,_,rfl,.inl<|yu.of zC,_,_,rfl,rfl,_,rfl,UM (λh1=>?_)<|λh1=>?_⟩
  .have h1:(UJ x).length<=4:=by have:=ZI h1;rw[Zk]at this;lia
   refine⟨_,rfl,l,rfl,⟨_,yu.of zC⟩,jG (K:=K) (a:=l) (xs:=(UJ x).map V.str) (λi n r j=>∃o,r=[o]/\zx (upd H l<|.lst<|(UJ x).map V.str) j/\n=(((UJ x).take i).map z9).map V.bl) ⟨none,rfl,zx.refl _,rfl⟩ (zp (by rw[Zk];lia)) ?_ ?_ ?_⟩
   .rintro i n r j I ⟨o,rfl,g,rfl⟩;refine⟨yu.of<|g _ _ zC,?_⟩;rw[Zk,Zk,ZS];lia
   .rintro i y n r j c ⟨o,rfl,g,rfl⟩;rw[Zy]at c;cases q:(UJ x)[i]? with
    |none=>rw[q]at c;cases c
    |some z =>
     rw[q]at c;have c:V.str z=y:=Option.some.inj c;subst c;have M:=FU<|ZG q;refine⟨_,rfl,.str z,_,rfl,rfl,Zq<|by lia,λG C=>⟨_,rfl,g.trans C,?_⟩⟩;rw[xE q,Zx];rfl
   .rintro n r j ⟨o,rfl,g,rfl⟩ p B;refine⟨p,_,rfl,yu.of zC,?_⟩;rw[Zk,ZV,all_map];have e:U3 (.str x)=(UJ x).all z9:=by
     show(decide ((UJ x).length<=4)&&(UJ x).all z9)=_;rw[Zq h1];rfl
    rw[e]at k;exact k _<|(u.trans g).trans<|zG B
  .have e:U3 (.str x)=false:=by
    show(decide ((UJ x).length<=4)&&(UJ x).all z9)=_;rw[ZE (p:=(UJ x).length<=4)<|λz=>h1<|Zq (by rw[Zk];lia)];rfl
   rw[e]at k;exact k _ u
 |none=>exact UF<|k _<|zx.refl _
 |bool b=>exact UF<|k _<|zx.refl _
 |int i=>exact UF<|k _<|zx.refl _
 |list ds=>exact UF<|k _<|zx.refl _
 |tuple ds=>exact UF<|k _<|zx.refl _
 |dict Dm=>exact UF<|k _<|zx.refl _
end AF
namespace AG
abbrev st:Stmt:=top 44
theorem sc:zy ["path","labels"] ["path"] (zF st):=Cz
include T in
theorem ok (F:yc0 K "folders_of" st f fd):zc P w K mg base CA 1 f fd ["path"] (oG K):=by
 refine F.ok sc λ_ _ _ _ H D Q E C h=>?_;obtain⟨x,rfl,G,k⟩:=h;refine⟨_,(zD (Cv (i:=1) sc.nd<|k6 YF PySem.F.slot_str_split PySem.F.type_str_split F9 (pv 0)<|zA zz zB)<|zE<|zL<|xL (sc:=zF st) (N:=["path","labels"]) (N':=["count","labels"]) (src:=[none,some 1]) .a rfl rfl rfl (GW rfl T.range<|zA zH<|zA (zJ zQ (by rfl) T.len ZZ<|zA (pv 1) zB) zB) (λ_ _ _ _=>(z6 (i:=0) (show(["count","labels"]:Da).Nodup by decide+kernel) rfl (EU rfl))) (λ_ _ _ _=>qD) (λ_ _ _ _=>(k6 (K:=K) YF JY JZ (PR (K:=K)) zz<|zA (uH (lq:W2 _<|aX K) (pv 1) vZ<|v5<|pv 0) zB))),?_⟩
 have cl:=Ih x;have A:=Pu x;have j:("/":Str).length=1:=by decide+kernel
 refine⟨_,rfl,rfl,x,47,rfl,SY,by lia,λl z=>?_⟩;rw[Pr];have u:=zG (o:=.lst<|(UJ x).map V.str) z;refine⟨_,rfl,l,_,rfl,.inl<|yu.of zC,1,(((UJ x).map V.str).length:Int),rfl,⟨by decide,by decide,by lia,by rw[Zk];lia⟩,?_⟩;have q:((((UJ x).map V.str).length:Int)-1).toNat=(UJ x).length-1:=by rw[Zk];lia
 rw[q];refine jI (λi d e c=>∃o,e=[o,some<|.ref l]/\zx (upd H l<|.lst<|(UJ x).map V.str) c/\d=((ET i).map λi=>PySem.Txt.join "/"<|(UJ x).take<|i+1).map V.str) ⟨none,rfl,zx.refl _,rfl⟩ (zp<|by lia) ?_ ?_ ?_
 .rintro i d e c t ⟨o,rfl,b,rfl⟩;rw[Zk,Zk,YI];exact Zt _
 .rintro i d e c t ⟨o,rfl,b,rfl⟩;refine⟨rfl,_,rfl,_,rfl,_,rfl,l,_,rfl,yu.of<|b _ _ zC,λp g=>?_⟩;have r:Gs ((UJ x).map V.str) none (some<|1+(i:Int))=((UJ x).take<|i+1).map V.str:=by
   rw[T6<|by lia,Vh]
   congr 1
   lia
  rw[r];refine⟨"/",p,(UJ x).take<|i+1,rfl,rfl,.inl<|yu.of zC,?_,_,rfl,b.trans<|zG g,?_⟩
  .have h1:=MT (n:=1000) ((UJ x).take<|i+1) (λy v=>by have:=FU<|Jf v;lia);have s:((UJ x).take<|i+1).length<=1001:=by rw[ZS];lia
   have B:((UJ x).take<|i+1).length*1000<=1001*1000:=Nat.mul_le_mul_right _ s;refine zp ?_;rw[j];lia
  .rw[List.range_succ,Zx,Zx];rfl
 .rintro d e c ⟨o,rfl,b,rfl⟩ p g;exact k p _ ((u.trans b).trans<|zG g)<|yu.of zC
end AG
namespace AH
abbrev st:Stmt:=top 45
theorem sc:zy ["path","lines"] ["path","lines"] (zF st):=Cz
include T in
theorem ok (F:yc0 K "is_file" st f fd)(g:wV P w K mg base 2 "is_path" ["thing"]<|nM K)(i:wV P w K mg base 3 "is_lines" ["thing"]<|BB K):zc P w K mg base CA 4 f fd ["path","lines"] (oh K):=by
 refine F.ok sc λ_ _ _ _ H q Q E c h=>?_;obtain⟨d,e,v,u,rfl,hd,he,l,n,k⟩:=h;refine⟨_,(zE<|zL<|y8 (zK g c.m<|zA (pv 0) zB)<|xU<|zK i c.m<|zA (pv 1) zB),?_⟩;refine⟨_,rfl,d,v,rfl,hd,l,λo b=>⟨_,rfl,UM (λh1=>?_)<|λh1=>?_⟩⟩
 .rw[h1,Bool.true_and]at k;exact⟨_,rfl,e,u,rfl,Dw.same b _ _ he,n,λp j=>k _<|b.trans j⟩
 .have h1:=YH.mpr h1;rw[h1]at k;exact k _ b
end AH
namespace AI
abbrev st:Stmt:=top 52
theorem sc:zy ["shelf","rows"] ["shelf","rows"] (zF st):=Cz
include T in
theorem ok (F:yc0 K "put_rows" st f fd)(I:wK P w K mg base aC 7 "put" ["self","thing"]<|tX P w K aC):zc P w K mg base CA 8 f fd ["shelf","rows"] (uf P w K aC):=by
 refine F.ok sc λ_ _ _ _ H vs Q E B h=>?_;obtain⟨a,d,fp,S,c,rfl,sh,ok,hd,nd,j,rl,Y,k⟩:=h;refine⟨_,(zE<|zL<|yE (pv 0) T.cls I B.m zX<|zA (yR<|zA zz<|zA (z8 jK (by rfl) T.tuple YA<|zA (Ri (K:=K) rfl B.units (by rfl) T.sorted YX<|pv 1) zB) zB) zB),?_⟩;obtain⟨O,i1,i2,i3,t⟩:=CV sh;have n:∀r∈c,z9 r.1=true/\Ok 1000 r.2:=λr m=>by
  obtain⟨e,he,M⟩:=Zr.mp<|kM (j r m).2;exact⟨(j r m).1,by rw[<-M];exact ok.nm he⟩
 refine⟨_,rfl,a,O,_,rfl,t,rfl,_,rfl,d,c,rfl,hd,by lia,λp A=>⟨(k9 (n p A).1).ok,(n p A).2.ok⟩,λl ss s z U so Z nl hl L=>?_⟩;have N:=RF nd U so;subst N;refine⟨l,_,rfl,.inl ⟨yu.of hl,λp2 n2=>?_⟩⟩;have D:=zG (o:=.tup s) n2;refine⟨UD 2,λq R=>?_⟩;have y:=zG (o:=.tup [V.str "tree",V.ref p2]) R;have i:=(Z.trans D).trans y;have J:Dt K (upd (upd z p2<|.tup s) q<|.tup [V.str "tree",V.ref p2]) (Th.tree<|UT c).dat (.ref q):=⟨q,_,rfl,wY.of zC,_,_,rfl,rfl,_,_,rfl,⟨p2,s,rfl,wY.of<|y _ _ zC,zu.same (D.trans y) _ _ L⟩,rfl⟩;have C:∀{r},r∈UT c↔r∈c:=(x5 c).mem_iff;have g:vC (.tree<|UT c):=Of (λr m=>n r<|C.mp m) (SV<|HU nd) (by rwa[(x5 c).length_eq]);have u:namesOk S (.tree<|UT c)=true:=ZQ.mpr λr m=>(j r<|C.mp m).2;delta Xj;dsimp only;show tX P w K aC [V.ref a,V.ref q] (upd (upd z p2<|.tup s) q<|.tup [V.str "tree",V.ref p2]) _ _;exact Rt (sh.same i) ok g u Y J λG v x=>k G (λb o nb e=>v b o nb<|i _ _ e) x
end AI
def Gz (P:Er)(w:Eu)(K:Cq)(C:Eo):Nat->Sp
 | 0=>λ_ _ _ _=>False
 |d+1=>λf H Q _=>∃(a c:Eo) (fp:Dd) (S:Di) (fs:Dk) (e:Dl),f=[.ref a,.ref c]/\yo P w K C H a fp S/\wM S/\H c=some (.dK e)/\c∉fp/\yp K H fs e/\yj (d+1) fs/\fs.length<=63/\S.length+1+wt fs<=2000 /\
  ∀b,Off fp H b->yo P w K C b a fp (UG (d+1) S fs).1->Q (.str (UG (d+1) S fs).2) b
theorem sZ {b:Type}{l:List b}{i:Nat}{x:b}(h:l[i]?=some x):l.take (i+1)=l.take i++[x]:=by rw[Yi,h];rfl
theorem IH {g:TG}{tb:TS}{D:Ends}{b:St}{H:Hp}{d:Eo}{ob:Obj}{Dm:Dl}(c:Nat->St->Hp->Prop)(h0:c 0 b H)(hl:∀i b H,i<=Dm.length->c i b H->H d=some (.frz ob<|.dK Dm))
  (hs:∀i k v T b H,Dm[i]?=some (k,v)->c i b H->H T=none->∀D':Ends,(∀b H,c (i+1) b H->D'.nx b H)->g (.ref T) b (upd H T<|.tup [kV k,v]) λσ2 H2=>tb D' σ2 H2) (hd:∀b H,c Dm.length b H->D.nx b H):NU (bx d Dm ob) g tb D b H :=
 Bm c h0 hl (λi k v T b H h p n=>hs i k v T b H h p n _ λ_ _ h=>h) hd
namespace AJ
abbrev st:Stmt:=top 53
theorem sc:zy ["shelf","files","rows","folders","path","lines","parts","label","beneath"] ["shelf","files"] (zF st):=Cz
theorem step {L d:Nat}(F:yc0 K "put_files" st f fd)(T:Txt P w K mg t1 t2 t3 t4 t5 t6 t7 aL aC aN aT aA b1 b2 b3 b4 b5 b6 b7 b8 aD)(Qb:wK P w K mg base aC 7 "put" ["self","thing"]<|tX P w K aC)(Qe:wV P w K mg base 8 "put_rows" ["shelf","rows"]<|uf P w K aC)(hL:8<=L)(hd:d<=100)(Qu:wV P w K mg base L "put_files" ["shelf","files"]<|Gz P w K aC d):zc P w K mg base CA (L+1) f fd ["shelf","files"] (Gz P w K aC<|d+1):=by
 refine F.ok sc λ_ _ _ _ H vs Q E hr h=>?_;obtain⟨a,c,fp,S,fs,Dm,rfl,sh,ok,hc,dd,ff,gf,fl,sl,k⟩:=h;have hu:=FQ hr;refine⟨_,(zD (Cv (i:=2) sc.nd qY)<|zD (Cv (i:=3) sc.nd qY)<|zD (Id<|qS Lb rfl (IR<|Fe<|pv 1) (Xq rfl<|y9 (z6 (i:=4) sc.nd rfl<|EU rfl)<|y9 (z6 (i:=5) sc.nd rfl<|EU rfl) kO)<|zD (Cv (i:=6) sc.nd<|k6 YF PySem.F.slot_str_partition PySem.F.type_str_partition GH (pv 4)<|zA zz zB)<|zD (Cv (i:=7) sc.nd<|yB (yw:Cy _<|wZ K) (pv 6) zH)<|zE<|yG (zP xH (pv 7) (pv 4)<|zO _) (zE<|yZ hu (pv 2) (pv 7) (yE (pv 0) T.cls Qb (hr.mono<|by lia) zX<|zA (yR<|zA zz<|zA (pv 5) zB) zB) rfl)<|zD (Cv (i:=8) sc.nd<|IF hu (pv 3) (pv 7) qY ⟨rfl,rfl,rfl,rfl⟩)<|zD (yZ hu (pv 8) (yB (yw:Cy _<|wZ K) (pv 6) zH) (pv 5) rfl)<|zE<|yZ hu (pv 3) (pv 7) (pv 8) rfl)<|zD (Id<|qS Lb rfl (IR<|Fe<|pv 3) (Xq rfl<|y9 (z6 (i:=7) sc.nd rfl<|EU rfl)<|y9 (z6 (i:=8) sc.nd rfl<|EU rfl) kO)<|zE<|yZ hu (pv 2) (pv 7) (zK Qu (hr.mono<|by lia)<|zA (pv 0)<|zA (pv 8) zB) rfl)<|zE<|zL<|zK Qe (hr.mono<|by lia)<|zA (pv 0)<|zA (pv 2) zB),?_⟩
 refine λg ds=>?_;have u1:=zG (o:=.dK []) ds;refine λn de=>?_;have u2:=zG (o:=.dK []) de;have sb:=u1.trans u2;have d1:upd (upd H g (.dK [])) n (.dK []) g=some (.dK<|Ki []):=u2 _ _ zC;have dy:upd (upd H g (.dK [])) n (.dK []) n=some (.dK<|CG []):=zC;have dt:=sh.same sb;have ct:=sb _ _ hc;have dj:=ff.same sb;have a5:H g=none:=ds;have ai:H n=none:=u1.free de;have rf:g≠n:=zS (zC (H:=H) (a:=g) (o:=.dK [])) de;generalize upd (upd H g (.dK [])) n (.dK [])=Hb at sb d1 dy dt ct dj ⊢;have cr:c≠g:=zS hc a5;have cf:c≠n:=zS hc ai;refine⟨_,rfl,c,Dm,rfl,ct,λob=>?_⟩;have a7:upd Hb c (.frz ob<|.dK Dm) c=some (.frz ob<|.dK Dm):=zC;have nz:∀{b:Eo},b≠c->upd Hb c (.frz ob<|.dK Dm) b=Hb b:=λ{b} z=>zI z;have oz:Off [c] Hb (upd Hb c<|.frz ob<|.dK Dm):=zY;have bt:yo P w K aC (upd Hb c<|.frz ob<|.dK Dm) a fp S:=dt.off (yF ct) oz λb hb z=>dd<|Zl.mp z▸hb;have dk:=dj.off (yF ct) oz;have bh:upd Hb c (.frz ob<|.dK Dm) g=some (.dK<|Ki []):=by rwa[nz<|EC cr]
 have a1:upd Hb c (.frz ob<|.dK Dm) n=some (.dK<|CG []):=by rwa[nz<|EC cf]
 have dl:∀{b:Eo},upd Hb c (.frz ob<|.dK Dm) b=none->Hb b=none/\b≠c:=λ{b} z=>by
  have ne:b≠c:=λq=>by rw[q,zC]at z;cases z
  rw[nz ne]at z;exact⟨z,ne⟩
 generalize upd Hb c (.frz ob<|.dK Dm)=H1 at a7 nz oz bt dk bh a1 dl ⊢;have di:∀b∈g::n::fp,∃o,H1 b=some o:=λb hb=>by
  rcases Zo.mp hb with z|hb
  .rw[z];exact⟨_,bh⟩
  .rcases Zo.mp hb with z|hb
   .rw[z];exact⟨_,a1⟩
   .exact bt.ex b hb
 have c0:g∉fp:=λz=>by
  obtain⟨o,e⟩:=sh.ex _ z;rw[a5]at e;cases e
 have a6:n∉fp:=λz=>by
  obtain⟨o,e⟩:=sh.ex _ z;rw[ai]at e;cases e
 have cX:c∉g::n::fp:=λz=>by
  rcases Zo.mp z with z|z
  .exact cr z
  .rcases Zo.mp z with z|z
   .exact cf z
   .exact dd z
 have kl:Dm.length=fs.length:=ff.len;have d3:∀b∈g::n::fp,∀xs,¬Rd H1 b (.tup xs):=λb hb=>by
  rcases Zo.mp hb with z|hb
  .exact yF bh b (Zl.mpr z)
  .rcases Zo.mp hb with z|hb
   .exact yF a1 b (Zl.mpr z)
   .exact bt.wA.tup b hb
 refine⟨c,ob,Dm,rfl,a7,IH (λi σ t=>∃o4 o5 o6 o7 o8 s,σ=[some<|.ref a,some<|.ref c,some<|.ref g,some<|.ref n,o4,o5,o6,o7,o8]/\yo P w K aC t a fp ((Cw<|fs.take i).foldl Cr (S,[])).1/\t g=some (.dK<|Ki ((Cw<|fs.take i).foldl Cr (S,[])).2)/\t n=some (.dK<|CG s)/\wJ K H1 t (fs.take i) s/\Off (g::n::fp) H1 t) ⟨none,none,none,none,none,[],rfl,bt,bh,a1,wJ.nil,Off.refl _ _⟩ (λi σ t hi h=>?_) ?_ ?_⟩
 .obtain⟨_,_,_,_,_,_,_,_,_,_,_,o⟩:=h;exact o _ _ cX a7
 .rintro i kk v T0 σ t hi ⟨o4,o5,o6,o7,o8,s,rfl,J,U,ad,Fl,D⟩ nT D' hD;obtain⟨f,c8,rfl,dv,ap⟩:=dk.get hi;obtain⟨co,cl,bm⟩:=aF ok gf sl i;have cd:=sZ c8;have dm:=gf.wL f<|ZG c8;have dh:Dt K t (AnJ.yg f.2) v:=Dt.off d3 D _ _ (kC ap) dv;have uT:=zG (o:=.tup [kV<|.inr<|Cs f.1,v]) nT;refine⟨T0,_,rfl,wY.of zC,rfl,_,_,rfl,_,_,rfl,rfl,?_⟩;have a4:=J.same uT;have a8:=uT _ _ U;have al:=uT _ _ ad;have av:=Fl.same uT;have a3:=D.trans<|Off.of uT;have c2:=Dt.same uT _ _ dh;generalize upd t T0 (.tup [kV<|.inr<|Cs f.1,v])=H2 at a4 a8 al av a3 c2 ⊢;clear J U ad Fl D dh nT uT;have go:∀{R:Hp},zx H2 R->yo P w K aC R a fp ((Cw<|fs.take i).foldl Cr (S,[])).1/\R g=some (.dK<|Ki ((Cw<|fs.take i).foldl Cr (S,[])).2)/\R n=some (.dK<|CG s)/\wJ K H1 R (fs.take i) s/\Off (g::n::fp) H1 R/\Dt K R (AnJ.yg f.2) v:=λ{R} e=>⟨a4.same e,e _ _ a8,e _ _ al,av.same e,a3.trans<|Off.of e,Dt.same e _ _ c2⟩;have a0:∀{R:Hp} {b:Eo},yo P w K aC R a fp ((Cw<|fs.take i).foldl Cr (S,[])).1->R g=some (.dK<|Ki ((Cw<|fs.take i).foldl Cr (S,[])).2)->R n=some (.dK<|CG s)->Off (g::n::fp) H1 R->R b=none->H1 b=none:=λ{R b} h1 h2 h3 o z=>by
   cases q:H1 b with
   |none=>rfl
   |some x =>
    by_cases m:b∈g::n::fp
    .rcases Zo.mp m with y|m
     .rw[y,h2]at z;cases z
     .rcases Zo.mp m with y|m
      .rw[y,h3]at z;cases z
      .obtain⟨o',e'⟩:=h1.ex b m;rw[e']at z;cases z
    .rw[o b x m q]at z;cases z
  have ql:((Cw<|fs.take i).foldl Cr (S,[])).2.length<=63:=by
   have:=congrArg List.length bm;rw[Zk,Zk]at this;have h2:=jA<|fs.take i;rw[ZS]at h2;lia
  match e1:f.1,dm with
  |[],gl=>exact absurd rfl gl.1
  |[l],gl =>
   have ep:Cs [l]=l:=IM l;rw[ep];have db:z9 l=true:=gl.2.2.1 l<|Zl.mpr rfl;refine⟨_,rfl,rfl,.inr ⟨l,47,rfl,SY,qK db,λp np=>?_⟩⟩;have up:=zG (o:=.tup [V.str l,V.str "",V.str ""]) np;obtain⟨M,Y,B,I,ac,ax⟩:=go up;refine⟨_,rfl,p,_,_,_,rfl,rfl,wY.of zC,rfl,?_⟩;refine⟨_,rfl,_,rfl,rfl,true,?_,UF ?_⟩
   .show V.bl (decide (V.str l=V.str l))=V.bl true;rw[Zq rfl]
   generalize upd H2 p (.tup [V.str l,V.str "",V.str ""])=R at M Y B I ac ax ⊢;obtain⟨ix,i1,i2,i3,dz⟩:=CV M;refine⟨_,rfl,a,ix,_,rfl,dz,rfl,_,rfl,UD 2,λp4 n4=>?_⟩;have v4:=zG (o:=.tup [V.str "leaf",v]) n4;obtain⟨vp,ea,rfl,vt,vd⟩:=id ax;have d0:Dt K (upd R p4<|.tup [V.str "leaf",V.ref vp]) (Th.leaf f.2).dat (.ref p4):=⟨p4,_,rfl,wY.of zC,_,_,rfl,rfl,_,_,rfl,Dt.same v4 _ _ ax,rfl⟩;have au:=M.same v4;have a2:=v4 _ _ Y;have am:=v4 _ _ B;have O:=I.same v4;have ah:=ac.trans<|Off.of v4;delta Xj;dsimp only;show tX P w K aC [V.ref a,V.ref p4] (upd R p4<|.tup [V.str "leaf",V.ref vp]) _ _;generalize upd R p4 (.tup [V.str "leaf",V.ref vp])=H4 at d0 au a2 am O ah ⊢;have el:Cw (fs.take<|i+1)=Cw (fs.take i)++[(l,f.2)]:=by rw[cd,vQ,e1]
   have ef:(Cw<|fs.take<|i+1).foldl Cr (S,[])=Cr ((Cw<|fs.take i).foldl Cr (S,[])) (l,f.2):=by rw[el,Jy];rfl
   have nl:l∉((Cw<|fs.take i).foldl Cr (S,[])).2.map (·.1):=λz=>by
    rw[bm]at z;have nd:=PL (fs:=fs.take<|i+1) (by rw[Vh];exact gf.nd.sublist<|List.take_sublist _ _);rw[el,Zx,YD]at nd;exact nd.2.2 l z l (Zl.mpr rfl) rfl
   have df:=O.one (f:=f) e1;rw[<-cd]at df;clear a0 go bm;generalize (Cw<|fs.take i).foldl Cr (S,[])=q at au a2 co cl ef nl ql;refine Rt au co (Oc ap.2 ap.1) rfl cl d0 λH5 G N=>?_;have Z:H5 g=_:=G _ _ c0 a2;have C:H5 n=_:=G _ _ a6 am;have A:=df.off (X:=fp) (λc hc=>di c<|Zn _<|Zn _ hc) au.wA.tup G;have as:Off (g::n::fp) H1 H5:=λb o nb e=>G b o (λz=>nb<|Zn _<|Zn _ z) (ah b o nb e);refine⟨_,rfl,_,rfl,g,_,rfl,tD.k (k:=.inr l) Z<|yJ (by unfold Ki;rw[Zk];lia),hD _ _ ⟨_,_,_,_,_,s,rfl,?_,?_,?_,?_,?_⟩⟩
   .rw[ef];exact N.off (yF Z) zY λb hb z=>c0<|Zl.mp z▸hb
   .rw[ef,zC,NI nl];rfl
   .rwa[zI<|EC rf]
   .exact A.off (X:=[g]) (λc hc=>by rw[Zl.mp hc];exact⟨_,bh⟩) (yF Z) zY
   .exact as.upd (Zs ..)
  |l::b::r,gl =>
   have ep:Cs (l::b::r)=l++⟨#[47]⟩++Cs (b::r):=SQ l b r;have db:z9 l=true:=gl.2.2.1 l<|Zs ..;have pl:(Cs (l::b::r)).length<=100000:=by
    have:=Ib gl.2.2.1;have h4:=gl.2.1;rw[zf];lia
   have el:Cw (fs.take<|i+1)=Cw (fs.take i):=by rw[cd,vQ,e1];exact Z2 _
   have d9:=S5 gf c8 e1;refine⟨_,rfl,rfl,.inl ⟨l,Cs (b::r),47,by rw[ep];rfl,SY,qK db,by rw[<-ep];exact pl,λp np=>?_⟩⟩;have up:=zG (o:=.tup [V.str l,V.str ⟨#[47]⟩,V.str<|Cs (b::r)]) np;obtain⟨M,Y,B,I,ac,ax⟩:=go up;have c9:upd H2 p (.tup [V.str l,V.str ⟨#[47]⟩,V.str<|Cs (b::r)]) p=some (.tup [V.str l,V.str ⟨#[47]⟩,V.str<|Cs (b::r)]):=zC;refine⟨_,rfl,p,_,_,_,rfl,rfl,wY.of zC,rfl,?_⟩;refine⟨_,rfl,_,rfl,rfl,false,?_,UC ?_⟩
   .show V.bl (decide (V.str l=V.str (Cs (l::b::r))))=V.bl false;rw[ZE λz=>Wv l b r<|by injection z]
   generalize upd H2 p (.tup [V.str l,V.str ⟨#[47]⟩,V.str<|Cs (b::r)])=R at M Y B I ac ax c9 ⊢;refine⟨_,rfl,n,rfl,.inl ⟨_,.inl B⟩,_,rfl,λe ne=>?_⟩;have ue:=zG (o:=.dK []) ne;have c4:H1 e=none:=a0 M Y B ac ne;have au:=M.same ue;have a2:=ue _ _ Y;have am:=ue _ _ B;have O:=I.same ue;have ah:=ac.trans<|Off.of ue;have c3:=Dt.same ue _ _ ax;have da:=ue _ _ c9;have cv:upd R e (.dK []) e=some (.dK []):=zC;have d2:∀q∈s,q.2≠e:=λq hq z=>by
    obtain⟨kq,dq,_⟩:=I.at_ q hq;rw[z,ne]at dq;cases dq
   generalize upd R e (.dK [])=H4 at au a2 am O ah c3 da cv ⊢;clear a4 a8 al av a3 c2 go a0 M Y B I ac ax c9 up np;have dc:s.map (·.1)=CC (fs.take i):=O.wL;have c6:s.length<=63:=by
    have:=congrArg List.length dc;rw[Zk]at this;have h2:=jA<|fs.take i;rw[ZS]at h2;lia
   have dr:∀{x:Eo},H1 x=none->x∉g::n::fp:=λ{x} hx z=>by
    obtain⟨o',e'⟩:=di x z;rw[hx]at e';cases e'
   by_cases inl:l∈CC (fs.take i)
   .have cz:l∈s.map (·.1):=by rwa[dc]
    obtain⟨pr,an,c5⟩:=Zr.mp cz;obtain⟨cp,pb⟩:=pr;have c5:cp=l:=c5;subst c5;have vv:=vB O.sH an;refine⟨_,ux.k (k:=.inr cp) am,?_⟩;rw[vv];obtain⟨kb,hb,fb⟩:=O.at_ _ an;have hb:H4 pb=some (.dK kb):=hb;have fb:yp K H4 (sub (fs.take i) cp) kb:=fb;have nb:H1 pb=none:=O.new _ an;have d8:kb.length<=63:=by
     have:=fb.len;have h2:=sub_len (fs:=fs.take i) (l:=cp);rw[ZS]at h2;lia
    refine⟨_,rfl,_,rfl,_,rfl,p,_,_,_,rfl,rfl,wY.of da,rfl,pb,_,rfl,tD.k (k:=.inr<|Cs (b::r)) hb<|yJ<|by lia,?_⟩;have pn:yt kb (.inr<|Cs (b::r)) v=kb++[(.inr<|Cs (b::r),v)]:=jV (by rwa[fb.keys]);rw[pn];have A:=O.old an hb fb e1 c3 ap;rw[<-cd]at A;have bX:=dr nb;have cc:g≠pb:=λz=>bX (by rw[<-z];exact Zs ..);have bv:n≠pb:=λz=>bX (by rw[<-z];exact Zn _<|Zs ..);have ca:pb∉fp:=λz=>bX<|Zn _<|Zn _ z;have G:Off (g::n::fp) H1 (upd H4 pb<|.dK<|kb++[((.inr (Cs (b::r)):Key),v)]):=λx o nx ex=>by
     rw[zI (λz=>by rw[z,nb]at ex;cases ex)];exact ah x o nx ex
    have N:=au.off (yF hb) (zY (o:=.dK<|kb++[((.inr (Cs (b::r)):Key),v)])) λx hx z=>ca (by rwa[<-Zl.mp z]);have Z:=(zI (o:=.dK<|kb++[((.inr (Cs (b::r)):Key),v)]) cc).trans a2;have C:=(zI (o:=.dK<|kb++[((.inr (Cs (b::r)):Key),v)]) bv).trans am;generalize upd H4 pb (.dK<|kb++[((.inr (Cs (b::r)):Key),v)])=H5 at A G N Z C ⊢;refine⟨_,rfl,_,rfl,_,rfl,n,_,rfl,tD.k (k:=.inr cp) C<|yJ (by unfold CG;rw[Zk];lia),hD _ _ ⟨_,_,_,_,_,s,rfl,?_,?_,?_,?_,?_⟩⟩
    .rw[el];exact N.off (yF C) zY λx hx z=>a6<|Zl.mp z▸hx
    .rwa[el,zI rf]
    .rw[zC];exact congrArg (λz=>some<|HO.dK z) (FJ O.sH an)
    .exact A.off (X:=[n]) (λc hc=>by rw[Zl.mp hc];exact⟨_,a1⟩) (yF C) zY
    .exact G.upd (Zn _<|Zs ..)
   .have cz:l∉s.map (·.1):=by rwa[dc]
    have vv:=Pb cz;refine⟨_,ux.k (k:=.inr l) am,?_⟩;rw[vv];refine⟨_,rfl,_,rfl,_,rfl,p,_,_,_,rfl,rfl,wY.of da,rfl,e,_,rfl,tD.k (k:=.inr<|Cs (b::r)) cv<|yJ (by show 0<16777216;decide),?_⟩;have bX:=dr c4;have cc:g≠e:=λz=>bX (by rw[<-z];exact Zs ..);have bv:n≠e:=λz=>bX (by rw[<-z];exact Zn _<|Zs ..);have ca:e∉fp:=λz=>bX<|Zn _<|Zn _ z;have pn:yt ([]:Dl) (.inr<|Cs (b::r)) v=[(.inr<|Cs (b::r),v)]:=rfl;rw[pn];have A:=O.jm inl cv c4 d2 e1 c3 ap;rw[<-cd]at A;have G:Off (g::n::fp) H1 (upd H4 e<|.dK [((.inr (Cs (b::r)):Key),v)]):=λx o nx ex=>by
     rw[zI (λz=>by rw[z,c4]at ex;cases ex)];exact ah x o nx ex
    have N:=au.off (yF cv) (zY (o:=.dK [((.inr (Cs (b::r)):Key),v)])) λx hx z=>ca (by rwa[<-Zl.mp z]);have Z:=(zI (o:=.dK [((.inr (Cs (b::r)):Key),v)]) cc).trans a2;have C:=(zI (o:=.dK [((.inr (Cs (b::r)):Key),v)]) bv).trans am;generalize upd H4 e (.dK [((.inr (Cs (b::r)):Key),v)])=H5 at A G N Z C ⊢;refine⟨_,rfl,_,rfl,_,rfl,n,_,rfl,tD.k (k:=.inr l) C<|yJ (by unfold CG;rw[Zk];lia),hD _ _ ⟨_,_,_,_,_,s++[(l,e)],rfl,?_,?_,?_,?_,?_⟩⟩
    .rw[el];exact N.off (yF C) zY λx hx z=>a6<|Zl.mp z▸hx
    .rwa[el,zI rf]
    .rw[zC];exact congrArg (λz=>some<|HO.dK z) (FI cz)
    .exact A.off (X:=[n]) (λc hc=>by rw[Zl.mp hc];exact⟨_,a1⟩) (yF C) zY
    .exact G.upd (Zn _<|Zs ..)
 .rintro σ t ⟨o4,o5,o6,o7,o8,s,rfl,J,U,ad,Fl,D⟩;rw[kl,ZV]at J U Fl;refine⟨c,ob,Dm,D _ _ cX a7,λo u z=>?_,?_⟩
  .have z:H c=some (.frz o u):=z;rw[hc]at z;cases z
  have dn:=D _ _ cX a7;have ch:∀x∈[c],∀xs,¬Rd t x (.tup xs):=λx hx xs z=>by
   rw[Zl.mp hx]at z
   rcases z with z|⟨o,z⟩<;>rw[dn]at z<;>cases z
  have oc:Off [c] t (upd t c<|.dK Dm):=zY;have a4:yo P w K aC (upd t c<|.dK Dm) a fp ((Cw fs).foldl Cr (S,[])).1:=J.off ch oc λx hx z=>dd<|Zl.mp z▸hx;have a8:upd t c (.dK Dm) g=some (.dK<|Ki ((Cw fs).foldl Cr (S,[])).2):=by rwa[zI<|EC cr]
  have al:upd t c (.dK Dm) n=some (.dK<|CG s):=by rwa[zI<|EC cf]
  have av:wJ K H1 (upd t c<|.dK Dm) fs s:=Fl.off (X:=[c]) (λx hx=>by rw[Zl.mp hx];exact⟨_,a7⟩) ch oc;have a3:Off fp H (upd t c<|.dK Dm):=λx o nx ex=>by
   by_cases z:x=c
   .rw[z,zC];rw[z,hc]at ex;exact ex
   .rw[zI z];refine D x o (λq=>?_) (by rw[nz z];exact sb _ _ ex)
    rcases Zo.mp q with q|q
    .rw[q,a5]at ex;cases ex
    .rcases Zo.mp q with q|q
     .rw[q,ai]at ex;cases ex
     .exact nx q
  generalize upd t c (.dK Dm)=H2 at a4 a8 al av a3 ⊢;clear J U ad Fl D dn ch oc;refine⟨_,rfl,n,CG s,rfl,al,λab=>?_⟩;have ac:Off [n] H2 (upd H2 n<|.frz ab<|.dK<|CG s):=zY;have B:upd H2 n (.frz ab<|.dK<|CG s) n=some (.frz ab<|.dK<|CG s):=zC;have M:yo P w K aC (upd H2 n<|.frz ab<|.dK<|CG s) a fp ((Cw fs).foldl Cr (S,[])).1:=a4.off (yF al) ac λx hx z=>a6<|Zl.mp z▸hx;have Y:upd H2 n (.frz ab<|.dK<|CG s) g=some (.dK<|Ki ((Cw fs).foldl Cr (S,[])).2):=by rwa[zI rf]
  have I:wJ K H1 (upd H2 n<|.frz ab<|.dK<|CG s) fs s:=av.off (X:=[n]) (λx hx=>by rw[Zl.mp hx];exact⟨_,a1⟩) (yF al) ac;have ah:Off fp H (upd H2 n<|.frz ab<|.dK<|CG s):=λx o nx ex=>by
   rw[zI (λz=>by rw[z,ai]at ex;cases ex)];exact a3 x o nx ex
  generalize upd H2 n (.frz ab<|.dK<|CG s)=R at ac B M Y I ah ⊢;have c6:s.map (·.1)=CC fs:=I.wL;have c7:(CG s).length=(CC fs).length:=by rw[<-c6,Zk];unfold CG;rw[Zk]
  have d6:(Cw fs).length+(CC fs).length<=63:=by have:=jA fs;lia
  refine⟨n,ab,CG s,rfl,B,IH (λj σ t=>∃o4 o5 o6 o7 o8,σ=[some<|.ref a,some<|.ref c,some<|.ref g,some<|.ref n,o4,o5,o6,o7,o8]/\yo P w K aC t a fp (((CC fs).take j).foldl (Cu d fs)<|(Cw fs).foldl Cr (S,[])).1/\t g=some (.dK<|Ki (((CC fs).take j).foldl (Cu d fs)<|(Cw fs).foldl Cr (S,[])).2)/\t n=some (.frz ab<|.dK<|CG s)/\wJ K H1 t fs s/\Off fp H t) ⟨o4,o5,o6,o7,o8,rfl,M,Y,B,I,ah⟩ (λj σ t hj h=>?_) ?_ ?_⟩
  .obtain⟨_,_,_,_,_,_,_,_,hf,_⟩:=h;exact hf
  .clear M Y B I ah a4 a8 al av a3;rintro j kk v T0 σ t hj ⟨o4,o5,o6,o7,o8,rfl,J,U,ad,Fl,D⟩ nT D' hD;unfold CG at hj;rw[Zy]at hj;obtain⟨pr,dp,hj⟩:=Z0.mp hj;obtain⟨l,b⟩:=pr;have hj:((.inr l:Key),V.ref b)=(kk,v):=hj;cases hj;have an:=ZG dp;have cx:(CC fs)[j]?=some l:=by rw[<-c6,Zy,dp];rfl
   obtain⟨co,cl,bm⟩:=bK ok gf fl sl cx;have uT:=zG (o:=.tup [V.str l,V.ref b]) nT;refine⟨T0,_,rfl,wY.of zC,rfl,_,_,rfl,_,_,rfl,rfl,?_⟩;have N:=J.same uT;have Z:=uT _ _ U;have C:=uT _ _ ad;have A:=Fl.same uT;have G:=D.trans<|Off.of uT;show Tv _ _ _ _ _ (upd t T0<|.tup [V.str l,V.ref b]);generalize upd t T0 (.tup [V.str l,V.ref b])=H5 at N Z C A G ⊢;clear J U ad Fl D uT nT;obtain⟨kb,hb,fb⟩:=A.at_ _ an;have hb:H5 b=some (.dK kb):=hb;have fb:yp K H5 (sub fs l) kb:=fb;have nb:H1 b=none:=A.new _ an;have dx:b∉fp:=λz=>by
    obtain⟨o',e'⟩:=bt.ex b z;rw[nb]at e';cases e'
   cases d with
   |zero =>
    obtain⟨f,hf,b,r,ef⟩:=((xR fs).2 l).mp<|ZG cx;have:=(gf.wL f hf).2.1;rw[ef,ZF,ZF]at this;lia
   |succ d =>
    have el:(CC fs).take (j+1)=(CC fs).take j++[l]:=sZ cx;have ef:((CC fs).take<|j+1).foldl (Cu (d+1) fs) ((Cw fs).foldl Cr (S,[]))=Cu (d+1) fs (((CC fs).take j).foldl (Cu (d+1) fs)<|(Cw fs).foldl Cr (S,[])) l:=by rw[el,Jy];rfl
    have nl:l∉(((CC fs).take j).foldl (Cu (d+1) fs)<|(Cw fs).foldl Cr (S,[])).2.map (·.1):=λz=>by
     rw[bm]at z;have nd:=XD gf;have e0:(pieces fs).map (·.1)=(Cw fs).map (·.1)++CC fs:=by
      unfold pieces;rw[Zx,ZM,ZM]
      congr 1
      exact Vu _
     rw[e0,<-YW j (CC fs),<-YC,YD]at nd;have hd:(CC fs).drop j=l::(CC fs).drop (j+1):=by
      have:=(ZJ.mp cx);rw[<-this.2];exact List.drop_eq_getElem_cons this.1
     exact nd.2.2 l z l (by rw[hd];exact Zs ..) rfl
    have ql:(((CC fs).take j).foldl (Cu (d+1) fs)<|(Cw fs).foldl Cr (S,[])).2.length<=63:=by
     have:=congrArg List.length bm;rw[Zk,ZB,Zk,ZS]at this;lia
    generalize ((CC fs).take j).foldl (Cu (d+1) fs) ((Cw fs).foldl Cr (S,[]))=q at N Z co cl ef nl ql;refine⟨_,rfl,_,rfl,a,b,fp,q.1,sub fs l,kb,rfl,N,co,hb,dx,fb,gf.sub l,Yk sub_len fl,cl,λH6 as c1=>?_⟩;have a9:H6 g=_:=as _ _ c0 Z;have d7:H6 n=_:=as _ _ a6 C;have du:=A.off (X:=fp) (λc hc=>bt.ex c hc) N.wA.tup as;refine⟨_,rfl,_,rfl,g,_,rfl,tD.k (k:=.inr l) a9<|yJ (by unfold Ki;rw[Zk];lia),hD _ _ ⟨_,_,_,_,_,rfl,?_,?_,?_,?_,?_⟩⟩
    .rw[ef];exact c1.off (yF a9) zY λx hx z=>c0<|Zl.mp z▸hx
    .rw[ef,zC,NI nl];rfl
    .rwa[zI<|EC rf]
    .exact du.off (X:=[g]) (λc hc=>by rw[Zl.mp hc];exact⟨_,bh⟩) (yF a9) zY
    .intro x o nx ex;rw[zI (λz=>by rw[z,a5]at ex;cases ex)];exact as x o nx<|G x o nx ex
  .rintro σ t ⟨o4,o5,o6,o7,o8,rfl,J,U,ad,Fl,D⟩;rw[c7,ZV]at J U;refine⟨n,ab,CG s,ad,λo u z=>?_,?_⟩
   .have z:H n=some (.frz o u):=z;rw[ai]at z;cases z
   have ch:∀x∈[n],∀xs,¬Rd t x (.tup xs):=λx hx xs z=>by
    rw[Zl.mp hx]at z
    rcases z with z|⟨o,z⟩<;>rw[ad]at z<;>cases z
   have c1:=J.off ch (zY (o:=.dK<|CG s)) λx hx z=>a6<|Zl.mp z▸hx;have a9:=(zI (o:=.dK<|CG s) rf).trans U;have as:Off fp H (upd t n<|.dK<|CG s):=λx o nx ex=>by
    rw[zI (λz=>by rw[z,ai]at ex;cases ex)];exact D x o nx ex
   have fe:=ak ok gf fl sl (q:=(CC fs).foldl (Cu d fs)<|(Cw fs).foldl Cr (S,[])) rfl;have pf:=NF d S fs;rw[pf]at k;generalize (CC fs).foldl (Cu d fs) ((Cw fs).foldl Cr (S,[]))=q at c1 a9 fe k;obtain⟨g1,g2,g3,g4,g5⟩:=fe;exact⟨_,rfl,_,rfl,a,g,fp,q.1,q.2,rfl,c1,g1,.inl a9,g3,λr hr=>⟨(g4 r hr).1,let ⟨e,te⟩:=(g4 r hr).2;Sa te⟩,g5,g2,λH7 d4 d5=>k H7 (as.trans d4) d5⟩
end AJ
theorem Pc (g:yj n fs){f:Fi}(o:f∈fs){z:Str}(hz:z∈Xg (Cs f.1)):∀k∈fs,z≠Cs k.1:=λk hk e=>by
 obtain⟨r,_,l,_⟩:=g.wL f o;obtain⟨s,_,t,_⟩:=g.wL k hk;have u:UJ (Cs f.1)=f.1:=uP r λy j=>qK<|l y j;unfold Xg at hz;obtain⟨i,c,b⟩:=Zr.mp hz;rw[u]at c b;have c:=JF.mp c;have b:Cs (f.1.take<|i+1)=z:=b;have v:f.1.take (i+1)≠[]:=by
  intro q;have:=congrArg List.length q;rw[ZS,Y7]at this;lia
 have:=jR (d:=0) v s (λy j=>l y<|Jf j) t (b.trans e);have p:f.1=k.1++f.1.drop (i+1):=by rw[<-this,YW]
 have:=congrArg List.length<|g.pre k hk f o _ p;rw[Jo,Y7]at this;lia
theorem Bq {f:Fi}{n:Nat}(i:n<=4){fs:Dk}(g:yj n fs)(d:f∈fs):U3 (.str<|Cs f.1)=true/\jE (AnJ.yg f.2)=true/\small (.str<|Cs f.1)=true/\small (AnJ.yg f.2)=true:=by
 obtain⟨c,e,b,fn⟩:=g.wL f d;refine⟨Bi c (by lia) b,?_,?_,?_⟩
 .show(f.2.map EQ).all UZ=true;rw[List.all_map,ZQ];exact fn.2
 .refine Zq ?_;have:=Ib b;rw[zf];lia
 .show(decide ((f.2.map EQ).length<=1000)&&yL (f.2.map .str))=true;rw[kB λl hl=>(j5<|fn.2 l hl).len,Zk,Zq (show f.2.length<=1000 by have:=fn.1;lia)];rfl
def Oj:Key->Ey
 | .inl i=>.int i
 | .inr x=>.str x
theorem Sh {K:Cq}(k:Key):Dw K H (Oj k) (kV k):=by cases k<;>rfl
def Gw (p:Key×Ey):Bool:=U3 (Oj p.1)&&jE p.2
def BL (k:Key)(ks:List Key):Bool:=ks.any λj=>decide (j=k)
theorem tH:BL k ks=true↔k∈ks:=by
 unfold BL;rw[Z8];exact⟨λ⟨j,h1,b⟩=>ZI b▸h1,λh=>⟨k,h,Zq rfl⟩⟩
def uO (ks:List Key):Key->Bool
 | .inl _=>false
 | .inr x=>(Xg x).any λf=>BL (.inr f) ks
def UY (ps:List<|Key×Ey):Bool:=ps.all Gw&&ps.all λp=>!uO (ps.map (·.1)) p.1
def yh (K:Cq)(H:Hp):List (Key×Ey)->Dl->Prop
 |[],Dm=>Dm=[]
 |p::ps,Dm=>∃v r,Dm=(p.1,v)::r/\Dw K H p.2 v/\small (Oj p.1)=true/\small p.2=true/\yh K H ps r
theorem yh.same {K:Cq}(e:zx H H'):∀{ps:List (Key×Ey)} {Dm:Dl},yh K H ps Dm->yh K H' ps Dm
 |[],_,h=>h
 |p::ps,_,⟨v,r,h1,h2,h3,h4,h5⟩=>⟨v,r,h1,Dw.same e _ _ h2,h3,h4,yh.same e h5⟩
theorem yh.keys {K:Cq}:∀{ps:List (Key×Ey)} {Dm:Dl},yh K H ps Dm->Dm.map (·.1)=ps.map (·.1)
 |[],_,h=>by rw[show _=[] from h];rfl
 |p::ps,_,⟨v,r,h1,h2,h3,h4,h5⟩=>by rw[h1,ZL,ZL,yh.keys h5]
theorem yh.length {K:Cq}(h:yh K H ps Dm):Dm.length=ps.length:=by
 have:=congrArg List.length h.keys;rw[Zk,Zk]at this;exact this
theorem yh.get {K:Cq}:∀{ps:List (Key×Ey)} {Dm:Dl} {i:Nat} {k:Key} {v:V},yh K H ps Dm->Dm[i]?=some (k,v)->∃d,ps[i]?=some (k,d)/\Dw K H d v/\small (Oj k)=true/\small d=true
 |[],_,i,_,_,h,e=>by rw[show _=[] from h]at e;cases e
 |p::ps,_,0,k,v,⟨v',r,h1,h2,h3,h4,h5⟩,e=>by
  rw[h1]at e;have e:(p.1,v')=(k,v):=Option.some.inj e;injection e with b c;subst c;obtain⟨g,f⟩:=p;have b:g=k:=b;subst b;exact⟨f,rfl,h2,h3,h4⟩
 |p::ps,_,i+1,k,v,⟨v',r,h1,h2,h3,h4,h5⟩,e=>by
  rw[h1]at e;obtain⟨d,q⟩:=yh.get (i:=i) h5 (by simpa using e);exact⟨d,by simpa using q.1,q.2⟩
theorem RT:(UE Dm k).isSome=BL k (Dm.map (·.1)):=by
 cases e:UE Dm k with
 |none=>rw[YH.mpr<|λz=>vM e<|tH.mp z];rfl
 |some v=>rw[tH.mpr<|uW e];rfl
mutual
theorem Dw.qy {K:Cq}{H:Hp}{c:Eo}{Dm:Dl}(hc:H c=some (.dK Dm))(o:Off [c] H H'):∀(d:Ey) (v:V),xJ d=true->Dw K H d v->Dw K H' d v
 | .none,_,_,h=>h
 | .bool _,_,_,h=>h
 | .int _,_,_,h=>h
 | .str _,_,_,h=>h
 | .list ds,_,t,⟨a,xs,h1,h2,h3⟩=>⟨a,xs,h1,by
   rcases h2 with(z|⟨ob,z⟩)|z
   .exact .inl (.inl<|o _ _ (λq=>by rw[Zl.mp q,hc]at z;cases z) z)
   .exact .inl (.inr ⟨ob,o _ _ (λq=>by rw[Zl.mp q,hc]at z;cases z) z⟩)
   .exact .inr z,xq.qy hc o ds xs t h3⟩
 | .tuple ds,_,t,⟨a,xs,h1,h2,h3⟩=>⟨a,xs,h1,by
   rcases h2 with(z|⟨ob,z⟩)|z
   .exact .inl (.inl<|o _ _ (λq=>by rw[Zl.mp q,hc]at z;cases z) z)
   .exact .inl (.inr ⟨ob,o _ _ (λq=>by rw[Zl.mp q,hc]at z;cases z) z⟩)
   .exact .inr z,xq.qy hc o ds xs t h3⟩
 | .dict _,_,t,_=>by cases t
theorem xq.qy {K:Cq}{H:Hp}{c:Eo}{Dm:Dl}(hc:H c=some (.dK Dm))(o:Off [c] H H'):∀(ds:Df) (xs:Dj),xW ds=true->xq K H ds xs->xq K H' ds xs
 |[],_,_,h=>h
 |d::ds,_,t,⟨x,r,h1,h2,h3⟩=>by
  have t:(xJ d&&xW ds)=true:=t;rw[Zw]at t;exact⟨x,r,h1,Dw.qy hc o d x t.1 h2,xq.qy hc o ds r t.2 h3⟩
end
theorem yh.qy {K:Cq}{H:Hp}{c:Eo}{kv:Dl}(hc:H c=some (.dK kv))(o:Off [c] H H'):∀{ps:List (Key×Ey)} {Dm:Dl},(∀p∈ps,xJ p.2=true)->yh K H ps Dm->yh K H' ps Dm
 |[],_,_,h=>h
 |p::ps,_,t,⟨v,r,h1,h2,h3,h4,h5⟩=>⟨v,r,h1,Dw.qy hc o _ _ (t p Zs) h2,h3,h4,yh.qy hc o (λq b=>t q<|Zn _ b) h5⟩
def Tm (fs:Dk):List (Key×Ey):=fs.map λf=>((.inr (Cs f.1):Key),AnJ.yg f.2)
inductive pM (K:Cq)(b2:Eo)(vs:Dj)(H:Hp)(Q:VK)(E:XK):Prop
 |mk (v:V) (h0:vs=[v]) (h1:((∃d,Dw K H d v/\(U1 d=="dict")=false/\E (.ref b2) none H) \/ (∃c Dm ps,v=.ref c/\H c=some (.dK Dm)/\yh K H ps Dm/\(∀p∈ps,xJ p.2=true)/\ps.length<=100/\(UY ps=true->∀H',zx H H'->Q .non H')/\(UY ps=false->∀H',Off [c] H H'->E (.ref b2) none H')))):pM K b2 vs H Q E
theorem Hr {K:Cq}{n:Nat}(c:n<=4):∀{fs:Dk} {Dm:Dl},(∀f∈fs,U3 (.str<|Cs f.1)=true/\jE (AnJ.yg f.2)=true/\small (.str<|Cs f.1)=true/\small (AnJ.yg f.2)=true)->yp K H fs Dm->yh K H (Tm fs) Dm
 |[],Dm,_,h=>YV h.len
 |f::fs,[],_,h=>by have:=h.len;cases this
 |f::fs,kv::Dm,g,h=>by
  have hv:=h.val 0 f kv rfl rfl;have hk:kv.1=.inr (Cs f.1):=List.head_eq_of_cons_eq h.keys;obtain⟨_,_,d,e⟩:=g f Zs;obtain⟨k,v⟩:=kv;have hk:k=.inr (Cs f.1):=hk;subst hk;exact⟨v,Dm,rfl,Dt.dw hv.1,d,e,Hr c (λf b=>g f<|Zn _ b) h.tail⟩
theorem Pg:∀{fs:Dk},∀p∈Tm fs,xJ p.2=true:=λ{fs} p b=>by
 obtain⟨f,_,rfl⟩:=Zr.mp b;show xW (f.2.map .str)=true;generalize f.2=L
 induction L with
 |nil=>rfl
 |cons l L ih=>exact ih
theorem Ph (g:yj 4 fs):UY (Tm fs)=true:=by
 unfold UY;rw[Zw,ZQ,ZQ];constructor
 .intro p b;obtain⟨f,c,rfl⟩:=Zr.mp b;obtain⟨d,i,_,_⟩:=Bq (Zt 4) g c;show(U3 (.str<|Cs f.1)&&jE (AnJ.yg f.2))=true;rw[d,i];rfl
 .intro p b;obtain⟨f,c,rfl⟩:=Zr.mp b;have:uO ((Tm fs).map (·.1)) (.inr<|Cs f.1)=false:=by
   show((Xg<|Cs f.1).any λz=>BL (.inr z) ((Tm fs).map (·.1)))=false;rw[Ug];intro z j q;obtain⟨p,b,e⟩:=Zr.mp<|tH.mp q;obtain⟨k,hk,rfl⟩:=Zr.mp b;exact Pc g c j k hk (Sum.inr.inj e).symm
  show(!uO ((Tm fs).map (·.1)) (.inr<|Cs f.1))=true;rw[this];rfl
theorem FO {H:Hp}{c:Eo}{ob:Obj}{Dm:Dl}(hc:H c=some (.dK Dm))(e:zx (upd H c<|.frz ob<|.dK Dm) H2):zx H (upd H2 c<|.dK Dm):=λb o h=>by
 by_cases z:b=c
 .rw[z,zC];rw[z,hc]at h;exact h
 .rw[zI z];exact e _ _ (by rwa[zI z])
namespace AJ
theorem ok0 (F:yc0 K "put_files" st f fd):zc P w K mg base CA 8 f fd ["shelf","files"] (Gz P w K aC 0) :=
 F.ok sc (λ_ _ _ _ _ _ _ _ _ h=>EL h) (λ_ _ _ _ h=>EL h)
include T in
theorem ok (F:yc0 K "put_files" st f fd)(d:wK P w K mg base aC 7 "put" ["self","thing"]<|tX P w K aC)(e:wV P w K mg base 8 "put_rows" ["shelf","rows"]<|uf P w K aC)(c:mg "put_files"=some (.ref f))(b:wX K fd ["shelf","files"] []):zc P w K mg base CA 12 f fd ["shelf","files"] (Gz P w K aC 4):=by
 have g:=wV.mk' F (ok0 (P:=P) (w:=w) (mg:=mg) (base:=base) (aC:=aC) F) c b;have i:=wV.mk' F (step F T d e (by decide) (by decide) g) c b;have j:=wV.mk' F (step F T d e (by decide) (by decide) i) c b;have l:=wV.mk' F (step F T d e (by decide) (by decide) j) c b;exact step F T d e (by decide) (by decide) l
end AJ
namespace AK
abbrev st:Stmt:=top 46
theorem sc:zy ["files","path","lines"] ["files"] (zF st):=Cz
include T in
theorem ok (F:yc0 K "need_files" st f fd)(QZ:wV P w K mg base 4 "is_file" ["path","lines"]<|oh K)(Q0:wV P w K mg base 1 "folders_of" ["path"]<|oG K):zc P w K mg base (CI P w) 5 f fd ["files"] (pM K b2):=by
 refine F.sU sc λ_ _ _ _ H vs Q E hr h=>?_;obtain⟨v,rfl,h⟩:=h;refine⟨_,(zD (yG (yS<|zU (K:=K)<|zJ (yd.or (z7 (K:=K))<|vH (K:=K)) (by rfl) T.isinstance ZA<|zA (pv 0)<|zA (y6 (v:=.ty "dict") rfl T.dict YR rfl) zB) (zE<|xT rfl xD rfl T.tL T.tG<|zA zz zB) zR)<|zD (Id<|qS Ms rfl (IR<|Fe<|pv 0) (Xq rfl<|y9 (z6 (i:=1) sc.nd rfl<|EU rfl)<|y9 (z6 (i:=2) sc.nd rfl<|EU rfl) kO)<|zE<|yG (yS<|zU (K:=K)<|zK QZ hr.m<|zA (pv 1)<|zA (pv 2) zB) (zE<|xT rfl xD rfl T.tL T.tG<|zA zz zB) zR)<|zE<|Id<|qS Ms rfl (SM<|Fe<|pv 0) (z6 (i:=1) sc.nd rfl<|EU rfl)<|zE<|yG (zU (K:=K)<|zJ (OZ rfl) (by rfl) T.any PyProof.Rows.boot_any<|zA (xL (sc:=zF st) (N:=["files","path","lines"]) (N':=["folder","files"]) (src:=[none,some 0]) .a rfl rfl rfl (jL<|zK Q0 hr.m<|zA (pv 1) zB) (λ_ _ _ _=>(z6 (i:=0) (show(["folder","files"]:Da).Nodup by decide+kernel) rfl (EU rfl))) (λ_ _ _ _=>qD) (λ_ _ _ _=>(yK (P5 hr.units) (pv 0) (pv 1)<|by with_unfolding_all rfl))) zB) (zE<|xT rfl xD rfl T.tL T.tG<|zA zz zB) zR),?_⟩
 rcases h with⟨d,hd,nd,kE⟩|⟨c,Dm,ps,rfl,hc,hp,df,pl,kQ,kE⟩
 .refine⟨_,rfl,.inl ⟨v,"dict",d,_,rfl,hd,T.is<|by simp[kinds],_,rfl,?_⟩⟩;rw[nd,show(("dict":String)=="int")=false from rfl,Jt];exact UF ⟨UD 1,kE⟩
 .refine⟨_,rfl,.inr ⟨c,"dict",Dm,_,rfl,.inl hc,T.kit _ (by simp[kinds]) _<|by simp[kinds],_,rfl,UC ?_⟩⟩;refine⟨_,rfl,c,Dm,rfl,hc,λob=>?_⟩;have kl:Dm.length=ps.length:=hp.length;have g:upd H c (.frz ob<|.dK Dm) c=some (.frz ob<|.dK Dm):=zC;have l:Off [c] H (upd H c<|.frz ob<|.dK Dm):=zY;have r:=hp.qy hc l df;generalize e0:upd H c (.frz ob<|.dK Dm)=O at g l r ⊢;have A:∀{n:Hp},zx O n->Off [c] H n:=λ{n} e b o nb eb=>e _ _<|l b o nb eb;refine⟨c,ob,Dm,rfl,g,Bm (λi B n=>∃I J,B=[some<|.ref c,I,J]/\zx O n/\(ps.take i).all Gw=true) ⟨none,none,rfl,zx.refl _,rfl⟩ (λi B n S ⟨_,_,_,D,_⟩=>D _ _ g) ?_ ?_⟩
  .rintro i k v T0 B n S ⟨I,J,rfl,D,R⟩ nT;obtain⟨d,h1,h2,h3,h4⟩:=(r.same D).get S;have uT:=zG (o:=.tup [kV k,v]) nT;refine⟨T0,_,rfl,wY.of zC,rfl,_,_,rfl,_,_,rfl,rfl,?_⟩;refine⟨_,rfl,_,rfl,Oj k,d,_,_,rfl,Sh k,Dw.same uT _ _ h2,h3,h4,λM s3=>⟨_,rfl,?_⟩⟩;have t3:=(D.trans uT).trans s3;cases q:(U3 (Oj k)&&jE d) with
   |true =>
    refine UC ⟨_,_,rfl,t3,?_⟩;rw[Yi,h1,List.all_append,R];show(Gw (k,d)&&true)=true;rwa[Bool.and_true]
   |false =>
    refine UF ⟨UD 1,kE ?_ _<|A t3⟩;unfold UY;have:ps.all Gw=false:=by
     rw[YH];intro z;have:=ZQ.mp z (k,d)<|ZG h1;rw[show Gw (k,d)=false from q]at this;cases this
    rw[this];rfl
  .rintro B n ⟨I,J,rfl,D,R⟩;rw[kl,ZV]at R;refine⟨c,ob,Dm,D _ _ g,λo u z=>?_,?_⟩
   .have z:H c=some (.frz o u):=z;rw[hc]at z;cases z
   subst e0;have e3:=FO hc D;have t:upd n c (.dK Dm) c=some (.dK Dm):=zC;generalize upd n c (.dK Dm)=M at e3 t ⊢;clear D g l r A;have ab:=hp.same e3;refine⟨_,rfl,c,Dm,rfl,t,λob=>?_⟩;have g:upd M c (.frz ob<|.dK Dm) c=some (.frz ob<|.dK Dm):=zC;have l:Off [c] M (upd M c<|.frz ob<|.dK Dm):=zY;have r:=ab.qy t l df;generalize e0:upd M c (.frz ob<|.dK Dm)=O at g l r ⊢;have A:∀{n:Hp},zx O n->Off [c] H n:=λ{n} e b o nb eb=>e _ _<|l b o nb<|e3 _ _ eb;refine⟨c,ob,Dm,rfl,g,Pe (λi B Y=>∃I J,B=[some<|.ref c,I,J]/\zx O Y/\((ps.take i).all λp=>!uO (ps.map (·.1)) p.1)=true) ⟨I,J,rfl,zx.refl _,rfl⟩ (λi B Y S ⟨_,_,_,G,_⟩=>G _ _ g) ?_ ?_⟩
   .rintro i k v B Y S ⟨I,J,rfl,G,s⟩;obtain⟨d,h1,h2,h3,h4⟩:=(r.same G).get S;have hf:=ZQ.mp R (k,d)<|ZG h1;unfold Gw at hf;rw[Zw]at hf;cases k with
    |inl j=>cases hf.1
    |inr x =>
     have xl:x.length<=1000:=ZI h3;refine⟨_,rfl,x,rfl,xl,λlp H5 s5 U=>?_⟩;have fl:(Xg x).length<=1000:=by
      unfold Xg;rw[Zk,YI];have:=Ih x;lia
     refine⟨lp,rfl,⟨_,U⟩,jG (K:=K) (a:=lp) (xs:=(Xg x).map V.str) (λi ys C Z=>∃o,C=[o,some<|.ref c]/\zx H5 Z/\ys=(((Xg x).take i).map λf=>BL (.inr f) (ps.map (·.1))).map V.bl) ⟨none,rfl,zx.refl _,rfl⟩ (zp (by rw[Zk];lia)) ?_ ?_ ?_⟩
     .rintro i ys C Z ac ⟨o,rfl,L,rfl⟩;refine⟨L.seq U,?_⟩;rw[Zk,Zk,ZS];lia
     .rintro i y ys C Z hy ⟨o,rfl,L,rfl⟩;rw[Zy]at hy;obtain⟨z,q,rfl⟩:=Z0.mp hy;refine⟨_,rfl,_,rfl,c,_,rfl,Sb (k:=.inr z)<|((G.trans s5).trans L) _ _ g,_,rfl,L,?_⟩;rw[RT,hp.keys,xE q,Zx];rfl
     .rintro ys C Z ⟨o,rfl,L,rfl⟩ p np;refine⟨p,_,rfl,yu.of zC,_,rfl,?_⟩;rw[Zk,ZV,List.any_map];have t6:=((G.trans s5).trans L).trans (zG (o:=.lst (((Xg x).map λf=>BL (.inr f) (ps.map (·.1))).map V.bl)) np);cases q:uO (ps.map (·.1)) (.inr x) with
      |true =>
       have q':(Xg x).any (id∘λf=>BL (.inr f) (ps.map (·.1)))=true:=q;rw[q'];refine UF ⟨UD 1,kE ?_ _<|A t6⟩;unfold UY;have:(ps.all λp=>!uO (ps.map (·.1)) p.1)=false:=by
        rw[YH];intro z;have:=ZQ.mp z (.inr x,d)<|ZG h1;rw[show uO (ps.map (·.1)) (ED x,d).1=true from q]at this;cases this
       rw[this,Jt]
      |false =>
       have q':(Xg x).any (id∘λf=>BL (.inr f) (ps.map (·.1)))=false:=q;rw[q'];refine UC ⟨_,_,rfl,t6,?_⟩;rw[Yi,h1,List.all_append,s];show((!uO (ps.map (·.1)) (.inr x))&&true)=true;rw[q];rfl
   .rintro B Y ⟨I,J,rfl,G,s⟩;rw[kl,ZV]at s;refine⟨c,ob,Dm,G _ _ g,λo u z=>?_,?_⟩
    .have z:H c=some (.frz o u):=z;rw[hc]at z;cases z
    subst e0;refine kQ ?_ _<|e3.trans<|FO t G;unfold UY;rw[R,s];rfl
end AK
inductive lD (P:Er)(w:Eu)(K:Cq)(C:Eo)(vs:Dj)(H:Hp)(Q:VK)(e3:XK):Prop
 |mk (a:Eo) (fp:Dd) (S:Di) (d:Ey) (v:V) (f:Str) (h0:vs=[.ref a,v,.str f]) (h1:yo P w K C H a fp S) (h2:(∀e∈S,U2 e)) (h3:Dw K H d v) (h4:Q (.bl<|UL S d f) H):lD P w K C vs H Q e3
inductive tV (P:Er)(w:Eu)(K:Cq)(C aN:Eo)(vs:Dj)(H:Hp)(Q:VK)(E:XK):Prop
 |mk (a:Eo) (fp:Dd) (S:Di) (d:Ey) (v:V) (h0:vs=[.ref a,v]) (h1:yo P w K C H a fp S) (h2:(∀e∈S,U2 e)) (h3:Dw K H d v) (h4:(UL S d "tree"=true->Q .non H)) (h5:(UL S d "tree"=false->E (.ref aN) none H)):tV P w K C aN vs H Q E
def jS (P:Er)(w:Eu)(K:Cq)(C:Eo):Nat->Sp
 | 0=>λ_ _ _ _=>False
 |d+1=>λj H Q _=>∃(a:Eo) (fp:Dd) (S:Di) (x c:Str) (i:Dg),j=[.ref a,.str x,.str c]/\yo P w K C H a fp S/\wM S/\Tree (d+1) S x/\At S x (.tree i)/\(zq (d+1) S x).length<=63/\(∀f∈zq (d+1) S x,UV f.2)/\c.length+10*(d+1)<=1000 /\
  ∀e g b,zx H b->H e=none->b e=some (.dK g)->wj K b c (zq (d+1) S x) g->Q (.ref e) b
inductive tu (P:Er)(w:Eu)(K:Cq)(C aN:Eo)(vs:Dj)(H:Hp)(Q:VK)(E:XK):Prop
 |mk (a:Eo) (fp:Dd) (S:Di) (d:Ey) (v:V) (h0:vs=[.ref a,v]) (h1:yo P w K C H a fp S) (h2:wM S) (h3:Dw K H d v) (h4:((∃x Do,d=.str x/\v=.str x/\At S x (.tree Do)/\Tree 5 S x/\(zq 5 S x).length<=63/\(∀f∈zq 5 S x,UV f.2)/\∀e Dm H',zx H H'->H e=none->H' e=some (.dK Dm)->yp K H' (zq 5 S x) Dm->Q (.ref e) H') \/ (UL S d "tree"=false/\E (.ref aN) none H))):tu P w K C aN vs H Q E
theorem cB {Do:Dg}(h:At S x<|.tree Do):UL S (.str x) "tree"=true:=by
 obtain⟨e,he,rfl,hd⟩:=h;refine Z8.mpr ⟨e,he,?_⟩;rw[Zw,ZN,ZN,j7 hd];exact⟨rfl,Zl.mpr rfl⟩
theorem Pf {K:Cq}{xs:Dj}{g:TG}{tb:TS}{D:Ends}{b:St}{H:Hp}(c:Nat->St->Hp->Prop)(h0:c 0 b H)(hl:∀i b H,i<=xs.length->c i b H->wY K H a xs)
  (hs:∀i x b H,xs[i]?=some x->c i b H->∀D':Ends,(∀b H,c (i+1) b H->D'.nx b H)->g x b H λσ2 H2=>tb D' σ2 H2) (hd:∀b H,c xs.length b H->D.nx b H) :
  ∃W:Nat->Nat->St->Hp->Prop,(∃m,W 0 m b H)/\∀i m b H,W i m b H ->
   ((RV K a).stop i H/\D.nx b H)\/((RV K a).go i H/\∃N:St->Hp->Prop,(∀σ' H',N σ' H'->∃m',m'<m/\W (i+1) m' σ' H')/\∀x H',(RV K a).oM i H x H'->g x b H' λσ2 H2=>tb { D with nx:=N,ct:=N,bk:=D.nx } σ2 H2) :=
 X8 c h0 hl (λi x b H h p=>hs i x b H h p _ λ_ _ h=>h) hd
theorem BP {X:Dd}{xs:Dj}(n:∀b∈X,∀xs,¬Rd H b (.tup xs))(o:Off X H H')(h:wY K H c xs):wY K H' c xs:=by
 rcases h with h|h
 .have ne:c∉X:=λz=>n c z xs h
  rcases h with h|⟨u,h⟩
  .exact .inl (.inl<|o _ _ ne h)
  .exact .inl (.inr ⟨u,o _ _ ne h⟩)
 .exact .inr h
theorem IO (g:wM S){x:Str}{t:Th}(h:At S x t){e:En}(he:e∈S)(b:(EQ x)=.str e.nm):e.d=t.dat:=by
 obtain⟨f,c,fn,i⟩:=h;have:f.nm=e.nm:=by rw[fn];injection b
 rwa[<-PY g.good.nn c he this]
theorem NQ {Do:Dg}{t:Eo}(h:Dt K H (Th.tree Do).dat<|.ref t):∃c rs,wY K H t [V.str "tree",V.ref c]/\wY K H c rs/\zu K H (Do.map zj) rs:=by
 obtain⟨n,o,d,h1,x,r,e,b,y,l,f,g,h4⟩:=h;cases d;obtain⟨c,rs,rfl,i,j⟩:=g;have b:x=V.str "tree":=b;have h4:l=[]:=h4;subst e f b h4;exact⟨c,rs,h1,i,j⟩
theorem Sk {ls:Da}{t:Eo}(h:Dt K H (Th.leaf ls).dat<|.ref t):∃v,wY K H t [V.str "leaf",v]/\Dt K H (AnJ.yg ls) v:=by
 obtain⟨i,j,c,h1,x,r,d,b,y,g,e,f,h4⟩:=h;cases c;have b:x=V.str "leaf":=b;have h4:g=[]:=h4;subst d e b h4;exact⟨y,h1,f⟩
theorem WE {Do:Dg}(h:zu K H (Do.map zj) rs){i:Nat}{v:V}(e:rs[i]?=some v):∃r c,Do[i]?=some r/\v=.ref c/\wY K H c [V.str r.1,V.str r.2]:=by
 obtain⟨d,hd,hv⟩:=h.get e;rw[Zy]at hd;obtain⟨r,l,rfl⟩:=Z0.mp hd;obtain⟨c,p,rfl,h1,x,o,g,b,y,n,j,f,h4⟩:=hv;have b:x=V.str r.1:=b;have f:y=V.str r.2:=f;have h4:n=[]:=h4;subst g j b f h4;exact⟨r,c,l,rfl,h1⟩
theorem FM (h:UL S d f=true):∃x,d=.str x/\zW S x [f]=true/\x∈S.map En.nm:=by
 cases d with
 |str x =>
  have h:zW S x [f]=true:=h;refine⟨x,rfl,h,?_⟩
  rcases Classical.em (x∈S.map En.nm) with z|z
  .exact z
  .rw[FN z]at h;cases h
 |none=>cases h
 |bool b=>cases h
 |int i=>cases h
 |list ds=>cases h
 |tuple ds=>cases h
 |dict Dm=>cases h
namespace AL
abbrev st:Stmt:=top 50
theorem sc:zy ["store","name","form"] ["store","name","form"] (zF st):=Cz
include T in
theorem ok (F:yc0 K "names_form" st f fd)(p:Met P w K mg base aC 2 "has" ["self","name"]<|oW P w K aC)(o:wK P w K mg base aC 4 "thing" ["self","name"]<|wk P w K aC aN):zc P w K mg base CA 5 f fd ["store","name","form"] (lD P w K aC):=by
 refine F.ok sc λ_ _ _ _ H Z Q E l h=>?_;obtain⟨a,fp,S,d,v,g,rfl,sh,th,hd,k⟩:=h;refine⟨_,(zE<|zL<|y8 (jY (pv 0) T.cls p (l.mono<|by lia)<|zA (pv 1) zB)<|xU<|yK xH (yB (yw:Cy _<|wZ K) (yE (pv 0) T.cls o (l.mono<|by lia) zX<|zA (pv 1) zB) zH) (pv 2)<|zO _),?_⟩;obtain⟨A,b,D,G,I,Y,nx,y,nd,h1,J,L,h4,M,N,O,R,U⟩:=id sh;refine⟨_,rfl,a,b,_,rfl,h1,rfl,_,rfl,a,fp,S,d,v,rfl,sh,hd,Xz S d,rfl,?_⟩;cases q:Xz S d with
 |false =>
  refine UC ?_;have:UL S d g=false:=by
   cases e:UL S d g with
   |false=>rfl
   |true =>
    obtain⟨x,rfl,_,B⟩:=FM e;rw[show Xz S (.str x)=decide (x∈S.map En.nm) from rfl,Zq B]at q;cases q
  rw[this]at k;exact k
 |true =>
  refine UF ⟨_,rfl,a,b,_,rfl,h1,rfl,_,rfl,a,fp,S,d,v,rfl,sh,hd,λe he u t n=>?_,λz=>by rw[q]at z;cases z⟩;obtain⟨C,i,_⟩:=th e he;rw[i]at n;obtain⟨c,r,s,hc⟩:=uM n;cases s;refine⟨t,_,_,_,rfl,rfl,hc,yA (j:=0) rfl,_,rfl,rfl,?_⟩;subst u;have:UL S (.str e.nm) g=decide (V.str C.word=V.str g):=by
   show zW S e.nm [g]=_;rw[vY A he,j7 i,Yx,ZN,ZN,Zl,V.str.injEq]
  rw[this]at k;exact k
end AL
namespace AM
abbrev st:Stmt:=top 51
theorem sc:zy ["store","root"] ["store","root"] (zF st):=Cz
include T in
theorem ok (F:yc0 K "need_root" st f fd)(b:wV P w K mg base 5 "names_form" ["store","name","form"]<|lD P w K aC):zc P w K mg base (CI P w) 6 f fd ["store","root"] (tV P w K aC aN):=by
 refine F.sU sc λ_ _ _ _ H i Q E c h=>?_;obtain⟨a,fp,S,d,v,rfl,sh,th,hd,e,g⟩:=h;refine⟨_,(zE<|yG (yS<|zU (K:=K)<|zK b (c.mono<|by lia)<|zA (pv 0)<|zA (pv 1)<|zA zz zB) (zE<|xT rfl xD rfl T.pX T.qd<|zA zz zB) zR),?_⟩
 refine⟨_,rfl,_,rfl,a,fp,S,d,v,"tree",rfl,sh,th,hd,_,rfl,?_⟩;cases q:UL S d "tree" with
 |false=>exact Nn ⟨UD 1,g q⟩
 |true=>exact UN<|e q
end AM
namespace AN
abbrev st:Stmt:=top 55
theorem sc:zy ["store","tree","ahead","files","label","name","thing"] ["store","tree","ahead"] (zF st):=Cz
theorem step {L:Nat}(F:yc0 K "files_beneath" st f fd)(T:Txt P w K mg t1 t2 t3 t4 t5 t6 t7 aL aC aN aT aA b1 b2 b3 b4 b5 b6 b7 b8 aD)(Qa:wK P w K mg base aC 4 "thing" ["self","name"]<|wk P w K aC aN)(hL:8<=L)(Qw:wV P w K mg base L "files_beneath" ["store","tree","ahead"]<|jS P w K aC d):zc P w K mg base CA (L+1) f fd ["store","tree","ahead"] (jS P w K aC<|d+1):=by
 refine F.ok sc λ_ _ _ _ H vs Q E hr h=>?_;obtain⟨a,fp,S,x,ah,u,rfl,sh,ok,tr,at_,rl,rn,al,k⟩:=h;have hu:=FQ hr;refine⟨_,(zD (Cv (i:=3) sc.nd qY)<|zD (qS Lb rfl (vF<|yB (yw:Cy _<|wZ K) (yE (pv 0) T.cls Qa (hr.mono<|by lia) zX<|zA (pv 1) zB) zH) (Xq rfl<|y9 (z6 (i:=4) sc.nd rfl<|EU rfl)<|y9 (z6 (i:=5) sc.nd rfl<|EU rfl) kO)<|zD (Cv (i:=6) sc.nd<|yE (pv 0) T.cls Qa (hr.mono<|by lia) zX<|zA (pv 5) zB)<|zE<|yG (zP xH (yB (yw:Cy _<|wZ K) (pv 6) zH) zz<|zO _) (zE<|yZ hu (pv 3) (zV zZ (pv 2)<|pv 4) (yB (yw:Cy _<|wZ K) (pv 6) zH) rfl)<|zE<|yC<|SD (pv 3) (zK Qw (hr.mono<|by lia)<|zA (pv 0)<|zA (pv 5)<|zA (zV zZ (zV zZ (pv 2)<|pv 4) zz) zB) ⟨rfl,rfl,rfl,rfl⟩)<|zE<|zL<|pv 3),?_⟩
 refine λy D=>?_;have u0:=zG (o:=.dK []) D;have N:upd H y (.dK []) y=some (.dK []):=zC;generalize upd H y (.dK [])=H1 at u0 N ⊢;obtain⟨ix,i1,i2,i3,Y⟩:=CV sh;have hx:Xz S (.str x)=true:=Zq at_.mem;refine⟨_,rfl,a,ix,_,rfl,u0 _ _ Y,rfl,_,rfl,a,fp,S,.str x,_,rfl,sh.same u0,rfl,λe he ed t ht=>?_,λz=>by rw[hx]at z;cases z⟩;rw[IO ok at_ he ed]at ht;obtain⟨c,rs,ax,hc,ac⟩:=NQ ht;have a4:(u.map (·.1)).Pairwise CN/\∀r∈u,z9 r.1=true/\Tree d S r.2/\zq d S r.2≠[]:=by
  rcases tr with⟨ls,z⟩|⟨rows',z,h1,h2⟩
  .cases z.thing ok at_
  .cases z.thing ok at_;exact⟨h1,h2⟩
 have rd:zq (d+1) S x=u.flatMap (CJ d S):=yY ok at_;have rise:=(tr.rise ok).1;rw[rd]at rl rn rise k;have a3:rs.length=u.length:=by rw[zu.length ac,Zk]
 have nt:=yF N;refine⟨t,_,_,_,rfl,rfl,ax,rfl,c,rfl,⟨_,hc⟩,Pf (K:=K) (a:=c) (xs:=rs) (λi σ G=>∃o4 o5 o6 p,σ=[some<|.ref a,some<|.str x,some<|.str ah,some<|.ref y,o4,o5,o6]/\Off [y] H1 G/\G y=some (.dK p)/\wj K G ah ((u.take i).flatMap<|CJ d S) p) ⟨none,none,none,[],rfl,Off.refl _ _,N,wj.nil⟩ (λi σ G _ h=>?_) ?_ ?_⟩
 .obtain⟨_,_,_,_,_,j,_⟩:=h;exact BP nt j hc
 .rintro i v σ G hv ⟨o4,o5,o6,p,rfl,j,g,l⟩ D' hD;obtain⟨r,c',Z,rfl,au⟩:=WE ac hv;have sm:zx H G:=λb o e=>j b o (λz=>by rw[Zl.mp z,D]at e;cases e)<|u0 _ _ e;have ap:=sh.same sm;have ab:=ZG Z;obtain⟨lb,s,a7⟩:=a4.2 r ab;have J:(u.take<|i+1).flatMap (CJ d S)=(u.take i).flatMap (CJ d S)++CJ d S r:=by rw[sZ Z,List.flatMap_append,Jg,Ut,Z2]
  have I:u.flatMap (CJ d S)=((u.take i).flatMap (CJ d S)++CJ d S r)++(u.drop<|i+1).flatMap (CJ d S):=by rw[<-J,<-List.flatMap_append,YW]
  have nd:=Si (ah:=ah) rise;rw[I,Zx,Zx,YD,YD]at nd;have ai:∀k∈(CJ d S r).map (λf=>(.inr (ah++Cs f.1):Key)),k∉p.map (·.1):=λk hk z=>nd.1.2.2 k (by rwa[<-l.keys]) k hk rfl;have kl:p.length+(CJ d S r).length<=63:=by
   have:=congrArg List.length I;rw[ZB,ZB]at this;have:=l.len;lia
  have inr:∀f∈CJ d S r,UV f.2:=λf U=>rn f<|YQ.mpr ⟨r,ab,U⟩;refine⟨c',_,rfl,BP nt j au,rfl,_,_,rfl,_,_,rfl,rfl,?_⟩;have a1:Xz S (.str r.2)=true:=Zq s.mem;refine⟨_,rfl,a,ix,_,rfl,sm _ _ Y,rfl,_,rfl,a,fp,S,.str r.2,_,rfl,ap,rfl,λe2 R O t2 B=>?_,λz=>by rw[a1]at z;cases z⟩;have ll:("/":Str).length=1:=by decide+kernel
  have a6:=(uq.mp lb).2.1;have a5:(ah++r.1).length=ah.length+r.1.length:=yr _ _;cases d with
  |zero=>exact absurd s<|λz=>z
  |succ d =>
   rcases id s with⟨ls,atl⟩|⟨rows2,att,so2,hr2⟩
   .rw[IO ok atl R O]at B;obtain⟨vv,C,a0⟩:=Sk B;have er:CJ (d+1) S r=[([r.1],ls)]:=by
     unfold CJ;rw[xF ok atl];rfl
    have ad:UV ls:=inr ([r.1],ls) (by rw[er];exact Zl.mpr rfl);refine⟨_,rfl,t2,_,_,_,rfl,rfl,C,rfl,rfl,true,?_,UF ?_⟩
    .show V.bl (decide (V.str "leaf"=V.str "leaf"))=V.bl true;rw[Zq rfl]
    refine⟨_,rfl,t2,_,_,_,rfl,rfl,C,rfl,_,rfl,_,rfl,_,rfl,_,_,rfl,rfl,zp<|by lia,y,_,rfl,tD.k (k:=.inr<|ah++r.1) g<|yJ<|by lia,hD _ _ ⟨_,_,_,p++[(.inr<|ah++r.1,vv)],rfl,?_,?_,?_⟩⟩
    .exact j.trans zY
    .rw[zC]
     congr 2
     refine jV<|ai _ ?_;rw[er,OQ];exact Zl.mpr rfl
    .rw[J,er];exact(l.off (yF g) zY).app (wj.one (Dt.off (yF g) zY _ _ (kC ad) a0) ad)
   .rw[IO ok att R O]at B;obtain⟨c2,a8,C,_,_⟩:=NQ B;refine⟨_,rfl,t2,_,_,_,rfl,rfl,C,rfl,rfl,false,?_,UC ?_⟩
    .show V.bl (decide (V.str "tree"=V.str "leaf"))=V.bl false;rw[ZE (by intro z;injection z with z;exact absurd z<|by decide+kernel)]
    have a2:∀f∈zq (d+1) S r.2,f.1≠[]:=by
     rcases(s.rise ok).2 with⟨ls,z⟩|z
     .rw[yY ok att]at z;have:(([],ls):Fi)∈rows2.flatMap (λr=>(zq d S r.2).map λf=>((r.1::f.1,f.2):Fi)):=by rw[z];exact Zl.mpr rfl
      obtain⟨r',_,U⟩:=YQ.mp this;obtain⟨f',_,q⟩:=Zr.mp U;exact absurd (congrArg Prod.fst q)<|Yr _ _
     .exact z
    have an:(zq (d+1) S r.2).length<=63:=by
     have:(CJ (d+1) S r).length=(zq (d+1) S r.2).length:=Zk ..;lia
    refine⟨_,rfl,y,rfl,.inl ⟨_,.inl g⟩,_,rfl,_,rfl,_,rfl,_,rfl,_,_,rfl,rfl,zp<|by lia,_,_,rfl,rfl,zp<|by lia,a,fp,S,r.2,ah++r.1++"/",rows2,rfl,ap,ok,s,att,an,λf U=>inr (r.1::f.1,f.2)<|Zr.mpr ⟨f,U,rfl⟩,by
     rw[yr,yr,ll];lia,λe3 n H3 s3 am av as=>?_⟩
    have M:=s3 _ _ g;have A:wj K H3 ah (CJ (d+1) S r) n:=as.deep a2;have pa:putAll p n=p++n:=Ga (λk hk=>ai k<|by rwa[<-A.keys]) (by rw[A.keys];exact nd.1.2.1);have l3:n.length=(CJ (d+1) S r).length:=A.len;refine⟨e3,p,n,rfl,(λz=>by rw[<-z,g]at am;cases am),M,.inl av,zp<|by lia,hD _ _ ⟨_,_,_,p++n,rfl,?_,by rw[zC,pa],?_⟩⟩
    .exact(j.trans<|Off.of s3).trans zY
    .rw[J];exact((l.same s3).off (yF M) zY).app (A.off (yF M) zY)
 .rintro σ G ⟨o4,o5,o6,p,rfl,j,g,l⟩;rw[a3,ZV]at l;exact⟨_,rfl,k y p G (λb o e=>j b o (λz=>by rw[Zl.mp z,D]at e;cases e)<|u0 _ _ e) D g l⟩
theorem ok0 (F:yc0 K "files_beneath" st f fd):zc P w K mg base CA 8 f fd ["store","tree","ahead"] (jS P w K aC 0) :=
 F.ok sc (λ_ _ _ _ _ _ _ _ _ h=>EL h) (λ_ _ _ _ h=>EL h)
include T in
theorem ok (F:yc0 K "files_beneath" st f fd)(d:wK P w K mg base aC 4 "thing" ["self","name"]<|wk P w K aC aN)(c:mg "files_beneath"=some (.ref f))(b:wX K fd ["store","tree","ahead"] []):zc P w K mg base CA 13 f fd ["store","tree","ahead"] (jS P w K aC 5):=by
 have e:=wV.mk' F (ok0 (P:=P) (w:=w) (mg:=mg) (base:=base) (aC:=aC) F) c b;have g:=wV.mk' F (step F T d (by decide) e) c b;have i:=wV.mk' F (step F T d (by decide) g) c b;have j:=wV.mk' F (step F T d (by decide) i) c b;have l:=wV.mk' F (step F T d (by decide) j) c b;exact step F T d (by decide) l
end AN
namespace AO
abbrev st:Stmt:=top 54
theorem sc:zy ["store","root"] ["store","root"] (zF st):=Cz
include T in
theorem ok (F:yc0 K "files_of" st f fd)(j:wz P w K mg base 6 "need_root" ["store","root"]<|tV P w K aC aN)(l:wV P w K mg base 13 "files_beneath" ["store","tree","ahead"]<|jS P w K aC 5):zc P w K mg base (CI P w) 14 f fd ["store","root"] (tu P w K aC aN):=by
 refine F.sU sc λ_ _ _ _ H p Q E c h=>?_;obtain⟨a,fp,S,d,v,rfl,sh,ok,dw,h⟩:=h;refine⟨_,(zD (yC<|yQ j (c.mono<|by lia) yD<|zA (pv 0)<|zA (pv 1) zB)<|zE<|zL<|zK l (c.mono<|by lia)<|zA (pv 0)<|zA (pv 1)<|zA zz zB),?_⟩
 refine⟨_,rfl,_,rfl,a,fp,S,d,_,rfl,sh,ok.th,dw,λq=>?_,λq=>?_⟩
 .rcases h with⟨x,Do,rfl,rfl,at_,tr,rl,rn,k⟩|⟨z,_⟩
  .have n:("":Str).length=0:=by decide+kernel
   exact⟨_,rfl,_,rfl,a,fp,S,x,"",Do,rfl,sh,ok,tr,at_,rl,rn,by rw[n];decide,λe g i o ne he b=>k e g i o ne he b.at⟩
  .rw[z]at q;cases q
 .rcases h with⟨x,Do,rfl,rfl,at_,_⟩|⟨_,kE⟩
  .rw[cB at_]at q;cases q
  .exact kE
end AO
theorem zT {i:Nat}{v:V}{b:St}{H:Hp}{Q:St->Hp->Prop}(h:Q (b.set i (some v)) H):Xc i v b H Q:=h
@[elab_as_elim] theorem nw {D5:Hp->Prop} {H:Hp} {l:Eo} {o:HO} (n:H l=none) (k:∀H',zx H H'->H' l=some o->D5 H'):D5 (upd H l o):=k _ (zG n) zC
inductive tU (P:Er)(w:Eu)(K:Cq)(C aV:Eo)(vs:Dj)(H:Hp)(Q:VK)(E:XK):Prop
 |mk (a:Eo) (fp:Dd) (S:Di) (d:Ey) (v:V) (h0:vs=[.ref a,v]) (h1:yo P w K C H a fp S) (h2:(∀e∈S,U2 e)) (h3:Dw K H d v) (h4:(∀e∈S,∀t ps y,d=.str e.nm->e.d=(Th.note t ps y).dat->∀a,Dt K H (Th.note t ps y).dat (.ref a)->Q (.ref a) H)) (h5:(UL S d "note"=false->E (.ref aV) none H)):tU P w K C aV vs H Q E
inductive tR (P:Er)(w:Eu)(K:Cq)(C aV:Eo)(g:Str->Str->Str)(vs:Dj)(H:Hp)(Q:VK)(E:XK):Prop
 |mk (a:Eo) (fp:Dd) (S:Di) (d:Ey) (v:V) (h0:vs=[.ref a,v]) (h1:yo P w K C H a fp S) (h2:(∀e∈S,U2 e)) (h3:Dw K H d v) (h4:(∀e∈S,∀t ps y,d=.str e.nm->e.d=(Th.note t ps y).dat->Q (.str<|g t y) H)) (h5:(UL S d "note"=false->E (.ref aV) none H)):tR P w K C aV g vs H Q E
inductive n6 (P:Er)(w:Eu)(K:Cq)(C aV:Eo)(vs:Dj)(H:Hp)(Q:VK)(E:XK):Prop
 |mk (a:Eo) (fp:Dd) (S:Di) (d:Ey) (v:V) (h0:vs=[.ref a,v]) (h1:yo P w K C H a fp S) (h2:(∀e∈S,U2 e)) (h3:Dw K H d v) (h4:(∀e∈S,∀t ps y,d=.str e.nm->e.d=(Th.note t ps y).dat->∀l,H l=none->Q (.ref l) (upd H l<|.lst<|ps.map V.str))) (h5:(UL S d "note"=false->E (.ref aV) none H)):n6 P w K C aV vs H Q E
inductive lV (P:Er)(w:Eu)(K:Cq)(C:Eo)(vs:Dj)(H:Hp)(Q:VK)(e3:XK):Prop
 |mk (a:Eo) (fp:Dd) (S:Di) (o:Option Str) (h0:vs=[.ref a,oV o]) (h1:yo P w K C H a fp S) (h2:(∀e∈S,U2 e)) (h3:(∀v,o=some v->zW S v ["note"]=true)) (h4:Q .non H):lV P w K C vs H Q e3
noncomputable def CK (S:Di)(fs:Dk)(ps:Da)(y:Str):List En×Str:=CD (UG 4 S fs).1<|.note (UG 4 S fs).2 ps y
inductive pZ (P:Er)(w:Eu)(K:Cq)(C:Eo)(vs:Dj)(H:Hp)(Q:VK)(e3:XK):Prop
 |mk (a c l:Eo) (fp:Dd) (S:Di) (fs:Dk) (Dm:Dl) (ps:Da) (y:Str) (h0:vs=[.ref a,.ref c,.ref l,.str y]) (h1:yo P w K C H a fp S) (h2:wM S) (h3:H c=some (.dK Dm)) (h4:c∉fp) (h5:yp K H fs Dm) (h6:yj 4 fs) (h7:fs.length<=63) (h8:yu K H l<|ps.map V.str) (h9:ps.Nodup) (h10:ps.length<=2) (h11:(∀p∈ps,zW S p ["note"]=true)) (h12:UK y=true) (h13:S.length+2+wt fs<1900) (h14:∀H',Off fp H H'->yo P w K C H' a fp (CK S fs ps y).1->Q (.str (CK S fs ps y).2) H'):pZ P w K C vs H Q e3
inductive sY (P:Er)(w:Eu)(K:Cq)(C aV:Eo)(vs:Dj)(H:Hp)(Q:VK)(E:XK):Prop
 |mk (a:Eo) (fp:Dd) (S:Di) (d:Ey) (v:V) (h0:vs=[.ref a,v]) (h1:yo P w K C H a fp S) (h2:wM S) (h3:Dw K H d v) (h4:(∀e∈S,∀t ps y,d=.str e.nm->e.d=(Th.note t ps y).dat->∃Do,At S t (.tree Do)/\Tree 5 S t/\(zq 5 S t).length<=63/\(∀f∈zq 5 S t,UV f.2)/\∀e Dm H',zx H H'->H e=none->H' e=some (.dK Dm)->yp K H' (zq 5 S t) Dm->Q (.ref e) H')) (h5:(UL S d "note"=false->E (.ref aV) none H)):sY P w K C aV vs H Q E
theorem S4 {K:Cq}(n:nG H X)(o:Off X H H')(h:yu K H l xs):yu K H' l xs:=by
 rcases h with(z|⟨ob,z⟩)|z
 .exact .inl (.inl<|o _ _ (λq=>by obtain⟨b,e,_,k,_⟩:=n _ q;rw[z]at e;exact k _ (Option.some.inj e).symm) z)
 .exact .inl (.inr ⟨ob,o _ _ (λq=>by obtain⟨b,e,_,_,k⟩:=n _ q;rw[z]at e;exact k _ _ (Option.some.inj e).symm) z⟩)
 .exact .inr z
namespace AQ
abbrev st:Stmt:=top 57
theorem sc:zy ["store","name"] ["store","name"] (zF st):=Cz
include T in
theorem ok (F:yc0 K "note_of" st f fd)(l:wV P w K mg base 5 "names_form" ["store","name","form"]<|lD P w K aC)(j:wK P w K mg base aC 4 "thing" ["self","name"]<|wk P w K aC aN):zc P w K mg base (CI P w) 6 f fd ["store","name"] (tU P w K aC b5):=by
 refine F.sU sc λ_ _ _ _ H vs Q E g h=>?_;obtain⟨a,fp,S,d,v,rfl,sh,th,hd,B,C⟩:=h;refine⟨_,(zD (yG (yS<|zU (K:=K)<|zK l g.m<|zA (pv 0)<|zA (pv 1)<|zA zz zB) (zE<|xT rfl xD rfl T.qu T.nW<|zA zz zB) zR)<|zE<|zL<|yE (pv 0) T.cls j g.m yD<|zA (pv 1) zB),?_⟩
 obtain⟨s,n,G,I,J,Z,nx,r,nd,h1,L,M,h4,N,O,R,U,Y⟩:=id sh;refine⟨_,rfl,_,rfl,a,fp,S,d,v,"note",rfl,sh,th,hd,_,rfl,?_⟩;cases q:UL S d "note" with
 |false=>exact Nn ⟨UD 1,C q⟩
 |true =>
  obtain⟨x,rfl,u,A⟩:=FM q;obtain⟨e,he,rfl,t,ps,y,b⟩:=Sr th u;refine UN ⟨_,rfl,a,n,_,rfl,h1,rfl,_,rfl,a,fp,S,.str e.nm,v,rfl,sh,hd,λo c p D i=>?_,λz=>?_⟩
  .have:e=o:=Nv s he c (by injection p);subst this;rw[b]at i;exact B e he t ps y rfl b D i
  .rw[show Xz S (.str e.nm)=decide (e.nm∈S.map En.nm) from rfl,Zq A]at z;cases z
end AQ
namespace AR
abbrev st:Stmt:=top 59
theorem sc:zy ["store","name"] ["store","name"] (zF st):=Cz
include T in
theorem ok (F:yc0 K "tree_of" st f fd)(j:wz P w K mg base 6 "note_of" ["store","name"]<|tU P w K aC b5):zc P w K mg base (CI P w) 7 f fd ["store","name"] (tR P w K aC b5 λt _=>t):=by
 refine F.sU sc λ_ _ _ _ H s Q E o h=>?_;obtain⟨a,fp,S,d,v,rfl,sh,th,hd,p,q⟩:=h;refine⟨_,(zE<|zL<|yB (yw:Cy _<|wZ K) (yQ j o.m yD<|zA (pv 0)<|zA (pv 1) zB) zH),?_⟩;refine⟨_,rfl,_,rfl,a,fp,S,d,v,rfl,sh,th,hd,λe he t ps y n i c hc=>?_,q⟩;obtain⟨r,b,l,g,hb⟩:=uZ hc;cases l;exact⟨c,_,_,_,rfl,rfl,g,rfl,p e he t ps y n i⟩
end AR
namespace AS
abbrev st:Stmt:=top 61
theorem sc:zy ["store","name"] ["store","name"] (zF st):=Cz
include T in
theorem ok (F:yc0 K "words_of" st f fd)(j:wz P w K mg base 6 "note_of" ["store","name"]<|tU P w K aC b5):zc P w K mg base (CI P w) 7 f fd ["store","name"] (tR P w K aC b5 λ_ y=>y):=by
 refine F.sU sc λ_ _ _ _ H s Q E o h=>?_;obtain⟨a,fp,S,d,v,rfl,sh,th,hd,p,q⟩:=h;refine⟨_,(zE<|zL<|yB (yw:Cy _<|wZ K) (yQ j o.m yD<|zA (pv 0)<|zA (pv 1) zB) zH),?_⟩;refine⟨_,rfl,_,rfl,a,fp,S,d,v,rfl,sh,th,hd,λe he t ps y n i c hc=>?_,q⟩;obtain⟨r,b,l,g,hb⟩:=uZ hc;cases l;exact⟨c,_,_,_,rfl,rfl,g,rfl,p e he t ps y n i⟩
end AS
namespace AT
abbrev st:Stmt:=top 60
theorem sc:zy ["store","name"] ["store","name"] (zF st):=Cz
include T in
theorem ok (F:yc0 K "parents_of" st f fd)(j:wz P w K mg base 6 "note_of" ["store","name"]<|tU P w K aC b5):zc P w K mg base (CI P w) 7 f fd ["store","name"] (n6 P w K aC b5):=by
 refine F.sU sc λ_ _ _ _ H x Q E p h=>?_;obtain⟨a,fp,S,d,v,rfl,sh,th,hd,q,r⟩:=h;refine⟨_,(zE<|zL<|z8 xP (by rfl) T.list Yw<|zA (yB (yw:Cy _<|wZ K) (yQ j p.m yD<|zA (pv 0)<|zA (pv 1) zB) zH) zB),?_⟩;refine⟨_,rfl,_,rfl,a,fp,S,d,v,rfl,sh,th,hd,λe he t ps y o i c hc=>?_,r⟩;obtain⟨u,b,n,g,hb⟩:=uZ hc;cases n;exact⟨c,_,_,_,rfl,rfl,g,rfl,b,_,rfl,.inr hb,λl s=>q e he t ps y o i l s⟩
end AT
namespace AU
abbrev st:Stmt:=top 58
theorem sc:zy ["store","name"] ["store","name"] (zF st):=Cz
include T in
theorem ok (F:yc0 K "need_version_or_none" st f fd)(b:wz P w K mg base 6 "note_of" ["store","name"]<|tU P w K aC b5):zc P w K mg base (CI P w) 7 f fd ["store","name"] (lV P w K aC):=by
 refine F.sU sc λ_ _ _ _ H l Q E i h=>?_;obtain⟨a,fp,S,o,rfl,sh,th,d,k⟩:=h;refine⟨_,(zE<|yG (zP X5 (pv 1) x9<|zO _) (zE<|yC<|yQ b i.m yD<|zA (pv 0)<|zA (pv 1) zB) zR),?_⟩
 cases o with
 |none=>exact⟨_,rfl,rfl,false,rfl,UC k⟩
 |some v=>exact⟨_,rfl,rfl,true,rfl,UF ⟨_,rfl,_,rfl,a,fp,S,.str v,_,rfl,sh,th,rfl,λe he t ps y j g c _=>k,λq=>by rw[show UL S (.str v) "note"=true from d v rfl]at q;cases q⟩⟩
end AU
namespace AV
abbrev st:Stmt:=top 63
theorem sc:zy ["shelf","files","parents","words"] ["shelf","files","parents","words"] (zF st):=Cz
include T in
theorem ok (F:yc0 K "noted" st f fd)(R:wK P w K mg base aC 7 "put" ["self","thing"]<|tX P w K aC)(U:wV P w K mg base 12 "put_files" ["shelf","files"]<|Gz P w K aC 4):zc P w K mg base CA 13 f fd ["shelf","files","parents","words"] (pZ P w K aC):=by
 refine F.ok sc λ_ _ _ _ H vs Q E I h=>?_;obtain⟨a,c,l,fp,S,fs,M,ps,y,rfl,sh,ok,hc,nc,ff,G,D,hl,nd,p2,pf,ly,sl,k⟩:=h;refine⟨_,(zE<|zL<|yE (pv 0) T.cls R I.m zX<|zA (yR<|zA zz<|zA (zK U I.m<|zA (pv 0)<|zA (pv 1) zB)<|zA (z8 jK (by rfl) T.tuple YA<|zA (pv 2) zB)<|zA (pv 3) zB) zB),?_⟩;obtain⟨ix,i1,i2,i3,t⟩:=CV sh;refine⟨_,rfl,a,ix,_,rfl,t,rfl,_,rfl,_,rfl,a,c,fp,S,fs,M,rfl,sh,ok,hc,nc,ff,G,D,by lia,λH1 i r=>?_⟩;obtain⟨d,A⟩:=Ia 3 (S:=S) (fs:=fs) ok G D (by lia);have d:sV 5 S fs (UG 4 S fs):=d;have A:(UG 4 S fs).1.length<=S.length+1+wt fs:=A;unfold CK at k;generalize UG 4 S fs=q at d A r k ⊢;obtain⟨T1,s,_⟩:=d.new;obtain⟨Do,g⟩:=d.node;have u:=S4 sh.wA i hl;refine⟨_,rfl,l,_,rfl,.inl ⟨u,λp1 n1=>nw n1 λH2 L h1=>⟨_,rfl,UD 4,λj n2=>nw n2 λN C Y=>?_⟩⟩⟩;have J:∀{x:Str},x∈q.1.map En.nm->Ok 1000 x:=λ{x} Z=>by
  obtain⟨e,he,rfl⟩:=Zr.mp Z;exact d.ok.nm he
 have n:∀p∈ps,zW q.1 p ["note"]=true:=λp v=>by rw[s];exact Xp<|pf p v
 delta Xj;dsimp only;show tX P w K aC [V.ref a,V.ref j] N _ _;refine Rt (r.same<|L.trans C) d.ok (G5 (J g.mem) ly (λp v=>J<|kM<|n p v) nd p2) ?_ (by lia) ⟨j,_,rfl,wY.of Y,_,_,rfl,rfl,_,_,rfl,rfl,_,_,rfl,⟨p1,_,rfl,wY.of<|C _ _ h1,zu.strs ps⟩,_,_,rfl,rfl,rfl⟩ λO z B=>k O (λb o nb e=>z b o nb<|(L.trans C) _ _<|i _ _ nb e) B;show(zW _ _ ["tree"]&&ps.all λp=>zW _ p ["note"])=true;rw[ZQ.mpr n,Bool.and_true];exact cB g
end AV
namespace AW
abbrev st:Stmt:=top 64
theorem sc:zy ["store","version"] ["store","version"] (zF st):=Cz
include T in
theorem ok (F:yc0 K "files_at" st f fd)(j:wz P w K mg base 7 "tree_of" ["store","name"]<|tR P w K aC b5 λt _=>t)(i:wz P w K mg base 14 "files_of" ["store","root"]<|tu P w K aC aN):zc P w K mg base (CI P w) 15 f fd ["store","version"] (sY P w K aC b5):=by
 refine F.sU sc λ_ _ _ _ H r Q E c h=>?_;obtain⟨a,fp,S,d,v,rfl,sh,ok,hd,n,o⟩:=h;refine⟨_,(zE<|zL<|yQ i c.m yD<|zA (pv 0)<|zA (yQ j c.m yD<|zA (pv 0)<|zA (pv 1) zB) zB),?_⟩;refine⟨_,rfl,_,rfl,_,rfl,a,fp,S,d,v,rfl,sh,ok.th,hd,λe he t ps y l b=>?_,o⟩;obtain⟨g,at_,tr,p,q,k⟩:=n e he t ps y l b;exact⟨a,fp,S,.str t,_,rfl,sh,ok,rfl,.inl ⟨t,g,rfl,rfl,at_,tr,p,q,k⟩⟩
end AW
abbrev Hs:=List<|Str×Option Str
def hkg (g:Option Str->V)(hs:Hs):Dl:=hs.map λp=>(.inr p.1,g p.2)
abbrev hkv:=hkg oV
def UI (hs:Hs)(x:Str):Option (Option Str):=(hs.find? λp=>decide (p.1=x)).map (·.2)
def UH (hs:Hs)(x:Str)(o:Option Str):Hs:=if(hs.any λp=>decide (p.1=x))=true then hs.map (λp=>if p.1=x then(p.1,o) else p) else hs++[(x,o)]
theorem vW (x:Str):∀hs:Hs,UE (hkg g hs) (.inr x)=(UI hs x).map g
 |[]=>rfl
 |p::hs=>by
  by_cases e:p.1=x
  .rw[show hkg g (p::hs)=(.inr p.1,g p.2)::hkg g hs from rfl,xK<|by rw[e]];unfold UI;rw[YN,Zq e];rfl
  .rw[show hkg g (p::hs)=(.inr p.1,g p.2)::hkg g hs from rfl,xI<|λz=>e<|Sum.inr.inj z,vW (g:=g) x hs];unfold UI;rw[YN,ZE e]
theorem CU (hs:Hs)(x:Str)(o:Option Str):yt (hkg g hs) (.inr x) (g o)=hkg g (UH hs x o):=by
 have b:((hkg g hs).any λkv=>decide (kv.1=(.inr x:Key)))=hs.any λp=>decide (p.1=x):=by
  unfold hkg;rw[List.any_map];refine congrArg (λf=>hs.any f)<|funext λp=>?_;exact Vb.mpr ⟨λz=>Sum.inr.inj z,λz=>congrArg ED z⟩
 unfold yt UH;rw[b]
 split
 .unfold hkg;rw[ZM,ZM];refine Yf λp _=>?_;show(if(.inr p.1:Key)=.inr x then _ else _)=_
  by_cases z:p.1=x
  .rw[ZK<|congrArg ED z];show _=(λq:Str×Option Str=>((.inr q.1:Key),g q.2)) (if p.1=x then(p.1,o) else p);rw[ZK z]
  .rw[ZH<|λq=>z<|Sum.inr.inj q];show _=(λq:Str×Option Str=>((.inr q.1:Key),g q.2)) (if p.1=x then(p.1,o) else p);rw[ZH z]
 .unfold hkg;rw[Zx];rfl
theorem j8 {o:Option Str}(h:UI hs x=some o):(x,o)∈hs:=by
 obtain⟨p,b,e⟩:=Z0.mp h;have:=List.find?_some b;have c:p.1=x:=ZI this;rw[<-c,<-e];exact List.mem_of_find?_eq_some b
theorem wu:(UI hs x).isSome=true↔x∈hs.map (·.1):=by
 constructor
 .intro h;obtain⟨o,b⟩:=Z6.mp h;exact Zr.mpr ⟨_,j8 b,rfl⟩
 .intro h;obtain⟨p,c,e⟩:=Zr.mp h;unfold UI;rw[VG,List.find?_isSome];exact⟨p,c,Zq e⟩
theorem Xl:(UH hs x o).map (·.1)=if x∈hs.map (·.1) then hs.map (·.1) else hs.map (·.1)++[x]:=by
 unfold UH
 by_cases h:x∈hs.map (·.1)
 .obtain⟨p,b,e⟩:=Zr.mp h;rw[ZK h,ZK<|Z8.mpr ⟨p,b,Zq e⟩,ZM];refine Yf λp _=>?_;show(if p.1=x then(p.1,o) else p).1=p.1
  split<;>rfl
 .rw[ZH h,ZH<|λz=>?_,Zx]
  .rfl
  .obtain⟨p,b,e⟩:=Z8.mp z;exact h<|Zr.mpr ⟨p,b,ZI e⟩
theorem WI {hs:Hs}(h:(hs.map (·.1)).Nodup):((UH hs x o).map (·.1)).Nodup:=by
 rw[Xl]
 split
 .exact h
 .exact jM h (by assumption)
theorem SX {p:Str×Option Str}(h:p∈UH hs x o):p=(x,o)\/p∈hs:=by
 unfold UH at h
 split at h
 .obtain⟨q,b,e⟩:=Zr.mp h
  by_cases z:q.1=x
  .rw[ZK z]at e;exact .inl (by rw[<-e,z])
  .rw[ZH z]at e;exact .inr<|e▸b
 .rcases ZR.mp h with z|z
  .exact .inr z
  .exact .inl (Zl.mp z)
structure xu (P:Er)(w:Eu)(K:Cq)(C D:Eo)(H:Hp)(b a h:Eo)(fp:Dd)(S:Di)(hs:Hs):Prop where
 ob:∃dx,H b=some (.ins D dx [("shelf",.ref a),("heads",.ref h)])
 sh:yo P w K C H a fp S
 hd:H h=some (.dK<|hkv hs)
 nb:b∉fp
 nh:h∉fp
 ok:wM S
 nd:(hs.map (·.1)).Nodup
 hv:∀p∈hs,∀v,p.2=some v->zW S v ["note"]=true
section
variable {P:Er}{w:Eu}{K:Cq}{C D:Eo}{H H':Hp}{b a h:Eo}{fp:Dd}{S S':Di}{hs:Hs}
theorem xu.same (x:xu P w K C D H b a h fp S hs)(e:zx H H'):xu P w K C D H' b a h fp S hs:=⟨let ⟨dx,q⟩:=x.ob;⟨dx,e _ _ q⟩,x.sh.same e,e _ _ x.hd,x.nb,x.nh,x.ok,x.nd,x.hv⟩
inductive p7 (P:Er)(w:Eu)(K:Cq)(C D:Eo)(vs:Dj)(H:Hp)(Q:VK)(e3:XK):Prop
 |mk (b a h:Eo) (fp:Dd) (S:Di) (hs:Hs) (x:Str) (h0:vs=[.ref b,.str x]) (h1:xu P w K C D H b a h fp S hs) (h2:Q (.bl (UI hs x).isSome) H):p7 P w K C D vs H Q e3
inductive sE (P:Er)(w:Eu)(K:Cq)(C D b7:Eo)(vs:Dj)(H:Hp)(Q:VK)(E:XK):Prop
 |mk (b a h:Eo) (fp:Dd) (S:Di) (hs:Hs) (x:Str) (h0:vs=[.ref b,.str x]) (h1:xu P w K C D H b a h fp S hs) (h2:((UI hs x).isSome=true->Q .non H)) (h3:((UI hs x).isSome=false->E (.ref b7) none H)):sE P w K C D b7 vs H Q E
inductive oK (P:Er)(w:Eu)(K:Cq)(C D b7:Eo)(vs:Dj)(H:Hp)(Q:VK)(E:XK):Prop
 |mk (b a h:Eo) (fp:Dd) (S:Di) (hs:Hs) (x:Str) (h0:vs=[.ref b,.str x]) (h1:xu P w K C D H b a h fp S hs) (h2:(∀o,UI hs x=some o->Q (oV o) H)) (h3:(UI hs x=none->E (.ref b7) none H)):oK P w K C D b7 vs H Q E
inductive rO (P:Er)(w:Eu)(K:Cq)(C D b5:Eo)(vs:Dj)(H:Hp)(Q:VK)(E:XK):Prop
 |mk (b a h:Eo) (fp:Dd) (S:Di) (hs:Hs) (x y:Str) (h0:vs=[.ref b,.str x,.str y]) (h1:xu P w K C D H b a h fp S hs) (h2:hs.length<1000) (h3:(UI hs x).isSome=true) (h4:(zW S y ["note"]=false->E (.ref b5) none H)) (h5:(zW S y ["note"]=true->∀H',H'=upd H h (.dK<|hkv<|UH hs x<|some y)->xu P w K C D H' b a h fp S (UH hs x<|some y)->Q .non H')):rO P w K C D b5 vs H Q E
inductive sJ (P:Er)(w:Eu)(K:Cq)(C D:Eo)(vs:Dj)(H:Hp)(Q:VK)(e3:XK):Prop
 |mk (b a h:Eo) (fp:Dd) (S:Di) (hs:Hs) (x:Str) (o:Option Str) (h0:vs=[.ref b,.str x,oV o]) (h1:xu P w K C D H b a h fp S hs) (h2:hs.length<1000) (h3:z9 x=true) (h4:UI hs x=none) (h5:(∀v,o=some v->zW S v ["note"]=true)) (h6:∀H',Off [h] H H'->xu P w K C D H' b a h fp S (UH hs x o)->Q .non H'):sJ P w K C D vs H Q e3
inductive rZ (P:Er)(w:Eu)(K:Cq)(C D b2 b6 b7:Eo)(vs:Dj)(H:Hp)(Q:VK)(E:XK):Prop
 |mk (b a h:Eo) (fp:Dd) (S:Di) (hs:Hs) (x:Str) (v u:V) (h0:vs=[.ref b,.str x,v,u]) (h1:xu P w K C D H b a h fp S hs) (h2:hs.length<1000) (h3:((UI hs x=none/\E (.ref b7) none H)\/∃o,UI hs x=some o /\ ((∃d,Dw K H d v/\(U1 d=="dict")=false/\E (.ref b2) none H)\/(∃c Dm ps,v=.ref c/\H c=some (.dK Dm)/\yh K H ps Dm/\(∀p∈ps,xJ p.2=true)/\ps.length<=100/\UY ps=false/\∀H',Off [c] H H'->E (.ref b2) none H') \/ ∃c Dm fs d,v=.ref c/\H c=some (.dK Dm)/\c∉fp/\yp K H fs Dm/\yj 4 fs/\fs.length<=63/\Dw K H d u/\small d=true /\ ((UZ d=false/\∀H',zx H H'->E (.ref b6) none H')\/∃y,d=.str y/\u=.str y/\UK y=true/\S.length+2+wt fs<1900 /\ ∀H',Off (h::fp) H H'->xu P w K C D H' b a h fp (CK S fs o.toList y).1 (UH hs x<|some (CK S fs o.toList y).2)->Q (.str (CK S fs o.toList y).2) H')))):rZ P w K C D b2 b6 b7 vs H Q E
theorem II {c:TE}{i:Nat}{u:TS}{D:Ends}{b:St}{H:Hp}(h:c b H λv H1=>u D (b.set i (some v)) H1):RO (OC c<|Xc i) u D b H:=h
theorem SA {c:St}{Q:VK}{j:Nat}(e:c[j]?=some (some<|oV o))(k:∀l H',zx H H'->H' l=some (.lst<|o.toList.map V.str)->Q (.ref l) H'):cC (Tz<|W7 (λx y H Q=>y=V.non/\Q (V.bl<|decide (x=V.non)) H) (MV j) (tC V.non)) (RM Xj) (RM<|IV (MV j) Xj) c H Q:=by
 cases o with
 |none=>exact⟨_,e,rfl,true,rfl,UF ⟨UD 0,λl b=>k l _ (zG b) zC⟩⟩
 |some p=>exact⟨_,e,rfl,false,rfl,UC ⟨_,e,UD 1,λl b=>k l _ (zG b) zC⟩⟩
section
variable {fs gs:Dk}{T:Di}{ps qs:Da}{y z n t x v:Str}
theorem pA (g:wM S):∀{d:Nat} {x v:Str},Tree d S x->v∈met d S x->(∃ls,At S v<|.leaf ls)\/∃Do,At S v (.tree Do)
 | 0,_,_,h,_=>absurd h<|λz=>z
 |d+1,x,v,h,m=>by
  rcases id h with⟨ls,a⟩|⟨Do,a,so,hr⟩
  .rw[Gq g a]at m;rw[Zl.mp m];exact .inl ⟨ls,a⟩
  .rw[vP g a]at m
   rcases Zo.mp m with z|z
   .rw[z];exact .inr ⟨Do,a⟩
   .obtain⟨r,b,hm⟩:=YQ.mp z;exact pA g (hr r b).2.1 hm
theorem Fb (g:wM S)(h:At S x u)(ne:u.word≠"note"):zW S x ["note"]=false:=by
 obtain⟨e,he,rfl,hd⟩:=h;rw[vY g.good he,j7 hd];exact ZE λz=>ne<|Zl.mp z
theorem NR:("tree":Str)≠"note":=by decide+kernel
structure oN (S:Di)(n:Str)(gs:Dk)(qs:Da)(z t:Str):Prop where
 nt:At S n<|.note t qs z
 tr:∃Do,At S t<|.tree Do
 ok:Tree 5 S t
 rd:∀f,f∈zq 5 S t↔f∈gs
theorem oN.more (h:oN S n gs qs z t)(c:wM S)(g:wM<|S++T):oN (S++T) n gs qs z t:=by
 obtain⟨a,b⟩:=h.ok.more g c;exact⟨h.nt.more,let ⟨r,q⟩:=h.tr;⟨r,q.more⟩,a,λf=>by rw[b];exact h.rd f⟩
structure iK (S:Di)(fs:Dk)(ps:Da)(y:Str)(q:List En×Str):Prop where
 ok:wM q.1
 more:∃T,q.1=S++T
 len:q.1.length<=S.length+2+wt fs
 nt:∃t,oN q.1 q.2 fs ps y t
 new:∀v,zW q.1 v ["note"]=true->zW S v ["note"]=true\/v=q.2
 same:∀{n gs qs z t},oN S n gs qs z t->(n=q.2↔(∀f,f∈gs↔f∈fs)/\qs=ps/\z=y)
theorem Tp (ok:wM S)(M:yj 4 fs)(L:fs.length<=63)(nd:ps.Nodup)(p2:ps.length<=2)(R:∀p∈ps,zW S p ["note"]=true)(ly:UK y=true)(Y:S.length+2+wt fs<1900):iK S fs ps y (CK S fs ps y):=by
 obtain⟨c,D⟩:=Ia 3 (S:=S) (fs:=fs) ok M L (by lia);have c:sV 5 S fs (UG 4 S fs):=c;have D:(UG 4 S fs).1.length<=S.length+1+wt fs:=D;unfold CK;generalize UG 4 S fs=q at c D ⊢;obtain⟨E,g,B⟩:=c.new;obtain⟨I,l⟩:=c.node;have G:∀{x:Str},x∈q.1.map En.nm->Ok 1000 x:=λ{x} N=>by
  obtain⟨e,he,rfl⟩:=Zr.mp N;exact c.ok.nm he
 have C:∀p∈ps,zW q.1 p ["note"]=true:=λp A=>by rw[g];exact Xp<|R p A
 obtain⟨j,o,U,s,d,u⟩:=Fg c.ok (G5 (G l.mem) ly (λp A=>G<|kM<|C p A) nd p2).1 (show q.1.length<2000 by lia);have H:=c.tree.more (T:=s) (d▸j) c.ok;refine⟨j,⟨E++s,by rw[<-YC,<-g];exact d⟩,by lia,⟨q.2,o,⟨I,by rw[d];exact l.more⟩,by rw[d];exact H.1,λf=>by rw[d,H.2];exact c.rd f⟩,?_,?_⟩
 .intro v hv;unfold zW at hv;obtain⟨e,he,r⟩:=Z8.mp hv;rw[Zw,ZN,ZN]at r;obtain⟨rfl,r⟩:=r;rw[d]at he
  rcases ZR.mp he with he|he
  .have w:=he;rw[g]at he
   rcases ZR.mp he with he|he
   .exact .inl (by rw[vY ok.good he];exact Zq r)
   .exfalso;have F:zW q.1 e.nm ["note"]=false:=by
     rcases pA c.ok c.tree (B e he) with⟨ls,a⟩|⟨rs,a⟩
     .exact Fb c.ok a (show("leaf":Str)≠"note" by decide+kernel)
     .exact Fb c.ok a NR
    rw[vY c.ok.good w,Zq r]at F;cases F
  .exact .inr (u e he)
 .intro n gs qs z t h;have i:=c.ok;have h1:=h.more (T:=E) ok<|g▸i;rw[<-g]at h1;constructor
  .intro e;have b:=h1.nt.more (T:=s);rw[<-d,e]at b;have:=At.thing j b o;injection this with O P Q;refine⟨λf=>?_,P,Q⟩;rw[<-h1.rd,O,c.rd]
  .rintro⟨J,rfl,rfl⟩;have K:t=q.2:=Tree.one i h1.ok c.tree (Oy (h1.ok.rise i).1 (c.tree.rise i).1 λf=>by rw[h1.rd,c.rd,J]);subst K;rw[Ff i h1.nt]
end
theorem Tn {t:Str}{ps:Da}{y:Str}(h:At S x<|.note t ps y):zW S x ["note"]=true:=by
 obtain⟨e,he,rfl,hd⟩:=h;exact Nw he hd
theorem xu.put (B:xu P w K C D H b a h fp S hs)(x:Str)(o:Option Str)(hv:∀v,o=some v->zW S v ["note"]=true)(of:Off [h] H H')(hh:H' h=some (.dK<|hkv<|UH hs x o)):xu P w K C D H' b a h fp S (UH hs x o):=by
 obtain⟨d,hb⟩:=B.ob;have nh:b∉[h]:=λz=>by rw[Zl.mp z,B.hd]at hb;cases hb
 refine⟨⟨d,of _ _ nh hb⟩,B.sh.off (yF B.hd) of<|λc hc z=>B.nh<|Zl.mp z▸hc,hh,B.nb,B.nh,B.ok,WI B.nd,λp f v e=>?_⟩
 rcases SX f with z|z
 .rw[z]at e;exact hv v e
 .exact B.hv p z v e
end
namespace AX
abbrev st:Stmt:=inClass (top 65) 3
theorem sc:zy ["self","branch"] ["self","branch"] (zF st):=Cz
include T in
theorem ok (F:yc K "has_branch" "Annals.has_branch" st f fd)(c:wV P w K mg base 1 "is_key" ["table","thing"]<|m9 K):zc P w K mg base CA 2 f fd ["self","branch"] (p7 P w K aC aD):=by
 refine F.ok sc λ_ _ _ _ H i Q E e h=>?_;obtain⟨b,a,h,fp,S,g,x,rfl,B,k⟩:=h;refine⟨_,(zE<|zL<|zK c e.m<|zA (yP (pv 0) rfl)<|zA (pv 1) zB),?_⟩;obtain⟨d,hb⟩:=B.ob;refine⟨_,rfl,b,aD,d,_,_,rfl,hb,T.xx,T.m2,rfl,_,rfl,h,_,.str x,_,rfl,B.hd,rfl,?_⟩;show Q (.bl (UE (hkv g)<|.inr x).isSome) H;rwa[vW,VG]
end AX
namespace AY
abbrev st:Stmt:=inClass (top 65) 5
theorem sc:zy ["self","branch"] ["self","branch"] (zF st):=Cz
include T in
theorem ok (F:yc K "need_branch" "Annals.need_branch" st f fd)(d:Met P w K mg base aD 2 "has_branch" ["self","branch"]<|p7 P w K aC aD):zc P w K mg base (CI P w) 3 f fd ["self","branch"] (sE P w K aC aD b7):=by
 refine F.sU sc λ_ _ _ _ H l Q E g h=>?_;obtain⟨b,a,h,fp,S,c,x,rfl,B,i,j⟩:=h;refine⟨_,(zE<|yG (yS<|zU (K:=K)<|jY (pv 0) T.xx d g.m<|zA (pv 1) zB) (zE<|xT rfl xD rfl T.pB T.mZ<|zA zz zB) zR),?_⟩
 obtain⟨e,hb⟩:=B.ob;refine⟨_,rfl,b,e,_,rfl,hb,rfl,_,rfl,b,a,h,fp,S,c,x,rfl,B,_,rfl,?_⟩;cases q:(UI c x).isSome with
 |true=>exact UN<|i q
 |false=>exact Nn ⟨UD 1,j q⟩
end AY
namespace AZ
abbrev st:Stmt:=inClass (top 65) 6
theorem sc:zy ["self","branch"] ["self","branch"] (zF st):=Cz
include T in
theorem ok (F:yc K "head" "Annals.head" st f fd)(g:wK P w K mg base aD 3 "need_branch" ["self","branch"]<|sE P w K aC aD b7):zc P w K mg base (CI P w) 4 f fd ["self","branch"] (oK P w K aC aD b7):=by
 refine F.sU sc λ_ _ _ _ H n Q E e h=>?_;obtain⟨b,a,h,fp,S,i,x,rfl,B,j,l⟩:=h;refine⟨_,(zD (yC<|yE (pv 0) T.xx g e.m yD<|zA (pv 1) zB)<|zE<|zL<|zM e.zr (yP (pv 0) rfl) (pv 1)<|λ_ _=>rfl),?_⟩
 obtain⟨c,hb⟩:=B.ob;refine⟨_,rfl,b,c,_,rfl,hb,rfl,_,rfl,b,a,h,fp,S,i,x,rfl,B,λq=>?_,λq=>l<|JO.mp (by rw[q];decide)⟩;obtain⟨o,d⟩:=Z6.mp q;exact⟨_,rfl,b,aD,c,_,_,rfl,hb,T.xx,T.m2,rfl,_,rfl,h,_,rfl,.inl ⟨_,.inr x,.inl B.hd,rfl,by rw[vW,d];rfl⟩,j o d⟩
end AZ
namespace A1
abbrev st:Stmt:=inClass (top 65) 7
theorem sc:zy ["self","branch","version"] ["self","branch","version"] (zF st):=Cz
include T in
theorem ok (F:yc K "set_head" "Annals.set_head" st f fd)(o:wK P w K mg base aD 3 "need_branch" ["self","branch"]<|sE P w K aC aD b7)(n:wz P w K mg base 6 "note_of" ["store","name"]<|tU P w K aC b5):zc P w K mg base (CI P w) 7 f fd ["self","branch","version"] (rO P w K aC aD b5):=by
 refine F.sU sc λ_ _ _ _ H A Q E j h=>?_;obtain⟨b,a,h,fp,S,d,x,y,rfl,B,hl,q,u,v⟩:=h;refine⟨_,(zD (yC<|yE (pv 0) T.xx o j.m yD<|zA (pv 1) zB)<|zD (yC<|yQ n j.m yD<|zA (yP (pv 0) rfl)<|zA (pv 2) zB)<|zE<|yZ j.zr (yP (pv 0) rfl) (pv 1) (pv 2) rfl),?_⟩
 obtain⟨g,hb⟩:=B.ob;refine⟨_,rfl,b,g,_,rfl,hb,rfl,_,rfl,b,a,h,fp,S,d,x,rfl,B,λ_=>?_,λz=>by rw[q]at z;cases z⟩;refine⟨_,rfl,b,aD,g,_,_,rfl,hb,T.xx,T.m1,rfl,_,rfl,a,fp,S,.str y,_,rfl,B.sh,B.ok.th,rfl,λe he t ps C p i c _=>?_,λz=>u z⟩;cases p;have l:zW S e.nm ["note"]=true:=Nw he i;refine⟨_,rfl,_,rfl,b,aD,g,_,_,rfl,hb,T.xx,T.m2,rfl,_,rfl,h,_,rfl,.inl ⟨_,.inr x,B.hd,rfl,yJ (by rw[show(hkv d).length=d.length from Zk ..];lia),rfl⟩,?_⟩;have r:yt (hkv d) (.inr x) (V.str e.nm)=hkv (UH d x<|some e.nm):=CU d x<|some e.nm;rw[r];exact v l _ rfl (B.put x (some e.nm) (λz s=>by cases s;exact l) zY zC)
end A1
namespace A2
abbrev st:Stmt:=inClass (top 65) 4
theorem sc:zy ["self","branch","version"] ["self","branch","version"] (zF st):=Cz
include T in
theorem ok (F:yc K "begin" "Annals.begin" st f fd)(p:wV P w K mg base 1 "is_label" ["thing"]<|X2 K)(q:Met P w K mg base aD 2 "has_branch" ["self","branch"]<|p7 P w K aC aD)(n:wz P w K mg base 7 "need_version_or_none" ["store","name"]<|lV P w K aC):zc P w K mg base (CI P w) 8 f fd ["self","branch","version"] (sJ P w K aC aD):=by
 refine F.sU sc λ_ _ _ _ H u Q E e h=>?_;obtain⟨b,a,h,fp,S,i,x,o,rfl,B,hl,lb,nx,j,k⟩:=h;refine⟨_,(zD (yG (PW.pt<|v7 (yS<|zU (K:=K)<|zK p e.m<|zA (pv 1) zB)<|vG<|zU (K:=K)<|jY (pv 0) T.xx q e.m<|zA (pv 1) zB) (zE<|xT rfl xD rfl T.qp T.nQ<|zA zz zB) zR)<|zD (yC<|yQ n e.m yD<|zA (yP (pv 0) rfl)<|zA (pv 2) zB)<|zE<|yZ e.zr (yP (pv 0) rfl) (pv 1) (pv 2) rfl),?_⟩
 refine⟨_,rfl,.str x,_,rfl,rfl,Zq (Gm lb).len,λt l=>⟨_,rfl,?_⟩⟩;have d:=B.same l;rw[show kW (.str x)=true from lb];obtain⟨g,hb⟩:=d.ob;refine UN ⟨_,rfl,b,g,_,rfl,hb,rfl,_,rfl,b,a,h,fp,S,i,x,rfl,d,_,rfl,?_⟩;rw[nx];refine UC ⟨_,rfl,b,aD,g,_,_,rfl,hb,T.xx,T.m1,rfl,_,rfl,a,fp,S,o,rfl,d.sh,d.ok.th,j,?_⟩;refine⟨_,rfl,_,rfl,b,aD,g,_,_,rfl,hb,T.xx,T.m2,rfl,_,rfl,h,_,rfl,.inl ⟨_,.inr x,d.hd,rfl,yJ (by rw[show(hkv i).length=i.length from Zk ..];lia),rfl⟩,?_⟩;rw[CU];exact k _ (λc w s r=>zY c w s<|l c w r) (d.put x o j zY zC)
end A2
namespace A3
abbrev st:Stmt:=inClass (top 65) 8
theorem sc:zy ["self","branch","files","words","head","parents","version"] ["self","branch","files","words"] (zF st):=Cz
include T in
theorem ok (F:yc K "keep" "Annals.keep" st f fd)(Q5:wK P w K mg base aD 4 "head" ["self","branch"]<|oK P w K aC aD b7)(Q6:wz P w K mg base 5 "need_files" ["files"]<|pM K b2)(Qi:wV P w K mg base 2 "is_line" ["thing"]<|BH K)(Q7:wV P w K mg base 13 "noted" ["shelf","files","parents","words"]<|pZ P w K aC)(Qf:wK P w K mg base aD 7 "set_head" ["self","branch","version"]<|rO P w K aC aD b5):zc P w K mg base (CI P w) 14 f fd ["self","branch","files","words"] (rZ P w K aC aD b2 b6 b7):=by
 refine F.sU sc λ_ _ _ _ H vs Q E D h=>?_;obtain⟨b,a,h,fp,S,U,x,v,u,rfl,B,hl,hk⟩:=h;refine⟨_,(zD (Cv (i:=4) sc.nd<|yE (pv 0) T.xx Q5 D.m yD<|zA (pv 1) zB)<|zD (yC<|yQ Q6 D.m yD<|zA (pv 2) zB)<|zD (yG (yS<|zU (K:=K)<|zK Qi D.m<|zA (pv 3) zB) (zE<|xT rfl xD rfl T.ni T.mj<|zA zz zB) zR)<|zD (Cv (i:=5) sc.nd<|Hv (zP KW (pv 4) x9<|zO _) (yT zB)<|yT<|zA (pv 4) zB)<|zD (Cv (i:=6) sc.nd<|zK Q7 D.m<|zA (yP (pv 0) rfl)<|zA (pv 2)<|zA (pv 5)<|zA (pv 3) zB)<|zD (yC<|yE (pv 0) T.xx Qf D.m yD<|zA (pv 1)<|zA (pv 6) zB)<|zE<|zL<|pv 6),?_⟩
 obtain⟨dx,hb⟩:=B.ob
 rcases hk with⟨no,G⟩|⟨o,j,hk⟩
 .exact⟨_,rfl,b,dx,_,rfl,hb,rfl,_,rfl,b,a,h,fp,S,U,x,rfl,B,(λo j=>by rw[no]at j;cases j),λ_=>G⟩
 refine⟨_,rfl,b,dx,_,rfl,hb,rfl,_,rfl,b,a,h,fp,S,U,x,rfl,B,λo' C=>?_,λz=>by rw[j]at z;cases z⟩;rw[j]at C;cases C;refine zT ⟨_,rfl,v,rfl,?_⟩
 rcases hk with hk|⟨c,O,ps,rfl,hc,pa,df,pl,gb,G⟩|⟨c,O,fs,d,rfl,hc,nc,ff,R,fl,du,sd,hk⟩
 .exact .inl hk
 .exact .inr ⟨c,O,ps,rfl,hc,pa,df,pl,(λz=>by rw[gb]at z;cases z),λ_=>G⟩
 refine .inr ⟨c,O,Tm fs,rfl,hc,Hr (Zt 4) (λf hf=>Bq (Zt 4) R hf) ff,Pg,by unfold Tm;rw[Zk];lia,λ_ H1 s1=>?_,λz=>by rw[Ph R]at z;cases z⟩;refine⟨_,rfl,d,_,rfl,Dw.same s1 _ _ du,sd,λH2 s2=>⟨_,rfl,?_⟩⟩;have J:=s1.trans s2
 rcases hk with⟨nl,G⟩|⟨y,rfl,rfl,ly,sl,k2⟩
 .rw[nl];exact Nn ⟨UD 1,G _ J⟩
 rw[show UZ (.str y)=true from ly];refine UN ?_;delta RN;dsimp only;refine II<|SA rfl ?_;intro l H3 s3 ad;have g:=J.trans s3;have M:=B.same g;obtain⟨s,A⟩:=M.ob;have n:∀p∈o.toList,zW S p ["note"]=true:=λp n=>B.hv _ (j8 j) p (by cases o with|none=>cases n|some q=>rw[Zl.mp n]);refine⟨_,rfl,b,aD,s,_,_,rfl,A,T.xx,T.m1,rfl,_,rfl,_,rfl,_,rfl,a,c,l,fp,S,fs,O,o.toList,y,rfl,M.sh,M.ok,g _ _ hc,nc,ff.same g,R,fl,yu.of ad,by cases o<;>simp,by cases o<;>simp,n,ly,sl,λH4 r L=>zT ?_⟩;have N:=Tp B.ok R fl (ps:=o.toList) (by cases o<;>simp) (by cases o<;>simp) n ly sl;generalize CK S fs o.toList y=q at N L k2 ⊢;obtain⟨T',ab⟩:=N.more;obtain⟨t,⟨Y,_⟩⟩:=N.nt;have B4:xu P w K aC aD H4 b a h fp q.1 U:=⟨⟨s,r _ _ B.nb A⟩,L,r _ _ B.nh M.hd,B.nb,B.nh,N.ok,B.nd,λp n v e=>by rw[ab];exact Xp<|B.hv p n v e⟩;obtain⟨Z,ac⟩:=B4.ob;refine⟨_,rfl,b,Z,_,rfl,ac,rfl,_,rfl,_,rfl,b,a,h,fp,q.1,U,x,q.2,rfl,B4,hl,by rw[j];rfl,λz=>?_,λ_ H5 e5 B5=>?_⟩
 .rw[Tn Y]at z;cases z
 .refine⟨_,rfl,k2 H5 (λc' o' I e'=>?_) B5⟩;rw[e5,zI<|λz=>I (by rw[z];exact Zs)];exact r _ _ (λz=>I<|Zn _ z) (g _ _ e')
end A3
inductive qb (P:Er)(w:Eu)(K:Cq)(C D:Eo)(vs:Dj)(H:Hp)(Q:VK)(e3:XK):Prop
 |mk (x dx:Eo) (h0:vs=[.ref x]) (h1:H x=some (.ins D dx [])) (h2:H dx=some (.own x)) (h3:dx≠x) (h4:∀a h fp H',(∀c∈fp,H c=none)->H h=none->Off [x] H H'->xu P w K C D H' x a h fp [] []->Q .non H'):qb P w K C D vs H Q e3
inductive pJ (P:Er)(w:Eu)(K:Cq)(C D:Eo)(vs:Dj)(H:Hp)(Q:VK)(e3:XK):Prop
 |mk (b a h a2:Eo) (fp fq:Dd) (S:Di) (hs:Hs) (h0:vs=[.ref b,.ref a2]) (h1:xu P w K C D H b a h fp S hs) (h2:yo P w K C H a2 fq S) (h3:b∉fq) (h4:h∉fq) (h5:∀H',Off [b] H H'->xu P w K C D H' b a2 h fq S hs->Q .non H'):pJ P w K C D vs H Q e3
inductive vo (P:Er)(w:Eu)(K:Cq)(C D b5:Eo)(vs:Dj)(H:Hp)(Q:VK)(E:XK):Prop
 |mk (b a h:Eo) (fp:Dd) (S:Di) (hs:Hs) (d:Ey) (v:V) (h0:vs=[.ref b,v]) (h1:xu P w K C D H b a h fp S hs) (h2:Dw K H d v) (h3:(∀e∈S,∀t ps y,d=.str e.nm->e.d=(Th.note t ps y).dat->∃Do,At S t (.tree Do)/\Tree 5 S t/\(zq 5 S t).length<=63/\(∀f∈zq 5 S t,UV f.2)/\∀e Dm H',zx H H'->H e=none->H' e=some (.dK Dm)->yp K H' (zq 5 S t) Dm->Q (.ref e) H')) (h4:(UL S d "note"=false->E (.ref b5) none H)):vo P w K C D b5 vs H Q E
section
variable {H H':Hp}
theorem uJ {x b:Eo}{g i:HO}{fp:Dd}(nx:H x=none)(f:H b=none)(ne:b≠x)(d:∀c∈fp,c=x\/c=b\/(L2.upd (L2.upd H b g) x i) c=none)(o:Off [x] (L2.upd (L2.upd H b g) x i) H'):zx H H'/\∀c∈fp,H c=none:=by
 have h1:zx H (L2.upd (L2.upd H b g) x i):=(zG f).trans (zG<|by rwa[zI<|EC ne]);refine⟨λc u e=>o c u (λz=>?_)<|h1 c u e,λc hc=>?_⟩
 .rw[Zl.mp z,nx]at e;cases e
 .rcases d c hc with z|z|z
  .rwa[z]
  .rwa[z]
  .exact h1.free z
end
def CM (hs:Hs)(x:Str):PyData:=.tuple [.str x,W5<|(UI hs x).getD none]
inductive tW (P:Er)(w:Eu)(K:Cq)(C D:Eo)(vs:Dj)(H:Hp)(Q:VK)(e3:XK):Prop
 |mk (b a h:Eo) (fp:Dd) (S:Di) (hs:Hs) (h0:vs=[.ref b]) (h1:xu P w K C D H b a h fp S hs) (h2:hs.length<60) (h3:∀(l:Eo) (ss:Da) (xs:Dj) (H':Hp),zx H H'->H l=none->H' l=some (.lst xs)->ss.Perm (hs.map (·.1))->L6 ss=true->zu K H' (ss.map<|CM hs) xs->Q (.ref l) H'):tW P w K C D vs H Q e3
theorem BM (hs:Hs):RW (hkg g hs)/\(hkg g hs).map GJ=hs.map (·.1):=by
 refine⟨λkv b=>?_,?_⟩
 .obtain⟨p,_,rfl⟩:=Zr.mp b;rfl
 .unfold hkg;rw[ZM];rfl
theorem aH {K:Cq}(o:Option Str):Dt K H (W5 o) (oV o):=by cases o<;>rfl
namespace A4
abbrev st:Stmt:=inClass (top 65) 0
theorem sc:zy ["self"] ["self"] (zF st):=Cz
include T in
theorem ok (F:yc K "__init__" "Annals.__init__" st f fd)(I:iZ P w K mg base aC 5 "Shelf" ["self","base"]<|pP P w K aC):zc P w K mg base CA 7 f fd ["self"] (qb P w K aC aD):=by
 refine F.ok sc λ_ _ _ _ H R Q E N h=>?_;obtain⟨x,j,rfl,D,L,ne,k⟩:=h;refine⟨_,(zD (XF (pv 0) (NC I N.m<|zA x9 zB) rfl)<|zE<|XF (pv 0) qY rfl),?_⟩
 refine λa J O y g=>⟨a,J,.non,[],rfl,zC,by rw[zI g];exact zC,g,.inl ⟨rfl,rfl⟩,λfp t u r i=>⟨rfl,?_⟩⟩;obtain⟨A,fr⟩:=uJ O y g u r;have ok0:wM []:=⟨i.good,λe he=>(nomatch he),λe he=>(nomatch he)⟩;have n:=A _ _ D;have s:x∉fp:=λz=>by have:=fr x z;rw[D]at this;cases this
 refine⟨_,rfl,x,aD,j,_,rfl,n,T.xx,T.m1,by decide,?_⟩;refine λh nh=>⟨_,rfl,x,aD,j,[("shelf",V.ref a)],rfl,(zG nh) _ _ zC,T.xx,T.m2,(show 1<1000 by decide),?_⟩;have l:h≠x:=λz=>by rw[z,zC]at nh;cases nh
 have d:t h=none:=by rw[zI l]at nh;exact nh
 have q:Off [x] t (upd (upd (upd t x<|.ins aD j<|UG "shelf" (V.ref a) []) h<|.dK []) x<|.ins aD j<|UG "heads" (V.ref h) [("shelf",V.ref a)]):=λc o v e=>by
  have B:c≠x:=λz=>v (by rw[z];exact Zl.mpr rfl);rwa[zI B,zI<|zS e d,zI B]
 have nt:∀b∈[x],∀G,¬Rd t b (.tup G):=λb hb G z=>by
  rw[Zl.mp hb]at z
  rcases z with z|⟨o,z⟩<;>(rw[n]at z;cases z)
 refine k a h fp _ fr (A.free d) (λc o v e=>q c o v<|A _ _ e) ⟨⟨j,by rw[zC];rfl⟩,i.off nt q<|λc hc z=>s<|Zl.mp z▸hc,by rw[zI l,zC];rfl,s,λz=>(by obtain⟨o,C⟩:=i.ex h z;rw[d]at C;cases C),ok0,YL,λp M=>(nomatch M)⟩
end A4
namespace A5
abbrev st:Stmt:=inClass (top 65) 2
theorem sc:zy ["self"] ["self"] (zF st):=Cz
include T in
theorem ok (F:yc K "branches" "Annals.branches" st f fd):zc P w K mg base CA 1 f fd ["self"] (tW P w K aC aD):=by
 refine F.ok sc λ_ _ _ _ H vs Q E R h=>?_;obtain⟨b,a,h,fp,S,n,rfl,B,hl,k⟩:=h;refine⟨_,(zE<|zL<|xL (sc:=zF st) (N:=["self"]) (N':=["label","self"]) (src:=[none,some 0]) .a rfl rfl rfl (jL<|zJ (qZ rfl) (by rfl) T.sorted YX<|zA (yP (pv 0) rfl) zB) (λ_ _ _ _=>(z6 (i:=0) (show(["label","self"]:Da).Nodup by decide+kernel) rfl (EU rfl))) (λ_ _ _ _=>qD) (λ_ _ _ _=>(yR<|zA (pv 0)<|zA (zM R.zr (SE (K:=K) (pv 1) rfl) (pv 0)<|λ_ _=>rfl) zB))),?_⟩;obtain⟨O,hb⟩:=B.ob;obtain⟨M,ek⟩:=BM n;refine⟨_,rfl,b,aD,O,_,_,rfl,hb,T.xx,T.m2,rfl,h,hkv n,rfl,.inl B.hd,M,by rw[show(hkv n).length=n.length from Zk ..];lia,λl e U perm A=>?_⟩;rw[ek]at perm;have s:=zG (o:=.lst<|e.map V.str) U;have c:=zC (H:=H) (a:=l) (o:=.lst<|e.map V.str);have C:=B.same s;have sl:e.length<60:=by rwa[perm.length_eq,Zk]
 generalize upd H l (.lst<|e.map V.str)=L at s c C ⊢;refine⟨l,rfl,⟨_,yu.of c⟩,jG (K:=K) (a:=l) (xs:=e.map V.str) (λi r t j=>∃o,t=[o,some<|.ref b]/\zx L j/\zu K j ((e.take i).map<|CM n) r) ⟨none,rfl,zx.refl _,rfl⟩ (zp (by rw[Zk];lia)) ?_ ?_ ?_⟩
 .rintro i r t j Z ⟨o,rfl,d,g⟩;refine⟨d.seq<|yu.of c,?_⟩;have:=g.length;rw[Zk,ZS]at this;lia
 .rintro i v r t j hv ⟨o,rfl,d,g⟩;rw[Zy]at hv;obtain⟨x,I,rfl⟩:=Z0.mp hv;have D:=C.same d;obtain⟨u,y⟩:=D.ob;obtain⟨Y,G⟩:=Z6.mp<|wu.mpr<|perm.mem_iff.mp<|ZG I;refine zT ⟨_,rfl,_,rfl,b,aD,u,_,_,rfl,y,T.xx,T.m2,rfl,_,rfl,h,_,rfl,.inl ⟨_,.inr x,.inl D.hd,rfl,by rw[vW,G];rfl⟩,UD 2,λp J=>⟨_,rfl,d.trans<|zG J,?_⟩⟩;rw[Yi,I,Zx];refine zu.append (zu.same (zG J) _ _ g) ⟨_,[],rfl,⟨p,_,rfl,wY.of zC,_,_,rfl,rfl,_,_,rfl,?_,rfl⟩,rfl⟩;rw[G];exact aH Y
 .rintro r t j ⟨o,rfl,d,g⟩ q z;rw[Zk,ZV]at g;exact k q e r _ (s.trans<|d.trans<|zG z) ((s.trans d).free z) zC perm A<|zu.same (zG z) _ _ g
end A5
namespace A6
abbrev st:Stmt:=inClass (top 65) 1
theorem sc:zy ["self","shelf"] ["self","shelf"] (zF st):=Cz
include T in
theorem ok (F:yc K "stand_on" "Annals.stand_on" st f fd):zc P w K mg base CA 1 f fd ["self","shelf"] (pJ P w K aC aD):=by
 refine F.ok sc λ_ _ _ _ H n Q E j h=>?_;obtain⟨b,a,h,g,fp,i,S,l,rfl,B,sh,nb,nh,k⟩:=h;refine⟨_,(zE<|XF (pv 0) (pv 1) rfl),?_⟩;obtain⟨d,hb⟩:=B.ob;refine⟨_,rfl,_,rfl,b,aD,d,_,rfl,hb,T.xx,T.m1,(show 2<1000 by decide),?_⟩;have of:Off [b] H (upd H b<|.ins aD d<|UG "shelf" (V.ref g) [("shelf",.ref a),("heads",.ref h)]):=zY;have nt:∀c∈[b],∀e,¬Rd H c (.tup e):=λc hc e z=>by
  rw[Zl.mp hc]at z
  rcases z with z|⟨o,z⟩<;>(rw[hb]at z;cases z)
 refine k _ of ⟨⟨d,by rw[zC];rfl⟩,sh.off nt of<|λc hc z=>nb<|Zl.mp z▸hc,of _ _ (λz=>by rw[<-Zl.mp z,B.hd]at hb;cases hb) B.hd,nb,nh,B.ok,B.nd,B.hv⟩
end A6
namespace A7
abbrev st:Stmt:=inClass (top 65) 9
theorem sc:zy ["self","version"] ["self","version"] (zF st):=Cz
include T in
theorem ok (F:yc K "files" "Annals.files" st f fd)(c:wz P w K mg base 15 "files_at" ["store","version"]<|sY P w K aC b5):zc P w K mg base (CI P w) 16 f fd ["self","version"] (vo P w K aC aD b5):=by
 refine F.sU sc λ_ _ _ _ H n Q E g h=>?_;obtain⟨b,a,h,fp,S,l,d,v,rfl,B,hd,i,j⟩:=h;refine⟨_,(zE<|zL<|yQ c g.m yD<|zA (yP (pv 0) rfl)<|zA (pv 1) zB),?_⟩;obtain⟨e,hb⟩:=B.ob;exact⟨_,rfl,b,aD,e,_,_,rfl,hb,T.xx,T.m1,rfl,_,rfl,a,fp,S,d,v,rfl,B.sh,B.ok,hd,i,j⟩
end A7
def Kj (ls:Da):Prop:=ls≠[]/\ls.length<=4/\∀l∈ls,z9 l=true
structure Ps (pl:List Da):Prop where
 len:pl.length=6
 lb:∀p∈pl,Kj p
 ap:∀p∈pl,∀q∈pl,∀t,q=p++t->t=[]
 nd:pl.Nodup
inductive pK (K:Cq)(vs:Dj)(H:Hp)(Q:VK)(e3:XK):Prop
 |mk (a:Eo) (ns:List Int) (k:Int) (h0:vs=[.ref a,.int k]) (h1:yu K H a<|ns.map V.int) (h2:0<=k) (h3:∀i,Q (.int i) H):pK K vs H Q e3
inductive pN (K:Cq)(vs:Dj)(H:Hp)(Q:VK)(e3:XK):Prop
 |mk (a:Eo) (ns:List Int) (h0:vs=[.ref a]) (h1:yu K H a<|ns.map V.int) (h2:∀(l:Eo) (pl:List Da) (H':Hp),zx H H'->H l=none->H' l=some (.lst<|pl.map λp=>V.str<|Cs p)->Ps pl->Q (.ref l) H'):pN K vs H Q e3
def v6:Sp:=λd H Q _=>∃c,d=[.int c]/\∀x b,zx H b->UK x=true->Q (.str x) b
def HX:Sp:=λe H Q _=>∃c,e=[.int c]/\∀(p:Eo) (d:Da) b,zx H b->b p=some (.tup<|d.map V.str)->UV d->Q (.ref p) b
def Ox (c b d a:Eo):Str:=if a=c then"version" else if a=b then"files" else if a=d then"line" else"nobranch"
def BY (d c e f z:Eo):Sp:=λg H Q _=>∃a,g=[.ref z]/\H z=some (UW z<|.ref a)/\a∈[d,c,e,f]/\∀b,zx H b->Q (.str<|Ox d c e a) b
def W8 (x:Str×Bool):PyData:=.tuple [.str x.1,.bool x.2]
section
variable {K:Cq}{z a:Eo}
theorem WZ (x:Str×Bool):Dt K (upd H p<|.tup [.str x.1,.bl x.2]) (W8 x) (.ref p):=⟨p,_,rfl,wY.of zC,_,_,rfl,rfl,_,_,rfl,rfl,rfl⟩
def isW (a:Eo)(x:Str×Eo):Str×Bool:=(x.1,decide (a=x.2))
def xf (K:Cq)(z a:Eo)(e:TA)(l:List<|Str×Eo):Prop:=∀d H Q,d[0]?=some (some<|V.ref z)->H z=some (UW z<|.ref a)->(∀c b,zx H b->zu K b (l.map λx=>W8<|isW a x) c->Q c b)->e d H Q
theorem xf.nil:xf K z a Xj []:=λb H Q _ _ q=>q [] H (zx.refl _) rfl
theorem xf.cons {x:Str}{c:Eo}(ek:PySem.W.wg K a)(kx:EV K (.ref a) (.ref c)=some (decide (a=c)))(h:xf K z a ta l):xf K z a (IV (bo<|IV (tC<|.str x)<|IV (ci (Rv K (.ref c)<|.ref c)<|IV (MV 0)<|IV (tC<|.ref c) Xj) Xj) ta) ((x,c)::l):=λg H Q e he q =>
 ⟨_,e,z,a,_,rfl,he,ek,kx,UD 2,λp b=>h g _ _ e (zG b _ _ he) λi f s d=>q _ f ((zG b).trans s) ⟨_,_,rfl,Dt.same s _ _<|WZ<|isW a (x,c),d⟩⟩
theorem xf.lst (h:xf K z a ta l)(f:l.length<=10){b:St}{H:Hp}{Q:VK}(e:b[0]?=some (some<|V.ref z))(he:H z=some (UW z<|.ref a))(q:∀p vs H',zx H H'->H' p=some (.lst vs)->zu K H' (l.map λx=>W8<|isW a x) vs->Q (.ref p) H'):RM ta b H Q :=
 h b H _ e he λvs H' s d=>⟨zp (by have:=d.length;rw[Zk]at this;lia),λp c=>q p vs _ (s.trans<|zG c) zC<|zu.same (zG c) _ _ d⟩
theorem xf.cat {m:List (Str×Eo)}(h:xf K z a ta l)(n:m.length+l.length<=10){c:St}{H:Hp}{Q:VK}{b:Eo}{us:Dj}(e:c[0]?=some (some<|V.ref z))(he:H z=some (UW z<|.ref a))(i:c[1]?=some (some<|V.ref b))(h1:H b=some (.lst us))(f:zu K H (m.map λx=>W8<|isW a x) us)
  (q:∀p vs H',zx H H'->H' p=some (.lst vs)->zu K H' ((m++l).map λx=>W8<|isW a x) vs->Q (.ref p) H'):W7 aQ (MV 1) (RM ta) c H Q :=
 ⟨_,i,h.lst (by lia) e he λp vs H' s j d=>⟨b,p,us,vs,rfl,rfl,s _ _ h1,j,zp (by have:=d.length;have:=f.length;rw[Zk]at *;lia),λo g=>q o _ _ (s.trans<|zG g) zC (by rw[Zx];exact zu.same (zG g) _ _<|zu.append (zu.same s _ _ f) d)⟩⟩
end
def XC (c b d e f g i j l n:Eo):List (Str×Eo):=[("thing",c),("name",b),("files",e),("path",d),("fit",f),("clash",g),("nobranch",l),("branch",n),("version",i),("line",j)]
theorem OK {i g j b l n c e f o a:Eo}(d:[c,b,e,f,o,g,i,j,l,n].Nodup)(h:a∈[c,b,e,f]):((XC i g j b l n c e f o).filter λx=>decide (a=x.2)).map (·.1)=[Ox c b e a]:=by
 simp only[ZY,Zo,ZD,Ye,Vr]at d;obtain⟨⟨p,r,t,C,D,E,F,G,H⟩,⟨v,y,I,J,K,L,M,N⟩,⟨A,O,P,Q,R,S,T⟩,⟨U,Y,Z,g7,g8,g9⟩,_⟩:=d;simp only[Zo,ZD,Ye]at h;have q:=EC p;have s:=EC r;have u:=EC t;have w:=EC v;have z:=EC y;have B:=EC A
 rcases h with rfl|rfl|rfl|rfl<;>simp[XC,Ox,JI, *]
theorem PP:(cs ("abcdefghijklmnopqrstuvwxyz":Str))=(ET 26).map (97+·):=by decide+kernel
theorem PB {i:Int}(h0:0<=i)(h1:i<26):CO ("abcdefghijklmnopqrstuvwxyz":Str).cps.toList i=some (97+i.toNat):=by
 obtain⟨j,rfl⟩:=Yn h0;refine yA ?_;show(cs ("abcdefghijklmnopqrstuvwxyz":Str))[j]?=_;rw[PP,Zy,V7<|by lia];rfl
theorem F2:("abcdefghijklmnopqrstuvwxyz":Str).length<=sizeLine:=zp (by decide+kernel)
theorem BN {i:Int}(h0:0<=i)(h1:i<26):Xb (97+i.toNat)=true:=by
 unfold Xb;rw[Zq<|show 97<=97+i.toNat by lia,Zq<|show 97+i.toNat<=122 by lia];rfl
theorem BO {l:List Nat}(e:cs x=l)(h1:1<=l.length)(d:l.length<=8)(b:∀c∈l,Xb c=true):z9 x=true:=uq.mpr ⟨by rw[zf,e];exact h1,by rw[zf,e];exact d,by rw[e,ZQ];exact b⟩
theorem vN {l m:Str}:l++"/"++m=Cs [l,m]:=by
 refine xj ?_;rw[qH l<|Yr m [],vA,zm,zm,show cs ("/":Str)=[47] by decide+kernel];simp
theorem FT {l:Str}:l=Cs [l]:=xj (vA l).symm
theorem OA:("abcdefghijklmnopqrstuvwxyzABCDEFGHIJKLMNOPQRSTUVWXYZ0123456789"++" !\"#$&'()*+,-./:;<=>?\x40[\\]^_`{|}~":Str).length<=sizeLine/\∀i:Int,0<=i->i<94->∃d,CO ("abcdefghijklmnopqrstuvwxyzABCDEFGHIJKLMNOPQRSTUVWXYZ0123456789"++" !\"#$&'()*+,-./:;<=>?\x40[\\]^_`{|}~":Str).cps.toList i=some d/\UQ d=true:=by
 refine⟨zp<|by decide+kernel,λi c h1=>?_⟩;have e:(cs ("abcdefghijklmnopqrstuvwxyzABCDEFGHIJKLMNOPQRSTUVWXYZ0123456789"++" !\"#$&'()*+,-./:;<=>?\x40[\\]^_`{|}~":Str)).length=94/\(cs ("abcdefghijklmnopqrstuvwxyzABCDEFGHIJKLMNOPQRSTUVWXYZ0123456789"++" !\"#$&'()*+,-./:;<=>?\x40[\\]^_`{|}~":Str)).all UQ=true:=⟨by decide+kernel,by decide+kernel⟩;obtain⟨j,rfl⟩:=Yn c;have b:j<(cs ("abcdefghijklmnopqrstuvwxyzABCDEFGHIJKLMNOPQRSTUVWXYZ0123456789"++" !\"#$&'()*+,-./:;<=>?\x40[\\]^_`{|}~":Str)).length:=by rw[e.1];lia
 exact⟨_,yA<|Zv b,ZQ.mp e.2 _<|Yo b⟩
theorem aO (lo:z9 o=true)(lt:z9 t=true)(l:z9 x=true)(j:z9 r=true)(h1:o≠t)(b:o≠x)(c:o≠r)(h4:t≠x)(d:t≠r)(f:x≠r):Ps [[o],[t],[x,o],[x,r],[r,o,t],[r,t]]:=by
 refine⟨rfl,by simp[Kj,lo,lt,l,j],?_,by simp[h1,b,c,h4,d,f]⟩;have n:=EC h1;have u:=EC b;have v:=EC c;have w:=EC h4;have y:=EC d;have z:=EC f;intro p g q i s e;simp only[Zo,ZD,Ye]at g i
 rcases g with rfl|rfl|rfl|rfl|rfl|rfl<;>rcases i with rfl|rfl|rfl|rfl|rfl|rfl<;>simp_all
namespace A8
abbrev st:Stmt:=top 67
theorem sc:zy ["_law_script","_law_k"] ["_law_script","_law_k"] (zF st):=Cz
include T in
theorem ok (F:yc0 K "_law_cell_at" st f fd):zc P w K mg base CA 1 f fd ["_law_script","_law_k"] (pK K):=by
 refine F.ok sc λ_ _ _ _ H e Q E d h=>?_;obtain⟨a,ns,k,rfl,b,c,q⟩:=h;refine⟨_,(zD (yG (zP G1 (pv 1) (zJ zQ (by rfl) T.len ZZ<|zA (pv 0) zB)<|zO _) (zE<|zL<|yB (yx:Cy _<|wU K) (pv 0)<|pv 1) zR)<|zE<|zL zH),?_⟩
 refine⟨_,rfl,_,rfl,a,_,rfl,.inl b,_,_,rfl,rfl,_,rfl,UM (λh=>?_)<|λh=>?_⟩
 .have h1:k<ns.length:=by simpa using h
  obtain⟨n,_,hn⟩:=OV (f:=V.int) c h1;exact⟨_,rfl,_,rfl,a,_,_,_,rfl,rfl,b,hn,q n⟩
 .exact q 0
end A8
namespace A9
abbrev st:Stmt:=top 68
theorem sc:zy ["_law_script","_law_letters","_law_cell","_law_word_here","_law_last","_law_other","_law_one","_law_two"] ["_law_script"] (zF st):=Cz
include T in
theorem ok (F:yc0 K "_law_paths" st f fd)(Z:wV P w K mg base 1 "_law_cell_at" ["_law_script","_law_k"]<|pK K):zc P w K mg base CA 2 f fd ["_law_script"] (pN K):=by
 refine F.ok sc λ_ _ _ _ H vs Q E hr h=>?_;obtain⟨a,ns,rfl,hs,k⟩:=h;refine⟨_,(zD (Cv (i:=1) sc.nd zz)<|zD (Cv (i:=2) sc.nd<|zK Z hr.m<|zA (pv 0)<|zA zH zB)<|zD (Cv (i:=3) sc.nd<|k6 YF JY JZ X4 zz<|zA (xL (sc:=zF st) (N:=["_law_script","_law_letters","_law_cell","_law_word_here","_law_last","_law_other","_law_one","_law_two"]) (N':=["_law_k","_law_letters","_law_cell"]) (src:=[none,some 1,some 2]) .a rfl rfl rfl (jT rfl T.range<|zA zH zB) (λ_ _ _ _=>(z6 (i:=0) (show(["_law_k","_law_letters","_law_cell"]:Da).Nodup by decide+kernel) rfl (EU rfl))) (λ_ _ _ _=>qD) (λ_ _ _ _=>(yB CW (pv 1)<|zV yN (zV qX (zV xX (pv 2) zH)<|zV XG (pv 0)<|zV qX zH<|zV yN (pv 2) zH) zH))) zB) (zD (Cv (i:=4) sc.nd<|zV qX (zV xX (pv 2) zH)<|zV XG zH<|zV qX zH<|zV yN (pv 2) zH)<|zD (Cv (i:=5) sc.nd<|zV zZ (uH MN (pv 3) vZ<|v5 zH)<|yB CW (pv 1)<|zV yN (zV qX (zV qX (pv 4) zH)<|zV yN (zK Z hr.m<|zA (pv 0)<|zA zH zB) zH) zH)<|zD (Cv (i:=6) sc.nd<|uH MN (pv 3) vZ<|v5 zH)<|zD (Cv (i:=7) sc.nd<|uH MN (pv 3) vZ<|v5 zH)<|zE<|zL<|yT<|zA (pv 6)<|zA (pv 7)<|zA (zV zZ (zV zZ (pv 3) zz)<|pv 6)<|zA (zV zZ (zV zZ (pv 3) zz)<|pv 5)<|zA (zV zZ (zV zZ (zV zZ (zV zZ (pv 5) zz)<|pv 6) zz)<|pv 7)<|zA (zV zZ (zV zZ (pv 5) zz)<|pv 7) zB)),?_⟩
 refine⟨_,rfl,a,ns,0,rfl,hs,by decide,λc=>⟨rfl,3,rfl,by decide,by decide,jI (λi O R C=>∃x,R=[x,some<|.str "abcdefghijklmnopqrstuvwxyz",some<|.int c]/\C=H/\O=(((ET i).map λk:Nat=>97+((c / 5+(k:Int)*(1+c % 5)) % 26).toNat).map one).map V.str) ⟨none,rfl,rfl,rfl⟩ (zp<|by decide)
   (λi O R C hi ⟨x,_,_,ey⟩=>by rw[ey,Zk,Zk,Zk,YI];exact Zt _) ?_ ?_⟩⟩
 .rintro i O R C hi ⟨x,rfl,rfl,rfl⟩;have e0:(0+(i:Int))=(i:Int):=by lia
  have hd:=PB (i:=(c / 5+(0+(i:Int))*(1+c % 5)) % 26) (by lia) (by lia);refine⟨_,rfl,_,rfl,_,_,rfl,rfl,⟨by decide,by decide⟩,_,rfl,_,rfl,_,_,rfl,rfl,(by decide:(0:Int)<5),_,_,rfl,rfl,_,_,rfl,rfl,.inr ⟨by lia,by lia⟩,_,_,rfl,rfl,_,_,rfl,rfl,(by decide:(0:Int)<26),_,_,_,rfl,rfl,F2,hd,_,rfl,rfl,?_⟩;rw[e0,List.range_succ,Zx,Zx,Zx];rfl
 .rintro O R C ⟨x,rfl,rfl,rfl⟩ p np;have c0:("":Str).length=0:=by decide+kernel
  have up:=zG (o:=.lst<|(((ET<|Int.toNat 3).map λk:Nat=>97+((c / 5+(k:Int)*(1+c % 5)) % 26).toNat).map one).map V.str) np;have el:((ET<|Int.toNat 3).map λk:Nat=>97+((c / 5+(k:Int)*(1+c % 5)) % 26).toNat)=[97+((c / 5+0*(1+c % 5)) % 26).toNat,97+((c / 5+1*(1+c % 5)) % 26).toNat,97+((c / 5+2*(1+c % 5)) % 26).toNat]:=rfl;have B:=BN (i:=(c / 5+0*(1+c % 5)) % 26) (by lia) (by lia);have L:=BN (i:=(c / 5+1*(1+c % 5)) % 26) (by lia) (by lia);have o2:=BN (i:=(c / 5+2*(1+c % 5)) % 26) (by lia) (by lia);rw[el]at up ⊢;generalize 97+((c / 5+0*(1+c % 5)) % 26).toNat=J at B up ⊢;generalize 97+((c / 5+1*(1+c % 5)) % 26).toNat=n1 at L up ⊢;have ex:=kN [J,n1,97+((c / 5+2*(1+c % 5)) % 26).toNat];refine⟨_,p,_,rfl,rfl,.inl<|yu.of zC,by rw[Iy,c0];show 3+3*0<=16777216;decide,?_⟩;generalize Lu "" _=x at ex ⊢;have M:x.length=3:=by rw[zf,ex];rfl
  have U:x.length<=sizeLine:=zp (by lia);refine⟨_,rfl,_,_,rfl,rfl,⟨by decide,by decide⟩,_,rfl,_,_,rfl,rfl,(by decide:(0:Int)<5),_,_,rfl,rfl,_,_,rfl,rfl,.inl ⟨by decide,by decide⟩,_,_,rfl,rfl,?_⟩;refine⟨_,rfl,_,rfl,x,rfl,U,_,rfl,_,rfl,_,_,rfl,rfl,_,rfl,a,ns,1,rfl,up.seq hs,by decide,λD=>?_⟩;have hd:=PB (i:=(c / 5+2*(1+c % 5)+1+D % 25) % 26) (by lia) (by lia);have o3:=BN (i:=(c / 5+2*(1+c % 5)+1+D % 25) % 26) (by lia) (by lia);have nn:97+((c / 5+2*(1+c % 5)) % 26).toNat≠97+((c / 5+2*(1+c % 5)+1+D % 25) % 26).toNat:=by lia
  generalize 97+((c / 5+2*(1+c % 5)) % 26).toNat=n2 at ex o2 nn up ⊢;generalize 97+((c / 5+2*(1+c % 5)+1+D % 25) % 26).toNat=n3 at hd o3 nn;have y:cs (LL x none<|some 1)=[J]:=by rw[show(1:Int)=((1:Nat):Int) from rfl,Tj,ex];rfl
  have j:cs (LL x none<|some 2)=[J,n1]:=by rw[show(2:Int)=((2:Nat):Int) from rfl,Tj,ex];rfl
  have Y:(LL x none<|some 2).length=2:=by rw[zf,j];rfl
  have A:(LL x none<|some 1).length=1:=by rw[zf,y];rfl
  have d1:(⟨#[n3]⟩:Str).length=1:=rfl;have b:("/":Str).length=1:=by decide+kernel
  refine⟨_,_,rfl,rfl,(by decide:(0:Int)<25),_,_,rfl,rfl,_,_,rfl,rfl,(by decide:(0:Int)<26),_,_,n3,rfl,rfl,F2,hd,_,_,rfl,rfl,zp<|by lia,?_⟩;refine⟨_,rfl,_,rfl,x,rfl,U,_,rfl,_,rfl,x,rfl,U,?_⟩;have z:cs (LL x none (some 2)++one n3)=[J,n1,n3]:=by rw[zm,j];rfl
  have l3:(LL x none (some 2)++one n3:Str).length=3:=by rw[zf,z];rfl
  obtain⟨r,S⟩:∃r,r=LL x none (some 2)++one n3:=⟨_,rfl⟩;obtain⟨o,s⟩:∃o,o=LL x none (some 1):=⟨_,rfl⟩;obtain⟨t,G⟩:∃t,t=LL x none (some 2):=⟨_,rfl⟩;rw[<-S]at z l3;rw[<-s]at y A;rw[<-G]at j Y;have g:(LL x none (some 2)++(⟨#[n3]⟩:Str):Str).length=3:=by rwa[show(⟨#[n3]⟩:Str)=one n3 from rfl,<-S]
  have d:∀{u v:Str} {m n:Nat},u.length=m->v.length=n->m+n<=100->u.length+v.length<=sizeLine:=λ{u v m n} h1 I h3=>zp (by lia);have ap:∀{u v:Str} {m n:Nat},u.length=m->v.length=n->(u++v:Str).length=m+n:=λ{u v m n} h1 I=>by rw[LA,h1,I]
  refine⟨_,rfl,_,rfl,_,rfl,_,_,rfl,rfl,d M b<|by decide,_,rfl,_,_,rfl,rfl,d (ap M b) (s▸A)<|by decide,_,rfl,_,_,rfl,rfl,d M b<|by decide,_,rfl,_,_,rfl,rfl,d (ap M b) g<|by decide,_,rfl,_,_,rfl,rfl,d g b<|by decide,_,rfl,_,_,rfl,rfl,d (ap g b) (s▸A)<|by decide,_,_,rfl,rfl,d (ap (ap g b)<|s▸A) b<|by decide,_,rfl,_,_,rfl,rfl,d (ap (ap (ap g b)<|s▸A) b) (G▸Y)<|by decide,_,rfl,_,_,rfl,rfl,d g b<|by decide,_,rfl,_,_,rfl,rfl,d (ap g b) (G▸Y)<|by decide,UD 6,λq nq=>?_⟩;have ne:∀{u v:Str} {m n:List Nat},cs u=m->cs v=n->m≠n->u≠v:=λ{u v m n} h1 I h3 e=>h3 (by rw[<-h1,<-I,e]);refine k q [[o],[t],[x,o],[x,r],[r,o,t],[r,t]] _ (up.trans<|zG nq) (up.free nq) ?_ (aO (BO y (by simp) (by simp)<|by simp[B]) (BO j (by simp) (by simp)<|by simp[B,L]) (BO ex (by simp) (by simp)<|by simp[B,L,o2]) (BO z (by simp) (by simp)<|by simp[B,L,o3]) (ne y j<|by simp) (ne y ex<|by simp) (ne y z<|by simp) (ne j ex<|by simp) (ne j z<|by simp)<|ne ex z<|by simp[nn]);rw[zC,show(⟨#[n3]⟩:Str)=one n3 from rfl,<-S,<-s,<-G];have a3:r++"/"++o++"/"++t=Cs [r,o,t]:=by rw[vN (l:=r) (m:=o),Rq [r,o] t<|by simp];rfl
  rw[a3,vN (l:=x) (m:=o),vN (l:=x) (m:=r),vN (l:=r) (m:=t)];show some (HO.lst [V.str o,V.str t,_,_,_,_])=some (HO.lst [V.str<|Cs [o],V.str<|Cs [t],_,_,_,_]);rw[<-FT (l:=o),<-FT (l:=t)]
end A9
namespace Ca
abbrev st:Stmt:=top 72
theorem sc:zy ["_law_e","_law_some","_law_found"] ["_law_e"] (zF st):=Cz
include T in
theorem ok (F:yc0 K "_law_word" st f fd):sW P w K mg base 1 f fd ["_law_e"] (BY b5 b2 b6 b7):=by
 refine F.okE sc (λz vs H Q E h=>?_)<|λz ab A outer s H vs Q E hr hh h=>?_
 .obtain⟨a,rfl,_⟩:=h;rfl
 .obtain⟨a,rfl,he,ha,k⟩:=h;refine⟨_,(zD (Cv (i:=1) sc.nd<|yT<|zA (yR<|zA zz<|zA (zJ (yM (K:=K) (C:=aT)) (by rfl) T.isinstance ZA<|zA (pv 0)<|zA (y7 (v:=.ref aT) rfl T.nH rfl) zB) zB)<|zA (yR<|zA zz<|zA (zJ (yM (K:=K) (C:=aN)) (by rfl) T.isinstance ZA<|zA (pv 0)<|zA (y7 (v:=.ref aN) rfl T.pX rfl) zB) zB)<|zA (yR<|zA zz<|zA (zJ (yM (K:=K) (C:=b2)) (by rfl) T.isinstance ZA<|zA (pv 0)<|zA (y7 (v:=.ref b2) rfl T.tL rfl) zB) zB) zB)<|zD (Cv (i:=1) sc.nd<|zV XB (pv 1)<|yT<|zA (yR<|zA zz<|zA (zJ (yM (K:=K) (C:=b1)) (by rfl) T.isinstance ZA<|zA (pv 0)<|zA (y7 (v:=.ref b1) rfl T.lC rfl) zB) zB)<|zA (yR<|zA zz<|zA (zJ (yM (K:=K) (C:=b3)) (by rfl) T.isinstance ZA<|zA (pv 0)<|zA (y7 (v:=.ref b3) rfl T.iC rfl) zB) zB)<|zA (yR<|zA zz<|zA (zJ (yM (K:=K) (C:=b4)) (by rfl) T.isinstance ZA<|zA (pv 0)<|zA (y7 (v:=.ref b4) rfl T.iM rfl) zB) zB) zB)<|zD (Cv (i:=1) sc.nd<|zV XB (pv 1)<|yT<|zA (yR<|zA zz<|zA (zJ (yM (K:=K) (C:=b7)) (by rfl) T.isinstance ZA<|zA (pv 0)<|zA (y7 (v:=.ref b7) rfl T.pB rfl) zB) zB)<|zA (yR<|zA zz<|zA (zJ (yM (K:=K) (C:=b8)) (by rfl) T.isinstance ZA<|zA (pv 0)<|zA (y7 (v:=.ref b8) rfl T.qp rfl) zB) zB) zB)<|zD (Cv (i:=1) sc.nd<|zV XB (pv 1)<|yT<|zA (yR<|zA zz<|zA (zJ (yM (K:=K) (C:=b5)) (by rfl) T.isinstance ZA<|zA (pv 0)<|zA (y7 (v:=.ref b5) rfl T.qu rfl) zB) zB)<|zA (yR<|zA zz<|zA (zJ (yM (K:=K) (C:=b6)) (by rfl) T.isinstance ZA<|zA (pv 0)<|zA (y7 (v:=.ref b6) rfl T.ni rfl) zB) zB) zB)<|zD (Ro (sc:=zF st) (N:=["_law_e","_law_some","_law_found"]) (N':=["_law_word_here","_law_fits","_law_e"]) (src:=[none,none,some 0]) .a rfl rfl hh (pv 1) (λ_ _ _ _=>(SK (K:=K) (n:=2) hh<|y9 (z6 (i:=0) (show(["_law_word_here","_law_fits","_law_e"]:Da).Nodup by decide+kernel) rfl (EU rfl)) (y9 (z6 (i:=1) (show(["_law_word_here","_law_fits","_law_e"]:Da).Nodup by decide+kernel) rfl (EU rfl)) kO))) (λ_ _ _ _=>(Rj<|PW.pt<|jC (zU (K:=K)<|pv 1)<|qU<|zU (K:=K)<|zJ (GN (K:=K) (T:="ValueError")) (by rfl) T.isinstance ZA<|zA (pv 2)<|zA (y6 (v:=.ty "ValueError") rfl T.ValueError (by decide+kernel) rfl) zB)) (λ_ _ _ _=>(pv 0)) sc.nd rfl (EU rfl) (k:=2)) (zD (yG (zP xH (zJ zQ (by rfl) T.len ZZ<|zA (pv 2) zB) zH<|zO _) (zE<|zL<|yB (yx:Cy _<|wU K) (pv 2) zH) zR)<|zE<|zL zz)),?_⟩
  have ek:=T.ek a ha;have kx:=T.kx a ha;refine II (xf.lst (xf.cons (x:="thing") (c:=aT) ek (kx _<|by simp)<|xf.cons (x:="name") (c:=aN) ek (kx _<|by simp)<|xf.cons (x:="files") (c:=b2) ek (kx _<|by simp) xf.nil) (by simp) rfl he λp1 v1 H1 s1 h1 d1=>?_);have g:=s1 _ _ he;refine II (xf.cat (xf.cons (x:="path") (c:=b1) ek (kx _<|by simp)<|xf.cons (x:="fit") (c:=b3) ek (kx _<|by simp)<|xf.cons (x:="clash") (c:=b4) ek (kx _<|by simp) xf.nil) (by simp) rfl g rfl h1 d1 λp2 v2 q s2 h2 d2=>?_);have j:=s2 _ _ g;refine II (xf.cat (xf.cons (x:="nobranch") (c:=b7) ek (kx _<|by simp)<|xf.cons (x:="branch") (c:=b8) ek (kx _<|by simp) xf.nil) (by simp) rfl j rfl h2 d2 λp3 v3 H3 s3 h3 d3=>?_);have l:=s3 _ _ j;refine II (xf.cat (xf.cons (x:="version") (c:=b5) ek (kx _<|by simp)<|xf.cons (x:="line") (c:=b6) ek (kx _<|by simp) xf.nil) (by simp) rfl l rfl h3 d3 λp4 v4 G L h4 t=>?_);have p:=L _ _ l;have L:=((s1.trans s2).trans s3).trans L;clear s1 s2 s3 h1 h2 h3 d1 d2 d3 g j l;have t:zu K G ((XC aT aN b1 b2 b3 b4 b5 b6 b7 b8).map λx=>W8<|isW a x) v4:=t;have one:((XC aT aN b1 b2 b3 b4 b5 b6 b7 b8).filter λx=>decide (a=x.2)).map (·.1)=[Ox b5 b2 b6 a]:=OK T.dst ha;have e:(XC aT aN b1 b2 b3 b4 b5 b6 b7 b8).length=10:=rfl;generalize XC aT aN b1 b2 b3 b4 b5 b6 b7 b8=W at t one e;have dl:=t.length;rw[Zk,e]at dl;refine⟨_,rfl,p4,rfl,⟨_,yu.of h4⟩,Kr (K:=K) (a:=p4) (z:=z) (xs:=v4) (λi D R q=>∃I J,R=[I,J,some<|.ref z]/\zx G q/\D.length<=i/\D=((W.take i).filter λx=>decide (a=x.2)).map λx=>V.str x.1) ⟨none,none,rfl,zx.refl _,Zt _,rfl⟩ (zp<|by lia) ?_ ?_ ?_⟩
  .rintro i D R q hi ⟨I,J,rfl,d,B,_⟩;exact⟨yu.of<|d _ _ h4,⟨_,d _ _ p⟩,B⟩
  .rintro i x D R q hx ⟨I,J,rfl,d,B,rfl⟩;obtain⟨dd,y,S⟩:=t.get hx;rw[Zy]at y;obtain⟨⟨O,c⟩,hw,ed⟩:=Z0.mp y;subst ed;obtain⟨M,wv,rfl,ht,w0,r0,rfl,U,w1,r1,rfl,Y,Z⟩:=(show∃M wv,x=.ref M/\wY K G M wv/\zu K G [.str O,.bool<|decide (a=c)] wv from S);have U:w0=.str O:=U;have Y:w1=.bl (decide (a=c)):=Y;have Z:r1=[]:=Z;subst U Y Z;have tk:(W.take<|i+1).filter (λx=>decide (a=x.2))=(W.take i).filter (λx=>decide (a=x.2))++(if decide (a=c)=true then[(O,c)] else[]):=by
    rw[Yi,hw,List.filter_append];show _++[(O,c)].filter _=_;rw[JI];rfl
   refine⟨M,_,_,rfl,d.yg ht,rfl,d _ _ p,_,_,rfl,_,_,rfl,rfl,?_⟩;generalize decide (a=c)=b at tk ⊢;cases b with
   |false =>
    refine⟨_,rfl,_,rfl,UC<|UC ⟨_,_,rfl,d,Nat.le_succ_of_le B,?_⟩⟩;rw[tk,ZH Z3,Z2]
   |true =>
    refine⟨_,rfl,_,rfl,UF ⟨_,rfl,z,a,true,rfl,d _ _ p,ek,T.kv a ha,_,rfl,UF ⟨_,rfl,_,_,rfl,d,?_,?_⟩⟩⟩
    .rw[ZB];exact Jp B
    .rw[tk,ZK rfl,Zx];rfl
  .rintro D R q ⟨I,J,rfl,d,B,rfl⟩ r nr;rw[dl,<-e,ZV,show(W.filter λx=>decide (a=x.2)).map (λx=>V.str x.1)=((W.filter λx=>decide (a=x.2)).map (·.1)).map V.str by rw[ZM];rfl,one];have u:=zG (o:=.lst [V.str<|Ox b5 b2 b6 a]) nr;exact⟨_,rfl,r,_,rfl,.inl<|yu.of zC,rfl,_,rfl,FR rfl ⟨_,rfl,r,_,_,_,rfl,rfl,yu.of zC,rfl,k _<|(L.trans d).trans u⟩⟩
end Ca
namespace Cb
abbrev st:Stmt:=top 69
theorem sc:zy ["_law_cell","_law_some"] ["_law_cell"] (zF st):=Cz
include T in
theorem ok (F:yc0 K "_law_line" st f fd):zc P w K mg base CA 1 f fd ["_law_cell"] v6:=by
 refine F.ok sc λ_ _ _ _ H A Q E z h=>?_;obtain⟨c,rfl,k⟩:=h;refine⟨_,(zD (Cv (i:=1) sc.nd zz)<|zD (Cv (i:=1) sc.nd<|zV zZ (pv 1) zz)<|zE<|zL<|k6 YF JY JZ X4 zz<|zA (xL (sc:=zF st) (N:=["_law_cell","_law_some"]) (N':=["_law_k","_law_some","_law_cell"]) (src:=[none,some 1,some 0]) .a rfl rfl rfl (jT rfl T.range<|zA (zV yN (zV xX (pv 0) zH) zH) zB) (λ_ _ _ _=>(z6 (i:=0) (show(["_law_k","_law_some","_law_cell"]:Da).Nodup by decide+kernel) rfl (EU rfl))) (λ_ _ _ _=>qD) (λ_ _ _ _=>(yB CW (pv 1)<|zV yN (zV qX (pv 2)<|zV XG zH<|pv 0) zH))) zB),?_⟩
 have o:=OA;generalize t:("abcdefghijklmnopqrstuvwxyzABCDEFGHIJKLMNOPQRSTUVWXYZ0123456789"++" !\"#$&'()*+,-./:;<=>?\x40[\\]^_`{|}~":Str)=S at o;refine⟨_,rfl,_,_,rfl,rfl,zp<|by decide+kernel,rfl,_,rfl,_,_,rfl,rfl,⟨by decide,by decide⟩,_,_,rfl,rfl,(by decide:(0:Int)<21),_,rfl,by lia,by lia,?_⟩;rw[t];refine jI (λi e g b=>∃x l,g=[x,some<|.str S,some<|.int c]/\b=H/\e=(l.map one).map V.str/\l.length=i/\∀c∈l,UQ c=true) ⟨none,[],rfl,rfl,rfl,rfl,λc hc=>nomatch hc⟩ (zp<|by lia)
   (λi e g b v ⟨x,l,_,_,u,r,_⟩=>by rw[u,Zk,Zk,r];exact Zt _) ?_ ?_
 .rintro i e g b v ⟨x,l,rfl,rfl,rfl,rfl,q⟩;obtain⟨d,j,n⟩:=o.2 ((c+31*(0+((l.length:Nat):Int))) % 94) (by lia) (by lia);exact⟨_,rfl,_,rfl,_,rfl,_,_,rfl,rfl,.inl ⟨by decide,by decide⟩,_,_,rfl,rfl,_,_,rfl,rfl,(by decide:(0:Int)<94),S,_,d,rfl,rfl,o.1,j,_,l++[d],rfl,rfl,by rw[Zx,Zx];rfl,by simp,jH q n⟩
 .rintro e g b ⟨x,l,rfl,rfl,rfl,r,q⟩ p y;have s:("":Str).length=0:=by decide+kernel
  refine⟨_,p,l.map one,rfl,rfl,.inl<|yu.of zC,by rw[Iy,s];lia,k _ _ (zG y)<|rD.mpr ⟨?_,?_⟩⟩
  .rw[zf,kN];lia
  .rwa[kN,ZQ]
end Cb
namespace Cc
abbrev st:Stmt:=top 70
theorem sc:zy ["_law_cell"] ["_law_cell"] (zF st):=Cz
include T in
theorem ok (F:yc0 K "_law_words" st f fd)(b:wV P w K mg base 1 "_law_line" ["_law_cell"] v6):zc P w K mg base CA 2 f fd ["_law_cell"] v6:=by
 refine F.ok sc λ_ _ _ _ H e Q E d h=>?_;obtain⟨c,rfl,k⟩:=h;refine⟨_,(zD (yG (zP xH (zV yN (pv 0) zH) zH<|zO _) (zE<|zL zz) zR)<|zE<|zL<|zK b d.m<|zA (zV yN (zV xX (pv 0) zH) zH) zB),?_⟩
 exact⟨_,rfl,_,_,rfl,rfl,(by decide:(0:Int)<3),rfl,_,rfl,UM (λ_=>k _ _ (zx.refl _)<|by decide+kernel) λ_=>⟨_,rfl,_,_,rfl,rfl,⟨by decide,by decide⟩,_,_,rfl,rfl,(by decide:(0:Int)<1974),_,rfl,k⟩⟩
end Cc
namespace Cd
abbrev st:Stmt:=top 71
theorem sc:zy ["_law_cell"] ["_law_cell"] (zF st):=Cz
include T in
theorem ok (F:yc0 K "_law_lines" st f fd)(t:wV P w K mg base 1 "_law_line" ["_law_cell"] v6):zc P w K mg base CA 2 f fd ["_law_cell"] HX:=by
 refine F.ok sc λ_ _ _ _ H I Q E z h=>?_;obtain⟨c,rfl,k⟩:=h;refine⟨_,(zE<|zL<|z8 jK (by rfl) T.tuple YA<|zA (xL (sc:=zF st) (N:=["_law_cell"]) (N':=["_law_k","_law_cell"]) (src:=[none,some 0]) .a rfl rfl rfl (jT rfl T.range<|zA (zV yN (pv 0) zH) zB) (λ_ _ _ _=>(z6 (i:=0) (show(["_law_k","_law_cell"]:Da).Nodup by decide+kernel) rfl (EU rfl))) (λ_ _ _ _=>qD) (λ_ _ _ _=>(zK t z.m<|zA (zV qX (zV xX (pv 1) zH)<|zV XG (zV XG zH<|pv 0)<|pv 0) zB))) zB),?_⟩;refine⟨_,rfl,_,_,rfl,rfl,(by decide:(0:Int)<4),_,rfl,by lia,by lia,jI (λi e g d=>∃o b,g=[o,some<|.int c]/\zx H d/\e=List.map V.str b/\b.length=i/\∀l∈b,UK l=true) ⟨none,[],rfl,zx.refl _,rfl,rfl,λl hl=>nomatch hl⟩ (zp<|by lia) (λi e g d y ⟨o,b,_,_,u,r,_⟩=>by rw[u,Zk,r];exact Zt _) ?_ ?_⟩
 .rintro i e g d y ⟨o,b,rfl,n,rfl,rfl,j⟩;refine⟨_,rfl,_,_,rfl,rfl,⟨by decide,by decide⟩,_,rfl,_,_,rfl,rfl,.inl ⟨by decide,by decide⟩,_,rfl,_,_,rfl,rfl,.inr ⟨by lia,by lia⟩,_,_,rfl,rfl,_,rfl,λx s D A=>⟨_,b++[x],rfl,n.trans D,by rw[Zx];rfl,by simp,jH j A⟩⟩
 .rintro e g d ⟨o,b,rfl,n,rfl,r,j⟩ p B;refine nw B λs G v=>⟨p,_,rfl,.inl ⟨yu.of v,λq C=>?_⟩⟩;exact k q b _ ((n.trans G).trans<|zG C) zC ⟨by lia,j⟩
end Cd
structure Vn where
 n:Str
 fs:Dk
 ps:Da
 y:Str
structure wj (pl:List Da)(fs:Dk):Prop where
 at_:∀f∈fs,f.1∈pl/\UV f.2
 nd:(fs.map (·.1)).Nodup
section
variable {pl:List Da}{fs gs:Dk}{S T:Di}{M:List Vn}{ps qs:Da}{y z n t x v:Str}
theorem wj.good (q:Ps pl)(h:wj pl fs):yj 4 fs:=⟨λf c=>let ⟨a,b⟩:=h.at_ f c;let l:=q.lb _ a;⟨l.1,l.2.1,l.2.2,b⟩,h.nd,λf c k hk t e=>q.ap _ (h.at_ f c).1 _ (h.at_ k hk).1 t e⟩
theorem wj.len (q:Ps pl)(h:wj pl fs):fs.length<=6/\wt fs<=24:=by
 have l:fs.length<=6:=by
  have:=List.Nodup.length_le_of_subset h.nd (l₂:=pl) (λp c=>by
   obtain⟨f,b,e⟩:=Zr.mp c;rw[<-e];exact(h.at_ f b).1)
  rw[Zk,q.len]at this;exact this
 have:=(h.good q).wt;exact⟨l,by lia⟩
structure Mv (pl:List Da)(S:Di)(M:List Vn):Prop where
 fs:∀x∈M,wj pl x.fs
 ly:∀x∈M,UK x.y=true
 nt:∀x∈M,∃t,oN S x.n x.fs x.ps x.y t
 mY:∀v,zW S v ["note"]=true->v∈M.map Vn.n
 nd:(M.map Vn.n).Nodup
def U4 (M:List Vn)(x:Vn):List Vn:=if x.n∈M.map Vn.n then M else M++[x]
theorem Mv.keep (m:Mv pl S M)(ok:wM S)(k:iK S fs ps y q)(d:wj pl fs)(ly:UK y=true):Mv pl q.1 (U4 M ⟨q.2,fs,ps,y⟩):=by
 obtain⟨T,b⟩:=k.more;have c:∀x∈M,∃t,oN q.1 x.n x.fs x.ps x.y t:=λx e=>by
  obtain⟨t,h⟩:=m.nt x e;rw[b];exact⟨t,h.more ok<|b▸k.ok⟩
 unfold U4
 split
 .rename_i h;refine⟨m.fs,m.ly,c,λv hv=>?_,m.nd⟩
  rcases k.new v hv with z|z
  .exact m.mY v z
  .rwa[z]
 .rename_i h;refine⟨jH m.fs d,jH m.ly ly,jH c k.nt,λv hv=>?_,?_⟩
  .rw[Zx]
   rcases k.new v hv with z|z
   .exact Yl _ (m.mY v z)
   .rw[z];exact ZW _<|Zl.mpr rfl
  .rw[Zx];exact jM m.nd h
def CF (M:List Vn):Option Str->V
 |none=>.int<|-1
 |some v=>.int ((M.map Vn.n).idxOf v:Nat)
theorem Wc {o:Option Str}(h:∀v,o=some v->v∈M.map Vn.n):CF (U4 M u) o=CF M o:=by
 cases o with
 |none=>rfl
 |some v =>
  unfold U4
  split
  .rfl
  .show V.int (((M++[u]).map Vn.n).idxOf v:Nat)=V.int ((M.map Vn.n).idxOf v:Nat);rw[Zx,List.idxOf_append,ZK<|h v rfl]
theorem Wd:CF (U4 M u) (some u.n)=.int ((M.map Vn.n).idxOf u.n:Nat):=by
 unfold U4
 split
 .rfl
 .rename_i h;show V.int (((M++[u]).map Vn.n).idxOf u.n:Nat)=_;rw[Zx,List.idxOf_append,ZH h,J8 h];show V.int (([u.n].idxOf u.n+_:Nat))=_;rw[List.idxOf_cons_self,Uw]
end
def Tc (x:Vn)(c l:Eo):Dl:=[(.inr "name",.str x.n),(.inr "files",.ref c),(.inr "parents",.ref l),(.inr "words",.str x.y)]
def UO (H:Hp)(X:Dd):Prop:=∀b∈X,∀c,¬Rd H b (.tup c)
def sS (K:Cq)(H:Hp)(X:Dd)(v:Eo)(x:Vn):Prop:=∃c l b,H v=some (.dK<|Tc x c l)/\H c=some (.dK b)/\yp K H x.fs b/\H l=some (.lst<|x.ps.map V.str)/\v∉X/\c∉X/\l∉X
def mK (K:Cq)(H:Hp)(X:Dd)(x y:Eo):Prop:=x∉X/\y∉X/\((∃c fs,H x=some (.dK c)/\H y=some (.dK c)/\yp K H fs c/\yj 4 fs)\/∃d b,H x=some (.lst d)/\H y=some (.lst d)/\zu K H b d/\xB b=true/\EW (.list b)=true/\EM (.list b) (.list b)=true)
def HeldAt (K:Cq)(H:Hp)(X:Dd)(p:Eo):Prop:=∃x y,wY K H p [.ref x,.ref y]/\mK K H X x y
section
variable {P:Er}{w:Eu}{K:Cq}{C D:Eo}{H H':Hp}{X Y:Dd}{v c a p b h x y:Eo}{u:Vn}{xs:Dj}{fp:Dd}{S:Di}{hs:Hs}{Dm:Dl}
theorem CB {n:Str}{q:V}(e:H a=some (.dK Dm))(k:UE Dm (.inr n)=some q):ux H a (.str n) (some q):=k▸ux.k (k:=.inr n) e
theorem uG (e:∃o,H c=some o)(s:∀c∈Y,c∈X\/H c=none)(n:c∉X):c∉Y:=λz=>by
 obtain⟨o,e⟩:=e
 rcases s c z with q|q
 .exact n q
 .rw[q]at e;cases e
theorem sS.off (q:sS K H X v u)(n:UO H Y)(o:Off Y H H')(s:∀c∈Y,c∈X):sS K H' X v u:=by
 obtain⟨c,l,Dm,h1,f,g,h4,b,d,e⟩:=q;exact⟨c,l,Dm,o _ _ (λz=>b<|s _ z) h1,o _ _ (λz=>d<|s _ z) f,g.off n o,o _ _ (λz=>e<|s _ z) h4,b,d,e⟩
theorem sS.on (q:sS K H X v u)(s:∀c∈Y,c∈X\/H c=none):sS K H Y v u:=by
 obtain⟨c,l,Dm,h1,b,d,h4,e,f,g⟩:=q;exact⟨c,l,Dm,h1,b,d,h4,uG ⟨_,h1⟩ s e,uG ⟨_,b⟩ s f,uG ⟨_,h4⟩ s g⟩
theorem HeldAt.off (q:HeldAt K H X p)(n:UO H Y)(o:Off Y H H')(s:∀c∈Y,c∈X):HeldAt K H' X p:=by
 obtain⟨x,y,e,b,d,q⟩:=q;refine⟨x,y,BP n o e,b,d,?_⟩
 rcases q with⟨Dm,fs,h1,h2,h3,h4⟩|⟨xs,ds,h1,h2,h3,h4,h5⟩
 .exact .inl ⟨Dm,fs,o _ _ (λz=>b<|s _ z) h1,o _ _ (λz=>d<|s _ z) h2,h3.off n o,h4⟩
 .exact .inr ⟨xs,ds,o _ _ (λz=>b<|s _ z) h1,o _ _ (λz=>d<|s _ z) h2,zu.off n o _ _ h4 h3,h4,h5⟩
theorem HeldAt.on (q:HeldAt K H X p)(s:∀c∈Y,c∈X\/H c=none):HeldAt K H Y p:=by
 obtain⟨x,y,e,b,d,q⟩:=q;refine⟨x,y,e,?_,?_,q⟩<;>rcases q with⟨Dm,fs,h1,h2,_⟩|⟨xs,ds,h1,h2,_⟩
 .exact uG ⟨_,h1⟩ s b
 .exact uG ⟨_,h1⟩ s b
 .exact uG ⟨_,h2⟩ s d
 .exact uG ⟨_,h2⟩ s d
theorem mK.eqT (q:mK K H X x y):mX K 100 H (.ref x) (.ref y):=by
 obtain⟨_,_,⟨Dm,fs,h1,c,b,h4⟩|⟨xs,g,h1,c,b,_,l,n⟩⟩:=q
 .refine(mX.dic (.inl h1) (.inl c) rfl λkv hkv=>?_).more (by decide);obtain⟨i,o,e⟩:=Z4.mp hkv;obtain⟨f,_,_,j,s⟩:=b.get (i:=i) (k:=kv.1) (v:=kv.2) (by rw[Zv o,e]);have sh:EW (AnJ.yg f.2)=true:=(yO λp r=>(vO<|s.2 p r).ok).2;exact⟨kv.2,_,_,uV (b.nd h4) hkv,j,j,sh,sh,by rw[AnJ.pG];exact Zq rfl⟩
 .exact(mX.data (d:=.list g) (e:=.list g) ⟨_,_,rfl,yu.of h1,b⟩ ⟨_,_,rfl,yu.of c,b⟩ l l n).more (by decide)
theorem xu.off (B:xu P w K C D H b a h fp S hs)(n:UO H X)(o:Off X H H')(nb:b∉X)(nh:h∉X)(e:∀c∈fp,c∉X):xu P w K C D H' b a h fp S hs:=by
 obtain⟨d,hb⟩:=B.ob;exact⟨⟨d,o _ _ nb hb⟩,B.sh.off n o e,o _ _ nh B.hd,B.nb,B.nh,B.ok,B.nd,B.hv⟩
theorem Hh (ok:wM S){n:Str}(h:n∈S.map En.nm):Ew n=true:=by
 obtain⟨e,he,rfl⟩:=Zr.mp h;exact(ok.nm he).ok
end
theorem Rr:∀{p:Da},(∀l∈p,z9 l=true)->Ew (Cs p)=true
 |[],_=>by decide+kernel
 |[l],h=>by
  rw[yX,vA,<-yX];exact(k9<|h l Zs).ok
 |l::m::p,h=>by
  rw[yX,qH l<|Yr m p];have h1:=(yX l).mp (k9<|h l Zs).ok;have b:=(yX _).mp<|Rr (p:=m::p) λx d=>h x<|Zn _ d;intro c hc
  rcases ZR.mp hc with z|z
  .exact h1 c z
  .rcases Zo.mp z with z|z
   .rw[z];decide
   .exact b c z
theorem Rz {rs:Dk}(g:yj 4 fs)(nd:rs.Nodup)(e:∀f,f∈rs↔f∈fs):(rs.map (·.1)).Nodup:=(((Y3 nd<|jF g.nd).mpr e).map _).nodup_iff.mpr g.nd
inductive lG (P:Er)(w:Eu)(K:Cq)(C D:Eo)(vs:Dj)(H:Hp)(Q:VK)(e3:XK):Prop
 |mk (b a h v c l:Eo) (fp:Dd) (S:Di) (hs:Hs) (x:Vn) (t:Str) (h0:vs=[.ref b,.ref v]) (h1:xu P w K C D H b a h fp S hs) (h2:H v=some (.dK<|Tc x c l)) (h3:H l=some (.lst<|x.ps.map V.str)) (h4:At S x.n<|.note t x.ps x.y) (h5:UK x.y=true) (h6:(∀p∈x.ps,Ew p=true)) (h7:∀H',zx H H'->Q (.bl true) H'):lG P w K C D vs H Q e3
inductive tM (P:Er)(w:Eu)(K:Cq)(C D:Eo)(vs:Dj)(H:Hp)(Q:VK)(e3:XK):Prop
 |mk (b a h v hl:Eo) (fp X:Dd) (S:Di) (hs:Hs) (x:Vn) (t:Str) (us:Dj) (i:Int) (h0:vs=[.ref b,.ref v,.ref hl,.int i]) (h1:xu P w K C D H b a h fp S hs) (h2:sS K H X v x) (h3:oN S x.n x.fs x.ps x.y t) (h4:yj 4 x.fs) (h5:x.fs.length<=6) (h6:UK x.y=true) (h7:(∀p∈x.ps,Ew p=true)) (h8:H hl=some (.lst us)) (h9:us.length<1000) (h10:hl∈X) (h11:b≠hl) (h12:h≠hl) (h13:hl∉fp) (h14:∀p x y H',Off [hl] H H'->H' hl=some (.lst<|us++[.ref p])->wY K H' p [.ref x,.ref y]->H x=none->H y=none->mK K H' [] x y->Q (.bl true) H'):tM P w K C D vs H Q e3
namespace Ce
abbrev st:Stmt:=top 73
theorem sc:zy ["_law_book","_law_version","_law_parents","_law_words_here"] ["_law_book","_law_version"] (zF st):=Cz
include T in
theorem ok (F:yc0 K "_law_note_good" st f fd)(Z:wz P w K mg base 7 "parents_of" ["store","name"]<|n6 P w K aC b5)(QC:wz P w K mg base 7 "words_of" ["store","name"]<|tR P w K aC b5<|λ_ y=>y):zc P w K mg base CA 8 f fd ["_law_book","_law_version"] (lG P w K aC aD):=by
 refine F.ok sc λ_ _ _ _ H vs Q E o h=>?_;obtain⟨b,a,h,v,c,l,fp,S,hs,x,t,rfl,B,hv,hl,u,ly,po,k⟩:=h;refine⟨_,(zD (Cv (i:=2) sc.nd<|yQ Z o.m zX<|zA (yP (pv 0) rfl)<|zA (zM o.zr (pv 1) zz<|λ_ _=>rfl) zB)<|zD (Cv (i:=3) sc.nd<|yQ QC o.m zX<|zA (yP (pv 0) rfl)<|zA (zM o.zr (pv 1) zz<|λ_ _=>rfl) zB)<|zE<|zL<|y8 (yK (vK o.units) (pv 2) (zM o.zr (pv 1) zz<|λ_ _=>rfl)<|zO _)<|y8 (zJ (z7 (K:=K)) (by rfl) T.isinstance ZA<|zA (pv 3)<|zA (y6 (v:=.ty "str") rfl T.str Z7 rfl) zB)<|xU<|yK (vK o.units) (pv 3) (zM o.zr (pv 1) zz<|λ_ _=>rfl)<|zO _),?_⟩
 obtain⟨dx,hb⟩:=B.ob;have th:∀e∈S,U2 e:=B.ok.th;have U:UL S (.str x.n) "note"=false->False:=λz=>by
  rw[show UL S (.str x.n) "note"=zW S x.n ["note"] from rfl,Tn u]at z;cases z
 have one:∀s∈S,∀C j A,(EQ x.n)=.str s.nm->s.d=(Th.note C j A).dat->j=x.ps/\A=x.y:=λs q C j A g p=>by
  injection g with g;have:=At.thing B.ok u ⟨s,q,g.symm,p⟩;injection this with _ i2 i3;exact⟨i2.symm,i3.symm⟩
 refine⟨_,rfl,b,aD,dx,_,_,rfl,hb,T.xx,T.m1,rfl,_,rfl,v,_,rfl,CB hv rfl,a,fp,S,.str x.n,_,rfl,B.sh,th,rfl,λs q C j A g p l1 n1=>?_,λz=>(U z).elim⟩;obtain⟨rfl,rfl⟩:=one s q C j A g p;refine nw n1 λH1 D h1=>zT ?_;have R:=B.same D;obtain⟨G,M⟩:=R.ob;have r:=D _ _ hv;refine⟨_,rfl,b,aD,G,_,_,rfl,M,T.xx,T.m1,rfl,_,rfl,v,_,rfl,CB r rfl,a,fp,S,.str x.n,_,rfl,R.sh,th,rfl,λI N t2 O y2 L J=>?_,λz=>(U z).elim⟩;obtain⟨_,I⟩:=one I N t2 O y2 L J;rw[I];refine zT ⟨_,rfl,_,rfl,v,_,rfl,CB r rfl,.list<|x.ps.map .str,.list<|x.ps.map .str,⟨l1,_,rfl,yu.of h1,zu.strs _⟩,⟨l,_,rfl,yu.of<|D _ _ hl,zu.strs _⟩,(yO po).1,(yO po).1,_,rfl,?_⟩;rw[show EM (.list<|x.ps.map .str) (.list<|x.ps.map .str)=true from(qF _ _).trans (Zq rfl)];have Y:EW (.str x.y)=true:=GV (vO ly).ok<|Yb _;refine UF ⟨_,rfl,_,_,.str x.y,_,rfl,rfl,IS K "str",_,rfl,UF ⟨_,rfl,_,rfl,v,_,rfl,CB r rfl,.str x.y,.str x.y,rfl,rfl,Y,Y,?_⟩⟩;rw[show EM (.str x.y) (.str x.y)=true from Vc x.y];exact k _ D
end Ce
namespace Cf
abbrev st:Stmt:=top 74
theorem sc:zy ["_law_book","_law_version","_law_held","_law_turn","_law_found","_law_other"] ["_law_book","_law_version","_law_held","_law_turn"] (zF st):=Cz
include T in
theorem ok (F:yc0 K "_law_reads" st f fd)(QD:wV P w K mg base 8 "_law_note_good" ["_law_book","_law_version"]<|lG P w K aC aD)(Qg:wK P w K mg base aD 16 "files" ["self","version"]<|vo P w K aC aD b5):zc P w K mg base CA 17 f fd ["_law_book","_law_version","_law_held","_law_turn"] (tM P w K aC aD):=by
 refine F.ok sc λ_ _ _ _ H vs Q E y h=>?_;obtain⟨b,a,h,v,hl,fp,X,S,hs,x,t,us,i,rfl,B,⟨c,l,Dm,hv,hc,ff,ai,vX,cX,lX⟩,nt,C,f6,ly,po,I,ul,hX,nb,nh,nf,k⟩:=h;refine⟨_,(xQ (yG (PW.pt<|jC (zP xH (zV yN (pv 3) zH) zH<|zO _)<|qU<|yS<|zU (K:=K)<|zK QD y.m<|zA (pv 0)<|zA (pv 1) zB) (zE<|zL qN) zR)<|zD (Cv (i:=4) sc.nd<|yE (pv 0) T.xx Qg y.m zX<|zA (zM y.zr (pv 1) zz<|λ_ _=>rfl) zB)<|zD (yG (PW.pt<|v7 (yS<|zU (K:=K)<|zJ (yd.or (z7 (K:=K))<|vH (K:=K)) (by rfl) T.isinstance ZA<|zA (pv 4)<|zA (y6 (v:=.ty "dict") rfl T.dict YR rfl) zB)<|v7 (zP (P7 y.vq) (pv 4) (zM y.zr (pv 1) zz<|λ_ _=>rfl)<|zO _)<|vG<|zP (Wr y.units) (z8 (Kq rfl) (by rfl) T.list Yw<|zA (pv 4) zB) (zJ (qZ rfl) (by rfl) T.sorted YX<|zA (zM y.zr (pv 1) zz<|λ_ _=>rfl) zB)<|zO _) (zE<|zL qN) zR)<|zD (yZ y.zr (pv 4) zz (yR<|zA zz zB) rfl)<|zD (Cv (i:=5) sc.nd<|yE (pv 0) T.xx Qg y.m zX<|zA (zM y.zr (pv 1) zz<|λ_ _=>rfl) zB)<|zD (yG (zP (P7 y.vq) (pv 5) (zM y.zr (pv 1) zz<|λ_ _=>rfl)<|zO _) (zE<|zL qN) zR)<|zD (yC<|k6 Y1 YY YZ jB (pv 2)<|zA (yR<|zA (pv 5)<|zA (z8 jD (by rfl) T.dict YR<|zA (pv 5) zB) zB) zB)<|zE<|zL<|zK QD y.m<|zA (pv 0)<|zA (pv 1) zB),?_⟩
 have G:∀{g:Hp} {Q1:VK} {E1:XK},zx H g->(∀M,zx g M->Q1 (.bl true) M)->lG P w K aC aD [.ref b,.ref v] g Q1 E1:=λj q=>⟨b,a,h,v,c,l,fp,S,hs,x,t,rfl,B.same j,j _ _ hv,j _ _ ai,nt.nt,ly,po,q⟩;have a6:UL S (.str x.n) "note"=false->False:=λz=>by
  rw[show UL S (.str x.n) "note"=zW S x.n ["note"] from rfl,Tn nt.nt]at z;cases z
 obtain⟨Do,tr⟩:=nt.tr;have rl:(zq 5 S t).length<=63:=by
  rw[((Y3 (NH (nt.ok.rise B.ok).1)<|jF C.nd).mpr nt.rd).length_eq];lia
 have rk:∀f∈zq 5 S t,UV f.2:=λf U=>(C.wL f<|(nt.rd f).mp U).2.2.2;have FB:∀{g:Hp} {Q1:VK} {E1:XK},zx H g->(∀e s M,zx g M->g e=none->M e=some (.dK s)->yp K M (zq 5 S t) s->Q1 (.ref e) M)->vo P w K aC aD b5 [.ref b,.str x.n] g Q1 E1:=λj q=>⟨b,a,h,fp,S,hs,.str x.n,_,rfl,B.same j,rfl,λe' a5 t' bh y' O a2=>(by
  injection O with O;have:=At.thing B.ok nt.nt ⟨e',a5,O.symm,a2⟩;injection this with i1 _ _;rw[<-i1];exact⟨Do,tr,nt.ok,rl,rk,q⟩),λz=>(a6 z).elim⟩
 refine⟨λav H'=>av=[some<|.ref b,some<|.ref v,some<|.ref hl,some<|.int i,none,none]/\zx H H',⟨_,rfl,_,_,rfl,rfl,(by decide:(0:Int)<2),rfl,_,rfl,UM (λ_=>⟨_,rfl,_,rfl,G (zx.refl _) λg j=>⟨true,rfl,UN ⟨rfl,j⟩⟩⟩) λ_=>UC ⟨rfl,zx.refl _⟩⟩,?_⟩;rintro av g ⟨rfl,j⟩;have B1:=B.same j;obtain⟨a0,a3⟩:=B1.ob;refine⟨_,rfl,b,a0,_,rfl,a3,rfl,_,rfl,v,_,rfl,CB (j _ _ hv) rfl,FB j λe s M N ne he R=>zT ?_⟩;have N:=j.trans N;have ne:=j.free ne;have au:=NH (nt.ok.rise B.ok).1;have wL:∀f∈zq 5 S t,f.1≠[]/\∀l∈f.1,z9 l=true:=λf U=>let q:=C.wL f<|(nt.rd f).mp U;⟨q.1,q.2.2.1⟩;have same:∀{g:Hp} {e s},zx H g->g e=some (.dK s)->yp K g (zq 5 S t) s->∃r,rP K g Dm s r/\(s.length==Dm.length&&r)=true:=λ{g e s} j he R=>⟨_,BT (ff.same j) C R wL,(FC R (ff.same j) C au).mpr nt.rd⟩;obtain⟨r,J,L⟩:=same N he R;refine⟨_,rfl,.inr ⟨e,_,s,_,rfl,.inl he,IS K "dict",_,rfl,UN ⟨_,rfl,_,rfl,v,_,rfl,CB (N _ _ hv) rfl,e,c,s,Dm,r,rfl,rfl,.inl he,.inl<|N _ _ hc,J,_,rfl,?_⟩⟩⟩;rw[L];obtain⟨as,ek⟩:=ff.iu;refine UN ⟨_,rfl,e,s,rfl,.inl he,λl1 n1=>nw n1 λH3 u3 h3=>⟨_,rfl,v,_,rfl,CB ((N.trans u3) _ _ hv) rfl,c,Dm,rfl,.inl<|(N.trans u3) _ _ hc,as,by rw[ff.len];lia,λl2 ss n2 pm so=>nw n2 λH4 u4 h4=>?_⟩⟩;have s4:=(N.trans u3).trans u4;rw[ek]at pm;have a8:(zq 5 S t).map (λf=>Cs f.1)=ss:=KY C (nt.ok.rise B.ok).1 nt.rd pm so;have sk:∀p∈ss,Ew p=true:=λp hp=>by
  obtain⟨f,U,q⟩:=Zr.mp<|pm.mem_iff.mp hp;rw[<-q];exact Rr (C.wL f U).2.2.1
 have h3:=u4 _ _ h3;rw[R.kV,a8]at h3;refine⟨.list<|ss.map .str,.list<|ss.map .str,⟨l1,_,rfl,yu.of h3,zu.strs _⟩,⟨l2,_,rfl,yu.of h4,zu.strs _⟩,(yO sk).1,(yO sk).1,_,rfl,?_⟩;rw[show EM (.list<|ss.map .str) (.list<|ss.map .str)=true from(qF _ _).trans (Zq rfl)];have ac:=(u3.trans u4) _ _ he;refine UN ⟨UD 1,λp5 n5=>nw n5 λH5 u5 h5=>⟨_,rfl,e,_,rfl,.inl ⟨s,.inr "zz",u5 _ _ ac,rfl,yJ (by rw[R.len];lia),rfl⟩,?_⟩⟩;have Z:zx H (upd H5 e<|.dK<|yt s (.inr "zz")<|.ref p5):=An.zx.rC (s4.trans u5) ne;generalize upd H5 e (.dK<|yt s (.inr "zz")<|.ref p5)=H6 at Z ⊢;clear h3 h4 h5 ac u3 u4 u5 s4 J L r he R ne n1 n2 n5;obtain⟨a1,a4⟩:=(B.same Z).ob;refine⟨_,rfl,b,a1,_,rfl,a4,rfl,_,rfl,v,_,rfl,CB (Z _ _ hv) rfl,FB Z λe2 Y H7 s7 al D ab=>zT ?_⟩;have d:=Z.trans s7;obtain⟨r,J,L⟩:=same d D ab;refine⟨_,rfl,_,rfl,v,_,rfl,CB (d _ _ hv) rfl,e2,c,Y,Dm,r,rfl,rfl,.inl D,.inl<|d _ _ hc,J,_,rfl,?_⟩;rw[L];have ad:=d _ _ I;refine UN ⟨_,rfl,.inl ⟨rfl,_,yu.of ad⟩,_,rfl,_,rfl,e2,Y,rfl,.inl D,λe3 n3=>nw n3 λH8 u8 h8=>⟨UD 2,λp np=>nw np λH9 u9 h9=>?_⟩⟩;have s9:=d.trans<|u8.trans u9;have ah:=(u8.trans u9) _ _ ad;refine⟨hl,us,_,rfl,rfl,ah,yJ<|by lia,?_⟩;have ap:UO H9 [hl]:=λc hc xs z=>by
  rw[Zl.mp hc]at z
  rcases z with z|⟨u,z⟩<;>(rw[ah]at z;cases z)
 have oX:∀{c},c∉X->c∉[hl]:=λn z=>n<|Zl.mp z▸hX;have am:e2∉[hl]:=λz=>by have:=Z.free al;rw[Zl.mp z,I]at this;cases this
 have an:e3∉[hl]:=λz=>by have:=d.free n3;rw[Zl.mp z,I]at this;cases this
 have a7:p∉[hl]:=λz=>by have:=(d.trans u8).free np;rw[Zl.mp z,I]at this;cases this
 have of:=zY (H:=H9) (c:=hl) (o:=.lst<|us++[.ref p]);have hh:=zC (H:=H9) (a:=hl) (o:=.lst<|us++[.ref p]);generalize upd H9 hl (.lst<|us++[.ref p])=a9 at of hh ⊢;refine⟨_,rfl,_,rfl,b,a,h,v,c,l,fp,S,hs,x,t,rfl,(B.same s9).off ap of (λz=>nb<|Zl.mp z) (λz=>nh<|Zl.mp z) (λc hc z=>nf<|Zl.mp z▸hc),of _ _ (oX vX)<|s9 _ _ hv,of _ _ (oX lX)<|s9 _ _ ai,nt.nt,ly,po,λax A=>?_⟩;exact k p e2 e3 ax (λc o nc ec=>A _ _<|of _ _ nc<|s9 _ _ ec) (A _ _ hh) (wY.of<|A _ _<|of _ _ a7 h9) (Z.free al) (d.free n3) ⟨nofun,nofun,.inl ⟨Y,_,A _ _<|of _ _ am<|u9 _ _<|u8 _ _ D,A _ _<|of _ _ an<|u9 _ _ h8,((ab.same<|u8.trans u9).off ap of).same A,C.subs (λf U=>(nt.rd f).mp U) (Rz C au nt.rd)⟩⟩
end Cf
def UU (hh md hl tw a:Eo)(fr:Option<|Eo×Eo):Dl:=[(.inr "heads",.ref hh),(.inr "made",.ref md),(.inr "fresh",if fr.isSome=true then .ref a else .non),(.inr "held",.ref hl),(.inr "twin",.ref tw)]++match fr with
 |none=>[]
 |some q=>[(.inr "old",.ref q.1),(.inr "names",.ref q.2)]
def pF (P:Er)(w:Eu)(K:Cq)(C:Eo)(H:Hp)(X:Dd)(fr:Option<|Eo×Eo):Prop:=∀q,fr=some q->∃d b,yo P w K C H q.1 d b/\wM b/\(∀c∈d,c∉X)/\H q.2=some (.lst<|(b.map En.nm).map V.str)/\q.2∉X
section
variable {P:Er}{w:Eu}{K:Cq}{C D:Eo}{H H':Hp}{X Y:Dd}{hh md hl tw a:Eo}{fr:Option (Eo×Eo)}{S:Di}
theorem HQ:UE (UU hh md hl tw a fr) (.inr "heads")=some (.ref hh):=rfl
theorem Xe:UE (UU hh md hl tw a fr) (.inr "made")=some (.ref md):=rfl
theorem RC:UE (UU hh md hl tw a fr) (.inr "fresh")=some (if fr.isSome=true then .ref a else .non):=rfl
theorem RD:UE (UU hh md hl tw a fr) (.inr "held")=some (.ref hl):=rfl
theorem RE:UE (UU hh md hl tw a fr) (.inr "twin")=some (.ref tw):=rfl
theorem pF.off (q:pF P w K C H X fr)(n:UO H Y)(o:Off Y H H')(s:∀c∈Y,c∈X):pF P w K C H' X fr:=λp e=>by
 obtain⟨g,f,h1,i,b,h4,d⟩:=q p e;exact⟨g,f,h1.off n o<|λc hc z=>b c hc<|s c z,i,b,o _ _ (λz=>d<|s _ z) h4,d⟩
theorem pF.on (q:pF P w K C H X fr)(s:∀c∈Y,c∈X\/H c=none):pF P w K C H Y fr:=λp e=>by
 obtain⟨d,b,h1,f,g,h4,i⟩:=q p e;exact⟨d,b,h1,f,λc hc=>uG (h1.ex c hc) s<|g c hc,h4,uG ⟨_,h4⟩ s i⟩
theorem Xs (ok:wM S):EW (.list<|(S.map En.nm).map .str)=true/\EM (.list<|(S.map En.nm).map .str) (.list<|(S.map En.nm).map .str)=true :=
 ⟨(yO λp b=>Hh ok b).1,(qF _ _).trans<|Zq rfl⟩
theorem HS (h:yo P w K C H a fp S):∃dx d1 d2 d3,H a=some (.ins C dx<|N9 d1 d2 d3):=by
 obtain⟨_,dx,d1,d2,d3,_,_,_,_,h1,_⟩:=h;exact ⟨dx,d1,d2,d3,h1⟩
theorem X7:(S.map λe=>V.str e.nm)=(S.map En.nm).map V.str:=by rw[ZM];rfl
end
inductive jj (P:Er)(w:Eu)(K:Cq)(C:Eo)(vs:Dj)(H:Hp)(Q:VK)(e3:XK):Prop
 |mk (t hh md hl tw a:Eo) (fr:Option<|Eo×Eo) (fp X:Dd) (S:Di) (n y tt:Str) (ps:Da) (h0:vs=[.ref t,.str n,.str y]) (h1:H t=some (.dK<|UU hh md hl tw a fr)) (h2:pF P w K C H X fr) (h3:yo P w K C H a fp S) (h4:wM S) (h5:At S n<|.note tt ps y) (h6:∀H',zx H H'->Q (.bl true) H'):jj P w K C vs H Q e3
inductive mJ (P:Er)(w:Eu)(K:Cq)(C D:Eo)(vs:Dj)(H:Hp)(Q:VK)(e3:XK):Prop
 |mk (b a h:Eo) (fp:Dd) (S:Di) (hs:Hs) (x n:Str) (h0:vs=[.ref b,.str x,.str n]) (h1:xu P w K C D H b a h fp S hs) (h2:hs.length<1000) (h3:(UI hs x).isSome=true) (h4:zW S n ["note"]=false) (h5:∀H',zx H H'->Q (.bl true) H'):mJ P w K C D vs H Q e3
namespace Cg
abbrev st:Stmt:=top 75
theorem sc:zy ["_law_state","_law_name","_law_words_here"] ["_law_state","_law_name","_law_words_here"] (zF st):=Cz
include T in
theorem ok (F:yc0 K "_law_on_fresh" st f fd)(x:Met P w K mg base aC 2 "has" ["self","name"]<|oW P w K aC)(u:wz P w K mg base 7 "words_of" ["store","name"]<|tR P w K aC b5<|λ_ y=>y)(v:Met P w K mg base aC 1 "names" ["self"]<|ug P w K aC):zc P w K mg base CA 8 f fd ["_law_state","_law_name","_law_words_here"] (jj P w K aC):=by
 refine F.ok sc λ_ _ _ _ H O Q E b h=>?_;obtain⟨t,hh,md,hl,tw,a,fr,fp,X,S,n,y,N,ps,rfl,g,C,sh,ok,c,k⟩:=h;refine⟨_,(zD (yG (zP KW (zM b.zr (pv 0) zz<|λ_ _=>rfl) x9<|zO _) (zE<|zL qN) zR)<|zD (yG (PW.pt<|v7 (yS<|zU (K:=K)<|jY (zM b.zr (pv 0) zz<|λ_ _=>rfl) T.cls x b.m<|zA (pv 1) zB)<|vG<|zP Bj (yQ u b.m zX<|zA (zM b.zr (pv 0) zz<|λ_ _=>rfl)<|zA (pv 1) zB) (pv 2)<|zO _) (zE<|zL qN) zR)<|zE<|zL<|yK (vK b.units) (k7 (zM b.zr (pv 0) zz<|λ_ _=>rfl) T.cls v b.m) (zM b.zr (pv 0) zz<|λ_ _=>rfl)<|zO _),?_⟩
 refine⟨_,rfl,t,_,rfl,CB g RC,?_⟩;cases fr with
 |none=>exact⟨rfl,_,rfl,UF<|k _<|zx.refl _⟩
 |some q =>
  obtain⟨D,j,i,d,_,hn,_⟩:=C q rfl;obtain⟨A,_,_,_,ha⟩:=HS sh;obtain⟨o,_,_,_,r⟩:=HS i;refine⟨rfl,_,rfl,UC ⟨_,rfl,t,_,rfl,CB g RC,a,A,_,rfl,ha,rfl,_,rfl,a,fp,S,.str n,_,rfl,sh,rfl,_,rfl,?_⟩⟩;rw[show Xz S (.str n)=true from Zq c.mem];refine UN ⟨_,rfl,t,_,rfl,CB g RC,_,rfl,a,fp,S,.str n,_,rfl,sh,ok.th,rfl,λe he M J R p B=>?_,λz=>?_⟩
  .injection p with p;have:=At.thing ok c ⟨e,he,p.symm,B⟩;injection this with _ _ G;subst G;refine⟨_,rfl,rfl,_,rfl,?_⟩;rw[show decide (V.str y=V.str y)=true from Zq rfl];refine UN ⟨_,rfl,t,_,rfl,CB g rfl,q.1,o,_,rfl,r,rfl,q.1,D,j,rfl,i,λl I=>?_⟩;rw[X7];refine nw I λL s h1=>⟨_,rfl,t,_,rfl,CB (s _ _ g) rfl,.list<|(j.map En.nm).map .str,.list<|(j.map En.nm).map .str,⟨l,_,rfl,yu.of h1,zu.strs _⟩,⟨q.2,_,rfl,yu.of<|s _ _ hn,zu.strs _⟩,(Xs d).1,(Xs d).1,?_⟩;rw[(Xs d).2];exact k _ s
  .rw[show UL S (.str n) "note"=zW S n ["note"] from rfl,Tn c]at z;cases z
end Cg
namespace Ch
abbrev st:Stmt:=top 76
theorem sc:zy ["_law_book","_law_branch","_law_name","_law_many","_law_way","_law_e"] ["_law_book","_law_branch","_law_name"] (zF st):=Cz
include T in
theorem ok (F:yc0 K "_law_is_none" st f fd)(C:wK P w K mg base aD 16 "files" ["self","version"]<|vo P w K aC aD b5)(A:wK P w K mg base aD 7 "set_head" ["self","branch","version"]<|rO P w K aC aD b5)(D:oO P w K mg base 1 "_law_word" ["_law_e"]<|BY b5 b2 b6 b7):zc P w K mg base CA 17 f fd ["_law_book","_law_branch","_law_name"] (mJ P w K aC aD):=by
 refine F.ok sc λ_ _ _ _ H U Q E l h=>?_;obtain⟨b,a,h,fp,S,v,x,n,rfl,B,hl,I,p,k⟩:=h;refine⟨_,(zD (Cv (i:=3) sc.nd zH)<|zD (qS Lb rfl (jT rfl T.range<|zA zH zB) (z6 (i:=4) sc.nd rfl<|EU rfl)<|zE<|BR rfl rfl rfl (λ_ _=>(zE<|yG (zP xH (pv 4) zH<|zO _) (zE<|yC<|yE (pv 0) T.xx C l.m (xY rfl)<|zA (pv 2) zB)<|zE<|yC<|yE (pv 0) T.xx A l.m (xY rfl)<|zA (pv 1)<|zA (pv 2) zB)) rfl T.uo sc.nd (i:=5) rfl rfl (λz=>(zE<|Cv (i:=3) sc.nd<|zV qX (pv 3)<|z8 NZ (by rfl) T.int PyProof.Rows.boot_int<|zA (yK xH (IK (z:=z) D (l.m.h.mark _) rfl<|zA (pv 5) zB) zz<|zO _) zB))) (zE<|zL<|yK xH (pv 3) zH<|zO _)),?_⟩
 refine⟨_,rfl,by decide,by decide,Xn (lo:=0) (n:=2) (λi s d=>∃o,s=[some<|.ref b,some<|.str x,some<|.str n,some<|.int i,o,none]/\zx H d) ⟨none,rfl,zx.refl _⟩ ?_ ?_⟩
 .rintro i s M R ⟨o,rfl,q⟩;have g:=B.same q;obtain⟨u,hb⟩:=g.ob;refine zT ⟨λc d cls=>c=[some<|.ref b,some<|.str x,some<|.str n,some<|.int i,some<|.int<|0+i,none]/\cls=.ref b5/\zx H d,⟨_,rfl,rfl,_,rfl,UM (λ_=>⟨_,rfl,b,u,_,rfl,hb,rfl,_,rfl,b,a,h,fp,S,v,.str n,_,rfl,g,rfl,λe he t ps y j G=>?_,λ_=>⟨rfl,rfl,q⟩⟩) λ_=>⟨_,rfl,b,u,_,rfl,hb,rfl,_,rfl,_,rfl,b,a,h,fp,S,v,x,n,rfl,g,hl,I,λ_=>⟨rfl,rfl,q⟩,λz=>?_⟩⟩,?_⟩
  .injection j with j;rw[Tn ⟨e,he,j.symm,G⟩]at p;cases p
  .rw[p]at z;cases z
  .rintro c d cls z ⟨rfl,rfl,r⟩ J;refine⟨T.gR b5<|by simp,_,rfl,_,rfl,b5,rfl,zC,by simp,λO L=>?_⟩;rw[show Ox b5 b2 b6 b5="version" from ZK rfl];refine⟨rfl,.inr ⟨_,rfl,_,_,rfl,rfl,some<|.int<|0+i,?_,(r.trans<|zG J).trans L⟩⟩;rw[show decide (V.str "version"=V.str "version")=true from Zq rfl];rfl
 .rintro s N ⟨o,rfl,r⟩;exact⟨_,rfl,rfl,k _ r⟩
end Ch
structure Ad where
 b:Eo
 t:Eo
 hh:Eo
 md:Eo
 hl:Eo
 tw:Eo
 a:Eo
 h:Eo
 fp:Dd
 a':Eo
 h':Eo
 fp':Dd
 fr:Option<|Eo×Eo
def Ad.X (A:Ad):Dd:=A.b::A.t::A.hh::A.md::A.hl::A.tw::A.h::A.h'::(A.fp++A.fp')
structure Lw (P:Er)(w:Eu)(K:Cq)(C:Eo)(H:Hp)(X:Dd)(A:Ad)(hs:Hs)(M:List Vn)(vs us:Dd):Prop where
 tb:H A.t=some (.dK<|UU A.hh A.md A.hl A.tw A.a A.fr)
 hd:H A.hh=some (.dK<|hkg (CF M) hs)
 md:H A.md=some (.lst<|vs.map V.ref)
 hl:H A.hl=some (.lst<|us.map V.ref)
 vl:vs.length=M.length
 ve:∀(i:Nat) v x,vs[i]?=some v->M[i]?=some x->sS K H X v x
 he:∀p∈us,HeldAt K H X p
 fr:pF P w K C H X A.fr
def mR:Da:=["main","sideb","sidec","sided"]
structure Sd (P:Er)(w:Eu)(K:Cq)(C D:Eo)(H:Hp)(A:Ad)(pl:List Da)(S:Di)(hs:Hs)(M:List Vn)(vs us:Dd):Prop where
 nd:A.X.Nodup
 bk:xu P w K C D H A.b A.a A.h A.fp S hs
 tk:xu P w K C D H A.tw A.a' A.h' A.fp' S hs
 lw:Lw P w K C H A.X A hs M vs us
 mv:Mv pl S M
 nm:hs.map (·.1)=mR.take hs.length
 h1:1<=hs.length
 h4:hs.length<=4
def pD (P:Er)(w:Eu)(K:Cq)(C D:Eo)(H:Hp)(A:Ad)(pl:List Da)(n g:Nat):Prop:=∃S c M d b,Sd P w K C D H A pl S c M d b/\S.length<=26*n/\M.length<=n/\b.length<=g
section
variable {P:Er}{w:Eu}{K:Cq}{C D:Eo}{H H':Hp}{X Y:Dd}{A:Ad}{pl:List Da}{S:Di}{hs:Hs}{M:List Vn}{vs us:Dd}{n g:Nat}
theorem Lw.on (q:Lw P w K C H X A hs M vs us)(s:∀c∈Y,c∈X\/H c=none):Lw P w K C H Y A hs M vs us:=⟨q.tb,q.hd,q.md,q.hl,q.vl,λi v x h1 b=>(q.ve i v x h1 b).on s,λp d=>(q.he p d).on s,q.fr.on s⟩
theorem Lw.off (q:Lw P w K C H X A hs M vs us)(n:UO H Y)(o:Off Y H H')(s:∀c∈Y,c∈X)(d:∀c∈[A.t,A.hh,A.md,A.hl],c∉Y):Lw P w K C H' X A hs M vs us :=
 ⟨o _ _ (d _<|by simp) q.tb,o _ _ (d _<|by simp) q.hd,o _ _ (d _<|by simp) q.md,o _ _ (d _<|by simp) q.hl,q.vl,λi v x h1 b=>(q.ve i v x h1 b).off n o s,λp e=>(q.he p e).off n o s,q.fr.off n o s⟩
theorem Iw {c:Eo}{o:HO}(h:H c=some o)(h1:∀xs,o≠.tup xs)(d:∀u v,o≠.frz u v):UO H [c]:=λb hb xs=>by
 rw[Zl.mp hb];exact xG h h1 d xs
theorem Lw.same (q:Lw P w K C H X A hs M vs us)(s:zx H H'):Lw P w K C H' X A hs M vs us:=q.off (Y:=[]) (λb hb=>nomatch hb) (Off.of s) (λc z=>nomatch z) λc _ z=>nomatch z
theorem Sd.same (q:Sd P w K C D H A pl S hs M vs us)(s:zx H H'):Sd P w K C D H' A pl S hs M vs us:=⟨q.nd,q.bk.same s,q.tk.same s,q.lw.same s,q.mv,q.nm,q.h1,q.h4⟩
theorem xu.nt (B:xu P w K C D H b a h fp S hs):UO H (b::h::fp):=λc hc=>by
 obtain⟨d,hb⟩:=B.ob
 rcases Zo.mp hc with rfl|hc
 .exact xG hb (λ_ z=>nomatch z) (λ_ _ z=>nomatch z)
 .rcases Zo.mp hc with rfl|hc
  .exact xG B.hd (λ_ z=>nomatch z) (λ_ _ z=>nomatch z)
  .exact B.sh.wA.tup c hc
theorem xu.ex (B:xu P w K C D H b a h fp S hs):∀c∈b::h::fp,∃o,H c=some o:=λc hc=>by
 obtain⟨d,hb⟩:=B.ob
 rcases Zo.mp hc with rfl|hc
 .exact⟨_,hb⟩
 .rcases Zo.mp hc with rfl|hc
  .exact⟨_,B.hd⟩
  .exact B.sh.ex c hc
theorem Ad.mY {c:Eo}(h:c∈A.X):c∈A.b::A.h::A.fp\/c∈A.tw::A.h'::A.fp'\/c∈[A.t,A.hh,A.md,A.hl]:=by
 unfold Ad.X at h;simp only[Zo,ZR,ZD,Ye]at h ⊢
 rcases h with h|h|h|h|h|h|h|h|h|h<;>simp[h]
theorem Ad.oJ {c:Eo}(h:c∈A.b::A.h::A.fp):c∈A.X:=by
 unfold Ad.X;simp only[Zo,ZR]at h ⊢
 rcases h with h|h|h<;>simp[h]
theorem Ad.to2 {c:Eo}(h:c∈A.tw::A.h'::A.fp'):c∈A.X:=by
 unfold Ad.X;simp only[Zo,ZR]at h ⊢
 rcases h with h|h|h<;>simp[h]
theorem Ad.to3 {c:Eo}(h:c∈[A.t,A.hh,A.md,A.hl]):c∈A.X:=by
 unfold Ad.X;simp only[Zo,ZD,Ye]at h ⊢
 rcases h with h|h|h|h<;>simp[h]
structure Apart (A:Ad):Prop where
 kh:∀c∈A.b::A.h::A.fp,c∉A.tw::A.h'::A.fp'
 oE:∀c∈A.b::A.h::A.fp,c∉[A.t,A.hh,A.md,A.hl]
 lE:∀c∈A.tw::A.h'::A.fp',c∉[A.t,A.hh,A.md,A.hl]
 p3:[A.t,A.hh,A.md,A.hl].Nodup
 p1:(A.b::A.h::A.fp).Nodup
 p2:(A.tw::A.h'::A.fp').Nodup
theorem mH:A.X.Perm ((A.b::A.h::A.fp)++((A.tw::A.h'::A.fp')++[A.t,A.hh,A.md,A.hl])):=by
 unfold Ad.X;refine List.perm_iff_count.mpr λc=>?_;simp only[List.cons_append,V3,List.count_cons,List.count_append,List.count_nil];lia
theorem apart (n:A.X.Nodup):Apart A:=by
 have q:=mH.nodup_iff.mp n;obtain⟨e,f,d⟩:=YD.mp q;obtain⟨g,i,j⟩:=YD.mp f;exact⟨λc h1 b=>d c h1 c (Yl _ b) rfl,λc h1 b=>d c h1 c (ZW _ b) rfl,λc h1 b=>j c h1 c b rfl,i,e,g⟩
theorem Hl (q:Apart A):A.X.Nodup:=by
 refine mH.nodup_iff.mpr<|YD.mpr ⟨q.p1,YD.mpr ⟨q.p2,q.p3,λa ha b hb e=>q.lE a ha<|e▸hb⟩,λa ha b hb e=>?_⟩
 rcases ZR.mp (e▸hb) with z|z
 .exact q.kh a ha z
 .exact q.oE a ha z
theorem Sd.nt (q:Sd P w K C D H A pl S hs M vs us):UO H A.X:=λc hc=>by
 rcases Ad.mY hc with z|z|z
 .exact q.bk.nt c z
 .exact q.tk.nt c z
 .simp only[Zo,ZD,Ye]at z
  rcases z with rfl|rfl|rfl|rfl
  .exact xG q.lw.tb (λ_ z=>nomatch z) (λ_ _ z=>nomatch z)
  .exact xG q.lw.hd (λ_ z=>nomatch z) (λ_ _ z=>nomatch z)
  .exact xG q.lw.md (λ_ z=>nomatch z) (λ_ _ z=>nomatch z)
  .exact xG q.lw.hl (λ_ z=>nomatch z) (λ_ _ z=>nomatch z)
theorem Sd.ex (q:Sd P w K C D H A pl S hs M vs us):∀c∈A.X,∃o,H c=some o:=λc hc=>by
 rcases Ad.mY hc with z|z|z
 .exact q.bk.ex c z
 .exact q.tk.ex c z
 .simp only[Zo,ZD,Ye]at z
  rcases z with rfl|rfl|rfl|rfl
  .exact⟨_,q.lw.tb⟩
  .exact⟨_,q.lw.hd⟩
  .exact⟨_,q.lw.md⟩
  .exact⟨_,q.lw.hl⟩
theorem Sd.held {p x y:Eo}(q:Sd P w K C D H A pl S hs M vs us)(o:Off [A.hl] H H')(e:H' A.hl=some (.lst<|us.map V.ref++[.ref p]))(g:wY K H' p [.ref x,.ref y])(n:H x=none)(r:H y=none)(hd:mK K H' [] x y):Sd P w K C D H' A pl S hs M vs (us++[p]):=by
 have ap:=apart q.nd;have d:=Iw q.lw.hl (λ_ z=>nomatch z)<|λ_ _ z=>nomatch z;have j:∀c∈[A.hl],c∈A.X:=λc z=>by rw[Zl.mp z];exact Ad.to3 (by simp)
 have n1:∀{c},c∈A.b::A.h::A.fp->c∉[A.hl]:=λhc z=>ap.oE _ hc (by rw[Zl.mp z];simp);have n2:∀{c},c∈A.tw::A.h'::A.fp'->c∉[A.hl]:=λhc z=>ap.lE _ hc (by rw[Zl.mp z];simp);have p3:=ap.p3;simp only[ZY,Zo,ZD,Ye,Vr]at p3;have f:∀{c},H c=none->c∉A.X:=λhc z=>by
  obtain⟨o,e⟩:=q.ex _ z;rw[hc]at e;cases e
 obtain⟨_,_,hd⟩:=hd;exact⟨q.nd,q.bk.off d o (n1<|by simp) (n1<|by simp)<|λc hc=>n1<|by simp[hc],q.tk.off d o (n2<|by simp) (n2<|by simp)<|λc hc=>n2<|by simp[hc],⟨o _ _ (by simp[p3.1.2.2]) q.lw.tb,o _ _ (by simp[p3.2.1.2]) q.lw.hd,o _ _ (by simp[p3.2.2.1]) q.lw.md,by rw[e,Zx];rfl,q.lw.vl,λi v x h1 l=>(q.lw.ve i v x h1 l).off d o j,jH (λp g=>(q.lw.he p g).off d o j) ⟨x,y,g,f n,f r,hd⟩,q.lw.fr.off d o j⟩,q.mv,q.nm,q.h1,q.h4⟩
end
inductive rK (P:Er)(w:Eu)(K:Cq)(C D:Eo)(vs:Dj)(H:Hp)(Q:VK)(e3:XK):Prop
 |mk (A:Ad) (pl:List Da) (n g:Nat) (h0:vs=[.ref A.b,.ref A.t]) (h1:pD P w K C D H A pl n g) (h2:g<1000) (h3:∀H',Off [A.hl] H H'->pD P w K C D H' A pl n (g+1)->Q (.bl true) H'):rK P w K C D vs H Q e3
section
variable {P:Er}{w:Eu}{K:Cq}{C D:Eo}{H H':Hp}{X Y:Dd}{A:Ad}{pl:List Da}{S:Di}{hs:Hs}{M:List Vn}{vs us:Dd}{n g:Nat}{v z t:Str}{ps:Da}{x:Vn}{a:Eo}
theorem uQ (ok:wM S)(h:At S v<|.note t ps z):∀p∈ps,Ew p=true:=λp c=>by
 obtain⟨e,he,_,hd⟩:=h;obtain⟨u,d,b,_⟩:=ok.th e he;have:=Na<|hd.symm.trans d;subst this;exact(b.2 p<|by simp[Th.parts,c]).ok
theorem Lw.ver (q:Lw P w K C H X A hs M vs us)(h:v∈M.map Vn.n):∃a x,CO (vs.map V.ref) ((M.map Vn.n).idxOf v:Nat)=some (.ref a)/\x∈M/\x.n=v/\sS K H X a x:=by
 have b:=J2 h;have e:=List.getElem_idxOf b;generalize (M.map Vn.n).idxOf v=i at b e;rw[Z9]at e;rw[Zk]at b;have hv:i<vs.length:=by rwa[q.vl]
 exact⟨vs[i],M[i],yA (by rw[Zy,Zv hv];rfl),Yo b,e,q.ve i _ _ (Zv hv)<|Zv b⟩
theorem Sd.bnd (q:Sd P w K C D H A pl S hs M vs us){y:Str}{o:Option Str}(h:UI hs y=some o):∀u,o=some u->u∈M.map Vn.n:=λu e=>q.mv.mY u<|q.bk.hv _ (j8 h) u e
theorem OX:∀y∈mR,Ew y=true/\z9 y=true:=by decide+kernel
theorem Sd.iz (q:Sd P w K C D H A pl S hs M vs us):∀y∈hs.map (·.1),y∈mR:=λy b=>by
 rw[q.nm]at b;exact Jf b
theorem OY:∀{ss:Da},(∀y∈ss,Ew y=true/\∀u,UI hs y=some (some u)->Ew u=true)->EE (ss.map<|CM hs)=true/\EK (ss.map<|CM hs)<=1/\qJ (ss.map<|CM hs)=true/\xB (ss.map<|CM hs)=true
 |[],_=>⟨rfl,Yb _,rfl,rfl⟩
 |y::ss,h=>by
  obtain⟨g,l,i,j⟩:=OY λz f=>h z<|Zn _ f;obtain⟨b,c⟩:=h y Zs;have one:(CM hs y).canLay0=true/\(CM hs y).depth<=1/\uS (CM hs y)=true/\U0 (CM hs y)=true:=by
   unfold CM;have d:(PyData.tuple [.str y,W5 none]).canLay0=true/\(PyData.tuple [.str y,W5 none]).depth<=1/\uS (.tuple [.str y,W5 none])=true/\U0 (.tuple [.str y,W5 none])=true:=⟨by show(Ew y&&(true&&true))=true;rw[b];rfl,(by decide:max 0 (max 0 0)+1<=1),rfl,by show(Ew y&&(true&&true))=true;rw[b];rfl⟩;cases e:UI hs y with
   |none=>exact d
   |some o =>
    cases o with
    |none=>exact d
    |some u=>exact⟨by show(Ew y&&(Ew u&&true))=true;rw[b,c u e];rfl,(by decide:max 0 (max 0 0)+1<=1),rfl,by show(Ew y&&(Ew u&&true))=true;rw[b,c u e];rfl⟩
  refine⟨?_,?_,?_,?_⟩
  .show((CM hs y).canLay0&&EE (ss.map<|CM hs))=true;rw[one.1,g];rfl
  .show max (CM hs y).depth (EK<|ss.map<|CM hs)<=1;lia
  .show(uS (CM hs y)&&qJ (ss.map<|CM hs))=true;rw[one.2.2.1,i];rfl
  .show(U0 (CM hs y)&&xB (ss.map<|CM hs))=true;rw[one.2.2.2,j];rfl
theorem RG {l a b:Da}(h1:a.Perm l)(c:b.Perm l)(d:L6 a=true)(e:L6 b=true):a=b :=
 Jc (le:=Px) (λa b _ _ z q=>vS z q) (j6 d) (j6 e) (h1.trans c.symm)
end
namespace Ci
abbrev st:Stmt:=top 82
theorem sc:zy ["_law_book","_law_state","_law_due","_law_branch","_law_head","_law_told"] ["_law_book","_law_state"] (zF st):=Cz
include T in
theorem ok (F:yc0 K "_law_stands" st f fd)(Za:Met P w K mg base aD 1 "branches" ["self"]<|tW P w K aC aD):zc P w K mg base CA 2 f fd ["_law_book","_law_state"] (rK P w K aC aD):=by
 refine F.ok sc λ_ A _ _ H vs Q E C h=>?_;obtain⟨A,pl,n,g,rfl,⟨S,hs,M,vs,us,q,sl,ml,ul⟩,hg,k⟩:=h;refine⟨_,(zD (Cv (i:=2) sc.nd<|yT zB)<|zD (qS Lb rfl (jL<|zJ (qZ rfl) (by rfl) T.sorted YX<|zA (zM C.zr (pv 1) zz<|λ_ _=>rfl) zB) (z6 (i:=3) sc.nd rfl<|EU rfl)<|zD (Cv (i:=4) sc.nd<|zM C.zr (zM C.zr (pv 1) zz<|λ_ _=>rfl) (pv 3)<|λ_ _=>rfl)<|zE<|yC<|k6 Y1 YY YZ jB (pv 2)<|zA (yR<|zA (pv 3)<|zA (Hv (zP Nz (pv 4) zH<|zO _) (zM C.zr (yB (yx:Cy _<|wU K) (zM C.zr (pv 1) zz<|λ_ _=>rfl)<|pv 4) zz<|λ_ _=>rfl) x9) zB) zB)<|zD (Cv (i:=5) sc.nd<|k7 (pv 0) T.xx Za C.m)<|zD (yC<|k6 Y1 YY YZ jB (zM C.zr (pv 1) zz<|λ_ _=>rfl)<|zA (yR<|zA (pv 5)<|zA (z8 xP (by rfl) T.list Yw<|zA (pv 5) zB) zB) zB)<|zE<|zL<|yK (vK C.units) (pv 5) (pv 2)<|zO _),?_⟩
 obtain⟨as,ek⟩:=BM (g:=CF M) hs;have h4:=q.h4;refine⟨UD 0,λj n0=>nw n0 λH1 u1 h1=>zT ⟨_,rfl,A.t,_,rfl,CB (u1 _ _ q.lw.tb) HQ,A.hh,hkg (CF M) hs,rfl,.inl<|u1 _ _ q.lw.hd,as,by rw[show(hkg (CF M) hs).length=hs.length from Zk ..];lia,λZ ss n1 I so=>nw n1 λH2 u2 h2=>?_⟩⟩;rw[ek]at I;have s2:=u1.trans u2;have ap:ss.length<=4:=by rwa[I.length_eq,Zk]
 have look:∀y∈ss,∃o,UI hs y=some o:=λy D=>Z6.mp<|wu.mpr<|I.mem_iff.mp D;obtain⟨c1,c2,c3,c4⟩:=OY (hs:=hs) (ss:=ss) λy D=>⟨(OX y<|q.iz y<|I.mem_iff.mp D).1,λu e=>Hh q.bk.ok<|kM<|q.bk.hv _ (j8 e) u rfl⟩;have al:j≠Z:=λz=>by rw[<-z,h1]at n1;cases n1
 refine⟨Z,rfl,⟨_,yu.of h2⟩,FL (K:=K) (a:=Z) (xs:=ss.map V.str) (λi σ O=>∃o3 o4 xs,σ=[some<|.ref A.b,some<|.ref A.t,some<|.ref j,o3,o4,none]/\zx H O/\O Z=some (.lst<|ss.map V.str)/\O j=some (.lst xs)/\zu K O ((ss.take i).map<|CM hs) xs) ⟨none,none,[],rfl,s2,h2,u2 _ _ h1,rfl⟩ (λi σ O _ ⟨_,_,_,_,_,e,_⟩=>yu.of e) ?_ ?_⟩
 .rintro i v σ B hv ⟨o3,o4,xs,rfl,J,U,d,R⟩;rw[Zy]at hv;obtain⟨y,D,rfl⟩:=Z0.mp hv;obtain⟨o,ho⟩:=look y<|ZG D;have G:=q.same J;refine zT ⟨_,rfl,A.t,_,rfl,CB G.lw.tb HQ,_,rfl,A.hh,_,rfl,CB G.lw.hd (by rw[vW,ho];rfl),?_⟩;have xl:xs.length<1000:=by
   have:=R.length;rw[Zk,ZS]at this;lia
  have fin:∀{iv:V} {p:Eo},B p=none->∃o3 o4 ad,[some<|V.ref A.b,some<|V.ref A.t,some<|V.ref j,some<|V.str y,some iv,none]=[some<|.ref A.b,some<|.ref A.t,some<|.ref j,o3,o4,none]/\zx H (upd (upd B p<|.tup [.str y,oV o]) j<|.lst<|xs++[.ref p])/\(upd (upd B p<|.tup [.str y,oV o]) j<|.lst<|xs++[.ref p]) Z=some (.lst<|ss.map V.str)/\(upd (upd B p<|.tup [.str y,oV o]) j<|.lst<|xs++[.ref p]) j=some (.lst ad)/\zu K (upd (upd B p<|.tup [.str y,oV o]) j<|.lst<|xs++[.ref p]) ((ss.take<|i+1).map<|CM hs) ad:=λ{iv p} r=>by
   have up:=zG (o:=.tup [.str y,oV o]) r;have hp:=zC (H:=B) (a:=p) (o:=.tup [.str y,oV o]);generalize upd B p (.tup [.str y,oV o])=H4 at up hp ⊢;have n4:=Iw (up _ _ d) (λ_ z=>nomatch z)<|λ_ _ z=>nomatch z;refine⟨_,_,xs++[.ref p],rfl,An.zx.rC (J.trans up) n0,by rw[zI<|EC al];exact up _ _ U,zC,?_⟩;rw[Yi,D,Zx];refine zu.append (zu.off n4 zY _ _ ?_<|zu.same up _ _ R) ⟨_,[],rfl,⟨p,_,rfl,wY.of (by rw[zI (λz=>by rw[z]at r;rw[r]at d;cases d)];exact hp),_,_,rfl,rfl,_,_,rfl,?_,rfl⟩,rfl⟩
   .exact(OY λy D=>⟨(OX y<|q.iz y<|I.mem_iff.mp<|Jf D).1,λu e=>Hh q.bk.ok<|kM<|q.bk.hv _ (j8 e) u rfl⟩).2.2.2
   .rw[ho];exact aH o
  refine⟨_,rfl,.inl ⟨rfl,_,yu.of d⟩,_,rfl,_,rfl,?_⟩;cases o with
  |none=>exact⟨_,_,rfl,rfl,_,rfl,GB (by decide) ⟨UD 2,λp r=>⟨j,xs,_,rfl,rfl,zG r _ _ d,yJ<|by lia,fin r⟩⟩⟩
  |some u =>
   obtain⟨a,x,ai,hx,rfl,c,l,Dm,hv,_⟩:=G.lw.ver<|q.bnd ho u rfl;exact⟨_,_,rfl,rfl,_,rfl,FR (Ue _) ⟨_,rfl,A.t,_,rfl,CB G.lw.tb Xe,_,rfl,A.md,_,_,_,rfl,rfl,yu.of G.lw.md,ai,a,_,rfl,CB hv rfl,UD 2,λp r=>⟨j,xs,_,rfl,rfl,zG r _ _ d,yJ<|by lia,fin r⟩⟩⟩
 .rintro σ B ⟨o3,o4,xs,rfl,J,U,d,R⟩;rw[Zk,ZV]at R;have G:=q.same J;obtain⟨dx,hb⟩:=G.bk.ob;refine⟨_,rfl,A.b,dx,_,rfl,hb,rfl,A.b,A.a,A.h,A.fp,S,hs,rfl,G.bk,by lia,λl2 au ys H4 s4 n2 h4 am an ah=>zT ?_⟩;obtain rfl:=RG I am so an;have s:=J.trans s4;have q4:=q.same s;refine⟨_,rfl,A.t,_,rfl,CB q4.lw.tb RD,.inl ⟨rfl,_,yu.of q4.lw.hl⟩,_,rfl,_,rfl,l2,_,rfl,.inl<|yu.of h4,λl3 n3=>nw n3 λH5 L h5=>⟨UD 2,λp r=>nw r λH6 N h6=>?_⟩⟩;have s6:=s.trans<|L.trans N;have q6:=q.same s6;refine⟨A.hl,us.map V.ref,_,rfl,rfl,q6.lw.hl,yJ (by rw[Zk];lia),?_⟩;have ab:=Iw q6.lw.hl (λ_ z=>nomatch z)<|λ_ _ z=>nomatch z;have ne:∀{c},H c=none->c∉[A.hl]:=λhc z=>by rw[Zl.mp z,q.lw.hl]at hc;cases hc
  have of:=zY (H:=H6) (c:=A.hl) (o:=.lst<|us.map V.ref++[.ref p]);have hh:=zC (H:=H6) (a:=A.hl) (o:=.lst<|us.map V.ref++[.ref p]);have e2:=J.free n2;have e3:=s.free n3;have ep:=(s.trans L).free r;generalize upd H6 A.hl (.lst<|us.map V.ref++[.ref p])=H7 at of hh ⊢;have d2:zu K H7 (ss.map<|CM hs) ys:=zu.off ab of _ _ c4<|zu.same (L.trans N) _ _ ah;have d0:zu K H7 (ss.map<|CM hs) xs:=zu.off ab of _ _ c4<|zu.same (s4.trans<|L.trans N) _ _ R;have sh:EW (.list<|ss.map<|CM hs)=true:=GV (show EE (ss.map<|CM hs)=true from c1) (by show EK (ss.map<|CM hs)+1<=60;lia);have ev:EM (.list<|ss.map<|CM hs) (.list<|ss.map<|CM hs)=true:=Xy _ c3;have Y:=of _ _ (ne e2)<|(L.trans N) _ _ h4;refine⟨_,rfl,_,rfl,.list<|ss.map<|CM hs,.list<|ss.map<|CM hs,⟨l2,_,rfl,yu.of Y,d2⟩,⟨j,_,rfl,yu.of<|of _ _ (ne n0)<|(s4.trans<|L.trans N) _ _ d,d0⟩,sh,sh,?_⟩;rw[ev];have ac:Off [A.hl] H H7:=λc o nc e=>of _ _ nc<|s6 _ _ e;exact k _ ac ⟨S,hs,M,vs,us++[p],q.held ac hh (wY.of<|of _ _ (ne ep) h6) e2 e3 ⟨nofun,nofun,.inr ⟨ys,_,Y,of _ _ (ne e3)<|N _ _ h5,d2,c4,sh,ev⟩⟩,sl,ml,by rw[ZB];exact Jp ul⟩
end Ci
inductive lY (K:Cq)(vs:Dj)(H:Hp)(Q:VK)(e3:XK):Prop
 |mk (cf ls:Eo) (Dm:Dl) (fs:Dk) (pl:List Da) (c:Int) (b:Bool) (h0:vs=[.ref cf,.ref ls,.int c,.bl b]) (h1:H cf=some (.dK Dm)) (h2:yp K H fs Dm) (h3:wj pl fs) (h4:Ps pl) (h5:yu K H ls<|pl.map λp=>V.str<|Cs p) (h6:∀e ke gs H',zx H H'->H e=none->H' e=some (.dK ke)->yp K H' gs ke->wj pl gs->Q (.ref e) H'):lY K vs H Q e3
inductive mG (P:Er)(w:Eu)(K:Cq)(C D:Eo)(vs:Dj)(H:Hp)(Q:VK)(e3:XK):Prop
 |mk (A:Ad) (pl:List Da) (S:Di) (hs:Hs) (M:List Vn) (us ws:Dd) (c:Int) (h0:vs=[.ref A.b,.ref A.t,.int c]) (h1:Sd P w K C D H A pl S hs M us ws) (h2:∀H',zx H H'->Q (.bl true) H'):mG P w K C D vs H Q e3
section
variable {K:Cq}{H:Hp}{fs:Dk}{Dm:Dl}{pl:List Da}{p:Da}{S:Di}
theorem Ni {s:Str}:∀{fs:Dk} {Dm:Dl},yp K H fs Dm->yp K H (fs.filter λf=>!decide (Cs f.1=s)) (Gv Dm<|.inr s)
 |[],[],h=>h
 |[],_::_,h=>by cases h.keys
 |_::_,[],h=>by cases h.keys
 |f::fs,(k,v)::Dm,h=>by
  have d:=Ni (s:=s) h.tail;obtain⟨l,c,j,e,n⟩:=h.get (i:=0) (k:=k) (v:=v) rfl;have c:f=l:=Option.some.inj c;subst c j;unfold Gv at d ⊢;rw[JI,JI]
  by_cases z:Cs f.1=s
  .rwa[Zq z,ZH<|by simp,ZH<|by simp[z]]
  .rw[ZE z,ZK<|by simp,ZK<|by simp[z]];refine⟨by rw[ZL,ZL,d.keys],λi g kv a b=>?_⟩;cases i with
   |zero=>cases a;cases b;exact⟨e,n⟩
   |succ i=>exact d.val i g kv a b
theorem wj.put (h:wj pl fs)(c:p∈pl)(hl:UV ls):wj pl (XS fs (p,ls)):=by
 refine⟨λf b=>?_,?_⟩
 .rcases Ow b with z|z
  .exact h.at_ f z
  .rw[z];exact⟨c,hl⟩
 .rw[K2]
  split
  .exact h.nd
  .exact jM h.nd (by assumption)
theorem wj.sub {b:Dk}(h:wj pl fs)(s:b.Sublist fs):wj pl b:=⟨λf c=>h.at_ f<|s.subset c,List.Nodup.sublist (s.map _) h.nd⟩
theorem Wn (h:46∉cs x):zW S x ["note"]=false:=by
 cases z:zW S x ["note"] with
 |false=>rfl
 |true =>
  obtain⟨e,he,rfl⟩:=Zr.mp<|kM z;exact absurd (by rw[PX];simp) h
end
namespace Cj
abbrev st:Stmt:=top 80
theorem sc:zy ["_law_files","_law_paths_here","_law_cell","_law_cuts","_law_fresh","_law_path"] ["_law_files","_law_paths_here","_law_cell","_law_cuts"] (zF st):=Cz
include T in
theorem ok (F:yc0 K "_law_changed" st f fd)(M:wV P w K mg base 2 "_law_lines" ["_law_cell"] HX):zc P w K mg base CA 3 f fd ["_law_files","_law_paths_here","_law_cell","_law_cuts"] (lY K):=by
 refine F.ok sc λ_ _ _ _ H vs Q E I h=>?_;obtain⟨C,L,x,fs,o,c,b,rfl,hc,ff,n,u,A,k⟩:=h;refine⟨_,(zD (Cv (i:=4) sc.nd<|z8 jD (by rfl) T.dict YR<|zA (pv 0) zB)<|zD (Cv (i:=5) sc.nd<|yB (yx:Cy _<|wU K) (pv 1)<|zV yN (pv 2) zH)<|xQ (yG (zU (K:=K)<|pv 3) (zE<|yC<|Re (pv 4) (pv 5) x9 ⟨rfl,rfl,rfl,rfl⟩)<|zE<|yZ I.zr (pv 4) (pv 5) (zK M I.m<|zA (zV xX (pv 2) zH) zB) rfl)<|zE<|zL<|pv 4),?_⟩
 obtain⟨p,G,ap⟩:∃p∈o,CO (o.map λp=>V.str<|Cs p) (c % 6)=some (.str<|Cs p):=by
  have Z:=u.len;obtain⟨j,N⟩:=Yn (show 0<=c % 6 by lia);have D:j<o.length:=by lia
  exact⟨o[j],Yo D,by rw[N];exact yA (by rw[Zy,Zv D];rfl)⟩
 have lb:=u.lb p G;have R:=n.good u;have Y:=(n.len u).1;refine⟨_,rfl,C,x,rfl,.inl hc,λe ne=>nw ne λU g h1=>zT ⟨_,rfl,_,rfl,_,_,rfl,rfl,(by decide:(0:Int)<6),L,_,_,_,rfl,rfl,g.seq A,ap,?_⟩⟩;refine zT ⟨λr y=>r=[some<|.ref C,some<|.ref L,some<|.int c,some<|.bl b,some<|.ref e,some<|.str<|Cs p]/\zx H y/\∃t s,y e=some (.dK t)/\yp K y s t/\wj o s,⟨_,rfl,b,rfl,?_⟩,?_⟩
 .cases b with
  |true=>exact UF ⟨_,rfl,e,rfl,.inl ⟨_,.inl h1⟩,_,rfl,x,.inr<|Cs p,h1,rfl,λv hv=>⟨rfl,An.zx.rC g ne,_,_,zC,Ni<|(ff.same g).off (yF h1) zY,n.sub List.filter_sublist⟩,λ_=>⟨rfl,g,_,_,h1,ff.same g,n⟩⟩
  |false =>
   refine UC ⟨_,rfl,_,_,rfl,rfl,⟨by decide,by decide⟩,_,rfl,λq d B l S J=>⟨_,rfl,_,rfl,e,_,rfl,.inl ⟨x,.inr<|Cs p,l _ _ h1,rfl,yJ (by rw[ff.len];lia),rfl⟩,rfl,An.zx.rC (g.trans l) ne,_,_,zC,((ff.same<|g.trans l).put R (f:=(p,d)) lb.1 lb.2.2 ⟨q,_,rfl,wY.of S,zu.strs _⟩ J).off (yF<|l _ _ h1) zY,n.put G J⟩⟩
 .rintro r B ⟨rfl,l,t,s,he,O,z⟩;exact⟨_,rfl,k e t s B l ne he O z⟩
end Cj
namespace Ck
abbrev st:Stmt:=top 79
theorem sc:zy ["_law_book","_law_state","_law_cell","_law_wrong","_law_e"] ["_law_book","_law_state","_law_cell"] (zF st):=Cz
include T in
theorem ok (F:yc0 K "_law_no_files" st f fd)(Qx:wz P w K mg base 7 "tree_of" ["store","name"]<|tR P w K aC b5<|λt _=>t)(Y:wK P w K mg base aD 16 "files" ["self","version"]<|vo P w K aC aD b5)(Z:oO P w K mg base 1 "_law_word" ["_law_e"]<|BY b5 b2 b6 b7):zc P w K mg base CA 17 f fd ["_law_book","_law_state","_law_cell"] (mG P w K aC aD):=by
 refine F.ok sc λ_ A _ _ H vs Q E o h=>?_;obtain⟨A,pl,S,hs,M,us,ws,c,rfl,q,k⟩:=h;refine⟨_,(zD (Cv (i:=3) sc.nd<|yB (yx:Cy _<|wU K) (yT<|zA zz<|zA zz<|zA zz zB)<|zV yN (pv 2) zH)<|xQ (yG (PW.pt<|jC (zP (P6 o.vq) (zM o.zr (pv 1) zz<|λ_ _=>rfl) (yT zB)<|zO _)<|qU<|zP xH (zV yN (pv 2) zH) zH<|zO _) (zE<|Cv (i:=3) sc.nd<|yQ Qx o.m zX<|zA (yP (pv 0) rfl)<|zA (zM o.zr (yB (yx:Cy _<|wU K) (zM o.zr (pv 1) zz<|λ_ _=>rfl) zH) zz<|λ_ _=>rfl) zB) zR)<|zD (BR rfl rfl rfl (λ_ _=>(zE<|yC<|yE (pv 0) T.xx Y o.m (xY rfl)<|zA (pv 3) zB)) rfl T.uo sc.nd (i:=4) rfl rfl (λz=>(zE<|zL<|yK xH (IK (z:=z) Z (o.m.h.mark _) rfl<|zA (pv 4) zB) zz<|zO _))) (zE<|zL qN)),?_⟩
 obtain⟨R,a0,d0⟩:∃x,CO [V.str "nosuch",V.str "",V.str "T"] (c % 3)=some (.str x)/\46∉cs x:=by
  have:c % 3=0\/c % 3=1\/c % 3=2:=by lia
  rcases this with e|e|e<;>rw[e]
  .exact⟨"nosuch",rfl,by decide+kernel⟩
  .exact⟨"",rfl,by decide+kernel⟩
  .exact⟨"T",rfl,by decide+kernel⟩
 refine⟨UD 3,λl nl=>nw nl λH1 N h1=>⟨_,rfl,_,_,rfl,rfl,(by decide:(0:Int)<3),l,_,_,_,rfl,rfl,yu.of h1,a0,?_⟩⟩;have J:=q.same N;refine zT ⟨λd r=>∃x,d=[some<|.ref A.b,some<|.ref A.t,some<|.int c,some<|.str x,none]/\zx H r/\zW S x ["note"]=false,⟨_,rfl,A.t,_,rfl,CB J.lw.tb Xe,UD 0,λl0 n0=>nw n0 λU O h2=>⟨A.md,l0,_,rfl,rfl,yu.of<|O _ _ J.lw.md,yu.of h2,_,rfl,?_⟩⟩,?_⟩
 .rintro d H3 ⟨x,rfl,L,I⟩;have D:=q.bk.same L;obtain⟨s,hb⟩:=D.ob;refine⟨λd r cls=>d=[some<|.ref A.b,some<|.ref A.t,some<|.int c,some<|.str x,none]/\cls=.ref b5/\zx H r,⟨_,rfl,A.b,s,_,rfl,hb,rfl,_,rfl,A.b,A.a,A.h,A.fp,S,hs,.str x,_,rfl,D,rfl,λe he t ps y g u=>?_,λ_=>⟨rfl,rfl,L⟩⟩,?_⟩
  .injection g with g;rw[Tn ⟨e,he,g.symm,u⟩]at I;cases I
  .rintro d r cls z ⟨rfl,rfl,s4⟩ nz;refine⟨T.gR b5<|by simp,_,rfl,b5,rfl,zC,by simp,λH5 s5=>?_⟩;rw[show Ox b5 b2 b6 b5="version" from ZK rfl];exact⟨rfl,k _<|(s4.trans<|zG nz).trans s5⟩
 .have C:=N.trans O;have p:=q.same C;have keep:∃x,[some<|V.ref A.b,some<|.ref A.t,some<|.int c,some<|.str R,none]=[some<|V.ref A.b,some<|.ref A.t,some<|.int c,some<|.str x,none]/\zx H U/\zW S x ["note"]=false:=⟨R,rfl,C,Wn d0⟩;cases B:us with
  |nil=>exact UC<|UC keep
  |cons v us' =>
   refine UF ⟨_,rfl,_,_,rfl,rfl,(by decide:(0:Int)<2),rfl,_,rfl,UM (λ_=>?_) λ_=>keep⟩;obtain⟨x,G⟩:∃x,M[0]?=some x:=by
    have:=q.lw.vl;rw[B]at this;exact⟨_,Zv (by rw[<-this];exact Nat.succ_pos _)⟩
   obtain⟨t,nt⟩:=q.mv.nt x<|ZG G;obtain⟨cx,lx,kx,hv,_⟩:=p.lw.ve 0 v x (by rw[B];rfl) G;obtain⟨s,hb⟩:=p.bk.ob;have md:=p.lw.md;rw[B]at md;refine⟨_,rfl,A.b,aD,s,_,_,rfl,hb,T.xx,T.m1,rfl,_,rfl,A.t,_,rfl,CB p.lw.tb Xe,A.md,_,_,_,rfl,rfl,yu.of md,yA (j:=0)<|by rfl,v,_,rfl,CB hv rfl,A.a,A.fp,S,.str x.n,_,rfl,p.bk.sh,q.bk.ok.th,rfl,λe he t' ab y' g u=>?_,λz=>?_⟩
   .injection g with g;have:=At.thing q.bk.ok nt.nt ⟨e,he,g.symm,u⟩;injection this with i1 _ _;obtain⟨Do,tr⟩:=nt.tr;exact⟨t',rfl,C,i1▸Fb q.bk.ok tr NR⟩
   .rw[show UL S (.str x.n) "note"=zW S x.n ["note"] from rfl,Tn nt.nt]at z;cases z
end Ck
inductive mL (P:Er)(w:Eu)(K:Cq)(C z:Eo)(vs:Dj)(H:Hp)(Q:VK)(e3:XK):Prop
 |mk (a:Eo) (fp:Dd) (S:Di) (cls:Ep) (h0:vs=[.ref a]) (h1:yo P w K C H a fp S) (h2:H z=some (UW z cls)) (h3:∀l,H l=none->Q (.ref l) (upd H l<|.lst<|S.map λe=>V.str e.nm)):mL P w K C z vs H Q e3
inductive mV (P:Er)(w:Eu)(K:Cq)(C D:Eo)(vs:Dj)(H:Hp)(Q:VK)(e3:XK):Prop
 |mk (A:Ad) (pl:List Da) (S:Di) (hs:Hs) (M:List Vn) (us ws:Dd) (x:Str) (ls:Eo) (c:Int) (h0:vs=[.ref A.b,.ref A.t,.str x,.ref ls,.int c]) (h1:Sd P w K C D H A pl S hs M us ws) (h2:Ps pl) (h3:(UI hs x).isSome=true) (h4:yu K H ls<|pl.map λp=>V.str<|Cs p) (h5:∀H',zx H H'->Q (.bl true) H'):mV P w K C D vs H Q e3
def qm (K:Cq)(H0 H:Hp)(v:V):Prop:=(∃d,Dw K H d v/\(U1 d=="dict")=false)\/∃c b ps,v=.ref c/\H c=some (.dK b)/\yh K H ps b/\(∀p∈ps,xJ p.2=true)/\ps.length<=100/\UY ps=false/\H0 c=none
section
variable {K:Cq}{H0 H H':Hp}{v:V}{k1 k2:Str}{v1 v2:V}{d1 d2:Ey}{c:Eo}
theorem qm.same (h:qm K H0 H v)(s:zx H H'):qm K H0 H' v:=by
 rcases h with⟨d,h1,h2⟩|⟨c,Dm,ps,h1,h2,h3,h4⟩
 .exact .inl ⟨d,Dw.same s _ _ h1,h2⟩
 .exact .inr ⟨c,Dm,ps,h1,s _ _ h2,h3.same s,h4⟩
theorem Wk (ne:k1≠k2):x8 [] [((.inr k1:Key),v1),(.inr k2,v2)]=[(.inr k1,v1),(.inr k2,v2)]:=by
 show yt [((.inr k1:Key),v1)] (.inr k2) v2=_;exact jV<|λz=>ne (Sum.inr.inj<|Zl.mp z).symm
theorem R6 (i:H0 c=none)(hc:H c=some (.dK<|x8 [] [((.inr k1:Key),v1),(.inr k2,v2)]))(ne:k1≠k2)(h1:Dw K H d1 v1)(g:Dw K H d2 v2)(e:xJ d1=true)(f:xJ d2=true)(j:small (.str k1)=true)(l:small (.str k2)=true)(n:small d1=true)(o:small d2=true)(b:UY [(.inr k1,d1),(.inr k2,d2)]=false):qm K H0 H (.ref c):=by
 rw[Wk ne]at hc;refine .inr ⟨c,_,[(.inr k1,d1),(.inr k2,d2)],rfl,hc,⟨_,_,rfl,h1,j,n,_,_,rfl,g,l,o,rfl⟩,λp d=>?_,by simp,b,i⟩;simp only[Zo,ZD,Ye]at d
 rcases d with rfl|rfl
 .exact e
 .exact f
@[elab_as_elim] theorem su {D5:Hp->Prop} {o:HO} {p:Eo} (s0:zx H0 H) (n1:H c=none) (n2:(upd H c<|.dK []) p=none) (ne:k1≠k2) (h1:∀{H'},zx H H'->Dw K H' d1 v1) (h2:∀H',H' p=some o->Dw K H' d2 (.ref p)) (f1:xJ d1=true) (f2:xJ d2=true) (s1:small (.str k1)=true) (s2:small (.str k2)=true) (s3:small d1=true) (s4:small d2=true) (b:UY [(.inr k1,d1),(.inr k2,d2)]=false)
  (k:∀H2,zx H H2->qm K H0 H2 (.ref c)->D5 H2):D5 (upd (upd (upd H c<|.dK []) p o) c<|.dK<|x8 [] [((.inr k1:Key),v1),(.inr k2,.ref p)]):=by
 have s:=An.zx.rC (o:=.dK<|x8 [] [((.inr k1:Key),v1),(.inr k2,.ref p)]) ((zG n1).trans<|zG (o:=o) n2) n1;have np:p≠c:=λz=>by rw[z,zC]at n2;cases n2
 exact k _ s (R6 (s0.free n1) zC ne (h1 s) (h2 _<|by rw[zI np,zC]) f1 f2 s1 s2 s3 s4 b)
theorem P3:∀k:Fin 1000,UK (E7 ((k.val:Nat):Int):Str)=true/\(((k.val:Nat):Int)).natAbs.log2<1920:=by decide+kernel
theorem IP (c:Int):UK (E7 (c % 1000):Str)=true/\(c % 1000).natAbs.log2<1920:=by
 obtain⟨j,b⟩:=Yn (show 0<=c % 1000 by lia);rw[b];exact P3 ⟨j,by lia⟩
end
namespace Cl
abbrev st:Stmt:=inClass (top 48) 7
theorem sc:zy ["self"] ["self"] (zF st):=Cz
include T in
theorem ok (F:yc K "names" "Shelf.names" st f fd):sW P w K mg base 1 f fd ["self"] (mL P w K aC):=by
 refine F.okE sc (λz o H Q E h=>?_)<|λz c A outer s H o Q E C hh h=>?_
 .obtain⟨a,fp,S,cls,rfl,_⟩:=h;rfl
 .obtain⟨a,fp,S,cls,rfl,sh,j,k⟩:=h;refine⟨_,(zE<|zL<|z8 (Kn hh) (by rfl) T.list Yw<|zA (yP (pv 0) rfl) zB),?_⟩;obtain⟨g,i,d,p,q,b,nx,rfl,nd,h1,r,t,h4,u,v,x,y,B⟩:=sh;refine⟨_,rfl,a,aC,i,_,_,rfl,h1,T.cls,T.n1,rfl,d,_,cls,rfl,.inl h4,j,λl n=>?_⟩;have e:(((S.zip b).map λe=>((ED e.1.nm:Key),V.ref e.2)).map λkv=>kV kv.1)=S.map λe=>V.str e.nm:=by
   rw[ZM];have:(S.zip b).map (·.1)=S:=Ve (by lia)
   conv=>rhs;rw[<-this]
   rw[ZM];rfl
  rw[e];exact k l n
end Cl
section
variable {ps:List (Key×Ey)}{q:Key×Ey}{p:Da}{k m:Str}
theorem jb:MulOk "w" 21/\UZ (.str<|Txt.mul "w" 21)=false/\small (.str<|Txt.mul "w" 21)=true:=⟨⟨by decide,λ_ _=>by decide+kernel,λ_ _=>by decide+kernel⟩,by decide+kernel,by decide+kernel⟩
theorem TZ:∀y∈mR,(y++"nosuch":Str)∉mR/\y.length<=10/\("nosuch":Str).length<=10:=by decide+kernel
theorem XJ (h:Kj p):(Cs p).length<=50:=by
 have:=Ib h.2.2;have:=h.2.1;rw[zf];lia
theorem P4 (h:Kj p)(hl:UV ls):yj 4 [(p,ls)]:=by
 refine⟨λf b=>?_,by simp,λf b k hk t e=>?_⟩
 .rw[Zl.mp b];exact⟨h.1,h.2.1,h.2.2,hl⟩
 .rw[Zl.mp b,Zl.mp hk]at e;exact Vw (bs:=t) (cs:=[]) (by rw[Z2];exact e.symm)
theorem Gg (b:q∈ps)(h:Gw q=false):UY ps=false:=by
 unfold UY;rw[List.all_eq_false.mpr ⟨q,b,by rw[h];simp⟩];rfl
theorem NX (h1:(.inr k:Key)∈ps.map (·.1))(b:q∈ps)(e:q.1=.inr (k++"/"++m)):UY ps=false:=by
 unfold UY;rw[Bool.and_eq_false_iff];refine .inr<|List.all_eq_false.mpr ⟨q,b,?_⟩;rw[e,show uO (ps.map (·.1)) (.inr<|k++"/"++m)=true from Z8.mpr ⟨k,mQ.mpr<|Ra k m,tH.mpr h1⟩];simp
end
namespace Cm
abbrev st:Stmt:=top 78
theorem sc:zy ["_law_book","_law_state","_law_branch","_law_paths_here","_law_cell","_law_good","_law_bad","_law_words_here","_law_pick","_law_names","_law_due","_law_e"] ["_law_book","_law_state","_law_branch","_law_paths_here","_law_cell"] (zF st):=Cz
include T in
theorem ok (F:yc0 K "_law_refused" st f fd)(Qd:Met P w K mg base aC 1 "names" ["self"]<|ug P w K aC)(Qh:wK P w K mg base aD 14 "keep" ["self","branch","files","words"]<|rZ P w K aC aD b2 b6 b7)(Ql:oO P w K mg base 1 "_law_word" ["_law_e"]<|BY b5 b2 b6 b7)(G:jh P w K mg base aC 1 "names" ["self"]<|mL P w K aC):zc P w K mg base CA 15 f fd ["_law_book","_law_state","_law_branch","_law_paths_here","_law_cell"] (mV P w K aC aD):=by
 refine F.ok sc λ_ A _ s H vs Q E R h=>?_;obtain⟨A,pl,S,hs,M,us,ws,x,C,c,rfl,q,J,hx,a7,k⟩:=h;refine⟨_,(zD (Cv (i:=5) sc.nd<|yR<|zA zz<|zA (z8 x6 (by rfl) T.str Z7<|zA (zV yN (pv 4) zH) zB) zB)<|zD (Cv (i:=6) sc.nd<|yT<|zA (jN (yI (yB (yx:Cy _<|wU K) (pv 3) zH) (pv 5)<|yI (zV zZ (zV zZ (yB (yx:Cy _<|wU K) (pv 3) zH) zz)<|yB (yx:Cy _<|wU K) (pv 3) zH) (yR zB) jP) rfl rfl (by simp)<|by decide)<|zA (jN (yI (yB (yx:Cy _<|wU K) (pv 3) zH) (pv 5)<|yI zz (yR zB) jP) rfl rfl (by simp)<|by decide) zB)<|zD (Cv (i:=6) sc.nd<|zV XB (pv 6)<|yT<|zA (jN (yI (yB (yx:Cy _<|wU K) (pv 3) zH) (pv 5)<|yI (yB (yx:Cy _<|wU K) (pv 3) zH) (yT<|zA zz zB) jP) rfl rfl (by simp)<|by decide)<|zA (yT<|zA (yB (yx:Cy _<|wU K) (pv 3) zH) zB)<|zA (jN (yI (yB (yx:Cy _<|wU K) (pv 3) zH) (pv 5)<|yI (yB (yx:Cy _<|wU K) (pv 3) zH) (yR<|zA zz zB) jP) rfl rfl (by simp)<|by decide) zB)<|zD (Cv (i:=7) sc.nd<|yT<|zA (zV Sw zz zH)<|zA x9<|zA zz<|zA zH zB)<|zD (Cv (i:=8) sc.nd<|zV yN (pv 4) zH)<|zD (Cv (i:=9) sc.nd<|z8 xP (by rfl) T.list Yw<|zA (k7 (yP (zM R.zr (pv 1) zz<|λ_ _=>rfl) rfl) T.cls Qd R.m) zB)<|zD (Cv (i:=10) sc.nd zz)<|zD (BR rfl rfl rfl (λ_ _=>(zE<|yG (zP G1 (pv 8) zH<|zO _) (zD (Cv (i:=10) sc.nd zz)<|zE<|yC<|yE (pv 0) T.xx Qh R.m (xY rfl)<|zA (pv 2)<|zA (yB (yx:Cy _<|wU K) (pv 6)<|pv 8)<|zA (yB (yx:Cy _<|wU K) (yT<|zA zz<|zA x9 zB)<|zV yN (zV xX (pv 4) zH) zH) zB)<|zE<|yG (zP G1 (pv 8) zH<|zO _) (zD (Cv (i:=10) sc.nd zz)<|zE<|yC<|yE (pv 0) T.xx Qh R.m (xY rfl)<|zA (pv 2)<|zA (jN (yI (yB (yx:Cy _<|wU K) (pv 3) zH) (yR<|zA zz<|zA (z8 x6 (by rfl) T.str Z7<|zA (zV yN (pv 4) zH) zB) zB) jP) rfl rfl (by simp)<|by decide)<|zA (yB (yx:Cy _<|wU K) (pv 7)<|zV P9 (pv 8) zH) zB)<|zE<|yC<|yE (pv 0) T.xx Qh R.m (xY rfl)<|zA (zV zZ (pv 2) zz)<|zA (jN (yI (yB (yx:Cy _<|wU K) (pv 3) zH) (yT<|zA zz zB) jP) rfl rfl (by simp)<|by decide)<|zA zz zB)) rfl T.uo sc.nd (i:=11) rfl rfl (λz=>(zE<|zL<|y8 (yK xH (IK (z:=z) Ql (R.m.h.mark _) rfl<|zA (pv 11) zB) (pv 10)<|zO _)<|xU<|yK (vK R.units) (Rg (z:=z) (yP (pv 0) rfl) T.cls G (R.m.h.mark _) rfl) (pv 9)<|zO _))) (zE<|zL qN)),?_⟩
 obtain⟨nl,U⟩:=IP c;obtain⟨p0,p1,B,l1,am,O,a1⟩:∃p0 p1,Kj p0/\Kj p1/\p0≠p1/\CO (pl.map λp=>V.str<|Cs p) 0=some (.str<|Cs p0)/\CO (pl.map λp=>V.str<|Cs p) 1=some (.str<|Cs p1):=by
  match pl,J with
  |p0::p1::r,J =>
   have nd:=J.nd;simp only[ZY,Zo,Vr]at nd;exact⟨p0,p1,J.lb _<|by simp,J.lb _<|by simp,nd.1.1,yA (j:=0) rfl,yA (j:=1) rfl⟩
  |[_],J=>have:=J.len;cases this
  |[],J=>have:=J.len;cases this
 refine⟨_,rfl,_,_,rfl,rfl,(by decide:(0:Int)<1000),_,rfl,U,UD 2,λpg ng=>nw ng λH1 u1 h1=>zT ?_⟩;have e0:=XJ B;have e1:=XJ l1;have sl:("/":Str).length=1:=by decide+kernel
 have L:∀{g},zx H g->yu K g C (pl.map λp=>V.str<|Cs p):=λs=>s.seq a7;refine λc0 I=>?_;refine⟨_,rfl,C,_,_,_,rfl,rfl,L<|u1.trans<|zG I,O,_,rfl,_,rfl,C,_,_,_,rfl,rfl,L<|u1.trans<|zG I,O,_,_,rfl,rfl,zp<|by lia,_,rfl,C,_,_,_,rfl,rfl,L<|u1.trans<|zG I,a1,_,_,rfl,rfl,zp (by rw[LA];lia),UD 0,λpe ne=>?_⟩;have ps:∀{p},Kj p->small (.str<|Cs p)=true:=λh=>Zq (by have:=XJ h;lia);have gd:∀{g},zx H1 g->Dw K g (.tuple [.str "kept",.str (E7 (c % 1000):Str)]) (.ref pg):=λs=>Dt.dw ⟨pg,_,rfl,wY.of<|s _ _ h1,_,_,rfl,rfl,_,_,rfl,rfl,rfl⟩;have gs:small (.tuple [.str "kept",.str (E7 (c % 1000):Str)])=true:=by
  show(decide (2<=1000)&&(decide ((("kept":Str)).length<=1000)&&(decide ((E7 (c % 1000):Str).length<=1000)&&true)))=true;rw[Zq<|show(E7 (c % 1000):Str).length<=1000 from(j5 nl).len]
  decide+kernel
 have tp:∀{g:Hp} {a:Eo} {ds:Da},g a=some (.tup<|ds.map V.str)->Dw K g (.tuple<|ds.map .str) (.ref a):=λh=>Dt.dw ⟨_,_,rfl,wY.of h,zu.strs _⟩;refine⟨(zG ne) _ _ zC,[(.inr<|Cs p0,.ref pg),(.inr<|Cs p0++"/"++Cs p1,.ref pe)],rfl,by simp,su (H0:=H) u1 I ne (λz=>by have:=congrArg Str.length z;rw[LA,LA,sl]at this;lia) gd (λg h=>tp (ds:=[]) h) rfl rfl (ps B) (Zq (by rw[LA,LA];lia)) gs rfl (NX (k:=Cs p0) (m:=Cs p1) (by simp) (Zn _<|Zl.mpr rfl) rfl) λH2 s2 B0=>?_⟩;have ah:=u1.trans s2;refine λc1 an=>⟨_,rfl,C,_,_,_,rfl,rfl,L<|ah.trans<|zG an,O,_,rfl,UD 0,λpe ne=>?_⟩;refine⟨(zG ne) _ _ zC,[(.inr<|Cs p0,.ref pg),(.inr "A",.ref pe)],rfl,by simp,su (H0:=H) ah an ne (λz=>?_) (λs=>gd<|s2.trans s) (λg h=>tp (ds:=[]) h) rfl rfl (ps B) (by decide+kernel) gs rfl (Gg (q:=(.inr "A",.tuple [])) (by simp)<|by decide+kernel) λH3 Y B1=>?_⟩
 .have:Hu (Cs p0)=true:=Bi B.1 B.2.1 B.2.2;rw[z]at this;exact absurd this (by decide+kernel)
 have co:=ah.trans Y;refine⟨UD 2,λlb bm=>nw bm λH4 u4 h4=>zT ?_⟩;have s4:=co.trans u4;have g4:=(s2.trans Y).trans u4;refine⟨_,rfl,λc2 ac=>⟨_,rfl,C,_,_,_,rfl,rfl,L<|s4.trans<|zG ac,a1,_,rfl,_,rfl,C,_,_,_,rfl,rfl,L<|s4.trans<|zG ac,O,UD 1,λpe ne=>⟨(zG ne) _ _ zC,[(.inr<|Cs p1,.ref pg),(.inr<|Cs p0,.ref pe)],rfl,by simp,su (H0:=H) s4 ac ne (λz=>am<|jR (d:=0) B.1 l1.1 B.2.2 l1.2.2 z.symm) (λs=>gd<|g4.trans s) (d2:=.list [.str "a"]) (λg h=>Dt.dw ⟨_,_,rfl,yu.of h,zu.strs ["a"]⟩) rfl rfl (ps l1) (ps B) gs (by decide+kernel) (Gg (q:=(.inr<|Cs p0,.list [.str "a"])) (by simp) ?_) λH5 s5 B2=>?_⟩⟩⟩
 .show(U3 _&&false)=false;rw[Jt]
 have ap:=s4.trans s5;refine⟨_,rfl,C,_,_,_,rfl,rfl,L ap,O,UD 1,λl3 bl=>nw bl λH6 u6 h6=>?_⟩;have s6:=ap.trans u6;have g6:=(g4.trans s5).trans u6;refine λc4 ad=>⟨_,rfl,C,_,_,_,rfl,rfl,L<|s6.trans<|zG ad,O,_,rfl,_,rfl,C,_,_,_,rfl,rfl,L<|s6.trans<|zG ad,a1,UD 1,λpe ne=>⟨(zG ne) _ _ zC,[(.inr<|Cs p0,.ref pg),(.inr<|Cs p1,.ref pe)],rfl,by simp,su (H0:=H) s6 ad ne (λz=>am<|jR (d:=0) B.1 l1.1 B.2.2 l1.2.2 z) (λs=>gd<|g6.trans s) (λg h=>tp (ds:=["\n"]) h) rfl rfl (ps B) (ps l1) gs (by decide+kernel) (Gg (q:=(.inr<|Cs p1,.tuple [.str "\n"])) (by simp) ?_) λH7 s7 B4=>?_⟩⟩
 .show(U3 _&&jE _)=false;rw[show jE (.tuple [.str "\n"])=false by decide+kernel,Jt]
 have cp:=s6.trans s7;have t7:=((s5.trans u6).trans s7);refine⟨UD 3,λlc bt=>nw bt λH8 u8 h8=>⟨lb,lc,_,_,rfl,rfl,u8 _ _<|t7 _ _ h4,h8,UD 5,λld ca=>nw ca λH9 u9 h9=>zT ?_⟩⟩;have s9:=cp.trans<|u8.trans u9;have t9:=u8.trans u9;refine⟨_,_,rfl,rfl,jb.1,UD 4,λlw cl=>nw cl λHA uA hA=>zT ⟨_,rfl,_,_,rfl,rfl,(by decide:(0:Int)<10),zT ?_⟩⟩;have sA:=s9.trans uA;have qA:=q.same sA;obtain⟨a3,a8⟩:=qA.tk.ob;obtain⟨Z,_,_,_,ab⟩:=HS qA.tk.sh;refine⟨_,rfl,A.t,_,rfl,CB qA.lw.tb RE,A.tw,aD,a3,_,_,rfl,a8,T.xx,T.m1,rfl,A.a',Z,_,rfl,ab,rfl,A.a',A.fp',S,rfl,qA.tk.sh,λln cf=>?_⟩;rw[X7];refine nw cf λHB uB hB=>⟨ln,_,rfl,.inl<|yu.of hB,λlm cd=>nw cd λHC uC hC=>zT ?_⟩;have sC:=sA.trans<|uB.trans uC;have tC:=t9.trans<|uA.trans<|uB.trans uC;have qC:=q.same sC;have a4:=(uA.trans<|uB.trans uC) _ _ h9;have a5:=(uB.trans uC) _ _ hA;have ax:∀i:Int,0<=i->i<5->∃v,CO ([V.ref c0,.ref c1]++[.ref c2,.ref l3,.ref c4]) i=some v/\qm K H HC v:=λi i0 i5=>by
  have:i=0\/i=1\/i=2\/i=3\/i=4:=by lia
  rcases this with rfl|rfl|rfl|rfl|rfl
  .exact⟨_,yA (j:=0) rfl,B0.same<|((Y.trans u4).trans t7).trans tC⟩
  .exact⟨_,yA (j:=1) rfl,B1.same<|(u4.trans t7).trans tC⟩
  .exact⟨_,yA (j:=2) rfl,B2.same<|(u6.trans s7).trans tC⟩
  .exact⟨_,yA (j:=3) rfl,.inl ⟨.list [.str<|Cs p0],Dt.dw ⟨l3,_,rfl,yu.of<|(s7.trans tC) _ _ h6,zu.strs [Cs p0]⟩,rfl⟩⟩
  .exact⟨_,yA (j:=4) rfl,B4.same tC⟩
 clear B0 B1 B2 B4 h1 h4 h6 h8 gd gs tp hB hA h9;obtain⟨dx,hb⟩:=qC.bk.ob;have dst:=T.dst;have w2:Ox b5 b2 b6 b2="files":=(ZH<|λz=>by simp[z]at dst).trans<|ZK rfl;have w6:Ox b5 b2 b6 b6="line":=(ZH<|λz=>by simp[z]at dst).trans ((ZH<|λz=>by simp[z]at dst).trans<|ZK rfl);have w7:Ox b5 b2 b6 b7="nobranch":=(ZH<|λz=>by simp[z]at dst).trans ((ZH<|λz=>by simp[z]at dst).trans<|ZH<|λz=>by simp[z]at dst);have cv:=q.h4;refine⟨λas g cls=>∃a,as=[some<|.ref A.b,some<|.ref A.t,some<|.str x,some<|.ref C,some<|.int c,some<|.ref pg,some<|.ref ld,some<|.ref lw,some<|.int<|c % 10,some<|.ref lm,some<|.str<|Ox b5 b2 b6 a,none]/\cls=.ref a/\a∈[b5,b2,b6,b7]/\zx H g/\g lm=some (.lst<|(S.map En.nm).map V.str),⟨_,rfl,_,_,rfl,rfl,_,rfl,UM (λi5=>?_)<|λi5=>?_⟩,?_⟩
 .have i5:c % 10<5:=ZI i5;obtain⟨v,av,bv⟩:=ax (c % 10) (by lia) i5;obtain⟨u,au⟩:∃u,CO [V.str "w",V.non] (c / 10 % 2)=some u:=by
   have:c / 10 % 2=0\/c / 10 % 2=1:=by lia
   rcases this with e|e<;>rw[e]
   .exact⟨_,yA (j:=0) rfl⟩
   .exact⟨_,yA (j:=1) rfl⟩
  obtain⟨o,ho⟩:=Z6.mp hx;refine⟨_,rfl,A.b,dx,_,rfl,hb,rfl,_,rfl,_,rfl,_,rfl,ld,_,_,v,rfl,rfl,yu.of a4,av,UD 2,λlu ch=>nw ch λHD uD hD=>⟨_,rfl,_,_,rfl,rfl,⟨by decide,by decide⟩,_,_,rfl,rfl,(by decide:(0:Int)<2),lu,_,_,u,rfl,rfl,yu.of hD,au,A.b,A.a,A.h,A.fp,S,hs,x,v,u,rfl,qC.bk.same uD,by lia,.inr ⟨o,ho,?_⟩⟩⟩
  rcases bv.same uD with⟨d,h1,h2⟩|⟨D,Dm,ps,rfl,h2,h3,h4,h5,h6,h7⟩
  .exact .inl ⟨d,h1,h2,b2,by rw[w2];rfl,rfl,by simp,sC.trans uD,uD _ _ hC⟩
  .exact .inr (.inl ⟨D,Dm,ps,rfl,h2,h3,h4,h5,h6,λg of=>⟨b2,by rw[w2];rfl,rfl,by simp,λb' o' e=>of b' o' (λz=>by rw[Zl.mp z,h7]at e;cases e)<|uD _ _<|sC _ _ e,of _ _ (λz=>by rw[<-Zl.mp z,uD _ _ hC]at h2;cases h2)<|uD _ _ hC⟩⟩)
 .refine⟨_,rfl,_,_,rfl,rfl,_,rfl,UM (λi9=>?_)<|λi9=>?_⟩
  .have i9:c % 10<9:=ZI i9;have i5:¬c % 10<5:=λz=>i5<|Zq z;obtain⟨u,d,au,du,a9,sd⟩:∃u d,CO [V.str<|Txt.mul "w" 21,V.non,V.str "w\n",V.int 5] (c % 10-5)=some u/\(∀{g},Dw K g d u)/\UZ d=false/\small d=true:=by
    have:c % 10=5\/c % 10=6\/c % 10=7\/c % 10=8:=by lia
    rcases this with e|e|e|e<;>rw[e]
    .exact⟨_,.str<|Txt.mul "w" 21,yA (j:=0) rfl,rfl,jb.2.1,jb.2.2⟩
    .exact⟨_,.none,yA (j:=1) rfl,rfl,rfl,rfl⟩
    .exact⟨_,.str "w\n",yA (j:=2) rfl,rfl,by decide+kernel,by decide+kernel⟩
    .exact⟨_,.int 5,yA (j:=3) rfl,rfl,rfl,rfl⟩
   obtain⟨o,ho⟩:=Z6.mp hx;refine⟨_,rfl,A.b,dx,_,rfl,hb,rfl,_,rfl,λD n=>⟨_,rfl,C,_,_,_,rfl,rfl,L<|sC.trans<|zG n,O,_,rfl,_,_,rfl,rfl,(by decide:(0:Int)<1000),_,rfl,U,UD 2,λpt y=>⟨(zG y) _ _ zC,[(.inr<|Cs p0,.ref pt)],rfl,by simp,?_⟩⟩⟩;have N:=An.zx.rC (o:=.dK<|x8 [] [((.inr (Cs p0):Key),V.ref pt)]) ((zG n).trans<|zG (o:=.tup [.str "never",.str (E7 (c % 1000):Str)]) y) n;have ai:=zC (H:=upd (upd HC D<|.dK []) pt<|.tup [.str "never",.str (E7 (c % 1000):Str)]) (a:=D) (o:=.dK<|x8 [] [((.inr (Cs p0):Key),V.ref pt)]);have al:(upd (upd (upd HC D<|.dK []) pt<|.tup [.str "never",.str (E7 (c % 1000):Str)]) D<|.dK<|x8 [] [((.inr (Cs p0):Key),V.ref pt)]) pt=some (.tup<|([("never":Str),(E7 (c % 1000):Str)]:Da).map V.str):=by rw[zI (λz=>by rw[z,zC]at y;cases y),zC];rfl
   generalize upd (upd (upd HC D<|.dK []) pt<|.tup [.str "never",.str (E7 (c % 1000):Str)]) D (.dK<|x8 [] [((.inr (Cs p0):Key),V.ref pt)])=HD at N ai al ⊢;have lo:UV ["never",(E7 (c % 1000):Str)]:=⟨by simp,λl hl=>by
    simp only[Zo,ZD,Ye]at hl
    rcases hl with rfl|rfl
    .decide+kernel
    .exact nl⟩
   have bh:D∉A.fp:=λz=>by obtain⟨o',e'⟩:=qC.bk.sh.ex D z;rw[n]at e';cases e'
   exact⟨_,rfl,_,rfl,_,_,rfl,rfl,lw,_,_,u,rfl,rfl,yu.of<|N _ _ a5,au,A.b,A.a,A.h,A.fp,S,hs,x,_,u,rfl,qC.bk.same N,by lia,.inr ⟨o,ho,.inr<|.inr ⟨D,_,[(p0,["never",(E7 (c % 1000):Str)])],d,rfl,ai,bh,yp.snoc (f:=(p0,["never",(E7 (c % 1000):Str)])) yp.nil ⟨pt,_,rfl,wY.of al,zu.strs _⟩ lo,P4 B lo,by simp,du,sd,.inl ⟨a9,λg s'=>⟨b6,by rw[w6];rfl,rfl,by simp,(sC.trans N).trans s',s' _ _<|N _ _ hC⟩⟩⟩⟩⟩
  .obtain⟨b1,cr,ct⟩:=TZ x<|q.iz x<|wu.mp hx;have nx:UI hs (x++"nosuch")=none:=JO.mp λz=>b1<|q.iz _<|wu.mp z;refine⟨_,rfl,A.b,dx,_,rfl,hb,rfl,_,rfl,_,_,rfl,rfl,zp<|by lia,λD n=>⟨_,rfl,C,_,_,_,rfl,rfl,L<|sC.trans<|zG n,O,UD 1,λpt y=>⟨(zG y) _ _ zC,[(.inr<|Cs p0,.ref pt)],rfl,by simp,?_⟩⟩⟩;have N:=An.zx.rC (o:=.dK<|x8 [] [((.inr (Cs p0):Key),V.ref pt)]) ((zG n).trans<|zG (o:=.lst [.str "a"]) y) n;exact⟨A.b,A.a,A.h,A.fp,S,hs,_,_,_,rfl,qC.bk.same N,by lia,.inl ⟨nx,b7,by rw[w7];rfl,rfl,by simp,sC.trans N,N _ _ hC⟩⟩
 .rintro as g cls z ⟨a,rfl,rfl,ha,sz,hm⟩ nz;have uz:=zG (o:=UW z<|.ref a) nz;refine⟨T.gR a ha,_,rfl,a,rfl,zC,ha,λH3 Y=>⟨_,rfl,rfl,_,rfl,?_⟩⟩;rw[show decide (V.str (Ox b5 b2 b6 a)=V.str (Ox b5 b2 b6 a))=true from Zq rfl];have q3:=q.same<|sz.trans<|uz.trans Y;obtain⟨a2,a6⟩:=q3.bk.ob;obtain⟨Z,_,_,_,ab⟩:=HS q3.bk.sh;refine UF ⟨_,rfl,A.b,aD,a2,_,_,rfl,a6,T.xx,T.m1,rfl,A.a,Z,_,rfl,ab,rfl,A.a,A.fp,S,_,rfl,q3.bk.sh,Y _ _ zC,λl nl=>?_⟩;rw[X7];refine nw nl λH4 u4 h4=>⟨_,rfl,.list<|(S.map En.nm).map .str,.list<|(S.map En.nm).map .str,⟨l,_,rfl,yu.of h4,zu.strs _⟩,⟨lm,_,rfl,yu.of<|(uz.trans<|Y.trans u4) _ _ hm,zu.strs _⟩,(Xs q.bk.ok).1,(Xs q.bk.ok).1,?_⟩;rw[(Xs q.bk.ok).2];exact k _<|sz.trans<|uz.trans<|Y.trans u4
end Cm
inductive nP (P:Er)(w:Eu)(K:Cq)(C D:Eo)(vs:Dj)(H:Hp)(Q:VK)(e3:XK):Prop
 |mk (A:Ad) (pl:List Da) (S:Di) (hs:Hs) (M:List Vn) (us ws:Dd) (x y:Str) (cf:Eo) (Dm:Dl) (fs:Dk) (n g:Nat) (h0:vs=[.ref A.b,.ref A.t,.str x,.ref cf,.str y]) (h1:Sd P w K C D H A pl S hs M us ws) (h2:Ps pl) (h3:(UI hs x).isSome=true) (h4:H cf=some (.dK Dm)) (h5:yp K H fs Dm) (h6:wj pl fs) (h7:cf∉A.X) (h8:UK y=true) (h9:S.length<=26*n) (h10:M.length<=n) (h11:ws.length<=g) (h12:n<30) (h13:g<900) (h14:∀H',Off A.X H H'->pD P w K C D H' A pl (n+1) (g+1)->Q (.bl true) H'):nP P w K C D vs H Q e3
structure Kp (P:Er)(w:Eu)(K:Cq)(C D:Eo)(H Hk:Hp)(A:Ad)(d:Eo)(hs:Hs)(M:List Vn)(vs us:Dd)(S1:Di)(hs1:Hs)(S2:Di)(hs2:Hs)(cf l:Eo)(Dm:Dl)(fs:Dk)(ps:Da):Prop where
 of:Off A.X H Hk
 bk:xu P w K C D Hk A.b A.a A.h A.fp S1 hs1
 tk:xu P w K C D Hk A.tw A.a' A.h' A.fp' S2 hs2
 lw:Lw P w K C Hk (d::A.X) A hs M vs us
 hc:Hk cf=some (.dK Dm)
 ff:yp K Hk fs Dm
 hl:Hk l=some (.lst<|ps.map V.str)
structure Ko (H:Hp)(A:Ad)(d cf l:Eo):Prop where
 ap:Apart A
 nd:H d=none
 dX:d∉A.X
 cX:cf∉d::A.X
 lX:l∉d::A.X
section
variable {P:Er}{w:Eu}{K:Cq}{C D:Eo}{H Hk Hj:Hp}{A:Ad}{d:Eo}{hs:Hs}{M:List Vn}{vs us:Dd}{S1:Di}{hs1:Hs}{S2:Di}{hs2:Hs}{cf l:Eo}{Dm:Dl}{fs:Dk}{ps:Da}{S3:Di}{hs3:Hs}
theorem Kp.same (q:Kp P w K C D H Hk A d hs M vs us S1 hs1 S2 hs2 cf l Dm fs ps)(s:zx Hk Hj):Kp P w K C D H Hj A d hs M vs us S1 hs1 S2 hs2 cf l Dm fs ps :=
 ⟨λc o n e=>s _ _<|q.of c o n e,q.bk.same s,q.tk.same s,q.lw.same s,s _ _ q.hc,q.ff.same s,s _ _ q.hl⟩
theorem Kp.twin (q:Kp P w K C D H Hk A d hs M vs us S1 hs1 S2 hs2 cf l Dm fs ps)(k:Ko H A d cf l)(o:Off (A.h'::A.fp') Hk Hj)(B:xu P w K C D Hj A.tw A.a' A.h' A.fp' S3 hs3):Kp P w K C D H Hj A d hs M vs us S1 hs1 S3 hs3 cf l Dm fs ps:=by
 have nt:UO Hk (A.h'::A.fp'):=λc hc=>q.tk.nt c<|Zn _ hc;have f:∀{c},c∈A.h'::A.fp'->c∈A.X:=λhc=>Ad.to2<|Zn _ hc;have n1:∀{c},c∈A.b::A.h::A.fp->c∉A.h'::A.fp':=λhc z=>k.ap.kh _ hc<|Zn _ z;exact⟨λc u n e=>o _ _ (λz=>n<|f z) (q.of c u n e),q.bk.off nt o (n1<|by simp) (n1<|by simp)<|λc hc=>n1<|by simp[hc],B,q.lw.off nt o (λc hc=>Zn _<|f hc) (λc hc z=>k.ap.lE _ (Zn _ z) hc),o _ _ (λz=>k.cX<|Zn _<|f z) q.hc,q.ff.off nt o,o _ _ (λz=>k.lX<|Zn _<|f z) q.hl⟩
theorem Kp.book (q:Kp P w K C D H Hk A d hs M vs us S1 hs1 S2 hs2 cf l Dm fs ps)(k:Ko H A d cf l)(o:Off (A.h::A.fp) Hk Hj)(B:xu P w K C D Hj A.b A.a A.h A.fp S3 hs3):Kp P w K C D H Hj A d hs M vs us S3 hs3 S2 hs2 cf l Dm fs ps:=by
 have nt:UO Hk (A.h::A.fp):=λc hc=>q.bk.nt c<|Zn _ hc;have f:∀{c},c∈A.h::A.fp->c∈A.X:=λhc=>Ad.oJ<|Zn _ hc;have n1:∀{c},c∈A.tw::A.h'::A.fp'->c∉A.h::A.fp:=λhc z=>k.ap.kh _ (Zn _ z) hc;exact⟨λc u n e=>o _ _ (λz=>n<|f z) (q.of c u n e),B,q.tk.off nt o (n1<|by simp) (n1<|by simp)<|λc hc=>n1<|by simp[hc],q.lw.off nt o (λc hc=>Zn _<|f hc) (λc hc z=>k.ap.oE _ (Zn _ z) hc),o _ _ (λz=>k.cX<|Zn _<|f z) q.hc,q.ff.off nt o,o _ _ (λz=>k.lX<|Zn _<|f z) q.hl⟩
theorem Kp.hand {kd:Dl}(q:Kp P w K C D H Hk A d hs M vs us S1 hs1 S2 hs2 cf l Dm fs ps)(k:Ko H A d cf l)(hd:Hk d=some (.dK kd))(o:Off [d] Hk Hj):Kp P w K C D H Hj A d hs M vs us S1 hs1 S2 hs2 cf l Dm fs ps:=by
 have nt:UO Hk [d]:=Iw hd (λ_ z=>nomatch z)<|λ_ _ z=>nomatch z;have n1:∀{c},c∈A.X->c∉[d]:=λhc z=>k.dX<|Zl.mp z▸hc;exact⟨λc u n e=>o _ _ (λz=>by rw[Zl.mp z,k.nd]at e;cases e)<|q.of c u n e,q.bk.off nt o (n1<|Ad.oJ<|by simp) (n1<|Ad.oJ<|by simp)<|λc hc=>n1<|Ad.oJ<|by simp[hc],q.tk.off nt o (n1<|Ad.to2<|by simp) (n1<|Ad.to2<|by simp)<|λc hc=>n1<|Ad.to2<|by simp[hc],q.lw.off nt o (λc hc=>by rw[Zl.mp hc];exact Zs)<|λc hc=>n1<|Ad.to3 hc,o _ _ (λz=>k.cX (by rw[Zl.mp z];exact Zs)) q.hc,q.ff.off nt o,o _ _ (λz=>k.lX (by rw[Zl.mp z];exact Zs)) q.hl⟩
def Fp (vs:Dd)(M:List Vn)(x:Vn)(v:Eo):Dd:=if x.n∈M.map Vn.n then vs else vs++[v]
theorem HR (h:(UI hs x).isSome=true):(UH hs x o).map (·.1)=hs.map (·.1)/\(UH hs x o).length=hs.length:=by
 have e:(UH hs x o).map (·.1)=hs.map (·.1):=by rw[Xl,ZK<|wu.mp h]
 have:=congrArg List.length e;rw[Zk,Zk]at this;exact⟨e,this⟩
theorem Kp.fin (q:Kp P w K C D H Hk A d hs M vs us S1 hs1 S1 hs1 cf l Dm fs ps)(k:Ko H A d cf l)(y:A.X.Nodup)(r:sS K Hk A.X v x)(o:Off [A.md,A.hh] Hk Hj)(hm:Hj A.md=some (.lst<|(Fp vs M x v).map V.ref))(hd:Hj A.hh=some (.dK<|hkg (CF<|U4 M x) hs1))(mv:Mv pl S1<|U4 M x)(nm:hs1.map (·.1)=mR.take hs1.length)(h1:1<=hs1.length)(h4:hs1.length<=4):Sd P w K C D Hj A pl S1 hs1 (U4 M x) (Fp vs M x v) us:=by
 have nt:UO Hk [A.md,A.hh]:=λc hc=>by
  simp only[Zo,ZD,Ye]at hc
  rcases hc with rfl|rfl
  .exact xG q.lw.md (λ_ z=>nomatch z) (λ_ _ z=>nomatch z)
  .exact xG q.lw.hd (λ_ z=>nomatch z) (λ_ _ z=>nomatch z)
 have n:∀{c},c∈[A.md,A.hh]->c∈[A.t,A.hh,A.md,A.hl]:=λhc=>by
  simp only[Zo,ZD,Ye]at hc ⊢
  rcases hc with h|h<;>simp[h]
 have n1:∀{c},c∈A.b::A.h::A.fp->c∉[A.md,A.hh]:=λhc z=>k.ap.oE _ hc<|n z;have n2:∀{c},c∈A.tw::A.h'::A.fp'->c∉[A.md,A.hh]:=λhc z=>k.ap.lE _ hc<|n z;have p3:=k.ap.p3;simp only[ZY,Zo,ZD,Ye,Vr]at p3;have j:∀c∈[A.md,A.hh],c∈A.X:=λc hc=>Ad.to3<|n hc;have lw:=q.lw.on (Y:=A.X) λc hc=>.inl<|Zn _ hc;refine⟨y,q.bk.off nt o (n1<|by simp) (n1<|by simp)<|λc hc=>n1<|by simp[hc],q.tk.off nt o (n2<|by simp) (n2<|by simp)<|λc hc=>n2<|by simp[hc],⟨o _ _ (by simp[p3.1.1,p3.1.2.1]) lw.tb,hd,hm,o _ _ (by simp[EC p3.2.2.1,EC p3.2.1.2]) lw.hl,?_,?_,λp u=>(lw.he p u).off nt o j,lw.fr.off nt o j⟩,mv,nm,h1,h4⟩
 .unfold Fp U4
  split
  .exact lw.vl
  .rw[ZB,ZB,lw.vl];rfl
 .unfold Fp U4
  split
  .exact λi a z g f=>(lw.ve i a z g f).off nt o j
  .intro i a z g f
   by_cases s:i<M.length
   .rw[Ya<|by rwa[lw.vl]]at g;rw[Ya s]at f;exact(lw.ve i a z g f).off nt o j
   .have e:i=M.length:=by
     have:=(ZJ.mp f).1;rw[ZB]at this;have:i<M.length+1:=this;lia
    subst e;rw[<-lw.vl,V9]at g;rw[V9]at f;cases g;cases f;exact r.off nt o j
theorem M9 {Q:VK}(lw:Lw P w K C H X A hs M vs us)(q:M.length<1000)(hd:∀p,H p=none->Q (.ref p) (upd H p<|.lst<|(M.map Vn.n).map V.str)):U6 [none] (OL K A.md) (Xc 0) Im (Ty (MV 0)<|tC<|V.str "name") Q σ H:=by
 refine jG (K:=K) (a:=A.md) (xs:=vs.map V.ref) (λi d σ b=>∃o,σ=[o]/\b=H/\d=((M.take i).map Vn.n).map V.str) ⟨none,rfl,rfl,rfl⟩ (zp (by rw[Zk,lw.vl];lia)) ?_ ?_ ?_
 .rintro i d σ b f ⟨o,rfl,rfl,rfl⟩;exact⟨yu.of lw.md,by rw[Zk,Zk,ZS];lia⟩
 .rintro i v d σ b hv ⟨o,rfl,rfl,rfl⟩;rw[Zy]at hv;obtain⟨a,ha,rfl⟩:=Z0.mp hv;have f:i<M.length:=by rw[<-lw.vl];exact(ZJ.mp ha).1
  have e:=Zv f;obtain⟨c,l,j,hv,_⟩:=lw.ve i a _ ha e;refine zT ⟨_,rfl,a,_,rfl,CB hv rfl,_,rfl,rfl,?_⟩;rw[Yi,e,Zx,Zx];rfl
 .rintro d σ b ⟨o,rfl,rfl,rfl⟩ p g;rw[Zk,lw.vl,ZV];exact hd p g
theorem OR (vs:Da)(n:Str):((vs.map EQ).any λy=>EM y<|.str n)=decide (n∈vs):=by
 rw[List.any_map,Yx,Z8,ZN];constructor
 .rintro⟨x,b,e⟩;have e:(x==n)=true:=e;rwa[<-Va e]
 .exact λh=>⟨n,h,Vc n⟩
theorem Mv.strs (m:Mv pl S M)(ok:wM S):∀v∈M.map Vn.n,Ew v=true:=λv hv=>by
 obtain⟨x,b,rfl⟩:=Zr.mp hv;obtain⟨t,h⟩:=m.nt x b;exact Hh ok h.nt.mem
end
def OU (L:Da)(v:Str)(i:Nat):Nat:=if v∈L.take i then L.idxOf v else L.length
theorem TN {L:Da}{v u:Str}{i:Nat}(h:L[i]?=some u)(n:u≠v):OU L v (i+1)=OU L v i:=by
 unfold OU;rw[Yi,h,Option.toList_some]
 by_cases z:v∈L.take i
 .rw[ZK z,ZK<|Yl _ z]
 .rw[ZH z,ZH<|λq=>(ZR.mp q).elim z λq=>n (Zl.mp q).symm]
theorem R4 {L:Da}{v:Str}{i:Nat}(nd:L.Nodup)(h:L[i]?=some v):OU L v (i+1)=i:=by
 unfold OU;rw[Yi,h,Option.toList_some,ZK<|ZW _<|Zl.mpr rfl];obtain⟨b,rfl⟩:=ZJ.mp h;exact nd.idxOf_getElem i b
theorem R3 {L:Da}{n:Nat}(h:n=L.length):OU L v n=L.idxOf v:=by
 unfold OU;rw[h,ZV]
 split
 .rfl
 .exact(J8<|by assumption).symm
namespace Cn
abbrev st:Stmt:=top 77
theorem sc:zy ["_law_book","_law_state","_law_branch","_law_files","_law_words_here","_law_head","_law_parents","_law_handed","_law_due","_law_name","_law_fresh","_law_at","_law_k","_law_old","_law_names"] ["_law_book","_law_state","_law_branch","_law_files","_law_words_here"] (zF st):=Cz
include T in
theorem ok (F:yc0 K "_law_kept" st f fd)(Qh:wK P w K mg base aD 14 "keep" ["self","branch","files","words"]<|rZ P w K aC aD b2 b6 b7)(Zc:wV P w K mg base 17 "_law_is_none" ["_law_book","_law_branch","_law_name"]<|mJ P w K aC aD)(Qo:wV P w K mg base 17 "_law_reads" ["_law_book","_law_version","_law_held","_law_turn"]<|tM P w K aC aD)(Zd:wV P w K mg base 8 "_law_on_fresh" ["_law_state","_law_name","_law_words_here"]<|jj P w K aC):zc P w K mg base CA 18 f fd ["_law_book","_law_state","_law_branch","_law_files","_law_words_here"] (nP P w K aC aD):=by
 refine F.ok sc λ_ A _ _ H vs Q E j h=>?_;obtain⟨A,pl,S,C,M,J,ws,x,y,O,B,fs,n,g,rfl,q,pq,hx,hc,ff,fP,cX,ly,sl,ml,wl,ch,g9,k⟩:=h;refine⟨_,(zD (Cv (i:=5) sc.nd<|zM j.zr (zM j.zr (pv 1) zz<|λ_ _=>rfl) (pv 2)<|λ_ _=>rfl)<|zD (Cv (i:=6) sc.nd<|yT zB)<|xQ (yG (zP Nz (pv 5) zH<|zO _) (zE<|Cv (i:=6) sc.nd<|yT<|zA (zM j.zr (yB (yx:Cy _<|wU K) (zM j.zr (pv 1) zz<|λ_ _=>rfl)<|pv 5) zz<|λ_ _=>rfl) zB) zR)<|zD (Cv (i:=7) sc.nd<|z8 jD (by rfl) T.dict YR<|zA (pv 3) zB)<|zD (Cv (i:=8) sc.nd<|yE (zM j.zr (pv 1) zz<|λ_ _=>rfl) T.xx Qh j.m zX<|zA (pv 2)<|zA (z8 jD (by rfl) T.dict YR<|zA (pv 3) zB)<|zA (pv 4) zB)<|xQ (yG (PW.pt<|jC (zP (Sz (K:=K) j.units) (pv 8) (xL (sc:=zF st) (N:=["_law_book","_law_state","_law_branch","_law_files","_law_words_here","_law_head","_law_parents","_law_handed","_law_due","_law_name","_law_fresh","_law_at","_law_k","_law_old","_law_names"]) (N':=["_law_old"]) (src:=[none]) .a rfl rfl rfl (jL<|zM j.zr (pv 1) zz<|λ_ _=>rfl) (λ_ _ _ _=>(z6 (i:=0) (show(["_law_old"]:Da).Nodup by decide+kernel) rfl (EU rfl))) (λ_ _ _ _=>qD) (λ_ _ _ _=>(zM j.zr (pv 0) zz<|λ_ _=>rfl))) (by with_unfolding_all rfl)) (qU<|yS<|zU (K:=K)<|zK Zc j.m<|zA (pv 0)<|zA (pv 2)<|zA (pv 8) zB)) (zE<|zL qN) zR) (zD (Cv (i:=9) sc.nd<|yE (pv 0) T.xx Qh j.m zX<|zA (pv 2)<|zA (pv 7)<|zA (pv 4) zB)<|zD (yZ j.zr (pv 7) zz (yR<|zA zz zB) rfl)<|zD (yG (zP Bj (pv 9) (pv 8)<|zO _) (zE<|zL qN) zR)<|zD (Cv (i:=10) sc.nd<|jN (yI zz (pv 9)<|yI zz (z8 jD (by rfl) T.dict YR<|zA (pv 3) zB)<|yI zz (pv 6)<|yI zz (pv 4) jP) rfl rfl (by simp)<|by decide)<|zD (Cv (i:=11) sc.nd<|zJ zQ (by rfl) T.len ZZ<|zA (zM j.zr (pv 1) zz<|λ_ _=>rfl) zB)<|zD (qS Lb rfl (jT rfl T.range<|zA (zJ zQ (by rfl) T.len ZZ<|zA (zM j.zr (pv 1) zz<|λ_ _=>rfl) zB) zB) (z6 (i:=12) sc.nd rfl<|EU rfl)<|zD (Cv (i:=13) sc.nd<|yB (yx:Cy _<|wU K) (zM j.zr (pv 1) zz<|λ_ _=>rfl)<|pv 12)<|zE<|yG (PW.pt<|jC (zP (Wo j.vq) (zM j.zr (pv 13) zz<|λ_ _=>rfl) (pv 3)<|zO _)<|jC (zP (vK j.units) (zM j.zr (pv 13) zz<|λ_ _=>rfl) (pv 6)<|zO _)<|qU<|zP xH (zM j.zr (pv 13) zz<|λ_ _=>rfl) (pv 4)<|zO _) (zE<|Cv (i:=11) sc.nd<|pv 12) zR)<|zD (NE (sc:=zF st) (N:=["_law_book","_law_state","_law_branch","_law_files","_law_words_here","_law_head","_law_parents","_law_handed","_law_due","_law_name","_law_fresh","_law_at","_law_k","_law_old","_law_names"]) (N':=["_law_old"]) (src:=[none]) .a rfl rfl rfl (jL<|zM j.zr (pv 1) zz<|λ_ _=>rfl) (λ_ _ _ _=>(z6 (i:=0) (show(["_law_old"]:Da).Nodup by decide+kernel) rfl (EU rfl))) (λ_ _ _ _=>qD) (λ_ _ _ _=>(zM j.zr (pv 0) zz<|λ_ _=>rfl)) sc.nd rfl (EU rfl) (k:=14)) (xQ (yG (PW.pt<|v7 (yS<|zU (K:=K)<|zJ (z7 (K:=K)) (by rfl) T.isinstance ZA<|zA (pv 9)<|zA (y6 (v:=.ty "str") rfl T.str Z7 rfl) zB)<|v7 (PW.pt<|jC (zP G1 (pv 11) (zJ zQ (by rfl) T.len ZZ<|zA (pv 14) zB)<|zO _)<|qU<|zP Bj (yB (yx:Cy _<|wU K) (pv 14)<|pv 11) (pv 9)<|zO _)<|vG<|PW.pt<|jC (zP xH (pv 11) (zJ zQ (by rfl) T.len ZZ<|zA (pv 14) zB)<|zO _)<|qU<|zP (Wp (K:=K) j.units) (pv 9) (pv 14)<|by with_unfolding_all rfl) (zE<|zL qN) zR)<|xQ (yG (zP xH (pv 11) (zJ zQ (by rfl) T.len ZZ<|zA (pv 14) zB)<|zO _) (zE<|yC<|k6 Y1 YY YZ jB (zM j.zr (pv 1) zz<|λ_ _=>rfl)<|zA (pv 10) zB) zR)<|zD (yZ j.zr (zM j.zr (pv 1) zz<|λ_ _=>rfl) (pv 2) (pv 11) rfl)<|zE<|zL<|y8 (zK Qo j.m<|zA (pv 0)<|zA (pv 10)<|zA (zM j.zr (pv 1) zz<|λ_ _=>rfl)<|zA (pv 11) zB)<|xU<|zK Zd j.m<|zA (pv 1)<|zA (pv 9)<|zA (pv 4) zB))),?_⟩
 obtain⟨o,ho⟩:=Z6.mp hx;have gf:=fP.good pq;obtain⟨f6,fw⟩:=fP.len pq;have h4:=q.h4;have kp:=Tp (S:=S) (fs:=fs) (ps:=o.toList) (y:=y) q.bk.ok gf (by lia) (by cases o<;>simp) (by cases o<;>simp) (λp hp=>q.bk.hv _ (j8 ho) p (by cases o with|none=>cases hp|some u=>rw[Zl.mp hp])) ly (by lia);have lv:=q.mv.strs q.bk.ok;generalize eN:CK S fs o.toList y=N at kp;obtain⟨tN,Z⟩:=kp.nt;have on:=Hh kp.ok Z.nt.mem;refine⟨_,rfl,A.t,_,rfl,CB q.lw.tb HQ,_,rfl,A.hh,_,rfl,CB q.lw.hd (by rw[vW,ho];rfl),zT ⟨UD 0,λl1 n1=>nw n1 λH1 u1 h1=>zT ?_⟩⟩;have q1:=q.same u1;refine⟨λr D=>∃l,r=[some<|.ref A.b,some<|.ref A.t,some<|.str x,some<|.ref O,some<|.str y,some<|CF M o,some<|.ref l,none,none,none,none,none,none,none,none]/\zx H D/\H l=none/\D l=some (.lst<|o.toList.map V.str),?_,?_⟩
 .cases o with
  |none=>exact⟨_,rfl,_,_,rfl,rfl,_,rfl,GB (by decide) ⟨l1,rfl,u1,n1,h1⟩⟩
  |some u =>
   obtain⟨a,z,ai,hz,rfl,c,l,kz,hv,_⟩:=q1.lw.ver<|q.bnd ho u rfl;exact⟨_,rfl,_,_,rfl,rfl,_,rfl,FR (Ue _) ⟨_,rfl,A.t,_,rfl,CB q1.lw.tb Xe,_,rfl,A.md,_,_,_,rfl,rfl,yu.of q1.lw.md,ai,a,_,rfl,CB hv rfl,UD 1,λl2 n2=>⟨l2,rfl,u1.trans<|zG n2,u1.free n2,zC⟩⟩⟩
 rintro r H2 ⟨l,rfl,s2,nl,am⟩;refine⟨_,rfl,O,B,rfl,.inl<|s2 _ _ hc,λd nd=>nw nd λH3 u3 h3=>zT ?_⟩;have s3:=s2.trans u3;have q3:=q.same s3;have ex:=q.ex;have ab:∀{c},H c=none->c∉A.X:=λhc z=>by
  obtain⟨o,e⟩:=ex _ z;rw[hc]at e;cases e
 have ac:=s2.free nd;have ko:Ko H A d O l:=⟨apart q.nd,ac,ab ac,λz=>(Zo.mp z).elim (λe=>by rw[e,ac]at hc;cases hc) cX,λz=>(Zo.mp z).elim (λe=>by rw[e,nd]at am;cases am)<|ab nl⟩;have K3:Kp P w K aC aD H H3 A d C M J ws S C S C O l B fs o.toList:=⟨Off.of s3,q3.bk,q3.tk,(q.lw.on λc hc=>(Zo.mp hc).elim (λe=>.inr<|e▸ac) .inl).same s3,s3 _ _ hc,ff.same s3,u3 _ _ am⟩;obtain⟨a7,a2⟩:=K3.tk.ob;refine⟨_,rfl,A.t,_,rfl,CB K3.lw.tb RE,A.tw,a7,_,rfl,a2,rfl,_,rfl,_,rfl,O,B,rfl,.inl K3.hc,λd2 a3=>nw a3 λH4 u4 h4=>⟨_,rfl,A.tw,A.a',A.h',A.fp',S,C,x,_,_,rfl,(K3.same u4).tk,by lia,.inr ⟨o,ho,.inr<|.inr ⟨d2,B,fs,.str y,rfl,h4,?_,K3.ff.same u4,gf,by lia,rfl,Zq (j5 ly).len,.inr ⟨y,rfl,rfl,ly,by lia,λH5 as B5=>zT ?_⟩⟩⟩⟩⟩
 .exact λz=>ab (s3.free a3) (Ad.to2<|by simp[z])
 rw[eN]at B5 ⊢;have K5:=(K3.same u4).twin ko as B5;have ah:=as _ _ (λz=>ko.dX<|Ad.to2<|Zn _ z) (u4 _ _ h3);refine⟨λr D=>r=[some<|.ref A.b,some<|.ref A.t,some<|.str x,some<|.ref O,some<|.str y,some<|CF M o,some<|.ref l,some<|.ref d,some<|.str N.2,none,none,none,none,none,none]/\zx H5 D,⟨_,rfl,_,rfl,A.t,_,rfl,CB K5.lw.tb Xe,A.md,rfl,⟨_,yu.of K5.lw.md⟩,?_⟩,?_⟩
 .refine M9 K5.lw (by lia) λp np=>nw np λD u' h'=>⟨.str N.2,(M.map Vn.n).map .str,rfl,⟨p,_,rfl,yu.of h',zu.strs _⟩,(uL _ lv).1,on,Yb _,_,rfl,?_⟩;rw[OR]
  by_cases z:N.2∈M.map Vn.n
  .rw[Zq z];exact UC<|UC ⟨rfl,u'⟩
  .rw[ZE z];refine UF ⟨_,rfl,_,rfl,_,rfl,A.b,A.a,A.h,A.fp,S,C,x,N.2,rfl,K5.bk.same u',by lia,hx,?_,λcc bv=>⟨true,rfl,UN ⟨rfl,u'.trans bv⟩⟩⟩;cases e:zW S N.2 ["note"] with
   |false=>rfl
   |true=>exact absurd (q.mv.mY _ e) z
 rintro r H6 ⟨rfl,s6⟩;have K6:=K5.same s6;obtain⟨a6,hb⟩:=K6.bk.ob;refine⟨_,rfl,A.b,a6,_,rfl,hb,rfl,_,rfl,_,rfl,_,rfl,A.b,A.a,A.h,A.fp,S,C,x,_,_,rfl,K6.bk,by lia,.inr ⟨o,ho,.inr<|.inr ⟨d,B,fs,.str y,rfl,s6 _ _ ah,λz=>ko.dX<|Ad.oJ<|by simp[z],?_,gf,by lia,rfl,Zq (j5 ly).len,.inr ⟨y,rfl,rfl,ly,by lia,λH7 au B7=>zT ?_⟩⟩⟩⟩
 .exact K6.ff
 rw[eN]at B7 ⊢;have K7:=K6.book ko au B7;have al:=au _ _ (λz=>ko.dX<|Ad.oJ<|Zn _ z) (s6 _ _ ah);refine⟨UD 1,λpm bt=>nw bt λH8 u8 h8=>⟨_,rfl,d,_,rfl,.inl ⟨B,.inr "zz",u8 _ _ al,rfl,yJ (by rw[ff.len];lia),rfl⟩,?_⟩⟩;have K9:=(K7.same u8).hand ko (u8 _ _ al)<|zY (o:=.dK<|yt B (.inr "zz")<|.ref pm);generalize upd H8 d (.dK<|yt B (.inr "zz")<|.ref pm)=H9 at K9 ⊢;refine⟨_,rfl,_,rfl,rfl,_,rfl,?_⟩;rw[show decide (V.str N.2=V.str N.2)=true from Zq rfl];refine UN ?_;clear al ah h8 u8 au as u4 h4 B5 B7 K3 K5 K6 K7 hb a2 s6;refine λv nv=>⟨_,rfl,_,rfl,O,B,rfl,.inl<|zG nv _ _ K9.hc,λL U=>⟨_,rfl,_,rfl,(zG U) _ _ zC,Tc ⟨N.2,fs,o.toList,y⟩ L l,rfl,by show 4<=15;decide,?_⟩⟩;rw[show x8 [] (Tc ⟨N.2,fs,o.toList,y⟩ L l)=Tc ⟨N.2,fs,o.toList,y⟩ L l from rfl];have sA:=An.zx.rC (o:=.dK<|Tc ⟨N.2,fs,o.toList,y⟩ L l) ((zG nv).trans<|zG (o:=.dK B) U) nv;have hv:=zC (H:=upd (upd H9 v<|.dK []) L<|.dK B) (a:=v) (o:=.dK<|Tc ⟨N.2,fs,o.toList,y⟩ L l);have ax:(upd (upd (upd H9 v<|.dK []) L<|.dK B) v<|.dK<|Tc ⟨N.2,fs,o.toList,y⟩ L l) L=some (.dK B):=by rw[zI (λz=>by rw[z,zC]at U;cases U),zC]
 generalize upd (upd (upd H9 v<|.dK []) L<|.dK B) v (.dK<|Tc ⟨N.2,fs,o.toList,y⟩ L l)=HA at sA hv ax ⊢;have s:=K9.same sA;have e9:∀{c},H9 c=none->c∉A.X:=λhc z=>by
  rcases Ad.mY z with z|z|z
  .obtain⟨o',e'⟩:=K9.bk.ex _ z;rw[hc]at e';cases e'
  .obtain⟨o',e'⟩:=K9.tk.ex _ z;rw[hc]at e';cases e'
  .simp only[Zo,ZD,Ye]at z
   rcases z with rfl|rfl|rfl|rfl
   .rw[K9.lw.tb]at hc;cases hc
   .rw[K9.lw.hd]at hc;cases hc
   .rw[K9.lw.md]at hc;cases hc
   .rw[K9.lw.hl]at hc;cases hc
 have bm:H9 L=none:=(zG nv).free U;have VA:sS K HA A.X v ⟨N.2,fs,o.toList,y⟩:=⟨L,l,B,hv,ax,s.ff,s.hl,e9 nv,e9 bm,λz=>ko.lX<|Zn _ z⟩;refine zT ⟨_,rfl,A.t,_,rfl,CB s.lw.tb Xe,A.md,_,rfl,.inl<|yu.of s.lw.md,zT ?_⟩;have vl:=s.lw.vl;refine⟨_,rfl,A.t,_,rfl,CB s.lw.tb Xe,A.md,_,rfl,.inl<|yu.of s.lw.md,_,rfl,by lia,by rw[Zk,vl];lia,Xn (lo:=0) (n:=(J.map V.ref).length) (λi σ D=>∃G I,σ=[some<|.ref A.b,some<|.ref A.t,some<|.str x,some<|.ref O,some<|.str y,some<|CF M o,some<|.ref l,some<|.ref d,some<|.str N.2,some<|.str N.2,some<|.ref v,some<|.int (OU (M.map Vn.n) N.2 i:Nat),G,I,none]/\D=HA) ⟨none,none,?_,rfl⟩ ?_ ?_⟩
 .rw[show OU (M.map Vn.n) N.2 0=(J.map V.ref).length by rw[Zk,vl,<-Zk (f:=Vn.n)];exact ZH<|λz=>by cases z];rfl
 .rintro i σ D hi ⟨G,I,rfl,rfl⟩;rw[Zk]at hi;have bh:i<M.length:=by lia
  have hM:=Zv bh;have hu:=Zv hi;generalize M[i]=z at hM;have hz:=ZG hM;obtain⟨cz,lz,kz,an,a8,fz,bl,_⟩:=s.lw.ve i _ z hu hM;obtain⟨tz,a4⟩:=q.mv.nt z hz;have sm:=kp.same a4;have nx:(M.map Vn.n)[i]?=some z.n:=by rw[Zy,hM];rfl
  refine zT ⟨_,rfl,A.t,_,rfl,CB s.lw.tb Xe,_,rfl,A.md,_,_,_,rfl,rfl,yu.of s.lw.md,TM (n:=i) (by lia) (by rw[Zy,hu];rfl),zT ⟨_,rfl,J[i],_,rfl,CB an rfl,_,rfl,cz,O,kz,B,_,rfl,rfl,.inl a8,.inl s.hc,BT s.ff gf fz (λf hf=>let e:=((q.mv.fs z hz).good pq).wL f hf;⟨e.1,e.2.2.1⟩),_,rfl,?_⟩⟩;have de:=FC fz s.ff gf<|jF (q.mv.fs z hz).nd;have no:z.n≠N.2->∃G I,[some<|V.ref A.b,some<|.ref A.t,some<|.str x,some<|.ref O,some<|.str y,some<|CF M o,some<|.ref l,some<|.ref d,some<|.str N.2,some<|.str N.2,some<|.ref v,some<|.int (OU (M.map Vn.n) N.2 i:Nat),some<|.int<|0+i,some<|.ref J[i],none]=[some<|V.ref A.b,some<|.ref A.t,some<|.str x,some<|.ref O,some<|.str y,some<|CF M o,some<|.ref l,some<|.ref d,some<|.str N.2,some<|.str N.2,some<|.ref v,some<|.int (OU (M.map Vn.n) N.2 (i+1):Nat),G,I,none]/\D=D:=λne=>⟨_,_,by rw[TN nx ne],rfl⟩;generalize (kz.length==B.length&&decide (∀f∈z.fs,f∈fs))=r1 at de ⊢;cases r1 with
  |false=>exact UC (UC<|no λe=>by cases de.mpr (sm.mp e).1)
  |true =>
   have po:=uQ q.bk.ok a4.nt;have pn:=uQ kp.ok Z.nt;refine UF ⟨_,rfl,J[i],_,rfl,CB an rfl,_,rfl,.list<|z.ps.map .str,.list<|o.toList.map .str,⟨lz,_,rfl,yu.of bl,zu.strs _⟩,⟨l,_,rfl,yu.of s.hl,zu.strs _⟩,(yO po).1,(yO pn).1,_,rfl,?_⟩;rw[show EM (.list<|z.ps.map .str) (.list<|o.toList.map .str)=decide (z.ps=o.toList) from qF _ _];refine UM (λe2=>⟨_,rfl,J[i],_,rfl,CB an rfl,_,rfl,rfl,_,rfl,UM (λe3=>?_)<|λe3=>?_⟩) (λe2=>UC<|no λe=>e2<|Zq (sm.mp e).2.1)
   .have e3:V.str z.y=V.str y:=ZI e3;injection e3 with e3;have e:=sm.mpr ⟨de.mp rfl,ZI e2,e3⟩;exact⟨_,rfl,some<|.int<|0+i,some<|.ref J[i],by rw[R4 q.mv.nd<|e▸nx,Int.zero_add];rfl,rfl⟩
   .exact no λe=>e3 (Zq<|by rw[(sm.mp e).2.2])
 .rintro σ HB ⟨G,I,rfl,rfl⟩;rw[R3<|show(J.map V.ref).length=(M.map Vn.n).length by rw[Zk,Zk,vl]];refine⟨_,rfl,A.t,_,rfl,CB s.lw.tb Xe,A.md,rfl,⟨_,yu.of s.lw.md⟩,M9 s.lw (by lia) λp np=>nw np λHC uC hC=>?_⟩;generalize eL:M.map Vn.n=R at hC;have hi:R.idxOf N.2<=R.length:=List.idxOf_le_length;refine zT ⟨λr D=>r=[some<|.ref A.b,some<|.ref A.t,some<|.str x,some<|.ref O,some<|.str y,some<|CF M o,some<|.ref l,some<|.ref d,some<|.str N.2,some<|.str N.2,some<|.ref v,some<|.int (R.idxOf N.2:Nat),G,I,some<|.ref p]/\D=HC,⟨_,rfl,_,_,.str N.2,_,rfl,rfl,IS K "str",_,rfl,UN ⟨_,rfl,_,rfl,p,_,rfl,.inl<|yu.of hC,_,_,rfl,rfl,_,rfl,?_⟩⟩,?_⟩
  .by_cases hm:N.2∈R
   .have lt:=J2 hm;refine FR (by rw[Zk];lia) ⟨_,rfl,_,rfl,p,_,_,_,rfl,rfl,yu.of hC,yA (by rw[Zy,Zv lt,List.getElem_idxOf lt];rfl),_,rfl,rfl,_,rfl,?_⟩;rw[show decide (V.str N.2=V.str N.2)=true from Zq rfl];exact UN ⟨_,rfl,_,rfl,p,_,rfl,.inl<|yu.of hC,rfl,_,rfl,GB (λz=>by injection z with z;rw[Zk]at z;lia)<|UC ⟨rfl,rfl⟩⟩
   .have ge:=J8 hm;refine GB (by rw[Zk];lia) (UC ⟨_,rfl,_,rfl,p,_,rfl,.inl<|yu.of hC,rfl,_,rfl,FR (by rw[Zk,ge]) ⟨_,rfl,_,rfl,.str N.2,R.map .str,rfl,⟨p,_,rfl,yu.of hC,zu.strs _⟩,(uL _<|eL▸lv).1,on,Yb _,_,rfl,?_⟩⟩);rw[OR,ZE hm];exact UC ⟨rfl,rfl⟩
  .rintro r HD ⟨rfl,rfl⟩;have KC:=s.same uC;have VC:sS K HD A.X v ⟨N.2,fs,o.toList,y⟩:=VA.off (Y:=[]) (λb hb=>nomatch hb) (Off.of uC)<|λc hc=>nomatch hc;refine⟨λr D=>r=[some<|.ref A.b,some<|.ref A.t,some<|.str x,some<|.ref O,some<|.str y,some<|CF M o,some<|.ref l,some<|.ref d,some<|.str N.2,some<|.str N.2,some<|.ref v,some<|.int (R.idxOf N.2:Nat),G,I,some<|.ref p]/\Off [A.md] HD D/\D A.md=some (.lst<|(Fp J M ⟨N.2,fs,o.toList,y⟩ v).map V.ref),⟨_,rfl,_,rfl,p,_,rfl,.inl<|yu.of hC,rfl,_,rfl,UM (λe=>?_)<|λe=>?_⟩,?_⟩
   .have e:V.int ((R.idxOf N.2:Nat):Int)=V.int (((R.map V.str).length:Nat):Int):=ZI e;injection e with e;rw[Zk]at e;have hm:N.2∉R:=λz=>by have:=J2 z;lia
    refine⟨_,rfl,A.t,_,rfl,CB KC.lw.tb Xe,.inl ⟨rfl,_,yu.of KC.lw.md⟩,_,rfl,A.md,_,_,rfl,rfl,KC.lw.md,yJ (by rw[Zk,vl];lia),rfl,zY,?_⟩;rw[zC,show Fp J M ⟨N.2,fs,o.toList,y⟩ v=J++[v] from ZH (eL▸hm),Zx];rfl
   .have hm:N.2∈R:=by
     rcases Decidable.em (N.2∈R) with z|z
     .exact z
     .exact absurd (Zq<|by rw[J8 z,Zk]) e
    exact⟨rfl,Off.refl _ _,by rw[show Fp J M ⟨N.2,fs,o.toList,y⟩ v=J from ZK (eL▸hm)];exact KC.lw.md⟩
   .rintro r HE ⟨rfl,av,cd⟩;have p3:=ko.ap.p3;simp only[ZY,Zo,ZD,Ye,Vr]at p3;have a9:=av _ _ (by simp[p3.2.1.1]) KC.lw.hd;have ca:=av _ _ (by simp[p3.1.2.1]) KC.lw.tb;refine⟨_,rfl,_,rfl,A.t,_,rfl,CB ca HQ,_,rfl,A.hh,_,rfl,.inl ⟨_,.inr x,a9,rfl,yJ (by rw[show(hkg (CF M) C).length=C.length from Zk ..];lia),rfl⟩,?_⟩;have eh:yt (hkg (CF M) C) (.inr x) (V.int (R.idxOf N.2:Nat))=hkg (CF<|U4 M ⟨N.2,fs,o.toList,y⟩) (UH C x<|some N.2):=by
     rw[show hkg (CF M) C=hkg (CF<|U4 M ⟨N.2,fs,o.toList,y⟩) C from Yf λp hp=>by rw[Wc<|λv e=>q.mv.mY v<|q.bk.hv p hp v e],<-eL,<-Wd (M:=M) (u:=⟨N.2,fs,o.toList,y⟩),CU]
    rw[eh];have ad:Off [A.md,A.hh] HD (upd HE A.hh<|.dK<|hkg (CF<|U4 M ⟨N.2,fs,o.toList,y⟩)<|UH C x<|some N.2):=λc u nc e=>by
     rw[zI<|λz=>nc (by rw[z];simp)];exact av _ _ (λz=>nc (by rw[Zl.mp z];simp)) e
    have a1:(upd HE A.hh<|.dK<|hkg (CF<|U4 M ⟨N.2,fs,o.toList,y⟩)<|UH C x<|some N.2) A.md=some (.lst<|(Fp J M ⟨N.2,fs,o.toList,y⟩ v).map V.ref):=by rwa[zI<|EC p3.2.1.1]
    have a0:=zC (H:=HE) (a:=A.hh) (o:=.dK<|hkg (CF<|U4 M ⟨N.2,fs,o.toList,y⟩)<|UH C x<|some N.2);generalize upd HE A.hh (.dK<|hkg (CF<|U4 M ⟨N.2,fs,o.toList,y⟩)<|UH C x<|some N.2)=HF at ad a1 a0 ⊢;obtain⟨sn,sz⟩:=HR (o:=some N.2) hx;have sF:=KC.fin ko q.nd VC ad a1 a0 (q.mv.keep q.bk.ok kp fP ly) (by rw[sn,sz];exact q.nm) (by rw[sz];exact q.h1) (by rw[sz];exact q.h4);have sX:∀c∈[A.md,A.hh],c∈A.X:=λc hc=>Ad.to3 (by simp only[Zo,ZD,Ye]at hc ⊢;rcases hc with h|h<;>simp[h]);have VF:=VC.off (λc hc=>by
     simp only[Zo,ZD,Ye]at hc
     rcases hc with rfl|rfl
     .exact xG KC.lw.md (λ_ z=>nomatch z) (λ_ _ z=>nomatch z)
     .exact xG KC.lw.hd (λ_ z=>nomatch z) (λ_ _ z=>nomatch z)) ad sX
    have oF:Off A.X H HF:=λc u nc e=>ad _ _ (λz=>nc<|sX _ z) (KC.of _ _ nc e);have nh:∀{c},c∈A.b::A.h::A.fp->c≠A.hl:=λhc z=>ko.ap.oE _ hc (by rw[z];simp);refine⟨_,rfl,_,rfl,_,rfl,A.t,_,rfl,CB sF.lw.tb RD,_,rfl,A.b,A.a,A.h,v,A.hl,A.fp,A.X,N.1,_,⟨N.2,fs,o.toList,y⟩,tN,ws.map V.ref,_,rfl,sF.bk,VF,Z,gf,f6,ly,uQ kp.ok Z.nt,sF.lw.hl,by rw[Zk];lia,Ad.to3<|by simp,nh<|by simp,nh<|by simp,λz=>nh (by simp[z]) rfl,λp2 x2 y2 HG a5 eG sq nx ny hd=>⟨_,rfl,UF ?_⟩⟩;have sG:=sF.held a5 eG sq nx ny hd;refine⟨_,rfl,_,rfl,_,rfl,A.t,A.hh,A.md,A.hl,A.tw,A.a,A.fr,A.fp,A.X,N.1,N.2,y,tN,o.toList,rfl,sG.lw.tb,sG.lw.fr,sG.bk.sh,kp.ok,Z.nt,λHI sI=>?_⟩;refine k HI (λc u nc e=>sI _ _<|a5 _ _ (λz=>nc (by rw[Zl.mp z];exact Ad.to3<|by simp)) (oF _ _ nc e)) ⟨N.1,_,_,_,_,sG.same sI,by have:=kp.len;lia,?_,by rw[ZB];exact Jp wl⟩;unfold U4
    split
    .lia
    .rw[ZB];exact Jp ml
end Cn
inductive oH (P:Er)(w:Eu)(K:Cq)(C D:Eo)(vs:Dj)(H:Hp)(Q:VK)(e3:XK):Prop
 |mk (A:Ad) (pl:List Da) (ls:Eo) (c:Int) (n g:Nat) (h0:vs=[.ref A.b,.ref A.t,.ref ls,.int c]) (h1:pD P w K C D H A pl n g) (h2:Ps pl) (h3:H ls=some (.lst<|pl.map λp=>V.str<|Cs p)) (h4:ls∉A.X) (h5:n<30) (h6:g<900) (h7:∀A' H',A'.b=A.b->A'.t=A.t->(∀c∈A'.X,c∈A.X\/H c=none)->Off A.X H H'->pD P w K C D H' A' pl (n+1) (g+1)->Q (.bl true) H'):oH P w K C D vs H Q e3
section
variable {P:Er}{w:Eu}{K:Cq}{C D:Eo}{H H':Hp}{A:Ad}{pl:List Da}{S:Di}{hs:Hs}{M:List Vn}{vs us:Dd}{n g:Nat}{x:Str}{o:Option Str}{a2 ln:Eo}{fq:Dd}
theorem pD.up (q:pD P w K C D H A pl n g):pD P w K C D H A pl (n+1) (g+1):=by
 obtain⟨S,hs,M,vs,us,h,a,b,c⟩:=q;exact ⟨S,hs,M,vs,us,h,by lia,by lia,by lia⟩
theorem Sd.heads (q:Sd P w K C D H A pl S hs M vs us)(of:Off [A.h,A.h',A.hh] H H')(B:xu P w K C D H' A.b A.a A.h A.fp S<|UH hs x o)(f:xu P w K C D H' A.tw A.a' A.h' A.fp' S<|UH hs x o)(hh:H' A.hh=some (.dK<|hkg (CF M)<|UH hs x o))(nm:(UH hs x o).map (·.1)=mR.take (UH hs x o).length)(h1:1<=(UH hs x o).length)(h4:(UH hs x o).length<=4):Sd P w K C D H' A pl S (UH hs x o) M vs us:=by
 have ap:=apart q.nd;have p3:=ap.p3;simp only[ZY,Zo,ZD,Ye,Vr]at p3;have e:∀c∈[A.h,A.h',A.hh],c∈A.X:=λc hc=>by
  simp only[Zo,ZD,Ye]at hc
  rcases hc with rfl|rfl|rfl
  .exact Ad.oJ (by simp)
  .exact Ad.to2 (by simp)
  .exact Ad.to3 (by simp)
 have nt:UO H [A.h,A.h',A.hh]:=λc hc=>q.nt c<|e c hc;have d:∀{c},c∈[A.t,A.hh,A.md,A.hl]->c≠A.hh->c∉[A.h,A.h',A.hh]:=λhc ne z=>by
  simp only[Zo,ZD,Ye]at z
  rcases z with rfl|rfl|z
  .exact ap.oE _ (by simp) hc
  .exact ap.lE _ (by simp) hc
  .exact ne z
 exact⟨q.nd,B,f,⟨of _ _ (d (by simp) p3.1.1) q.lw.tb,hh,of _ _ (d (by simp)<|EC p3.2.1.1) q.lw.md,of _ _ (d (by simp)<|EC p3.2.1.2) q.lw.hl,q.lw.vl,λi v x h1 g=>(q.lw.ve i v x h1 g).off nt of e,λp j=>(q.lw.he p j).off nt of e,q.lw.fr.off nt of e⟩,q.mv,nm,h1,h4⟩
theorem WH:yt (yt (yt (UU hh md hl tw a none) (.inr "old")<|.ref a) (.inr "names")<|.ref ln) (.inr "fresh") (.ref a2)=UU hh md hl tw a2 (some (a,ln)):=rfl
theorem Sd.iH (q:Sd P w K C D H A pl S hs M vs us)(of:Off [A.t,A.b] H H')(tb:H' A.t=some (.dK<|UU A.hh A.md A.hl A.tw a2<|some (A.a,ln)))(B:xu P w K C D H' A.b a2 A.h fq S hs)(hn:H' ln=some (.lst<|(S.map En.nm).map V.str))(G:H ln=none)(F:ln∉fq)(fn:∀c∈fq,H c=none):Sd P w K C D H' { A with a:=a2,fp:=fq,fr:=some (A.a,ln) } pl S hs M vs us/\∀c∈({ A with a:=a2,fp:=fq,fr:=some (A.a,ln) }:Ad).X,c∈A.X\/H c=none:=by
 have ap:=apart q.nd;have p1:=ap.p1;have p3:=ap.p3;simp only[ZY,Zo,ZD,Ye,Vr]at p1 p3;have ex:=q.ex;have f:∀{c},c∈A.X->c∉fq:=λhc z=>by
  obtain⟨o,e⟩:=ex _ hc;rw[fn _ z]at e;cases e
 have g:∀{c},c∈A.b::A.h::fq->c∈A.b::A.h::A.fp\/c∈fq:=λhc=>by
  simp only[Zo]at hc ⊢
  rcases hc with h|h|h<;>simp[h]
 have j:Apart { A with a:=a2,fp:=fq,fr:=some (A.a,ln) }:=⟨λc hc z=>(g hc).elim (λh=>ap.kh c h z)<|λh=>f (Ad.to2 z) h,λc hc z=>(g hc).elim (λh=>ap.oE c h z)<|λh=>f (Ad.to3 z) h,ap.lE,ap.p3,by
  simp only[ZY,Zo,Vr];exact⟨⟨p1.1.1,B.nb⟩,B.nh,B.sh.nodup⟩,ap.p2⟩
 have r:∀c∈({ A with a:=a2,fp:=fq,fr:=some (A.a,ln) }:Ad).X,c∈A.X\/H c=none:=λc hc=>by
  rcases Ad.mY hc with z|z|z
  .exact(g z).imp Ad.oJ (fn c)
  .exact .inl (Ad.to2 z)
  .exact .inl (Ad.to3 z)
 have s:∀c∈[A.t,A.b],c∈({ A with a:=a2,fp:=fq,fr:=some (A.a,ln) }:Ad).X:=λc hc=>by
  simp only[Zo,ZD,Ye]at hc
  rcases hc with rfl|rfl
  .exact Ad.to3 (A:={ A with a:=a2,fp:=fq,fr:=some (A.a,ln) }) (by simp)
  .exact Ad.oJ (A:={ A with a:=a2,fp:=fq,fr:=some (A.a,ln) }) (by simp)
 have nt:UO H [A.t,A.b]:=λc hc=>by
  simp only[Zo,ZD,Ye]at hc
  rcases hc with rfl|rfl
  .exact q.nt _ (Ad.to3<|by simp)
  .exact q.nt _ (Ad.oJ<|by simp)
 have n2:∀{c},c∈A.tw::A.h'::A.fp'->c∉[A.t,A.b]:=λhc z=>by
  simp only[Zo (b:=A.t),Zo (b:=A.b),ZD,Ye]at z
  rcases z with rfl|rfl
  .exact ap.lE _ hc (by simp)
  .exact ap.kh _ (by simp) hc
 have n3:∀{c},c∈[A.t,A.hh,A.md,A.hl]->c≠A.t->c∉[A.t,A.b]:=λhc ne z=>by
  simp only[Zo (b:=A.t),Zo (b:=A.b),ZD,Ye]at z
  rcases z with z|rfl
  .exact ne z
  .exact ap.oE _ (by simp) hc
 have l:∀c∈A.fp,c∉[A.t,A.b]:=λc hc z=>by
  simp only[Zo (b:=A.t),Zo (b:=A.b),ZD,Ye]at z
  rcases z with rfl|rfl
  .exact ap.oE A.t (by simp[hc]) (by simp)
  .exact p1.1.2 hc
 have lw:=q.lw.on r;refine⟨⟨Hl j,B,q.tk.off nt of (n2<|by simp) (n2<|by simp)<|λc hc=>n2<|by simp[hc],⟨tb,of _ _ (n3 (by simp)<|EC p3.1.1) q.lw.hd,of _ _ (n3 (by simp)<|EC p3.1.2.1) q.lw.md,of _ _ (n3 (by simp)<|EC p3.1.2.2) q.lw.hl,q.lw.vl,λi v x h1 y=>(lw.ve i v x h1 y).off nt of s,λp E=>(lw.he p E).off nt of s,?_⟩,q.mv,q.nm,q.h1,q.h4⟩,r⟩;intro z u;cases u;refine⟨A.fp,S,q.bk.sh.off nt of l,q.bk.ok,λc hc z=>?_,hn,λz=>?_⟩
 .rcases Ad.mY z with z|z|z
  .have z:c∈A.b::A.h::fq:=z;simp only[Zo]at z
   rcases z with rfl|rfl|z
   .exact p1.1.2 hc
   .exact p1.2.1 hc
   .exact f (Ad.oJ<|by simp[hc]) z
  .exact ap.kh c (by simp[hc]) z
  .exact ap.oE c (by simp[hc]) z
 .have d:∀{c},c∈A.X->c≠ln:=λhc e=>by
   obtain⟨o,n⟩:=ex _ hc;rw[e,G]at n;cases n
  rcases Ad.mY z with z|z|z
  .exact(g z).elim (λh=>d (Ad.oJ h) rfl) F
  .exact d (Ad.to2 z) rfl
  .exact d (Ad.to3 z) rfl
theorem Fj (b:UI hs x=none):(UH hs x o).map (·.1)=hs.map (·.1)++[x]/\(UH hs x o).length=hs.length+1:=by
 have e:(UH hs x o).map (·.1)=hs.map (·.1)++[x]:=by rw[Xl,ZH (λz=>by have:=wu.mpr z;rw[b]at this;cases this)]
 have:=congrArg List.length e;rw[Zk,ZB,Zk]at this;exact⟨e,this⟩
theorem T5 (nm:hs.map (·.1)=mR.take hs.length)(h1:1<=hs.length)(h4:hs.length<4):∃c,CO (("abcd":Str).cps.toList) (hs.length:Nat)=some c/\z9 ("side"++(⟨#[c]⟩:Str))=true/\UI hs ("side"++(⟨#[c]⟩:Str))=none/\hs.map (·.1)++["side"++(⟨#[c]⟩:Str)]=mR.take (hs.length+1):=by
 have b:∀{x},x∉mR.take hs.length->UI hs x=none:=λ{x} h=>JO.mp λz=>h<|nm▸wu.mp z;have:hs.length=1\/hs.length=2\/hs.length=3:=by lia
 rw[nm]
 rcases this with e|e|e<;>rw[e]at b ⊢
 .exact⟨98,yA (j:=1)<|by decide+kernel,by decide+kernel,b<|by decide+kernel,by decide+kernel⟩
 .exact⟨99,yA (j:=2)<|by decide+kernel,by decide+kernel,b<|by decide+kernel,by decide+kernel⟩
 .exact⟨100,yA (j:=3)<|by decide+kernel,by decide+kernel,b<|by decide+kernel,by decide+kernel⟩
end
namespace Co
abbrev st:Stmt:=top 81
theorem sc:zy ["_law_book","_law_state","_law_paths_here","_law_cell","_law_branches","_law_branch","_law_head","_law_files","_law_more","_law_fresh","_law_at","_law_name"] ["_law_book","_law_state","_law_paths_here","_law_cell"] (zF st):=Cz
include T in
theorem ok (F:yc0 K "_law_deed" st f fd)(Ze:wV P w K mg base 3 "_law_changed" ["_law_files","_law_paths_here","_law_cell","_law_cuts"]<|lY K)(QE:wV P w K mg base 18 "_law_kept" ["_law_book","_law_state","_law_branch","_law_files","_law_words_here"]<|nP P w K aC aD)(QF:wV P w K mg base 2 "_law_words" ["_law_cell"] v6)(Zf:wV P w K mg base 15 "_law_refused" ["_law_book","_law_state","_law_branch","_law_paths_here","_law_cell"]<|mV P w K aC aD)(Zg:wV P w K mg base 17 "_law_no_files" ["_law_book","_law_state","_law_cell"]<|mG P w K aC aD)(Qd:Met P w K mg base aC 1 "names" ["self"]<|ug P w K aC)(QA:iZ P w K mg base aC 5 "Shelf" ["self","base"]<|pP P w K aC)(Zh:Met P w K mg base aD 1 "stand_on" ["self","shelf"]<|pJ P w K aC aD)(Qm:wK P w K mg base aD 8 "begin" ["self","branch","version"]<|sJ P w K aC aD)(Qf:wK P w K mg base aD 7 "set_head" ["self","branch","version"]<|rO P w K aC aD b5):zc P w K mg base CA 19 f fd ["_law_book","_law_state","_law_paths_here","_law_cell"] (oH P w K aC aD):=by
 refine F.ok sc λ_ A _ _ H vs Q E r h=>?_;obtain⟨A,pl,ls,c,n,g,rfl,⟨S,l,M,Y,ws,q,sl,ml,wl⟩,pq,ds,lX,c1,g9,k⟩:=h;refine⟨_,(zD (Cv (i:=4) sc.nd<|zJ (qZ rfl) (by rfl) T.sorted YX<|zA (zM r.zr (pv 1) zz<|λ_ _=>rfl) zB)<|zD (Cv (i:=5) sc.nd<|yB (yx:Cy _<|wU K) (pv 4)<|zV yN (zV xX (pv 3) zH)<|zJ zQ (by rfl) T.len ZZ<|zA (pv 4) zB)<|zD (Cv (i:=6) sc.nd<|zM r.zr (zM r.zr (pv 1) zz<|λ_ _=>rfl) (pv 5)<|λ_ _=>rfl)<|zD (Cv (i:=7) sc.nd qY)<|xQ (yG (zP Nz (pv 6) zH<|zO _) (zE<|Cv (i:=7) sc.nd<|zM r.zr (yB (yx:Cy _<|wU K) (zM r.zr (pv 1) zz<|λ_ _=>rfl)<|pv 6) zz<|λ_ _=>rfl) zR)<|zD (Cv (i:=8) sc.nd<|zV xX (pv 3) zH)<|zD (yG (zP G1 (zV yN (pv 3) zH) zH<|zO _) (zD (Cv (i:=9) sc.nd<|zK Ze r.m<|zA (pv 7)<|zA (pv 2)<|zA (pv 8)<|zA (yK aJ (zV yN (pv 3) zH) zH<|zO _) zB)<|zE<|zL<|zK QE r.m<|zA (pv 0)<|zA (pv 1)<|zA (pv 5)<|zA (pv 9)<|zA (zK QF r.m<|zA (zV xX (pv 8) zH) zB) zB) zR)<|zD (yG (zP xH (zV yN (pv 3) zH) zH<|zO _) (zE<|zL<|zK QE r.m<|zA (pv 0)<|zA (pv 1)<|zA (pv 5)<|zA (pv 7)<|zA (zK QF r.m<|zA (zV qX (pv 8) zH) zB) zB) zR)<|zD (yG (zP xH (zV yN (pv 3) zH) zH<|zO _) (zE<|zL<|y8 (zK Zf r.m<|zA (pv 0)<|zA (pv 1)<|zA (pv 5)<|zA (pv 2)<|zA (pv 8) zB)<|xU<|zK Zg r.m<|zA (pv 0)<|zA (pv 1)<|zA (pv 8) zB) zR)<|xQ (yG (PW.pt<|jC (zP xH (zV yN (pv 3) zH) zH<|zO _)<|jC (zP xH (zV yN (pv 8) zH) zH<|zO _)<|qU<|zP KW (zM r.zr (pv 1) zz<|λ_ _=>rfl) x9<|zO _) (zD (yZ r.zr (pv 1) zz (yP (pv 0) rfl) rfl)<|zD (yZ r.zr (pv 1) zz (z8 xP (by rfl) T.list Yw<|zA (k7 (yP (pv 0) rfl) T.cls Qd r.m) zB) rfl)<|zD (yZ r.zr (pv 1) zz (NC QA r.m<|zA (yP (pv 0) rfl) zB) rfl)<|zE<|yG (zP X5 (jY (pv 0) T.xx Zh r.m<|zA (zM r.zr (pv 1) zz<|λ_ _=>rfl) zB) x9<|zO _) (zE<|zL qN) zR) zR)<|zD (Cv (i:=10) sc.nd<|zV P9 (zV yN (pv 8)<|zV qX (zJ zQ (by rfl) T.len ZZ<|zA (zM r.zr (pv 1) zz<|λ_ _=>rfl) zB) zH) zH)<|zD (Cv (i:=11) sc.nd x9)<|xQ (yG (zP Nz (pv 10) zH<|zO _) (zE<|Cv (i:=11) sc.nd<|zM r.zr (yB (yx:Cy _<|wU K) (zM r.zr (pv 1) zz<|λ_ _=>rfl)<|pv 10) zz<|λ_ _=>rfl) zR)<|xQ (yG (PW.pt<|jC (zP xH (zV yN (pv 3) zH) zH<|zO _)<|qU<|zP G1 (zJ zQ (by rfl) T.len ZZ<|zA (pv 4) zB) zH<|zO _) (zD (Cv (i:=9) sc.nd<|zV zZ zz<|yB CW zz<|zJ zQ (by rfl) T.len ZZ<|zA (pv 4) zB)<|zD (yC<|yE (pv 0) T.xx Qm r.m zX<|zA (pv 9)<|zA (pv 11) zB)<|zD (yC<|yE (zM r.zr (pv 1) zz<|λ_ _=>rfl) T.xx Qm r.m zX<|zA (pv 9)<|zA (pv 11) zB)<|zE<|yZ r.zr (zM r.zr (pv 1) zz<|λ_ _=>rfl) (pv 9) (pv 10) rfl)<|zE<|yG (zP X5 (pv 11) x9<|zO _) (zD (yC<|yE (pv 0) T.xx Qf r.m zX<|zA (pv 5)<|zA (pv 11) zB)<|zD (yC<|yE (zM r.zr (pv 1) zz<|λ_ _=>rfl) T.xx Qf r.m zX<|zA (pv 5)<|zA (pv 11) zB)<|zE<|yZ r.zr (zM r.zr (pv 1) zz<|λ_ _=>rfl) (pv 5) (pv 10) rfl) zR)<|zE<|zL qN),?_⟩
 obtain⟨as,ek⟩:=BM (g:=CF M) l;have h4:=q.h4;have h1:=q.h1;refine⟨_,rfl,A.t,_,rfl,CB q.lw.tb HQ,A.hh,hkg (CF M) l,rfl,.inl q.lw.hd,as,by rw[show(hkg (CF M) l).length=l.length from Zk ..];lia,λl1 ss n1 pm so=>nw n1 λH1 u1 a5=>zT ?_⟩;rw[ek]at pm;have c9:ss.length=l.length:=by rw[pm.length_eq,Zk]
 have q1:=q.same u1;obtain⟨x,hx,ax⟩:∃x∈ss,CO (ss.map V.str) (c / 9 % (((ss.map V.str).length:Nat):Int))=some (.str x):=by
  rw[Zk];obtain⟨j,ej⟩:=Yn (show 0<=c / 9 % ((ss.length:Nat):Int) from UB _ (by lia));have hj:j<ss.length:=by have:=Uf (c / 9) (show(0:Int)<((ss.length:Nat):Int) by lia);lia
  exact⟨ss[j],Yo hj,by rw[ej];exact yA (by rw[Zy,Zv hj];rfl)⟩
 have lx:=wu.mpr<|pm.mem_iff.mp hx;obtain⟨o,ho⟩:=Z6.mp lx;refine⟨_,rfl,_,rfl,_,_,rfl,rfl,⟨by decide,by decide⟩,_,rfl,l1,_,rfl,.inl<|yu.of a5,_,_,rfl,rfl,by rw[Zk];lia,l1,_,_,_,rfl,rfl,yu.of a5,ax,zT ?_⟩;refine⟨_,rfl,A.t,_,rfl,CB q1.lw.tb HQ,_,rfl,A.hh,_,rfl,CB q1.lw.hd (by rw[vW,ho];rfl),zT ?_⟩;refine λc0 c2=>nw c2 λH2 u2 h2=>?_;have s2:=u1.trans u2;have U:=q.same s2;have ex:=q.ex;have an:∀{c},H c=none->c∉A.X:=λhc z=>by
  obtain⟨o,e⟩:=ex _ z;rw[hc]at e;cases e
 refine zT ⟨λD s=>∃cf Dm fs,D=[some<|.ref A.b,some<|.ref A.t,some<|.ref ls,some<|.int c,some<|.ref l1,some<|.str x,some<|CF M o,some<|.ref cf,none,none,none,none]/\s=H2/\H2 cf=some (.dK Dm)/\yp K H2 fs Dm/\wj pl fs/\cf∉A.X,?_,?_⟩
 .cases o with
  |none=>exact⟨_,rfl,_,_,rfl,rfl,_,rfl,GB (by decide) ⟨c0,_,[],rfl,rfl,h2,yp.nil,⟨λf hf=>(nomatch hf),YL⟩,an<|u1.free c2⟩⟩
  |some u =>
   obtain⟨a,z,ai,hz,rfl,cz,lz,kz,hv,hc,fz,_,_,cX,_⟩:=U.lw.ver<|q.bnd ho u rfl;exact⟨_,rfl,_,_,rfl,rfl,_,rfl,FR (Ue _) ⟨_,rfl,A.t,_,rfl,CB U.lw.tb Xe,_,rfl,A.md,_,_,_,rfl,rfl,yu.of U.lw.md,ai,a,_,rfl,CB hv rfl,cz,kz,z.fs,rfl,rfl,hc,fz,q.mv.fs z hz,cX⟩⟩
 rintro D s ⟨cf,Dm,fs,rfl,rfl,hc,ff,fP,cX⟩;have Z:=s2 _ _ ds;have a6:=u2 _ _ a5;refine⟨_,rfl,_,_,rfl,rfl,⟨by decide,by decide⟩,zT ?_⟩;refine⟨_,rfl,_,_,rfl,rfl,(by decide:(0:Int)<9),_,_,rfl,rfl,_,rfl,UM (λ_=>?_)<|λ_=>?_⟩
 .refine⟨_,rfl,_,rfl,_,rfl,_,rfl,_,_,rfl,rfl,(by decide:(0:Int)<9),_,_,rfl,rfl,cf,ls,Dm,fs,pl,_,_,rfl,hc,ff,fP,pq,yu.of Z,λe ke gs H3 s3 ne he fe di=>zT ?_⟩;refine⟨_,rfl,_,rfl,_,rfl,_,rfl,_,rfl,_,_,rfl,rfl,⟨by decide,by decide⟩,_,rfl,λy H4 s4 ly=>?_⟩;have L:=s2.trans<|s3.trans s4;exact⟨A,pl,S,l,M,Y,ws,x,y,e,ke,gs,n,g,rfl,q.same L,pq,lx,s4 _ _ he,fe.same s4,di,an<|s2.free ne,ly,sl,ml,wl,c1,g9,λI G q5=>k A I rfl rfl (λc hc=>.inl hc) (λb u nb eb=>G _ _ nb<|L _ _ eb) q5⟩
 refine⟨_,rfl,_,_,rfl,rfl,(by decide:(0:Int)<9),rfl,_,rfl,UM (λ_=>?_)<|λ_=>?_⟩
 .refine⟨_,rfl,_,rfl,_,rfl,_,rfl,_,rfl,_,_,rfl,rfl,_,rfl,λy H4 s4 ly=>?_⟩;have L:=s2.trans s4;exact⟨A,pl,S,l,M,Y,ws,x,y,cf,Dm,fs,n,g,rfl,q.same L,pq,lx,s4 _ _ hc,ff.same s4,fP,cX,ly,sl,ml,wl,c1,g9,λI G q5=>k A I rfl rfl (λc hc=>.inl hc) (λb u nb eb=>G _ _ nb<|L _ _ eb) q5⟩
 refine⟨_,rfl,_,_,rfl,rfl,(by decide:(0:Int)<9),rfl,_,rfl,UM (λ_=>?_)<|λ_=>?_⟩
 .refine⟨_,rfl,_,rfl,_,rfl,_,rfl,_,rfl,A,pl,S,l,M,Y,ws,x,ls,_,rfl,U,pq,lx,yu.of Z,λH3 s3=>⟨_,rfl,UF ⟨_,rfl,_,rfl,_,rfl,A,pl,S,l,M,Y,ws,_,rfl,U.same s3,λH4 s4=>?_⟩⟩⟩;have L:=s2.trans<|s3.trans s4;exact k A H4 rfl rfl (λc hc=>.inl hc) (Off.of L)<|pD.up ⟨S,l,M,Y,ws,q.same L,sl,ml,wl⟩
 refine⟨λD s=>∃d,D=[some<|.ref d.b,some<|.ref d.t,some<|.ref ls,some<|.int c,some<|.ref l1,some<|.str x,some<|CF M o,some<|.ref cf,some<|.int<|c / 36,none,none,none]/\d.b=A.b/\d.t=A.t/\(∀c∈d.X,c∈A.X\/H c=none)/\Off A.X H s/\Sd P w K aC aD s d pl S l M Y ws/\s l1=some (.lst<|ss.map V.str),?_,?_⟩
 .have stay:∃d,[some<|V.ref A.b,some<|V.ref A.t,some<|V.ref ls,some<|V.int c,some<|V.ref l1,some<|V.str x,some<|CF M o,some<|V.ref cf,some<|V.int<|c / 36,none,none,none]=[some<|V.ref d.b,some<|V.ref d.t,some<|V.ref ls,some<|V.int c,some<|V.ref l1,some<|V.str x,some<|CF M o,some<|V.ref cf,some<|V.int<|c / 36,none,none,none]/\d.b=A.b/\d.t=A.t/\(∀c∈d.X,c∈A.X\/H c=none)/\Off A.X H s/\Sd P w K aC aD s d pl S l M Y ws/\s l1=some (.lst<|ss.map V.str):=⟨A,rfl,rfl,rfl,λc hc=>.inl hc,Off.of s2,U,a6⟩;refine⟨_,rfl,_,_,rfl,rfl,(by decide:(0:Int)<9),rfl,_,rfl,UM (λ_=>⟨_,rfl,_,_,rfl,rfl,(by decide:(0:Int)<5),rfl,_,rfl,UM (λ_=>⟨_,rfl,A.t,_,rfl,CB U.lw.tb RC,?_⟩) λ_=>UC stay⟩) λ_=>UC stay⟩;cases ef:A.fr with
  |some z=>exact⟨rfl,_,rfl,UC stay⟩
  |none =>
   refine⟨rfl,_,rfl,UF ?_⟩;have ca:=U.lw.tb;rw[ef]at ca;obtain⟨dx,hb⟩:=U.bk.ob;have ap:=apart q.nd;have bt:A.b≠A.t:=λz=>ap.oE A.b (by simp) (by rw[z];simp);refine⟨_,rfl,A.b,aD,dx,_,_,rfl,hb,T.xx,T.m1,rfl,_,rfl,A.t,_,rfl,.inl ⟨_,.inr "old",ca,rfl,yJ (by show 5<16777216;decide),rfl⟩,?_⟩;have N:∀{Hq:Hp} {kq},Hq A.t=some (.dK kq)->UO Hq [A.t]:=λe=>Iw e (λ_ z=>nomatch z)<|λ_ _ z=>nomatch z;have B:∀{c},c∈A.b::A.h::A.fp->c∉[A.t]:=λhc z=>ap.oE _ hc (by rw[Zl.mp z];simp);have al:=zY (H:=s) (c:=A.t) (o:=.dK<|yt (UU A.hh A.md A.hl A.tw A.a none) (.inr "old")<|.ref A.a);have cd:=zC (H:=s) (a:=A.t) (o:=.dK<|yt (UU A.hh A.md A.hl A.tw A.a none) (.inr "old")<|.ref A.a);generalize upd s A.t (.dK<|yt (UU A.hh A.md A.hl A.tw A.a none) (.inr "old")<|.ref A.a)=Ha at al cd ⊢;have Ba:=U.bk.off (N ca) al (B<|by simp) (B<|by simp) (λc hc=>B<|by simp[hc]);obtain⟨dd,dl⟩:=Ba.ob;obtain⟨dh,_,_,_,dt⟩:=HS Ba.sh;refine⟨_,rfl,A.b,aD,dd,_,_,rfl,dl,T.xx,T.m1,rfl,A.a,dh,_,rfl,dt,rfl,A.a,A.fp,S,rfl,Ba.sh,λln dy=>?_⟩;rw[X7];refine nw dy λHb ub dn=>⟨ln,_,rfl,.inl<|yu.of dn,λlm ah=>nw ah λHc uc dp=>?_⟩;have a2:=ub.trans uc;have da:=a2 _ _ cd;refine⟨_,rfl,A.t,_,rfl,.inl ⟨_,.inr "names",da,rfl,yJ (by show 6<16777216;decide),rfl⟩,?_⟩;have am:=zY (H:=Hc) (c:=A.t) (o:=.dK<|yt (yt (UU A.hh A.md A.hl A.tw A.a none) (.inr "old")<|.ref A.a) (.inr "names")<|.ref lm);have a3:=zC (H:=Hc) (a:=A.t) (o:=.dK<|yt (yt (UU A.hh A.md A.hl A.tw A.a none) (.inr "old")<|.ref A.a) (.inr "names")<|.ref lm);generalize upd Hc A.t (.dK<|yt (yt (UU A.hh A.md A.hl A.tw A.a none) (.inr "old")<|.ref A.a) (.inr "names")<|.ref lm)=Hd at am a3 ⊢;have Bd:=(Ba.same a2).off (N da) am (B<|by simp) (B<|by simp) (λc hc=>B<|by simp[hc]);have a9:lm∉[A.t]:=λz=>by rw[Zl.mp z,ub _ _ cd]at ah;cases ah
   have cx:=am _ _ a9 dp;obtain⟨de,cp⟩:=Bd.ob;refine⟨_,rfl,A.b,aD,de,_,_,rfl,cp,T.xx,T.m1,rfl,λx3 dc c5 ad a1=>⟨x3,dc,.ref A.a,S,rfl,zC,by rw[zI a1];exact zC,a1,.inr ⟨A.a,A.fp,rfl,Bd.sh.same<|(zG ad).trans<|zG<|by rwa[zI<|EC a1],Bd.sh.ex.not c5,Bd.sh.ex.not ad,by lia⟩,λfq He dq c8 d0=>⟨rfl,?_⟩⟩⟩;obtain⟨se,co⟩:=uJ c5 ad a1 dq c8;have ch:=se _ _ a3;refine⟨_,rfl,A.t,_,rfl,.inl ⟨_,.inr "fresh",ch,rfl,yJ (by show 7<16777216;decide),rfl⟩,?_⟩;rw[WH];have J:=zY (H:=He) (c:=A.t) (o:=.dK<|UU A.hh A.md A.hl A.tw x3<|some (A.a,lm));have cl:=zC (H:=He) (a:=A.t) (o:=.dK<|UU A.hh A.md A.hl A.tw x3<|some (A.a,lm));generalize upd He A.t (.dK<|UU A.hh A.md A.hl A.tw x3<|some (A.a,lm))=Hf at J cl ⊢;have Bf:=(Bd.same se).off (N ch) J (B<|by simp) (B<|by simp) (λc hc=>B<|by simp[hc]);have nq:∀{c u},Hd c=some u->c∉fq:=λe z=>by rw[co _ z]at e;cases e
   have d1:=d0.off (N ch) J<|λc hc z=>nq a3<|Zl.mp z▸hc;obtain⟨df,dm⟩:=Bf.ob;refine⟨_,rfl,A.b,df,_,rfl,dm,rfl,_,rfl,A.t,_,rfl,CB cl RC,A.b,A.a,A.h,x3,A.fp,fq,S,l,rfl,Bf,d1,nq cp,nq Bd.hd,λHg bv Bg=>⟨rfl,_,rfl,UC ?_⟩⟩;have tA:∀{c},c∉[A.t,A.b]->c∉[A.t]/\c∉[A.b]:=λh=>⟨λz=>h (by rw[Zl.mp z];simp),λz=>h (by rw[Zl.mp z];simp)⟩;have bm:Off [A.t,A.b] s Hg:=λb u nb e=>bv _ _ (tA nb).2<|J _ _ (tA nb).1<|se _ _<|am _ _ (tA nb).1<|a2 _ _<|al _ _ (tA nb).1 e;have a8:s lm=none:=by
    cases e:s lm with
    |none=>rfl
    |some u=>rw[ub _ _<|al _ _ a9 e]at ah;cases ah
   have du:lm∉[A.b]:=λz=>by rw[Zl.mp z,hb]at a8;cases a8
   have new:∀{c},Hd c=none->s c=none:=λ{c} e=>by
    cases e':s c with
    |none=>rfl
    |some u =>
     by_cases ct:c∈[A.t]
     .rw[Zl.mp ct,a3]at e;cases e
     .rw[am _ _ ct<|a2 _ _<|al _ _ ct e']at e;cases e
   obtain⟨qg,xg⟩:=U.iH bm (bv _ _ (λz=>bt (Zl.mp z).symm) cl) Bg (bv _ _ du<|J _ _ a9<|se _ _ cx) a8 (nq cx) (λc hc=>new<|co c hc);exact⟨{ A with a:=x3,fp:=fq,fr:=some (A.a,lm) },rfl,rfl,rfl,λc hc=>(xg c hc).imp id s2.free,λb u nb e=>bm _ _ (λz=>nb (by
    simp only[Zo,ZD,Ye]at z
    rcases z with rfl|rfl
    .exact Ad.to3 (by simp)
    .exact Ad.oJ (by simp))) (s2 _ _ e),qg,bm _ _ (λz=>an n1 (by
    simp only[Zo,ZD,Ye]at z
    rcases z with z|z
    .rw[z];exact Ad.to3 (by simp)
    .rw[z];exact Ad.oJ<|by simp)) a6⟩
 rintro D H3 ⟨d,rfl,eb,et,xA,c7,C,cv⟩;clear U q1 h2 u2 u1 s2 Z a6 hc ff;have vl:=C.lw.vl;refine⟨_,rfl,_,rfl,d.t,_,rfl,CB C.lw.tb Xe,d.md,_,rfl,.inl<|yu.of C.lw.md,_,_,rfl,rfl,_,_,rfl,rfl,by lia,_,_,rfl,rfl,zT ?_⟩;obtain⟨i,ei⟩:∃i,i=c / 36 % ((((Y.map V.ref).length:Nat):Int)+1)-1:=⟨_,rfl⟩;have i0:-1<=i/\i<M.length:=by
  rw[Zk,vl]at ei;have:=UB (c / 36) (show((M.length:Nat):Int)+1≠0 by lia);have:=Uf (c / 36) (show(0:Int)<((M.length:Nat):Int)+1 by lia);lia
 dsimp only;rw[<-ei];refine⟨λD s=>∃p,D=[some<|.ref d.b,some<|.ref d.t,some<|.ref ls,some<|.int c,some<|.ref l1,some<|.str x,some<|CF M o,some<|.ref cf,some<|.int<|c / 36,none,some<|.int i,some<|oV p]/\s=H3/\(∀v,p=some v->v∈M.map Vn.n)/\CF M p=.int i,⟨_,rfl,_,_,rfl,rfl,_,rfl,UM (λz=>?_)<|λz=>?_⟩,?_⟩
 .have z:0<=i:=ZI z;obtain⟨j,rfl⟩:=Yn z;have hj:j<M.length:=by lia
  have hM:=Zv hj;have hu:=Zv (show j<Y.length by lia);obtain⟨cz,lz,kz,hv,_⟩:=C.lw.ve j _ _ hu hM;refine⟨_,rfl,d.t,_,rfl,CB C.lw.tb Xe,_,rfl,d.md,_,_,_,rfl,rfl,yu.of C.lw.md,yA (by rw[Zy,hu];rfl),Y[j],_,rfl,CB hv rfl,some M[j].n,rfl,rfl,λv e=>?_,?_⟩
  .cases e;exact Zr.mpr ⟨_,Yo hj,rfl⟩
  .show V.int ((M.map Vn.n).idxOf M[j].n:Nat)=_;have:=q.mv.nd.idxOf_getElem j (by rwa[Zk]);rw[Z9]at this;rw[this]
 .exact⟨none,rfl,rfl,λv e=>(nomatch e),by
   have z:¬0<=i:=λy=>z<|Zq y;rw[show i=-1 by lia];rfl⟩
 rintro D H4 ⟨p,rfl,rfl,pv,ip⟩;have fv:∀v,p=some v->zW S v ["note"]=true:=λv e=>by
  obtain⟨z,hz,rfl⟩:=Zr.mp<|pv v e;obtain⟨t,h⟩:=q.mv.nt z hz;exact Tn h.nt
 obtain⟨dx,hb⟩:=C.bk.ob;have ap:=apart C.nd;have p3:=ap.p3;simp only[ZY,Zo,ZD,Ye,Vr]at p3;have N:UO H4 [d.h]:=λc hc=>by rw[Zl.mp hc];exact C.bk.nt _ (by simp)
 have O:∀{c},c∈d.tw::d.h'::d.fp'->c∉[d.h]:=λhc z=>ap.kh _ (by rw[Zl.mp z];simp) hc;have bh:∀{c},c∈d.b::d.h::d.fp->c∉[d.h']:=λhc z=>ap.kh _ hc (by rw[Zl.mp z];simp);have a0:∀{c},c∈[d.t,d.hh,d.md,d.hl]->c∉[d.h]:=λhc z=>ap.oE _ (by rw[Zl.mp z];simp) hc;have ab:∀{c},c∈[d.t,d.hh,d.md,d.hl]->c∉[d.h']:=λhc z=>ap.lE _ (by rw[Zl.mp z];simp) hc;have fin:∀{I R:Hp} {y:Str},Off [d.h] H4 I->xu P w K aC aD I d.b d.a d.h d.fp S (UH l y p)->Off [d.h'] I R->xu P w K aC aD R d.tw d.a' d.h' d.fp' S (UH l y p)->(UH l y p).map (·.1)=mR.take (UH l y p).length->1<=(UH l y p).length->(UH l y p).length<=4->Q (.bl true) (upd R d.hh<|.dK<|hkg (CF M)<|UH l y p):=λ{I R y} G B5 o6 B6 c3 dj dk=>by
  have dz:UO I [d.h']:=λc hc=>by
   rw[Zl.mp hc];exact(C.tk.off N G (O<|by simp) (O<|by simp)<|λc hc=>O<|by simp[hc]).nt _ (by simp)
  have dr:R d.hh=some (.dK<|hkg (CF M) l):=o6 _ _ (ab<|by simp) (G _ _ (a0<|by simp) C.lw.hd);have c4:UO R [d.hh]:=Iw dr (λ_ z=>nomatch z)<|λ_ _ z=>nomatch z;have o7:=zY (H:=R) (c:=d.hh) (o:=.dK<|hkg (CF M)<|UH l y p);have e7:=zC (H:=R) (a:=d.hh) (o:=.dK<|hkg (CF M)<|UH l y p);generalize upd R d.hh (.dK<|hkg (CF M)<|UH l y p)=H7 at o7 e7 ⊢;have m1:∀{c},c∈d.b::d.h::d.fp->c∉[d.hh]:=λhc z=>ap.oE _ hc (by rw[Zl.mp z];simp);have m2:∀{c},c∈d.tw::d.h'::d.fp'->c∉[d.hh]:=λhc z=>ap.lE _ hc (by rw[Zl.mp z];simp);have c6:Off [d.h,d.h',d.hh] H4 H7:=λb u nb e=>by
   simp only[Zo,ZD,Ye,Vr]at nb;exact o7 _ _ (λz=>nb.2.2<|Zl.mp z) (o6 _ _ (λz=>nb.2.1<|Zl.mp z) (G _ _ (λz=>nb.1<|Zl.mp z) e))
  have q7:=C.heads c6 ((B5.off dz o6 (bh<|by simp) (bh<|by simp)<|λc hc=>bh<|by simp[hc]).off c4 o7 (m1<|by simp) (m1<|by simp) (λc hc=>m1<|by simp[hc])) (B6.off c4 o7 (m2<|by simp) (m2<|by simp)<|λc hc=>m2<|by simp[hc]) e7 c3 dj dk;refine k d H7 eb et xA (λb u nb e=>?_)<|pD.up ⟨S,_,M,Y,ws,q7,sl,ml,wl⟩;have e4:=c7 b u nb e;have dv:b∉d.X:=λz=>(xA b z).elim nb (λz=>by rw[z]at e;cases e);refine c6 _ _ (λz=>dv ?_) e4;simp only[Zo,ZD,Ye]at z
  rcases z with rfl|rfl|rfl
  .exact Ad.oJ (by simp)
  .exact Ad.to2 (by simp)
  .exact Ad.to3 (by simp)
 have db:∀{I:Hp},Off [d.h] H4 I->xu P w K aC aD I d.tw d.a' d.h' d.fp' S l/\I d.t=some (.dK<|UU d.hh d.md d.hl d.tw d.a d.fr):=λG=>⟨C.tk.off N G (O<|by simp) (O<|by simp)<|λc hc=>O<|by simp[hc],G _ _ (a0<|by simp) C.lw.tb⟩;have put:∀{y:Str},yt (hkg (CF M) l) (.inr y) (.int i)=hkg (CF M) (UH l y p):=λ{y}=>by rw[<-ip,CU]
 have cr:(hkg (CF M) l).length<16777216:=by rw[show(hkg (CF M) l).length=l.length from Zk ..];lia
 refine⟨λ_ s=>Q (.bl true) s,⟨_,rfl,_,_,rfl,rfl,(by decide:(0:Int)<9),rfl,_,rfl,UM (λ_=>⟨_,rfl,l1,_,rfl,.inl<|yu.of cv,_,_,rfl,rfl,_,rfl,UM (λz=>?a)<|λ_=>?b⟩) (λ_=>UC ?c)⟩,λD s h=>h⟩
 case a =>
  have z:(((ss.map V.str).length:Nat):Int)<4:=ZI z;rw[Zk,c9]at z;obtain⟨cc,ac,la,lk,c3⟩:=T5 q.nm h1 (by lia);refine⟨_,rfl,l1,_,rfl,.inl<|yu.of cv,_,_,cc,rfl,rfl,zp<|by decide+kernel,by rw[Zk,c9];exact ac,_,_,rfl,rfl,zp<|show("side":Str).length+1<=16777216 by decide+kernel,zT ?_⟩;obtain⟨sn,sz⟩:=Fj (o:=p) lk;refine⟨_,rfl,d.b,dx,_,rfl,hb,rfl,_,rfl,_,rfl,d.b,d.a,d.h,d.fp,S,l,_,p,rfl,C.bk,by lia,la,lk,fv,λI G B5=>?_⟩;obtain⟨av,au⟩:=db G;obtain⟨a4,a7⟩:=av.ob;refine⟨_,rfl,d.t,_,rfl,CB au RE,d.tw,a4,_,rfl,a7,rfl,_,rfl,_,rfl,d.tw,d.a',d.h',d.fp',S,l,_,p,rfl,av,by lia,la,lk,fv,λR o6 B6=>?_⟩;refine⟨_,rfl,_,rfl,d.t,_,rfl,CB (o6 _ _ (ab<|by simp) au) HQ,_,rfl,d.hh,_,rfl,.inl ⟨_,.inr _,o6 _ _ (ab<|by simp)<|G _ _ (a0<|by simp) C.lw.hd,rfl,yJ cr,rfl⟩,?_⟩;rw[put];exact fin G B5 o6 B6 (by rwa[sn,sz]) (by lia) (by lia)
 case b|c =>
  refine⟨_,rfl,rfl,_,rfl,?_⟩;cases p with
  |none=>exact UC<|k d H4 eb et xA c7<|pD.up ⟨S,l,M,Y,ws,C,sl,ml,wl⟩
  |some v =>
   obtain⟨sn,sz⟩:=HR (o:=some v) lx;refine UF ⟨_,rfl,d.b,dx,_,rfl,hb,rfl,_,rfl,_,rfl,d.b,d.a,d.h,d.fp,S,l,x,v,rfl,C.bk,by lia,lx,λz=>(by rw[fv v rfl]at z;cases z),λ_ I e5 B5=>?_⟩;have G:Off [d.h] H4 I:=e5▸zY;obtain⟨av,au⟩:=db G;obtain⟨a4,a7⟩:=av.ob;refine⟨_,rfl,d.t,_,rfl,CB au RE,d.tw,a4,_,rfl,a7,rfl,_,rfl,_,rfl,d.tw,d.a',d.h',d.fp',S,l,x,v,rfl,av,by lia,lx,λz=>(by rw[fv v rfl]at z;cases z),λ_ R e6 B6=>?_⟩;have o6:Off [d.h'] I R:=e6▸zY;refine⟨_,rfl,_,rfl,d.t,_,rfl,CB (o6 _ _ (ab<|by simp) au) HQ,_,rfl,d.hh,_,rfl,.inl ⟨_,.inr x,o6 _ _ (ab<|by simp)<|G _ _ (a0<|by simp) C.lw.hd,rfl,yJ cr,rfl⟩,?_⟩;rw[put];exact fin G B5 o6 B6 (by rw[sn,sz];exact q.nm) (by lia) (by lia)
end Co
inductive oZ (K:Cq)(vs:Dj)(H:Hp)(Q:VK)(e3:XK):Prop
 |mk (a:Eo) (ns:List Int) (h0:vs=[.ref a]) (h1:yu K H a<|ns.map V.int) (h2:ns.length<=63) (h3:∀H',Q (.bl true) H'):oZ K vs H Q e3
section
variable {P:Er}{w:Eu}{K:Cq}{C D:Eo}{H H':Hp}{A:Ad}{pl:List Da}{S:Di}{hs:Hs}{M:List Vn}{vs us:Dd}{n g:Nat}{b a h:Eo}{fp:Dd}
theorem pD.more {m:Nat}(q:pD P w K C D H A pl n g)(l:g<=m):pD P w K C D H A pl n m:=by
 obtain⟨S,hs,M,vs,us,h,a,b,c⟩:=q;exact ⟨S,hs,M,vs,us,h,a,b,Yk c l⟩
theorem xu.nodup (B:xu P w K C D H b a h fp S hs):(b::h::fp).Nodup:=by
 obtain⟨c,hb⟩:=B.ob;simp only[ZY,Zo,Vr];exact⟨⟨λz=>(by rw[z,B.hd]at hb;cases hb),B.nb⟩,B.nh,B.sh.nodup⟩
theorem Sd.zq (q:Sd P w K C D H A pl S hs M vs us)(l:Ps pl){i:Nat}{v:Eo}(hv:vs[i]?=some v)(u:us.length<1000){j:Int}{Q:VK}{E:XK}(k:∀p H',Off [A.hl] H H'->Sd P w K C D H' A pl S hs M vs (us++[p])->Q (.bl true) H'):tM P w K C D [.ref A.b,.ref v,.ref A.hl,.int j] H Q E:=by
 have g:i<M.length:=by rw[<-q.lw.vl];exact(ZJ.mp hv).1
 have n:=Zv g;have d:=Yo g;obtain⟨t,nt⟩:=q.mv.nt _ d;have f:=q.mv.fs _ d;have nh:∀{c},c∈A.b::A.h::A.fp->c≠A.hl:=λhc z=>(apart q.nd).oE _ hc (by rw[z];simp);exact⟨A.b,A.a,A.h,v,A.hl,A.fp,A.X,S,hs,M[i],t,us.map V.ref,j,rfl,q.bk,q.lw.ve i v _ hv n,nt,f.good l,(f.len l).1,q.mv.ly _ d,uQ q.bk.ok nt.nt,q.lw.hl,by rw[Zk];exact u,Ad.to3<|by simp,nh<|by simp,nh<|by simp,λz=>nh (by simp[z]) rfl,λp x y H' o e s nx r hd=>k p H' o<|q.held o e s nx r hd⟩
end
namespace Cp
abbrev st:Stmt:=top 83
theorem sc:zy ["_law_script","_law_book","_law_paths_here","_law_state","_law_many","_law_k","_law_turn","_law_made","_law_at","_law_version"] ["_law_script"] (zF st):=Cz
include T in
theorem ok (F:yc0 K "law" st f fd)(QG:iZ P w K mg base aD 7 "Annals" ["self"]<|qb P w K aC aD)(Qm:wK P w K mg base aD 8 "begin" ["self","branch","version"]<|sJ P w K aC aD)(Zi:wV P w K mg base 2 "_law_paths" ["_law_script"]<|pN K)(Qn:wV P w K mg base 1 "_law_cell_at" ["_law_script","_law_k"]<|pK K)(Zj:wV P w K mg base 19 "_law_deed" ["_law_book","_law_state","_law_paths_here","_law_cell"]<|oH P w K aC aD)(QH:wV P w K mg base 2 "_law_stands" ["_law_book","_law_state"]<|rK P w K aC aD)(Qo:wV P w K mg base 17 "_law_reads" ["_law_book","_law_version","_law_held","_law_turn"]<|tM P w K aC aD):zc P w K mg base CA 20 f fd ["_law_script"] (oZ K):=by
 refine F.ok sc λ_ A _ _ H L Q E n h=>?_;obtain⟨sa,ns,rfl,ab,Dq,kQ⟩:=h;refine⟨_,(zD (Cv (i:=1) sc.nd<|Hw QG n.m)<|zD (yC<|yE (pv 1) T.xx Qm n.m zX<|zA zz<|zA x9 zB)<|zD (Cv (i:=2) sc.nd<|zK Zi n.m<|zA (pv 0) zB)<|zD (Cv (i:=3) sc.nd<|jN (yI zz (jN (yI zz (aM WY zH) jP) rfl rfl (by simp)<|by decide)<|yI zz (yT zB)<|yI zz x9<|yI zz (yT zB)<|yI zz (Hw QG n.m) jP) rfl rfl (by simp)<|by decide)<|zD (yC<|yE (zM n.zr (pv 3) zz<|λ_ _=>rfl) T.xx Qm n.m zX<|zA zz<|zA x9 zB)<|zD (Cv (i:=4) sc.nd<|yB (yx:Cy _<|wU K) (yT<|zA zH<|zA zH<|zA zH zB)<|zV yN (zK Qn n.m<|zA (pv 0)<|zA zH zB) zH)<|zD (qS Lb rfl (GW rfl T.range<|zA zH<|zA (zJ (N2 rfl) (by rfl) T.min PyProof.Rows.boot_min<|zA (zJ zQ (by rfl) T.len ZZ<|zA (pv 0) zB)<|zA (zV qX zH<|pv 4) zB) zB) (z6 (i:=5) sc.nd rfl<|EU rfl)<|zD (yG (yS<|zU (K:=K)<|zK Zj n.m<|zA (pv 1)<|zA (pv 3)<|zA (pv 2)<|zA (yB (yx:Cy _<|wU K) (pv 0)<|pv 5) zB) (zE<|zL qN) zR)<|zD (Cv (i:=6) sc.nd<|zV xX (yB (yx:Cy _<|wU K) (pv 0)<|pv 5) zH)<|xQ (yG (PW.pt<|jC (zP xH (zV yN (pv 6) zH) zH<|zO _)<|qU<|yS<|zU (K:=K)<|zK QH n.m<|zA (pv 1)<|zA (pv 3) zB) (zE<|zL qN) zR)<|zD (Cv (i:=7) sc.nd<|zM n.zr (pv 3) zz<|λ_ _=>rfl)<|zD (Cv (i:=8) sc.nd<|zV yN (zV xX (yB (yx:Cy _<|wU K) (pv 0)<|pv 5) zH)<|zJ (G0 rfl) (by rfl) T.max PyProof.Rows.boot_max<|zA zH<|zA (zJ zQ (by rfl) T.len ZZ<|zA (pv 7) zB) zB)<|xQ (yG (PW.pt<|jC (zP (P6 n.vq) (pv 7) (yT zB)<|zO _)<|qU<|yS<|zU (K:=K)<|zK Qo n.m<|zA (pv 1)<|zA (yB (yx:Cy _<|wU K) (pv 7)<|pv 8)<|zA (zM n.zr (pv 3) zz<|λ_ _=>rfl)<|zA (zV xX (pv 6) zH) zB) (zE<|zL qN) zR)<|zE<|yG (yS<|zU (K:=K)<|zK QH n.m<|zA (pv 1)<|zA (pv 3) zB) (zE<|zL qN) zR)<|zD (qS Lb rfl (SL rfl T.enumerate<|zA (zM n.zr (pv 3) zz<|λ_ _=>rfl) zB) (Xq rfl<|y9 (z6 (i:=8) sc.nd rfl<|EU rfl)<|y9 (z6 (i:=9) sc.nd rfl<|EU rfl) kO)<|zE<|yG (yS<|zU (K:=K)<|zK Qo n.m<|zA (pv 1)<|zA (pv 9)<|zA (zM n.zr (pv 3) zz<|λ_ _=>rfl)<|zA (pv 8) zB) (zE<|zL qN) zR)<|zE<|zL<|yK (vK n.units) (xL (sc:=zF st) (N:=["_law_script","_law_book","_law_paths_here","_law_state","_law_many","_law_k","_law_turn","_law_made","_law_at","_law_version"]) (N':=["_law_pair"]) (src:=[none]) .a rfl rfl rfl (jL<|zM n.zr (pv 3) zz<|λ_ _=>rfl) (λ_ _ _ _=>(z6 (i:=0) (show(["_law_pair"]:Da).Nodup by decide+kernel) rfl (EU rfl))) (λ_ _ _ _=>(Rj<|zP (Sy (K:=K) n.vq) (yB (yw:Cy _<|wZ K) (pv 0) zH) (yB (yw:Cy _<|wZ K) (pv 0) zH)<|zO _)) (λ_ _ _ _=>(pv 0))) (yT zB) (zO _)),?_⟩
 have al:∀{H:Hp} {h1:Eo} {g:Dd} {x dx:Eo},(∀c∈g,H c=none)->H h1=none->∀c∈h1::g,c=x\/c=dx\/H c=none:=λf h c hc=>.inr<|.inr<|(Zo.mp hc).elim (λe=>e▸h)<|f c;refine λx1 c3 cd bh a4=>⟨x1,c3,rfl,zC,by rw[zI a4];exact zC,a4,λa1 h1 g H1 a8 ct bv B1=>⟨rfl,zT ?_⟩⟩;obtain⟨s1,jz⟩:=uJ (fp:=h1::g) cd bh a4 (al a8 ct) bv;obtain⟨c5,hb⟩:=B1.ob;refine⟨_,rfl,x1,c5,_,rfl,hb,rfl,x1,a1,h1,g,[],[],"main",none,rfl,B1,by decide,by decide+kernel,rfl,λv e=>(nomatch e),λH2 o2 B2=>?_⟩;rw[show UH [] "main" none=[(("main":Str),(none:Option Str))] from rfl]at B2;have s2:zx H H2:=λb u e=>o2 b u (λz=>by rw[Zl.mp z,jz h1<|by simp]at e;cases e) (s1 _ _ e);have bt:∀c∈x1::h1::g,H c=none:=λc hc=>(Zo.mp hc).elim (λe=>e▸cd)<|jz c;clear bv a8 ct B1 hb s1 o2 jz cd bh a4;refine⟨_,rfl,sa,ns,rfl,s2.seq ab,λr R H3 s3 c0 Z pq=>zT ?_⟩;have a7:=s2.trans s3;have B3:=B2.same s3;refine λt nt=>?_;have ut:=zG (o:=.dK []) nt;have ht:=zC (H:=H3) (a:=t) (o:=.dK []);generalize upd H3 t (.dK [])=H4 at ut ht ⊢;refine λhh ac=>⟨_,rfl,zC,[(.inr "main",.int<|-1)],rfl,by show 1<=15;decide,?_⟩;rw[show x8 [] [((.inr "main":Key),V.int<|-1)]=[(.inr "main",.int<|-1)] from rfl];have uh:=An.zx.rC (o:=.dK [((.inr "main":Key),V.int<|-1)]) (zG (o:=.dK []) ac) ac;have G:=zC (H:=upd H4 hh<|.dK []) (a:=hh) (o:=.dK [((.inr "main":Key),V.int<|-1)]);generalize upd (upd H4 hh<|.dK []) hh (.dK [((.inr "main":Key),V.int<|-1)])=H5 at uh G ⊢;refine⟨UD 0,λmd I=>nw I λH6 u6 h6=>⟨UD 0,λhl s=>nw s λH7 u7 h7=>?_⟩⟩;refine λD c4 cf bl a5=>⟨D,c4,rfl,zC,by rw[zI a5];exact zC,a5,λa2 h2 B H8 a9 cv ca B8=>⟨rfl,?_⟩⟩;obtain⟨s8,co⟩:=uJ (fp:=h2::B) cf bl a5 (al a9 cv) ca;have O:∀c∈D::h2::B,H7 c=none:=λc hc=>(Zo.mp hc).elim (λe=>e▸cf)<|co c;have ch:=uh.trans<|u6.trans u7;have t7:=ch _ _ ht;refine⟨s8 _ _ t7,UU hh md hl D a1 none,rfl,by show 5<=15;decide,?_⟩;rw[show x8 [] (UU hh md hl D a1 none)=UU hh md hl D a1 none from rfl];have ad:=ut.trans ch;have s9:=An.zx.rC (o:=.dK<|UU hh md hl D a1 none) (ad.trans s8) nt;have o9:=zY (H:=H8) (c:=t) (o:=.dK<|UU hh md hl D a1 none);have t9:=zC (H:=H8) (a:=t) (o:=.dK<|UU hh md hl D a1 none);generalize upd H8 t (.dK<|UU hh md hl D a1 none)=H9 at s9 o9 t9 ⊢;have c1:UO H8 [t]:=Iw (s8 _ _ t7) (λ_ z=>nomatch z)<|λ_ _ z=>nomatch z;have J:∀{c u},H7 c=some u->c∉D::h2::B:=λe z=>by rw[O _ z]at e;cases e
 have a3:∀{c},c∈D::h2::B->c∉[t]:=λhc z=>J t7<|Zl.mp z▸hc;have B9:=B8.off c1 o9 (a3<|by simp) (a3<|by simp) (λc hc=>a3<|by simp[hc]);obtain⟨c6,cr⟩:=B9.ob;refine zT ⟨_,rfl,t,_,rfl,CB t9 RE,D,c6,_,rfl,cr,rfl,D,a2,h2,B,[],[],"main",none,rfl,B9,by decide,by decide+kernel,rfl,λv e=>(nomatch e),λU a6 as=>?_⟩;rw[show UH [] "main" none=[(("main":Str),(none:Option Str))] from rfl]at as;have av:∀c∈[t,hh,md,hl],H3 c=none:=λc hc=>by
  simp only[Zo,ZD,Ye]at hc
  rcases hc with rfl|rfl|rfl|rfl
  .exact nt
  .exact ut.free ac
  .exact(ut.trans uh).free I
  .exact((ut.trans uh).trans u6).free s
 have cl:∀c∈[t,hh,md,hl],∃u,H7 c=some u/\(c≠t->U c=some u):=λc hc=>by
  have go:∀{c u},H7 c=some u->(c≠t->U c=some u):=λ{c u} e ne=>a6 _ _ (λz=>J e (by rw[Zl.mp z];simp)) (o9 _ _ (λz=>ne<|Zl.mp z) (s8 _ _ e));simp only[Zo,ZD,Ye]at hc
  rcases hc with rfl|rfl|rfl|rfl
  .exact⟨_,t7,go t7⟩
  .exact⟨_,(u6.trans u7) _ _ G,go<|(u6.trans u7) _ _ G⟩
  .exact⟨_,u7 _ _ h6,go<|u7 _ _ h6⟩
  .exact⟨_,h7,go h7⟩
 have go:∀{c u},H7 c=some u->c≠t->U c=some u:=λ{c u} e ne=>a6 _ _ (λz=>J e (by rw[Zl.mp z];simp)) (o9 _ _ (λz=>ne<|Zl.mp z) (s8 _ _ e));have d1:t≠hh:=λz=>by rw[<-z,ht]at ac;cases ac
 have d2:t≠md:=λz=>by rw[<-z,uh _ _ ht]at I;cases I
 have d3:t≠hl:=λz=>by rw[<-z,(uh.trans u6) _ _ ht]at s;cases s
 have d4:hh≠md:=λz=>by rw[<-z,G]at I;cases I
 have d5:hh≠hl:=λz=>by rw[<-z,u6 _ _ G]at s;cases s
 have d6:md≠hl:=λz=>by rw[<-z,h6]at s;cases s
 have au:=B3.ex;have ap:Apart ⟨x1,t,hh,md,hl,D,a1,h1,g,a2,h2,B,none⟩:=⟨λc hc=>let ⟨_,e⟩:=au c hc;J (ad _ _ e),λc hc z=>(by obtain⟨_,e⟩:=au c hc;rw[av c z]at e;cases e),λc hc z=>(by obtain⟨_,e,_⟩:=cl c z;rw[O c hc]at e;cases e),by simp[d1,d2,d3,d4,d5,d6],B3.nodup,as.nodup⟩;have c8:∀{c},c∈x1::h1::g->c≠t:=λhc z=>by
  obtain⟨_,e⟩:=au _ hc;rw[z,nt]at e;cases e
 have C:zx H3 U:=λc u e=>go (ad _ _ e) (λz=>by rw[z,nt]at e;cases e);have q0:Sd P w K aC aD U ⟨x1,t,hh,md,hl,D,a1,h1,g,a2,h2,B,none⟩ R [] [(("main":Str),(none:Option Str))] [] [] []:=⟨Hl ap,B3.same C,as,⟨a6 _ _ (λz=>J t7 (by have e:t=h2:=Zl.mp z;rw[e];simp)) t9,go ((u6.trans u7) _ _ G)<|EC d1,go (u7 _ _ h6)<|EC d2,go h7<|EC d3,rfl,λi v x e=>(nomatch e),λp hp=>(nomatch hp),λq e=>(nomatch e)⟩,⟨λx hx=>(nomatch hx),λx hx=>(nomatch hx),λx hx=>(nomatch hx),λv hv=>(nomatch (kM hv)),YL⟩,rfl,Zt _,by decide⟩;have bm:∀c∈(⟨x1,t,hh,md,hl,D,a1,h1,g,a2,h2,B,none⟩:Ad).X,H c=none/\c≠r:=λc hc=>by
  rcases Ad.mY hc with z|z|z
  .exact⟨bt c z,λe=>by obtain⟨_,e'⟩:=B2.ex c z;rw[e,c0]at e';cases e'⟩
  .exact⟨(a7.trans ad).free<|O c z,λe=>J (ad _ _ Z)<|e▸z⟩
  .exact⟨a7.free<|av c z,λe=>by have:=av r<|e▸z;rw[Z]at this;cases this⟩
 obtain⟨A0,eb,et,qz,nz⟩:∃A0:Ad,A0.b=x1/\A0.t=t/\Sd P w K aC aD U A0 R [] [(("main":Str),(none:Option Str))] [] [] []/\∀c∈A0.X,H c=none/\c≠r:=⟨_,rfl,rfl,q0,bm⟩;have Z:=C _ _ Z;have C:=a7.trans C;clear q0 bm bt O av cl go d1 d2 d3 d4 d5 d6 au ap c8 t9 o9 s9 a6 as B9 cr c1 J a3 t7 ad ch co s8 ca a9 cv B8 cf bl a5 h7 h6 u7 u6 s I G uh ac ht ut nt B3 B2 s3 s2 c0 a7 al;subst eb et;refine⟨UD 3,λlm c9=>nw c9 λdb ah cp=>⟨_,rfl,sa,ns,2,rfl,(C.trans ah).seq ab,by decide,λi2=>?_⟩⟩;obtain⟨m,am,m0,dc⟩:∃m:Int,CO [V.int 12,V.int 12,V.int 24] (i2 % 3)=some (.int m)/\0<=m/\m<=24:=by
  have:i2 % 3=0\/i2 % 3=1\/i2 % 3=2:=by lia
  rcases this with e|e|e<;>rw[e]
  .exact⟨12,rfl,by decide,by decide⟩
  .exact⟨12,rfl,by decide,by decide⟩
  .exact⟨24,rfl,by decide,by decide⟩
 refine⟨_,_,rfl,rfl,(by decide:(0:Int)<3),lm,_,_,_,rfl,rfl,yu.of cp,am,zT ?_⟩;obtain⟨j,ej,j0,j1,j2⟩:∃j:Int,(if 3+m<(((ns.map V.int).length:Nat):Int) then 3+m else(((ns.map V.int).length:Nat):Int))=j/\0<=j/\j<=27/\j<=ns.length:=by
  rw[Zk]
  split
  .exact⟨_,rfl,by lia,by lia,by lia⟩
  .exact⟨_,rfl,by lia,by lia,by lia⟩
 refine⟨_,rfl,sa,_,rfl,.inl<|(C.trans ah).seq ab,_,rfl,_,_,rfl,rfl,_,_,rfl,?_⟩;rw[ej];refine⟨3,j,rfl,⟨by decide,by decide,by lia,by lia⟩,?_⟩;refine Xn (λi σ d=>∃o5 o6 o7 o8 A,σ=[some<|.ref sa,some<|.ref A.b,some<|.ref r,some<|.ref A.t,some<|.int m,o5,o6,o7,o8,none]/\(∀c∈A.X,H c=none/\c≠r)/\zx H d/\d r=some (.lst<|R.map λp=>V.str<|Cs p)/\pD P w K aC aD d A R i (4*i)) ⟨none,none,none,none,A0,rfl,nz,C.trans ah,ah _ _ Z,⟨[],_,[],[],[],qz.same ah,Zt _,Zt _,Zt _⟩⟩ ?_ ?_
 .rintro i σ H6 hi ⟨o5,o6,o7,o8,A,rfl,nA,s6,ai,q6⟩;obtain⟨z,_,hn⟩:=OV (f:=V.int) (xs:=ns) (i:=3+(i:Int)) (by lia) (by lia);have keep:∀{A':Ad} {H7 H8:Hp} {Y:Dd},zx H H7->H7 r=some (.lst<|R.map λp=>V.str<|Cs p)->Off Y H7 H8->(∀c∈Y,H c=none/\c≠r)->zx H H8/\H8 r=some (.lst<|R.map λp=>V.str<|Cs p):=λs7 h7 o nY=>⟨λb u e=>o _ _ (λz=>by rw[(nY b z).1]at e;cases e) (s7 _ _ e),o _ _ (λz=>(nY r z).2 rfl) h7⟩;refine⟨_,rfl,_,rfl,_,rfl,_,rfl,_,rfl,sa,_,_,_,rfl,rfl,s6.seq ab,hn,A,R,r,z,i,4*i,rfl,q6,pq,ai,λz=>(nA r z).2 rfl,by lia,by lia,λA' H7 eb et xA c2 q7=>⟨_,rfl,UN ?_⟩⟩;obtain⟨s7,cx⟩:=keep (A':=A) s6 ai c2 nA;have cz:∀c∈A'.X,H c=none/\c≠r:=λc hc=>(xA c hc).elim (nA c) λe=>⟨s6.free e,λz=>by rw[z,ai]at e;cases e⟩;have nl:∀c∈[A'.hl],H c=none/\c≠r:=λc hc=>cz c (by rw[Zl.mp hc];exact Ad.to3<|by simp);rw[<-eb,<-et];clear eb et xA c2 nA q6;refine⟨_,rfl,_,rfl,sa,_,_,_,rfl,rfl,s7.seq ab,hn,_,_,rfl,rfl,⟨by decide,by decide⟩,zT ?_⟩;refine⟨λan d=>an=[some<|.ref sa,some<|.ref A'.b,some<|.ref r,some<|.ref A'.t,some<|.int m,some<|.int<|3+i,some<|.int<|z / 11,o7,o8,none]/\zx H d/\d r=some (.lst<|R.map λp=>V.str<|Cs p)/\pD P w K aC aD d A' R (i+1) (4*i+2),⟨_,rfl,_,_,rfl,rfl,(by decide:(0:Int)<2),rfl,_,rfl,UM (λ_=>⟨_,rfl,_,rfl,A',R,i+1,4*i+1,rfl,q7,by lia,λH8 da q8=>⟨true,rfl,UN ?_⟩⟩)<|λ_=>UC ⟨rfl,s7,cx,q7.more<|by lia⟩⟩,?_⟩
  .obtain⟨s8,ax⟩:=keep (A':=A') s7 cx da nl;exact⟨rfl,s8,ax,q8⟩
  rintro an H8 ⟨rfl,s8,ax,S,hs,M,L,us,q8,sl,ml,ul⟩;refine⟨_,rfl,A'.t,_,rfl,CB q8.lw.tb Xe,zT ?_⟩;have mp:∀{l:Nat},(0:Int)<(if((l:Nat):Int)>1 then((l:Nat):Int) else 1):=λ{l}=>by split<;>lia
  refine⟨_,rfl,_,rfl,sa,_,_,_,rfl,rfl,s8.seq ab,hn,_,_,rfl,rfl,⟨by decide,by decide⟩,_,rfl,A'.md,_,rfl,.inl<|yu.of q8.lw.md,_,_,rfl,_,_,rfl,rfl,mp,zT ?_⟩;obtain⟨at',ea⟩:∃a,a=z / 3 % (if(((L.map V.ref).length:Nat):Int)>1 then(((L.map V.ref).length:Nat):Int) else 1):=⟨_,rfl⟩;have a0:0<=at'/\(L≠[]->at'<L.length):=by
   rw[Zk]at ea;have h1:=UB (z / 3)<|Int.ne_of_gt<|mp (l:=L.length);have h2:=Uf (z / 3)<|mp (l:=L.length);rw[<-ea]at h1 h2;refine⟨h1,λne=>?_⟩;have:=Vf.mpr ne
   split at h2<;>lia
  dsimp only;rw[<-ea];refine⟨λan d=>an=[some<|.ref sa,some<|.ref A'.b,some<|.ref r,some<|.ref A'.t,some<|.int m,some<|.int<|3+i,some<|.int<|z / 11,some<|.ref A'.md,some<|.int at',none]/\zx H d/\d r=some (.lst<|R.map λp=>V.str<|Cs p)/\pD P w K aC aD d A' R (i+1) (4*i+3),⟨_,rfl,UD 0,λl0 n0=>nw n0 λH9 u9 h9=>⟨A'.md,l0,_,rfl,rfl,yu.of<|u9 _ _ q8.lw.md,yu.of h9,_,rfl,?_⟩⟩,?_⟩
  .rintro an HA ⟨rfl,sA,cc,qA⟩;refine⟨_,rfl,_,rfl,A',R,i+1,4*i+3,rfl,qA,by lia,λHB oB qB=>⟨_,rfl,UN ?_⟩⟩;obtain⟨sB,c7⟩:=keep (A':=A') sA cc oB nl;exact⟨_,_,_,_,A',rfl,cz,sB,c7,qB.more<|by lia⟩
  .have q9:=q8.same u9;cases ev:L with
   |nil=>exact UC (UC ⟨rfl,s8.trans u9,u9 _ _ ax,S,hs,M,L,us,q9,sl,ml,by lia⟩)
   |cons v0 vs0 =>
    obtain⟨k,rfl⟩:=Yn a0.1;have hk:k<L.length:=by have:=a0.2 (by rw[ev];simp);lia
    have hu:=Zv hk;refine UF ⟨_,rfl,_,rfl,_,rfl,A'.md,_,_,_,rfl,rfl,yu.of q9.lw.md,yA (by rw[Zy,hu];rfl),_,rfl,A'.t,_,rfl,CB q9.lw.tb RD,_,rfl,_,_,rfl,rfl,⟨by decide,by decide⟩,q9.zq pq hu (by lia) λp HA oA qA=>⟨true,rfl,UN ?_⟩⟩;obtain⟨sA,cc⟩:=keep (A':=A') (s8.trans u9) (u9 _ _ ax) oA nl;exact⟨rfl,sA,cc,S,hs,M,L,us++[p],qA,sl,ml,by rw[ZB];exact Jp ul⟩
 .rintro σ H6 ⟨o5,o6,o7,o8,A,rfl,nA,s6,ai,S,hs,M,L,us,q6,sl,ml,ul⟩;clear nA s6 ai ah cp qz nz Z C;have vl:=q6.lw.vl;refine⟨_,rfl,A.t,_,rfl,CB q6.lw.tb Xe,A.md,rfl,⟨_,yu.of q6.lw.md⟩,Pd (K:=K) (a:=A.md) (xs:=L.map V.ref) (λi σ d=>∃o8 o9 us,σ=[some<|.ref sa,some<|.ref A.b,some<|.ref r,some<|.ref A.t,some<|.int m,o5,o6,o7,o8,o9]/\Sd P w K aC aD d A R S hs M L us/\us.length<=200+i) ⟨_,_,us,rfl,q6,by lia⟩ (λi σ d _ ⟨_,_,_,_,q,_⟩=>yu.of q.lw.md) ?_ ?_⟩
  .rintro i v Tt σ d hv ⟨o8,o9,us,rfl,q7,ul⟩ nT;rw[Zy]at hv;obtain⟨a,ha,rfl⟩:=Z0.mp hv;have hi:i<L.length:=(ZJ.mp ha).1;have uT:=zG (o:=.tup [.int i,.ref a]) nT;have hT:=zC (H:=d) (a:=Tt) (o:=.tup [.int i,.ref a]);generalize upd d Tt _=H8 at uT hT ⊢;have q8:=q7.same uT;refine⟨Tt,_,rfl,wY.of hT,rfl,_,_,rfl,zT ⟨_,_,rfl,zT ⟨rfl,?_⟩⟩⟩;exact⟨_,rfl,_,rfl,_,rfl,A.t,_,rfl,CB q8.lw.tb RD,_,rfl,q8.zq pq ha (by lia) λp HA oA qA=>⟨_,rfl,UN ⟨_,_,us++[p],rfl,qA,by rw[ZB];exact Jp ul⟩⟩⟩
  .rintro σ H7 ⟨o8,o9,us,rfl,q7,ul⟩;rw[Zk]at ul;refine⟨_,rfl,A.t,_,rfl,CB q7.lw.tb RD,A.hl,rfl,⟨_,yu.of q7.lw.hl⟩,GO (K:=K) (a:=A.hl) (xs:=us.map V.ref) (λi ys σ d=>∃o,σ=[o]/\d=H7/\ys=[]) ⟨none,rfl,rfl,rfl⟩ (zp (by rw[Zk];lia)) (λi ys σ d _ ⟨_,_,e,ez⟩=>⟨by rw[e];exact yu.of q7.lw.hl,by rw[ez];exact Yb _⟩) ?_ ?_⟩
   .rintro i v ys σ d hv ⟨o,rfl,rfl,rfl⟩;rw[Zy]at hv;obtain⟨p,hp,rfl⟩:=Z0.mp hv;obtain⟨x,y,sq,hd⟩:=q7.lw.he p<|ZG hp;exact zT ⟨_,rfl,p,_,_,_,rfl,rfl,sq,yA (j:=0) rfl,_,rfl,p,_,_,_,rfl,rfl,sq,yA (j:=1) rfl,hd.eqT,_,rfl,UC ⟨_,rfl,rfl,rfl⟩⟩
   .rintro ys σ d ⟨o,rfl,rfl,rfl⟩ p np;refine nw np λH8 u8 h8=>⟨UD 0,λl0 n0=>nw n0 λH9 u9 h9=>⟨.list [],.list [],⟨p,_,rfl,yu.of<|u9 _ _ h8,rfl⟩,⟨l0,_,rfl,yu.of h9,rfl⟩,rfl,rfl,?_⟩⟩;exact kQ _
end Cp
end
end An23
/-! the evaluating tactics look for a twin of each of these constants under these names;names that are taken keep them from laying one,for the twins' equations make the compiled file too large -/
structure PySem.W.Fast:Prop where(tw17743936995099163040 tw12140870269486042888 tw15934401457703096352 tw16846335010366338436 tw1081967491475785911 tw10676228190420317723 tw8872491819386709487 tw2387736512658343704 tw15381372999199886803 tw10897592191239404159 tw5169703966873120390 tw5908679555740212441 tw9620874259834548328 tw6177223588147973717 tw4370580196598762649 tw18163185627698850191 tw13161266267328491950 tw7590454520127874651 tw13414129116156250041 tw5152544445424388344 tw10845392852007658173 tw5127483277232974618 tw12486853432306715084 tw11136414640897567335 tw15442321565936376062 tw652768407308743058 tw11386039900573080091 tw5624450627078849033 tw6153940757510627859 tw5641612874233920260 tw8939178395854358649 tw9326664778209962173 tw12869810147775694017 tw1929662543008354816 tw13031662241966398608 tw5310327131864576154 tw16958793304272187506 tw2493055025402417713 tw11921057465652692389 tw14791157320135782227 tw8618022642443052039 tw10632453770607352104 tw2262653919175756914 tw9846419605830479803 tw18299297457968854208 tw4051473902756167001 tw9692800411983630214 tw13884207004232277305 tw17083207859820226479 tw17076468370884114890 tw12782170885424555738 tw8955253204017496466 tw13345124368254725080 tw836582245388586919 tw15261627544148285315 tw2310878721339616434 tw6224680325904653999 tw8858170622003305125 tw10112299928023391095 tw12409053513107821678 tw14640206519974747955 tw8991507948396977880 tw3020568613743461187 tw12559599299431608686 tw1976870072392521563 tw9439916290187834516 tw5622346698215271118 tw778386812794921123 tw6569096746929788927 tw3873197435789249374 tw2298009913811505519 tw2266122714404709527 tw3342730041307330407 tw16564529889967067637 tw15488671637370365020 tw9580435559049017397 tw13449250163280336215 tw14896424616002809850 tw5441632967429896486 tw11004929196165172814 tw6974799068627778593 tw1273355809501812565 tw14156467952613784591 tw11932303784877298275 tw1538342495725886255 tw10320947233922677378 tw16362902240789697130 tw333363574484306741 tw7340077032938110036 tw2213335769632690668 tw14880889399367594672 tw2512205201716411576 tw5139533237219741961 tw16076709041173423057 tw16081985743763653295 tw13488387073590154903 tw7013283356627888670 tw9587933568662456651 tw6720993815813190592 tw5295383170298575302 tw7811694345336171585 tw14220742734176305427 tw7333432618411779484 tw1254733179249786306 tw2984678742293750892 tw10973682287167943848 tw2201255785750598562 tw12784025081710821449 tw17665098905784945157 tw14395534693016337232 tw5585898027390783204 tw10004954231441836054 tw532006471493807499 tw7212551991038534752 tw15216893467841038476 tw15930605591258244316 tw16890085167314513199 tw8826110372491093870 tw13699893035729626394 tw14934265457719419491 tw17102964486084967422 tw17266553606520715413 tw11864139245744575297 tw6050427686432676816 tw8022640909824681118 tw12134127697206356038 tw9717218753393407653 tw8935318933754942910 tw2501470564291265011 tw14193781478514399697 tw6966502456743373651 tw5316828592831340824 tw1919978486520938259 tw6346618739680607728 tw8285223176888181203 tw16413861220738539419 tw18328473535917058831 tw13563087011985773747 tw6917468204038277401 tw17442132147295366537 tw12051076519792841056 tw7008771961375697605 tw10896860680835812680 tw16179533934536647053 tw17610079981600062676 tw13425775251845810724 tw13281850004528157729 tw16581724318414241264 tw5481640725790137584 tw10677990777498863205 tw11907230329916997423 tw13496730485473264924 tw13928368425445749512 tw12473228851851090022 tw16052495280360470787 tw14012685718572974819 tw17640252585189195360 tw9963698984376964930 tw2195919057100670499 tw6864397135134579468 tw3953145529597359339 tw6234620384838762892 tw1031251897975524146 tw7643002013061456861 tw8936381013011009884 tw3789018040371356355 tw2540649644218044541 tw11719513234941556099 tw4383819953581122459 tw16563465051408740550 tw13241730116867568245 tw10009345299267343671 tw1418378620025093631 tw7797499863857909709 tw7415950250904368134 tw13775171961776702052 tw15595874914543160802 tw15557409069228320136 tw16686100982287318096 tw229979359205427525 tw6809223551676403936 tw1483216768713063278 tw8502443881789066324 tw18172188068909626911 tw7940925289023902233 tw6006600455773178575 tw9595805881237222730 tw14030335618586744143 tw13586191016541734411 tw16899814878911304760 tw4373007533387382376 tw6042403345960036257 tw5787948568583356585 tw3135551834408121949 tw12365828988769391230 tw6832790371459023056 tw2579262489497992692 tw3169495157069221564 tw3617695246877295854 tw4093003105469018516 tw14122994151925717024 tw16850545658565186377 tw7834896478475819870 tw7029927689627237841 tw12551625579903412340 tw17179194676728059518 tw1188592957409454097 tw10763518979919377554 tw12561071403262943553 tw1901357356374667271 tw6170754809860992780 tw2943520231907504690 tw3761858654876088147 tw12202882155145189465 tw6035379476415412830 tw12117599535288447368 tw18229107707375787273 tw740690120185020795 tw18408172305407334364 tw18371413193352331430 tw5621554942972541542 tw14309428118033055044 tw5170826279062371492 tw10834216439474285662 tw10885679448135829728 tw10018897187728873038 tw11235587756206931386 tw2983799843476423725 tw11510909687061955341 tw10438834901653878667 tw12107330717485878042 tw280747323421663512 tw5259285903495368147 tw9076417818727191989 tw4827454150020882300 tw16259742913134881511 tw5226030029677442237 tw4458335600594944312 tw17507213462928319797 tw6127891898065289929 tw16791988753911217135 tw5490050637092344335 tw14580758719489038289 tw12194621703374636157 tw5090473294506972241 tw3841792026255351021 tw7550710109859298206 tw16951467738702567022 tw13362880247283320545 tw12436060020199697354 tw12466631083366446624 tw4880380878874567408 tw458045346739515958 tw4015531957396209847 tw9425427309087769859 tw10675840244725693256 tw7999809178880351253 tw5902848739918368200 tw7901420417712310503 tw18201357704944832265 tw16303965144513829003 tw2856664104882226081 tw9133284065451073332 tw9415166179397575932 tw6110646405658121147 tw557450686496282145 tw18153067215971872335 tw3527019416184441891 tw4030819242082824389 tw10532949861329780241 tw16558386616077643758 tw3168804263331845551 tw2605171432499122407 tw16717732096621388930 tw7762891084601326846 tw8137471165743094763 tw15998579907643947557 tw13143605223825349908 tw4909448457274989685 tw12627781945145254820 tw10996390089593125128 tw256451070816337772 tw8115504934699569985 tw9794597707566011871 tw735006530408637316 tw12423781643015181395 tw12474279247146796267 tw18065263490649439032 tw12972188196812174084 tw5030680832110088444 tw6027795403695822630 tw9435883850967465357 tw17045850756441958702 tw2006650760421211485 tw1868886500236049431 tw1593402604827468066 tw13605010427567088425 tw8362731288686050236 tw13480958599032576647 tw15069080909560745995 tw12893820221836785318 tw2154186783241696856 tw8752350693923952918 tw8417489076999120853 tw6549537801632189677 tw3123916355752295678 tw10122252638981526158 tw15829904429314803352 tw6478466124709392858 tw11258982847327201081 tw8387416536806205341 tw3728679235834125319 tw10419727627375254026 tw10421929879331667300 tw16745411677531324339 tw8208087343730085385 tw12867254172653920330 tw15662165744880445386 tw5950794932233189769 tw2270035412630953567 tw7439617635118479317 tw17708169684702758214 tw13978858723883511369 tw16597010983190891950 tw6951457514690504341 tw6942652800013989349 tw13443272657541635603 tw10068385869452822337 tw11990724628226852952 tw17160954697852630452 tw11134283979101922411 tw17544560727920348405 tw5476522053733536793 tw10204116589483192691 tw14144825707390968946 tw2346651072402124870 tw10909685063337393548 tw5025374573889397541 tw764529265700126194 tw17000289348731883237 tw10355113755939484905 tw7321074505118118620 tw16441081385261149782 tw3749918936171817980 tw14945882798859657120 tw11742974395265253137 tw2028116806480617373 tw7876372670674850887 tw2841575470736790272 tw14623036746479151453 tw7280642887118926111 tw9822698462635703240 tw15413560142528434587 tw11686671439366393390 tw8596506505571589253 tw16619235640099803470 tw40295436978954550 tw10035831710260008506 tw3082361434494479227 tw2788054524872180622 tw820228627109323703 tw13425353409566042416 tw12441137537494744410 tw10815484581428205224 tw7656110087144864468 tw14527933424029523775 tw4251276741027872330 tw13213778882736706721 tw9552753379950339400 tw13942198125416704545 tw9482373301433292146 tw16378605939968438652 tw14865812745857177206 tw16242655559602927051 tw16737280586227423567 tw10676212319994777747 tw5525781729552847282 tw16670011842605659228 tw6388947218306278561 tw6370714848236793947 tw607504745444898958 tw3309730307148007766 tw7153996913433282611 tw827033819502757172 tw436643983367205413 tw17534416891573566785 tw14036324096430248590 tw2047787937245118215 tw12692012673856555817 tw385732460107757774 tw5622916206587579354 tw13508229679030334149 tw5826984543816707919 tw15018671246427765076 tw15917380974239007641 tw5100615628075288723 tw17692530363526907590 tw4274516039001898463 tw9129482565958190830 tw16406718492922245386 tw1365174053243778192 tw14560343127125465913 tw10116297146235613769 tw7013347274944290552 tw1286802105759191231 tw5957779569495548131 tw638240414661412879 tw5847013301900063830 tw4631308800810222304 tw14717977116103267518 tw6142231645003578222 tw3029395903728263782 tw18077403718747187899 tw8471249417967382704 tw15134287282666800740 tw13628448412670257112 tw12568518123558283040 tw1519910227271328131 tw5731671431185706678 tw5048656879959578571 tw9110465001317250166 tw1844802501166740073 tw1258384246841875514 tw7717182531821666517 tw7038107746352617440 tw1475336939593292542 tw14813051790364795187 tw11920009269355739590 tw12211646004890310746 tw1852641332032187965 tw1367126645852255649 tw18046655871323882527 tw13102955947799001517 tw3571487061878391568 tw18349391249522358141:True)
namespace An23
open PySem L2 An
theorem iQ {P:Er}{w:Eu}{K:Cq}{a:Eo}{b f c g d i:Tok}{n:Nat}(h:K.lookup a=some { cls:=.type "dict",data:=.dict #[⟨L7 w.params "leaf",.str "leaf" b,.str "L" f⟩,⟨L7 w.params "tree",.str "tree" c,.str "T" g⟩,⟨L7 w.params "note",.str "note" d,.str "N" i⟩] n }) :
  KD P w K a xV:=by
 intro j X;refine⟨[(ED "leaf",.str "L" f),(ED "tree",.str "T" g),(ED "note",.str "N" i)],.cons ⟨rfl,f,rfl⟩<|.cons ⟨rfl,g,rfl⟩<|.cons ⟨rfl,i,rfl⟩ .nil,_,_,n,X a _ h,⟨rfl,rfl,rfl⟩,rfl,?_,?_,?_⟩
 .intro e he;have he:e∈[(⟨L7 w.params "leaf",.str "leaf" b,.str "L" f⟩:Mm),⟨L7 w.params "tree",.str "tree" c,.str "T" g⟩,⟨L7 w.params "note",.str "note" d,.str "N" i⟩]:=by simpa using he
  rcases Zo.mp he with z|z
  .subst z;exact⟨ED "leaf",qR _ b,rfl⟩
  .rcases Zo.mp z with z|z
   .subst z;exact⟨ED "tree",qR _ c,rfl⟩
   .rw[Zl.mp z];exact⟨ED "note",qR _ d,rfl⟩
 .exact .cons (qR _ b) rfl (.cons (qR _ c) rfl<|.cons (qR _ d) rfl .nil)
 .show([ED "leaf",ED "tree",ED "note"]:List Key).Nodup
  decide+kernel
def GF (K:Cq)(x:Str)(st:ER)(f:Eo):Prop:=EF K EA x=some (some<|.ref f)/\∃(e:Ep) (g c:Option Eo) (j:Array Dc) (kV d i b ct:Ep),K.lookup f=some ⟨e,g,.func<|Lf x x (qP st) (xM st) (zF st) .none kV d i c b ct,j⟩/\LK K b x=true/\EY K (.ref f)=true
def MF (K:Cq)(C:Eo)(x q:Str)(st:ER)(f:Eo):Prop:=EO K (.ref C) x=some (some<|.ref f)/\MH K (.ref f)=true/\∃(e:Ep) (g c:Option Eo) (j:Array Dc) (kV d i b ct:Ep),K.lookup f=some ⟨e,g,.func<|Lf x q (qP st) (xM st) (zF st) .none kV d i c b ct,j⟩/\LK K b q=true/\EY K (.ref f)=true
section
variable {P:Er}{w:Eu}{K:Cq}{h:EI}{mg:Str->Dc}{k:Nat}{x q:Str}{st:ER}{f C:Eo}{ps:Da}{sp:Sp}{oc:Ep}{od an:Option Eo}{sl:Array Dc}{kV dc pm cd ct:Ep}
theorem GF.mk (a:EF K EA x=some (some<|.ref f))(l:K.lookup f=some ⟨oc,od,.func<|Lf x x (qP st) (xM st) (zF st) .none kV dc pm an cd ct,sl⟩)(c:LK K cd x=true)(k:EY K (.ref f)=true):GF K x st f:=⟨a,_,_,_,_,_,_,_,_,_,l,c,k⟩
theorem MF.mk (a:EO K (.ref C) x=some (some<|.ref f))(i:MH K (.ref f)=true)(l:K.lookup f=some ⟨oc,od,.func<|Lf x q (qP st) (xM st) (zF st) .none kV dc pm an cd ct,sl⟩)(c:LK K cd q=true)(k:EY K (.ref f)=true):MF K C x q st f:=⟨a,i,_,_,_,_,_,_,_,_,_,l,c,k⟩
abbrev BA (x q:Str)(st:ER)(ps:Da):Prop:=∀(kV doc pm:Ep) (an:Option Eo) (cdv ct:Ep) (us:Db),us.length=ps.length->bindArgs (Lf x q (qP st) (xM st) (zF st) .none kV doc pm an cdv ct) ⟨us,[]⟩=LC (ps.zip us)
abbrev BX (x q:Str)(st:ER)(ps:Da)(kV doc pm:Ep)(an:Option Eo)(cdv ct:Ep)(us:Db):Prop:=bindArgs (Lf x q (qP st) (xM st) (zF st) .none kV doc pm an cdv ct) ⟨us,[]⟩=LC (ps.zip us)
theorem lC9{f:Db}{n:Nat}(z:f.length=n+1):∃a t,f=a::t/\t.length=n:=by cases f with|nil=>cases z|cons a t=>exact⟨a,t,rfl,Nat.succ.inj z⟩
theorem TR (h:∀kV i j an c' ct a,BX x q st ps kV i j an c' ct [a])(l:ps.length=1):BA x q st ps:=by intro kV i j an c' ct f z;obtain⟨_,f,rfl,m⟩:=lC9 (z.trans l);cases f;exact h ..;cases m
theorem TU (h:∀kV i j an c' ct a b,BX x q st ps kV i j an c' ct [a,b])(l:ps.length=2):BA x q st ps:=by intro kV i j an c' ct f z;obtain⟨_,f,rfl,m⟩:=lC9 (z.trans l);obtain⟨_,f,rfl,n⟩:=lC9 m;cases f;exact h ..;cases n
theorem TV (h:∀kV i j an c' ct a b c,BX x q st ps kV i j an c' ct [a,b,c])(l:ps.length=3):BA x q st ps:=by intro kV i j an c' ct f z;obtain⟨_,f,rfl,m⟩:=lC9 (z.trans l);obtain⟨_,f,rfl,n⟩:=lC9 m;obtain⟨_,f,rfl,o⟩:=lC9 n;cases f;exact h ..;cases o
theorem TW (h:∀kV i j an c' ct a b c d,BX x q st ps kV i j an c' ct [a,b,c,d])(l:ps.length=4):BA x q st ps:=by intro kV i j an c' ct f z;obtain⟨_,f,rfl,m⟩:=lC9 (z.trans l);obtain⟨_,f,rfl,n⟩:=lC9 m;obtain⟨_,f,rfl,o⟩:=lC9 n;obtain⟨_,f,rfl,p⟩:=lC9 o;cases f;exact h ..;cases p
theorem TX (h:∀kV i j an c' ct a b c d e,BX x q st ps kV i j an c' ct [a,b,c,d,e])(l:ps.length=5):BA x q st ps:=by intro kV i j an c' ct f z;obtain⟨_,f,rfl,m⟩:=lC9 (z.trans l);obtain⟨_,f,rfl,n⟩:=lC9 m;obtain⟨_,f,rfl,o⟩:=lC9 n;obtain⟨_,f,rfl,p⟩:=lC9 o;obtain⟨_,f,rfl,r⟩:=lC9 p;cases f;exact h ..;cases r
theorem GF.cal (X:K.In h)(G:h.Ns EA mg)(a:GF K x st f)(b:EI)(g:∀fd,yc K x x st f fd->mg x=some (.ref f)->wX K fd ps []->zc P w K mg b CA k f fd ps sp)(e:BA x x st ps:=by first|exact TR (λ_ _ _ _ _ _ _=>rfl) rfl|exact TU (λ_ _ _ _ _ _ _ _=>rfl) rfl|exact TV (λ_ _ _ _ _ _ _ _ _=>rfl) rfl|exact TW (λ_ _ _ _ _ _ _ _ _ _=>rfl) rfl|exact TX (λ_ _ _ _ _ _ _ _ _ _ _=>rfl) rfl):wV P w K mg b k x ps sp:=by
 obtain⟨h1,_,_,_,_,_,_,_,_,_,l,c,kp⟩:=a;have F:=vE l c kp;exact wV.mk' F (g _ F (Z1 X G h1)<|F.binds e) (Z1 X G h1)<|F.binds e
theorem GF.rJ (X:K.In h)(G:h.Ns EA mg)(a:GF K x st f)(b:EI)(g:∀fd,yc K x x st f fd->mg x=some (.ref f)->wX K fd ps []->zc P w K mg b (CI P w) k f fd ps sp)(e:BA x x st ps:=by first|exact TR (λ_ _ _ _ _ _ _=>rfl) rfl|exact TU (λ_ _ _ _ _ _ _ _=>rfl) rfl|exact TV (λ_ _ _ _ _ _ _ _ _=>rfl) rfl|exact TW (λ_ _ _ _ _ _ _ _ _ _=>rfl) rfl|exact TX (λ_ _ _ _ _ _ _ _ _ _ _=>rfl) rfl):wz P w K mg b k x ps sp:=by
 obtain⟨h1,_,_,_,_,_,_,_,_,_,l,c,kp⟩:=a;have F:=vE l c kp;exact wz.mk' F (g _ F (Z1 X G h1)<|F.binds e) (Z1 X G h1)<|F.binds e
theorem GF.gW (X:K.In h)(G:h.Ns EA mg)(a:GF K x st f)(b:EI)(g:∀fd,yc K x x st f fd->mg x=some (.ref f)->wX K fd ps []->sW P w K mg b k f fd ps s2)(e:BA x x st ps:=by first|exact TR (λ_ _ _ _ _ _ _=>rfl) rfl|exact TU (λ_ _ _ _ _ _ _ _=>rfl) rfl|exact TV (λ_ _ _ _ _ _ _ _ _=>rfl) rfl|exact TW (λ_ _ _ _ _ _ _ _ _ _=>rfl) rfl|exact TX (λ_ _ _ _ _ _ _ _ _ _ _=>rfl) rfl):oO P w K mg b k x ps s2:=by
 obtain⟨h1,_,_,_,_,_,_,_,_,_,l,c,kp⟩:=a;have F:=vE l c kp;exact oO.mk' F (g _ F (Z1 X G h1)<|F.binds e) (Z1 X G h1)<|F.binds e
theorem MF.met (a:MF K C x q st f)(b:EI)(g:∀fd,yc K x q st f fd->zc P w K mg b CA k f fd ps sp)(e:BA x q st ps:=by first|exact TR (λ_ _ _ _ _ _ _=>rfl) rfl|exact TU (λ_ _ _ _ _ _ _ _=>rfl) rfl|exact TV (λ_ _ _ _ _ _ _ _ _=>rfl) rfl|exact TW (λ_ _ _ _ _ _ _ _ _ _=>rfl) rfl|exact TX (λ_ _ _ _ _ _ _ _ _ _ _=>rfl) rfl):Met P w K mg b C k x ps sp:=by
 obtain⟨h1,i,_,_,_,_,_,_,_,_,_,l,c,kp⟩:=a;have F:=vE l c kp;exact⟨⟨_,_,g _ F,⟨h1,i,kp⟩,F.binds e⟩⟩
theorem MF.rA (a:MF K C x q st f)(b:EI)(g:∀fd,yc K x q st f fd->zc P w K mg b (CI P w) k f fd ps sp)(e:BA x q st ps:=by first|exact TR (λ_ _ _ _ _ _ _=>rfl) rfl|exact TU (λ_ _ _ _ _ _ _ _=>rfl) rfl|exact TV (λ_ _ _ _ _ _ _ _ _=>rfl) rfl|exact TW (λ_ _ _ _ _ _ _ _ _ _=>rfl) rfl|exact TX (λ_ _ _ _ _ _ _ _ _ _ _=>rfl) rfl):wK P w K mg b C k x ps sp:=by
 obtain⟨h1,i,_,_,_,_,_,_,_,_,_,l,c,kp⟩:=a;have F:=vE l c kp;exact⟨⟨_,_,g _ F,⟨h1,i,kp⟩,F.binds e⟩⟩
theorem MF.gZ (a:MF K C x q st f)(b:EI)(g:∀fd,yc K x q st f fd->sW P w K mg b k f fd ps s2)(e:BA x q st ps:=by first|exact TR (λ_ _ _ _ _ _ _=>rfl) rfl|exact TU (λ_ _ _ _ _ _ _ _=>rfl) rfl|exact TV (λ_ _ _ _ _ _ _ _ _=>rfl) rfl|exact TW (λ_ _ _ _ _ _ _ _ _ _=>rfl) rfl|exact TX (λ_ _ _ _ _ _ _ _ _ _ _=>rfl) rfl):jh P w K mg b C k x ps s2:=by
 obtain⟨h1,i,_,_,_,_,_,_,_,_,_,l,c,kp⟩:=a;have F:=vE l c kp;exact⟨⟨_,_,g _ F,⟨h1,i,kp⟩,F.binds e⟩⟩
theorem MF.mak (a:MF K C "__init__" q st f)(b:EI)(m:Md K C=true)(j:EY K (.ref C)=true)(d:mg x=some (.ref C))(g:∀fd,yc K "__init__" q st f fd->zc P w K mg b CA k f fd ps sp)(e:BA "__init__" q st ps:=by first|exact TR (λ_ _ _ _ _ _ _=>rfl) rfl|exact TU (λ_ _ _ _ _ _ _ _=>rfl) rfl|exact TV (λ_ _ _ _ _ _ _ _ _=>rfl) rfl|exact TW (λ_ _ _ _ _ _ _ _ _ _=>rfl) rfl|exact TX (λ_ _ _ _ _ _ _ _ _ _ _=>rfl) rfl):iZ P w K mg b C k x ps sp:=by
 obtain⟨h1,i,_,_,_,_,_,_,_,_,_,l,c,kp⟩:=a;have F:=vE l c kp;exact⟨⟨_,_,g _ F,⟨m,h1,i,j⟩,F.binds e,d⟩⟩
end
set_option maxHeartbeats 0 in
theorem all_mk {l:PySem.W.OpenLaw}{w:Eu}{K:Cq}{h:EI}{mg:Str->Dc}{fa:Eo}{t1 t2 t3 t4 t5 t6 t7:Tok}{aL aC aN aT aA b1 f b3 b4 g i j b8 c:Eo}(X:K.In h)(G:h.Ns EA mg)(hz:mg "law"=some (.ref fa))
  (Q:EF K EA "len"=some none)
  (N:EF K EA "all"=some none)
  (U:EF K EA "ord"=some none)
  (DD:EF K EA "isinstance"=some none)
  (Z:EF K EA "str"=some none)
  (Y:EF K EA "set"=some none)
  (D2:EF K EA "sorted"=some none)
  (Ea:EF K EA "tuple"=some none)
  (Ej:EF K EA "list"=some none)
  (R:EF K EA "max"=some none)
  (P:EF K EA "int"=some none)
  (El:EF K EA "bool"=some none)
  (Eb:EF K EA "range"=some none)
  (Ek:EF K EA "dict"=some none)
  (O:EF K EA "any"=some none)
  (DI:EF K EA "enumerate"=some none)
  (Dz:EF K EA "LONGEST_LINE"=some (some<|.int 20 t1))
  (Dv:EF K EA "LONGEST_LABEL"=some (some<|.int 8 t2))
  (Dy:EF K EA "MOST_PARENTS"=some (some<|.int 2 t3))
  (DV:EF K EA "PERCENT"=some (some<|.int 37 t4))
  (DB:EF K EA "MOST_LABELS"=some (some<|.int 4 t7))
  (Dx:EF K EA "DIGEST_FACTOR"=some (some<|.int 31 t5))
  (DA:EF K EA "DIGEST_BOUND"=some (some<|.int 97 t6))
  (DX:EF K EA "LETTERS"=some (some<|.ref aL))
  (D3:EF K EA "NoName"=some (some<|.ref aN))
  (DW:EF K EA "NoThing"=some (some<|.ref aT))
  (DC:EF K EA "AnnalsError"=some (some<|.ref aA))
  (DY:EF K EA "BadPath"=some (some<|.ref b1))
  (DP:EF K EA "BadFiles"=some (some<|.ref f))
  (Ed:EF K EA "NoFit"=some (some<|.ref b3))
  (Ee:EF K EA "Clash"=some (some<|.ref b4))
  (DJ:EF K EA "NoVersion"=some (some<|.ref g))
  (DZ:EF K EA "BadLine"=some (some<|.ref i))
  (DO:EF K EA "NoBranch"=some (some<|.ref j))
  (DK:EF K EA "BadBranch"=some (some<|.ref b8))
  (D4:EF K EA "Annals"=some (some<|.ref c))
  (S:EF K EA "min"=some none)
  (DF:EF K EA "ValueError"=some none)
  (Ec:EF K EA "Shelf"=some (some<|.ref aC))
  (D0:EX K aN UX "ValueError.__new__"=true)
  (DQ:EX K aT UX "ValueError.__new__"=true)
  (DM:EX K f UX "ValueError.__new__"=true)
  (H:[g,f,i,j,b8,aN,aT,b1,b3,b4].Nodup)
  (ax:∀a∈[g,f,i,j],PySem.W.wg K a)
  (bm:∀a∈[g,f,i,j],∀b∈[g,f,i,j,b8,aN,aT,b1,b3,b4],EV K (.ref a) (.ref b)=some (decide (a=b)))
  (bl:∀a∈[g,f,i,j],EV K (.ref a) (.type "ValueError")=some true)
  (I:∀a∈[g,f,i,j],PySem.W.exmOne K (.ref a) (.ref aA)=some true)
  (DG:EX K g UX "ValueError.__new__"=true)
  (DR:EX K i UX "ValueError.__new__"=true)
  (DL:EX K j UX "ValueError.__new__"=true)
  (DH:EX K b8 UX "ValueError.__new__"=true)
  (C:LJ K c Mj=true)
  (u:LX K c=true)
  (E:Mo K c=true)
  (M:EO K (.ref c) "__setattr__"=some (some<|.builtin "object.__setattr__"))
  (A:Md K c=true)
  (y:EY K (.ref c)=true)
  (bt:EO K (.ref c) "shelf"=some none)
  (bv:EO K (.ref c) "heads"=some none)
  (bh:KD l.prog w K aL xV)
  (B:LJ K aC Mj=true)
  (t:LX K aC=true)
  (D:Mo K aC=true)
  (L:EO K (.ref aC) "__setattr__"=some (some<|.builtin "object.__setattr__"))
  (z:Md K aC=true)
  (x:EY K (.ref aC)=true)
  (ca:EO K (.ref aC) "thing_by_name"=some none)
  (cc:EO K (.ref aC) "name_by_thing"=some none)
  (cf:EO K (.ref aC) "next_numbers"=some none)
  (J:∀a∈kinds,∀b∈kinds,EV K (.type a) (.type b)=some (a==b||(a=="bool"&&b=="int")))
  {f0 f1 f2 f3 f4 f5 f6 f7 f8 f9 fz ga gb gc gd ge gf gg gh gi gj gk gl gm gn go gp gq gr gs gt gu gv gw gx gy gz g0 g1 g2 g3 g4 g5 g6 g7 g8 g9 ha hb hc hd he hf hg hh hi hj hk hl hm hn ho hp hq hr hs ht hu hv hw hx hy:Eo}
  (a0:MF K aC "names" "Shelf.names" Av.st f0)
  (a1:MF K aC "take" "Shelf.take" Aw.st f1)
  (a2:GF K "is_key" Ax.st f2)
  (a3:MF K aC "has" "Shelf.has" Ay.st f3)
  (a4:GF K "need_name" Az.st f4)
  (a5:MF K aC "thing" "Shelf.thing" AA.st f5)
  (a6:MF K aC "__init__" "Shelf.__init__" AE.st f6)
  (a7:MF K c "__init__" "Annals.__init__" A4.st f7)
  (a8:GF K "is_label" Ae.st f8)
  (a9:MF K c "has_branch" "Annals.has_branch" AX.st f9)
  (d5:GF K "names_form" AL.st fz)
  (d6:GF K "note_of" AQ.st ga)
  (d7:GF K "need_version_or_none" AU.st gb)
  (d8:MF K c "begin" "Annals.begin" A2.st gc)
  (d9:GF K "_law_cell_at" A8.st gd)
  (ea:GF K "_law_paths" A9.st ge)
  (eb:GF K "_law_line" Cb.st gf)
  (ec:GF K "_law_lines" Cd.st gg)
  (ed:GF K "_law_changed" Cj.st gh)
  (ee:MF K c "need_branch" "Annals.need_branch" AY.st gi)
  (ef:MF K c "head" "Annals.head" AZ.st gj)
  (eg:GF K "is_path" AF.st gk)
  (eh:GF K "is_sign" Aa.st gl)
  (ei:GF K "is_line" Ab.st gm)
  (ej:GF K "is_lines" Ac.st gn)
  (ek:GF K "is_file" AH.st go)
  (el:GF K "folders_of" AG.st gp)
  (em:GF K "need_files" AK.st gq)
  (en:GF K "is_leaf" Ai.st gr)
  (eo:GF K "is_row" Af.st gs)
  (ep:GF K "is_rows" Ah.st gt)
  (eq:GF K "is_tree" Aj.st gu)
  (er:GF K "is_parents" Ag.st gv)
  (es:GF K "is_note" Ak.st gw)
  (et:GF K "is_thing" Al.st gx)
  (eu:GF K "need_thing" Am.st gy)
  (ev:MF K aC "need_form" "Shelf.need_form" AB.st gz)
  (ew:MF K aC "need_names" "Shelf.need_names" AC.st g0)
  (ey:GF K "letter_of" Ao.st g1)
  (ez:GF K "tree_parts" Ap.st g2)
  (e0:GF K "parts_of" Aq.st g3)
  (e1:GF K "counted" Ar.st g4)
  (e2:GF K "spelled" As.st g5)
  (e3:GF K "digest" Au.st g6)
  (e4:MF K aC "put" "Shelf.put" AD.st g7)
  (e5:GF K "put_rows" AI.st g8)
  (e6:GF K "put_files" AJ.st g9)
  (e7:GF K "noted" AV.st ha)
  (e8:MF K c "set_head" "Annals.set_head" A1.st hb)
  (e9:MF K c "keep" "Annals.keep" A3.st hc)
  (fb:GF K "tree_of" AR.st hd)
  (fc:GF K "need_root" AM.st he)
  (fe:GF K "files_beneath" AN.st hf)
  (ff:GF K "files_of" AO.st hg)
  (fg:GF K "files_at" AW.st hh)
  (fh:MF K c "files" "Annals.files" A7.st hi)
  (fi:GF K "_law_word" Ca.st hj)
  (fj:GF K "_law_is_none" Ch.st hk)
  (fk:GF K "parents_of" AT.st hl)
  (fl:GF K "words_of" AS.st hm)
  (fm:GF K "_law_note_good" Ce.st hn)
  (fn:GF K "_law_reads" Cf.st ho)
  (fo:GF K "_law_on_fresh" Cg.st hp)
  (fp:GF K "_law_kept" Cn.st hq)
  (fq:GF K "_law_words" Cc.st hr)
  (fr:GF K "_law_refused" Cm.st hs)
  (ft:GF K "_law_no_files" Ck.st ht)
  (fu:MF K c "stand_on" "Annals.stand_on" A6.st hu)
  (fv:GF K "_law_deed" Co.st hv)
  (fw:MF K c "branches" "Annals.branches" A5.st hw)
  (fx:GF K "_law_stands" Ci.st hx)
  (fy:GF K "law" Cp.st hy) :
  ∃fd:Ev,(∀(s:Et) (v:Ep),BindsTo s fd ⟨[v],[]⟩ [("_law_script",v)])/\∀base:EI,K.In base->base.Ns EA mg->zc l.prog w K mg base CA 20 fa fd ["_law_script"] (oZ K):=by
 have T:Txt l.prog w K mg t1 t2 t3 t4 t5 t6 t7 aL aC aN aT aA b1 f b3 b4 g i j b8 c:=⟨Z5 X G Q,Z5 X G N,Z5 X G U,Z5 X G DD,Z5 X G Z,Z5 X G Y,Z5 X G D2,Z5 X G Ea,Z5 X G Ej,Z5 X G R,Z5 X G P,Z5 X G El,Z5 X G Eb,Z5 X G Ek,Z5 X G O,Z5 X G DI,Z1 X G Dz,Z1 X G Dv,Z1 X G Dy,Z1 X G DV,Z1 X G DB,Z1 X G Dx,Z1 X G DA,Z1 X G DX,Z1 X G D3,Z1 X G DW,Z1 X G DC,Z1 X G DY,Z1 X G DP,Z1 X G Ed,Z1 X G Ee,Z1 X G DJ,Z1 X G DZ,Z1 X G DO,Z1 X G DK,Z1 X G D4,Z5 X G S,Z5 X G DF,Z1 X G Ec,D0,DQ,DM,H,ax,bm,bl,I,DG,DR,DL,DH,⟨C,u,E,M⟩,bt,bv,bh,⟨B,t,D,L⟩,ca,cc,cf,J⟩;obtain⟨hL,oc,od,an,sl,kV,dc,pm,cd,ct,lL,cL,kL⟩:=fy;have e:=hz.symm.trans<|Z1 X G hL;cases e;refine⟨Lf "law" "law" (qP Cp.st) (xM Cp.st) (zF Cp.st) .none kV dc pm an cd ct,λs v=>.of_eq rfl,λb _ _=>?_⟩;have C0:=a0.met (mg:=mg) b λ_ F=>Av.ok T F;have C1:=a1.met (mg:=mg) b λ_ F=>Aw.ok T F;have C2:=a2.cal X G b λ_ F _ _=>Ax.ok T F;have C3:=a3.met (mg:=mg) b λ_ F=>Ay.ok T F C2;have C4:=a4.rJ X G b λ_ F _ _=>Az.ok T F C3;have C5:=a5.rA (mg:=mg) b λ_ F=>AA.ok T F C4;have C6:=a6.mak b z x T.iD λ_ F=>AE.ok T F C0 C1 C5;have C7:=a7.mak b A y T.jg λ_ F=>A4.ok T F C6;have C8:=a8.cal X G b λ_ F _ _=>Ae.ok T F;have C9:=a9.met (mg:=mg) b λ_ F=>AX.ok T F C2;have ab:=d5.cal X G b λ_ F _ _=>AL.ok T F C3 C5;have d:=d6.rJ X G b λ_ F _ _=>AQ.ok T F ab C5;have ch:=d7.rJ X G b λ_ F _ _=>AU.ok T F d;have ac:=d8.rA (mg:=mg) b λ_ F=>A2.ok T F C8 C9 ch;have ad:=d9.cal X G b λ_ F _ _=>A8.ok T F;have cl:=ea.cal X G b λ_ F _ _=>A9.ok T F ad;have ah:=eb.cal X G b λ_ F _ _=>Cb.ok T F;have co:=ec.cal X G b λ_ F _ _=>Cd.ok T F ah;have cp:=ed.cal X G b λ_ F _ _=>Cj.ok T F co;have ai:=ee.rA (mg:=mg) b λ_ F=>AY.ok T F C9;have cr:=ef.rA (mg:=mg) b λ_ F=>AZ.ok T F ai;have cv:=eg.cal X G b λ_ F _ _=>AF.ok T F C8;have cx:=eh.cal X G b λ_ F _ _=>Aa.ok T F;have n:=ei.cal X G b λ_ F _ _=>Ab.ok T F cx;have al:=ej.cal X G b λ_ F _ _=>Ac.ok T F n;have cz:=ek.cal X G b λ_ F _ _=>AH.ok T F cv al;have c0:=el.cal X G b λ_ F _ _=>AG.ok T F;have c1:=em.rJ X G b λ_ F _ _=>AK.ok T F cz c0;have c2:=en.cal X G b λ_ F _ _=>Ai.ok T F al;have c3:=eo.cal X G b λ_ F _ _=>Af.ok T F C8;have c4:=ep.cal X G b λ_ F _ _=>Ah.ok T F c3;have c5:=eq.cal X G b λ_ F _ _=>Aj.ok T F c4;have c6:=er.cal X G b λ_ F _ _=>Ag.ok T F;have c7:=es.cal X G b λ_ F _ _=>Ak.ok T F c6 n;have c8:=et.cal X G b λ_ F _ _=>Al.ok T F c2 c5 c7;have c9:=eu.rJ X G b λ_ F _ _=>Am.ok T F c8;have da:=ev.rA (mg:=mg) b λ_ F=>AB.ok T F C5;have db:=ew.rA (mg:=mg) b λ_ F=>AC.ok T F da;have am:=ey.cal X G b λ_ F _ _=>Ao.ok T F;have dd:=ez.cal X G b λ_ F _ _=>Ap.ok T F;have de:=e0.cal X G b λ_ F _ _=>Aq.ok T F dd;have df:=e1.cal X G b λ_ F _ _=>Ar.ok T F;have dh:=e2.cal X G b λ_ F _ _=>As.ok T F am de df;have di:=e3.cal X G b λ_ F _ _=>Au.ok T F dh;have o:=e4.rA (mg:=mg) b λ_ F=>AD.ok T F c9 db am di C1;have dj:=e5.cal X G b λ_ F _ _=>AI.ok T F o;have dk:=e6.cal X G b λ_ F m h=>AJ.ok T F o dj m h;have dl:=e7.cal X G b λ_ F _ _=>AV.ok T F o dk;have p:=e8.rA (mg:=mg) b λ_ F=>A1.ok T F ai d;have ap:=e9.rA (mg:=mg) b λ_ F=>A3.ok T F cr c1 n dl p;have as:=fb.rJ X G b λ_ F _ _=>AR.ok T F d;have dm:=fc.rJ X G b λ_ F _ _=>AM.ok T F ab;have dn:=fe.cal X G b λ_ F m h=>AN.ok T F C5 m h;have dp:=ff.rJ X G b λ_ F _ _=>AO.ok T F dm dn;have dq:=fg.rJ X G b λ_ F _ _=>AW.ok T F as dp;have q:=fh.rA (mg:=mg) b λ_ F=>A7.ok T F dq;have r:=fi.gW X G b λ_ F _ _=>Ca.ok T F;have dr:=fj.cal X G b λ_ F _ _=>Ch.ok T F q p r;have ds:=fk.rJ X G b λ_ F _ _=>AT.ok T F d;have au:=fl.rJ X G b λ_ F _ _=>AS.ok T F d;have dt:=fm.cal X G b λ_ F _ _=>Ce.ok T F ds au;have av:=fn.cal X G b λ_ F _ _=>Cf.ok T F dt q;have du:=fo.cal X G b λ_ F _ _=>Cg.ok T F C3 au C0;have dv:=fp.cal X G b λ_ F _ _=>Cn.ok T F ap dr av du;have dx:=fq.cal X G b λ_ F _ _=>Cc.ok T F ah;have dy:=a0.gZ (mg:=mg) b λ_ F=>Cl.ok T F;have dz:=fr.cal X G b λ_ F _ _=>Cm.ok T F C0 ap r dy;have d0:=ft.cal X G b λ_ F _ _=>Ck.ok T F as q r;have d1:=fu.met (mg:=mg) b λ_ F=>A6.ok T F;have d2:=fv.cal X G b λ_ F _ _=>Co.ok T F cp dv dx dz d0 C0 C6 d1 ac p;have d3:=fw.met (mg:=mg) b λ_ F=>A5.ok T F;have d4:=fx.cal X G b λ_ F _ _=>Ci.ok T F d3;exact Cp.ok T (vE (st:=Cp.st) lL cL kL) C7 ac cl ad d2 d4 av
theorem walk {l:PySem.W.OpenLaw}{q:Er}{b:Da}{g:(Str->Dc)->EI->Prop}{e:Eu->EI->Prop}{d:DefRec}{K:Params->Cq}(hn:l.most=some 63)(c:d.params.defaults=[])
  (j:∀(w:Eu) (h:EI),e w h->(K w.params).In h)
  (F:∀(w:Eu) (mg:Str->Dc) (fa:Eo) (h:EI),(K w.params).In h->h.Ns EA mg->mg d.name=some (.ref fa) -> ∃fd:Ev,(∀(s:Et) (u:Ep),BindsTo s fd ⟨[u],[]⟩ [("_law_script",u)])/\∀base:EI,(K w.params).In base->base.Ns EA mg->zc l.prog w (K w.params) mg base CA 20 fa fd ["_law_script"] (oZ<|K w.params)) :
  PySem.W.WalkO q b g e l.row.toRowW d [] (λf vs=>PySem.call f vs) :=
 L2.lA (n:=63) (k:=20) (x:="_law_script") (CX:=λ_=>CA) (sp:=λw=>oZ<|K w.params) hn (by decide) c ⟨rfl,by decide,by decide⟩ j F (λ_ _ a ns hl _ i=>⟨a,ns,rfl,i,hl,λ_=>rfl⟩) λ_ _ _ _ _ z=>z
end An23
end
open PySem PySem.W PyProof.Rows
set_option maxRecDepth 100000 in
set_option maxHeartbeats 0 in
theorem PySem.Challenge.cw_annals_k23_whole_versions_holds : PySem.Challenge.rw_annals_k23_whole_versions.Holds := by
 w_on;o_law;k_head;(case hw=>w_witness2)
 k_fill
 refine An23.walk (l:=PySem.Challenge.rw_annals_k23_whole_versions) rfl rfl (λw h Y=>PySem.W.kIn_of Y) ?F
 case F =>
  intro w mg fa h KX G hmg;refine' An23.all_mk KX G hmg ?z_len ?z_all ?z_ord ?DD ?z_str ?z_set ?D2 ?Ea ?Ej ?z_max ?z_int ?El ?Eb ?Ek ?z_any ?DI ?Dz ?Dv ?Dy ?DV ?DB ?Dx ?DA ?DX ?D3 ?DW ?DC ?DY ?DP ?Ed ?Ee ?DJ ?DZ ?DO ?DK ?D4 ?z_min ?DF ?Ec ?D0 ?DQ ?DM ?s_dst ?s_ek ?s_kx ?s_kv ?s_exm ?DG ?DR ?DL ?DH ?pg_aD ?hd_aD ?po_aD ?sa_aD ?mk_aD ?kc_aD ?s_m1 ?s_m2 ?s_kd ?pg_aC ?hd_aC ?po_aC ?sa_aC ?mk_aC ?kc_aC ?s_n1 ?s_n2 ?s_n3 ?s_kit ?a0 ?a1 ?a2 ?a3 ?a4 ?a5 ?a6 ?a7 ?a8 ?a9 ?a10 ?a11 ?a12 ?a13 ?a14 ?a15 ?a16 ?a17 ?a18 ?a19 ?a20 ?a21 ?a22 ?a23 ?a24 ?a25 ?a26 ?a27 ?a28 ?a29 ?a30 ?a31 ?a32 ?a33 ?a34 ?a35 ?a36 ?a37 ?a38 ?a39 ?a40 ?a41 ?a42 ?a43 ?a44 ?a45 ?a46 ?a47 ?a48 ?a49 ?a50 ?a51 ?a52 ?a53 ?a54 ?a55 ?a56 ?a57 ?a58 ?a59 ?a60 ?a61 ?a62 ?a63 ?a64 ?a66 ?a67 ?a68 ?a69 ?a70 ?a71 ?a72
  case z_len|z_all|z_ord|DD|z_str|z_set|D2|Ea|Ej|z_max|z_int|El|Eb|Ek|z_any|DI|Dz|Dv|Dy|DV|DB|Dx|DA|DX|D3|DW|DC|DY|DP|Ed|Ee|DJ|DZ|DO|DK|D4|z_min|DF|Ec=>k_is
  case a0|a1=>(apply An23.MF.mk;k_is;k_is;k_is;k_is;k_is)
  case a2=>(apply An23.GF.mk;k_is;k_is;k_is;k_is)
  case a3=>(apply An23.MF.mk;k_is;k_is;k_is;k_is;k_is)
  case a4=>(apply An23.GF.mk;k_is;k_is;k_is;k_is)
  case a5|a6|a7=>(apply An23.MF.mk;k_is;k_is;k_is;k_is;k_is)
  case a8=>(apply An23.GF.mk;k_is;k_is;k_is;k_is)
  case a9=>(apply An23.MF.mk;k_is;k_is;k_is;k_is;k_is)
  case a10|a11|a12=>(apply An23.GF.mk;k_is;k_is;k_is;k_is)
  case a13=>(apply An23.MF.mk;k_is;k_is;k_is;k_is;k_is)
  case a14|a15|a16|a17|a18=>(apply An23.GF.mk;k_is;k_is;k_is;k_is)
  case a19|a20=>(apply An23.MF.mk;k_is;k_is;k_is;k_is;k_is)
  case a21|a22|a23|a24|a25|a26|a27|a28|a29|a30|a31|a32|a33|a34|a35=>(apply An23.GF.mk;k_is;k_is;k_is;k_is)
  case a36|a37=>(apply An23.MF.mk;k_is;k_is;k_is;k_is;k_is)
  case a38|a39|a40|a41|a42|a43=>(apply An23.GF.mk;k_is;k_is;k_is;k_is)
  case a44=>(apply An23.MF.mk;k_is;k_is;k_is;k_is;k_is)
  case a45|a46|a47=>(apply An23.GF.mk;k_is;k_is;k_is;k_is)
  case a48|a49=>(apply An23.MF.mk;k_is;k_is;k_is;k_is;k_is)
  case a50|a51|a52|a53|a54=>(apply An23.GF.mk;k_is;k_is;k_is;k_is)
  case a55=>(apply An23.MF.mk;k_is;k_is;k_is;k_is;k_is)
  case a56|a57|a58|a59|a60|a61|a62|a63|a64|a66|a67=>(apply An23.GF.mk;k_is;k_is;k_is;k_is)
  case a68=>(apply An23.MF.mk;k_is;k_is;k_is;k_is;k_is)
  case a69=>(apply An23.GF.mk;k_is;k_is;k_is;k_is)
  case a70=>(apply An23.MF.mk;k_is;k_is;k_is;k_is;k_is)
  case a71|a72=>(apply An23.GF.mk;k_is;k_is;k_is;k_is)
  case D0|DQ|DM=>first|k_is|kernel_rfl|rfl|(with_unfolding_all rfl)|decide+kernel +revert
  case s_dst=>decide+kernel
  case s_ek=>(intro a ha;simp only[Zo,ZD,Ye]at ha;rcases ha with rfl|rfl|rfl|rfl<;>(constructor<;>first|k_is|kernel_rfl|rfl|(with_unfolding_all rfl)|decide+kernel +revert))
  case s_kx=>(intro a ha b hb;simp only[Zo,ZD,Ye]at ha hb;rcases ha with rfl|rfl|rfl|rfl<;>rcases hb with rfl|rfl|rfl|rfl|rfl|rfl|rfl|rfl|rfl|rfl<;>first|k_is|kernel_rfl|rfl|(with_unfolding_all rfl)|decide+kernel +revert)
  case s_kv|s_exm=>(intro a ha;simp only[Zo,ZD,Ye]at ha;rcases ha with rfl|rfl|rfl|rfl<;>first|k_is|kernel_rfl|rfl|(with_unfolding_all rfl)|decide+kernel +revert)
  case DG|DR|DL|DH=>first|k_is|kernel_rfl|rfl|(with_unfolding_all rfl)|decide+kernel +revert
  case pg_aD|hd_aD|po_aD|sa_aD|mk_aD|kc_aD|s_m1|s_m2=>k_is
  case s_kd=>exact An23.iQ (by k_is)
  case pg_aC|hd_aC|po_aC|sa_aC|mk_aC|kc_aC|s_n1|s_n2|s_n3=>k_is
  case s_kit=>(intro a ha b hb;simp only[An23.kinds,Zo,ZD,Ye]at ha hb;rcases ha with rfl|rfl|rfl|rfl|rfl|rfl|rfl<;>rcases hb with rfl|rfl|rfl|rfl|rfl|rfl|rfl<;>rfl)
