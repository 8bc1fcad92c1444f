import PyProof.Rows.All
import Wide.All
import OpenK.AllK
import PySem.Challenge.RW_annals_k22_branches
set_option Elab.async false
set_option linter.all false
set_option compiler.extract_closed false
set_option genSizeOf false
set_option maxRecDepth 100000
set_option maxHeartbeats 4000000
abbrev Da:=List PySem.Str
abbrev Db:=List PySem.Value
abbrev Dc:=Option PySem.Value
abbrev De:=List PySem.Addr
abbrev Df:=List<|PySem.Addr×PySem.Obj
abbrev Dg:=List PySem.PyData
abbrev Dh:=List<|PySem.Str×PySem.Str
abbrev Di:=PySem.Shared->Prop
abbrev Ca:=PySem.W.Frag
open PySem renaming wpAny_bind->Q4,wpAny_pure->Q7,wpAny_newObj_type->Zx,wpAny_call_entry->ZO,wpAny_holding->ZV,boot_len->Z0,wpAny_callSpecial?_slot->Z1,wpAny_mono->Z3,sizeLine_eq->Ya,wpAny_setField->Yb,wpAny_Call_Name_kw->Ye,wpAny_truthy_bool->Yo,mem_of_lookup->Ys,wpAny_field->Yt,codeAny_builtin->Yu,wpAny_isInstance->Yx,codeAny_mono->Yy,wpAny_of_eq->YC,wpAny_attempt->YM,isSubtype_type->YT,wpAny_setState_of->Y2,wpAny_setEntries_of->Y6,wpAny_Call_method0_late->Y8,wpAny_askSetting->Jb,wpAny_typeNameOfWhole_valiter->Jd,tupleKind_room_in1->Jf,wpAny_specialOf->Jk,wpAny_pyIter_list->Jm,wpAny_rule->Jq,codeAny_call_builtin->Jt,evalArgs_none->JA,wpAny_comprehension_free->JC,wpAny_typeNameOf_valiter->JG,wpAny_passesOwn->JH,wpAny_call->JI,call_meets->JJ,wpAny_seqItems->JR,wpAny_fieldsOf->JU,isSubtype_stop->JV,wpAny_isOneOf_valiter->JZ,typeIs_str->J1,wpAny_execs_nil->J7,wpAny_loadPart'->J9,wpAny_ite_split->Vb,wpAny_typeOf->Ve,call_meetsIn->Vf,wpAny_tupleItemsOf->Vi,wpAny_runValue->Vl,wpAny_assign_Name->Vm,wpAny_pyIter_slot->Vr,wpAny_standAt->Vu,plainId_quiet->Vw,wpAny_handled->Vx,wpAny_newList->Vy,wpAny_execs_cons->VA,wpAny_forIn_list->VB,wpAny_load->VD,codeAny_of_tree->VJ,wpAny_throw->VN
open List renaming length_map->Q5,mem_singleton->Q8,mem_cons->Za,mem_map->Ze,getElem?_eq_getElem->Zh,mem_cons_of_mem->Zi,mem_cons_self->Zj,size_toArray->Zn,getElem?_map->Zo,map_append->Zr,mem_of_getElem?->Zu,mem_append_right->Zy,length_take->Zz,map_map->ZB,not_mem_nil->ZC,length_append->ZD,length_cons->ZF,mem_append->ZG,take_length->ZI,map_cons->ZJ,nodup_cons->ZK,getElem?_eq_none->ZN,any_eq_true->ZP,all_eq_true->ZW,getElem_map->ZX,getElem?_eq_some_iff->Z2,take_add_one->Z4,mem_iff_getElem->Z5,find?_cons->Z7,getD_eq_getElem?_getD->Yf,nodup_nil->Yp,length_singleton->Yw,mem_append_left->Yz,length_range->YE,append_nil->YG,map_congr_left->YI,length_drop->YO,getElem?_append_left->YW,getElem?_zip_eq_some->YX,pairwise_iff_getElem->YY,append_assoc->Y1,getElem_mem->Ja,eq_nil_of_length_eq_zero->Jc,of_mem_zip->Ji,getElem?_toArray->Jl,getElem?_append_right->Jp,not_lt->Ju,nodup_iff_pairwise_ne->Jw,filterMap_cons->Jz,pairwise_cons->JL,take_of_length_le->JQ,map_fst_zip->J4,length_nil->J8,foldl_cons->Va,mem_range->Vg,mem_filterMap->Vh,any_eq_false->Vn,foldl_append->Vq,ext_getElem?->Vs,getElem_inj->Vz,le_antisymm->VC,map_nil->VE,any_map->VH
open PySem.Heap renaming get?_push_of_some->Q6,get?_push_size->Zb,lt_size->Zd,get?_update_self->ZM,get?_update_other->ZT,size_push->Z8,get?_none_of_le->J5
open Nat renaming le_refl->Q9,ne_of_lt->Zl,lt_of_lt_of_le->Zq,zero_le->ZA,lt_irrefl->ZQ,le_trans->Yc,le_of_lt->Yd,lt_succ_of_lt->Yk,le_succ->Ym,lt_succ_self->YN,ne_of_gt->Je,min_le_right->Jy,lt_of_le_of_lt->JK,lt_trichotomy->JS,le_of_eq->Vd,eq_zero_or_pos->Vk,lt_or_ge->VF,not_lt_zero->VM
abbrev Zc:=@decide_eq_true
abbrev Zg:=@decide_eq_false
abbrev Zm:=@if_neg
abbrev Zp:=@if_pos
abbrev Zt:=@decide_eq_true_iff
abbrev Zv:=@of_decide_eq_true
abbrev Yi:=@beq_eq_false_iff_ne
abbrev Yl:=@or_false
abbrev Yn:=@beq_self_eq_true
abbrev Yq:=@decide_eq_true_eq
abbrev YU:=@of_decide_eq_false
abbrev Y7:=@if_false
abbrev Y9:=@decide_eq_decide
abbrev Jo:=@beq_iff_eq
abbrev Jr:=@not_or
abbrev JM:=@decide_eq_false_iff_not
abbrev JT:=@iff_of_false
abbrev VG:=@getElem?_pos
open PyProof.Rows renaming boot_isinstance->Zf,boot_str->ZR,boot_tuple->Z9,slot_tuple_getitem->Yv,callWith_type1->YK,boot_list->YL,boot_all->YV,boot_sorted->Y4,toString_length_le->Y5,callWith_builtin1->J0,int_text_len_1921->J3,slice_closes_toL->J6,entry_list_sort->VL
open Bool renaming and_eq_true->Zk,false_ne_true->Zs,eq_iff_iff->ZS,false_eq_true->ZZ,false_and->YR,eq_false_iff->Y0,or_eq_false_iff->Y3,and_false->Js,not_eq_true'->JP,false_or->Vt,not_true->Vv,or_eq_true->VI
open Array renaming length_toList->Zw,getD_eq_getD_getElem?->ZL,getElem?_toList->Z6,getElem?_eq_getElem->Yh,getElem?_eq_some_iff->YQ,getElem?_eq_none->Jg,getElem_toList->Jx
open PySem.W renaming mg_of->ZE,mg_none_of->ZH,kia_one->ZY,hideAll_get->YH,callWith_K->YS,hideAll_none->Jn,cellsFrom_some->JN,methodCall_KW->JW,plainGet_of->Vc,kitx_list->Vo,kitx_dict->Vp
open Option renaming isSome_iff_exists->ZU,map_eq_some_iff->Yg,isSome_map->Yj,map_some->Jj,getD_some->J2
open PySem.Value renaming isStrOf_shape->Yr
open Int renaming eq_ofNat_of_zero_le->YD,toNat_natCast->JO,natAbs_natCast->Vj
open PySem.F renaming plainAttrs_list->YF,plainAttrs_str->Jh,slot_list_append->JE,type_list_append->JF,slot_dict_get->JX
open PyProof.Rows.F renaming plain_set_update_loop->YJ,entry_set_update_loop->JB
open LawfulBEq renaming eq_of_beq->YZ
open List.Perm renaming eq_of_pairwise->JD
open PySem.W.KIN renaming signs_num->JY
open PySem renaming Addr->Ei,Value->Ej,Program->Ek,wpAny->Em,Shared->Eo,World->Ep,PyData->Er,FuncData->Es,model->Et,mainGlobals->Eu,starEach->EB,Heap->EC,Around->ED,compareOp->EJ,Expr->EK,sysModules->EL,Stmt->ER,rawInt->EU,eval->EZ,cLine->E4,firstArgMember->La,backTo->Ld,Paired->Lf,DictEntry->Lj,attributeBase->Ll,SetTable->Lp,codeAny->Ls,pyNext->Lu,entryOfKey->LB,assignEach->LC,letOwnedTupleGo->LF,ReadsAll->LG,Scope->LI,bootBuiltins->LO,NameKind->LR,keywordEach->LV,pickOrder->LX,foldedSetIterable->LZ,compEnvC->L6,swapsWith->Mb,getItem->Mj,getMethod->Ml,scanBound->Mm,assign->Mn,holding->Mp,pyIter->Mq,IsPart->Mr
open PySem.PyData renaming strOk->El,canLayAll0->Ew,depthAll->EF,eqv->EG,eqvAll->EW,str->E9,keyHash->LN
open PySem.Value renaming ref->Ev,none->EA,isStrOf->E3,bool->LA,str->Ma,isInt->Me
open Sum renaming inr->Ey
open PySem.W renaming nsIn->Ez,findIn->EI,kitOne->EM,excIn->EO,keepIn->ES,emptyDict->E1,fnOf->E5,instObj->Lk,plainGet->Lv,codeIn->Lw,hasDictIn->LJ,makesIn->LS,plainOver->L4,isFn->Mi
open Ne renaming symm->EE
open False renaming elim->EH
open PySem.Str renaming ofString->EN,empty->LU
open PySem.Heap.SameBut renaming update->EQ
open PySem.SeqAt renaming shaped->ET,eqBoolOverData->LM
open PySem.Builtin.Tuple renaming tupleHashOf->EV,tupleExact->Lr,tupleItemsOf->LL
open List renaming range->EX,toArray->Lc,lookup->Lz
open Or renaming inl->EY
open PySem.Obj renaming mapFields->E2,mapSeq->E8,data_mapFields->Le,isFreed_of_fields->Lm,cls_mapFields->LY,putSet->Mo
open PySem.Heap renaming SameBut->E6,ExtBut->Mf
open PySem.Calls renaming callWith_builtin->E7,spliced_cons->LD,call_function_entry->LQ,spliced_nil->L5
open PySem.SetTable renaming below->Lb,grown->Ly
open True renaming intro->Lg
open PySem.Builtin.Str renaming strSub->Lh,occurrences->Lx
open PyProof.Rows renaming seqObj->Li,envOfC->Mc,AllBare->Mh
open Pure renaming pure->Ln
open PySem.Builtin.Slice renaming slicePlaces->Lo,sliceAdjust->LP
open PySem.Around renaming under_plainId->Lq
open PySem.StrLaws renaming glued_eq_join->LH,subAt_one->L7
open PySem.Builtin.List renaming listExtendWith->LK
open PySem.Txt renaming slice->LW
open PySem.F renaming slot_dict_items->L8
open PySem.PassesOwn renaming leaving->L9
open ForInStep renaming yield->Mg
noncomputable section
namespace L2
open PySem
section
variable {M:Model}{A:ED}{E:Ej->Di}{s:Eo}{base:EC}{q:Array Ej->Prop}{env:Env}{outer:List Env}{L x:Ei}
def Iy (q:Array Ej->Prop):Prop:=∀(b:Array Ej) (v:Ej),q b->q (b.setIfInBounds 1 v)
def Kk (q:Array Ej->Prop)(h base:EC)(x:Ei)(c f:Ej):Prop :=
 ∃ob b T d e,h.get? x=some ob/\(ob.cls=c/\q b)/\ob.data=.fields b/\b[1]?=some (.ref T)/\base.get? T=none/\T≠x/\h.get? T=some d/\d.data=.fields e/\e[3]?=some f
theorem Ny {h:EC}{y:Ei}{c:Obj}{vs:Array Ej}(d:h.get? y=some c)(hd:c.data=.fields vs):∀b o,h.get? b=some o->(∀ws,o.data≠.fields ws)->b≠y:=fun b o hb e z=>by
 subst z;rw[d]at hb;cases hb;exact e vs hd
theorem Xk (C:Iy q){ob:Obj}{vs:Array Ej}{head:Ej}{nx:Bool}{Q:Unit->Di}(y:A.frames=some (env::outer))(f:s.heap.FunFrames base (env::outer))(B:env.frame=some L)
  (j:s.heap.get? x=some ob) (D:base.StaysIn s.heap) (p:base.get? x=none) (hd:ob.data=.fields vs) (sz:1<vs.size) (hv:q vs)
  (k:∀h',base.StaysIn h'->h'.FunFrames base (env::outer)->Kk q h' base x ob.cls (EU L)->s.heap.UpToSlots h'->Q () { s with heap:=h' }) :
  Em M A (do let fo ←frameOf env;let pl ←entryPlaceOf L nx;let en ←EntryCells.newEntry head fo .none (EU L) .none pl;setField (.ref x) 1 en) Q E s:=by
 have F:x∉(env::outer).filterMap (·.frame):=fun z=>by
  obtain⟨_,o,v,hn⟩:=f.mem z;rw[j]at v;cases v;exact hn vs hd
 refine Q4<|wpAny_frameOf_fun y f B fun g i=>Q4<|wpAny_entryPlaceOf fun pl c=>?_;unfold EntryCells.newEntry;unfold newFields;refine Q4<|Zx (T:="traceback") ?_<|c.sizeOk5 _ _ _ _ _;have u:g.get? x=some ob:=by rw[←j];exact i.2.1 x F
 have t:base.StaysIn g:=fun b o e=>by
  rw[i.2.1 b fun z=>by rw[(f.mem z).1]at e;cases e];exact D b o e
 obtain⟨row,n⟩:∃row:Obj,row={ cls:=.type "traceback",data:=.fields ([head,.ref L,.none,EU L,.none]++(if pl.isEmpty then List.replicate 6 EA else pl)).toArray }:=⟨_,rfl⟩;have w:=Q6 (h:=g) row u;have d:g.objs.size≠x:=Je<|Zd u;rw[←n];have keep:∀b o,b≠x->g.get? b=some o->((g.push row).update x (E2 (·.setIfInBounds 1 (Ev g.objs.size)))).get? b=some o:=fun b o nb e=>by
  rw[ZT _ _<|EE nb];exact Q6 _ e
 refine Yb w hd sz<|k _ ?_ ?_ ?_ ?_
 ·intro b o e;exact keep b o (fun z=>by rw[z,p]at e;cases e)<|t b o e
 ·refine f.of_keeps fun b o e hn=>?_;obtain⟨sl,l⟩:=i.2.2 b o e;exact⟨_,keep b _ (Ny j hd b o e hn) l,rfl⟩
 ·have r:=Le hd (·.setIfInBounds 1 (Ev g.objs.size));refine⟨_,_,g.objs.size,row,_,ZM _ w<|Lm r,⟨LY _ _,C _ _ hv⟩,r,by simp[sz],t.fresh,d,?_,by rw[n],?_⟩
  ·rw[ZT _ _<|EE d];exact Zb g (by rw[n];rfl)
  ·rcases c with rfl|⟨_,_,_,_,_,_,_,rfl⟩<;>simp
 ·intro b o e hn;obtain⟨sl,l⟩:=i.2.2 b o e;exact⟨sl,keep b _ (Ny j hd b o e hn) l⟩
theorem CU (i:Iy q){ob:Obj}{vs:Array Ej}{Q:Unit->Di}(g:A.frames=some (env::outer))(f:s.heap.FunFrames base (env::outer))(d:env.frame=some L)
  (e:s.heap.get? x=some ob) (j:base.StaysIn s.heap) (b:base.get? x=none) (hd:ob.data=.fields vs) (c:vs[1]?=some .none) (hv:q vs)
  (k:∀h',base.StaysIn h'->h'.FunFrames base (env::outer)->Kk q h' base x ob.cls (EU L)->s.heap.UpToSlots h'->Q () { s with heap:=h' }):Em M A (noteFrame (.ref x) env) Q E s:=by
 unfold noteFrame;simp only[d];refine Q4<|Yt e hd c ?_;rw[Zm<|show¬(EA !=EA)=true by decide];exact Xk i g f d e j b hd (YQ.mp c).1 hv k
theorem FN (w:Iy q){c:Ej}{Q:Unit->Di}(u:A.frames=some (env::outer))(r:s.heap.FunFrames base (env::outer))(l:env.frame=some L)(t:Kk q s.heap base x c .none)(B:base.StaysIn s.heap)(g:base.get? x=none)
  (k:∀h',base.StaysIn h'->h'.FunFrames base (env::outer)->Kk q h' base x c (EU L)->s.heap.UpToSlots h'->Q () { s with heap:=h' }):Em M A (noteFrame (.ref x) env) Q E s:=by
 obtain⟨ob,K,T,I,J,y,⟨v,hv⟩,hd,i,C,p,f,dT,j⟩:=t;subst v;unfold noteFrame;simp only[l];refine Q4<|Yt y hd i ?_;rw[Zp<|show(Ev T !=EA)=true by simp];refine Q4<|Yt f dT j ?_;rw[Zm<|show¬(EA==EU L)=true by simp[EU]];have d:∀b,b≠T->(s.heap.update T (E2 (·.setIfInBounds 3 EA))).get? b=s.heap.get? b:=fun b nb=>ZT _ _<|EE nb;have n:=Ny f dT;refine Q4<|Yb f dT (YQ.mp j).1 ?_;refine Xk w u (r.of_keeps fun b o e hn=>⟨o,by rw[d b<|n b o e hn];exact e,rfl⟩) l (by rwa[d x<|EE p]) (fun b o e=>?_) g hd (YQ.mp i).1 hv fun h' D F G H=>k h' D F G fun b o e hn=>?_
 ·rw[d b fun z=>by rw[z,C]at e;cases e];exact B b o e
 ·exact H b o (by rwa[d b<|n b o e hn]) hn
theorem qC {l:List Env}{Q:Unit->Di}(y:base.StaysIn s.heap)(v:s.heap.FunFrames base l)(t:Kk q s.heap base x c fl)
  (k:∀h',base.StaysIn h'->h'.FunFrames base l->Kk q h' base x c .none->s.heap.UpToSlots h'->Q () { s with heap:=h' }):Em M A (setFlight (.ref x) none) Q E s:=by
 obtain⟨ob,C,T,D,B,n,hv,hd,j,p,i,g,dT,w⟩:=t;have u:3<B.size:=(YQ.mp w).1;have r:=Ny g dT;have d:∀b,b≠T->(s.heap.update T (E2 (·.setIfInBounds 3 ((none:Option Ei).elim EA fun f=>EU f)))).get? b=s.heap.get? b:=fun b nb=>ZT _ _<|EE nb;unfold setFlight;refine Q4<|Yt n hd j ?_;rw[Zp<|show(Ev T !=EA)=true by simp];refine Yb g dT u (k _ (fun b o e=>?_) (v.of_keeps fun b o e hn=>⟨o,by rw[d b<|r b o e hn];exact e,rfl⟩) ?_ fun b o e hn=>⟨o.slots,by rw[d b<|r b o e hn];exact e⟩)
 ·rw[d b fun z=>by rw[z,p]at e;cases e];exact y b o e
 ·refine⟨ob,C,T,_,_,by rw[d x<|EE i];exact n,hv,hd,j,p,i,ZM _ g<|Lm<|Le dT _,Le dT _,?_⟩;simp[u]
theorem Bl (i:Iy q){ob:Obj}{vs:Array Ej}{Q:Unit->Di}(e:A.frames=some (env::outer))(c:s.heap.FunFrames base (env::outer))(f:env.frame=some L)
  (j:s.heap.get? x=some ob) (l:base.StaysIn s.heap) (b:base.get? x=none) (hd:ob.data=.fields vs) (d:vs[1]?=some .none) (hv:q vs)
  (k:∀h',base.StaysIn h'->h'.FunFrames base (env::outer)->Kk q h' base x ob.cls .none->s.heap.UpToSlots h'->Q () { s with heap:=h' }):Em M A (leaving env<|.ref x) Q E s:=by
 unfold leaving;exact Q4<|CU i e c f j l b hd d hv fun g n o p r=>qC (s:={ s with heap:=g }) n o p fun h' t u v w=>k h' t u v<|r.trans w
theorem CN (i:Iy q){c:Ej}{Q:Unit->Di}(e:A.frames=some (env::outer))(d:s.heap.FunFrames base (env::outer))(f:env.frame=some L)(t:Kk q s.heap base x c .none)(j:base.StaysIn s.heap)(b:base.get? x=none)
  (k:∀h',base.StaysIn h'->h'.FunFrames base (env::outer)->Kk q h' base x c .none->s.heap.UpToSlots h'->Q () { s with heap:=h' }):Em M A (leaving env<|.ref x) Q E s:=by
 unfold leaving;exact Q4<|FN i e d f t j b fun g l n o p=>qC (s:={ s with heap:=g }) l n o fun h' r u v w=>k h' r u v<|p.trans w
end
open PySem.Spec PyProof.Rows
abbrev Key:=Sum Int Str
def IE:Key->Ej->Bool
 | .inl k,v=>Me k v
 | .inr x,v=>E3 x v
def Rz (w:Ep):Key->Int
 | .inl k=>hashInt k
 | .inr x=>hashStr w x
theorem yK:∀{k:Key} {v:Ej},IE k v=true->(∃i t,k=Sum.inl i/\v=Value.int i t)\/(∃x t,k=Ey x/\v=Ma x t)
 | .inl i,v,h=>by
  obtain⟨t,e⟩:=Value.isInt_shape (k:=i) (v:=v) h;exact .inl ⟨i,t,rfl,e⟩
 | .inr x,v,h=>by
  obtain⟨t,e⟩:=Yr (x:=x) (v:=v) h;exact .inr ⟨x,t,rfl,e⟩
theorem HH (i:Int)(t:Tok):IE (.inl i) (.int i t)=true:=by simp[IE,Me]
theorem xV (x:Str)(t:Tok):IE (.inr x) (.str x t)=true:=by simp[IE,E3]
theorem OF (a b:Int):decide ((Sum.inl a:Key)=Sum.inl b)=(a==b):=by
 by_cases e:a=b
 ·subst e;simp
 ·have h:¬(Sum.inl a:Key)=Sum.inl b:=fun q=>e<|Sum.inl.inj q;rw[Zg h];exact(Yi.mpr e).symm
theorem OI (a b:Str):decide ((Ey a:Key)=Ey b)=decide (a=b):=by
 by_cases e:a=b
 ·subst e;simp
 ·have h:¬(Ey a:Key)=Ey b:=fun q=>e<|Sum.inr.inj q;rw[Zg h,Zg e]
theorem OG (a:Int)(b:Str):decide ((Sum.inl a:Key)=Ey b)=false:=Zg<|fun q=>nomatch q
theorem OH (a:Str)(b:Int):decide ((Ey a:Key)=Sum.inl b)=false:=Zg<|fun q=>nomatch q
def zU (prog:Ek)(w:Ep):PySem.KeyKind prog w Key where
 is:=IE
 hash:=Rz w
 inj:=fun v a b ha hb=>by
  rcases yK ha with⟨i,t,rfl,rfl⟩|⟨x,t,rfl,rfl⟩
  ·rcases yK hb with⟨j,u,rfl,e⟩|⟨y,u,rfl,e⟩
   ·injection e with c _;rw[c]
   ·exact nomatch e
  ·rcases yK hb with⟨j,u,rfl,e⟩|⟨y,u,rfl,e⟩
   ·exact nomatch e
   ·injection e with c _;rw[c]
 byValue:=fun k v h=>by
  rcases yK h with⟨i,t,rfl,rfl⟩|⟨x,t,rfl,rfl⟩<;>rfl
 pyHash:=fun hv h=>by
  rcases yK hv with⟨i,t,rfl,rfl⟩|⟨x,t,rfl,rfl⟩
  ·exact wpAny_pyHash_int h
  ·exact wpAny_pyHash_str h
 eqBool:=fun d hv h=>by
  rcases yK d with⟨i,t,rfl,rfl⟩|⟨x,t,rfl,rfl⟩
  ·rcases yK hv with⟨j,u,rfl,rfl⟩|⟨y,u,rfl,rfl⟩
   ·rw[OF]at h;exact wpAny_eqBool_int h
   ·rw[OG]at h;exact SeqAt.EqAt.int_str i t y u _ _ _ _ h
  ·rcases yK hv with⟨j,u,rfl,rfl⟩|⟨y,u,rfl,rfl⟩
   ·rw[OH]at h;exact SeqAt.EqAt.str_int x t j u _ _ _ _ h
   ·rw[OI]at h;exact wpAny_eqBool_str h
 «strs»:=fun k x t v h=>by
  rcases yK h with⟨i,u,rfl,e⟩|⟨y,u,rfl,e⟩
  ·exact nomatch e
  ·injection e with c _;subst c;cases v<;>rfl
theorem BM (prog:Ek)(w:Ep)(i:Int)(t:Tok):(zU prog w).is (.inl i) (.int i t)=true:=HH i t
theorem GY (prog:Ek)(w:Ep)(x:Str)(t:Tok):(zU prog w).is (.inr x) (.str x t)=true:=xV x t
inductive V where
 |non|bl (b:Bool)|int (i:Int)|str (x:Str)|byt (b:Array UInt8)|flt (b:UInt64)|ref (a:Ei)|ty (n:String)
 deriving DecidableEq
abbrev Dl:=List<|Key×V
abbrev Dk:=List V
def WX:V->Ej->Prop
 | .non,u=>u=EA
 | .bl b,u=>u=LA b
 | .int i,u=>∃t,u=Value.int i t
 | .str x,u=>∃t,u=Ma x t
 | .byt b,u=>∃t,u=Value.bytes b t
 | .flt b,u=>∃t,u=Value.float b t
 | .ref a,u=>u=Ev a
 | .ty n,u=>u=Value.type n
abbrev W2:Dk->Db->Prop:=Lf WX
theorem W2.length (r:W2 xs us):xs.length=us.length:=Paired.length r
theorem W2.get:∀{xs:Dk} {us:Db} {i:Nat} {x:V},W2 xs us->xs[i]?=some x->∃u,us[i]?=some u/\WX x u
 |_,_,_,_,.nil,e=>by simp at e
 |_,_,0,_,.cons r _,e=>by simp at e;subst e;exact⟨_,rfl,r⟩
 |_,_,i+1,x,.cons _ t,e=>by
  obtain⟨u,b,c⟩:=W2.get (i:=i) (x:=x) t (by simpa using e);exact⟨u,by simpa using b,c⟩
theorem W2.append:∀{xs ys:Dk} {us ws:Db},W2 xs us->W2 ys ws->W2 (xs++ys) (us++ws)
 |_,_,_,_,.nil,s=>s
 |_,_,_,_,.cons r t,s=>.cons r<|W2.append t s
theorem W2.take:∀{xs:Dk} {us:Db} (n:Nat),W2 xs us->W2 (xs.take n) (us.take n)
 |_,_,0,_=>.nil
 |_,_,_+1,.nil=>.nil
 |_,_,n+1,.cons r t=>.cons r<|W2.take n t
theorem W2.drop:∀{xs:Dk} {us:Db} (n:Nat),W2 xs us->W2 (xs.drop n) (us.drop n)
 |_,_,0,r=>r
 |_,_,_+1,.nil=>.nil
 |_,_,n+1,.cons _ t=>W2.drop n t
def Tv:Option V->Dc->Prop
 |some v,some u=>WX v u
 |none,none=>True
 |_,_=>False
def KV {κ:Type}:List (κ×V)->List (κ×Ej)->Prop:=Lf fun(p:κ×V) (q:κ×Ej)=>p.1=q.1/\WX p.2 q.2
def kV:Key->V
 | .inl i=>.int i
 | .inr x=>.str x
inductive HO where
 |lst (xs:Dk)
 |tup (xs:Dk)
 |dK (Dm:Dl)|dT (Dm:List<|List Key×V)
 |set (S:Int->Bool) (n:Nat)
 |ins (C dx:Ei) (fs:List<|Str×V)
 |own (x:Ei)
 |xd (fs:List<|Str×V)
 |met (f x:Ei)
 |rng (lo hi:Int)
 |frz (o:Obj) (u:HO)
 |tbl (ps:Array Ej)
 |ext (φ:EC->Prop)
abbrev Hp:=Ei->Option HO
def upd (H:Hp)(a:Ei)(o:HO):Hp:=fun b=>if b=a then some o else H b
theorem zB:upd H a o a=some o:=by unfold upd;rw[Zp rfl]
theorem zI {a b:Ei}(h:b≠a):upd H a o b=H b:=by unfold upd;rw[Zm h]
theorem Hi:upd (upd H a o) a u=upd H a u:=by
 funext b;unfold upd;split<;>rfl
theorem PL {H:Hp}{a b:Ei}{o u:HO}(h:H a=some o)(h':H b=some u)(d:o≠u):a≠b:=by
 intro e;subst e;rw[h]at h';exact d<|Option.some.inj h'
theorem zN {H:Hp}{a b:Ei}{o:HO}(h:H a=some o)(h':H b=none):a≠b:=by
 intro e;subst e;rw[h]at h';cases h'
def TupAt (h:EC)(a:Ei)(b:Array Ej):Prop:=∃o,h.get? a=some o/\o.cls=.type "tuple"/\∃n,o.data=.seq b n/\o.dict=none
theorem TupAt.is (t:TupAt h a Dn):IsTup h a Dn:=let ⟨o,h1,h2,n,h3,_⟩:=t;⟨o,h1,h2,n,h3⟩
theorem TupAt.lt (t:TupAt h a Dn):a<h.objs.size:=t.is.lt
theorem TupAt.new (h:EC)(b:Array Ej):TupAt (h.push { cls:=.type "tuple",data:=.seq b }) h.objs.size b:=⟨_,Zb _ rfl,rfl,_,rfl,rfl⟩
section
variable (P:Ek)(w:Ep)
def WT (H:Hp)(h:EC)(a:Ei):HO->Prop
 | .lst c=>c.length<=sizeLine/\∃(b:Db) (n:Nat),W2 c b/\h.get? a=some { cls:=.type "list",data:=.seq b.toArray n }
 | .tup c=>c.length<=sizeLine/\∃b:Db,W2 c b/\TupAt h a b.toArray
 | .dK Dm=>Dm.length<=sizeLine/\(a==EL)=false/\∃j,KV Dm j/\h.DictOf (zU P w) a j
 | .dT Dm=>Dm.length<=sizeLine/\(a==EL)=false/\∃c:List<|List Key×Ei×Ej,
   Lf (fun(p:List Key×V) (q:List Key×Ei×Ej)=>p.1=q.1/\H q.2.1=some (.tup<|p.1.map kV)/\WX p.2 q.2.2) Dm c /\
   ∃o e l,h.get? a=some o/\o.ExactDict/\o.data=.dict e l/\e.toList=c.map (LB<|tupleKind<|zU P w)/\(c.map (·.1)).Nodup
 | .set S n=>h.SetOf (intKind P w) a S n
 | .ins C dx fs=>H dx=some (.own a)/\fs.length<=1000/\dx≠a/\h.get? a=some (Lk C dx) /\
   ∃d,h.Ns1 dx d/\(∀f,Tv (fs.lookup f)<|d f)/\PySem.Within d (fs.map (·.1))
 | .own _=>∃o,h.get? a=some o
 | .xd fs=>∃d,h.Ns1 a d/\∀f,Tv (fs.lookup f)<|d f
 | .rng lo hi=>∃t u v,h.get? a=some { cls:=.type "range",data:=.fields #[.int lo t,.int hi u,.int 1 v] }
 | .frz o u=>h.get? a=some o/\WT H h a u
 | .tbl ps=>h.get? a=some { cls:=.none,data:=.fields ps }
 | .met f x=>h.get? a=some (PySem.W.methodObj (.ref f)<|.ref x)
 | .ext φ=>φ h/\(∃o,h.get? a=some o)/\∀g i:EC,φ g->(∀o,g.get? a=some o->i.get? a=some o)->φ i
def Td (H:Hp)(h:EC):Prop:=∀a o,H a=some o->WT P w H h a o
end
section
variable {P:Ek}{w:Ep}{H H':Hp}{h h':EC}{a:Ei}{o:HO}
theorem WT.lt (x:WT P w H h a o):a<h.objs.size:=by
 cases o with
 |lst xs=>obtain⟨_,_,_,_,e⟩:=x;exact Zd e
 |tup xs=>obtain⟨_,_,_,p⟩:=x;exact p.lt
 |dK Dm=>obtain⟨_,_,_,_,o,_,_,e,_⟩:=x;exact Zd e
 |dT Dm=>obtain⟨_,_,_,_,o,_,_,e,_⟩:=x;exact Zd e
 |set S n=>obtain⟨o,_,_,_,e,_⟩:=x;exact Zd e
 |ins C dx fs=>obtain⟨_,_,_,e,_⟩:=x;exact Zd e
 |own y=>obtain⟨_,e⟩:=x;exact Zd e
 |xd fs=>obtain⟨_,⟨_,_,_,e,_⟩,_⟩:=x;exact Zd e
 |rng lo hi=>obtain⟨_,_,_,e⟩:=x;exact Zd e
 |frz ob u=>obtain⟨e,_⟩:=x;exact Zd e
 |tbl ps=>exact Zd<|show h.get? a=some _ from x
 |met f y=>exact Zd<|show h.get? a=some _ from x
 |ext φ=>obtain⟨_,⟨_,e⟩,_⟩:=x;exact Zd e
theorem Paired.uL {c d:Type}{F G:c->d->Prop}:∀{l₁:List c} {l₂:List d},Lf F l₁ l₂->(∀a b,F a b->G a b)->Lf G l₁ l₂
 |_,_,.nil,_=>.nil
 |_,_,.cons r t,f=>.cons (f _ _ r)<|Paired.uL t f
theorem WT.stay (x:WT P w H h a o)(k:∀b u,(b=a\/H b=some (.own a))->h.get? b=some u->h'.get? b=some u)
  (B:∀b,H b=some (.own a)->H' b=some (.own a)) (D:∀b xs,H b=some (.tup xs)->H' b=some (.tup xs)):WT P w H' h' a o:=by
 induction o with
 |lst xs=>obtain⟨z,j,n,r,e⟩:=x;exact⟨z,j,n,r,k _ _ (.inl rfl) e⟩
 |tup xs=>obtain⟨z,j,r,ob,e,c⟩:=x;exact⟨z,j,r,ob,k _ _ (.inl rfl) e,c⟩
 |dK Dm=>obtain⟨z,y,E,r,ob,i,g,e,c⟩:=x;exact⟨z,y,E,r,ob,i,g,k _ _ (.inl rfl) e,c⟩
 |dT Dm =>
  obtain⟨z,y,xs,r,ob,i,g,e,c⟩:=x;exact⟨z,y,xs,Paired.uL r fun p q z=>⟨z.1,D _ _ z.2.1,z.2.2⟩,ob,i,g,k _ _ (.inl rfl) e,c⟩
 |set S n=>obtain⟨ob,i,g,t,e,c⟩:=x;exact⟨ob,i,g,t,k _ _ (.inl rfl) e,c⟩
 |ins C dx fs =>
  obtain⟨d,z,ne,e,l,⟨s,i,g,A,c⟩,r⟩:=x;exact⟨B _ d,z,ne,k _ _ (.inl rfl) e,l,⟨s,i,g,k _ _ (.inr d) A,c⟩,r⟩
 |own y=>obtain⟨ob,e⟩:=x;exact⟨ob,k _ _ (.inl rfl) e⟩
 |xd fs=>obtain⟨l,⟨s,i,g,e,c⟩,r⟩:=x;exact⟨l,⟨s,i,g,k _ _ (.inl rfl) e,c⟩,r⟩
 |rng lo hi=>obtain⟨t,u,v,e⟩:=x;exact⟨t,u,v,k _ _ (.inl rfl) e⟩
 |frz ob u ih=>obtain⟨e,q⟩:=x;exact⟨k _ _ (.inl rfl) e,ih q⟩
 |tbl ps =>
  have e:h.get? a=some { cls:=.none,data:=.fields ps }:=x;show h'.get? a=some { cls:=.none,data:=.fields ps };exact k a _ (.inl rfl) e
 |met f y =>
  have e:h.get? a=some (PySem.W.methodObj (.ref f)<|.ref y):=x;show h'.get? a=some (PySem.W.methodObj (.ref f)<|.ref y);exact k a _ (.inl rfl) e
 |ext φ=>obtain⟨p,⟨o,e⟩,st⟩:=x;exact⟨st _ _ p fun o q=>k _ _ (.inl rfl) q,⟨o,k _ _ (.inl rfl) e⟩,st⟩
theorem Td.lt (x:Td P w H h)(e:H a=some o):a<h.objs.size:=(x a o e).lt
theorem Td.fresh (x:Td P w H h)(e:h.objs.size<=a):H a=none:=by
 cases q:H a with
 |none=>rfl
 |some u=>exact absurd (Zq (x.lt q) e)<|ZQ _
theorem Td.kept (x:Td P w H h)(k:∀b u,h.get? b=some u->h'.get? b=some u):Td P w H h':=fun a o e =>
 (x a o e).stay (fun b u _ q=>k b u q) (fun _ q=>q) fun _ _ q=>q
theorem Td.laid (x:Td P w H h)(k:∀b u,h.get? b=some u->h'.get? b=some u)(d:h.objs.size<=a)(new:WT P w (upd H a o) h' a o):Td P w (upd H a o) h':=fun b u e=>by
 have hn:=x.fresh d
 by_cases hb:b=a
 ·subst hb;rw[zB]at e;cases e;exact new
 ·rw[zI hb]at e;exact(x b u e).stay (fun c v _ q=>k c v q) (fun c q=>by rwa[zI<|zN q hn]) fun c f q=>by rwa[zI<|zN q hn]
end
def Rd (H:Hp)(a:Ei)(u:HO):Prop:=H a=some u\/∃o,H a=some (.frz o u)
theorem Rd.ok (r:Rd H a u)(x:Td P w H h):WT P w H h a u:=by
 rcases r with r|⟨o,r⟩
 ·exact x a u r
 ·obtain⟨_,q⟩:=x a _ r;exact q
def Op:Option HO->Prop
 |some (.lst _)=>True
 |some (.dK _)=>True
 |some (.dT _)=>True
 |some (.set _ _)=>True
 |some (.ins _ _ _)=>True
 |some (.ext _)=>True
 |_=>False
section
variable {P:Ek}{w:Ep}{H:Hp}{h h':EC}{x e:Ei}{o':HO}
theorem Td.write (ok:Td P w H h)(j:Op<|H x)(o:e=x\/H e=some (.own x))(k:∀b u,b≠e->h.get? b=some u->h'.get? b=some u)(n:∃u,h'.get? e=some u)
  (new:WT P w (upd H x o') h' x o'):Td P w (upd H x o') h':=fun b u q=>by
 have f:∀c y,H c=some (.own y)->c≠x:=fun c y r z=>by subst z;rw[r]at j;exact j
 have g:∀c l,H c=some (.tup l)->c≠x:=fun c l r z=>by subst z;rw[r]at j;exact j
 by_cases hb:b=x
 ·subst hb;rw[zB]at q;cases q;exact new
 ·rw[zI hb]at q
  by_cases d:b=e
  ·have p:H b=some (.own x):=by
    rcases o with z|z
    ·exact absurd (d.trans z) hb
    ·rwa[d]
   rw[q]at p;cases p;obtain⟨v,hv⟩:=n;exact⟨v,by rw[d];exact hv⟩
  ·refine(ok b u q).stay (fun c v i r=>k c v ?_ r) (fun c r=>by rwa[zI<|f c b r]) fun c l r=>by rwa[zI<|g c l r]
   rcases i with rfl|i
   ·exact d
   ·rintro rfl
    rcases o with z|z
    ·exact f c b i z
    ·rw[i]at z;cases z;exact hb rfl
end
structure Un (fs ex:De)(H H':Hp)(h h':EC):Prop where
 keep:∀b o,h.get? b=some o->H b=none->b∉fs->b∉ex->h'.get? b=some o
 slot:∀b o,h.get? b=some o->H b=none->b∈fs->b∉ex->∃sl,h'.get? b=some { o with slots:=sl }
 free:∀b o,h.get? b=some o->H b=none->b∉ex->H' b=none
 there:∀b o,h.get? b=some o->b∉ex->∃o',h'.get? b=some o'
 tups:∀b xs,H b=some (.tup xs)->H' b=some (.tup xs)
 Tw:∀b o u,H b=some (.frz o u)->H' b=some (.frz o u)
 Tg:∀b ps,H b=some (.tbl ps)->∃more,H' b=some (.tbl<|ps++more)
section
variable {fs fs' ex ex':De}{H H1 H2:Hp}{h h1 h2 h':EC}{a x e:Ei}{o:HO}
theorem Un.any (u:Un fs ex H H1 h h1){b:Ei}{ob:Obj}(q:h.get? b=some ob)(n:H b=none)(c:b∉ex):∃sl,h1.get? b=some { ob with slots:=sl }:=by
 by_cases hb:b∈fs
 ·exact u.slot b ob q n hb c
 ·exact⟨ob.slots,u.keep b ob q n hb c⟩
theorem Un.kept (k:∀b u,h.get? b=some u->h'.get? b=some u):Un fs ex H H h h' :=
 ⟨fun b ob q _ _ _=>k b ob q,fun b ob q _ _ _=>⟨ob.slots,k b ob q⟩,fun _ _ _ n _=>n,fun b ob q _=>⟨ob,k b ob q⟩,fun _ _ q=>q,fun _ _ _ q=>q,fun _ c q=>⟨#[],by rw[q];simp⟩⟩
theorem Un.refl:Un fs ex H H h h:=Un.kept fun _ _ q=>q
theorem Un.laid (k:∀b u,h.get? b=some u->h'.get? b=some u)(c:h.objs.size<=a)(hn:H a=none):Un fs ex H (upd H a o) h h' where
 keep:=fun b u q _ _ _=>k b u q
 slot:=fun b u q _ _ _=>⟨u.slots,k b u q⟩
 free:=fun b u q n _=>by rwa[zI<|Zl<|Zq (Zd q) c]
 there:=fun b u q _=>⟨u,k b u q⟩
 tups:=fun b d q=>by rwa[zI<|zN q hn]
 Tw:=fun b u d q=>by rwa[zI<|zN q hn]
 Tg:=fun b e q=>⟨#[],by rw[zI<|zN q hn,q];simp⟩
theorem Un.write (d:Op<|H x)(i:e=x\/H e=some (.own x))(k:∀b u,b≠e->h.get? b=some u->h'.get? b=some u)(f:∃u,h'.get? e=some u):Un fs ex H (upd H x o) h h':=by
 have g:∀b,H b=none->b≠x:=fun b n z=>by subst z;rw[n]at d;exact d
 have hb:∀b,H b=none->b≠e:=fun b n z=>by
  subst z
  rcases i with r|r
  ·exact g b n r
  ·rw[n]at r;cases r
 have hm:∀b u,H b=some u->¬Op (some u)->b≠x:=fun b u q nm z=>by subst z;rw[q]at d;exact nm d
 refine⟨fun b u q n _ _=>k b u (hb b n) q,fun b u q n _ _=>⟨u.slots,k b u (hb b n) q⟩,fun b u q n _=>by rw[zI<|g b n];exact n,fun b u q _=>?_,
  fun b j q=>by rw[zI<|hm b _ q fun z=>z];exact q,fun b u j q=>by rw[zI<|hm b _ q fun z=>z];exact q,fun b l q=>⟨#[],by rw[zI<|hm b _ q fun z=>z,q];simp⟩⟩
 by_cases c:b=e
 ·subst c;exact f
 ·exact⟨u,k b u c q⟩
end
def Ro (h:EC)(H:Hp):De:=(EX h.objs.size).filter fun a=>(H a).isSome
def Gq (h:EC)(H:Hp):Heap:=PySem.W.hideAll h<|Ro h H
theorem HF (h:EC)(H:Hp):(Gq h H).objs.size=h.objs.size:=PySem.W.hideAll_size _ _
theorem KB {h:EC}{H:Hp}{b:Ei}{o:Obj}(e:h.get? b=some o)(n:H b=none):(Gq h H).get? b=some o :=
 YH _ e fun hm=>by
  have q:(H b).isSome=true:=(List.mem_filter.mp hm).2;rw[n]at q;simp at q
theorem Nz {b:Ei}{o:Obj}(e:(Gq h H).get? b=some o):h.get? b=some o/\H b=none:=by
 have c:h.get? b=some o:=PySem.W.of_hideAll (Ro h H) e;refine⟨c,?_⟩;cases q:H b with
 |none=>rfl
 |some x =>
  have hm:b∈Ro h H:=List.mem_filter.mpr ⟨Vg.mpr<|Zd c,by simp[q]⟩;have z:(Gq h H).get? b=none:=Jn (Ro h H) hm;rw[z]at e;cases e
structure Mod (K:Ca)(mg:Str->Dc)(base:EC):Prop where
 vq:K.In base
 glob:base.Ns Eu mg
 blt:∃mb,base.Ns builtinsNs mb/\∀x:Str,x≠"__name__"->mb x=LO x
 nolimit:base.NoLimit
structure Cx where
 prog:Ek
 w:Ep
 K:Ca
 mg:Str->Dc
 base:EC
 A:ED
 N:Da
 s₀:Eo
 H₀:Hp
 env:Env
 outer:List Env
 stack:List Env
 ex:De
 fn:Str->Bool
 calm:Bool
 pn:Df
 xe:Ej->Di
def frs (l:List Env):De:=l.filterMap (·.frame)
abbrev Cx.fs (X:Cx):De:=frs X.outer
def Rs (sc:LI)(x:Str):Prop:=sc.names.lookup x=some .local\/sc.names.lookup x=some .cell\/sc.names.lookup x=some .free
def Loc (sc:LI)(x:Str):Prop:=sc.names.lookup x=some .local\/sc.names.lookup x=some .cell
def Look (env:Env)(h:EC)(m:Str->Dc)(x:Str)(u:Ej):Prop :=
 (env.kindOf x=some .local/\m x=some u)\/((env.kindOf x=some .cell\/env.kindOf x=some .free)/\∃c,env.cells.lookup x=some c/\h.IsCell c (some u))
structure Cx.Ok (X:Cx):Prop where
 mod:Mod X.K X.mg X.base
 kind:X.env.scope.kind=.function
 glob:X.env.globals=Eu
 blt:X.env.builtins=builtinsNs
 above:X.s₀.heap.objs.size<=X.env.locals
 inj:∀x y c,X.env.cells.lookup x=some c->X.env.cells.lookup y=some c->x=y
 has:∀x,(X.env.kindOf x=some .cell\/X.env.kindOf x=some .free)->∃c,X.env.cells.lookup x=some c
 cab:∀x c,X.fn x=true->X.env.cells.lookup x=some c->X.s₀.heap.objs.size<=c
 hd:X.calm=true->X.A.handled=none
 frames:X.A.frames=some X.stack
 stk:X.stack=X.outer\/(X.stack=X.env::X.outer/\X.env.frame=some X.env.locals)
 vp:∀b∈X.ex,b≠X.env.locals/\∀x c,X.env.cells.lookup x=some c->c≠b
 bs:∀b o,X.base.get? b=some o->X.s₀.heap.get? b=some o/\X.H₀ b=none
 v6:X.base.objs.size<=X.s₀.heap.objs.size
 wY:∀b o,X.base.get? b=some o->b∉X.ex
 yt:∀b∈X.ex,b∉X.fs
 Tz:X.s₀.heap.FunFrames X.base X.outer
 vM:∀b∈X.fs,X.H₀ b=none
structure Inv (X:Cx)(Do:Df)(σ:List<|Option V)(H:Hp)(s:Eo):Prop where
 ok:X.Ok
 os:s.os=X.s₀.os
 bare:Mh s.gens
 base:Un X.fs X.ex X.H₀ H X.s₀.heap s.heap
 loc:∃m,s.heap.Ns X.env.locals m/\∀(i:Nat) (x:Str) (v:V),X.N[i]?=some x->σ[i]?=some (some v)->Rs X.env.scope x->∃u,WX v u/\Look X.env s.heap m x u
 cell:∀x c,X.env.cells.lookup x=some c->∃v,s.heap.IsCell c v
 free:H X.env.locals=none
 Wm:∀x c,X.env.cells.lookup x=some c->H c=none
 pin:∀p∈X.pn++Do,s.heap.get? p.1=some p.2/\H p.1=none/\p.1≠X.env.locals/\p.1∉X.fs/\∀v,p.2.data≠.cell v
 hok:Td X.prog X.w H s.heap
 len:σ.length=X.N.length
section
variable {X:Cx}{Do:Df}{σ:List (Option V)}{H H':Hp}{s:Eo}{h':EC}
theorem Cx.Ok.tR (ok:X.Ok){b:Ei}{o:Obj}(e:X.base.get? b=some o):b∉X.fs:=fun hb=>by
 have:=(ok.Tz.mem hb).1;rw[e]at this;cases this
theorem Inv.bs (I:Inv X Do σ H s):∀b o,X.base.get? b=some o->s.heap.get? b=some o/\H b=none:=fun b o e =>
 ⟨I.base.keep b o (I.ok.bs b o e).1 (I.ok.bs b o e).2 (I.ok.tR e)<|I.ok.wY b o e,I.base.free b o (I.ok.bs b o e).1 (I.ok.bs b o e).2<|I.ok.wY b o e⟩
theorem Inv.bk (I:Inv X Do σ H s):∀b o,X.base.get? b=some o->s.heap.get? b=some o:=fun b o e=>(I.bs b o e).1
theorem Inv.mod (I:Inv X Do σ H s):Mod X.K X.mg X.base:=I.ok.mod
theorem Inv.Tn (I:Inv X Do σ H s):X.K.In s.heap:=I.ok.mod.vq.keeps I.bk
theorem Inv.lt (I:Inv X Do σ H s):X.env.locals<s.heap.objs.size:=let ⟨_,hn,_⟩:=I.loc;hn.lt
theorem Inv.sz (I:Inv X Do σ H s):X.s₀.heap.objs.size<=s.heap.objs.size:=Yc I.ok.above<|Yd I.lt
theorem Inv.tV (I:Inv X Do σ H s){a:Ei}(h:s.heap.objs.size<=a):a∉X.fs:=fun hb=>by
 obtain⟨_,o,b,_⟩:=I.ok.Tz.mem hb;exact absurd (Zq (Zd b)<|Yc I.sz h)<|ZQ _
theorem Inv.uU (I:Inv X Do σ H s):∀x c,X.env.cells.lookup x=some c->c≠X.env.locals:=fun x c e z=>by
 obtain⟨v,o,f,hd⟩:=I.cell x c e;obtain⟨m,⟨j,i,g,d,b,_⟩,_⟩:=I.loc;rw[z,d]at f;cases f;rw[b]at hd;cases hd
theorem Inv.Tz (I:Inv X Do σ H s):s.heap.FunFrames X.base X.outer:=by
 have all:∀(l:List Env),(∀b∈frs l,b∈X.fs)->X.s₀.heap.FunFrames X.base l->s.heap.FunFrames X.base l:=by
  intro l
  induction l with
  |nil=>intro _ _;trivial
  |cons env r ih =>
   intro f hl;obtain⟨hk,⟨L,o,d,hn,g,hd⟩,i⟩:=hl;have c:L∈X.fs:=f L (by unfold frs;rw[Jz,d];exact Zj);obtain⟨sl,e⟩:=I.base.slot L o g (I.ok.vM L c) c fun z=>I.ok.yt L z c;exact⟨hk,⟨L,_,d,hn,e,hd⟩,ih (fun b hb=>f b (by unfold frs;rw[Jz,d];exact Zi _ hb)) i⟩
 exact all X.outer (fun _ hb=>hb) I.ok.Tz
theorem Inv.stack (I:Inv X Do σ H s):s.heap.FunFrames X.base X.stack:=by
 rcases I.ok.stk with e|⟨e,b⟩
 ·rw[e];exact I.Tz
 ·rw[e];obtain⟨m,hn,_⟩:=I.loc;refine .cons (by rw[I.ok.kind];decide) b hn ?_ I.Tz;exact J5<|Yc I.ok.v6 I.ok.above
theorem Inv.Sy (I:Inv X Do σ H s):∀b∈frs X.stack,b∈X.env.locals::X.fs:=fun b hb=>by
 rcases I.ok.stk with e|⟨e,c⟩
 ·rw[e]at hb;exact Zi _ hb
 ·rw[e]at hb;unfold frs at hb;rw[Jz,c]at hb;exact hb
theorem Inv.SJ (I:Inv X Do σ H s):∀b∈frs X.stack,H b=none:=fun b hb=>by
 rcases Za.mp (I.Sy b hb) with e|hb
 ·rw[e];exact I.free
 ·obtain⟨_,o,c,_⟩:=I.ok.Tz.mem hb;exact I.base.free b o c (I.ok.vM b hb) fun z=>I.ok.yt b z hb
theorem Inv.step {g':Array GenState}{t':Nat}{d':Drawn}{ch:De}(I:Inv X Do σ H s)
  (j:∀b∈ch,(b∈X.ex\/X.s₀.heap.objs.size<=b)/\b≠X.env.locals/\(∀x c,X.env.cells.lookup x=some c->c≠b)/\∀p∈X.pn++Do,p.1≠b)
  (keep:∀b o,b≠X.env.locals->b∉X.fs->b∉ch->s.heap.get? b=some o->H b=none->h'.get? b=some o)
  (slot:∀b o,b≠X.env.locals->b∈X.fs->b∉ch->s.heap.get? b=some o->H b=none->∃sl,h'.get? b=some { o with slots:=sl }) (free:∀b o,b∉ch->s.heap.get? b=some o->H b=none->H' b=none)
  (there:∀b o,b∉ch->s.heap.get? b=some o->∃o',h'.get? b=some o')
  (tups:∀b xs,H b=some (.tup xs)->H' b=some (.tup xs)) (Tw:∀b o u,H b=some (.frz o u)->H' b=some (.frz o u)) (Tg:∀b ps,H b=some (.tbl ps)->∃more,H' b=some (.tbl<|ps++more))
  (ns:∀m,s.heap.Ns X.env.locals m->h'.Ns X.env.locals m) (hok:Td X.prog X.w H' h') (L:Mh g') :
  Inv X Do σ H' { s with heap:=h',gens:=g',drawn:=d',toks:=t' }:=by
 have D:∀b o,X.s₀.heap.get? b=some o->b≠X.env.locals:=fun b o e=>Zl<|Zq (Zd e) I.ok.above;have A:∀b o,X.s₀.heap.get? b=some o->b∉X.ex->b∉ch:=fun b o e f hb=>by
  rcases(j b hb).1 with z|z
  ·exact f z
  ·exact absurd (Zq (Zd e) z) (ZQ _)
 have g:∀x c,X.env.cells.lookup x=some c->∀v,s.heap.IsCell c v->h'.IsCell c v:=fun x c e v ⟨o,B,hd⟩=>by
  have t:c∉ch:=fun z=>(j c z).2.2.1 x c e rfl
  by_cases F:c∈X.fs
  ·obtain⟨sl,q⟩:=slot c o (I.uU x c e) F t B<|I.Wm x c e;exact⟨_,q,hd⟩
  ·exact⟨o,keep c o (I.uU x c e) F t B<|I.Wm x c e,hd⟩
 refine⟨I.ok,I.os,L,⟨fun b o e n hb f=>?_,fun b o e n hb f=>?_,fun b o e n f=>?_,fun b o e f=>?_,fun b xs e=>tups b xs<|I.base.tups b xs e,fun b o xs e=>Tw b o xs<|I.base.Tw b o xs e,fun b ps e=>?_⟩,?_,fun x c e=>?_,?_,fun x c e=>?_,fun p G=>?_,hok,I.len⟩
 ·exact keep b o (D b o e) hb (A b o e f) (I.base.keep b o e n hb f) (I.base.free b o e n f)
 ·obtain⟨sl,y⟩:=I.base.slot b o e n hb f;obtain⟨E,C⟩:=slot b _ (D b o e) hb (A b o e f) y<|I.base.free b o e n f;exact⟨E,C⟩
 ·obtain⟨o',y⟩:=I.base.there b o e f;exact free b o' (A b o e f) y<|I.base.free b o e n f
 ·obtain⟨o',y⟩:=I.base.there b o e f;exact there b o' (A b o e f) y
 ·obtain⟨m1,y⟩:=I.base.Tg b ps e;obtain⟨m2,C⟩:=Tg b _ y;exact⟨m1++m2,by rw[C,Array.append_assoc]⟩
 ·obtain⟨m,hn,hl⟩:=I.loc;refine⟨m,ns m hn,fun i x v y C K=>?_⟩;obtain⟨u,r,l⟩:=hl i x v y C K;refine⟨u,r,?_⟩
  rcases l with l|⟨k,c,e,z⟩
  ·exact .inl l
  ·exact .inr ⟨k,c,e,g x c e _ z⟩
 ·obtain⟨v,z⟩:=I.cell x c e;exact⟨v,g x c e v z⟩
 ·obtain⟨m,⟨o,_,_,B,_⟩,_⟩:=I.loc;exact free _ o (fun z=>(j _ z).2.1 rfl) B I.free
 ·obtain⟨v,o,B,hd⟩:=I.cell x c e;exact free c o (fun z=>(j c z).2.2.1 x c e rfl) B (I.Wm x c e)
 ·obtain⟨e,n,ne,J,d⟩:=I.pin p G;have t:p.1∉ch:=fun z=>(j p.1 z).2.2.2 p G rfl;exact⟨keep p.1 p.2 ne J t e n,free p.1 p.2 t e n,ne,J,d⟩
theorem Inv.un {t':Nat}(I:Inv X Do σ H s)(u:Un X.fs [] H H' s.heap h')(hok:Td X.prog X.w H' h'):Inv X Do σ H' { s with heap:=h',toks:=t' }:=by
 obtain⟨m,⟨o,p,l,g,r⟩,_⟩:=id I.loc;obtain⟨sl,i⟩:=u.any g I.free (by simp);exact I.step (g':=s.gens) (d':=s.drawn) (ch:=[]) (fun _ z=>nomatch z) (fun b o _ hb _ e n=>u.keep b o e n hb<|by simp) (fun b o _ hb _ e n=>u.slot b o e n hb<|by simp) (fun b o _ e n=>u.free b o e n<|by simp) (fun b o _ e=>u.there b o e<|by simp) u.tups u.Tw u.Tg (fun q hm=>by
  obtain⟨t,f,d,c,j⟩:=hm;rw[g]at c;cases c;exact⟨_,f,d,i,j⟩) hok I.bare
theorem Inv.call {g':Array GenState}{t':Nat}{d':Drawn}(I:Inv X Do σ H s)(u:Un (frs X.stack) ch H H' s.heap h')(hok:Td X.prog X.w H' h')(t:Mh g')
  (f:∀b∈ch,(b∈X.ex\/X.s₀.heap.objs.size<=b)/\b≠X.env.locals/\(∀x c,X.env.cells.lookup x=some c->c≠b)/\∀p∈X.pn++Do,p.1≠b) :
  Inv X Do σ H' { s with heap:=h',gens:=g',drawn:=d',toks:=t' }:=by
 obtain⟨m,⟨o,A,y,q,r⟩,_⟩:=id I.loc;obtain⟨sl,l⟩:=u.any q I.free fun z=>(f _ z).2.1 rfl;exact I.step (ch:=ch) f (fun b o l hb d e n=>u.keep b o e n (fun z=>(Za.mp<|I.Sy b z).elim l hb) d) (fun b o _ _ d e n=>u.any e n d) (fun b o d e n=>u.free b o e n d) (fun b o d e=>u.there b o e d) u.tups u.Tw u.Tg (fun B hm=>by
  obtain⟨C,j,i,g,v⟩:=hm;rw[q]at g;cases g;exact⟨_,j,i,l,v⟩) hok t
theorem Inv.turned {t':Nat}{it:Ei}(I:Inv X Do σ H s)(k:∀b o,b≠it->s.heap.get? b=some o->h'.get? b=some o)(hn:H it=none)(g:it≠X.env.locals)
  (l:it∈X.ex\/X.s₀.heap.objs.size<=it) (t:∀x c,X.env.cells.lookup x=some c->c≠it) (w:∀p∈X.pn++Do,p.1≠it):Inv X Do σ H { s with heap:=h',toks:=t' }:=by
 have f:∀b u,H b=some u->b≠it:=fun b u e z=>by rw[z,hn]at e;cases e
 refine I.step (g':=s.gens) (d':=s.drawn) (ch:=[it]) (fun b hb=>?_) (fun b o _ _ d e _=>k b o (fun z=>d<|by simp[z]) e) (fun b o _ _ d e _=>⟨o.slots,k b o (fun z=>d<|by simp[z]) e⟩) (fun _ _ _ _ n=>n)
  (fun b o d e=>⟨o,k b o (fun z=>d<|by simp[z]) e⟩) (fun _ _ e=>e) (fun _ _ _ e=>e) (fun b A e=>⟨#[],by rw[e];simp⟩) (fun m hm=>?_) (fun b u e=>?_) I.bare
 ·have e:b=it:=by simpa using hb
  subst e;exact⟨l,g,t,w⟩
 ·obtain⟨o,j,i,y,r⟩:=hm;exact⟨o,j,i,k _ o (EE g) y,r⟩
 ·refine(I.hok b u e).stay (fun c v d q=>k c v ?_ q) (fun _ q=>q) fun _ _ q=>q
  rcases d with z|z
  ·rw[z];exact f b u e
  ·exact f c _ z
theorem Inv.tok (I:Inv X Do σ H s)(t:Nat):Inv X Do σ H { s with toks:=t }:=I.un (h':=s.heap) (t':=t) Un.refl I.hok
theorem Inv.kept {t':Nat}(I:Inv X Do σ H s)(k:∀b u,s.heap.get? b=some u->h'.get? b=some u):Inv X Do σ H { s with heap:=h',toks:=t' }:=I.un (Un.kept k)<|I.hok.kept k
theorem Inv.laid {a:Ei}{t':Nat}(I:Inv X Do σ H s)(k:∀b u,s.heap.get? b=some u->h'.get? b=some u)(c:s.heap.objs.size<=a)(new:WT X.prog X.w (upd H a o) h' a o) :
  Inv X Do σ (upd H a o) { s with heap:=h',toks:=t' }:=I.un (Un.laid k c<|I.hok.fresh c)<|I.hok.laid k c new
theorem Inv.write {x e:Ei}{o:HO}{t':Nat}(I:Inv X Do σ H s)(f:Op<|H x)(d:e=x\/H e=some (.own x))(k:∀b u,b≠e->s.heap.get? b=some u->h'.get? b=some u)(c:∃u,h'.get? e=some u)
  (new:WT X.prog X.w (upd H x o) h' x o):Inv X Do σ (upd H x o) { s with heap:=h',toks:=t' }:=I.un (Un.write f d k c)<|I.hok.write f d k c new
theorem Inv.Wk {b:Df}(I:Inv X Do σ H s)(h:∀p∈b,s.heap.get? p.1=some p.2/\H p.1=none/\p.1≠X.env.locals/\p.1∉X.fs/\∀v,p.2.data≠.cell v):Inv X b σ H s :=
 ⟨I.ok,I.os,I.bare,I.base,I.loc,I.cell,I.free,I.Wm,fun p c=>(ZG.mp c).elim (fun z=>I.pin p<|Yz _ z) (h p),I.hok,I.len⟩
theorem Bv {N:Da}(e:N.Nodup){i j:Nat}{x:Str}(a:N[i]?=some x)(b:N[j]?=some x):i=j:=by
 obtain⟨f,c⟩:=Z2.mp a;obtain⟨g,d⟩:=Z2.mp b;exact(Vz e).mp (c.trans d.symm)
theorem UO {M:Model}{A:ED}{E:Ej->Di}{i:Nat}{x:Str}{Q:Unit->Di}(I:Inv X Do σ H s)(hN:X.N.Nodup)(P:X.N[i]?=some x)(B:Loc X.env.scope x)(r:WX v u)
  (h:∀s',Inv X Do (σ.set i (some v)) H s'->(∃a,E6 a s.heap s'.heap/\(a=X.env.locals\/X.env.cells.lookup x=some a))->Q () s') (hf:X.fn x=true\/X.env.scope.names.lookup x=some .local:=by first|exact .inl rfl|exact .inr rfl|assumption):Em M A (storeName X.env x u) Q E s:=by
 obtain⟨m,hn,hl⟩:=id I.loc;have O:(X.env.scope.kind==.class||(X.env.scope.kind==.module&&X.env.locals !=X.env.globals))=false:=by rw[I.ok.kind];rfl
 have F:i<σ.length:=by rw[I.len];exact(Z2.mp P).1
 have uU:=I.uU;have l:∀{a:Ei} {h':EC},(∃o,s.heap.get? a=some o/\H a=none)->E6 a s.heap h'->Td X.prog X.w H h':=fun{a h'} ha f b ob e=>by
  obtain⟨_,_,C⟩:=ha;refine(I.hok b ob e).stay (fun c T t q=>(f.2 c ?_).trans q) (fun _ q=>q) fun _ _ q=>q;rintro rfl
  rcases t with rfl|t
  ·rw[C]at e;cases e
  ·rw[C]at t;cases t
 rcases B with hk|hk
 ·refine wpAny_storeName_local hk hn (fun h' Y f=>?_) O;obtain⟨oL,_,_,Z,_⟩:=id hn;refine h _ ⟨I.ok,I.os,I.bare,⟨fun b o e n hb B=>?_,fun b o e n hb B=>?_,I.base.free,fun b o e B=>?_,I.base.tups,I.base.Tw,I.base.Tg⟩,⟨_,Y,fun j y v' g D U=>?_⟩,fun y c e=>?_,I.free,I.Wm,fun p hp=>?_,l ⟨oL,Z,I.free⟩ f,by simpa using I.len⟩ ⟨_,f,.inl rfl⟩
  ·exact(f.2 b<|Zl<|Zq (Zd e) I.ok.above).trans (I.base.keep b o e n hb B)
  ·obtain⟨sl,g⟩:=I.base.slot b o e n hb B;exact⟨sl,(f.2 b<|Zl<|Zq (Zd e) I.ok.above).trans g⟩
  ·obtain⟨o',g⟩:=I.base.there b o e B;exact⟨o',(f.2 b<|Zl<|Zq (Zd e) I.ok.above).trans g⟩
  ·by_cases J:j=i
   ·subst J;rw[P]at g;cases g;rw[List.getElem?_set_self F]at D;cases D;exact⟨u,r,.inl ⟨hk,by simp⟩⟩
   ·rw[List.getElem?_set_ne<|EE J]at D;obtain⟨u',r',q⟩:=hl j y v' g D U;refine⟨u',r',?_⟩
    rcases q with⟨k,e⟩|⟨k,c,e,z⟩
    ·refine .inl ⟨k,?_⟩;have:y≠x:=fun e=>J<|Bv hN g<|e▸P;simp[this,e]
    ·exact .inr ⟨k,c,e,z.sameBut f<|uU y c e⟩
  ·obtain⟨T,z⟩:=I.cell y c e;exact⟨T,z.sameBut f<|uU y c e⟩
  ·obtain⟨e,n,ne,nf,d⟩:=I.pin p hp;exact⟨(f.2 p.1 ne).trans e,n,ne,nf,d⟩
 ·have G:X.fn x=true:=by
   rcases hf with z|z
   ·exact z
   ·rw[z]at hk;cases hk
  obtain⟨c,t⟩:=I.ok.has x<|.inl hk;obtain⟨T,z⟩:=I.cell x c t;refine wpAny_storeName_cell I.ok.kind hk t z<|fun h' K f=>?_;obtain⟨oc,R,aa⟩:=id z;refine h { s with heap:=h' } ⟨I.ok,I.os,I.bare,⟨fun b o e n hb B=>?_,fun b o e n hb B=>?_,I.base.free,fun b o e B=>?_,I.base.tups,I.base.Tw,I.base.Tg⟩,⟨m,hn.sameBut f<|EE<|uU x c t,fun j y v' g D U=>?_⟩,fun y S e=>?_,I.free,I.Wm,fun p hp=>?_,l ⟨oc,R,I.Wm x c t⟩ f,by simpa using I.len⟩ ⟨c,f,.inr t⟩
  ·exact(f.2 b<|Zl<|Zq (Zd e)<|I.ok.cab x c G t).trans (I.base.keep b o e n hb B)
  ·obtain⟨sl,g⟩:=I.base.slot b o e n hb B;exact⟨sl,(f.2 b<|Zl<|Zq (Zd e)<|I.ok.cab x c G t).trans g⟩
  ·obtain⟨o',g⟩:=I.base.there b o e B;exact⟨o',(f.2 b<|Zl<|Zq (Zd e)<|I.ok.cab x c G t).trans g⟩
  ·by_cases J:j=i
   ·subst J;rw[P]at g;cases g;rw[List.getElem?_set_self F]at D;cases D;exact⟨u,r,.inr ⟨.inl hk,c,t,K⟩⟩
   ·rw[List.getElem?_set_ne<|EE J]at D;obtain⟨u',r',q⟩:=hl j y v' g D U;refine⟨u',r',?_⟩
    rcases q with q|⟨k,S,e,z'⟩
    ·exact .inl q
    ·refine .inr ⟨k,S,e,z'.sameBut f ?_⟩;rintro rfl;exact J<|Bv hN g<|I.ok.inj _ _ _ e t▸P
  ·by_cases L:S=c
   ·subst L;exact⟨_,K⟩
   ·obtain⟨w2,z2⟩:=I.cell y S e;exact⟨w2,z2.sameBut f L⟩
  ·obtain⟨e,n,ne,nf,d⟩:=I.pin p hp;refine⟨(f.2 p.1 ?_).trans e,n,ne,nf,d⟩;intro q;rw[q,R]at e;have q':oc=p.2:=Option.some.inj e;exact d T (by rwa[←q'])
theorem XX {M:Model}{A:ED}{E:Ej->Di}{i:Nat}{x:Str}{Q:Unit->Di}(I:Inv X Do σ H s)(c:X.N.Nodup)(e:X.N[i]?=some x)(f:Loc X.env.scope x)(r:WX v u)
  (h:∀s',Inv X Do (σ.set i (some v)) H s'->Q () s') (d:X.fn x=true\/X.env.scope.names.lookup x=some .local:=by first|exact .inl rfl|exact .inr rfl|assumption):Em M A (storeName X.env x u) Q E s :=
 UO I c e f r (fun s' b _=>h s' b) d
theorem Inv.call' {d:Eo}(I:Inv X Do σ H s)(i:d.os=s.os)(u:Un (frs X.stack) ch H H' s.heap d.heap)(hok:Td X.prog X.w H' d.heap)(g:Mh d.gens)
  (f:∀b∈ch,(b∈X.ex\/X.s₀.heap.objs.size<=b)/\b≠X.env.locals/\(∀x c,X.env.cells.lookup x=some c->c≠b)/\∀p∈X.pn++Do,p.1≠b):Inv X Do σ H' d:=by
 obtain⟨h',g',d',t',j⟩:=d;have e:j=s.os:=i;subst e;exact I.call (g':=g') (t':=t') (d':=d') u hok g f
end
abbrev XK:=Ej->Option Ei->Hp->Prop
abbrev St:=List<|Option V
abbrev VK:=V->Hp->Prop
abbrev TE:=St->Hp->VK->Prop
abbrev TT:=St->Hp->(Bool->Hp->Prop)->Prop
abbrev TA:=St->Hp->(Dk->Hp->Prop)->Prop
structure Ends where
 nx:St->Hp->Prop
 rt:VK
 bk:St->Hp->Prop:=fun _ _=>False
 ct:St->Hp->Prop:=fun _ _=>False
abbrev TS:=Ends->St->Hp->Prop
inductive EP (X:Cx)(Do:Df)(σ:St)(Q:VK)(u:Ej)(s':Eo):Prop
 |mk (v:V) (H':Hp) (i:Inv X Do σ H' s') (r:WX v u) (q:Q v H'):EP X Do σ Q u s'
inductive TP (X:Cx)(Do:Df)(σ:St)(Q:Bool->Hp->Prop)(b:Bool)(s':Eo):Prop
 |mk (H':Hp) (i:Inv X Do σ H' s') (q:Q b H'):TP X Do σ Q b s'
inductive AP (X:Cx)(Do:Df)(σ:St)(Q:Dk->Hp->Prop)(us:Db)(s':Eo):Prop
 |mk (vs:Dk) (H':Hp) (i:Inv X Do σ H' s') (r:W2 vs us) (q:Q vs H'):AP X Do σ Q us s'
def SP (X:Cx)(d:Df)(D:Ends)(f:Flow)(e:Eo):Prop :=
 match f with
 | .next=>∃b c,Inv X d b c e/\D.nx b c
 | .brk=>∃b c,Inv X d b c e/\D.bk b c
 | .cont=>∃b c,Inv X d b c e/\D.ct b c
 | .ret u=>∃v b c,Inv X d b c e/\WX v u/\D.rt v c
def PE (X:Cx)(e:EK)(t:TE):Prop :=
 ∀(c:Df) (s:Eo) (b:St) (H:Hp) (Q:VK),Inv X c b H s->t b H Q->Em (Et X.prog X.w) X.A (EZ e X.env) (EP X c b Q) X.xe s
def PT (X:Cx)(e:EK)(t:TT):Prop :=
 ∀(c:Df) (s:Eo) (b:St) (H:Hp) (Q:Bool->Hp->Prop),Inv X c b H s->t b H Q->Em (Et X.prog X.w) X.A (isTrue e X.env<|EZ e X.env) (TP X c b Q) X.xe s
def PW (X:Cx)(e:EK)(t:TT):Prop :=
 ∀(b:Sem Ej) (d:Df) (s:Eo) (c:St) (H:Hp) (Q:Bool->Hp->Prop),Inv X d c H s->t c H Q->Em (Et X.prog X.w) X.A (isTrue e X.env b) (TP X d c Q) X.xe s
theorem PW.pt (h:PW X e t):PT X e t:=h _
def PA (X:Cx)(es:List EK)(t:TA):Prop :=
 ∀(pos:Pos) (c:Df) (s:Eo) (b:St) (H:Hp) (Q:Dk->Hp->Prop),Inv X c b H s->t b H Q->Em (Et X.prog X.w) X.A (spliced<|Ld pos<|EB es X.env) (AP X c b Q) X.xe s
def PS (X:Cx)(st:ER)(t:TS):Prop :=
 ∀(b:Df) (s:Eo) (c:St) (H:Hp) (D:Ends),Inv X b c H s->t D c H->Em (Et X.prog X.w) X.A (exec st X.env) (SP X b D) X.xe s
def R8 (X:Cx)(st:List ER)(t:TS):Prop :=
 ∀(b:Df) (s:Eo) (c:St) (H:Hp) (D:Ends),Inv X b c H s->t D c H->Em (Et X.prog X.w) X.A (execs st X.env) (SP X b D) X.xe s
theorem Cb {c:Type}{t:Sem c}{Q b:c->Di}{M:Model}{A:ED}{E:Ej->Di}{s:Eo}(h:Em M A t Q E s)(d:∀a s,Q a s->b a s):Em M A t b E s:=Z3 h d fun _ _ x=>x
section
variable {X:Cx}
inductive uy (i:Nat)(σ:St)(H:Hp)(Q:VK):Prop
 |mk (v:V) (e:σ[i]?=some (some v)) (q:Q v H):uy i σ H Q
def Ka (i:Nat):TE:=uy i
def tC (v:V):TE:=fun _ H Q=>Q v H
theorem OT {i:Nat}{x:Str}{pos:Pos}(g:X.N[i]?=some x)(hv:Rs X.env.scope x)(hd:(x==("__debug__":Str))=false:=by decide)(d:(x==("__classdict__":Str))=false:=by decide):PE X (.Name x pos) (Ka i):=by
 intro f s j H Q I h;obtain⟨v,e,h⟩:=h;obtain⟨m,hn,hl⟩:=I.loc;obtain⟨u,r,l⟩:=hl i x v g e hv;have b:EP X f j Q u s:=⟨v,H,I,r,h⟩
 rcases l with⟨hk,hm⟩|⟨hk,c,hc,hcell⟩
 ·exact wpAny_Name (wpAny_loadName_local I.ok.kind hk hn hm b) hd
 ·rcases hk with hk|hk
  ·exact wpAny_Name (wpAny_loadName_cell I.ok.kind hk hc hcell b) hd
  ·exact wpAny_Name (wpAny_loadName_free I.ok.kind hk hc hcell b d) hd
theorem zH {i j pos}:PE X (.Constant (.int i) j pos) (tC<|.int i):=fun _ _ _ H _ I h=>wpAny_Constant_int ⟨.int i,H,I.tok _,⟨_,rfl⟩,h⟩
theorem jP {b j pos}:PE X (.Constant (.bool b) j pos) (tC<|.bl b):=fun _ _ _ H _ I h=>Constant_bool ⟨.bl b,H,I,rfl,h⟩
theorem qU {j pos}:PE X (.Constant .none j pos) (tC .non):=fun _ _ _ H _ I h=>Constant_none ⟨.non,H,I,rfl,h⟩
theorem W9 {x j pos}:PE X (.Constant (.str x) j pos) (tC<|.str x):=fun _ _ _ H _ I h=>Calls.Constant_str ⟨.str x,H,I.tok _,⟨_,rfl⟩,h⟩
def Gl (X:Cx)(x:Str):Prop:=X.env.kindOf x=some .globalImplicit
theorem qO {E:Ej->Di}{u:Ej}{pos:Pos}{Q:Ej->Di}(I:Inv X Do σ H s)(b:Gl X x)(hm:X.mg x=some u)(h:Q u s)
  (hd:(x==("__debug__":Str))=false:=by decide):Em (Et X.prog X.w) X.A (EZ (.Name x pos) X.env) Q E s :=
 Calls.Name_function_global I.ok.kind b (Calls.loadGlobal_global (by rw[I.ok.glob];exact I.mod.glob.keeps I.bk) hm h) hd
theorem k6 {E:Ej->Di}{u:Ej}{pos:Pos}{Q:Ej->Di}(I:Inv X Do σ H s)(d:Gl X x)(hm:X.mg x=none)(hv:LO x=some u)(h:Q u s)
  (hn:x≠"__name__":=by decide) (hd:(x==("__debug__":Str))=false:=by decide):Em (Et X.prog X.w) X.A (EZ (.Name x pos) X.env) Q E s:=by
 obtain⟨e,b,c⟩:=I.mod.blt;exact Calls.Name_function_global I.ok.kind d (Calls.loadGlobal_builtin (by rw[I.ok.glob];exact I.mod.glob.keeps I.bk) hm (by rw[I.ok.blt];exact b.keeps I.bk) ((c x hn).trans hv) h) hd
theorem yN {u:Ej}{pos:Pos}(b:Gl X x)(hm:X.mg x=some u)(r:WX v u)(hd:(x==("__debug__":Str))=false:=by decide):PE X (.Name x pos) (tC v) :=
 fun _ _ _ H _ I h=>qO I b hm ⟨v,H,I,r,h⟩ hd
theorem yM {u:Ej}{pos:Pos}(b:Gl X x)(hm:X.mg x=none)(hv:LO x=some u)(r:WX v u)(hn:x≠"__name__":=by decide)(hd:(x==("__debug__":Str))=false:=by decide):PE X (.Name x pos) (tC v) :=
 fun _ _ _ H _ I h=>k6 I b hm hv ⟨v,H,I,r,h⟩ hn hd
variable {a b:EK}{ta tb:TE}{pos:Pos}
def PC (X:Cx)(op:CmpOp)(a b:EK)(t:TE):Prop :=
 ∀(f:Df) (s:Eo) (e:St) (H:Hp) (Q:VK),Inv X f e H s->t e H Q ->
  Em (Et X.prog X.w) X.A (EZ a X.env) (fun v c=>Em (Et X.prog X.w) X.A (EZ b X.env) (fun u d=>Em (Et X.prog X.w) X.A (EJ op v u) (EP X f e Q) X.xe d) X.xe c) X.xe s
variable {tA tB':TT}{rest:List EK}
def RO (t u:TT):TT:=fun d H Q=>t d H fun c b=>if c=true then u d b Q else Q false b
def tOr (t u:TT):TT:=fun d H Q=>t d H fun c b=>if c=true then Q true b else u d b Q
def RW (t:TT):TT:=fun d H Q=>t d H fun c b=>Q (!c) b
theorem qR (ha:PT X a tA):PW X (.BoolOp .And [a] pos) tA:=by
 intro g b s d H Q I h;refine isTrue_and<|Cb (ha b s d H Q I h) fun c f e=>?_;cases c with
 |true=>exact isTrue_and_nil e
 |false=>exact e
theorem kF (ha:PT X a tA):PW X (.BoolOp .Or [a] pos) tA:=by
 intro g b s d H Q I h;refine isTrue_or<|Cb (ha b s d H Q I h) fun c f e=>?_;cases c with
 |false=>exact isTrue_or_nil e
 |true=>exact e
theorem kH (ha:PT X a tA)(hb:PW X (.BoolOp .And (b::rest) pos) tB'):PW X (.BoolOp .And (a::b::rest) pos) (RO tA tB'):=by
 intro l d s i H Q I h;refine isTrue_and<|Cb (ha d s i H _ I h) fun c j ⟨e,f,g⟩=>?_;cases c with
 |true=>exact hb l d j i e Q f g
 |false=>exact⟨e,f,g⟩
theorem k9 (ha:PT X a tA)(hb:PW X (.BoolOp .Or (b::rest) pos) tB'):PW X (.BoolOp .Or (a::b::rest) pos) (tOr tA tB'):=by
 intro l d s i H Q I h;refine isTrue_or<|Cb (ha d s i H _ I h) fun c j ⟨e,f,g⟩=>?_;cases c with
 |true=>exact⟨e,f,g⟩
 |false=>exact hb l d j i e Q f g
theorem yS (ha:PT X a tA):PT X (.UnaryOp .Not a pos) (RW tA):=by
 intro b s f H Q I h;exact isTrue_not<|Cb (ha b s f H (fun c e=>Q (!c) e) I h) fun c g z=>z.casesOn fun d i q=>⟨d,i,q⟩
def P5 (ta tb:TE):TE:=fun d H Q=>ta d H fun x b=>∃c,x=.bl c/\if c=true then tb d b Q else Q (.bl false) b
def RX (ta tb:TE):TE:=fun d H Q=>ta d H fun x b=>∃c,x=.bl c/\if c=true then Q (.bl true) b else tb d b Q
theorem x4 (h:PE X a t):PE X (.BoolOp op [a] pos) t:=fun b s d H Q I c=>BoolOp_one<|h b s d H Q I c
theorem xC (ha:PE X a ta)(hb:PE X (.BoolOp .And (b::rest) pos) tb):PE X (.BoolOp .And (a::b::rest) pos) (P5 ta tb):=by
 intro e s i H Q I h;refine BoolOp_and<|Cb (ha e s i H _ I h) fun v l ⟨x,f,g,j,d⟩=>?_;obtain⟨c,rfl,d⟩:=d;cases j;refine Yo ?_;cases c with
 |true=>exact hb e l i f Q g d
 |false=>exact⟨.bl false,f,g,rfl,d⟩
theorem Oc (ha:PE X a ta)(hb:PE X (.BoolOp .Or (b::rest) pos) tb):PE X (.BoolOp .Or (a::b::rest) pos) (RX ta tb):=by
 intro e s i H Q I h;refine BoolOp_or<|Cb (ha e s i H _ I h) fun v l ⟨x,f,g,j,d⟩=>?_;obtain⟨c,rfl,d⟩:=d;cases j;refine Yo ?_;cases c with
 |false=>exact hb e l i f Q g d
 |true=>exact⟨.bl true,f,g,rfl,d⟩
def R7 (t:TT)(ta tb:TE):TE:=fun b H Q=>t b H fun c d=>if c=true then ta b d Q else tb b d Q
theorem Ms (n:PT X c tA)(ha:PE X a ta)(hb:PE X b tb):PE X (.IfExp c a b pos) (R7 tA ta tb):=by
 intro e s f H Q I h;refine wpAny_IfExp<|Cb (n e s f H _ I h) fun d l ⟨g,i,j⟩=>?_;cases d with
 |true=>exact ha e l f g Q i j
 |false=>exact hb e l f g Q i j
end
def WP (K:Ca)(H:Hp)(a:Ei)(xs:Dk):Prop :=
 Rd H a (.lst xs) \/
  ∃(o:Obj) (b:Array Ej) (n:Nat),K.lookup a=some o/\o.cls=.type "list"/\o.dict=none/\o.data=.seq b n/\b.size<=sizeLine/\W2 xs b.toList
def Wu (K:Ca)(H:Hp)(a:Ei)(xs:Dk):Prop :=
 Rd H a (.tup xs) \/
  ∃(o:Obj) (b:Array Ej) (n:Nat),K.lookup a=some o/\o.cls=.type "tuple"/\o.dict=none/\o.data=.seq b n/\b.size<=sizeLine/\W2 xs b.toList
def Rt:Ej->Option V
 | .none=>some .non
 | .bool b=>some<|.bl b
 | .int i _=>some<|.int i
 | .str x _=>some<|.str x
 | .bytes b _=>some<|.byt b
 | .float b _=>some<|.flt b
 | .ref a=>some<|.ref a
 | .type n=>some<|.ty n
 |_=>none
theorem WX.abs (r:WX x u):Rt u=some x:=by
 cases x with
 |non=>cases r;rfl
 |bl _=>cases r;rfl
 |int _=>obtain⟨t,rfl⟩:=r;rfl
 |str _=>obtain⟨t,rfl⟩:=r;rfl
 |byt _=>obtain⟨t,rfl⟩:=r;rfl
 |flt _=>obtain⟨t,rfl⟩:=r;rfl
 |ref _=>cases r;rfl
 |ty _=>cases r;rfl
theorem WX.inj (r:WX x u)(q:WX y u):x=y:=Option.some.inj<|r.abs.symm.trans q.abs
theorem W2.inj:∀{xs ys:Dk} {us:Db},W2 xs us->W2 ys us->xs=ys
 |_,_,_,.nil,.nil=>rfl
 |_,_,_,.cons r t,.cons r' t'=>by rw[r.inj r',W2.inj t t']
section
variable {X:Cx}{Do:Df}{σ:St}{H:Hp}{s:Eo}{a:Ei}{xs ys:Dk}
theorem WP.of {K:Ca}(h:H a=some (.lst xs)):WP K H a xs:=.inl<|.inl h
theorem Wu.of {K:Ca}(h:H a=some (.tup xs)):Wu K H a xs:=.inl<|.inl h
theorem Inv.list (I:Inv X Do σ H s)(h:WP X.K H a xs):∃its:Db,W2 xs its/\PlainL s.heap a its.toArray/\xs.length<=sizeLine:=by
 rcases h with h|⟨o,its,n,hk,b,hd,c,d,r⟩
 ·obtain⟨z,its,n,r,e⟩:=h.ok I.hok;exact⟨its,r,⟨_,n,e,rfl,rfl,rfl⟩,z⟩
 ·refine⟨its.toList,r,⟨o,n,I.Tn a o hk,b,hd,by simpa using c⟩,?_⟩;have e:=r.length;simp only[Zw]at e;omega
theorem Inv.uI (I:Inv X Do σ H s)(h:Wu X.K H a xs):∃its:Db,W2 xs its/\TupAt s.heap a its.toArray/\xs.length<=sizeLine:=by
 rcases h with h|⟨o,its,n,hk,c,b,d,f,r⟩
 ·obtain⟨z,its,r,p⟩:=h.ok I.hok;exact⟨its,r,p,z⟩
 ·refine⟨its.toList,r,⟨o,I.Tn a o hk,c,n,by simpa using d,b⟩,?_⟩;have e:=r.length;simp only[Zw]at e;omega
theorem Inv.tuple (I:Inv X Do σ H s)(h:Wu X.K H a xs):∃its:Db,W2 xs its/\IsTup s.heap a its.toArray/\xs.length<=sizeLine:=by
 obtain⟨its,r,p,z⟩:=I.uI h;exact⟨its,r,p.is,z⟩
theorem Inv.wL (I:Inv X Do σ H s)(h:WP X.K H a xs)(h':WP X.K H a ys):xs=ys:=by
 obtain⟨b,r,⟨o,n,e,_,_,d⟩,_⟩:=I.list h;obtain⟨g,j,⟨p,l,f,_,_,c⟩,_⟩:=I.list h';rw[e]at f;cases f;rw[d]at c;injection c with i _;have:b=g:=by simpa using congrArg Array.toList i
 subst this;exact r.inj j
theorem Inv.vP (I:Inv X Do σ H s)(h:Wu X.K H a xs)(h':Wu X.K H a ys):xs=ys:=by
 obtain⟨b,r,⟨o,e,_,n,d⟩,_⟩:=I.tuple h;obtain⟨g,j,⟨p,f,_,l,c⟩,_⟩:=I.tuple h';rw[e]at f;cases f;rw[d]at c;injection c with i _;have:b=g:=by simpa using congrArg Array.toList i
 subst this;exact r.inj j
end
abbrev Cx.wish (X:Cx)(E:Ej->Di):Cx:={ X with xe:=E }
abbrev Cx.tZ (X:Cx):Cx:=X.wish fun _ _=>False
theorem Cx.Ok.wish {X:Cx}(ok:X.Ok)(E:Ej->Di):(X.wish E).Ok :=
 ⟨ok.mod,ok.kind,ok.glob,ok.blt,ok.above,ok.inj,ok.has,ok.cab,ok.hd,ok.frames,ok.stk,ok.vp,ok.bs,ok.v6,ok.wY,ok.yt,ok.Tz,ok.vM⟩
theorem Cx.Ok.Ti {X:Cx}{E:Ej->Di}(ok:(X.wish E).Ok):X.Ok :=
 ⟨ok.mod,ok.kind,ok.glob,ok.blt,ok.above,ok.inj,ok.has,ok.cab,ok.hd,ok.frames,ok.stk,ok.vp,ok.bs,ok.v6,ok.wY,ok.yt,ok.Tz,ok.vM⟩
section
variable {X:Cx}{Do:Df}{σ:St}{H:Hp}{s:Eo}{E:Ej->Di}
theorem Inv.wish (I:Inv X Do σ H s)(E:Ej->Di):Inv (X.wish E) Do σ H s:=⟨I.ok.wish E,I.os,I.bare,I.base,I.loc,I.cell,I.free,I.Wm,I.pin,I.hok,I.len⟩
theorem Inv.Ti (I:Inv (X.wish E) Do σ H s):Inv X Do σ H s:=⟨I.ok.Ti,I.os,I.bare,I.base,I.loc,I.cell,I.free,I.Wm,I.pin,I.hok,I.len⟩
theorem SP.Ti (h:SP (X.wish E) Do D f s'):SP X Do D f s':=by
 cases f with
 |next=>obtain⟨b,c,I,q⟩:=h;exact⟨b,c,I.Ti,q⟩
 |brk=>obtain⟨b,c,I,q⟩:=h;exact⟨b,c,I.Ti,q⟩
 |cont=>obtain⟨b,c,I,q⟩:=h;exact⟨b,c,I.Ti,q⟩
 |ret u=>obtain⟨v,b,c,I,r,q⟩:=h;exact⟨v,b,c,I.Ti,r,q⟩
theorem R8.tZ {st:List ER}(h:R8 X.tZ st t):R8 X st t:=fun Do s σ H D I b =>
 Z3 (h Do s σ H D (I.wish _) b) (fun _ _ q=>q.Ti) fun _ _ z=>EH z
end
section
variable {X:Cx}{st:ER}{rest:List ER}{t u:TS}{e:EK}{te:TE}{pos:Pos}
def MY:TS:=fun D b H=>D.nx b H
def MZ (t u:TS):TS:=fun D b H=>t { D with nx:=u D } b H
theorem zM:R8 X [] MY:=fun _ _ b H _ I h=>J7 ⟨b,H,I,h⟩
theorem zD (g:PS X st t)(i:R8 X rest u):R8 X (st::rest) (MZ t u):=by
 intro c s l H D I h;refine VA<|Cb (g c s l H { D with nx:=u D } I h) fun f j q=>?_;cases f with
 |next =>
  obtain⟨b,d,e,q⟩:=q;exact i c j b d D e q
 |ret v=>exact q
 |brk=>exact q
 |cont=>exact q
theorem zF (c:PS X st t):R8 X [st] t:=by
 intro b s d H D I h;refine VA<|Cb (c b s d H D I h) fun f e q=>?_;cases f with
 |next=>exact J7 q
 |ret v=>exact q
 |brk=>exact q
 |cont=>exact q
theorem Inv.quiet (I:Inv X Do σ H s):interactive X.env=false:=by simp[interactive,I.ok.kind]
def P8 (te:TE):TS:=fun D b H=>te b H fun _ c=>D.nx b c
theorem yL (g:PE X e te)(hs:Mb e none pos.line X.env=Ln false:=by rfl):PS X (.Expr e pos) (P8 te):=by
 intro c s b H D I h;exact wpAny_Expr_any (Cb (g c s b H _ I h) fun v l ⟨x,d,f,j,i⟩=>⟨b,d,f,i⟩) I.quiet hs
def RY (te:TE):TS:=fun D b H=>te b H D.rt
theorem zK (g:PE X e te):PS X (.Return (some e) pos) (RY te):=by
 intro c s b H D I h;exact wpAny_Return_some<|Cb (g c s b H _ I h) fun v l ⟨x,d,f,j,i⟩=>⟨x,b,d,f,j,i⟩
def RV (c:TT)(t u:TS):TS:=fun D d H=>c d H fun b e=>if b=true then t D d e else u D d e
theorem z7 (n:PT X c tc)(ha:R8 X a t)(hb:R8 X b u):PS X (.If c a b pos) (RV tc t u):=by
 intro e s f H D I h;refine wpAny_If<|Cb (n e s f H _ I h) fun d l ⟨g,i,j⟩=>?_;cases d with
 |true=>exact ha e l f g D i j
 |false=>exact hb e l f g D i j
end
abbrev TG:=V->St->Hp->(St->Hp->Prop)->Prop
abbrev N8:=Dk->St->Hp->(St->Hp->Prop)->Prop
def PG (X:Cx)(b:EK)(t:TG):Prop :=
 ∀(d:Df) (s:Eo) (f:St) (H:Hp) (v:V) (u:Ej) (Q:St->Hp->Prop),Inv X d f H s->WX v u->t v f H Q ->
  Em (Et X.prog X.w) X.A (Mn b X.env u) (fun _ g=>∃c e,Inv X d c e g/\Q c e) X.xe s
def vm (X:Cx)(j:List EK)(t:N8):Prop :=
 ∀(c:Df) (s:Eo) (g:St) (H:Hp) (f:Dk) (e:Db) (Q:St->Hp->Prop),Inv X c g H s->W2 f e->t f g H Q ->
  Em (Et X.prog X.w) X.A (assignInOrder ((LC j X.env).map (·.2)) e) (fun _ i=>∃b d,Inv X c b d i/\Q b d) X.xe s
section
variable {X:Cx}{pos:Pos}
def Uv (i:Nat):TG:=fun v b H Q=>Q (b.set i (some v)) H
theorem zY {i:Nat}{x:Str}(c:X.N.Nodup)(e:X.N[i]?=some x)(f:Loc X.env.scope x)(d:X.fn x=true\/X.env.scope.names.lookup x=some .local:=by first|exact .inl rfl|exact .inr rfl|assumption):PG X (.Name x pos) (Uv i):=by
 intro g s l H v u Q I r h;exact Vm<|XX I c e f r (fun j b=>⟨_,H,b,h⟩) d
def Rv:N8:=fun b c H Q=>b=[]/\Q c H
inductive uR (t:TG)(u:N8)(vs:Dk)(σ:St)(H:Hp)(Q:St->Hp->Prop):Prop
 |mk (v:V) (r:Dk) (e:vs=v::r) (q:t v σ H fun σ' H'=>u r σ' H' Q):uR t u vs σ H Q
theorem kX:vm X [] Rv:=by
 intro c s b H f d Q I r h;obtain⟨e,h⟩:=h;subst e;cases r;exact assignInOrder_nil ⟨b,H,I,h⟩
theorem xH (i:PG X e t)(j:vm X es u)
  (hs:(LC (e::es) X.env).map (·.2)=Mn e X.env::(LC es X.env).map (·.2):=by rfl):vm X (e::es) (uR t u):=by
 intro c s o H w p Q I r h;obtain⟨v,q,g,h⟩:=h;subst g;cases r with
 |cons r rr =>
  rw[hs];refine assignInOrder_cons<|Cb (i c s o H _ _ _ I r h) fun _ n ⟨b,d,f,l⟩=>?_;exact j c n b d _ _ Q f rr l
inductive ux (K:Ca)(n:Nat)(t:N8)(v:V)(σ:St)(H:Hp)(Q:St->Hp->Prop):Prop
 |mk (a:Ei) (xs:Dk) (e:v=.ref a) (h:Wu K H a xs) (l:xs.length=n) (q:t xs σ H Q):ux K n t v σ H Q
theorem Gv {k:Nat}{n:Nat}(q:X.calm=true)(h:vm X es t)
  (hn:(LC es X.env).length=n:=by rfl) (c:(LC es X.env).findIdx? (·.1)=none:=by rfl):PG X (.Tuple es k pos) (ux X.K n t):=by
 intro f s i H v u Q I r d;obtain⟨a,A,l,w,hl,d⟩:=d;subst l;cases r;obtain⟨z,g,x,B⟩:=I.tuple w;refine assign_Tuple_tuple (I.ok.hd q) x (by simp[hn,←hl,g.length]) c fun p y=>?_;have j:Inv X f i H { s with heap:=p }:=I.kept (t':=s.toks) fun b o e=>y b o (Zl<|Zd e) e;exact h f _ i H A _ Q j (by simpa using g) d
def MV (d:TE)(g:TG):TS:=fun D b H=>d b H fun x c=>g x b c D.nx
theorem zW {i:Nat}{x:Str}{b:Pos}(j:X.N.Nodup)(o:X.N[i]?=some x)(p:Loc X.env.scope x)(l:PE X e te)(hs:Mb e (some<|.Name x b) pos.line X.env=Ln false:=by rfl)(n:X.fn x=true\/X.env.scope.names.lookup x=some .local:=by first|exact .inl rfl|exact .inr rfl|assumption) :
  PS X (.Assign [.Name x b] e pos) (MV te<|Uv i):=by
 intro c s t H D I h;refine wpAny_Assign_Name (Cb (l c s t H _ I h) fun v u ⟨y,d,f,r,q⟩=>?_) hs;exact XX f j o p r (fun w g=>⟨_,d,g,q⟩) n
theorem Cg {i:Nat}{x:Str}{b:Pos}(c:X.N.Nodup)(d:PE X e te)(g:X.N[i]?=some x:=by rfl)(j:Loc X.env.scope x:=by first|exact EY rfl|exact Or.inr rfl)(hs:Mb e (some<|.Name x b) pos.line X.env=Ln false:=by rfl)(f:X.fn x=true\/X.env.scope.names.lookup x=some .local:=by first|exact .inl rfl|exact .inr rfl|assumption):PS X (.Assign [.Name x b] e pos) (MV te<|Uv i):=zW c g j d hs f
end
structure It where
 go:Nat->Hp->Prop
 wI:Nat->Hp->V->Hp->Prop
 stop:Nat->Hp->Prop
def Uj (X:Cx)(d:Df)(H:Hp)(b:Ei):Prop :=
 H b=none/\b≠X.env.locals/\b∉X.fs/\(b∈X.ex\/X.s₀.heap.objs.size<=b)/\(∀x c,X.env.cells.lookup x=some c->c≠b)/\∀p∈X.pn++d,p.1≠b
theorem Inv.yq {H':Hp}{b:Ei}(I:Inv X Do σ H s)(hb:s.heap.objs.size<=b)(hn:H' b=none):Uj X Do H' b:=by
 refine⟨hn,Je<|Zq I.lt hb,I.tV hb,.inr<|Yc I.sz hb,fun x c e z=>?_,fun p d z=>?_⟩
 ·obtain⟨v,q⟩:=I.cell x c e;exact absurd (Zq q.lt<|by rwa[z])<|ZQ _
 ·exact absurd (Zq (Zd (I.pin p d).1)<|by rwa[z]) (ZQ _)
structure Turn (P:Ek)(w:Ep)(K:Ca)(tg:EK)(J:It)(fp:De)(it:Ei)(tn:Nat->EC->Prop):Prop where
 mem:it∈fp
 obj:∀i h,tn i h->∀b∈fp,∃o,h.get? b=some o/\∀v,o.data≠.cell v
 keep:∀i h h',tn i h->(∀b∈fp,∀o,h.get? b=some o->h'.get? b=some o)->tn i h'
 item:∀(X:Cx),X.prog=P->X.w=w->X.K=K->X.calm=true->∀(i:Nat) (Do:Df) (s:Eo) (σ:St) (H:Hp) (E:Ej->Di),Inv X Do σ H s->(∀b∈fp,Uj X Do H b)->tn i s.heap->J.go i H ->
  Em (Et P w) X.A (Lu<|.ref it) (fun r s1=>∃u,r=some u /\ Em (Et P w) X.A (LF tg (.ref it) u) (fun _ s2=>∃x H',Inv X Do σ H' s2/\WX x u/\J.wI i H x H'/\tn (i+1) s2.heap/\∀b∈fp,H' b=none) E s1) E s
 done:∀(X:Cx),X.prog=P->X.w=w->X.K=K->X.calm=true->∀(i:Nat) (Do:Df) (s:Eo) (σ:St) (H:Hp) (E:Ej->Di),Inv X Do σ H s->(∀b∈fp,Uj X Do H b)->tn i s.heap->J.stop i H ->
  Em (Et P w) X.A (Lu<|.ref it) (fun r s1=>r=none/\Inv X Do σ H s1) E s
 self:∀(A:ED) (i:Nat) (s:Eo) (Q:Ej->Di) (E:Ej->Di),tn i s.heap->Q (.ref it) s->Em (Et P w) A (Mq<|.ref it) Q E s
abbrev TI:=St->Hp->(It->Hp->Prop)->Prop
def PIE (X:Cx)(e:Df)(n:St)(l:EK)(R:It->Hp->Prop)(d:Ej)(i:Eo):Prop :=
 ∃(g:Ei) (f:De) (j:Nat->EC->Prop) (J:It) (c:Hp),d=.ref g/\Inv X e n c i/\Turn X.prog X.w X.K l J f g j/\j 0 i.heap/\(∀b∈f,Uj X e c b)/\R J c
def PI (X:Cx)(f b:EK)(g:TI):Prop :=
 ∀(d:Df) (s:Eo) (c:St) (H:Hp) (R:It->Hp->Prop),Inv X d c H s->g c H R ->
  Em (Et X.prog X.w) X.A (EZ b X.env) (fun v e=>Em (Et X.prog X.w) X.A (Mq v) (PIE X d c f R) X.xe e) X.xe s
theorem G2 {M:Model}{A:ED}{E:Ej->Di}{s:Eo}{c:EK}{it:Ei}{u:Ej}{o:Obj}{n:String}{vs:Array Ej}{Q:Unit->Di}(e:s.heap.get? it=some o)(d:o.cls=.type n)(hd:o.data=.fields vs)
  (hn:["enumerate","zip","dict_itemiterator","dict_reverseitemiterator","odict_iterator","itertools.zip_longest","itertools.pairwise"].contains n=false) (b:Q () s):Em M A (LF c (.ref it) u) Q E s:=by
 unfold LF;cases c<;>first
  |exact Q7 b
  | (cases u<;>first
    |exact Q7 b
    | (refine Q4 (VD e ?_)
       rw[d,hd];show Em M A (if(["enumerate","zip","dict_itemiterator","dict_reverseitemiterator","odict_iterator","itertools.zip_longest","itertools.pairwise"].contains n&&vs[0]?==some (EU _))=true then _ else _) Q E s;rw[Zm (by intro h;rw[hn,YR]at h;cases h)];exact Q7 b))
def M6 (K:Ca)(a:Ei):It :=
 ⟨fun i H=>∃b x,WP K H a b/\b[i]?=some x,fun i H x c=>c=H/\∀b,WP K H a b->b[i]?=some x,fun i H=>∃b,WP K H a b/\b.length<=i⟩
def Om (K:Ca)(a:Ei):It :=
 ⟨fun i H=>∃b x,Wu K H a b/\b[i]?=some x,fun i H x c=>c=H/\∀b,Wu K H a b->b[i]?=some x,fun i H=>∃b,Wu K H a b/\b.length<=i⟩
def M8 (lo:Int)(n:Nat):It:=⟨fun i _=>i<n,fun i H x b=>b=H/\x=.int (lo+i),fun i _=>n<=i⟩
theorem Kd {K:Ca}(a it:Ei):Turn P w K tg (M6 K a) [it] it (fun i h=>h.IsListIter it a i) where
 mem:=by simp
 obj:=fun i h st b hb=>by
  have e:b=it:=by simpa using hb
  subst e;obtain⟨o,e,c,d⟩:=st;exact⟨o,e,fun v z=>by rw[d]at z;cases z⟩
 keep:=fun i h g st k=>st.at fun o e=>k it (by simp) o e
 item:=by
  intro X B D A M i L s N H E I j st C;subst B D A;obtain⟨xs,x,l,F⟩:=C;obtain⟨G,J,p,U⟩:=I.list l;obtain⟨u,S,Y⟩:=J.get F;obtain⟨n,q,R,r,t,y⟩:=j it (by simp);refine wpAny_pyNext_list_item st p.isList (x:=u) (by simpa using S) fun g f Z=>?_;have O:Inv X L N H { s with heap:=g }:=I.turned (t':=s.toks) (fun b o hb e=>(Z.2 b hb).trans e) n q r t y;obtain⟨o,e,c,d⟩:=id f;exact⟨u,rfl,G2 (s:={ s with heap:=g }) e c d (by decide) ⟨x,H,O,Y,⟨rfl,fun ys T=>by rw[I.wL T l];exact F⟩,f,fun b hb=>(j b hb).1⟩⟩
 done:=by
  intro X B D A M i L s N H E I j st C;subst B D A;obtain⟨xs,l,F⟩:=C;obtain⟨G,J,p,U⟩:=I.list l;obtain⟨n,q,R,r,t,y⟩:=j it (by simp);have hl:=J.length;exact wpAny_pyNext_list_end (I.ok.hd M) st p.isList (by simp;omega) fun g Q=>⟨rfl,I.turned (t':=s.toks) (fun b o hb e=>Q b o hb e) n q r t y⟩
 self:=fun _ _ _ _ _ st h=>wpAny_pyIter_listiter st h
theorem Fm {K:Ca}(a it:Ei):Turn P w K tg (Om K a) [it] it (fun i h=>h.IsTupleIter it a i) where
 mem:=by simp
 obj:=fun i h st b hb=>by
  have e:b=it:=by simpa using hb
  subst e;obtain⟨o,e,c,d⟩:=st;exact⟨o,e,fun v z=>by rw[d]at z;cases z⟩
 keep:=fun i h j st k=>st.at fun o e=>k it (by simp) o e
 item:=by
  intro X C F B M i L s N H E I l st D;subst C F B;obtain⟨xs,x,n,G⟩:=D;obtain⟨f,J,p,U⟩:=I.tuple n;obtain⟨u,S,Y⟩:=J.get G;obtain⟨q,r,R,t,y,A⟩:=l it (by simp);refine wpAny_pyNext_tuple_item st (show s.heap.IsTuple a f.toArray from p) (x:=u) (by simpa using S) fun j g Z=>?_;have O:Inv X L N H { s with heap:=j }:=I.turned (t':=s.toks) (fun b o hb e=>(Z.2 b hb).trans e) q r t y A;obtain⟨o,e,c,d⟩:=id g;exact⟨u,rfl,G2 (s:={ s with heap:=j }) e c d (by decide) ⟨x,H,O,Y,⟨rfl,fun ys T=>by rw[I.vP T n];exact G⟩,g,fun b hb=>(l b hb).1⟩⟩
 done:=by
  intro X C F B M i L s N H E I l st D;subst C F B;obtain⟨xs,n,G⟩:=D;obtain⟨f,J,p,U⟩:=I.tuple n;obtain⟨q,r,R,t,y,A⟩:=l it (by simp);have hl:=J.length;exact wpAny_pyNext_tuple_end (I.ok.hd M) st (show s.heap.IsTuple a f.toArray from p) (by simp;omega) fun j Q=>⟨rfl,I.turned (t':=s.toks) (fun b o hb e=>Q b o hb e) q r t y A⟩
 self:=fun _ _ _ _ _ st h=>wpAny_pyIter_tupleiter st h
theorem Fl {K:Ca}(it:Ei)(lo:Int)(n:Nat):Turn P w K tg (M8 lo n) [it] it (fun i h=>IsRangeIter h it (lo+(i:Nat)*1) ((n:Int)-(i:Nat)) 1) where
 mem:=by simp
 obj:=fun i h st b hb=>by
  have e:b=it:=by simpa using hb
  subst e;exact⟨_,st,fun v z=>by
   have M:Data.fields _=Data.cell v:=z;cases M⟩
 keep:=fun i h d st k=>k it (by simp) _ st
 item:=by
  intro X u A r x i B s D H E I f st y;subst u A r;obtain⟨g,j,J,l,p,q⟩:=f it (by simp);have W:=Walks.range (prog:=X.prog) (w:=X.w) (I.ok.hd x) it lo 1 n;refine W.item i s _ _ y st fun v d C hv c L=>?_;obtain⟨t,rfl⟩:=hv;have F:Inv X B D H { s with heap:=d,toks:=C }:=I.turned (fun b o hb e=>L b o (by simpa using hb) e) g j l p q;refine⟨_,rfl,G2 (s:={ s with heap:=d,toks:=C }) (n:="range_iterator") c rfl rfl (by decide) ⟨.int<|lo+i,H,F,⟨t,?_⟩,⟨rfl,rfl⟩,c,fun b hb=>(f b hb).1⟩⟩;rw[Int.mul_one]
 done:=by
  intro X u A r x i B s D H E I f st y;subst u A r;obtain⟨g,j,J,l,p,q⟩:=f it (by simp);exact wpAny_pyNext_range_end (I.ok.hd x) st (by have:n<=i:=y;omega) fun d G=>⟨rfl,I.turned (t':=s.toks) (fun b o hb e=>G b o hb e) g j l p q⟩
 self:=fun _ _ _ _ _ st h=>wpAny_pyIter_rangeiter st h
section
variable {X:Cx}{tg:EK}
def PD (K:Ca)(c:TE):TI:=fun e H R=>c e H fun x b=>∃a,x=.ref a/\(∃d,WP K b a d)/\R (M6 K a) b
def Rx (K:Ca)(c:TE):TI:=fun e H R=>c e H fun x b=>∃a,x=.ref a/\(∃d,Wu K b a d)/\R (Om K a) b
theorem kA (hl:PE X l tl):PI X tg l (PD X.K tl):=by
 intro f s t H R I h;refine Cb (hl f s t H _ I h) fun v d ⟨x,g,c,r,n⟩=>?_;obtain⟨a,e,⟨y,i⟩,q⟩:=n;subst e;cases r;obtain⟨j,w,p,u⟩:=c.list i;refine Jm p.isList ?_;refine⟨d.heap.objs.size,[d.heap.objs.size],_,_,g,rfl,c.kept (t':=d.toks) fun b o e=>Q6 _ e,Kd a _,⟨_,Zb _ rfl,rfl,rfl⟩,fun b hb=>?_,q⟩;have e:b=d.heap.objs.size:=by simpa using hb
 subst e;exact c.yq (Q9 _)<|c.hok.fresh<|Q9 _
theorem k7 (hl:PE X l tl):PI X tg l (Rx X.K tl):=by
 intro g s t H R I h;refine Cb (hl g s t H _ I h) fun v c ⟨x,i,d,r,n⟩=>?_;obtain⟨a,e,⟨y,j⟩,q⟩:=n;subst e;cases r;obtain⟨f,w,p,u⟩:=d.tuple j;refine wpAny_pyIter_tuple (show c.heap.IsTuple a f.toArray from p) ?_;refine⟨c.heap.objs.size,[c.heap.objs.size],_,_,i,rfl,d.kept (t':=c.toks) fun b o e=>Q6 _ e,Fm a _,⟨_,Zb _ rfl,rfl,rfl⟩,fun b hb=>?_,q⟩;have e:b=c.heap.objs.size:=by simpa using hb
 subst e;exact d.yq (Q9 _)<|d.hok.fresh<|Q9 _
theorem BC {R:It->Hp->Prop}{E:Ej->Di}{lo c:Int}{t u v:Tok}{f:Nat}(I:Inv X Do σ H s)(j:-(2 ^ 62)<=lo)(l:lo<2 ^ 62)(n:-(2 ^ 62)<=c)(p:c<2 ^ 62)
  (q:R (M8 lo (c-lo).toNat) H):Em (Et X.prog X.w) X.A (Mq<|.ref s.heap.objs.size) (PIE X Do σ tg R) E { s with heap:=s.heap.push { cls:=.type "range",data:=.fields #[.int lo t,.int c u,.int 1 v] },toks:=f }:=by
 refine wpAny_pyIter_range (IsRange.new ..) (small_one j l n p) ?_;have d:Inv X Do σ H { s with heap:=s.heap.push { cls:=.type "range",data:=.fields #[.int lo t,.int c u,.int 1 v] },toks:=f }:=I.kept fun b o e=>Q6 _ e;refine⟨(s.heap.push { cls:=.type "range",data:=.fields #[.int lo t,.int c u,.int 1 v] }).objs.size,[(s.heap.push { cls:=.type "range",data:=.fields #[.int lo t,.int c u,.int 1 v] }).objs.size],_,_,H,rfl,d.kept (t':=f) fun b o e=>Q6 _ e,Fl _ lo (c-lo).toNat,?_,fun b hb=>?_,q⟩
 ·have g:lo+((0:Nat):Int)*1=lo:=by simp
  have i:(((c-lo).toNat:Nat):Int)-((0:Nat):Int)=Builtin.Range.rangeSize lo c 1:=by rw[rangeSize_one];split<;>omega
  show IsRangeIter _ _ (lo+((0:Nat):Int)*1) ((((c-lo).toNat:Nat):Int)-((0:Nat):Int)) 1;rw[g,i];exact Zb _ rfl
 ·have e:b=(s.heap.push { cls:=.type "range",data:=.fields #[.int lo t,.int c u,.int 1 v] }).objs.size:=by simpa using hb
  subst e;exact d.yq (Q9 _)<|d.hok.fresh<|Q9 _
def PF (c:TA):TI:=fun e H R=>c e H fun d b=>∃j:Int,d=[.int j]/\-(2 ^ 62)<=j/\j<2 ^ 62/\R (M8 0 j.toNat) b
def PH (c:TA):TI:=fun e H R=>c e H fun d b=>∃i j:Int,d=[.int i,.int j]/\(-(2 ^ 62)<=i/\i<2 ^ 62/\-(2 ^ 62)<=j/\j<2 ^ 62)/\R (M8 i (j-i).toNat) b
theorem IK {a:EK}{p pos:Pos}(f:Gl X "range")(hm:X.mg "range"=none)(ha:PA X [a] ta)(hs:EB [a] X.env=[(false,EZ a X.env)]:=by rfl):PI X tg (.Call (.Name "range" p) [a] [] pos) (PF ta):=by
 intro c s l H R I h;refine Call_<|k6 I f hm boot_range<|YK (Cb (ha pos c s l H _ I h) fun u o ⟨v,n,d,i,b⟩=>?_) hs rfl;obtain⟨j,e,b,g,q⟩:=b;subst e;cases i with
 |cons r rr =>
  cases rr;obtain⟨t,rfl⟩:=r;exact call_range_1 (BC d (by omega) (by omega) b g<|by simpa using q)
theorem HS {a b:EK}{p pos:Pos}(l:Gl X "range")(hm:X.mg "range"=none)(ha:PA X [a,b] ta)(hs:EB [a,b] X.env=[(false,EZ a X.env),(false,EZ b X.env)]:=by rfl)(c:EB [b] X.env=[(false,EZ b X.env)]:=by rfl) :
  PI X tg (.Call (.Name "range" p) [a,b] [] pos) (PH ta):=by
 intro f s w H R I h;refine Call_ (k6 I l hm boot_range<|YK (Cb (ha pos f s w H _ I h) fun A y ⟨B,x,g,v,d⟩=>?_) (by rw[hs,c]) (by rw[c];rfl));obtain⟨i,j,e,⟨d,n,o,u⟩,q⟩:=d;subst e;cases v with
 |cons r rr =>
  cases rr with
  |cons r' rr =>
   cases rr;obtain⟨t,rfl⟩:=r;obtain⟨z,rfl⟩:=r';exact call_range_2<|BC g d n o u q
def RT (n:TI)(g:TG)(tb:TS):TS:=fun D b H=>n b H fun J j=>∃W:Nat->Nat->St->Hp->Prop,(∃m,W 0 m b j)/\∀i m b H,W i m b H ->
 (J.stop i H/\D.nx b H)\/(J.go i H/\∃N:St->Hp->Prop,(∀d c,N d c->∃f,f<m/\W (i+1) f d c)/\∀x c,J.wI i H x c->g x b c fun e l=>tb { D with nx:=N,ct:=N,bk:=D.nx } e l)
def kK (fp:De)(h:EC):Df:=fp.filterMap fun b=>(h.get? b).map fun o=>(b,o)
theorem xP {fp:De}{h:EC}{b:Ei}{o:Obj}(hb:b∈fp)(e:h.get? b=some o):(b,o)∈kK fp h:=Vh.mpr ⟨b,hb,by rw[e];rfl⟩
theorem HR {p:Ei×Obj}(d:p∈kK fp h):p.1∈fp/\h.get? p.1=some p.2:=by
 obtain⟨b,hb,e⟩:=Vh.mp d;cases q:h.get? b with
 |none=>rw[q]at e;cases e
 |some o =>
  rw[q]at e;have c:(b,o)=p:=Option.some.inj e;subst c;exact⟨hb,q⟩
theorem Inv.pinned {fp:De}(I:Inv X Do σ H s)(j:∀b∈fp,Uj X Do H b)(l:∀b∈fp,∃o,s.heap.get? b=some o/\∀v,o.data≠.cell v):Inv X (Do++kK fp s.heap) σ H s :=
 I.Wk fun p n=>(ZG.mp n).elim (fun z=>I.pin p<|Zy _ z) fun z=>by
  obtain⟨hb,e⟩:=HR z;obtain⟨f,g,i,_⟩:=j p.1 hb;obtain⟨o,c,d⟩:=l p.1 hb;rw[e]at c;cases c;exact⟨e,f,g,i,d⟩
theorem Inv.zr {b pl:Df}(I:Inv X (b++pl) σ H s):Inv X b σ H s:=I.Wk fun p c=>I.pin p<|Zy _<|Yz _ c
theorem qF {pos:Pos}(G:PassesOwn (Et X.prog X.w) X.A X.env X.xe)(hc:X.calm=true)(hi:PI X tg iter wi)(hg:PG X tg g)(hb:R8 X body tb)
  (hs:∀x,LZ iter X.env x=Ln x:=by intro _;rfl):PS X (.For tg iter body [] pos) (RT wi g tb):=by
 intro B s σ H D I h;refine wpAny_For (Cb (hi B s σ H _ I h) fun v s1 h1=>Cb h1 fun aa s2 h2=>?_) hs;obtain⟨it,E,tn,J,H2,e,I2,T,U,f2,W,⟨m0,w0⟩,M⟩:=h2;subst e;have p:∀{y:Hp},(∀b∈E,y b=none)->∀b∈E,Uj X B y b:=fun hn b hb=>⟨hn b hb,(f2 b hb).2⟩;refine codeAny_forLoop_any (fun n s'=>∃i q y,Inv X B q y s'/\tn i s'.heap/\(∀b∈E,y b=none)/\W i n q y) ?_ m0 ⟨0,σ,H2,I2,U,fun b hb=>(f2 b hb).1,w0⟩;rintro n s3 ⟨i,t,O,I3,L,F,w3⟩
 rcases M i n t O w3 with⟨stop,qn⟩|⟨go,N,hN,step⟩
 ·refine JH G (Cb (T.done X rfl rfl rfl hc i B s3 t O X.xe I3 (p F) L stop) fun r s4 ⟨R,I4⟩=>?_);subst R;exact J7 ⟨t,O,I4,qn⟩
 ·refine JH G (Cb (T.item X rfl rfl rfl hc i B s3 t O X.xe I3 (p F) L go) fun r s4 ⟨u,R,h4⟩=>?_);subst R;refine JH G<|Cb h4 fun _ s5 hh=>?_;obtain⟨x,Z,I5,r5,y5,C,Q⟩:=hh;have P:=I5.pinned (p Q)<|T.obj _ _ C;refine JH G<|Cb (hg _ s5 t Z x u _ P r5<|step x Z y5) fun _ s6 ⟨Y,H6,I6,q6⟩=>?_;refine JH G<|Cb (hb _ s6 Y H6 _ I6 q6) fun f S z=>?_;have again:∀{c:St} {j:Hp},Inv X (B++kK E s5.heap) c j S->N c j->∃m,m<n/\∃i q y,Inv X B q y S/\tn i S.heap/\(∀b∈E,y b=none)/\W i m q y:=fun{c j} l K=>by
   obtain⟨m',hm,w7⟩:=hN c j K;refine⟨m',hm,i+1,c,j,l.zr,T.keep _ _ _ C fun b hb o e=>(l.pin (b,o)<|Zy _<|Zy _<|xP hb e).1,fun b hb=>?_,w7⟩;obtain⟨o,e,d⟩:=T.obj _ _ C b hb;exact(l.pin (b,o)<|Zy _<|Zy _<|xP hb e).2.1
  cases f with
  |next=>obtain⟨c,j,l,K⟩:=z;exact again l K
  |cont=>obtain⟨c,j,l,K⟩:=z;exact again l K
  |brk=>obtain⟨c,j,l,z⟩:=z;exact⟨c,j,l.zr,z⟩
  |ret v=>obtain⟨x7,c,j,l,r7,z⟩:=z;exact⟨x7,c,j,l.zr,r7,z⟩
end
theorem BY {K:Ca}{xs:Dk}{g:TG}{tb:TS}{D:Ends}{b:St}{H:Hp}(c:Nat->St->Hp->Prop)(f:c 0 b H)(hl:∀i b H,i<=xs.length->c i b H->WP K H a xs)
  (hs:∀i x b H,xs[i]?=some x->c i b H->g x b H fun σ2 H2=>tb { D with nx:=c<|i+1,ct:=c<|i+1,bk:=D.nx } σ2 H2) (hd:∀b H,c xs.length b H->D.nx b H) :
  ∃W:Nat->Nat->St->Hp->Prop,(∃m,W 0 m b H)/\∀i m b H,W i m b H ->
   ((M6 K a).stop i H/\D.nx b H)\/((M6 K a).go i H/\∃N:St->Hp->Prop,(∀σ' H',N σ' H'->∃m',m'<m/\W (i+1) m' σ' H')/\∀x H',(M6 K a).wI i H x H'->g x b H' fun σ2 H2=>tb { D with nx:=N,ct:=N,bk:=D.nx } σ2 H2):=by
 refine⟨fun i m b H=>m=xs.length-i/\i<=xs.length/\c i b H,⟨xs.length,by simp,ZA _,f⟩,?_⟩;rintro i m b H ⟨rfl,j,p⟩;have q:=hl i b H j p
 by_cases d:i<xs.length
 ·refine .inr ⟨⟨xs,xs[i],q,by simp[d]⟩,c<|i+1,fun σ' H' l=>⟨xs.length-(i+1),by omega,rfl,d,l⟩,fun x H' y=>?_⟩;obtain⟨e,y⟩:=y;subst e;exact hs i x b _ (y xs q) p
 ·have e:i=xs.length:=by omega
  subst e;exact .inl ⟨⟨xs,q,Q9 _⟩,hd b H p⟩
theorem Gf {K:Ca}{xs:Dk}{g:TG}{tb:TS}{D:Ends}{b:St}{H:Hp}(c:Nat->St->Hp->Prop)(f:c 0 b H)(hl:∀i b H,i<=xs.length->c i b H->Wu K H a xs)
  (hs:∀i x b H,xs[i]?=some x->c i b H->g x b H fun σ2 H2=>tb { D with nx:=c<|i+1,ct:=c<|i+1,bk:=D.nx } σ2 H2) (hd:∀b H,c xs.length b H->D.nx b H) :
  ∃W:Nat->Nat->St->Hp->Prop,(∃m,W 0 m b H)/\∀i m b H,W i m b H ->
   ((Om K a).stop i H/\D.nx b H)\/((Om K a).go i H/\∃N:St->Hp->Prop,(∀σ' H',N σ' H'->∃m',m'<m/\W (i+1) m' σ' H')/\∀x H',(Om K a).wI i H x H'->g x b H' fun σ2 H2=>tb { D with nx:=N,ct:=N,bk:=D.nx } σ2 H2):=by
 refine⟨fun i m b H=>m=xs.length-i/\i<=xs.length/\c i b H,⟨xs.length,by simp,ZA _,f⟩,?_⟩;rintro i m b H ⟨rfl,j,p⟩;have q:=hl i b H j p
 by_cases d:i<xs.length
 ·refine .inr ⟨⟨xs,xs[i],q,by simp[d]⟩,c<|i+1,fun σ' H' l=>⟨xs.length-(i+1),by omega,rfl,d,l⟩,fun x H' y=>?_⟩;obtain⟨e,y⟩:=y;subst e;exact hs i x b _ (y xs q) p
 ·have e:i=xs.length:=by omega
  subst e;exact .inl ⟨⟨xs,q,Q9 _⟩,hd b H p⟩
theorem IM {lo:Int}{n:Nat}{g:TG}{tb:TS}{D:Ends}{b:St}{H:Hp}(c:Nat->St->Hp->Prop)(f:c 0 b H)
  (hs:∀i b H,i<n->c i b H->g (.int<|lo+i) b H fun σ2 H2=>tb { D with nx:=c<|i+1,ct:=c<|i+1,bk:=D.nx } σ2 H2) (hd:∀b H,c n b H->D.nx b H) :
  ∃W:Nat->Nat->St->Hp->Prop,(∃m,W 0 m b H)/\∀i m b H,W i m b H ->
   ((M8 lo n).stop i H/\D.nx b H)\/((M8 lo n).go i H/\∃N:St->Hp->Prop,(∀σ' H',N σ' H'->∃m',m'<m/\W (i+1) m' σ' H')/\∀x H',(M8 lo n).wI i H x H'->g x b H' fun σ2 H2=>tb { D with nx:=N,ct:=N,bk:=D.nx } σ2 H2):=by
 refine⟨fun i m b H=>m=n-i/\i<=n/\c i b H,⟨n,by simp,ZA _,f⟩,?_⟩;rintro i m b H ⟨rfl,l,p⟩
 by_cases d:i<n
 ·refine .inr ⟨d,c<|i+1,fun σ' H' j=>⟨n-(i+1),by omega,rfl,d,j⟩,fun x H' y=>?_⟩;obtain⟨e,y⟩:=y;subst e y;exact hs i b _ d p
 ·have e:i=n:=by omega
  subst e;exact .inl ⟨Q9 _,hd b H p⟩
abbrev R2:=V->V->Hp->VK->Prop
def Cj (X:Cx)(f:Ej->Ej->Sem Ej)(r:R2):Prop :=
 ∀(b:Df) (s:Eo) (c:St) (H:Hp) (x y:V) (v u:Ej) (Q:VK),Inv X b c H s->WX x v->WX y u->r x y H Q ->
  Em (Et X.prog X.w) X.A (f v u) (EP X b c Q) X.xe s
def Wz (X:Cx)(f:Ej)(r:Dk->Hp->VK->Prop):Prop :=
 ∀(b:Df) (s:Eo) (e:St) (H:Hp) (d:Dk) (c:Db) (Q:VK),Inv X b e H s->W2 d c->r d H Q ->
  Em (Et X.prog X.w) X.A (call f c) (EP X b e Q) X.xe s
def Rr (X:Cx)(r:V->Hp->(Bool->Hp->Prop)->Prop):Prop :=
 ∀(b:Df) (s:Eo) (c:St) (H:Hp) (x:V) (v:Ej) (Q:Bool->Hp->Prop),Inv X b c H s->WX x v->r x H Q ->
  Em (Et X.prog X.w) X.A (truthy v) (TP X b c Q) X.xe s
def Po (r:R2)(e tb:TE):TE:=fun b H Q=>e b H fun x c=>tb b c fun y d=>r x y d Q
inductive rI (C:Int->Int->Prop)(g:Int->Int->V)(x y:V)(H:Hp)(Q:VK):Prop
 |mk (i j:Int) (e:x=.int i) (f:y=.int j) (c:C i j) (q:Q (g i j) H):rI C g x y H Q
inductive uK (g:Int->Int->V)(x y:V)(H:Hp)(Q:VK):Prop
 |mk (i j:Int) (e:x=.int i) (f:y=.int j) (q:Q (g i j) H):uK g x y H Q
section
variable {X:Cx}{a b c:EK}{ta tb tc:TE}{pos:Pos}
theorem Ov (ha:PE X a ta)(hb:PE X b tb){d:Df}{s:Eo}{c:St}{H:Hp}{R:V->V->Hp->Prop}(I:Inv X d c H s)
  (h:ta c H fun x H1=>tb c H1 fun y H2=>R x y H2) {Q:Ej->Di} {f:Ej->Ej->Sem Ej}
  (i:∀v u s2 x y H2,Inv X d c H2 s2->WX x v->WX y u->R x y H2->Em (Et X.prog X.w) X.A (f v u) Q X.xe s2) :
  Em (Et X.prog X.w) X.A (EZ a X.env) (fun v s₁=>Em (Et X.prog X.w) X.A (EZ b X.env) (fun u s₂=>Em (Et X.prog X.w) X.A (f v u) Q X.xe s₂) X.xe s₁) X.xe s:=by
 refine Cb (ha d s c H _ I h) fun v p ⟨x,H1,e,n,j⟩=>?_;refine Cb (hb d p c H1 _ e j) fun u s2 ⟨y,H2,g,o,l⟩=>?_;exact i v u s2 x y H2 g n o l
theorem z5 {op:Operator}(f:Cj X (binaryOp op) r)(ha:PE X a ta)(hb:PE X b tb):PE X (.BinOp a op b pos) (Po r ta tb):=by
 intro c s l H Q I h;exact wpAny_BinOp<|Ov ha hb I h fun v u j x y d e g i q=>f c j l d x y v u Q e g i q
theorem RD {f:Ej->Ej->Sem Ej}{C:Int->Int->Prop}{g:Int->Int->Int}
  (b:∀(i j:Int) (t u:Tok) (s:Eo) (Q:Ej->Di) (E:Ej->Di),C i j->Q (.int (g i j) s.toks) { s with toks:=s.toks+1 }->Em (Et X.prog X.w) X.A (f (.int i t)<|.int j u) Q E s) :
  Cj X f (rI C fun i j=>.int<|g i j):=by
 intro n s o H x y v u Q I d e h;obtain⟨i,j,rfl,rfl,c,q⟩:=h;obtain⟨t,rfl⟩:=d;obtain⟨l,rfl⟩:=e;exact b i j t l s _ _ c ⟨.int<|g i j,H,I.tok _,⟨_,rfl⟩,q⟩
theorem RE {f:Ej->Ej->Sem Ej}{g:Int->Int->Int}
  (b:∀(i j:Int) (t u:Tok) (s:Eo) (Q:Ej->Di) (E:Ej->Di),Q (.int (g i j) s.toks) { s with toks:=s.toks+1 }->Em (Et X.prog X.w) X.A (f (.int i t)<|.int j u) Q E s) :
  Cj X f (uK fun i j=>.int<|g i j):=by
 intro l s n H x y v u Q I c d h;obtain⟨i,j,rfl,rfl,q⟩:=h;obtain⟨t,rfl⟩:=c;obtain⟨e,rfl⟩:=d;exact b i j t e s _ _ ⟨.int<|g i j,H,I.tok _,⟨_,rfl⟩,q⟩
theorem OP {f:Ej->Ej->Sem Ej}{g:Int->Int->Bool}
  (b:∀(i j:Int) (t u:Tok) (s:Eo) (Q:Ej->Di) (E:Ej->Di),Q (.bool<|g i j) s->Em (Et X.prog X.w) X.A (f (.int i t)<|.int j u) Q E s) :
  Cj X f (uK fun i j=>.bl<|g i j):=by
 intro l s n H x y v u Q I c d h;obtain⟨i,j,rfl,rfl,q⟩:=h;obtain⟨t,rfl⟩:=c;obtain⟨e,rfl⟩:=d;exact b i j t e s _ _ ⟨.bl<|g i j,H,I,rfl,q⟩
def Rp (i j:Int):Prop:=0<j/\j<1073741824
def uO (i j:Int):Prop:=(-(2 ^ 64)<i/\i<2 ^ 64)\/(-(2 ^ 64)<j/\j<2 ^ 64)
theorem uO.ok (h:uO i j):IntMulOk i j:=by
 rcases h with⟨h1,h2⟩|⟨h1,h2⟩
 ·exact .of_left (intBits_le_64 h1 h2)
 ·exact .of_right (intBits_le_64 h1 h2)
theorem Xl:Cj X (binaryOp .Add) (uK fun i j=>.int<|i+j):=RE fun _ _ _ _ _ _ _ q=>add_int q
theorem K5:Cj X (binaryOp .Mult) (rI uO fun i j=>.int<|i*j):=RD fun _ _ _ _ _ _ _ b q=>mul_int q b.ok
theorem xF:Cj X (binaryOp .FloorDiv) (rI Rp fun i j=>.int<|i / j):=RD fun i j _ _ _ _ _ b q=>by
 have c:(0:Int)<j:=b.1;have d:j<1073741824:=b.2;exact floordiv_int (by omega) (by rwa[Int.fdiv_eq_ediv_of_nonneg i<|by omega]) (.inl<|PyProof.noPylong_small<|by omega)
theorem y6:Cj X (binaryOp .Mod) (rI (fun _ j=>0<j) fun i j=>.int<|i % j):=RD fun i j _ _ _ _ _ b q=>by
 have c:(0:Int)<j:=b;exact mod_int' (by omega) (by rwa[Int.fmod_eq_emod_of_nonneg i<|by omega])
def P3:V->V->Bool
 | .non,.non=>true|.non,.int _=>true|.int _,.non=>true|.non,.bl _=>true|.bl _,.non=>true|.non,.str _=>true|.str _,.non=>true
 | .int _,.int _=>true|.bl _,.bl _=>true|.str _,.str _=>true|.byt _,.byt _=>true
 | .int _,.str _=>true|.str _,.int _=>true|.bl _,.str _=>true|.str _,.bl _=>true
 |_,_=>false
def rEq:R2:=fun x y H Q=>P3 x y=true/\Q (.bl<|decide (x=y)) H
def rNe:R2:=fun x y H Q=>P3 x y=true/\Q (.bl<|!decide (x=y)) H
theorem Fy {i j:Int}:decide (V.int i=V.int j)=(i==j):=by
 rw[ZS];simp
theorem Kt {i j:Bool}:decide (V.bl i=V.bl j)=(i==j):=by
 rw[ZS];simp
theorem Fz {i j:Str}:decide (V.str i=V.str j)=(i==j):=by
 rw[ZS];simp
theorem Fx {i j:Array UInt8}:decide (V.byt i=V.byt j)=(i.toList==j.toList):=by
 rw[ZS];cases i;cases j;simp
theorem z9 {Q:VK}{k b:Bool}(I:Inv X Do σ H s)(q:Q (.bl k) H)(e:k=b):EP X Do σ Q (.bool b) s:=by
 subst e;exact⟨.bl k,H,I,rfl,q⟩
theorem xB:Cj X (EJ .Eq) rEq:=by
 intro f s g H x y v u Q I e b h;obtain⟨d,q⟩:=h;cases x with
 |non =>
  cases e;cases y with
  |non=>cases b;exact PySem.EqNone.eq_none_none (z9 I q<|by simp)
  |bl j=>cases b;exact PySem.EqNone.eq_none_bool (z9 I q<|by simp)
  |int j=>obtain⟨c,rfl⟩:=b;exact PySem.EqNone.eq_none_int (z9 I q<|by simp)
  |str j=>obtain⟨c,rfl⟩:=b;exact PySem.EqNone.eq_none_str (z9 I q<|by simp)
  |_=>exact absurd (show false=true from d) Zs
 |bl i =>
  cases e;cases y with
  |non=>cases b;exact PySem.EqNone.eq_bool_none (z9 I q<|by simp)
  |bl j=>cases b;exact eq_bool<|z9 I q Kt
  |str j=>obtain⟨c,rfl⟩:=b;exact PySem.EqMixed.eq_bool_str (z9 I q<|by simp)
  |_=>exact absurd (show false=true from d) Zs
 |int i =>
  obtain⟨t,rfl⟩:=e;cases y with
  |non=>cases b;exact PySem.EqNone.eq_int_none (z9 I q<|by simp)
  |int j=>obtain⟨c,rfl⟩:=b;exact eq_int<|z9 I q Fy
  |str j=>obtain⟨c,rfl⟩:=b;exact PySem.EqMixed.eq_int_str (z9 I q<|by simp)
  |_=>exact absurd (show false=true from d) Zs
 |str i =>
  obtain⟨t,rfl⟩:=e;cases y with
  |non=>cases b;exact PySem.EqNone.eq_str_none (z9 I q<|by simp)
  |bl j=>cases b;exact PySem.EqMixed.eq_str_bool (z9 I q<|by simp)
  |int j=>obtain⟨c,rfl⟩:=b;exact PySem.EqMixed.eq_str_int (z9 I q<|by simp)
  |str j=>obtain⟨c,rfl⟩:=b;exact eq_str<|z9 I q Fz
  |_=>exact absurd (show false=true from d) Zs
 |byt i =>
  obtain⟨t,rfl⟩:=e;cases y with
  |byt j=>obtain⟨c,rfl⟩:=b;exact PySem.W.eq_bytes<|z9 I q Fx
  |_=>exact absurd (show false=true from d) Zs
 |_=>cases y<;>exact absurd (show false=true from d) Zs
theorem K6:Cj X (EJ .NotEq) rNe:=by
 intro f s g H x y v u Q I e b h;obtain⟨d,q⟩:=h;cases x with
 |non =>
  cases e;cases y with
  |non=>cases b;exact PySem.EqNone.ne_none_none (z9 I q<|by simp)
  |bl j=>cases b;exact PySem.EqNone.ne_none_bool (z9 I q<|by simp)
  |int j=>obtain⟨c,rfl⟩:=b;exact PySem.EqNone.ne_none_int (z9 I q<|by simp)
  |str j=>obtain⟨c,rfl⟩:=b;exact PySem.EqNone.ne_none_str (z9 I q<|by simp)
  |_=>exact absurd (show false=true from d) Zs
 |bl i =>
  cases e;cases y with
  |non=>cases b;exact PySem.EqNone.ne_bool_none (z9 I q<|by simp)
  |bl j=>cases b;exact ne_bool<|z9 I q<|congrArg not Kt
  |str j=>obtain⟨c,rfl⟩:=b;exact PySem.EqMixed.ne_bool_str (z9 I q<|by simp)
  |_=>exact absurd (show false=true from d) Zs
 |int i =>
  obtain⟨t,rfl⟩:=e;cases y with
  |non=>cases b;exact PySem.EqNone.ne_int_none (z9 I q<|by simp)
  |int j=>obtain⟨c,rfl⟩:=b;exact ne_int<|z9 I q<|congrArg not Fy
  |str j=>obtain⟨c,rfl⟩:=b;exact PySem.EqMixed.ne_int_str (z9 I q<|by simp)
  |_=>exact absurd (show false=true from d) Zs
 |str i =>
  obtain⟨t,rfl⟩:=e;cases y with
  |non=>cases b;exact PySem.EqNone.ne_str_none (z9 I q<|by simp)
  |bl j=>cases b;exact PySem.EqMixed.ne_str_bool (z9 I q<|by simp)
  |int j=>obtain⟨c,rfl⟩:=b;exact PySem.EqMixed.ne_str_int (z9 I q<|by simp)
  |str j=>obtain⟨c,rfl⟩:=b;exact ne_str<|z9 I q<|congrArg not Fz
  |_=>exact absurd (show false=true from d) Zs
 |byt i =>
  obtain⟨t,rfl⟩:=e;cases y with
  |byt j=>obtain⟨c,rfl⟩:=b;exact PySem.W.ne_bytes<|z9 I q<|congrArg not Fx
  |_=>exact absurd (show false=true from d) Zs
 |_=>cases y<;>exact absurd (show false=true from d) Zs
theorem PP:Cj X (EJ .Lt) (uK fun i j=>.bl<|decide (i<j)):=OP fun _ _ _ _ _ _ _ q=>lt_int q
theorem FP:Cj X (EJ .LtE) (uK fun i j=>.bl<|decide (i<=j)):=OP fun _ _ _ _ _ _ _ q=>le_int q
theorem PN:Cj X (EJ .Gt) (uK fun i j=>.bl<|decide (j<i)):=OP fun _ _ _ _ _ _ _ q=>gt_int q
theorem OR:Cj X (EJ .Is) (fun x y H Q=>y=.non/\Q (.bl<|decide (x=.non)) H):=by
 intro d s e H x y v u Q I b c h;obtain⟨rfl,q⟩:=h;cases c;refine is_none_gen<|z9 I q ?_;cases x<;>first
  |(cases b;rfl)
  |(obtain⟨t,rfl⟩:=b;rfl)
theorem GN:Cj X (EJ .IsNot) (fun x y H Q=>y=.non/\Q (.bl<|!decide (x=.non)) H):=by
 intro d s e H x y v u Q I b c h;obtain⟨rfl,q⟩:=h;cases c;refine isnot_none_gen<|z9 I q ?_;cases x<;>first
  |(cases b;rfl)
  |(obtain⟨t,rfl⟩:=b;rfl)
theorem zR (b:EK){op:CmpOp}(h:op≠.In:=by decide)(e:op≠.NotIn:=by decide):behindInMarks op b=false:=by
 have c:(op==CmpOp.In)=false:=by cases op<;>first|rfl|exact absurd rfl h
 have d:(op==CmpOp.NotIn)=false:=by cases op<;>first|rfl|exact absurd rfl e
 cases b<;>simp[behindInMarks,c,d]
theorem yO {op:CmpOp}(f:Cj X (EJ op) r)(ha:PE X a ta)(hb:PE X b tb)(hm:behindInMarks op b=false):PE X (.Compare a [op] [b] pos) (Po r ta tb):=by
 intro c s l H Q I h;exact wpAny_Compare1 (Ov ha hb I h fun v u j x y d e g i q=>f c j l d x y v u Q e g i q) hm
inductive ug (x:V)(H:Hp)(Q:Bool->Hp->Prop):Prop
 |mk (k:Bool) (e:x=.bl k) (q:Q k H):ug x H Q
def Oj (t:TE):TT:=fun c H Q=>t c H fun x b=>ug x b Q
theorem zO {op:CmpOp}(p:Cj X (EJ op) r)(ha:PE X a ta)(hb:PE X b tb)(hm:behindInMarks op b=false):PT X (.Compare a [op] [b] pos) (Oj<|Po r ta tb):=by
 intro d s f H Q I h;refine wpAny_isTrue_Compare1 (Cb (ha d s f H _ I h) fun v D ⟨x,g,l,A,q⟩=>Cb (hb d D f g _ l q) fun u E ⟨y,i,n,B,t⟩ => Cb (p d E f i x y v u _ n A B t) fun c F hh=>?_) hm;obtain⟨z,j,o,C,k,e,w⟩:=hh
 subst e;cases C;exact Yo ⟨j,o,w⟩
def O2 (r g:R2)(ta tb tc:TE):TE:=fun b H Q=>ta b H fun x d=>tb b d fun y e=>r x y e fun z c=>∃k,z=.bl k /\
 (if k=true then tc b c fun i f=>g y i f Q else Q (.bl false) c)
theorem Ia {op f:CmpOp}(E:Cj X (EJ op) r)(j:Cj X (EJ f) r')(ha:PE X a ta)(hb:PE X b tb)(D:PE X c tc)
  (hm:lastMarks [op,f] [b,c]=false:=by with_unfolding_all rfl):PE X (.Compare a [op,f] [b,c] pos) (O2 r r' ta tb tc):=by
 intro g s i H Q I h;refine Compare_chain (Cb (ha g s i H _ I h) fun v N ⟨x,q,A,K,F⟩=>chain_link<|Cb (hb g N i q _ A F) fun u O ⟨y,t,B,p,G⟩ => Cb (E g O i t x y v u _ B K p G) fun d P hh=>?_) hm;obtain⟨z,l,n,L,k,e,o⟩:=hh
 subst e;cases L;refine Yo ?_;cases k with
 |false=>exact ite_ff ⟨.bl false,l,n,rfl,o⟩
 |true=>exact ite_tt<|chain_last<|Cb (D g P i l _ n o) fun S R ⟨T,w,C,M,J⟩=>j g R i w y T u S Q C p M J
def Ot (K:Ca)(x:V)(H:Hp)(k:Bool):Prop :=
 match x with
 | .non=>k=false
 | .bl b=>k=b
 | .int i=>k=(i !=0)
 | .str y=>y.length<=sizeLine/\k=((y.length:Int) !=0)
 | .byt y=>y.size<=sizeLine/\k=((y.size:Int) !=0)
 | .ref p=>(∃c,WP K H p c/\k=!c.isEmpty)\/(∃c,Wu K H p c/\k=!c.isEmpty)\/∃d,H p=some (.dK d)/\k=!d.isEmpty
 |_=>False
theorem CI {κ:Type}{b:List (κ×V)}{vs:List (κ×Ej)}(r:KV b vs):(!vs.isEmpty)=!b.isEmpty:=by
 cases r<;>rfl
theorem Xq (r:W2 xs its):(!its.toArray.isEmpty)=!xs.isEmpty:=by
 cases r<;>simp
theorem UM:(sizeLine:Nat)<2 ^ 63:=by rw[Ya];decide
theorem Pb:Rr X (fun x H Q=>∃k,Ot X.K x H k/\Q k H):=by
 intro B s D H x v Q I g h;obtain⟨k,e,q⟩:=h;have hl:=UM;have C:sizeLine=16777216:=Ya;cases x with
 |non =>
  cases g;have c:k=false:=e;subst c;exact truthy_none ⟨H,I,q⟩
 |bl b =>
  cases g;have c:k=b:=e;subst c;exact Yo ⟨H,I,q⟩
 |int i =>
  obtain⟨t,rfl⟩:=g;have c:k=(i !=0):=e;subst c;exact PySem.P.truthy_int ⟨H,I,q⟩
 |str y =>
  obtain⟨t,rfl⟩:=g;obtain⟨A,c⟩:y.length<=sizeLine/\k=((y.length:Int) !=0):=e;subst c;exact PySem.P.truthy_str (by omega) ⟨H,I.tok _,q⟩
 |byt y =>
  obtain⟨t,rfl⟩:=g;obtain⟨A,c⟩:y.size<=sizeLine/\k=((y.size:Int) !=0):=e;subst c;exact PySem.W.truthy_bytes (by omega) ⟨H,I.tok _,q⟩
 |ref p =>
  cases g;have c:(∃d,WP X.K H p d/\k=!d.isEmpty)\/(∃d,Wu X.K H p d/\k=!d.isEmpty)\/∃f,H p=some (.dK f)/\k=!f.isEmpty:=e
  rcases c with⟨d,hx,c⟩|⟨d,hx,c⟩|⟨f,hx,c⟩
  ·subst c;obtain⟨l,r,n,u⟩:=I.list hx;have o:=r.length;exact wpAny_truthy_list n.isList (by simp only[Zn];omega) ⟨H,I.tok _,by rw[Xq r];exact q⟩
  ·subst c;obtain⟨l,r,n,u⟩:=I.tuple hx;have o:=r.length;exact truthy_tuple n (by simp only[Zn];omega) ⟨H,I.tok _,by rw[Xq r];exact q⟩
  ·subst c;obtain⟨u,z,j,r,m⟩:f.length<=sizeLine/\(p==EL)=false/\∃j,KV f j/\s.heap.DictOf (zU X.prog X.w) p j:=I.hok p _ hx;have o:f.length=j.length:=Paired.length r;exact wpAny_truthy_dict z m (by omega) ⟨H,I.tok _,by rw[CI r];exact q⟩
 |_=>exact(show False from e).elim
theorem MA (ha:PE X a ta)(e:∀whole,isTrue a X.env whole=(do let v ←whole;standAt a.pos;Mp [v] (truthy v))) :
  PT X a (fun σ H Q=>ta σ H fun x H'=>∃k,Ot X.K x H' k/\Q k H'):=by
 intro b s σ H Q I h;exact isTrue_plain (Cb (ha b s σ H _ I h) fun v i ⟨x,c,d,g,f⟩=>Pb b i σ c x v Q d g f) (e _)
theorem yQ:Cj X (binaryOp .Add) (fun x y H Q=>∃i j,x=.str i/\y=.str j/\i.length+j.length<=sizeLine/\Q (.str<|i++j) H):=by
 intro f s l H x y v u Q I c d h;obtain⟨i,j,rfl,rfl,b,q⟩:=h;obtain⟨t,rfl⟩:=c;obtain⟨e,rfl⟩:=d;exact add_str (fun e g=>⟨.str<|i++j,H,I.tok _,⟨_,rfl⟩,q⟩) b
theorem Wl {x:V}(r:W2 [x] us):∃u,us=[u]/\WX x u:=by
 cases r with
 |cons r1 r2=>cases r2;exact⟨_,rfl,r1⟩
theorem vals2 {x y:V}(r:W2 [x,y] us):∃u w',us=[u,w']/\WX x u/\WX y w':=by
 cases r with
 |cons r1 r2 =>
  cases r2 with
  |cons r3 r4=>cases r4;exact⟨_,_,rfl,r1,r3⟩
theorem Hq (c:X.calm=true):Wz X (.builtin "max") (fun xs H Q=>∃i j,xs=[.int i,.int j]/\Q (.int<|if j>i then j else i) H):=by
 intro d s o H xs l Q I r h;obtain⟨i,j,rfl,q⟩:=h;obtain⟨u,n,rfl,⟨t,rfl⟩,⟨f,rfl⟩⟩:=vals2 r;refine max_two_ints (I.ok.hd c) fun e g k=>⟨_,H,I.kept k,?_,q⟩
 by_cases b:j>i
 ·rw[Zp b,Zp b];exact⟨_,rfl⟩
 ·rw[Zm b,Zm b];exact⟨_,rfl⟩
theorem Hr (c:X.calm=true):Wz X (.builtin "min") (fun xs H Q=>∃i j,xs=[.int i,.int j]/\Q (.int<|if j<i then j else i) H):=by
 intro d s o H xs l Q I r h;obtain⟨i,j,rfl,q⟩:=h;obtain⟨u,n,rfl,⟨t,rfl⟩,⟨f,rfl⟩⟩:=vals2 r;refine min_two_ints (I.ok.hd c) fun e g k=>⟨_,H,I.kept k,?_,q⟩
 by_cases b:j<i
 ·rw[Zp b,Zp b];exact⟨_,rfl⟩
 ·rw[Zm b,Zm b];exact⟨_,rfl⟩
theorem Hl:Wz X (.type "int") (fun xs H Q=>(∃i,xs=[.int i]/\Q (.int i) H)\/∃k,xs=[.bl k]/\Q (.int<|if k then 1 else 0) H):=by
 intro c s e H xs d Q I r h
 rcases h with⟨i,rfl,q⟩|⟨k,rfl,q⟩
 ·obtain⟨u,rfl,t,rfl⟩:=Wl r;exact call_int_int ⟨.int i,H,I,⟨_,rfl⟩,q⟩
 ·obtain⟨u,rfl,b⟩:=Wl r;cases b;exact call_int_bool ⟨.int<|if k then 1 else 0,H,I.tok _,⟨_,rfl⟩,q⟩
theorem xZ:Wz X (.type "str") (fun xs H Q=>∃i,xs=[.int i]/\i.natAbs.log2<1920/\Q (.str<|toString i) H):=by
 intro c s e H xs d Q I r h;obtain⟨i,rfl,b,q⟩:=h;obtain⟨u,rfl,t,rfl⟩:=Wl r;exact PySem.P.str_of_int b ⟨.str _,H,I.tok _,⟨_,rfl⟩,q⟩
theorem BS:Wz X (.builtin "ord") (fun xs H Q=>∃x,xs=[.str x]/\x.length=1/\Q (.int (x.cps.getD 0 0:Nat)) H):=by
 intro c s e H xs d Q I r h;obtain⟨x,rfl,b,q⟩:=h;obtain⟨u,rfl,t,rfl⟩:=Wl r;exact ord_of_one b ⟨.int _,H,I.tok _,⟨_,rfl⟩,q⟩
end
structure wB (h:EC)(x dx C:Ei)(mA:Str->Dc):Prop where
 obj:h.get? x=some (Lk C dx)
 ns:h.Ns1 dx mA
 ne:dx≠x
theorem HL {h:EC}{b:Ei}{d:Str->Dc}(n:h.Ns1 b d):∃od,h.get? b=some od/\∀name,PySem.W.lookIn name od=some (d name):=by
 obtain⟨o,c,l,i,hd,hk,_,hm⟩:=n;refine⟨o,i,fun name=>?_⟩;have e:=hm name;unfold nsFind findBy at e;rw[←Array.find?_toList]at e;unfold PySem.W.lookIn;rw[hd];dsimp only
 split
 ·rename_i y q;rw[q]at e;exact congrArg some e
 ·rename_i q;rw[q]at e;have a:c.toList.any (·.refKey)=false:=by
   rw[Vn];intro y j;obtain⟨z,t,f⟩:=hk y<|Array.mem_toList_iff.mp j;simp[DictEntry.refKey,f]
  have g:¬c.toList.any (·.refKey)=true:=by rw[a];exact Zs
  rw[Zm g];exact congrArg some e
theorem wB.look (I:wB h x dx C mA):∃od,PySem.W.InstAt h x (Lk C dx) C (some od)/\∀name,PySem.W.lookIn name od=some (mA name) :=
 let ⟨od,ho,hl⟩:=HL I.ns
 ⟨od,⟨I.obj,rfl,rfl,ho⟩,hl⟩
section
variable {prog:Ek}{w:Ep}{A:ED}{E:Ej->Di}{s:Eo}{K:Ca}{x dx C f:Ei}{mA:Str->Dc}{name:Str}{v:Ej}
theorem Nj {b:Bool}{Q:Ej->Di}(X:K.In s.heap)(I:wB s.heap x dx C mA)(d:Lv K C name=true)(e:LJ K C=true)
  (ha:EI K (.ref C) name=some none) (hv:mA name=some v) (c:PySem.W.handedIn v=true) (h:Q v { s with toks:=s.toks+1 }) :
  Em (Et prog w) A (getAttr (.ref x) name b) Q E s:=by
 obtain⟨f,J,hl⟩:=I.look;exact PySem.W.get_value X J (Vc d).1 (PySem.W.findObj_own e ha rfl<|by rw[hl,hv]) c h
theorem KA {pl:Sem Bool}{Q:Ej×Db->Di}(X:K.In s.heap)(I:wB s.heap x dx C mA)(b:Lv K C name=true)
  (c:EI K (.ref C) name=some (some<|.ref f)) (d:Mi K (.ref f)=true) (hv:mA name=none) (h:Q (.ref f,[.ref x]) s) :
  Em (Et prog w) A (Ml (.ref x) name pl) Q E s:=by
 obtain⟨e,J,hl⟩:=I.look;exact PySem.W.method_fn X J (Vc b).1 (Vc b).2 c (Jo.mp d) (by show(PySem.W.lookIn name e).map (·.isSome)=some false;rw[hl,hv];rfl) h
theorem NV {ns:Da}{Q:Unit->Di}(X:K.In s.heap)(I:wB s.heap x dx C mA)
  (hs:EI K (.ref C) "__setattr__"=some (some<|.builtin "object.__setattr__")) (p:L4 K C=true) (q:PySem.W.takerIn K C name=some none) (o:LJ K C=true)
  (t:PySem.Within mA ns) (hsz:ns.length<=sizeLine)
  (h:∀h',wB h' x dx C (fun y=>if y=name then some v else mA y)->E6 dx s.heap h'->Q () { s with heap:=h',toks:=s.toks+2 }) :
  Em (Et prog w) A (setAttr (.ref x) name v) Q E s:=by
 obtain⟨D,J,hl⟩:=I.look;refine PySem.W.set_plain X J hs<|PySem.W.osa_open (s:={ s with toks:=s.toks+1 }) (r:=none) X J p q fun b=>?_;obtain⟨z,n,f⟩:=PySem.W.any_some o;have u:s.heap.get? x=some ⟨.ref C,some dx,.plain,#[]⟩:=I.obj;refine Q4<|Q7<|Q4<|Q4<|wpAny_loadPart u<|Q4<|PySem.W.Looks.here (s:={ s with toks:=s.toks+1 }) (PySem.W.looks_clsIn X n) ?_;rw[f];refine Q7 (a:=some dx)<|Q4<|Q7<|Q4 ?_;refine wpAny_nsSet1 (s:={ s with toks:=s.toks+1 }) I.ns fun h' c d=>?_;obtain⟨B,l,j,i,g,e⟩:=c.count<|PySem.Within.cons name v t;refine Q4 (wpAny_lookBehind i (by rw[g];exact pastItsLine_dict<|Yc e (by rw[ZF];omega)) ?_);exact Q7<|h _ ⟨(d.2 _<|EE I.ne).trans I.obj,c,I.ne⟩ d
theorem KR {R:Result->Di}{vs:Db}{b:List (Str×Ej)}(X:K.In s.heap)(hm:LS K C=true)
  (e:EI K (.ref C) "__init__"=some (some<|.ref f)) (c:PySem.W.typeIn K (.ref f)=some (.type "function"))
  (h:Ls (Et prog w) (A.under<|.builtin "type.__call__" ⟨.ref C::vs,b⟩) (.call (.ref f) ⟨.ref (s.heap.objs.size+1)::vs,b⟩) (PySem.W.InitBack (s.heap.objs.size+1) R) { s with heap:=(s.heap.push E1).push (Lk C s.heap.objs.size) }) :
  Ls (Et prog w) A (.call (.ref C) ⟨vs,b⟩) R s:=by
 obtain⟨i,g,d,t,os⟩:=s;exact PySem.W.make_core (PySem.W.makes_of X hm) (PySem.W.looks_findIn X e) (fun self=>PySem.W.bind_fn X self c) (.inl rfl) h
end
def V7 (f:Str)(v:V):List (Str×V)->List (Str×V)
 |[]=>[(f,v)]
 |(g,x)::r=>if g=f then(g,v)::r else(g,x)::V7 f v r
theorem US (f g:Str)(v:V):∀fs:List<|Str×V,(V7 f v fs).lookup g=if g=f then some v else fs.lookup g
 |[]=>by
  show Lz g [(f,v)]=_
  by_cases h:g=f
  ·have hb:(g==f)=true:=Jo.mpr h;simp only[Lz,hb,Zp h]
  ·have hb:(g==f)=false:=Yi.mpr h;simp only[Lz,hb,Zm h]
 |(k,x)::r=>by
  have b:=US f g v r;rw[show V7 f v ((k,x)::r)=(if k=f then(k,v)::r else(k,x)::V7 f v r) from rfl]
  by_cases hk:k=f
  ·rw[Zp hk]
   by_cases h:g=k
   ·have hb:(g==k)=true:=Jo.mpr h;simp only[Lz,hb,Zp<|h.trans hk]
   ·have hb:(g==k)=false:=Yi.mpr h;simp only[Lz,hb,Zm (fun e:g=f=>h<|e.trans hk.symm)]
  ·rw[Zm hk]
   by_cases h:g=k
   ·have hb:(g==k)=true:=Jo.mpr h;simp only[Lz,hb,Zm (fun e:g=f=>hk<|h.symm.trans e)]
   ·have hb:(g==k)=false:=Yi.mpr h;simp only[Lz,hb];exact b
theorem UF (f:Str)(v:V):∀fs:List<|Str×V,f∈(V7 f v fs).map (·.1)/\∀g,g∈fs.map (·.1)->g∈(V7 f v fs).map (·.1)
 |[]=>⟨by simp[V7],fun g h=>by simp at h⟩
 |(k,x)::r=>by
  obtain⟨b,c⟩:=UF f v r;rw[show V7 f v ((k,x)::r)=(if k=f then(k,v)::r else(k,x)::V7 f v r) from rfl]
  by_cases hk:k=f
  ·rw[Zp hk];subst hk;exact⟨by simp,fun g h=>by simpa using h⟩
  ·rw[Zm hk];refine⟨?_,fun g h=>?_⟩
   ·rw[ZJ];exact Zi _ b
   ·rw[ZJ]at h ⊢
    rcases Za.mp h with e|e
    ·exact Za.mpr (.inl e)
    ·exact Zi _ (c g e)
theorem UZ (f:Str)(v:V):∀fs:List<|Str×V,(V7 f v fs).length<=fs.length+1
 |[]=>by simp[V7]
 |(k,x)::r=>by
  have b:=UZ f v r;rw[show V7 f v ((k,x)::r)=(if k=f then(k,v)::r else(k,x)::V7 f v r) from rfl]
  by_cases hk:k=f
  ·rw[Zp hk,ZF,ZF];omega
  ·rw[Zm hk,ZF,ZF];omega
theorem Tv.some_of {v:V}(r:Tv (some v) o):∃u,o=some u/\WX v u:=by
 cases o with
 |none=>exact(show False from r).elim
 |some u=>exact⟨u,rfl,r⟩
theorem Tv.none_of (r:Tv none o):o=none:=by
 cases o with
 |none=>rfl
 |some u=>exact(show False from r).elim
theorem HE (r:WX v u):PySem.W.handedIn u=true:=by
 cases v with
 |non=>cases(show u=EA from r);rfl
 |bl b=>cases(show u=LA b from r);rfl
 |int i=>obtain⟨t,e⟩:=(show∃t,u=Value.int i t from r);cases e;rfl
 |str x=>obtain⟨t,e⟩:=(show∃t,u=Ma x t from r);cases e;rfl
 |byt b=>obtain⟨t,e⟩:=(show∃t,u=Value.bytes b t from r);cases e;rfl
 |flt b=>obtain⟨t,e⟩:=(show∃t,u=Value.float b t from r);cases e;rfl
 |ref a=>cases(show u=Ev a from r);rfl
 |ty n=>cases(show u=Value.type n from r);rfl
section
variable {P:Ek}{w:Ep}{H H':Hp}{h h':EC}{a C dx:Ei}{fs fs':List (Str×V)}
theorem Xf (hok:Td P w H h)(e:H a=some (.ins C dx fs)):∃mA,wB h a dx C mA/\(∀f,Tv (fs.lookup f)<|mA f)/\PySem.Within mA (fs.map (·.1))/\fs.length<=1000/\H dx=some (.own a):=by
 obtain⟨d,z,ne,ob,mA,n,r,q⟩:=(show WT P w H h a (.ins C dx fs) from hok a _ e);exact⟨mA,⟨ob,n,ne⟩,r,q,z,d⟩
end
structure Cls (K:Ca)(C:Ei):Prop where
 pg:Lv K C LU=true
 hd:LJ K C=true
 po:L4 K C=true
 sa:EI K (.ref C) "__setattr__"=some (some<|.builtin "object.__setattr__")
theorem Cls.get {K:Ca}(c:Cls K C)(f:Str):Lv K C f=true:=c.pg
def Wc (K:Ca)(C:Ei)(f:Str):Prop:=EI K (.ref C) f=some none
theorem Wc.taker {K:Ca}(n:Wc K C f):PySem.W.takerIn K C f=some none:=by
 unfold PySem.W.takerIn;rw[show EI K (.ref C) f=some none from n];rfl
structure Meth (K:Ca)(C:Ei)(m:Str)(f:Ei):Prop where
 at_:EI K (.ref C) m=some (some<|.ref f)
 fn:Mi K (.ref f)=true
 kp:ES K (.ref f)=true
section
variable {X:Cx}{Do:Df}{σ:St}{H:Hp}{s:Eo}{a C dx:Ei}{fs:List (Str×V)}{f:Str}{v:V}{A:ED}{E:Ej->Di}
theorem CF {b:Bool}{Q:Ej->Di}(I:Inv X Do σ H s)(e:H a=some (.ins C dx fs))(c:Cls X.K C)(n:Wc X.K C f)(l:fs.lookup f=some v)
  (h:∀u s',Inv X Do σ H s'->WX v u->Q u s'):Em (Et X.prog X.w) A (getAttr (.ref a) f b) Q E s:=by
 obtain⟨i,O,r,_,_,_⟩:=Xf I.hok e;obtain⟨u,g,d⟩:=Tv.some_of (v:=v) (o:=i f) (by rw[←l];exact r f);exact Nj I.Tn O (c.get f) c.hd n g (HE d)<|h u _ (I.tok _) d
theorem kC {pl:Sem Bool}{Q:Ej×Db->Di}(I:Inv X Do σ H s)(e:H a=some (.ins C dx fs))(c:Cls X.K C)(k:Meth X.K C m g)(l:fs.lookup m=none)
  (h:Q (.ref g,[.ref a]) s):Em (Et X.prog X.w) A (Ml (.ref a) m pl) Q E s:=by
 obtain⟨b,O,r,_,_,_⟩:=Xf I.hok e;have hn:b m=none:=Tv.none_of (by rw[←l];exact r m);exact KA I.Tn O (c.get m) k.at_ k.fn hn h
theorem Fd {Q:Unit->Di}(I:Inv X Do σ H s)(e:H a=some (.ins C dx fs))(c:Cls X.K C)(n:Wc X.K C f)(hl:fs.length<1000)(D:WX y u)
  (h:∀s',Inv X Do σ (upd H a<|.ins C dx<|V7 f y fs) s'->Q () s'):Em (Et X.prog X.w) A (setAttr (.ref a) f u) Q E s:=by
 obtain⟨j,O,r,l,_,i⟩:=Xf I.hok e;have v:(fs.map (·.1)).length<=sizeLine:=by rw[Q5,Ya];omega
 refine NV I.Tn O c.sa c.po n.taker c.hd l v fun p d B=>h _ ?_;have hd:∃o,p.get? dx=some o:=let ⟨o,_,_,e',_⟩:=d.ns;⟨o,e'⟩;refine I.write (x:=a) (e:=dx) (by rw[e];exact Lg) (.inr i) (fun b q hb z=>(B.2 b hb).trans z) hd ?_;refine⟨by rw[zI O.ne];exact i,?_,O.ne,d.obj,_,d.ns,fun g=>?_,fun g t=>?_⟩
 ·have:=UZ f y fs;omega
 ·show Tv ((V7 f y fs).lookup g) (if g=f then some u else j g);rw[US]
  by_cases q:g=f
  ·rwa[Zp q,Zp q]
  ·rw[Zm q,Zm q];exact r g
 ·by_cases q:g=f
  ·rw[q];exact(UF f y fs).1
  ·refine(UF f y fs).2 g (l g fun z=>t ?_);show(if g=f then some u else j g)=none;rwa[Zm q]
theorem Inv.made (I:Inv X Do σ H s):Inv X Do σ (upd (upd H s.heap.objs.size<|.own<|s.heap.objs.size+1) (s.heap.objs.size+1)<|.ins C s.heap.objs.size [])
  { s with heap:=(s.heap.push E1).push (Lk C s.heap.objs.size) }:=by
 have c:(s.heap.push E1).get? s.heap.objs.size=some PySem.W.emptyDict:=Zb s.heap rfl;have f:((s.heap.push E1).push<|Lk C s.heap.objs.size).get? (s.heap.objs.size+1)=some (Lk C s.heap.objs.size):=by
  have:=Zb (s.heap.push E1) (o:=Lk C s.heap.objs.size) rfl
  rwa[Z8]at this
 have g:(s.heap.push E1).Ns s.heap.objs.size (fun _=>none):=⟨E1,#[],_,c,rfl,(fun e i=>absurd i<|by simp),fun _=>rfl⟩;have d:=I.laid (a:=s.heap.objs.size) (o:=.own<|s.heap.objs.size+1) (h':=s.heap.push E1) (t':=s.toks) (fun b u q=>Q6 _ q) (Q9 _) ⟨_,c⟩;refine d.laid (a:=s.heap.objs.size+1) (o:=.ins C s.heap.objs.size []) (t':=s.toks) (fun b u q=>Q6 _ q) (Vd<|Z8 _ _) ?_;have ne:s.heap.objs.size≠s.heap.objs.size+1:=Zl<|YN _;refine⟨by rw[zI ne,zB],ZA _,ne,f,fun _=>none,(Heap.Ns1.of_empty g).at fun o q=>Q6 _ q,fun _=>Lg,fun y j=>absurd rfl j⟩
theorem Nc {prog:Ek}{w:Ep}{env:Env}{e:EK}{f:Str}{pos:Pos}{s:Eo}{Q:Ej->Di}(hb:Ll e f env (EZ e env)=EZ e env)
  (h:Em (Et prog w) A (EZ e env) (fun o s₁=>Em (Et prog w) A (getAttr o f true) Q E s₁) E s):Em (Et prog w) A (EZ (.Attribute e f pos) env) Q E s :=
 Attribute_any_ h (by rw[arm_eval_Attribute,hb])
end
def P9 (K:Ca)(d:TE)(f:Str):TE:=fun e H Q=>d e H fun x b=>∃a C c fs v,x=.ref a/\b a=some (.ins C c fs)/\Cls K C/\Wc K C f/\fs.lookup f=some v/\Q v b
def RN (K:Ca)(g i:TE)(f:Str):TS:=fun D b H=>i b H fun y e=>g b e fun x c=>∃a C d fs,x=.ref a/\c a=some (.ins C d fs)/\Cls K C/\Wc K C f/\fs.length<1000 /\
 D.nx b (upd c a<|.ins C d<|V7 f y fs)
section
variable {X:Cx}{o e value:EK}{f:Str}{pos DQ tpos:Pos}{ta tv:TE}
theorem yT (o:PE X e ta)(hb:Ll e f X.env (EZ e X.env)=EZ e X.env):PE X (.Attribute e f pos) (P9 X.K ta f):=by
 intro b s t H Q I h;refine Nc hb<|Cb (o b s t H _ I h) fun u y hh=>?_;obtain⟨x,d,g,r,a,C,w,fs,v,ex,j,c,n,l,q⟩:=hh;subst ex;obtain rfl:u=Ev a:=r;exact CF g j c n l fun A z i p=>⟨v,d,i,p,q⟩
theorem Xr (ha:PE X o ta)(hv:PE X value tv)(hs:Mb value (some<|.Attribute o f DQ) pos.line X.env=Ln false):PS X (.Assign [.Attribute o f DQ] value pos) (RN X.K ta tv f):=by
 intro d s b H D I h;refine plainObj_wpAny_Assign_Attribute (Cb (hv d s b H _ I h) fun u z ⟨y,e,g,w,q⟩=>Cb (ha d z b e _ g q) fun r E hh=>?_) hs;obtain⟨x,A,i,v,a,C,B,fs,ex,p,c,n,l,t⟩:=hh;subst ex;obtain rfl:r=Ev a:=v;exact Fd i p c n l w fun F j=>⟨b,_,j,t⟩
end
section
variable {X:Cx}{Do:Df}{σ:St}{H:Hp}{s:Eo}{A:ED}{E:Ej->Di}{Q:Ej->Di}{c:Ej}{b:Bool}
inductive Sh (K:Ca)(H:Hp):V->Ej->Prop where
 |non:Sh K H .non<|.type "NoneType"
 |bl (x:Bool):Sh K H (.bl x)<|.type "bool"
 |int (i:Int):Sh K H (.int i)<|.type "int"
 |str (x:Str):Sh K H (.str x)<|.type "str"
 |flt (x:UInt64):Sh K H (.flt x)<|.type "float"
 |lst {a:Ei} {xs:Dk} (e:H a=some (.lst xs)):Sh K H (.ref a)<|.type "list"
 |frz {a:Ei} {o:Obj} {xs:Dk} (e:H a=some (.frz o<|.lst xs)):Sh K H (.ref a)<|.type "list"
 |tup {a:Ei} {xs:Dk} (e:H a=some (.tup xs)):Sh K H (.ref a)<|.type "tuple"
 |dK {a:Ei} {Dm:Dl} (e:H a=some (.dK Dm)):Sh K H (.ref a)<|.type "dict"
 |dT {a:Ei} {Dm:List (List Key×V)} (e:H a=some (.dT Dm)):Sh K H (.ref a)<|.type "dict"
 |ins {a C dx:Ei} {fs:List (Str×V)} (e:H a=some (.ins C dx fs)) (cl:Cls K C) (ha:EI K (.ref C) "__class__"=some (some<|.builtin "object.__class__"))
   (hn:PySem.W.specialIn K (.builtin "object.__class__") "__get__"=some (some<|.builtin "getset_descriptor.__get__")) (htk:PySem.W.takesIn K (.builtin "object.__class__")=some true)
   (hm:PySem.W.mroIn K C (.type "object")=some true):Sh K H (.ref a)<|.ref C
theorem qM (I:Inv X Do σ H s)(d:WX x u)(ty:Sh X.K H x t)(e:EM X.K t c=some b)(h:∀tk,Q (.bool b) { s with toks:=tk }) :
  Em (Et X.prog X.w) A (call (.builtin "isinstance") [u,c]) Q E s:=by
 cases ty with
 |non=>cases(show u=EA from d);exact ZY PySem.W.kitx_none I.Tn Lg e (fun z=>nomatch z) h
 |bl y=>cases(show u=LA y from d);exact ZY PySem.W.kitx_bool I.Tn Lg e (fun z=>nomatch z) h
 |int i=>obtain⟨t,q⟩:=(show∃t,u=Value.int i t from d);cases q;exact ZY PySem.W.kitx_int I.Tn Lg e (fun z=>nomatch z) h
 |str y=>obtain⟨t,q⟩:=(show∃t,u=Ma y t from d);cases q;exact ZY PySem.W.kitx_str I.Tn Lg e (fun z=>nomatch z) h
 |flt y=>obtain⟨t,q⟩:=(show∃t,u=Value.float y t from d);cases q;exact ZY PySem.W.kitx_float I.Tn Lg e (fun z=>nomatch z) h
 | @lst a g ea =>
  cases(show u=Ev a from d);obtain⟨_,_,n,_,f⟩:=(show WT X.prog X.w H s.heap a (.lst g) from I.hok a _ ea);exact ZY Vo I.Tn ⟨_,f,rfl⟩ e (fun z=>nomatch z) h
 | @frz a ob g ea =>
  cases(show u=Ev a from d);obtain⟨_,_,_,n,_,f⟩:=(show WT X.prog X.w H s.heap a (.frz ob<|.lst g) from I.hok a _ ea);exact ZY Vo I.Tn ⟨_,f,rfl⟩ e (fun z=>nomatch z) h
 | @tup a g ea =>
  cases(show u=Ev a from d);obtain⟨_,_,_,p⟩:=(show WT X.prog X.w H s.heap a (.tup g) from I.hok a _ ea);obtain⟨o,f,j,_⟩:=p;exact ZY PySem.W.kitx_tuple I.Tn ⟨o,f,j⟩ e (fun z=>nomatch z) h
 | @dK a Dm ea =>
  cases(show u=Ev a from d);obtain⟨_,_,D,_,p⟩:=(show WT X.prog X.w H s.heap a (.dK Dm) from I.hok a _ ea);obtain⟨o,r,l,f,j,_⟩:=p;exact ZY Vp I.Tn ⟨o,f,j.1⟩ e (fun z=>nomatch z) h
 | @dT a Dm ea =>
  cases(show u=Ev a from d);obtain⟨_,_,g,_,o,r,l,f,j,_⟩:=(show WT X.prog X.w H s.heap a (.dT Dm) from I.hok a _ ea);exact ZY Vp I.Tn ⟨o,f,j.1⟩ e (fun z=>nomatch z) h
 | @ins a C dx fs ea cl ha hn htk hm =>
  cases(show u=Ev a from d);obtain⟨v,O,_⟩:=Xf I.hok ea;obtain⟨B,J,_⟩:=O.look;exact ZY (PySem.W.kitx_own (cl.get _) cl.hd ha hn htk hm) I.Tn J e (fun z=>nomatch z) h
end
structure Wy (k:Nat)(A:ED):Prop where
 hd:A.handled=none
 dp:A.depth+3*k+5<recursionLimit
 un:A.units+16*k+200<E4
theorem Wy.mono {j:Nat}(r:Wy k A)(h:j<=k):Wy j A:=⟨r.hd,by have:=r.dp;omega,by have:=r.un;omega⟩
theorem Wy.m {j:Nat}(r:Wy k A)(h:j<=k:=by decide):Wy j A:=r.mono h
theorem Wy.deeper {k:Nat}(r:Wy (k+1) A)(env:Env):Wy k (A.deeper env) :=
 ⟨r.hd,by have:=r.dp;show A.depth+1+3*k+5<_;omega,by have:=r.un;show A.units+3+16*k+200<_;omega⟩
theorem CQ {A:ED}{C:Ei}{us:Db}{b:List (Str×Ej)}:(A.under<|.builtin "type.__call__" ⟨.ref C::us,b⟩).depth=A.depth+1:=by
 first|rfl|simp[Around.under,Code.weight,Code.isCreation,Code.isGuard,Code.isCaller,Code.frames,Code.isFrame,guardIds]
theorem CS {A:ED}{C:Ei}{us:Db}{b:List (Str×Ej)}:(A.under<|.builtin "type.__call__" ⟨.ref C::us,b⟩).units=A.units+1:=by
 first|rfl|simp[Around.under,Code.cUnits,Code.frames,Code.isFrame]
theorem Wy.make {k:Nat}(r:Wy (k+1) A)(C:Ei)(us:Db)(b:List<|Str×Ej):Wy k (A.under<|.builtin "type.__call__" ⟨.ref C::us,b⟩) :=
 ⟨r.hd,by have:=r.dp;rw[CQ];omega,by have:=r.un;rw[CS];omega⟩
theorem Wy.depth (r:Wy k A):A.depth<recursionLimit:=by have:=r.dp;omega
theorem Wy.units (r:Wy k A):A.units+64<cLine:=by have:=r.un;omega
def UQ:TA:=fun _ H Q=>Q [] H
def Xy (e:TE)(f:TA):TA:=fun b H Q=>e b H fun x c=>f b c fun g d=>Q (x::g) d
section
variable {X:Cx}{e:EK}{es:List EK}{te:TE}{t:TA}{pos:Pos}
theorem zC:PA X [] UQ:=fun _ _ _ _ H Q I h=>L5 ⟨[],H,I,.nil,h⟩
theorem zA (ha:PE X e te)(j:PA X es t)(hs:EB (e::es) X.env=(false,EZ e X.env)::EB es X.env:=by rfl):PA X (e::es) (Xy te t):=by
 intro pos b s c H Q I h;rw[hs];show Em _ _ (spliced ((false,EZ e X.env)::Ld pos (EB es X.env))) _ _ s;refine LD<|Cb (ha b s c H _ I h) fun u q ⟨x,d,g,o,l⟩=>?_;exact Cb (j pos b q c d _ g l) fun w v ⟨r,f,i,p,n⟩=>⟨x::r,f,i,.cons o p,n⟩
inductive uH (o:Dk->HO)(Q:VK)(xs:Dk)(H1:Hp):Prop
 |mk (l:xs.length<=sizeLine) (q:∀p,H1 p=none->Q (.ref p) (upd H1 p<|o xs)):uH o Q xs H1
def Rg (t:TA):TE:=fun d H Q=>t d H fun c b=>uH .tup Q c b
def MX (t:TA):TE:=fun d H Q=>t d H fun c b=>uH .lst Q c b
theorem yI {x1}(h:PA X es t):PE X (.Tuple es x1 pos) (Rg t):=by
 intro g s o H Q I j;refine wpAny_Tuple_spliced (Cb (h pos g s o H _ I j) fun l c ⟨n,d,f,r,z,q⟩=>⟨by rw[←r.length];exact z,?_⟩);have i:d c.heap.objs.size=none:=f.hok.fresh<|Q9 _;refine⟨.ref c.heap.objs.size,upd d c.heap.objs.size<|.tup n,f.laid (t':=c.toks) (fun b u e=>Q6 _ e) (Q9 _) ?_,rfl,q _ i⟩;exact⟨z,l,r,TupAt.new _ _⟩
theorem y7 (h:PA X es t):PE X (.List es pos) (MX t):=by
 intro g s o H Q I j;refine wpAny_List_spliced (Cb (h pos g s o H _ I j) fun l c ⟨n,d,f,r,z,q⟩=>⟨by rw[←r.length];exact z,?_⟩);have i:d c.heap.objs.size=none:=f.hok.fresh<|Q9 _;refine⟨.ref c.heap.objs.size,upd d c.heap.objs.size<|.lst n,f.laid (t':=c.toks) (fun b u e=>Q6 _ e) (Q9 _) ?_,rfl,q _ i⟩;exact⟨z,l,0,r,Zb _ rfl⟩
end
abbrev Sp:=Dk->Hp->VK->XK->Prop
abbrev Ki:=List Env->Hp->Eo->XK->Ej->Di
structure yw (P:Ek)(w:Ep)(K:Ca)(mg:Str->Dc)(base:EC)(A:ED)(outer:List Env)(s:Eo)(H:Hp):Prop where
 frames:A.frames=some outer
 mod:Mod K mg base
 bs:∀b o,base.get? b=some o->s.heap.get? b=some o/\H b=none
 v6:base.objs.size<=s.heap.objs.size
 Tz:s.heap.FunFrames base outer
 vM:∀b∈frs outer,H b=none
 hok:Td P w H s.heap
 bare:Mh s.gens
def CE (outer:List Env)(P:Ek)(w:Ep)(H:Hp)(s:Eo)(Q:VK)(u:Ej)(b:Eo):Prop :=
 ∃v c,b.os=s.os/\Mh b.gens/\Un (frs outer) [] H c s.heap b.heap/\Td P w c b.heap/\WX v u/\Q v c
def CR (CX:Ki)(outer:List Env)(P:Ek)(w:Ep)(H:Hp)(s:Eo)(Q:VK)(E:XK)(r:Result)(b:Eo):Prop :=
 match r with
 | .ok (.ret u)=>CE outer P w H s Q u b
 | .ok _=>False
 | .error e=>CX outer H s E e b
structure W0 (P:Ek)(w:Ep)(K:Ca)(mg:Str->Dc)(base:EC)(CX:Ki)(k:Nat)(f:Ei)(fd:Es)(ps:Da)(sp:Sp):Prop where
 len:∀vs H Q E,sp vs H Q E->vs.length=ps.length
 run:∀(A:ED) (outer:List Env) (s:Eo) (H:Hp) (args:Args) (us:Db) (vs:Dk) (Q:VK) (E:XK),Wy k A->yw P w K mg base A outer s H->BindsTo s fd args (ps.zip us)->W2 vs us->sp vs H Q E ->
  Ls (Et P w) A (.call (.ref f) args) (CR CX outer P w H s Q E) s
theorem yw.make {K:Ca}(e:yw P w K mg base A outer s H)(C:Ei)(us:Db)(b:List<|Str×Ej) :
  yw P w K mg base (A.under<|.builtin "type.__call__" ⟨.ref C::us,b⟩) outer s H:=⟨by first|exact e.frames|(simpa[Around.under,Code.envs,Code.isFrame,pushEnvs] using e.frames),e.mod,e.bs,e.v6,e.Tz,e.vM,e.hok,e.bare⟩
section
variable {X:Cx}{Do:Df}{σ:St}{H:Hp}{s s':Eo}
theorem Inv.env0 (I:Inv X Do σ H s):yw X.prog X.w X.K X.mg X.base X.A X.stack s H :=
 ⟨I.ok.frames,I.ok.mod,I.bs,Yc I.ok.v6 I.sz,I.stack,I.SJ,I.hok,I.bare⟩
theorem Inv.after (I:Inv X Do σ H s)(h:CE X.stack X.prog X.w H s Q u s'):EP X Do σ Q u s':=by
 obtain⟨v,e,os,bare,un,hok,r,q⟩:=h;obtain⟨f,g,d,t,c⟩:=s';obtain rfl:c=s.os:=os;exact⟨v,e,I.call (h':=f) (g':=g) (d':=d) (t':=t) (ch:=[]) un hok bare<|fun b z=>absurd z<|by simp,r,q⟩
end
def MW (sp:Sp)(b:Dk)(E:XK)(t:TA):TE:=fun e H Q=>t e H fun d c=>sp (d++b) c Q E
inductive um (C:Ei)(m:Str)(sp:Sp)(dvs:Dk)(E:XK)(t:TA)(σ:St)(Q:VK)(x:V)(H1:Hp):Prop
 |mk (a dx:Ei) (fs:List<|Str×V) (e:x=.ref a) (h:H1 a=some (.ins C dx fs)) (n:fs.lookup m=none) (q:t σ H1 fun vs H2=>sp (x::(vs++dvs)) H2 Q E):um C m sp dvs E t σ Q x H1
def F9 (C:Ei)(m:Str)(sp:Sp)(b:Dk)(E:XK)(e:TE)(t:TA):TE:=fun c H Q=>e c H fun x d=>um C m sp b E t c Q x d
def F8 (C:Ei)(sp:Sp)(d:Dk)(E:XK)(t:TA):TE:=fun g H Q=>t g H fun f c=>∀x b,c x=none->c b=none->b≠x ->
 sp (.ref x::(f++d)) (upd (upd c b<|.own x) x<|.ins C b []) (fun v e=>v=.non/\Q (.ref x) e) E
def Wr (K:Ca)(d:Es)(ps:Da)(c:Db):Prop :=
 ∀(s:Eo) (b:Db),K.In s.heap->(b++c).length=ps.length->BindsTo s d ⟨b,[]⟩ (ps.zip<|b++c)
theorem Wr.all {K:Ca}{b:Es}{ps:Da}(h:∀us:Db,us.length=ps.length->bindArgs b ⟨us,[]⟩=Ln (ps.zip us)):Wr K b ps []:=fun s us _ hl=>by
 rw[YG]at hl ⊢;exact .of_eq<|h us hl
def kG (CX:Ki)(X:Cx)(E:XK):Prop:=∀(c:Df) (d:St) (H:Hp) (s:Eo) (e:Ej) (b:Eo),Inv X c d H s->CX X.stack H s E e b->X.xe e b
section
variable {X:Cx}{CX:Ki}{k:Nat}{f C:Ei}{fd:Es}{ps:Da}{sp:Sp}{dvs:Dk}{ds:Db}{E:XK}{x m:Str}{p pos Dq:Pos}{e o:EK}{es:List EK}{ta:TE}{t:TA}
theorem Fc {c:Df}{d:St}{H:Hp}{s:Eo}{Q:VK}{us:Db}{vs:Dk}(F:W0 X.prog X.w X.K X.mg X.base CX k f fd ps sp)(i:Wy k X.A)(hb:Wr X.K fd ps ds)(hd:W2 dvs ds)(j:kG CX X E)
  (I:Inv X c d H s) (r:W2 vs us) (h:sp (vs++dvs) H Q E):Em (Et X.prog X.w) X.A (call (.ref f) us) (EP X c d Q) X.xe s:=by
 have g:W2 (vs++dvs) (us++ds):=r.append hd;have hl:(us++ds).length=ps.length:=by rw[←g.length];exact F.len _ _ _ _ h
 refine JI<|Yy (F.run X.A X.stack s H ⟨us,[]⟩ (us++ds) (vs++dvs) Q E i I.env0 (hb s us I.Tn hl) g h) fun r l b=>?_;cases r with
 |error e=>exact j c d H s e l I b
 |ok fl =>
  cases fl with
  |ret u=>exact I.after b
  |next=>exact EH b
  |brk=>exact EH b
  |cont=>exact EH b
theorem NE (F:W0 X.prog X.w X.K X.mg X.base CX k f fd ps sp)(l:Wy k X.A)(j:Gl X x)(hm:X.mg x=some (.ref f))(hk:ES X.K (.ref f)=true)(hb:Wr X.K fd ps ds)(hd:W2 dvs ds)(n:kG CX X E)
  (ha:PA X (e::es) t) (b:(x==("__debug__":Str))=false:=by decide) (i:EB (e::es) X.env=(false,EZ e X.env)::EB es X.env:=by rfl) (c:(Ld pos<|EB es X.env).any (·.1)=false:=by rfl) :
  PE X (.Call (.Name x p) (e::es) [] pos) (MW sp dvs E t):=by
 intro g s o H Q I h;refine Ye<|qO I j hm ?_ b;refine YS (h₀:=X.base) I.ok.mod.vq hk (Cb (ha pos g s o H _ I h) fun y v ⟨z,u,d,r,q⟩=>⟨d.Tn,?_⟩) i c;exact Fc F l hb hd n d r q
theorem NK {pl:Sem Bool}(y:PE X o ta)(c:Cls X.K C)(hm:Meth X.K C m f)(F:W0 X.prog X.w X.K X.mg X.base CX k f fd ps sp)(z:Wy k X.A)(hb:Wr X.K fd ps ds)(hd:W2 dvs ds)(D:kG CX X E)(ha:PA X (e::es) t)
  (d:EB (e::es) X.env=(false,EZ e X.env)::EB es X.env:=by rfl) (b:(Ld pos<|EB es X.env).any (·.1)=false:=by rfl)
  (B:EZ (.Call (.Attribute o m Dq) (e::es) [] pos) X.env=(do
   let ov ←EZ o X.env
   standAt Dq.atName
   let (f,first) ←Mp [ov] (Ml ov m pl)
   callWith pos f first (Ld pos<|EB (e::es) X.env) (backToKw pos<|LV [] X.env)):=by rfl) :
  PE X (.Call (.Attribute o m Dq) (e::es) [] pos) (F9 C m sp dvs E ta t):=by
 intro g s n H Q I h;refine JW (pl:=pl) (Cb (y g s n H _ I h) fun u L hh=>?_) B;obtain⟨x,p,i,J,a,N,fs,ex,v,l,q⟩:=hh;subst ex;obtain rfl:u=Ev a:=J;refine kC i v c hm l ?_;refine YS (first:=[.ref a]) (h₀:=X.base) I.ok.mod.vq hm.kp (Cb (ha pos g L n p _ i q) fun us O ⟨vs,M,j,r,G⟩=>⟨j.Tn,?_⟩) d b;exact Fc (us:=.ref a::us) (vs:=.ref a::vs) F z hb hd D j (.cons rfl r) G
theorem Mu {pl:Sem Bool}(g:PE X o ta)(c:Cls X.K C)(hm:Meth X.K C m f)(F:W0 X.prog X.w X.K X.mg X.base CX k f fd ps sp)(i:Wy k X.A)(hb:Wr X.K fd ps ds)(hd:W2 dvs ds)(n:kG CX X E)
  (j:EZ (.Call (.Attribute o m Dq) [] [] pos) X.env=(do
   let ov ←EZ o X.env
   standAt Dq.atName
   let (f,first) ←Mp [ov] (Ml ov m pl)
   callWith pos f first (Ld pos<|EB [] X.env) (backToKw pos<|LV [] X.env)):=by rfl) :
  PE X (.Call (.Attribute o m Dq) [] [] pos) (F9 C m sp dvs E ta UQ):=by
 intro d s r H Q I h;refine JW (pl:=pl) (Cb (g d s r H _ I h) fun u y hh=>?_) j;obtain⟨x,t,b,p,a,v,fs,ex,e,l,q⟩:=hh;subst ex;obtain rfl:u=Ev a:=p;refine kC b e c hm l ?_;exact PySem.W.callWith_K0 (first:=[.ref a]) b.Tn hm.kp<|Fc (us:=[.ref a]) (vs:=[.ref a]) F i hb hd n b (.cons rfl .nil) q
structure Mk (K:Ca)(C f:Ei):Prop where
 makes:LS K C=true
 init:EI K (.ref C) "__init__"=some (some<|.ref f)
 fn:Mi K (.ref f)=true
 kp:ES K (.ref C)=true
theorem Bj {d:Df}{g:St}{H:Hp}{s:Eo}{Q:VK}{us:Db}{vs:Dk}(M:Mk X.K C f)(F:W0 X.prog X.w X.K X.mg X.base CX k f fd ps sp)(p:Wy (k+1) X.A)(hb:Wr X.K fd ps ds)(hd:W2 dvs ds)
  (q:kG CX X E) (I:Inv X d g H s) (r:W2 vs us)
  (h:∀x dx,H x=none->H dx=none->dx≠x->sp (.ref x::(vs++dvs)) (upd (upd H dx<|.own x) x<|.ins C dx []) (fun v H2=>v=.non/\Q (.ref x) H2) E) :
  Em (Et X.prog X.w) X.A (call (.ref C) us) (EP X d g Q) X.xe s:=by
 have i:=h (s.heap.objs.size+1) s.heap.objs.size (I.hok.fresh<|Ym _) (I.hok.fresh<|Q9 _)<|Zl<|YN _;have c:=Inv.made (C:=C) I;have j:W2 (V.ref (s.heap.objs.size+1)::(vs++dvs)) (Ev (s.heap.objs.size+1)::(us++ds)):=.cons rfl<|r.append hd;have hl:(Ev (s.heap.objs.size+1)::us++ds).length=ps.length:=by
  have e:=j.length;rw[F.len _ _ _ _ i]at e;exact e.symm
 refine JI<|KR (f:=f) I.Tn M.makes M.init (Jo.mp M.fn)<|Yy (F.run _ X.stack _ _ ⟨Ev (s.heap.objs.size+1)::us,[]⟩ (Ev (s.heap.objs.size+1)::(us++ds)) _ _ E (p.make C us []) (c.env0.make C us []) (hb _ (Ev (s.heap.objs.size+1)::us) c.Tn hl) j i) fun r z b=>?_
 cases r with
 |error e=>exact q d g _ _ e z c b
 |ok fl =>
  cases fl with
  |ret u =>
   obtain⟨v,l,n,y,o,t⟩:=c.after b;subst o;exact⟨y,⟨V.ref<|s.heap.objs.size+1,l,n,rfl,t⟩⟩
  |next=>exact EH b
  |brk=>exact EH b
  |cont=>exact EH b
theorem NJ (M:Mk X.K C f)(F:W0 X.prog X.w X.K X.mg X.base CX k f fd ps sp)(l:Wy (k+1) X.A)(j:Gl X x)(hm:X.mg x=some (.ref C))(hb:Wr X.K fd ps ds)(hd:W2 dvs ds)(n:kG CX X E)
  (ha:PA X (e::es) t) (b:(x==("__debug__":Str))=false:=by decide) (i:EB (e::es) X.env=(false,EZ e X.env)::EB es X.env:=by rfl) (c:(Ld pos<|EB es X.env).any (·.1)=false:=by rfl) :
  PE X (.Call (.Name x p) (e::es) [] pos) (F8 C sp dvs E t):=by
 intro g s o H Q I h;refine Ye<|qO I j hm ?_ b;refine YS (h₀:=X.base) I.ok.mod.vq M.kp (Cb (ha pos g s o H _ I h) fun y v ⟨z,u,d,r,q⟩=>⟨d.Tn,?_⟩) i c;exact Bj M F l hb hd n d r q
theorem Mt (M:Mk X.K C f)(F:W0 X.prog X.w X.K X.mg X.base CX k f fd ps sp)(d:Wy (k+1) X.A)(c:Gl X x)(hm:X.mg x=some (.ref C))(hb:Wr X.K fd ps ds)(hd:W2 dvs ds)(e:kG CX X E)
  (b:(x==("__debug__":Str))=false:=by decide):PE X (.Call (.Name x p) [] [] pos) (F8 C sp dvs E UQ):=by
 intro g s i H Q I h;refine Ye<|qO I c hm ?_ b;exact PySem.W.callWith_K0 I.Tn M.kp<|Bj (us:=[]) M F d hb hd e I .nil h
end
structure W7 (N P:Da)(sc:LI):Prop where
 kind:sc.kind=.function
 co:sc.isCoroutine=false
 gen:sc.isGenerator=false
 nd:N.Nodup
 pre:N.take P.length=P
 par:∀x∈P,sc.names.lookup x=some .local\/sc.names.lookup x=some .cell
 uG:∀y∈sc.names,y.2≠.free
theorem Cf {N P:Da}{sc:LI}(a:sc.kind=.function:=by rfl)(b:sc.isCoroutine=false:=by rfl)(c:sc.isGenerator=false:=by rfl)(d:N.Nodup:=by decide +kernel)(e:N.take P.length=P:=by rfl)(f:∀x∈P,sc.names.lookup x=some .local\/sc.names.lookup x=some .cell:=by decide +kernel)(g:∀y∈sc.names,y.2≠.free:=by decide +kernel):W7 N P sc:=⟨a,b,c,d,e,f,g⟩
theorem IO {kindOf:Str->Option LR}{x:Str}:∀{binds:List (Str×Ej)} {m:Str->Dc},(∀v,(x,v)∉binds)->bindL kindOf binds m x=m x
 |[],_,_=>rfl
 |(n,v)::r,m,h=>by
  unfold bindL;rw[IO fun w b=>h w<|Zi _ b]
  split
  ·have:x≠n:=by rintro rfl;exact h v Zj
   simp[this]
  ·rfl
theorem IA {kindOf:Str->Option LR}{x:Str}:∀{binds:List (Str×Ej)} {m:Str->Dc},(∀v,(x,v)∉binds)->bindC kindOf binds m x=m x
 |[],_,_=>rfl
 |(n,v)::r,m,h=>by
  unfold bindC;rw[IA fun w b=>h w<|Zi _ b]
  split
  ·rfl
  ·have:x≠n:=by rintro rfl;exact h v Zj
   simp[this]
theorem IQ {kindOf:Str->Option LR}{x:Str}{v:Ej}:∀{P:Da} {vs:Db} {i:Nat} {m:Str->Dc},P.Nodup->P[i]?=some x->vs[i]?=some v->kindOf x=some .local ->
  bindL kindOf (P.zip vs) m x=some v
 |[],_,_,_,_,h,_,_=>by simp at h
 |_::_,[],_,_,_,_,h,_=>by simp at h
 |p::P,w::vs,0,m,nd,h1,h2,hk=>by
  simp at h1 h2;subst h1;subst h2;show bindL kindOf ((p,w)::P.zip vs) m p=_;unfold bindL;rw[IO fun v hv=>(ZK.mp nd).1 (Ji hv).1,Zp hk];simp
 |p::P,w::vs,i+1,m,nd,h1,h2,hk=>by
  show bindL kindOf ((p,w)::P.zip vs) m x=_;unfold bindL;exact IQ (i:=i) (ZK.mp nd).2 (by simpa using h1) (by simpa using h2) hk
theorem II {kindOf:Str->Option LR}{x:Str}{v:Ej}:∀{P:Da} {vs:Db} {i:Nat} {m:Str->Dc},P.Nodup->P[i]?=some x->vs[i]?=some v->kindOf x≠some .local ->
  bindC kindOf (P.zip vs) m x=some v
 |[],_,_,_,_,h,_,_=>by simp at h
 |_::_,[],_,_,_,_,h,_=>by simp at h
 |p::P,w::vs,0,m,nd,h1,h2,hk=>by
  simp at h1 h2;subst h1;subst h2;show bindC kindOf ((p,w)::P.zip vs) m p=_;unfold bindC;rw[IA fun v hv=>(ZK.mp nd).1 (Ji hv).1,Zm hk];simp
 |p::P,w::vs,i+1,m,nd,h1,h2,hk=>by
  show bindC kindOf ((p,w)::P.zip vs) m x=_;unfold bindC;exact II (i:=i) (ZK.mp nd).2 (by simpa using h1) (by simpa using h2) hk
def start (N:Da)(vs:Dk):St:=vs.map some++List.replicate (N.length-vs.length) none
def Ix (CX:Ki)(P:Ek)(w:Ep)(K:Ca)(mg:Str->Dc)(base:EC)(N:Da)(qual:Str)(scope:LI)(f:Ei)(c:Ej)(A:ED)(outer:List Env)(s:Eo)(H:Hp)(E:XK):Cx where
 prog:=P
 w:=w
 K:=K
 mg:=mg
 base:=base
 A:=A.deeper<|Mc qual scope s.heap.objs.size f c
 N:=N
 s₀:=s
 H₀:=H
 env:=Mc qual scope s.heap.objs.size f c
 outer:=outer
 stack:=Mc qual scope s.heap.objs.size f c::outer
 ex:=[]
 calm:=true
 fn:=fun _=>true
 pn:=[]
 xe:=fun e g=>Em (Et P w) (A.deeper<|Mc qual scope s.heap.objs.size f c) (leaving (Mc qual scope s.heap.objs.size f c) e) (fun _ b=>CX outer H s E e b) (fun d b=>CX outer H s E d b) g
theorem BH {sc:LI}{n:Nat}{x:Str}(h:sc.names.lookup x=some .cell):∃c,(cellsFrom n sc.names []).lookup x=some c:=by
 have q:=JN sc.names n []<|.inl h;exact ZU.mp q
theorem Ge {CX:Ki}{P:Ek}{w:Ep}{K:Ca}{mg:Str->Dc}{base:EC}{N ps:Da}{qual:Str}{scope:LI}{f:Ei}{B:Ej}{A:ED}{outer:List Env}{s G:Eo}{H:Hp}{E:XK}{us:Db}{vs:Dk}
  (S:W7 N ps scope) (hd:A.handled=none) (g:yw P w K mg base A outer s H) (hl:vs.length=ps.length) (r:W2 vs us)
  (x:InCallC s s.heap.objs.size (bindL (Mc qual scope s.heap.objs.size f B).kindOf (ps.zip us) fun _=>none) (cellsFrom (s.heap.objs.size+1) scope.names []) (bindC (Mc qual scope s.heap.objs.size f B).kindOf (ps.zip us) fun _=>none) G) :
  Inv (Ix CX P w K mg base N qual scope f B A outer s H E) [] (start N vs) H G:=by
 have I:ps.length<=N.length:=by have:=congrArg List.length S.pre;rw[Zz]at this;omega
 obtain⟨D,M,rfl,hk⟩:=x.done;have l:∀b:Ei,b∉(Ix CX P w K mg base N qual scope f B A outer s H E).ex:=fun b z=>absurd (show b∈([]:De) from z) (by simp);refine⟨⟨g.mod,S.kind,rfl,rfl,Q9 _,fun y z c D d=>?_,fun y j=>?_,fun y c _ h=>?_,fun _=>hd,Around.frames_deeper g.frames,.inr ⟨rfl,rfl⟩,fun b z=>absurd z<|l b,g.bs,g.v6,fun b _ _=>l b,fun b z=>absurd z<|l b,g.Tz,g.vM⟩,rfl,g.bare,Un.kept hk,⟨_,x.toInCall.ns,fun i y v D d L=>?_⟩,fun y c h=>⟨_,x.cell y c h⟩,g.hok.fresh<|Q9 _,fun y c h=>?_,fun p o=>absurd (show p∈([]:Df) from o) (by simp),g.hok.kept hk,?_⟩
 ·exact name_of_addr x.apart (Ys D) (Ys d)
 ·have j:scope.names.lookup y=some .cell\/scope.names.lookup y=some .free:=j
  rcases j with j|j
  ·exact BH j
  ·exact absurd rfl (S.uG _<|Ys j)
 ·exact Yd (x.above y c<|Ys h)
 ·have C:i<vs.length:=by
   unfold start at d
   by_cases C:i<vs.length
   ·exact C
   ·rw[Jp<|by simpa using C]at d;rw[List.getElem?_replicate]at d
    split at d<;>cases d
  have ha:vs[i]?=some v:=by
   unfold start at d;rw[YW<|by simpa using C,Zo]at d;cases e:vs[i]? with
   |none=>rw[e]at d;cases d
   |some a=>rw[e]at d;cases d;rfl
  obtain⟨u,F,J⟩:=r.get ha;have o:ps[i]?=some y:=by
   rwa[←S.pre,List.getElem?_take_of_lt<|by omega]
  have t:ps.Nodup:=by rw[←S.pre];exact S.nd.sublist<|List.take_sublist _ _
  refine⟨u,J,?_⟩
  rcases S.par y (Zu o) with k|k
  ·exact .inl ⟨k,IQ t o F k⟩
  ·obtain⟨c,e⟩:=BH (n:=s.heap.objs.size+1) k;refine .inr ⟨.inl k,c,e,?_⟩;have q:=x.cell y c e;rw[II t o F (by show scope.names.lookup y≠_;rw[k];decide)]at q;exact q
 ·exact g.hok.fresh (Yd<|x.above y c<|Ys h)
 ·unfold start;show _=N.length;rw[ZD,Q5,List.length_replicate];omega
theorem Oa {CX:Ki}{P:Ek}{w:Ep}{K:Ca}{mg:Str->Dc}{base:EC}{k:Nat}{f:Ei}{name qual:Str}{params:Arguments}{body:List ER}{scope:LI}{T kV j U c ct oc:Ej}{O od:Option Ei}
  {F:Array Dc} {N ps:Da} {sp:Sp} (lk:K.lookup f=some ⟨oc,od,.func<|E5 name qual params body scope T kV j U O c ct,F⟩) (B:Lw K c qual=true) (S:W7 N ps scope)
  (len:∀vs H Q E,sp vs H Q E->vs.length=ps.length)
  (Y:∀(A:ED) (outer:List Env) (s:Eo) (H:Hp) (vs:Dk) (Q:VK) (E:XK),Wy k (A.deeper<|Mc qual scope s.heap.objs.size f c)->sp vs H Q E -> ∃t,R8 (Ix CX P w K mg base N qual scope f c A outer s H E) body t/\t { nx:=fun _ H'=>Q .non H',rt:=Q } (start N vs) H) :
  W0 P w K mg base CX (k+1) f (E5 name qual params body scope T kV j U O c ct) ps sp:=by
 refine⟨len,fun A outer s H R us vs Q E C l hb r z=>?_⟩;have hl:=len _ _ _ _ z;have M:K.In s.heap:=l.mod.vq.keeps fun b o e=>(l.bs b o e).1;have D:s.heap.NoLimit:=l.mod.nolimit.keeps fun b o e=>(l.bs b o e).1;have g:∀y∈ps.zip us,scope.names.lookup y.1=some .local\/(scope.names.lookup y.1=some .cell/\((cellsFrom (s.heap.objs.size+1) scope.names []).lookup y.1).isSome=true):=fun⟨n,v⟩ hy=>by
  rcases S.par n (Ji hy).1 with q|q
  ·exact .inl q
  ·exact .inr ⟨q,JN _ _ _<|.inl q⟩
 refine codeAny_call_function C.depth (M _ _ lk) rfl S.co S.gen rfl (PySem.W.codeRec_of M B)<|hb _ _ _ _ ?_;refine wpAny_newFunctionEnv_cells S.kind g fun env he X x=>?_;subst he;refine⟨D.keeps x.toInCall.keep,codeAny_func ?_⟩;obtain⟨t,ht,hq⟩:=Y A outer s H vs Q E (C.deeper _) z;have I:Inv (Ix CX P w K mg base N qual scope f c A outer s H E) [] (start N vs) H X:=Ge S C.hd l hl r x;refine Z3 (ht [] X (start N vs) H _ I hq) (fun Z L i=>?_) fun e L i=>i;have p:∀{d:St} {H':Hp} {v:V} {u:Ej},Inv (Ix CX P w K mg base N qual scope f c A outer s H E) [] d H' L->WX v u->Q v H'->CE outer P w H s Q u L :=
  fun{d H' v u} J G q=>⟨v,H',J.os,J.bare,J.base,J.hok,G,q⟩
 cases Z with
 |ret u =>
  obtain⟨v,d,H',J,G,q⟩:=i;exact p J G q
 |next =>
  obtain⟨d,H',J,q⟩:=i;exact p (v:=V.non) (u:=EA) J rfl q
 |brk =>
  obtain⟨_,_,_,q⟩:=i;exact EH q
 |cont =>
  obtain⟨_,_,_,q⟩:=i;exact EH q
section
variable {X:Cx}{x:Str}{p pos:Pos}{e:EK}{es:List EK}{t:TA}{id T:String}{r:Dk->Hp->VK->Prop}
def RQ (r:Dk->Hp->VK->Prop)(t:TA):TE:=fun d H Q=>t d H fun c b=>r c b Q
theorem zJ (j:Wz X (.builtin id) r)(n:Gl X x)(hm:X.mg x=none)(hv:LO x=some (.builtin id))(ha:PA X (e::es) t)(hn:x≠"__name__":=by decide)(b:(x==("__debug__":Str))=false:=by decide)
  (l:EB (e::es) X.env=(false,EZ e X.env)::EB es X.env:=by rfl) (c:(Ld pos<|EB es X.env).any (·.1)=false:=by rfl):PE X (.Call (.Name x p) (e::es) [] pos) (RQ r t):=by
 intro d s f H Q I h;refine Ye<|k6 I n hm hv ?_ hn b;exact J0 (Cb (ha pos d s f H _ I h) fun v u ⟨w,g,i,q,o⟩=>j d u f g w v Q i q o) l c
theorem yC (j:Wz X (.type T) r)(n:Gl X x)(hm:X.mg x=none)(hv:LO x=some (.type T))(ha:PA X (e::es) t)(hn:x≠"__name__":=by decide)(b:(x==("__debug__":Str))=false:=by decide)
  (l:EB (e::es) X.env=(false,EZ e X.env)::EB es X.env:=by rfl) (c:(Ld pos<|EB es X.env).any (·.1)=false:=by rfl):PE X (.Call (.Name x p) (e::es) [] pos) (RQ r t):=by
 intro d s f H Q I h;refine Ye<|k6 I n hm hv ?_ hn b;exact YK (Cb (ha pos d s f H _ I h) fun v u ⟨w,g,i,q,o⟩=>j d u f g w v Q i q o) l c
end
end L2
namespace HT
open PySem PyProof.Rows
section
variable {prog:Ek}{w:Ep}{A:ED}{E:Ej->Di}{s:Eo}
def Wf (n d:Nat):Option Int->Nat
 |none=>d
 |some v=>if v<0 then(v+(n:Int)).toNat else min v.toNat n
theorem vD (n d:Nat):Wf n d none=d:=rfl
theorem vh (n d k:Nat):Wf n d (some (k:Int))=min k n:=by
 show(if(k:Int)<0 then((k:Int)+(n:Int)).toNat else min (k:Int).toNat n)=min k n;rw[Zm<|by omega,JO]
theorem OY (n d:Nat)(hd:d<=n)(o:Option Int):Wf n d o<=n:=by
 cases o with
 |none=>exact hd
 |some v =>
  show(if v<0 then(v+(n:Int)).toNat else min v.toNat n)<=n
  by_cases hv:v<0
  ·rw[Zp hv];omega
  ·rw[Zm hv];exact Jy _ _
theorem Fs (v:Int)(n d:Nat):(if v<0 then max (v+(n:Int)) 0 else min v (n:Int))=((Wf n d (some v):Nat):Int):=by
 show(if v<0 then max (v+(n:Int)) 0 else min v (n:Int))=(((if v<0 then(v+(n:Int)).toNat else min v.toNat n):Nat):Int)
 by_cases hv:v<0
 ·simp only[Zp hv];omega
 ·simp only[Zm hv];omega
theorem Cu (lo b:Option Int)(n:Nat):LP lo b 1 (n:Int)=(((Wf n 0 lo:Nat):Int),((Wf n n b:Nat):Int)):=by
 have c:¬((1:Int)<0):=by omega
 unfold LP;simp only[c,Y7];refine Prod.ext ?_ ?_
 ·cases lo with
  |none=>rfl
  |some v=>exact Fs v n 0
 ·cases b with
  |none=>rfl
  |some v=>exact Fs v n n
theorem DE (i j:Nat):Lo (i:Int) (j:Int) 1=j-i:=by
 unfold Lo;have b:(1:Int)>0:=by omega
 simp only[b,if_true,Int.ediv_one]
 split<;>omega
theorem Xt {v:Ej}{o:Option Int}{Q:Option Int->Di}(p:Mr v o)(h:Q o s):Em (Et prog w) A (Builtin.Slice.slicePartIndex v) Q E s:=by
 cases p with
 |none=>exact slicePart_none h
 |int i t=>exact slicePart_int h
theorem qH {sl:Ei}{e f:Ej}{lo c:Option Int}{n:Nat}{Q:Int×Int×Nat->Di}(hs:s.heap.IsSliceOf sl e f .none)(pl:Mr e lo)(i:Mr f c)
  (h:Q (((Wf n 0 lo:Nat):Int),1,Wf n n c-Wf n 0 lo) s):Em (Et prog w) A (Builtin.Slice.sliceApplied (.ref sl)<|Ln (n:Int)) Q E s:=by
 obtain⟨os,d,g,b⟩:=id hs;unfold Builtin.Slice.sliceApplied Builtin.Slice.sliceFields;refine Q4<|Q4<|Yt d b (x:=e) rfl<|Q4<|Yt d b (x:=f) rfl<|Q4<|Yt d b (x:=.none) rfl<|Q7 ?_;refine Q4<|slicePart_none ?_;show Em _ _ (if((1:Int)==0)=true then _ else _) _ _ s;rw[Zm<|by decide];refine Q4<|Xt pl<|Q4<|Xt i<|Q4<|Q7 ?_;show Em _ _ (match LP lo c 1 (n:Int) with|(lo,c)=>Ln (lo,(1:Int),Lo lo c 1)) _ _ s;rw[Cu lo c n];show Em _ _ (Ln (((Wf n 0 lo:Nat):Int),(1:Int),Lo ((Wf n 0 lo:Nat):Int) ((Wf n n c:Nat):Int) 1)) _ _ s;rw[DE];exact Q7 h
theorem My (xs:Array Ej)(i k:Nat):((EX k).filterMap fun(m:Nat)=>xs[((i:Int)+(m:Int)*1).toNat]?).toArray=((xs.toList.drop i).take k).toArray:=by
 have e:(fun(m:Nat)=>xs[((i:Int)+(m:Int)*1).toNat]?)=fun m=>xs[i+m]?:=by
  funext m
  have:((i:Int)+(m:Int)*1).toNat=i+m:=by omega
  rw[this]
 rw[e];have:=pick_run xs i k;rw[List.filterMap_map]at this;have b:((fun x=>xs[x]?)∘fun x=>i+x)=fun m=>xs[i+m]?:=rfl;rw[b]at this;rw[this]
theorem SN {t sl:Ei}{b:Array Ej}{l n:Ej}{lo d:Option Int}{Q:Ej->Di}(e:IsTup s.heap t b)(hs:s.heap.IsSliceOf sl l n .none)(pl:Mr l lo)(r:Mr n d)
  (p:¬(Wf b.size 0 lo=0/\Wf b.size b.size d=b.size))
  (h:Q (.ref s.heap.objs.size) { s with heap:=s.heap.push { cls:=.type "tuple",data:=.seq ((b.toList.drop<|Wf b.size 0 lo).take<|Wf b.size b.size d-Wf b.size 0 lo).toArray } })
  (hsz:b.size<=sizeLine):Em (Et prog w) A (Mj (.ref t)<|.ref sl) Q E s:=by
 have c:sizeOk (.seq ((b.toList.drop<|Wf b.size 0 lo).take<|Wf b.size b.size d-Wf b.size 0 lo).toArray):=by
  show((b.toList.drop<|Wf b.size 0 lo).take<|Wf b.size b.size d-Wf b.size 0 lo).toArray.size<=sizeLine;rw[Zn,Zz,YO,Zw];omega
 have u:Wf b.size b.size d<=b.size:=OY _ _ (Q9 _) d;obtain⟨os,j,g,o⟩:=id hs;have f:s.TypeIs (.ref sl) "slice":=⟨os,j,g⟩;unfold Mj
 try with_reducible refine ZV ?_
 first|refine Q4 (Q7 ?_)|skip
 refine Q4 (wpAny_sequenceKey e.typeIs (by decide) ?_);refine Q4<|Z1 (name:=EN "__getitem__") e.typeIs Yv<|ZO Yv e.typeIs entry_tuple_getitem ?_<|args_tuple_getitem _ _
 show Em _ _ (LL (.ref t)>>=_) _ _ s;refine Q4<|tupleItemsOf_ e ?_;refine Q4<|Ve f ?_;rw[Zp<|by decide];refine Q4<|qH hs pl r ?_;have i:¬((((Wf b.size 0 lo:Nat):Int)==0&&(1:Int)==1&&(Wf b.size b.size d-Wf b.size 0 lo)==b.size)=true):=by
  intro q;rw[Zk,Zk]at q;have v:((Wf b.size 0 lo:Nat):Int)=0:=YZ q.1.1;have x:Wf b.size b.size d-Wf b.size 0 lo=b.size:=YZ q.2;exact p ⟨by omega,by omega⟩
 show Em _ _ (if(((Wf b.size 0 lo:Nat):Int)==0&&(1:Int)==1&&(Wf b.size b.size d-Wf b.size 0 lo)==b.size)=true then _ else _) _ _ s;rw[Zm i,My]
 first
  |exact Q4 (m:=Lr _) (Zx (Q7 ⟨_,rfl,Q7 h⟩) c)
  |exact Q4 (m:=Lr _) (Zx (Q4<|Q7<|Q7 ⟨_,rfl,Q7 h⟩) c)
  |exact Q4 (Q4 (m:=Lr _)<|Zx (Q7<|Q7 ⟨_,rfl,Q7 h⟩) c)
  |exact Q4 (Q4 (m:=Lr _)<|Zx (Q7 ⟨_,rfl,Q7 h⟩) c)
end
end HT
namespace L2
open PySem PySem.Spec PyProof.Rows
abbrev TO:=St->Hp->(Option Int->Hp->Prop)->Prop
def PO (X:Cx)(e:Option EK)(t:TO):Prop :=
 ∀(c:Df) (s:Eo) (b:St) (H:Hp) (Q:Option Int->Hp->Prop),Inv X c b H s->t b H Q ->
  Em (Et X.prog X.w) X.A (evalPart e X.env) (fun u f=>∃o d,Inv X c b d f/\Mr u o/\Q o d) X.xe s
def NY:TO:=fun _ H Q=>Q none H
def Rb (t:TE):TO:=fun c H Q=>t c H fun x b=>∃i,x=.int i/\Q (some i) b
section
variable {X:Cx}{e:EK}{te:TE}{lo hi:Option EK}{tl th:TO}{pos p2:Pos}
theorem kZ:PO X none NY:=by
 intro b s c H Q I h;rw[evalPart_none];exact Q7 ⟨none,H,I,.none,h⟩
theorem kW (h:PE X e te):PO X (some e) (Rb te):=by
 intro b s l H Q I f;rw[evalPart_some];refine Cb (h b s l H _ I f) fun u n ⟨x,c,d,j,g⟩=>?_;obtain⟨i,rfl,q⟩:=g;obtain⟨t,rfl⟩:=j;exact⟨some i,c,d,.int i t,q⟩
def Rn (X:Cx)(r:V->Option Int->Option Int->Hp->VK->Prop):Prop :=
 ∀(b:Df) (s:Eo) (e:St) (H:Hp) (x:V) (v c d:Ej) (lo hi:Option Int) (sl:Ei) (Q:VK),Inv X b e H s->WX x v->s.heap.IsSliceOf sl c d .none->Mr c lo->Mr d hi->r x lo hi H Q ->
  ∃T id,typeLookup (.type T) "__getitem__"=Ln (some<|.builtin id)/\s.TypeIs v T/\Em (Et X.prog X.w) X.A (Mj v<|.ref sl) (EP X b e Q) X.xe s
def tSl (r:V->Option Int->Option Int->Hp->VK->Prop)(te:TE)(tl th:TO):TE:=fun b H Q=>te b H fun x c=>tl b c fun l d=>th b d fun u e=>r x l u e Q
theorem jT (E:Rn X r)(C:PE X e te)(hl:PO X lo tl)(G:PO X hi th):PE X (.Subscript e (.Slice lo hi none p2) pos) (tSl r te tl th):=by
 intro d s f H Q I h;refine Subscript_<|Cb (C d s f H _ I h) fun v P ⟨x,n,p,O,L⟩=>?_;refine wpAny_Slice<|Cb (hl d P f n _ p L) fun g R ⟨l,o,t,J,M⟩=>Cb (G d R f o _ t M) fun i c ⟨u,j,y,K,N⟩=>?_;rw[evalPart_none];refine Q7 ?_;have z:Inv X d f j { c with heap:=c.heap.push { cls:=.type "slice",data:=.fields #[g,i,.none] } }:=y.kept (t':=c.toks) fun b ob q=>Q6 _ q;obtain⟨T,id,B,F,D⟩:=E d { c with heap:=c.heap.push { cls:=.type "slice",data:=.fields #[g,i,.none] } } f j x v g i l u c.heap.objs.size Q z O (Heap.IsSliceOf.new ..) J K N;show Em (Et X.prog X.w) X.A (subscriptTail e (.Slice lo hi none p2) v<|.ref c.heap.objs.size) (EP X d f Q) X.xe { c with heap:=c.heap.push { cls:=.type "slice",data:=.fields #[g,i,.none] } };exact tail_any (ops:=[.ref c.heap.objs.size,v]) F B D (by with_unfolding_all rfl)
def XO (xs:Dk)(lo hi:Option Int):Dk:=(xs.drop<|HT.Wf xs.length 0 lo).take<|HT.Wf xs.length xs.length hi-HT.Wf xs.length 0 lo
theorem Bf (xs:Dk)(lo hi:Option Int):(XO xs lo hi).length<=xs.length:=by
 unfold XO;rw[Zz,YO];omega
end
def Pm (n:Nat)(i:Int):Option Nat:=if 0<=i then(if i<n then some i.toNat else none) else if -(n:Int)<=i then some (i+n).toNat else none
def Ct {b:Type}(xs:List b)(i:Int):Option b:=(Pm xs.length i).bind fun j=>xs[j]?
theorem Nn {j:Nat}(h:Pm n i=some j):seqIndex? i n=some j/\j<n/\-(n:Int)<=i/\i<n:=by
 unfold Pm at h
 by_cases c:0<=i
 ·rw[Zp c]at h
  by_cases b:i<n
  ·rw[Zp b]at h;have e:i.toNat=j:=Option.some.inj h;exact⟨by rw[seqIndex_of c b,e],by omega,by omega,b⟩
  ·rw[Zm b]at h;cases h
 ·rw[Zm c]at h
  by_cases b:-(n:Int)<=i
  ·rw[Zp b]at h;have e:(i+n).toNat=j:=Option.some.inj h;exact⟨by rw[seqIndex_neg (by omega) b,e],by omega,b,by omega⟩
  ·rw[Zm b]at h;cases h
theorem Gi {b:Type}{xs:List b}{v:b}(h:Ct xs i=some v):∃j,seqIndex? i xs.length=some j/\xs[j]?=some v/\j<xs.length/\-(xs.length:Int)<=i/\i<xs.length:=by
 unfold Ct at h;cases e:Pm xs.length i with
 |none=>rw[e]at h;cases h
 |some j =>
  rw[e]at h;obtain⟨c,d,f,g⟩:=Nn e;exact⟨j,c,h,d,f,g⟩
theorem zT {b:Type}{xs:List b}{j:Nat}{v:b}(h:xs[j]?=some v):Ct xs (j:Int)=some v:=by
 have c:j<xs.length:=(Z2.mp h).1;have e:Pm xs.length (j:Int)=some j:=by
  unfold Pm;rw[Zp<|by omega,Zp<|by omega];simp
 unfold Ct;rwa[e]
def Nb (b:EK):Prop:=∀o i,subscripted b false o i=operate [o,i] (Mj o i)
def Cc (X:Cx)(r:R2):Prop :=
 ∀(value b:EK) (c:Df) (s:Eo) (d:St) (H:Hp) (x y:V) (v u:Ej) (Q:VK),Inv X c d H s->WX x v->WX y u->r x y H Q ->
  subscripted b false v u=operate [v,u] (Mj v u)->Em (Et X.prog X.w) X.A (subscriptTail value b v u) (EP X c d Q) X.xe s
def Oo (X:Cx)(id:String)(r:V->Dk->Hp->VK->Prop):Prop :=
 ∀(b:Df) (s:Eo) (e:St) (H:Hp) (x:V) (d:Dk) (v:Ej) (c:Db) (Q:VK),Inv X b e H s->WX x v->W2 d c->r x d H Q ->
  Em (Et X.prog X.w) X.A (call (.builtin id) (v::c)) (EP X b e Q) X.xe s
section
variable {X:Cx}{a b:EK}{ta tb:TE}{pos:Pos}
theorem zQ (f:Cc X r)(ha:PE X a ta)(hb:PE X b tb)(hs:Nb b:=by exact fun _ _=>rfl):PE X (.Subscript a b pos) (Po r ta tb):=by
 intro c s l H Q I h;exact Subscript_<|Ov ha hb I h fun v u j x y d e g i q=>f a b c j l d x y v u Q e g i q<|hs _ _
inductive T5 (K:Ca)(x y:V)(H:Hp)(Q:VK):Prop
 |mk (p:Ei) (xs:Dk) (i:Int) (v:V) (e:x=.ref p) (f:y=.int i) (h:WP K H p xs) (a:Ct xs i=some v) (q:Q v H):T5 K x y H Q
inductive WR (K:Ca)(x y:V)(H:Hp)(Q:VK):Prop
 |mk (p:Ei) (xs:Dk) (i:Int) (v:V) (e:x=.ref p) (f:y=.int i) (h:Wu K H p xs) (a:Ct xs i=some v) (q:Q v H):WR K x y H Q
inductive uz (x y:V)(H:Hp)(Q:VK):Prop
 |mk (z:Str) (i:Int) (c:Nat) (e:x=.str z) (f:y=.int i) (l:z.length<=sizeLine) (a:Ct z.cps.toList i=some c) (q:Q (.str ⟨#[c]⟩) H):uz x y H Q
theorem WL:Cc X (T5 X.K):=by
 intro value l n s C H x y v u Q I L M h B;obtain⟨p,R,i,z,rfl,rfl,J,G,q⟩:=h;cases L;obtain⟨t,rfl⟩:=M;obtain⟨e,r,f,P⟩:=I.list J;obtain⟨j,c,D,O,E,F⟩:=Gi G;obtain⟨w,o,g⟩:=r.get D;have hl:=r.length;have hn:=UM;have b:EP X n C Q w s:=⟨z,H,I,g,q⟩
 by_cases A:0<=i
 ·have d:i.toNat=j:=by
   rw[seqIndex_of A F]at c;exact Option.some.inj c
  exact item_listR f.isList A (by omega) (by rw[d];simpa using o) b B
 ·have d:(i+(e.toArray.size:Int)).toNat=j:=by
   rw[seqIndex_neg (by omega) E]at c;rw[Zn,←hl];exact Option.some.inj c
  exact subscriptTail_builtinR (x:=w) f.isList.typeIs slot_list_getitem.lookup
   (wpAny_getItem_list_neg (Q:=fun r N=>r=w/\EP X n C Q r N) f.isList (by omega) (by rw[Zn]<;>omega) (by omega) (by rw[d];simpa using o) ⟨rfl,b⟩) B
theorem W4:Cc X (WR X.K):=by
 intro value d e s g H x y v u Q I D E h B;obtain⟨p,O,i,z,rfl,rfl,A,o,q⟩:=h;cases D;obtain⟨t,rfl⟩:=E;obtain⟨C,r,f,N⟩:=I.tuple A;obtain⟨j,G,n,J,L,M⟩:=Gi o;obtain⟨w,l,c⟩:=r.get n;have hl:=r.length;have hn:=UM;have b:EP X e g Q w s:=⟨z,H,I,c,q⟩;exact subscriptTail_builtinR (x:=w) f.typeIs slot_tuple_getitem.lookup
  (getItem_tuple (j:=j) (Q:=fun r F=>r=w/\EP X e g Q r F) f (by omega) (by omega) (by rwa[Zn,←hl]) (by simpa using l) ⟨rfl,b⟩) B
theorem KJ:Cc X uz:=by
 intro value b A s E H x y v u Q I r w h p;obtain⟨z,i,c,rfl,rfl,C,o,q⟩:=h;obtain⟨t,rfl⟩:=r;obtain⟨D,rfl⟩:=w;obtain⟨j,d,g,B,l,n⟩:=Gi o;have hl:z.cps.toList.length=z.length:=by simp[Str.length]
 rw[hl]at d l n;have hn:=UM;exact tail_any (J1 s z t) slot_str_getitem.lookup (getItem_str (c:=c) (by
  have e:decide (i < -(2 ^ 63:Int))=false:=Zg (by omega);have f:decide (i≥2 ^ 63)=false:=Zg (by omega);rw[e,f,Bool.or_false]) (by rw[d];simpa using g) ⟨.str ⟨#[c]⟩,H,I.tok _,⟨_,rfl⟩,q⟩) p
theorem z0:Wz X (.builtin "len") (fun xs H Q=>∃p ys,xs=[.ref p]/\(WP X.K H p ys\/Wu X.K H p ys)/\Q (.int ys.length) H):=by
 intro j s n H xs l Q I r h;obtain⟨p,ys,rfl,b,q⟩:=h;obtain⟨u,rfl,i⟩:=Wl r;cases i;have hn:=UM
 rcases b with b|b
 ·obtain⟨d,f,e,g⟩:=I.list b;have c:=f.length;exact Calls.call_len_list e.isList (by simp only[Zn]<;>omega) ⟨.int ys.length,H,I.tok _,⟨s.toks+1,by rw[Zn,c]⟩,q⟩
 ·obtain⟨d,f,e,g⟩:=I.tuple b;have c:=f.length;exact len_tuple e (by simp only[Zn]<;>omega) ⟨.int ys.length,H,I.tok _,⟨s.toks+1,by rw[Zn,c]⟩,q⟩
theorem qX:Wz X (.builtin "len") (fun xs H Q=>∃z,xs=[.str z]/\z.length<=sizeLine/\Q (.int z.length) H):=by
 intro b s e H xs d Q I r h;obtain⟨z,rfl,c,q⟩:=h;obtain⟨u,rfl,t,rfl⟩:=Wl r;have hn:=UM;exact len_str (by omega) ⟨.int z.length,H,I.tok _,⟨_,rfl⟩,q⟩
theorem Wz.or (h:Wz X f r)(h':Wz X f r'):Wz X f (fun xs H Q=>r xs H Q\/r' xs H Q):=by
 intro b s e H xs d Q I c q
 rcases q with q|q
 ·exact h b s e H xs d Q I c q
 ·exact h' b s e H xs d Q I c q
theorem qI:Wz X (.type "list") (fun xs H Q=>∃p ys,xs=[.ref p]/\(WP X.K H p ys\/Wu X.K H p ys)/\∀l,H l=none->Q (.ref l) (upd H l<|.lst ys)):=by
 intro A s D H xs E Q I r h;obtain⟨p,ys,rfl,j,q⟩:=h;obtain⟨u,rfl,C⟩:=Wl r;cases C;have i:∀(c:Db),W2 ys c->ys.length<=sizeLine->∀(d:EC) (f:Nat),(∀b z,s.heap.get? b=some z->d.get? b=some z) ->
   d.get? s.heap.objs.size=some { cls:=.type "list",dict:=none,data:=.seq c.toArray f,slots:=#[] }->EP X A D Q (.ref s.heap.objs.size) { s with heap:=d }:=fun c g t d f kp e =>
  ⟨.ref s.heap.objs.size,_,I.laid (t':=s.toks) kp (Q9 _)<|show WT X.prog X.w _ d _ (.lst ys) from⟨t,c,f,g,e⟩,rfl,q _<|I.hok.fresh<|Q9 _⟩
 rcases j with j|j
 ·obtain⟨c,g,y,t⟩:=I.list j;have B:=g.length;obtain⟨o,x,v,n,hd⟩:=y.isList;exact call_list_seq p (.inl rfl) x v hd (fun d f kp e=>i c g t d f kp e) (by simp only[Zn]<;>omega)
 ·obtain⟨c,g,y,t⟩:=I.tuple j;have B:=g.length;obtain⟨o,x,v,n,hd⟩:=y;exact call_list_seq p (.inr rfl) x v hd (fun d f kp e=>i c g t d f kp e) (by simp only[Zn]<;>omega)
theorem jM:Wz X (.type "tuple") (fun xs H Q=>∃p ys,xs=[.ref p]/\((WP X.K H p ys/\∀l,H l=none->Q (.ref l) (upd H l<|.tup ys))\/(Wu X.K H p ys/\Q (.ref p) H))):=by
 intro i s t H xs z Q I r h;obtain⟨p,ys,rfl,h⟩:=h;obtain⟨u,rfl,x⟩:=Wl r;cases x
 rcases h with⟨hq,q⟩|⟨hq,q⟩
 ·obtain⟨c,g,f,n⟩:=I.list hq;have y:=g.length;refine call_tuple_list f.isList (fun d kp=>?_) (by simp only[Zn]<;>omega);have j:Inv X i t H { s with heap:=d }:=I.kept (t':=s.toks) kp;have v:Inv X i t (upd H d.objs.size<|.tup ys) { s with heap:=d.push { cls:=.type "tuple",data:=.seq c.toArray } } :=
   j.laid (t':=s.toks) (fun b o e=>Q6 _ e) (Q9 _) (show WT X.prog X.w _ _ _ (.tup ys) from⟨n,c,g,TupAt.new _ _⟩)
  exact⟨.ref d.objs.size,_,v,rfl,q _<|j.hok.fresh<|Q9 _⟩
 ·obtain⟨c,g,f,n⟩:=I.tuple hq;exact call_tuple_same f ⟨.ref p,H,I,rfl,q⟩
def R4 (K:Ca)(T:String)(x:V)(H:Hp):Prop:=match x with
 | .str _=>T="str"
 | .int _=>T="int"
 | .ref p=>(T="list"/\∃c,WP K H p c)\/(T="tuple"/\∃o,K.lookup p=some o/\o.cls=.type "tuple"/\o.dict=none) \/
   (T="dict"/\((∃b,H p=some (.dK b))\/∃b,H p=some (.dT b)))\/(T="set"/\∃S n,H p=some (.set S n))
 |_=>False
theorem M0 (I:Inv X Do σ H s)(r:WX x v)(ty:R4 X.K T x H) :
  s.TypeIs v T/\∀a,v=.ref a->∃ob,s.heap.get? a=some ob/\ob.dict=none:=by
 cases x with
 |str z =>
  obtain⟨t,rfl⟩:=r;cases(show T="str" from ty);exact⟨J1 s z t,fun _ e=>nomatch e⟩
 |int i =>
  obtain⟨t,rfl⟩:=r;cases(show T="int" from ty);exact⟨typeIs_int s i t,fun _ e=>nomatch e⟩
 |ref p =>
  cases r
  rcases ty with⟨rfl,xs,hq⟩|⟨rfl,o,hk,hc,hd⟩|⟨rfl,hk⟩|⟨rfl,S,n,hk⟩
  ·obtain⟨f,_,d,_⟩:=I.list hq;refine⟨d.isList.typeIs,fun a e=>?_⟩;cases e;obtain⟨o,n,e,c,hd,_⟩:=d;exact⟨o,e,hd⟩
  ·refine⟨⟨o,I.Tn p o hk,hc⟩,fun a e=>?_⟩;cases e;exact⟨o,I.Tn _ o hk,hd⟩
  ·have z:∃o,s.heap.get? p=some o/\o.ExactDict:=by
    rcases hk with⟨Dm,hk⟩|⟨Dm,hk⟩
    ·obtain⟨_,_,_,_,o,_,_,e,ex,_⟩:=I.hok p _ hk;exact⟨o,e,ex⟩
    ·obtain⟨_,_,_,_,o,_,_,e,ex,_⟩:=I.hok p _ hk;exact⟨o,e,ex⟩
   obtain⟨o,e,ex⟩:=z;refine⟨⟨o,e,ex.1⟩,fun a b=>?_⟩;cases b;exact⟨o,e,ex.2.1⟩
  ·obtain⟨o,_,_,_,e,ex,_⟩:=I.hok p _ hk;refine⟨⟨o,e,ex.1⟩,fun a b=>?_⟩;cases b;exact⟨o,e,ex.2.1⟩
 |_=>exact EH ty
def RP (K:Ca)(T:String)(r:V->Dk->Hp->VK->Prop)(c:TE):TE:=fun d H Q=>c d H fun x b=>R4 K T x b/\r x [] b Q
def tBM (K:Ca)(T:String)(r:V->Dk->Hp->VK->Prop)(e:TE)(t:TA):TE:=fun c H Q=>e c H fun x b=>R4 K T x b/\t c b fun f d=>r x f d Q
variable {o e:EK}{es:List EK}{to:TE}{t:TA}{name:Str}{Dq Dr:Pos}{T id:String}{r:V->Dk->Hp->VK->Prop}
theorem OS (q:PlainAttrs T)(slot:Slot T name id)(b:typeOf (.builtin id)=Ln (.type "method_descriptor"))(hm:Oo X id r)(p:PE X o to)
  (i:Ll o name X.env (EZ o X.env)=EZ o X.env:=by rfl) (g:(Dq.endLine==Dr.line)=true:=by rfl):PE X (.Call (.Attribute o name Dq) [] [] Dr) (RP X.K T r to):=by
 intro c s f H Q I h;refine Y8 i g<|Cb (p c s f H _ I h) fun v u hh=>?_;obtain⟨x,j,d,e,ty,t⟩:=hh;obtain⟨l,n⟩:=M0 d e ty;exact⟨T,id,q,slot,b,l,n,E7 rfl<|JA<|hm c u f j x [] v [] Q d e .nil t⟩
theorem U5 (B:PlainAttrs T)(slot:Slot T name id)(d:typeOf (.builtin id)=Ln (.type "method_descriptor"))(hm:Oo X id r)(A:PE X o to)(ha:PA X (e::es) t)
  (n:Ll o name X.env (EZ o X.env)=EZ o X.env:=by rfl)
  (b:((Ld Dr<|EB (e::es) X.env).all (fun x=>!x.1)&&(backToKw Dr<|LV [] X.env).all (fun x=>x.1.isSome) && decide ((e::es).length+([]:List Keyword).length+(if([]:List Keyword).isEmpty then 0 else 1)<30))=true:=by rfl)
  (l:(Dq.endLine==Dr.line)=true:=by rfl) (hs:EB (e::es) X.env=(false,EZ e X.env)::EB es X.env:=by rfl) (p:(Ld Dr<|EB es X.env).any (·.1)=false:=by rfl) :
  PE X (.Call (.Attribute o name Dq) (e::es) [] Dr) (tBM X.K T r to t):=by
 intro c s f H Q I h;refine wpAny_Call_method_late n b l rfl<|Cb (A c s f H _ I h) fun v F hh=>?_;obtain⟨x,q,g,j,ty,C⟩:=hh;obtain⟨y,z⟩:=M0 g j ty;refine⟨T,id,B,slot,d,y,z,?_⟩;have i:=ha Dr c F f q _ g C;rw[hs]at i ⊢;refine E7 (by show(false||(Ld Dr<|EB es X.env).any (·.1))=false;rw[p]<;>rfl) (Calls.evalArgs_plain ?_);exact Cb i fun J G ⟨L,u,w,E,D⟩=>hm c G f u x L v J Q w j E D
end
def R6 (X:Cx)(id:String)(r:V->Dk->Hp->VK->Prop):Prop :=
 ∀(b:Df) (s:Eo) (e:St) (H:Hp) (x:V) (d:Dk) (v:Ej) (c:Db) (Q:VK),Inv X b e H s->WX x v->W2 d c->r x d H Q ->
  Em (Et X.prog X.w) X.A (call (.builtin id) (v::c)) (EP X b e Q) X.xe s
theorem W2.one:∀{x:V} {us:Db},W2 [x] us->∃u,us=[u]/\WX x u
 |_,_,.cons r .nil=>⟨_,rfl,r⟩
theorem W2.zero:∀{us:Db},W2 [] us->us=[]
 |_,.nil=>rfl
section
variable {X:Cx}{Do:Df}{σ:St}{H:Hp}{s:Eo}{l b:Ei}{xs ys zs:Dk}
theorem Inv.uw {b Eb:Db}{n:Nat}{f:Array Ej->Array Ej}{t':Nat}(I:Inv X Do σ H s)(c:H l=some (.lst xs))
  (e:s.heap.get? l=some { cls:=.type "list",data:=.seq b.toArray n }) (d:f b.toArray=Eb.toArray) (hv:W2 ys Eb) (hz:ys.length<=sizeLine) :
  Inv X Do σ (upd H l<|.lst ys) { s with heap:=s.heap.update l<|E8 f,toks:=t' }:=by
 have q:=PySem.IsL.update e f;rw[d]at q;refine I.write (x:=l) (e:=l) (by rw[c];exact trivial) (.inl rfl) (fun i u hb g=>(ZT s.heap (E8 f)<|EE hb).trans g) ⟨_,q⟩ ?_;exact⟨hz,Eb,_,hv,q⟩
theorem Inv.tU {t':Nat}(I:Inv X Do σ H s)(hv:W2 ys its)(hz:ys.length<=sizeLine) :
  Inv X Do σ (upd H s.heap.objs.size<|.lst ys) { s with heap:=s.heap.push { cls:=.type "list",data:=.seq its.toArray },toks:=t' } :=
 I.laid (fun _ _ q=>Q6 _ q) (Q9 _) ⟨hz,its,0,hv,Zb _ rfl⟩
theorem Inv.fresh (I:Inv X Do σ H s):H s.heap.objs.size=none:=I.hok.fresh<|Q9 _
theorem Inv.u0 (I:Inv X Do σ H s)(b:H l=some (.lst xs)):xs.length<=sizeLine/\∃(its:Db) (n:Nat),W2 xs its/\xs.length=its.length/\s.heap.get? l=some { cls:=.type "list",data:=.seq its.toArray n }:=by
 obtain⟨z,its,n,r,e⟩:=I.hok l _ b;exact⟨z,its,n,r,r.length,e⟩
end
section
variable {X:Cx}
inductive vW (x:V)(vs:Dk)(H:Hp)(Q:VK):Prop
 |mk (l:Ei) (xs:Dk) (y:V) (e:x=.ref l) (f:vs=[y]) (h:H l=some (.lst xs)) (z:xs.length<sizeLine) (q:Q .non<|upd H l<|.lst<|xs++[y]):vW x vs H Q
theorem UL:R6 X "list.append" vW:=by
 intro i s w H x p v o Q I g f h;obtain⟨l,t,y,rfl,rfl,c,j,q⟩:=h;cases g;obtain⟨u,rfl,d⟩:=f.one;obtain⟨z,b,n,r,hl,e⟩:=I.u0 c;refine JJ F.slot_list_append ⟨_,e,rfl⟩ F.entry_list_append (F.args_list_append_2 _ _) (PySem.list_append l b.toArray n u (by rw[Zn];omega)) ⟨e,?_⟩;refine⟨.non,_,I.uw (Eb:=b++[u]) c e (by simp) (r.append<|.cons d .nil) ?_,rfl,q⟩;rw[ZD,Yw];omega
def OU:V->Dk->Hp->VK->Prop:=fun x b H Q=>∃l c,x=.ref l/\b=[]/\H l=some (.lst c)/\Q .non (upd H l<|.lst [])
theorem KU:R6 X "list.clear" OU:=by
 intro i s t H x o v j Q I g f h;obtain⟨l,p,rfl,rfl,d,q⟩:=h;cases g;have b:=f.zero;subst b;obtain⟨z,c,n,r,hl,e⟩:=I.u0 d;refine JJ F.slot_list_clear ⟨_,e,rfl⟩ F.entry_list_clear (F.args_list_clear_1 _) (AutoSeq1.list_clear_list_0 l c.toArray n (by rw[Zn];omega)) ⟨e,?_⟩;exact⟨.non,_,I.uw (Eb:=[]) (ys:=[]) d e rfl .nil<|ZA _,rfl,q⟩
def PR:R2:=fun x y H Q=>∃l b c d,x=.ref l/\y=.ref b/\H l=some (.lst c)/\H b=some (.lst d)/\c.length+d.length<=sizeLine/\∀p,H p=none->Q (.ref p) (upd H p<|.lst<|c++d)
theorem XS:Cj X (binaryOp .Add) PR:=by
 intro A s F H x y v u Q I t w h;obtain⟨l,b,C,E,rfl,rfl,j,i,B,q⟩:=h;cases t;cases w;obtain⟨z,d,n,r,hl,e⟩:=I.u0 j;obtain⟨D,c,n2,p,o,f⟩:=I.u0 i;refine PySem.P.add_list e f ?_ (by rw[Zn,Zn];omega);have g:d.toArray++c.toArray=(d++c).toArray:=by simp
 rw[g];exact⟨.ref _,_,I.tU (t':=s.toks) (r.append p) (by rw[ZD];omega),rfl,q _ I.fresh⟩
end
section
variable {prog:Ek}{w:Ep}{A:ED}{E:Ej->Di}{s:Eo}
set_option maxRecDepth 100000 in
end
section
variable {κ:Type} [DecidableEq κ]
def VS (b:List<|κ×V)(k:κ):Option V:=(b.find? fun kv=>decide (kv.1=k)).map (·.2)
def WK (b:List<|κ×V)(k:κ)(v:V):List (κ×V) :=
 if(b.any fun kv=>decide (kv.1=k))=true then b.map (fun kv=>if kv.1=k then(kv.1,v) else kv) else b++[(k,v)]
theorem yR {p:κ×V}{r:List (κ×V)}{k:κ}(e:p.1=k):VS (p::r) k=some p.2:=by simp[VS,Z7,e]
theorem yP {p:κ×V}{r:List (κ×V)}{k:κ}(e:¬p.1=k):VS (p::r) k=VS r k:=by simp[VS,Z7,e]
theorem qY (k:κ):∀Dm:List<|κ×V,(Dm.any fun kv=>decide (kv.1=k))=(VS Dm k).isSome
 |[]=>rfl
 |p::r=>by
  rw[List.any_cons]
  by_cases e:p.1=k
  ·simp only[yR e,Zc e,Bool.true_or,Option.isSome_some]
  ·rw[yP e,Zg e,Vt];exact qY k r
theorem Bt (k j:κ)(y:V):∀Dm:List<|κ×V,VS (Dm.map fun kv=>if kv.1=k then(kv.1,y) else kv) j=(VS Dm j).map fun x=>if j=k then y else x
 |[]=>rfl
 |p::r=>by
  have b:=Bt k j y r;rw[ZJ]
  by_cases h:p.1=k
  ·rw[Zp h]
   by_cases e:p.1=j
   ·rw[yR (p:=(p.1,y)) e,yR e,Jj,Zp<|e.symm.trans h]
   ·rw[yP (p:=(p.1,y)) e,yP e,b]
  ·rw[Zm h]
   by_cases e:p.1=j
   ·rw[yR (p:=p) e,yR e,Jj,Zm<|fun z=>h<|e.trans z]
   ·rw[yP (p:=p) e,yP e,b]
theorem IY (k j:κ)(y:V):∀Dm:List<|κ×V,VS Dm k=none->VS (Dm++[(k,y)]) j=if j=k then some y else VS Dm j
 |[],_=>by
  by_cases e:k=j
  ·rw[Zp e.symm];exact yR (p:=(k,y)) e
  ·rw[Zm<|fun z=>e z.symm];exact yP (p:=(k,y)) e
 |p::r,hn=>by
  rw[List.cons_append];have hk:¬p.1=k:=fun z=>by rw[yR z]at hn;cases hn
  rw[yP hk]at hn;have b:=IY k j y r hn
  by_cases e:p.1=j
  ·rw[yR e,yR e,Zm<|fun z=>hk<|e.trans z]
  ·rw[yP e,yP e,b]
theorem M3 (b:List<|κ×V)(k j:κ)(y:V):VS (WK b k y) j=if j=k then some y else VS b j:=by
 unfold WK
 by_cases a:(b.any fun kv=>decide (kv.1=k))=true
 ·rw[Zp a,Bt];rw[qY]at a
  by_cases e:j=k
  ·obtain⟨x,c⟩:=ZU.mp a;rw[Zp e,e,c,Jj,Zp rfl]
  ·rw[Zm e];cases VS b j with
   |none=>rfl
   |some x=>rw[Jj,Zm e]
 ·rw[Zm a];refine IY k j y b ?_;rw[qY]at a;cases q:VS b k with
  |none=>rfl
  |some x=>rw[q]at a;exact(a rfl).elim
theorem xU (b:List<|κ×V)(k:κ)(v:V):(WK b k v).length<=b.length+1:=by
 unfold WK
 split
 ·rw[Q5];omega
 ·rw[ZD,ZF,J8];omega
theorem Tv.TQ (r:Tv o u):o.isSome=u.isSome:=by
 cases o with
 |none=>cases u with
  |none=>rfl
  |some _=>exact(show False from r).elim
 |some _=>cases u with
  |none=>exact(show False from r).elim
  |some _=>rfl
theorem Tv.getD (r:Tv o u)(b:WX d d'):WX (o.getD d) (u.getD d'):=by
 cases o with
 |none=>cases u with
  |none=>exact b
  |some _=>exact(show False from r).elim
 |some _=>cases u with
  |none=>exact(show False from r).elim
  |some _=>exact r
theorem KV.val {d:List (κ×V)}{vs:List (κ×Ej)}(r:KV d vs)(k:κ):Tv (VS d k) (valueAt vs k):=by
 unfold KV at r
 induction r with
 |nil=>exact Lg
 | @cons p q ps qs h t ih =>
  obtain⟨f,g⟩:=h
  by_cases e:p.1=k
  ·have c:q.1=k:=f.symm.trans e;have b:valueAt (q::qs) k=some q.2:=by simp[valueAt,Z7,c]
   rwa[yR e,b]
  ·have c:¬q.1=k:=fun z=>e<|f.trans z;have b:valueAt (q::qs) k=valueAt qs k:=by simp[valueAt,Z7,c]
   rwa[yP e,b]
theorem KV.any {b:List (κ×V)}{vs:List (κ×Ej)}(r:KV b vs)(k:κ):(b.any fun kv=>decide (kv.1=k))=vs.any fun kv=>decide (kv.1=k):=by
 unfold KV at r
 induction r with
 |nil=>rfl
 |cons h t ih=>rw[List.any_cons,List.any_cons,ih,h.1]
theorem KV.repl {c:List (κ×V)}{vs:List (κ×Ej)}(r:KV c vs)(k:κ){y:V}{u:Ej}(f:WX y u) :
  KV (c.map fun kv=>if kv.1=k then(kv.1,y) else kv) (vs.map fun kv=>if kv.1=k then(kv.1,u) else kv):=by
 unfold KV at r ⊢
 induction r with
 |nil=>exact .nil
 | @cons p q ps qs h t ih =>
  rw[ZJ,ZJ];refine .cons ?_ ih;obtain⟨b,d⟩:=h
  by_cases e:p.1=k
  ·rw[Zp e,Zp<|b.symm.trans e];exact⟨b,f⟩
  ·rw[Zm e,Zm<|fun z=>e<|b.trans z];exact⟨b,d⟩
theorem KV.put {b:List (κ×V)}{vs:List (κ×Ej)}(r:KV b vs)(k:κ){y:V}{u:Ej}(c:WX y u):KV (WK b k y) (stored vs k u):=by
 unfold WK stored;rw[r.any k]
 by_cases e:(vs.any fun kv=>decide (kv.1=k))=true
 ·rw[Zp e,Zp e];exact r.repl k c
 ·rw[Zm e,Zm e];exact Paired.snoc r ⟨rfl,c⟩
theorem KV.length {b:List (κ×V)}{vs:List (κ×Ej)}(r:KV b vs):b.length=vs.length:=Paired.length r
end
theorem U1 (r:WX (kV k) u):(zU P w).is k u=true:=by
 cases k with
 |inl i=>obtain⟨t,e⟩:=(show∃t,u=Value.int i t from r);subst e;exact BM P w i t
 |inr x=>obtain⟨t,e⟩:=(show∃t,u=Ma x t from r);subst e;exact GY P w x t
theorem Ga:∀{ks:List Key} {us:Db},W2 (ks.map kV) us->ItemsAre (zU P w) ks us
 |[],_,r=>by rw[VE]at r;cases r;exact .nil
 |k::ks,_,r=>by
  rw[ZJ]at r;cases r with
  |cons h t=>exact .cons (U1 h)<|Ga t
abbrev KT (H:Hp):List (List Key×V)->List (List Key×Ei×Ej)->Prop:=Lf fun p q=>p.1=q.1/\H q.2.1=some (.tup<|p.1.map kV)/\WX p.2 q.2.2
theorem KT.val (r:KT H Dm xs)(k:List Key):Tv (VS Dm k) ((atKey xs k).map (·.2)):=by
 induction r with
 |nil=>exact Lg
 | @cons p q ps qs h t ih =>
  obtain⟨d,_,f⟩:=h
  by_cases e:p.1=k
  ·have c:q.1=k:=d.symm.trans e;have b:atKey (q::qs) k=some q.2:=by simp[atKey,Z7,c]
   rwa[yR e,b]
  ·have c:¬q.1=k:=fun z=>e<|d.trans z;have b:atKey (q::qs) k=atKey qs k:=by simp[atKey,Z7,c]
   rwa[yP e,b]
theorem KT.repl (r:KT H Dm xs)(k:List Key){y:V}{u:Ej}(f:WX y u) :
  KT H (Dm.map fun kv=>if kv.1=k then(kv.1,y) else kv) (xs.map<|putAt k u):=by
 induction r with
 |nil=>exact .nil
 | @cons p q ps qs h t ih =>
  rw[ZJ,ZJ];refine .cons ?_ ih;obtain⟨b,c,d⟩:=h;unfold putAt
  by_cases e:p.1=k
  ·rw[Zp e,Zp<|b.symm.trans e];exact⟨b,c,f⟩
  ·rw[Zm e,Zm<|fun z=>e<|b.trans z];exact⟨b,c,d⟩
theorem KT.put (r:KT H Dm xs)(k:List Key){b:Ei}{y:V}{u:Ej}(hb:H b=some (.tup<|k.map kV))(c:WX y u) :
  KT H (WK Dm k y) (storedH xs k b u):=by
 have e:(Dm.any fun kv=>decide (kv.1=k))=(atKey xs k).isSome:=by
  rw[qY,(r.val k).TQ,Yj]
 unfold WK storedH;rw[e]
 by_cases q:(atKey xs k).isSome=true
 ·rw[Zp q,Zp q];exact r.repl k c
 ·rw[Zm q,Zm q];exact Paired.snoc r ⟨rfl,hb,c⟩
theorem KT.keeps {H':Hp}(r:KT H Dm xs)(c:∀b ys,H b=some (.tup ys)->H' b=some (.tup ys)):KT H' Dm xs :=
 Paired.uL r fun _ _ z=>⟨z.1,c _ _ z.2.1,z.2.2⟩
section
variable {P:Ek}{w:Ep}{H:Hp}{h:EC}{a:Ei}
theorem Og (ok:Td P w H h)(e:Rd H a u):WT P w H h a u:=e.ok ok
theorem UT {b:Dl}(ok:Td P w H h)(e:Rd H a<|.dK b):b.length<=sizeLine/\(a==EL)=false/\∃vs,KV b vs/\h.DictOf (zU P w) a vs :=
 show WT P w H h a (.dK b) from Og ok e
theorem N9 {b:Dl}(ok:Td P w H h)(e:H a=some (.dK b)):b.length<=sizeLine/\(a==EL)=false/\∃vs,KV b vs/\h.DictOf (zU P w) a vs:=UT ok<|.inl e
theorem UE {ks:List Key}(ok:Td P w H h)(e:H a=some (.tup<|ks.map kV)):(tupleKind<|zU P w).is h ks a:=by
 obtain⟨_,b,r,o,c,d,n,f,_⟩:=(show WT P w H h a (.tup<|ks.map kV) from ok a _ e);exact⟨o,b.toArray,n,c,d,f,by simpa using Ga r⟩
theorem XR {c:List (List Key×V)}(ok:Td P w H h)(e:Rd H a<|.dT c):c.length<=sizeLine/\(a==EL)=false /\
  ∃xs,KT H c xs/\h.DictOfH (tupleKind<|zU P w) a xs:=by
 obtain⟨z,y,xs,r,o,f,d,g,i,j,n,s⟩:=(show WT P w H h a (.dT c) from Og ok e);refine⟨z,y,xs,r,o,f,d,g,i,j,n,fun x b=>?_,s⟩;have all:∀{l:List (List Key×V)} {m:List (List Key×Ei×Ej)},KT H l m->∀x∈m,(tupleKind<|zU P w).is h x.1 x.2.1:=by
  intro l m q
  induction q with
  |nil=>intro x b;exact nomatch b
  | @cons p q ps qs hq t ih =>
   intro x b
   rcases Za.mp b with e|b
   ·subst e;exact UE ok (by rw[←hq.1];exact hq.2.1)
   ·exact ih x b
 exact all r x b
theorem Py {b:List (List Key×V)}(ok:Td P w H h)(e:H a=some (.dT b)):b.length<=sizeLine/\(a==EL)=false /\
  ∃xs,KT H b xs/\h.DictOfH (tupleKind<|zU P w) a xs:=XR ok<|.inl e
end
def Wn (H:Hp)(a:Ei)(y:V)(r:Option V):Prop :=
 (∃c k,Rd H a (.dK c)/\y=kV k/\r=VS c k)\/∃c k b,Rd H a (.dT c)/\y=.ref b/\H b=some (.tup<|k.map kV)/\r=VS c k
def wH (H:Hp)(a:Ei)(y v:V)(H':Hp):Prop :=
 (∃c k,H a=some (.dK c)/\y=kV k/\c.length<sizeLine/\H'=upd H a (.dK<|WK c k v)) \/
 ∃c k b,H a=some (.dT c)/\y=.ref b/\H b=some (.tup<|k.map kV)/\c.length<sizeLine/\H'=upd H a (.dT<|WK c k v)
theorem Wn.k {H:Hp}{a:Ei}{b:Dl}{k:Key}(e:H a=some (.dK b)):Wn H a (kV k) (VS b k):=.inl ⟨b,k,.inl e,rfl,rfl⟩
theorem wH.k {H:Hp}{a:Ei}{b:Dl}{k:Key}(e:H a=some (.dK b))(hl:b.length<sizeLine):wH H a (kV k) v (upd H a<|.dK<|WK b k v):=.inl ⟨b,k,e,rfl,hl,rfl⟩
section
variable {X:Cx}{Do:Df}{σ:St}{H:Hp}{s:Eo}{a:Ei}{y v:V}{u r:Ej}{o:Option V}{A:ED}{E:Ej->Di}
theorem Inv.big (I:Inv X Do σ H s):EL<s.heap.objs.size:=by
 have h:Eu<s.heap.objs.size:=(I.mod.glob.keeps I.bk).lt;exact Nat.lt_trans (by decide) h
theorem Hv {Q:Ej->Di}(r:A.units+1<E4)(I:Inv X Do σ H s)(g:Wn H a y<|some v)(n:WX y u)(h:∀w' s',Inv X Do σ H s'->WX v w'->Q w' s') :
  Em (Et X.prog X.w) A (Mj (.ref a) u) Q E s:=by
 rcases g with⟨Dm,k,e,ey,l⟩|⟨Dm,k,b,e,ey,eb,l⟩
 ·subst ey;obtain⟨z,hd,t,c,f⟩:=UT I.hok e;obtain⟨w',j,d⟩:=Tv.some_of (v:=v) (o:=valueAt t k) (by rw[l];exact c.val k);exact wpAny_getItem_of (U1 n) f.mapOf j<|h w' _ (I.tok _) d
 ·subst ey;cases(show u=Ev b from n);obtain⟨z,hd,x,c,f⟩:=XR I.hok e;obtain⟨w',j,d⟩:=Tv.some_of (v:=v) (o:=(atKey x k).map (·.2)) (by rw[l];exact c.val k);obtain⟨p,q,i⟩:=Yg.mp j;refine wpAny_getItem_heap (Jf r) (UE I.hok eb) f q ?_;rw[i];exact h w' _ (I.tok _) d
theorem Ru {Q:Ej->Di}(i:A.units+1<E4)(I:Inv X Do σ H s)(g:Wn H a y o)(f:WX y u)(h:∀s',Inv X Do σ H s'->Q (.bool o.isSome) s') :
  Em (Et X.prog X.w) A (EJ .In u<|.ref a) Q E s:=by
 rcases g with⟨Dm,k,e,ey,l⟩|⟨Dm,k,b,e,ey,eb,l⟩
 ·subst ey;obtain⟨z,hd,j,c,d⟩:=UT I.hok e;refine wpAny_in_of (U1 f) hd d.mapOf ?_;rw[←(c.val k).TQ,←l];exact h _<|I.tok _
 ·subst ey;cases(show u=Ev b from f);obtain⟨z,hd,n,c,d⟩:=XR I.hok e;refine wpAny_in_heap (Jf i) (UE I.hok eb) hd d ?_;have q:=(c.val k).TQ;rw[Yj]at q;rw[←q,←l];exact h _<|I.tok _
theorem Nh {Q:Ej->Di}(i:A.units+1<E4)(I:Inv X Do σ H s)(g:Wn H a y o)(f:WX y u)(h:∀s',Inv X Do σ H s'->Q (.bool<|!o.isSome) s') :
  Em (Et X.prog X.w) A (EJ .NotIn u<|.ref a) Q E s:=by
 rcases g with⟨Dm,k,e,ey,l⟩|⟨Dm,k,b,e,ey,eb,l⟩
 ·subst ey;obtain⟨z,hd,j,c,d⟩:=UT I.hok e;refine wpAny_notIn_of (U1 f) hd d.mapOf ?_;rw[←(c.val k).TQ,←l];exact h _<|I.tok _
 ·subst ey;cases(show u=Ev b from f);obtain⟨z,hd,n,c,d⟩:=XR I.hok e;refine wpAny_notIn_heap (Jf i) (UE I.hok eb) hd d ?_;have q:=(c.val k).TQ;rw[Yj]at q;rw[←q,←l];exact h _<|I.tok _
theorem Xc {h':EC}{t':Nat}(I:Inv X Do σ H s)(d:Op<|H a)(hs:E6 a s.heap h')(c:∃q,h'.get? a=some q)(new:WT X.prog X.w (upd H a ob) h' a ob) :
  Inv X Do σ (upd H a ob) { s with heap:=h',toks:=t' } :=
 I.write (x:=a) (e:=a) d (.inl rfl) (fun b q hb z=>(hs.2 b hb).trans z) c new
theorem Ku {H':Hp}{h':EC}{b:Dl}(z:b.length<=sizeLine)(hd:(a==EL)=false)(c:KV b vs)(dd:h'.DictOf (zU P w) a vs) :
  WT P w H' h' a (.dK b):=⟨z,hd,vs,c,dd⟩
theorem Hw {Q:Unit->Di}(M:A.units+1<E4)(I:Inv X Do σ H s)(g:wH H a y v H')(x:WX y u)(t:WX v r)(h:∀s',Inv X Do σ H' s'->Q () s') :
  Em (Et X.prog X.w) A (setItem (.ref a) u r) Q E s:=by
 rcases g with⟨Dm,k,e,ey,l,eH⟩|⟨Dm,k,b,e,ey,eb,l,eH⟩
 ·subst ey eH;obtain⟨z,hd,N,d,j⟩:=N9 I.hok e;have o:N.length<=sizeLine:=by rwa[←d.length]
  have hl:(WK Dm k v).length<=sizeLine:=by have:=xU Dm k v;omega
  refine wpAny_setItem_pairs (hsz:=o) (U1 x) j fun p f n=>h _ ?_;have L:∃q,p.get? a=some q:=let ⟨q,_,_,i,_⟩:=f;⟨q,i⟩;exact Xc I (by rw[e];exact Lg) n L<|Ku hl hd (d.put k t) f
 ·subst ey eH;cases(show u=Ev b from x);obtain⟨z,hd,O,d,j⟩:=Py I.hok e;have o:O.length<=sizeLine:=by rwa[←Paired.length d]
  have hl:(WK Dm k v).length<=sizeLine:=by have:=xU Dm k v;omega
  refine wpAny_setItem_heap (hsz:=o) (Jf M) (UE I.hok eb) j fun p f n=>h _ ?_;obtain⟨q,D,C,i,F,G,J,_,K⟩:=f;refine Xc I (by rw[e];exact Lg) n ⟨q,i⟩ ⟨hl,hd,_,(d.put k eb t).keeps fun c P B=>?_,q,D,C,i,F,G,J,K⟩;rwa[zI<|PL B e<|fun z=>nomatch z]
end
def Na (i:EK):Prop:=∀c b,subscripted i false c b=operate [c,b] (Mj c b)
theorem Gp {prog:Ek}{w:Ep}{A:ED}{E:Ej->Di}{s:Eo}{env:Env}{value b:EK}{pos:Pos}{T id:String}{Q:Ej->Di}
  (hl:typeLookup (.type T) "__getitem__"=Ln (some<|.builtin id)) (hs:Na b)
  (h:Em (Et prog w) A (EZ value env) (fun o s₁=>Em (Et prog w) A (EZ b env) (fun i s₂=>s₂.TypeIs o T/\Em (Et prog w) A (Mj o i) Q E s₂) E s₁) E s) :
  Em (Et prog w) A (EZ (.Subscript value b pos) env) Q E s:=by
 refine Subscript_<|Z3 h (fun o s₁ f=>Z3 f (fun i s₂ c=>?_) fun _ _ x=>x) fun _ _ x=>x;obtain⟨j,c⟩:=c;unfold subscriptTail;refine Q4 ?_;rw[getitemInPython_of_ne j.not_modules];refine Q4<|Jk j hl ?_;have e:Em (Et prog w) A (subscripted b false o i) (fun r d=>Em (Et prog w) A (letTemporaryGo value o r>>=fun _=>Ln r) Q E d) E s₂:=by
  rw[hs o i];exact wpAny_operating<|Z3 c (fun r d g=>Q4<|wpAny_letTemporaryGo<|Q7 g) fun _ _ x=>x
 first
  |exact Q7 (Q4 e)
  |exact Q4 (Q7<|Q4 e)
  |exact Q4 e
theorem BV (I:Inv X Do σ H s)(g:Wn H a y o):s.TypeIs (.ref a) "dict":=by
 rcases g with⟨Dm,k,e,_,_⟩|⟨Dm,k,b,e,_,_,_⟩
 ·obtain⟨_,_,d,_,c⟩:=UT I.hok e;exact c.typeIs
 ·obtain⟨_,_,f,_,c⟩:=XR I.hok e;exact c.typeIs
def P6 (e ty:TE):TE:=fun c H Q=>e c H fun x d=>ty c d fun y b=>∃a v,x=.ref a/\Wn b a y (some v)/\Q v b
def P0 (g ty i:TE):TS:=fun D b H=>i b H fun v d=>g b d fun x e=>ty b e fun y f=>∃a c,x=.ref a/\wH f a y v c/\D.nx b c
section
variable {X:Cx}{o i e value:EK}{pos DQ tpos:Pos}{td ty tv:TE}
theorem yH (r:X.A.units+1<E4)(q:PE X o td)(p:PE X i ty)(hs:Na i):PE X (.Subscript o i pos) (P6 td ty):=by
 intro c s e H Q I h;refine Gp PySem.F.slot_dict_getitem.lookup hs<|Cb (q c s e H _ I h) fun u C ⟨x,f,l,z,t⟩=>Cb (p c C e f _ l t) fun D E hh=>?_;obtain⟨y,j,d,B,a,v,ex,g,w⟩:=hh;subst ex;obtain rfl:u=Ev a:=z;exact⟨BV d g,Hv r d g B fun J G n b=>⟨v,j,n,b,w⟩⟩
theorem xJ (w:X.A.units+1<E4)(t:PE X o td)(q:PE X i ty)(hv:PE X value tv)(hs:Mb value (some<|.Subscript o i DQ) pos.line X.env=Ln false) :
  PS X (.Assign [.Subscript o i DQ] value pos) (P0 td ty tv):=by
 intro c s b H D I h;refine wpAny_Assign_Subscript (Cb (hv c s b H _ I h) fun r J ⟨v,d,j,E,z⟩=>Cb (t c J b d _ j z) fun u K ⟨x,e,l,F,B⟩=>Cb (q c K b e _ l B) fun M N hh=>?_) hs;obtain⟨y,L,n,G,a,f,ex,g,C⟩:=hh;subst ex;obtain rfl:u=Ev a:=F;exact Hw w n g G E fun O p=>⟨b,f,p,C⟩
end
theorem Bm (h:EC)(hb:EL<h.objs.size):WT P w H (h.push { cls:=.type "dict",data:=.dict #[] }) h.objs.size (.dK []) :=
 ⟨ZA _,Yi.mpr<|EE<|Zl hb,[],.nil,Heap.DictOf.new h⟩
def O5:TE:=fun _ H Q=>∀p,H p=none->Q (.ref p) (upd H p<|.dK [])
section
variable {X:Cx}{pos:Pos}
theorem xN:PE X (.Dict [] [] pos) O5:=fun b s c H Q I h =>
 wpAny_Dict_empty ⟨.ref s.heap.objs.size,_,I.laid (a:=s.heap.objs.size) (o:=.dK []) (t':=s.toks) (fun _ _ q=>Q6 _ q) (Q9 _)<|Bm s.heap I.big,rfl,h _<|I.hok.fresh<|Q9 _⟩
end
def Fh:List (TE×TE)->St->Hp->(List (V×V)->Hp->Prop)->Prop
 |[],_,H,Q=>Q [] H
 |(tk,tv)::r,σ,H,Q=>tk σ H fun x b=>tv σ b fun y c=>Fh r σ c fun e d=>Q ((x,y)::e) d
abbrev VV:List (V×V)->List (Ej×Ej)->Prop:=Lf fun p q=>WX p.1 q.1/\WX p.2 q.2
def Rm (X:Cx)(pos:Pos)(keys:List<|Option EK)(values:List EK)(b:List<|TE×TE):Prop :=
 ∀(d:Df) (s:Eo) (c:St) (H:Hp) (Q:List (V×V)->Hp->Prop),Inv X d c H s->Fh b c H Q ->
  Em (Et X.prog X.w) X.A (evalPairs<|pairTrees keys values X.env pos) (fun i g=>∃f e,Inv X d c e g/\VV f i/\Q f e) X.xe s
theorem NN:Rm X pos [] [] []:=fun b s c H Q I h=>pairTrees_nil_walk ⟨[],H,I,.nil,h⟩
theorem kR (hk:PE X k tk)(hv:PE X v tv)(n:Rm X pos ks vs trs) :
  Rm X pos (some k::ks) (v::vs) ((tk,tv)::trs):=fun b s d H Q I h =>
 pairTrees_cons_walk (Cb (hk b s d H _ I h) fun u z ⟨x,e,i,t,p⟩=>Cb (hv b z d e _ i p) fun C A ⟨y,f,j,w,q⟩ => Cb (n b A d f _ j q) fun D B ⟨o,g,l,c,r⟩=>⟨(x,y)::o,g,l,.cons ⟨t,w⟩ c,r⟩)
def UC (c more:Dl):Dl:=more.foldl (fun b kv=>WK b kv.1 kv.2) c
theorem KV.merge:∀{more:Dl} {rs:List (Key×Ej)} {Dm:Dl} {vs:List (Key×Ej)},KV more rs->KV Dm vs->KV (UC Dm more) (merged vs rs):=by
 intro more rs Dm vs r;unfold KV at r
 induction r generalizing Dm vs with
 |nil=>intro q;exact q
 | @cons p q ps qs h t ih =>
  intro b;have e:KV (WK Dm p.1 p.2) (stored vs q.1 q.2):=by
   have:=b.put p.1 h.2;rwa[←h.1]
  exact ih e
theorem jL:∀(more Dm:Dl),(UC Dm more).length<=Dm.length+more.length
 |[],Dm=>by show Dm.length<=Dm.length+0;omega
 |p::r,Dm=>by
  have b:=jL r<|WK Dm p.1 p.2;have c:=xU Dm p.1 p.2;show(UC (WK Dm p.1 p.2) r).length<=_;rw[ZF];omega
theorem X6:∀{Dm:Dl} {ws:List (Ej×Ej)},VV (Dm.map fun kv=>(kV kv.1,kv.2)) ws->∃rs,Carries (zU P w) ws rs/\KV Dm rs
 |[],_,r=>by rw[VE]at r;cases r;exact⟨[],Lg,.nil⟩
 |p::Dm,_,r=>by
  rw[ZJ]at r;cases r with
  | @cons a b as bs h t =>
   obtain⟨rs,c,q⟩:=X6 (P:=P) (w:=w) t;obtain⟨e,d⟩:=b;exact⟨(p.1,d)::rs,⟨U1 h.1,rfl,c⟩,.cons ⟨rfl,h.2⟩ q⟩
def P7 (c:List<|TE×TE):TE:=fun f H Q=>∀p,H p=none->Fh c f (upd H p<|.dK []) fun e d=>d p=some (.dK [])/\∃b:Dl,e=b.map (fun kv=>(kV kv.1,kv.2))/\b.length<=15/\Q (.ref p) (upd d p<|.dK<|UC [] b)
theorem NF (h:Rm X pos keys values trs)(d:keys.all (·.isSome)=true)(hl:keys.length=values.length)(t:keys≠[])
  (f:keys.length<=15):PE X (.Dict keys values pos) (P7 trs):=by
 intro l s F H Q I q;have hn:=I.hok.fresh<|Q9 s.heap.objs.size;have n:=I.laid (a:=s.heap.objs.size) (o:=.dK []) (h':=s.heap.push { cls:=.type "dict",data:=.dict #[] }) (t':=s.toks) (fun _ _ q=>Q6 _ q) (Q9 _)<|Bm s.heap I.big;refine wpAny_Dict_walk (knd:=zU X.prog X.w) d hl t f<|Cb (h l _ F _ _ n<|q _ hn) fun M L hh=>?_;obtain⟨K,G,j,g,e,i,r,J,A⟩:=hh;subst r;obtain⟨D,c,C⟩:=X6 (P:=X.prog) (w:=X.w) g;obtain⟨z,hd,E,B,p⟩:=N9 j.hok e;cases B;refine⟨D,c,p,fun h' b x=>⟨.ref s.heap.objs.size,_,?_,rfl,A⟩⟩;have y:(UC [] i).length<=sizeLine:=by
  have u:=jL i [];rw[J8]at u;rw[Ya];omega
 have v:∃q,h'.get? s.heap.objs.size=some q:=let ⟨q,_,_,hq,_⟩:=b;⟨q,hq⟩;exact Xc j (by rw[e];exact Lg) x v<|Ku y hd (C.merge .nil) b
structure M2 (X:Cx)(o:EK)(m:Str)(Dq:Pos)(e f:EK)(Dr:Pos):Prop where
 base:Ll o m X.env (EZ o X.env)=EZ o X.env
 few:((Ld Dr<|EB [e,f] X.env).all (fun x=>!x.1)&&(backToKw Dr<|LV [] X.env).all (fun x=>x.1.isSome) && decide (([e,f]:List EK).length+([]:List Keyword).length+(if([]:List Keyword).isEmpty then 0 else 1)<30))=true
 line:(Dq.endLine==Dr.line)=true
 trees:Ld Dr (EB [e,f] X.env)=[(false,EZ e X.env),(false,EZ f X.env)]
def R5 (H:Hp)(a:Ei):Prop:=(∃b,Rd H a<|.dK b)\/∃b,Rd H a<|.dT b
theorem OD (I:Inv X Do σ H s)(d:R5 H a) :
  s.TypeIs (.ref a) "dict"/\(∀b,Ev a=.ref b->∃ob,s.heap.get? b=some ob/\ob.dict=none)/\(a==EL)=false:=by
 rcases d with⟨Dm,e⟩|⟨Dm,e⟩
 ·obtain⟨_,hd,i,_,c⟩:=UT I.hok e;refine⟨c.typeIs,fun b q=>?_,hd⟩;cases q;obtain⟨ob,_,_,f,g,_⟩:=c;exact⟨ob,f,g.2.1⟩
 ·obtain⟨_,hd,j,_,c⟩:=XR I.hok e;refine⟨c.typeIs,fun b q=>?_,hd⟩;cases q;obtain⟨ob,_,_,f,g,_⟩:=c;exact⟨ob,f,g.2.1⟩
section
variable {X:Cx}{Do:Df}{σ:St}{H:Hp}{s:Eo}{a:Ei}{y d:V}{u r:Ej}{o:Option V}{A:ED}{E:Ej->Di}
theorem Ow {Q:Ej->Di}(n:A.units+1<E4)(I:Inv X Do σ H s)(g:Wn H a y o)(j:WX y u)(i:WX d r)(h:∀w' s',Inv X Do σ H s'->WX (o.getD d) w'->Q w' s') :
  Em (Et X.prog X.w) A (call (.builtin "dict.get") [.ref a,u,r]) Q E s:=by
 rcases g with⟨Dm,k,e,ey,l⟩|⟨Dm,k,b,e,ey,eb,l⟩
 ·subst ey;obtain⟨z,hd,q,c,f⟩:=UT I.hok e;refine Vf JX f.typeIs PySem.F.entry_dict_get (PySem.F.args_dict_get_3 _ _ _) (meets_dict_get_default (zU X.prog X.w) a (U1 j) hd r) ⟨_,f.mapOf,h _ _ (I.tok _) ?_⟩;rw[l];exact(c.val k).getD i
 ·subst ey;cases(show u=Ev b from j);obtain⟨z,hd,p,c,f⟩:=XR I.hok e;refine Vf JX f.typeIs PySem.F.entry_dict_get (PySem.F.args_dict_get_3 _ _ _) (meetsH_dict_get_default (tupleKind<|zU X.prog X.w) a b hd r) ⟨Jf n,k,p,UE I.hok eb,f,h _ _ (I.tok _) ?_⟩;rw[l];exact(c.val k).getD i
end
def O4 (f ty g:TE):TE:=fun b H Q=>f b H fun x c=>∃a,x=.ref a/\R5 c a/\ty b c fun y e=>g b e fun z d=>∃o,Wn d a y o/\Q (o.getD z) d
section
variable {X:Cx}{o e f:EK}{Dq Dr:Pos}{td ty tx:TE}
theorem XJ (C:X.A.units+1<E4)(B:PE X o td)(v:PE X e ty)(w:PE X f tx)(m:M2 X o "get" Dq e f Dr):PE X (.Call (.Attribute o "get" Dq) [e,f] [] Dr) (O4 td ty tx):=by
 intro b s i H Q I h;refine wpAny_Call_method m.base m.few m.line PySem.F.plainAttrs_dict JX PySem.F.type_dict_get<|Cb (B b s i H _ I h) fun u M hh=>?_;obtain⟨x,l,j,J,a,ex,d,D⟩:=hh;subst ex;obtain rfl:u=Ev a:=J;obtain⟨O,P,_⟩:=OD j d;refine⟨O,P,?_⟩;rw[m.trees];refine E7 rfl<|Calls.evalArgs_plain<|LD<|Cb (v b M i l _ j D) fun S N ⟨y,n,q,K,E⟩ => LD<|Cb (w b N i n _ q E) fun R U ⟨z,p,r,L,T,g,G⟩=>L5 ?_
 exact Ow C r g K L fun Z Y t c=>⟨_,p,t,c,G⟩
end
end L2
namespace Att
open PySem PySem.W PySem.Calls PyProof.Rows
theorem U9 {P:Params}{h:EC}:∀(ns:List Int) (vs:Db),WellAll P h vs (ns.map WData.int)->IntsAre vs ns:=by
 intro ns
 induction ns with
 |nil =>
  intro vs w;rw[VE]at w;cases w;exact .nil
 |cons n ns ih =>
  intro vs w;rw[ZJ]at w;cases w with
  |cons a b =>
   cases a;exact .cons _ _<|ih _ b
theorem HX {l:OpenLaw}{n:Nat}(hn:l.most=some n){P:Params}{h:EC}{args:List WData}{vals:Db}
  (b:l.row.toRowW.claim.pre args=true) (g:WellAll P h vals args) :
  ∃a vs ns,vals=[Ev a]/\args=[WData.list<|ns.map WData.int]/\h.get? a=some { cls:=.type "list",data:=.seq vs.toArray }/\IntsAre vs ns/\ns.length<=n:=by
 have f:WShape.hasAll [] args [.list .int]=true:=(pre_splitW b).1;have i:l.pre.holds [] { args:=args }=true:=(pre_splitW b).2;obtain⟨d,r,rfl,o,p⟩:=hasAllW_cons f;obtain rfl:=hasAllW_nil p;obtain⟨u,rfl,s⟩:=hasW_list o;obtain⟨ns,rfl⟩:=items_int s;have j:ns.length<=n:=by
  unfold OpenLaw.pre at i;have c:(WTm.not<|.lt (.lit<|.int (n:Int))<|.len<|.arg 0).holds [] { args:=[.list<|ns.map .int] }=true:=by
   have c:=(holds_andW i).1;rw[hn]at c;exact c
  have e:=condW_of c<|w_not<|w_lt w_lit<|w_len_list<|w_arg rfl;rw[Q5]at e;refine Nat.le_of_not_lt fun q=>?_;have t:(n:Int)<((ns.length:Nat):Int):=by omega
  first
   |(rw[Zc t]at e;exact absurd e<|by decide)
   |(simp at e;omega)
 cases g with
 |cons w1 w2 =>
  cases w2;cases w1 with
  |list ho hall=>exact⟨_,_,ns,rfl,rfl,ho,U9 ns _ hall,j⟩
theorem HU (l:OpenLaw)(args:List WData):l.row.toRowW.claim.post args (.bool true) args=true :=
 postW_of (r:=l.row.toRowW) (X:=(true==true))
  (show WShape.has [] (.bool true) .bool=true by first|rfl|decide|simp[WShape.has,WShape.arms,WShape.armsAll])
  (show(WTm.eq .res<|.lit<|.bool true).value [] { args:=args,res:=some<|.bool true,after:=args }=some (.bool<|true==true) from w_eq_bool (w_res rfl) w_lit) rfl
theorem wO {l:OpenLaw}{n:Nat}{q:Ek}{b:Da}{t:(Str->Dc)->EC->Prop}{u:Ep->EC->Prop}{d:DefRec}
  (hn:l.most=some n) (j:d.params.defaults=[])
  (call:∀(w:Ep) (s₀ s₁:Eo) (mg mb:Str->Dc) (fa:Ei) (o:Obj) (pm cd doc:Ej) (a:Ei) (vs:Db) (ns:List Int),Ground q b [] t w s₀ mg mb s₁.heap->u w s₁.heap -> s₁.heap.get? fa=some o->o.data=.func (docDef d.name d.params d.body d.scope pm cd doc)->s₁.heap.CodeRec cd d.name->mg d.name=some (.ref fa) -> s₁.heap.get? a=some { cls:=.type "list",data:=.seq vs.toArray }->IntsAre vs ns->ns.length<=n->s₁.gens=#[] -> Ls (Et l.prog w) callerA (.call (.ref fa) ⟨[.ref a],[]⟩) (fun r s'=>r=.ok (.ret<|.bool true)/\OldK s₁.heap s'.heap/\s'.os=s₁.os/\Mh s'.gens) s₁) :
  WalkO q b t u l.row.toRowW d [] (fun f vs=>PySem.call f vs):=by
 intro w s₀ s₁ mg mb G Y fa o pm cd doc A kV H hd i x p E v vals K g y J s F;obtain rfl:A=.none:=Dflts.none x j;obtain rfl:kV=.none:=Dflts.noKw x;obtain⟨a,vs,ns,rfl,rfl,e,c,z⟩:=HX hn g s;refine enter_call<|Yy (call w s₀ s₁ mg mb fa o pm cd doc a vs ns G Y H (fd_plain hd) i p e c z E) fun r s' I=>?_;obtain⟨rfl,B,C,D⟩:=I;exact⟨.inl ⟨.bool true,.bool true,[],rfl,fun _=>rfl,.bool true,HU l _,fun _=>⟨List.Pairwise.nil,fun _ hm=>(nomatch hm)⟩⟩,B,C,D⟩
end Att
namespace L2
open PySem PySem.Spec PyProof.Rows
theorem IP:∀{vs:Db} {ns:List Int},IntsAre vs ns->W2 (ns.map V.int) vs
 |_,_,.nil=>.nil
 |_,_,.cons n t h=>.cons ⟨t,rfl⟩<|IP h
def Only (H:Hp):Prop:=∀b,H b=none\/∃o c,H b=some (.frz o<|.lst c)
theorem KK {P:Ek}{w:Ep}{K:Ca}{mg M:Str->Dc}{CX:Ki}{k:Nat}{G a:Ei}{R:Es}{x:Str}{sp:Sp}{c:Eo}{vs:Db}{ns:List Int}
  (O:K.In c.heap) (A:c.heap.Ns Eu mg) (hb:c.heap.Ns builtinsNs M) (J:∀x:Str,x≠"__name__"->M x=LO x) (y:c.heap.NoLimit) (hg:c.gens=#[])
  (ha:c.heap.get? a=some { cls:=.type "list",data:=.seq vs.toArray }) (U:IntsAre vs ns) (hl:ns.length<=sizeLine) (hr:Wy k callerA)
  (F:∀base:EC,K.In base->base.Ns Eu mg->W0 P w K mg base CX k G R [x] sp) (j:∀(s:Eo) (u:Ej),BindsTo s R ⟨[u],[]⟩ [(x,u)])
  (L:∀H:Hp,Only H->WP K H a (ns.map V.int)->sp [.ref a] H (fun v _=>v=.bl true) fun _ _ _=>False)
  (I:∀H e s',CX [] H c (fun _ _ _=>False) e s'->False) :
  Ls (Et P w) callerA (.call (.ref G) ⟨[.ref a],[]⟩) (fun r s'=>r=.ok (.ret<|.bool true)/\OldK c.heap s'.heap/\s'.os=c.os/\Mh s'.gens) c:=by
 have X:=IP U;have C:=U.length;have i:∀H:Hp,Only H->WP K H a (ns.map V.int)->Td P w H c.heap->(∀b,H b≠none->b=a)->(H a≠none->K.lookup a=none) ->
   Ls (Et P w) callerA (.call (.ref G) ⟨[.ref a],[]⟩) (fun r s'=>r=.ok (.ret<|.bool true)/\OldK c.heap s'.heap/\s'.os=c.os/\Mh s'.gens) c:=by
  intro H T hS hok S hK;have f:∀{b:Ei} {o:Obj},c.heap.get? b=some o->H b=none->(Gq c.heap H).get? b=some o:=fun e n=>KB e n;have N:∀{b:Ei} {o:Obj} {p:Array Lj} {l:Nat},c.heap.get? b=some o->o.data=.dict p l->H b=none:=fun{b o p l} e d=>by
   cases q:H b with
   |none=>rfl
   |some u =>
    have E:b=a:=S b (by rw[q];simp);subst E;rw[ha]at e;cases e;have Y:Data.seq vs.toArray _=Data.dict p l:=d;cases Y
  have g:∀{b:Ei} {m:Str->Dc},c.heap.Ns b m->(Gq c.heap H).Ns b m:=fun{b m} ⟨o,p,l,e,d,r⟩=>⟨o,p,l,f e<|N e d,d,r⟩;have t:K.In (Gq c.heap H):=fun b o e=>f (O b o e) (by
   cases q:H b with
   |none=>rfl
   |some u =>
    have E:b=a:=S b (by rw[q];simp);subst E;rw[hK (by rw[q];simp)]at e;cases e)
  have hM:Mod K mg (Gq c.heap H):=⟨t,g A,⟨M,g hb,J⟩,let ⟨mc,h1,h2⟩:=y;⟨mc,g h1,h2⟩⟩;have Z:yw P w K mg (Gq c.heap H) callerA [] c H:=⟨rfl,hM,fun b o e=>Nz e,Vd<|HF _ _,trivial,fun b hb=>absurd (show b∈([]:De) from hb) (by simp),hok,.of_eq hg⟩;refine Yy ((F _ t<|g A).run callerA [] c H ⟨[.ref a],[]⟩ [.ref a] [.ref a] _ _ hr Z (j c<|.ref a) (.cons rfl .nil)<|L H T hS) fun r s' h=>?_;cases r with
  |error e=>exact(I H e s' h).elim
  |ok fl =>
   cases fl with
   |next=>exact EH h
   |brk=>exact EH h
   |cont=>exact EH h
   |ret u =>
    obtain⟨v,H',os,bare,un,B,r',q⟩:=h;have q':v=.bl true:=q;subst q';obtain rfl:u=LA true:=r';refine⟨rfl,OldK.of_keep fun b o e=>?_,os,bare⟩;cases q:H b with
    |none=>exact un.keep b o e q (by intro z;exact absurd (show b∈([]:De) from z) (by simp)) (by simp)
    |some u =>
     rcases T b with z|⟨ob,xs,z⟩
     ·rw[q]at z;cases z
     ·have z2:=un.Tw b ob _ z;obtain⟨Q,_⟩:=hok b _ z;obtain⟨e2,_⟩:=B b _ z2;rw[e]at Q;cases Q;exact e2
 cases hk:K.lookup a with
 |some o =>
  have e:=O a o hk;rw[ha]at e;cases e;refine i (fun _=>none) (fun _=>.inl rfl) (.inr ⟨_,vs.toArray,_,hk,rfl,rfl,rfl,by rw[Zn,C];exact hl,by simpa using X⟩) (fun b u z=>by have D:(none:Option HO)=some u:=z;cases D) (fun b z=>absurd rfl z) fun z=>absurd rfl z
 |none =>
  refine i (fun b=>if b=a then some (.frz { cls:=.type "list",data:=.seq vs.toArray }<|.lst<|ns.map V.int) else none) (fun b=>?_) (.inl<|.inr ⟨{ cls:=.type "list",data:=.seq vs.toArray },Zp rfl⟩) (fun b u z=>?_) (fun b z=>?_) fun _=>hk
  ·by_cases hb:b=a
   ·exact .inr ⟨_,_,Zp hb⟩
   ·exact .inl (Zm hb)
  ·by_cases hb:b=a
   ·have D:=(Zp hb).symm.trans z;cases D;subst hb;exact⟨ha,by rw[Q5];exact hl,vs,_,X,ha⟩
   ·have D:=(Zm hb).symm.trans z;cases D
  ·by_cases hb:b=a
   ·exact hb
   ·exact absurd (Zm hb) z
theorem vg {l:PySem.W.OpenLaw}{n k:Nat}{q:Ek}{i:Da}{E:(Str->Dc)->EC->Prop}{D:Ep->EC->Prop}{d:DefRec}{K:Params->Ca}{CX:Ep->Ki}{sp:Ep->Sp}{x:Str}
  (hn:l.most=some n) (z:n<=sizeLine) (t:d.params.defaults=[]) (Q:Wy k callerA)
  (N:∀(w:Ep) (h:EC),D w h->(K w.params).In h)
  (F:∀(w:Ep) (mg:Str->Dc) (fa:Ei) (h:EC),(K w.params).In h->h.Ns Eu mg->mg d.name=some (.ref fa) -> ∃fd:Es,(∀(s:Eo) (u:Ej),BindsTo s fd ⟨[u],[]⟩ [(x,u)]) /\ ∀base:EC,(K w.params).In base->base.Ns Eu mg->W0 l.prog w (K w.params) mg base (CX w) k fa fd [x] (sp w))
  (A:∀(w:Ep) (H:Hp) (a:Ei) (ns:List Int),ns.length<=n->Only H->WP (K w.params) H a (ns.map V.int)->sp w [.ref a] H (fun v _=>v=.bl true) fun _ _ _=>False)
  (r:∀(w:Ep) (H:Hp) (s:Eo) (e:Ej) (s':Eo),CX w [] H s (fun _ _ _=>False) e s'->False) :
  PySem.W.WalkO q i E D l.row.toRowW d [] (fun f vs=>PySem.call f vs):=by
 refine Att.wO hn t fun w s₀ p mg U fa o X R I a vs ns G Y S hd O y j c B P=>?_;have C:=N w _ Y;obtain⟨fd,hb,J⟩:=F w mg fa _ C G.T.g y;exact KK C G.T.g G.T.b G.T.builtins G.T.nolimit P j c (Yc B z) Q J hb (fun H L M=>A w H a ns B L M) fun H e s'=>r w H p e s'
def inClass (s:ER)(j:Nat):Stmt:=match s with
 | .ClassDef _ _ _ body _ _ _ _ _ _ _=>body.getD j<|.Pass ⟨0,0,0,0⟩
 |_=>.Pass ⟨0,0,0,0⟩
def xT (s:ER):Arguments:=match s with
 | .FunctionDef _ a _ _ _ _ _ _ _ _=>a
 |_=>{ posonlyargs:=[],args:=[],vararg:=none,kwonlyargs:=[],kw_defaults:=[],kwarg:=none,defaults:=[] }
def yX (s:ER):List Stmt:=match s with
 | .FunctionDef _ _ b _ _ _ _ _ _ _=>b
 |_=>[]
def zE (s:ER):Scope:=match s with
 | .FunctionDef _ _ _ _ _ _ sc _ _ _=>sc
 |_=>{ kind:=.function,names:=[],isGenerator:=false,isCoroutine:=false }
abbrev Cd:Ki:=fun _ _ _ _ _ _=>False
abbrev E0:XK:=fun _ _ _=>False
theorem IW:kG Cd X E0:=fun _ _ _ _ _ _ _ h=>h.elim
structure Wt (K:Ca)(x qual:Str)(st:ER)(f:Ei)(fd:Es):Prop where
 ex:∃(oc:Ej) (od:Option Ei) (kV doc pm:Ej) (an:Option Ei) (cdv ct:Ej) (osl:Array Dc),
  fd=E5 x qual (xT st) (yX st) (zE st) .none kV doc pm an cdv ct/\K.lookup f=some ⟨oc,od,.func fd,osl⟩/\Lw K cdv qual=true
 kp:ES K (.ref f)=true
section
variable {P:Ek}{w:Ep}{K:Ca}{mg:Str->Dc}{base:EC}
theorem Wt.ok {st:ER}{k:Nat}{sp:Sp}(F:Wt K x qual st f fd)(S:W7 N ps<|zE st)
  (d:∀(cdv:Ej) (A:ED) (outer:List Env) (s:Eo) (H:Hp) (vs:Dk) (Q:VK) (E:XK),Wy k (A.deeper<|Mc qual (zE st) s.heap.objs.size f cdv)->sp vs H Q E -> ∃t,R8 (Ix Cd P w K mg base N qual (zE st) f cdv A outer s H E).tZ (yX st) t/\t { nx:=fun _ H'=>Q .non H',rt:=Q } (start N vs) H)(len:∀vs H Q E,sp vs H Q E->vs.length=ps.length:=by intro _ _ _ _ h;first|(cases h;subst_vars;rfl)|repeat first|(obtain⟨rfl,_⟩:=h;rfl)|obtain⟨_,h⟩:=h):W0 P w K mg base Cd (k+1) f fd ps sp:=by
 obtain⟨n,o,kV,e,p,l,cdv,ct,j,rfl,i,b⟩:=F.ex;refine Oa i b S len fun A outer s H vs Q E g c=>?_;obtain⟨t,h,q⟩:=d cdv A outer s H vs Q E g c;exact⟨t,h.tZ,q⟩
theorem Wt.binds {st:ER}{ps:Da}(F:Wt K x qual st f fd)
  (h:∀(kV doc pm:Ej) (an:Option Ei) (cdv ct:Ej) (us:Db),us.length=ps.length->bindArgs (E5 x qual (xT st) (yX st) (zE st) .none kV doc pm an cdv ct) ⟨us,[]⟩=Ln (ps.zip us)):Wr K fd ps []:=by
 obtain⟨e,g,kV,doc,pm,an,cdv,ct,c,rfl,d,b⟩:=F.ex;exact .all<|h kV doc pm an cdv ct
theorem kU {x qual:Str}{st:ER}{f:Ei}{j:Ej}{n g:Option Ei}{e:Array Dc}{kV d i b ct:Ej}(l:K.lookup f=some ⟨j,n,.func<|E5 x qual (xT st) (yX st) (zE st) .none kV d i g b ct,e⟩)
  (c:Lw K b qual=true) (k:ES K (.ref f)=true):Wt K x qual st f (E5 x qual (xT st) (yX st) (zE st) .none kV d i g b ct):=⟨⟨j,n,kV,d,i,g,b,ct,e,rfl,l,c⟩,k⟩
end
theorem KG (b:Wy k A):A.units+1<cLine:=JK (Nat.add_le_add_left (by decide:1<=64) _) b.units
section
variable {X:Cx}
theorem pv (i:Nat){x:Str}{pos:Pos}(c:X.N[i]?=some x:=by rfl)(hv:Rs X.env.scope x:=by first|exact EY rfl|exact Or.inr (EY rfl)|exact Or.inr (Or.inr rfl))(hd:(x==("__debug__":Str))=false:=by decide)
  (b:(x==("__classdict__":Str))=false:=by decide):PE X (.Name x pos) (Ka i):=OT c hv hd b
end
theorem VQ {A B:Prop}(h:B):if false=true then A else B:=by
 rwa[Zm Zs]
theorem VO {A B:Prop}(h:A):if true=true then A else B:=by
 rwa[Zp rfl]
theorem V3 {c A B:Prop} [Decidable c](h1:c->A)(h2:¬c->B):if c then A else B:=by
 by_cases h:c
 ·rw[Zp h];exact h1 h
 ·rw[Zm h];exact h2 h
theorem BZ {c A B:Prop} [Decidable c](hc:c)(h:B):if(!decide c)=true then A else B:=by
 rw[Zc hc];exact VQ h
def W8 (H H':Hp):Prop:=∀b o,H b=some o->H' b=some o
theorem W8.refl (H:Hp):W8 H H:=fun _ _ h=>h
theorem W8.trans (a:W8 H H1)(b:W8 H1 H2):W8 H H2:=fun c o h=>b c o<|a c o h
theorem W8.free (e:W8 H H'){l:Ei}(h:H' l=Option.none):H l=Option.none:=by
 cases q:H l with
 |none=>rfl
 |some o =>
  rw[e l o q]at h;cases h
theorem W8.seq {K:Ca}(e:W8 H H')(h:WP K H a xs):WP K H' a xs:=by
 rcases h with(h|⟨o,h⟩)|h
 ·exact .inl (.inl<|e _ _ h)
 ·exact .inl (.inr ⟨o,e _ _ h⟩)
 ·exact .inr h
section
variable {κ:Type} [DecidableEq κ]
theorem Xu {b:List (κ×V)}{k:κ}(h:VS b k=none):¬k∈b.map (·.1):=by
 intro m;obtain⟨p,c,e⟩:=Ze.mp m;have q:(b.any fun kv=>decide (kv.1=k))=true:=ZP.mpr ⟨p,c,Zc e⟩;rw[qY,h]at q;exact absurd q (by simp)
theorem GQ {b:List (κ×V)}{k:κ}{v:V}(h:VS b k=some v):k∈b.map (·.1):=by
 have q:(b.any fun kv=>decide (kv.1=k))=true:=by
  rw[qY,h]
  all_goals rfl
 obtain⟨p,c,e⟩:=ZP.mp q;exact Ze.mpr ⟨p,c,Zv e⟩
theorem j9:∀{l:List κ} {k:κ},l.Nodup->¬k∈l->(l++[k]).Nodup
 |[],k,_,_=>by simp
 |a::r,k,h,hk=>by
  obtain⟨b,c⟩:=ZK.mp h;show(a::(r++[k])).Nodup;refine ZK.mpr ⟨fun m=>?_,j9 c fun m=>hk<|Za.mpr<|Or.inr m⟩
  rcases ZG.mp m with q|q
  ·exact b q
  ·exact hk (Za.mpr<|EY (Q8.mp q).symm)
end
theorem qG {d b:Type}{f:d->b->Sem (ForInStep b)}(g:b->d->b):∀(l:List d) (c:b),(∀x∈l,∀c,f x c=Ln (.yield<|g c x))->forIn l c f=Ln (l.foldl g c)
 |[],c,_=>rfl
 |x::l,c,h=>by
  rw[List.forIn_cons,h x Zj,pure_bind];exact qG g l (g c x) fun y e=>h y<|Zi _ e
def Uu (cells:List<|Str×Ei)(c:List<|Str×Ei)(x:Str×LR):List (Str×Ei) :=
 if x.2==.free then(match cells.lookup x.1 with|some a=>(x.1,a)::c|none=>c) else c
def xI (env:Env)(sc:LI):List (Str×Ei):=sc.names.foldl (Uu env.cells) []
theorem x8 {scope:LI}{env:Env}(h:∀x∈scope.names,x.2=.free->∃c,env.cells.lookup x.1=some c):closureFor scope env=Ln (xI env scope):=by
 simp only[closureFor];rw[qG (Uu env.cells) scope.names []<|fun x d c=>?_]
 ·rfl
 ·obtain⟨n,k⟩:=x;unfold Uu;cases hk:(k==NameKind.free) with
  |true =>
   have e:k=.free:=by simpa using hk
   obtain⟨a,ha⟩:=h (n,k) d e;have b:env.cells.lookup n=some a:=ha;simp only[hk,if_true,cellOf,b,pure_bind]
  |false=>simp only[hk,ZZ,Y7]
theorem xW {b:Type}(x n:Str)(a:b)(l:List<|Str×b):Lz x ((n,a)::l)=if x=n then some a else Lz x l:=by
 by_cases h:x=n
 ·have hb:(x==n)=true:=Jo.mpr h;simp only[List.lookup_cons,hb,Zp h]
 ·have hb:(x==n)=false:=Yi.mpr h;simp only[List.lookup_cons,hb,Zm h]
theorem XY {cells:List (Str×Ei)}:∀(names:List<|Str×LR) (acc:List<|Str×Ei),(∀x c,acc.lookup x=some c->cells.lookup x=some c) ->
  ∀x c,(names.foldl (Uu cells) acc).lookup x=some c->cells.lookup x=some c
 |[],acc,h=>h
 |(n,k)::r,acc,h=>XY r _ fun x c e=>by
  unfold Uu at e
  by_cases hk:((n,k).2==NameKind.free)=true
  ·rw[Zp hk]at e;dsimp only at e;cases q:cells.lookup n with
   |none=>rw[q]at e;exact h x c e
   |some a =>
    rw[q]at e;dsimp only at e;rw[xW]at e
    by_cases b:x=n
    ·rw[Zp b]at e;rwa[b,q]
    ·rw[Zm b]at e;exact h x c e
  ·rw[Zm hk]at e;exact h x c e
theorem Gb:∀(names:List<|Str×LR) (acc:List<|Str×Ei) (x:Str),(∃c,acc.lookup x=some c)->∃c,(names.foldl (Uu cells) acc).lookup x=some c
 |[],acc,x,h=>h
 | (n,k)::r,acc,x,h=>Gb r _ x (by
  obtain⟨c,h⟩:=h;unfold Uu
  by_cases hk:((n,k).2==NameKind.free)=true
  ·rw[Zp hk];dsimp only;cases q:cells.lookup n with
   |none=>exact⟨c,h⟩
   |some a =>
    dsimp only;rw[xW]
    by_cases b:x=n
    ·exact⟨a,by rw[Zp b]⟩
    ·exact⟨c,by rw[Zm b];exact h⟩
  ·rw[Zm hk];exact⟨c,h⟩)
theorem BI {cells:List (Str×Ei)}{x:Str}{c:Ei}(b:cells.lookup x=some c):∀(names:List<|Str×LR) (acc:List<|Str×Ei),(x,NameKind.free)∈names->∃c,(names.foldl (Uu cells) acc).lookup x=some c
 |[],acc,h=>by cases h
 |(n,k)::r,acc,h=>by
  rcases Za.mp h with e|e
  ·cases e;refine Gb r _ x ⟨c,?_⟩;unfold Uu;rw[Zp<|by rfl];dsimp only;rw[b];dsimp only;rw[xW,Zp rfl]
  ·exact BI b r _ e
theorem Ft {env:Env}{sc:LI}{x:Str}{c:Ei}(b:env.cells.lookup x=some c)(hm:(x,NameKind.free)∈sc.names):(xI env sc).lookup x=some c:=by
 obtain⟨d,h⟩:=BI b sc.names [] hm;have e:=XY sc.names [] (fun x c e=>by cases e) x d h;rw[b]at e;cases e;exact h
theorem qN {x:Str}{c:Ei}(h:(xI env sc).lookup x=some c):env.cells.lookup x=some c :=
 XY sc.names [] (fun x c e=>by cases e) x c h
def BT (env:Env)(x:Str)(k:LR):NameKind:=if(k==.free&&env.scope.kind==.function&&env.kindOf x==some .cell) then .cell else k
theorem jE {env:Env}(x:Str):∀names:List<|Str×LR,
  (names.map fun(n,k)=>if(k==NameKind.free&&env.scope.kind==.function&&env.kindOf n==some .cell) then(n,NameKind.cell) else(n,k)).lookup x=(names.lookup x).map (BT env x)
 |[]=>rfl
 |(n,k)::r=>by
  have c:=jE (env:=env) x r;rw[ZJ];have e:(if(k==NameKind.free&&env.scope.kind==.function&&env.kindOf n==some .cell)=true then(n,NameKind.cell) else(n,k))=(n,BT env n k):=by
   unfold BT
   split<;>rfl
  dsimp only;rw[e,xW,xW]
  by_cases b:x=n
  ·rw[Zp b,Zp b,b];rfl
  ·rwa[Zm b,Zm b]
theorem UW {env:Env}{scope:LI}{cl:List (Str×Ei)}{C:Ei}(x:Str):(L6 scope cl C env).scope.names.lookup x=(scope.names.lookup x).map (BT env x):=jE x scope.names
def VW (src:List<|Option Nat)(b:St):St:=src.map fun o=>o.bind fun i=>(b[i]?).join
structure Wa (sc:LI)(N N':Da)(src:List<|Option Nat)(scope:LI):Prop where
 nd:N'.Nodup
 len:src.length=N'.length
 kind:scope.kind=.function
 zj:∀y∈scope.names,y.2≠.cell
 names:∀y∈scope.names,y.2=.local->scope.names.lookup y.1=some .local
 free:∀y∈scope.names,y.2=.free->sc.names.lookup y.1=some .cell\/sc.names.lookup y.1=some .free
 srcs:((src.zip N').all fun(o,x)=>match o with|none=>true|some i=>N[i]?==some x&&scope.names.lookup x==some .free)=true
theorem Wa.a {sc:LI}{N N':Da}{src:List (Option Nat)}{scope:LI}(nd:N'.Nodup:=by decide +kernel)(len:src.length=N'.length:=by rfl)(kind:scope.kind=.function:=by rfl)(zj:∀y∈scope.names,y.2≠.cell:=by decide +kernel)(names:∀y∈scope.names,y.2=.local->scope.names.lookup y.1=some .local:=by decide +kernel)(free:∀y∈scope.names,y.2=.free->sc.names.lookup y.1=some .cell\/sc.names.lookup y.1=some .free:=by decide +kernel)(srcs:((src.zip N').all fun(o,x)=>match o with|none=>true|some i=>N[i]?==some x&&scope.names.lookup x==some .free)=true:=by decide +kernel):Wa sc N N' src scope:=⟨nd,len,kind,zj,names,free,srcs⟩
theorem Wa.at (O:Wa sc N N' src scope){j i:Nat}{x:Str}(c:src[j]?=some (some i))(d:N'[j]?=some x):N[i]?=some x/\scope.names.lookup x=some .free:=by
 have e:(src.zip N')[j]?=some (some i,x):=by rw[YX];exact⟨c,d⟩
 have q:=ZW.mp O.srcs _<|Zu e;have b:(N[i]?==some x&&scope.names.lookup x==some .free)=true:=q;rw[Zk]at b;exact⟨YZ b.1,YZ b.2⟩
def Cx.comp (X:Cx)(N':Da)(scope:LI)(C:Ei)(s:Eo)(H:Hp)(fp:De):Cx :=
 { X with N:=N',s₀:=s,H₀:=H,env:=L6 scope (xI X.env scope) C X.env,outer:=X.stack,ex:=fp,fn:=fun _=>false,pn:=[],xe:=fun _ _=>False }
theorem Un.adopt {D:Ei}(u:Un fs ex H H1 h h1)(e:h.get? D=none)(c:H D=none):Un fs ex H (upd H1 D o) h h1 where
 keep:=u.keep
 slot:=u.slot
 free:=fun b ob q n f=>by
  have hb:b≠D:=fun z=>by rw[z,e]at q;cases q
  rw[zI hb];exact u.free b ob q n f
 there:=u.there
 tups:=fun b d q=>by rw[zI<|zN q c];exact u.tups b d q
 Tw:=fun b ob d q=>by rw[zI<|zN q c];exact u.Tw b ob d q
 Tg:=fun b g q=>by rw[zI<|zN q c];exact u.Tg b g q
theorem Td.adopt {D:Ei}(x:Td P w H h)(n:H D=none)(new:WT P w (upd H D o) h D o):Td P w (upd H D o) h:=fun b u e=>by
 by_cases hb:b=D
 ·subst hb;rw[zB]at e;cases e;exact new
 ·rw[zI hb]at e;exact(x b u e).stay (fun c v _ q=>q) (fun c q=>by rwa[zI<|zN q n]) fun c d q=>by rwa[zI<|zN q n]
def vN (X:Cx)(b:List EK)(f:TT):Prop :=
 ∀(e:Df) (s:Eo) (d:St) (H:Hp) (Q:Bool->Hp->Prop),Inv X e d H s->f d H Q ->
  Em (Et X.prog X.w) X.A (forIn b true fun c r=>if r=true then do let ok ←isTrue c X.env (EZ c X.env);Ln (Mg ok) else Ln (Mg r)) (TP X e d Q) X.xe s
def IJ:TT:=fun _ H Q=>Q true H
theorem qL:vN X [] IJ:=by
 intro b s c H Q I h;rw[List.forIn_nil];exact Q7 ⟨H,I,h⟩
theorem Mw (g:PT X c tc):vN X [c] tc:=by
 intro d s j H Q I h;rw[List.forIn_cons];refine Q4<|Q4<|Cb (g d s j H _ I h) fun b l ⟨e,f,i⟩=>Q7 ?_;dsimp only;rw[List.forIn_nil];exact Q7 ⟨e,f,i⟩
def Ue (src:List<|Option Nat)(J:It)(g:TG)(u:TT)(t:TE)(Q:VK)(v:St)(H:Hp):Prop :=
 ∃W:Nat->Nat->Dk->St->Hp->Prop,(∃m,W 0 m [] (VW src v) H)/\∀i m f l d,W i m f l d->f.length<=sizeLine /\
 ((J.stop i d/\∀p,d p=none->Q (.ref p) (upd d p<|.lst f)) \/ (J.go i d/\∃n:Dk->St->Hp->Prop,(∀j c e,n j c e->∃q,q<m/\W (i+1) q j c e) /\ ∀x e,J.wI i d x e->g x l e fun c r=>u c r fun b o=>if b=true then t c o fun y s=>n (f++[y]) c s else n f c o))
def Oi (src:List<|Option Nat)(f:TI)(g:TG)(e:TT)(d:TE):TE:=fun b H Q=>f b H fun J c=>Ue src J g e d Q b c
section
variable {X:Cx}{tg elt iter:EK}{ifs:List EK}{scope sc:LI}{N N':Da}{src:List (Option Nat)}{g:TG}{tf:TT}{te:TE}{wi:TI}{pos:Pos}
theorem Cq {prog:Ek}{w:Ep}{A:ED}{R:Result->Di}{s:Eo}{it f:Ej}{env:Env}(I:Nat->Di)
  (o:∀n s,I n s->Em (Et prog w) A (Lu it) (fun r s₁=>match r with
   |none=>R (.ok .next) s₁
   | some v=>Em (Et prog w) A (LF tg it v) (fun _ s₂=>Em (Et prog w) A (Mn tg env v) (fun _ s₃ =>
     Em (Et prog w) A (forIn ifs true fun c r=>if r=true then do let ok ←isTrue c env (EZ c env);Ln (Mg ok) else Ln (Mg r)) (fun ok s₄ =>
      if ok=true then Em (Et prog w) A (EZ elt env) (fun x s₅ =>
       Em (Et prog w) A (call (.builtin "list.append") [f,x]) (fun _ s₆=>∃m,m<n/\I m s₆) (fun _ _=>False) s₅) (fun _ _=>False) s₄
      else∃m,m<n/\I m s₄) (fun _ _=>False) s₃) (fun _ _=>False) s₂) (fun _ _=>False) s₁) (fun _ _=>False) s)
  (n:Nat) (h:I n s):Ls (Et prog w) A (.compLoop (.ListComp elt [⟨tg,iter,ifs,0⟩] scope pos) 0 it f env) R s:=by
 refine codeAny_loop rfl I (fun n s p=>?_) n h;show Em _ A ((compTurn (.ListComp elt [⟨tg,iter,ifs,0⟩] scope pos) 0 it f env).onRaise (fun x=>do noteFrame x env;theTreesLotGoes x)) _ _ s;refine wpAny_noted ?_;rw[compTurn_list];refine Q4<|Vu<|Q4<|Z3 (o n s p) (fun r s₁ d=>?_) fun _ _ b=>b.elim;cases r with
 |none=>exact Q7 d
 |some v =>
  refine Q4<|Z3 d (fun _ s₂ g=>?_) fun _ _ b=>b.elim;refine Q4<|Z3 g (fun _ s₃ i=>Q4<|Z3 i (fun ok s₄ e=>?_) fun _ _ b=>b.elim) fun _ _ b=>b.elim;cases ok with
  |false=>exact Q7 ⟨rfl,e⟩
  |true =>
   exact Q4<|Q4<|Z3 e (fun x s₅ j=>Q4<|Z3 j (fun _ s₆ l=>Q7<|Q7 ⟨rfl,l⟩) fun _ _ b=>b.elim) fun _ _ b=>b.elim
theorem Nd {fp:De}{C:Ei}(O:Wa sc N N' src scope)(f:X.env.scope=sc)(I:Inv X Do σ H s)(d:∀b∈fp,Uj X Do H b)
  (r:∀b∈fp,∃o,s.heap.get? b=some o) (i:s.heap.objs.size<=C):(X.comp N' scope C s H fp).Ok:=by
 have hk:∀x,((L6 scope (xI X.env scope) C X.env).kindOf x=some .cell\/(L6 scope (xI X.env scope) C X.env).kindOf x=some .free)->(x,NameKind.free)∈scope.names:=fun x h=>by
  have h:(L6 scope (xI X.env scope) C X.env).scope.names.lookup x=some .cell\/(L6 scope (xI X.env scope) C X.env).scope.names.lookup x=some .free:=h;rw[UW]at h;cases q:scope.names.lookup x with
  |none=>rw[q]at h;rcases h with h|h<;>cases h
  |some k =>
   have hm:=Ys q;rw[q]at h;cases k with
   |free=>exact hm
   |cell=>exact absurd rfl<|O.zj _ hm
   |_ =>
    exfalso
    rcases h with h|h<;>(have g:=Option.some.inj h;unfold BT at g;simp at g)
 refine⟨I.ok.mod,O.kind,I.ok.glob,I.ok.blt,i,fun x y c l n=>I.ok.inj x y c (qN l)<|qN n,fun x h=>?_,fun x c h=>(by cases h),I.ok.hd,I.ok.frames,.inl rfl,fun b hb=>?_,I.bs,Yc I.ok.v6 I.sz,fun b o e hb=>?_,fun b hb z=>?_,I.stack,I.SJ⟩
 ·have hm:=hk x h;have j:=O.free _ hm rfl;rw[←f]at j;obtain⟨c,p⟩:=I.ok.has x j;exact⟨c,Ft p hm⟩
 ·refine⟨?_,fun x c h=>(d b hb).2.2.2.2.1 x c<|qN h⟩;obtain⟨o,e⟩:=r b hb;exact Zl<|Zq (Zd e) i
 ·rcases(d b hb).2.2.2.1 with z|z
  ·exact I.ok.wY b o e z
  ·exact absurd (Zq (Zq (Zd e) I.ok.v6) z) (ZQ _)
 ·rcases Za.mp (I.Sy b z) with e|e
  ·exact(d b hb).2.1 e
  ·exact(d b hb).2.2.1 e
theorem G0 {fp:De}{C:Ei}{h':EC}{Q:Nat}(O:Wa sc N N' src scope)(t:X.env.scope=sc)(F:X.N=N)(I:Inv X Do σ H s)(G:∀b∈fp,Uj X Do H b)
  (J:∀b∈fp,∃o,s.heap.get? b=some o) (B:s.heap.objs.size<=C) (k:∀b o,s.heap.get? b=some o->h'.get? b=some o) {M:Str->Dc} (hn:h'.Ns C M) :
  Inv (X.comp N' scope C s H fp) [] (VW src σ) H { s with heap:=h',toks:=Q }:=by
 have cells:∀x c,X.env.cells.lookup x=some c->∀v,s.heap.IsCell c v->h'.IsCell c v:=fun x c _ v ⟨o,e,d⟩=>⟨o,k c o e,d⟩;refine⟨Nd O t I G J B,rfl,I.bare,Un.kept k,⟨_,hn,fun j x v A f R=>?_⟩,fun x c e=>?_,I.hok.fresh B,fun x c e=>I.Wm x c<|qN e,fun p K=>(by cases K),I.hok.kept k,?_⟩
 ·have f:(VW src σ)[j]?=some (some v):=f;have A:N'[j]?=some x:=A;unfold VW at f;rw[Zo]at f;cases q:src[j]? with
  |none=>rw[q]at f;cases f
  |some o =>
   rw[q]at f;have f:(o.bind fun i=>(σ[i]?).join)=some v:=Option.some.inj f;cases o with
   |none=>cases f
   |some i =>
    have f:(σ[i]?).join=some v:=f;obtain⟨S,n⟩:=O.at q A;have D:=Ys n;have E:σ[i]?=some (some v):=by
     cases r:σ[i]? with
     |none=>rw[r]at f;cases f
     |some w=>rw[r]at f;cases w with
      |none=>cases f
      |some w'=>have:w'=v:=Option.some.inj f;rw[this]
    have l:=O.free _ D rfl;rw[←t]at l;obtain⟨m,hm,hl⟩:=I.loc;obtain⟨u,P,L⟩:=hl i x v (by rwa[F]) E<|.inr l;refine⟨u,P,.inr ?_⟩;obtain⟨c,y,g⟩:∃c,X.env.cells.lookup x=some c/\s.heap.IsCell c (some u):=by
     rcases L with⟨z,_⟩|⟨_,c,y,hz⟩
     ·exfalso;have z:X.env.scope.names.lookup x=some .local:=z
      rcases l with l|l<;>(rw[l]at z;cases z)
     ·exact⟨c,y,hz⟩
    refine⟨?_,c,Ft y D,cells x c y _ g⟩;show(L6 scope (xI X.env scope) C X.env).scope.names.lookup x=some .cell\/(L6 scope (xI X.env scope) C X.env).scope.names.lookup x=some .free;rw[UW,n];show some (BT X.env x .free)=some .cell\/some (BT X.env x .free)=some .free;unfold BT
    split
    ·exact .inl rfl
    ·exact .inr rfl
 ·obtain⟨v,z⟩:=I.cell x c<|qN e;exact⟨v,cells x c (qN e) v z⟩
 ·show(VW src σ).length=N'.length;unfold VW;rw[Q5];exact O.len
theorem XF {Do:Df}{σ:St}{H:Hp}{s:Eo}{fp:De}{it:Ei}{tn:Nat->EC->Prop}{J:It}{E:Ej->Di}{RR:Ej->Ei->Result->Di}{Fin:Dk->Hp->Prop}(O:Wa sc N N' src scope)(au:X.env.scope=sc)(hN:X.N=N)(D5:X.calm=true)
  (hg:∀C s H fp,PG (X.comp N' scope C s H fp) tg g) (as:∀C s H fp,vN (X.comp N' scope C s H fp) ifs tf) (he:∀C s H fp,PE (X.comp N' scope C s H fp) elt te)
  (I:Inv X Do σ H s) (T:Turn X.prog X.w X.K tg J fp it tn) (t0:tn 0 s.heap) (hf:∀b∈fp,Uj X Do H b)
  (W:Nat->Nat->Dk->St->Hp->Prop) (m0:Nat) (w0:W 0 m0 [] (VW src σ) H)
  (hW:∀i m ys σ' H',W i m ys σ' H'->ys.length<=sizeLine/\((J.stop i H'/\Fin ys H') \/ (J.go i H'/\∃Nx:Dk->St->Hp->Prop,(∀ys2 σ2 H2,Nx ys2 σ2 H2->∃m',m'<m/\W (i+1) m' ys2 σ2 H2) /\ ∀x H2,J.wI i H' x H2->g x σ' H2 fun σ2 H3=>tf σ2 H3 fun b H4=>if b=true then te σ2 H4 fun y H5=>Nx (ys++[y]) σ2 H5 else Nx ys σ2 H4)))
  (ar:∀(D C:Ei) (s':Eo) (σ':St) (H':Hp) (ys:Dk) (its:Db) (n:Nat),s.heap.objs.size<=D->s.heap.objs.size<=C->Inv (X.comp N' scope C s H fp) [] σ' H' s'->s'.heap.get? D=some { cls:=.type "list",data:=.seq its.toArray n }->W2 ys its->ys.length<=sizeLine -> H' D=none->D≠C->Fin ys H'->RR (.ref D) C (.ok .next) s') :
  Em (Et X.prog X.w) X.A (newList []) (fun acc s₃=>Em (Et X.prog X.w) X.A (newFunctionEnv scope X.env.globals (xI X.env scope) [] X.env.qual none .none<|some X.env) (fun cenv s₄ => Ls (Et X.prog X.w) X.A (.compStart (.ListComp elt [⟨tg,iter,ifs,0⟩] scope pos) 0 (.ref it) acc { cenv with scope:=relabel scope X.env }) (RR acc cenv.locals) s₄) E s₃) E s:=by
 refine Zx (wpAny_newFunctionEnv O.zj (by intro y hy;cases hy) (fun F j f=>?_) O.kind);dsimp only at j f ⊢;generalize aa:s.heap.push { cls:=.type "list",dict:=none,data:=.seq ([]:Db).toArray }=P2 at j f ⊢;have Z:P2.objs.size=s.heap.objs.size+1:=by rw[←aa,Z8]
 have L:s.heap.objs.size≠P2.objs.size:=by rw[Z];exact Zl<|YN _
 have ax:s.heap.objs.size<=P2.objs.size:=by rw[Z];exact Ym _
 have below:∀b,b<s.heap.objs.size->b≠P2.objs.size/\b≠s.heap.objs.size:=fun b hb=>⟨by rw[Z];exact Zl<|Yk hb,Zl hb⟩;have old:∀b o,s.heap.get? b=some o->F.get? b=some o:=fun b o e=>f.extBut b o (below b<|Zd e).1<|Q6 _<|aa▸Q6 _ e;have DP:F.get? s.heap.objs.size=some { cls:=.type "list",data:=.seq ([]:Db).toArray 0 }:=f.extBut _ _ L<|Q6 _<|aa▸Zb _ rfl;have ae:∀b∈fp,∃o,s.heap.get? b=some o:=fun b hb=>let ⟨o,e,_⟩:=T.obj 0 _ t0 b hb;⟨o,e⟩;have G:∀b∈fp,b<s.heap.objs.size:=fun b hb=>let ⟨o,e⟩:=ae b hb;Zd e;generalize hD:s.heap.objs.size=D at *;generalize hC:P2.objs.size=C at *;have aj:∀tk,Inv (X.comp N' scope C s H fp) [] (VW src σ) H { s with heap:=F,toks:=tk }:=fun tk=>G0 O au hN I hf ae (by rwa[hD]) old j;have Sg:(X.comp N' scope C s H fp).Ok:=(aj 0).ok;have M:∀{H':Hp} {pl:Df},(∀b∈fp,H' b=none)->(∀p∈pl,p.1∉fp)->∀b∈fp,Uj (X.comp N' scope C s H fp) pl H' b:=fun{H' pl} hn l b hb =>
  ⟨hn b hb,(Sg.vp b hb).1,Sg.yt b hb,.inl hb,(Sg.vp b hb).2,fun p hm=>by
   have hm:p∈pl:=by simpa[Cx.comp] using hm
   exact fun z=>l p hm<|z▸hb⟩
 have ad:D∉(X.comp N' scope C s H fp).fs:=fun hb=>by
  obtain⟨_,o,ho,_⟩:=Sg.Tz.mem hb;have ho:s.heap.get? D=some o:=ho;have h1:=Zd ho;rw[hD]at h1;exact ZQ _ h1
 have S:∀x c,(X.comp N' scope C s H fp).env.cells.lookup x=some c->c≠D:=fun x c e z=>by
  obtain⟨v,o,ho,_⟩:=I.cell x c<|qN e;have h1:=Zd ho;rw[hD,z]at h1;exact ZQ _ h1
 have loop:∀tk,Ls (Et X.prog X.w) X.A (.compLoop (.ListComp elt [⟨tg,iter,ifs,0⟩] scope pos) 0 (.ref it) (.ref D)<|L6 scope (xI X.env scope) C X.env) (RR (.ref D) C) { s with heap:=F,toks:=tk }:=by
  intro tk;refine Cq (fun n s'=>∃i ys σ' H' its c,Inv (X.comp N' scope C s H fp) [] σ' H' s'/\tn i s'.heap/\(∀b∈fp,H' b=none)/\s'.heap.get? D=some { cls:=.type "list",data:=.seq (its:Db).toArray c }/\W2 ys its/\H' D=none/\W i n ys σ' H') ?_ m0
   ⟨0,[],VW src σ,H,[],0,aj tk,T.keep 0 _ _ t0 fun b _ o e=>old b o e,fun b hb=>(hf b hb).1,DP,.nil,I.hok.fresh (by rw[hD];exact Q9 _),w0⟩
  rintro n s3 ⟨i,ys,t,H3,its,B,I3,al,af,d3,v3,ah,w3⟩;obtain⟨Dp,ap⟩:=hW i n ys t H3 w3
  rcases ap with⟨stop,fin⟩|⟨go,Nx,hNx,step⟩
  ·have U:Inv (X.comp N' scope C s H fp) [(D,{ cls:=.type "list",data:=.seq its.toArray B })] t H3 s3:=I3.Wk fun p l=>by
    have e:p=(D,{ cls:=.type "list",data:=.seq its.toArray B }):=by simpa using l
    subst e;exact⟨d3,ah,L,ad,fun v z=>by cases z⟩
   refine Cb (T.done (X.comp N' scope C s H fp) rfl rfl rfl D5 i _ s3 t H3 _ U (M af fun p l z=>by
    have e:p=(D,{ cls:=.type "list",data:=.seq its.toArray B }):=by simpa using l
    rw[e]at z;exact ZQ _<|G D z) al stop) fun r s4 ⟨hr,I4⟩=>?_
   subst hr;obtain⟨d4,av,_⟩:=I4.pin (D,{ cls:=.type "list",data:=.seq its.toArray B }) (by simp[Cx.comp]);exact ar D C s4 t H3 ys its B (by omega) (by omega) (I4.Wk fun p l=>(by cases l)) d4 v3 Dp av L fin
  ·have U:Inv (X.comp N' scope C s H fp) [(D,{ cls:=.type "list",data:=.seq its.toArray B })] t H3 s3:=I3.Wk fun p l=>by
    have e:p=(D,{ cls:=.type "list",data:=.seq its.toArray B }):=by simpa using l
    subst e;exact⟨d3,ah,L,ad,fun v z=>by cases z⟩
   have ag:∀p∈[((D,{ cls:=.type "list",data:=.seq its.toArray B }):Ei×Obj)],p.1∉fp:=fun p l z=>by
    have e:p=(D,{ cls:=.type "list",data:=.seq its.toArray B }):=by simpa using l
    rw[e]at z;exact ZQ _<|G D z
   refine Cb (T.item (X.comp N' scope C s H fp) rfl rfl rfl D5 i _ s3 t H3 _ U (M af ag) al go) fun r s4 ⟨u,hr,h4⟩=>?_;subst hr;refine Cb h4 fun _ s5 hh=>?_;obtain⟨x,H5,I5,r5,y5,ac,aq⟩:=hh;have an:=I5.pinned (M aq ag)<|T.obj _ _ ac;have R:(D,({ cls:=.type "list",data:=.seq its.toArray B }:Obj))∈(X.comp N' scope C s H fp).pn++([((D,{ cls:=.type "list",data:=.seq its.toArray B }):Ei×Obj)]++kK fp s5.heap):=by simp[Cx.comp]
   have Q:∀{am:St} {P:Hp} {s7:Eo},Inv (X.comp N' scope C s H fp) ([((D,{ cls:=.type "list",data:=.seq its.toArray B }):Ei×Obj)]++kK fp s5.heap) am P s7 ->
     tn (i+1) s7.heap/\∀b∈fp,P b=none:=fun{am P s7} Y=>⟨T.keep _ _ _ ac fun b hb o e=>(Y.pin (b,o)<|Zy _<|Zy _<|xP hb e).1,fun b hb=>by
    obtain⟨o,e,d⟩:=T.obj _ _ ac b hb;exact(Y.pin (b,o)<|Zy _<|Zy _<|xP hb e).2.1⟩
   refine Cb (hg C s H fp _ s5 t H5 x u _ an r5<|step x H5 y5) fun _ s6 ⟨q,H6,I6,q6⟩=>?_;refine Cb (as C s H fp _ s6 q H6 _ I6 q6) fun b s7 ⟨P,Y,q7⟩=>?_;cases b with
   |false =>
    obtain⟨m',ab,w7⟩:=hNx ys q P (by simpa using q7);obtain⟨b1,b2⟩:=Q Y;obtain⟨d7,aw,_⟩:=Y.pin _ R;exact⟨m',ab,i+1,ys,q,P,its,B,Y.Wk fun p l=>(by cases l),b1,b2,d7,v3,aw,w7⟩
   |true =>
    have q7:te q P fun y H5=>Nx (ys++[y]) q H5:=by simpa using q7
    rw[Zp rfl];refine Cb (he C s H fp _ s7 q P _ Y q7) fun u8 s8 ⟨y,H8,I8,r8,n8⟩=>?_;obtain⟨m',ab,w8⟩:=hNx _ _ _ n8;obtain⟨b1,b2⟩:=Q I8;obtain⟨d8,ai,_⟩:=I8.pin _ R;have hl:=v3.length;refine wpAny_list_append_plain (items:=its.toArray) ⟨B,d8⟩ (fun h9 ⟨c9,d9⟩ ak=>?_) (by rwa[Zn,←hl]);have ao:Inv (X.comp N' scope C s H fp) [] q H8 s8:=I8.Wk fun p l=>by cases l
    have I9:Inv (X.comp N' scope C s H fp) [] q H8 { s8 with heap:=h9 }:=ao.turned (t':=s8.toks) (it:=D) (fun b o hb e=>(ak.2 b hb).trans e) ai L (.inr (by show s.heap.objs.size<=D;omega)) S (fun p l=>by
     have l:p∈([]:Df):=by simpa[Cx.comp] using l
     cases l)
    refine⟨m',ab,i+1,ys++[y],q,H8,its++[u8],c9,I9,T.keep _ _ _ b1 fun b hb o e=>(ak.2 b<|fun z=>ZQ _<|z▸G b hb).trans e,b2,?_,v3.append<|.cons r8 .nil,ai,w8⟩;show h9.get? D=_;rw[d9];simp
 exact codeAny_compStart_list (loop _)<|T.self _ 0 _ _ _ (T.keep 0 _ _ t0 fun b _ o e=>old b o e)<|loop _
theorem comp_back {f:St}{H':Hp}{e:Eo}{fp:De}{C D:Ei}{ys:Dk}{c:Db}{n:Nat}(I:Inv X Do σ H s)(p:∀b∈fp,Uj X Do H b)
  (J:Inv (X.comp N' scope C s H fp) [] f H' e) (g:s.heap.objs.size<=D) (d:e.heap.get? D=some { cls:=.type "list",data:=.seq c.toArray n }) (v:W2 ys c) (hl:ys.length<=sizeLine) (q:H' D=none) :
  Inv X Do σ (upd H' D<|.lst ys) e:=by
 have u:Un (frs X.stack) fp H H' s.heap e.heap:=J.base;refine I.call' (ch:=fp) J.os (u.adopt (J5 g)<|I.hok.fresh g) (J.hok.adopt q ⟨hl,c,n,v,d⟩) J.bare fun b hb=>?_;obtain⟨_,i,_,j,l,o⟩:=p b hb;exact⟨j,i,l,o⟩
theorem UP {C:Ei}{h':EC}(I:Inv X Do σ H s)(d:Inv X Do σ2 H2 s2)(l:s.heap.objs.size<=C)(c:H2 C=none)(n:E6 C s2.heap h'):Inv X Do σ2 H2 { s2 with heap:=h' }:=by
 obtain⟨_,f,_,g,i,j⟩:=I.yq (H':=H2) l c;exact d.turned (t':=s2.toks) (it:=C) (fun b o hb e=>(n.2 b hb).trans e) c f g i j
theorem xR (O:Wa sc N N' src scope)(c:X.env.scope=sc)(S:X.N=N)(G:X.calm=true)(Z:PI X tg iter wi)
  (Y:∀C s H fp,PG (X.comp N' scope C s H fp) tg g) (t:∀C s H fp,vN (X.comp N' scope C s H fp) ifs tf) (U:∀C s H fp,PE (X.comp N' scope C s H fp) elt te)
  (hs:∀x,LZ iter X.env x=Ln x:=by intro _;rfl):PE X (.ListComp elt [⟨tg,iter,ifs,0⟩] scope pos) (Oi src wi g tf te):=by
 intro y s F H Q I h;rw[eval_ListComp];have b:closureFor scope X.env=Ln (xI X.env scope):=x8 fun x hx hk=>I.ok.has x.1 (by
  have:=O.free x hx hk;rw[←c]at this;exact this)
 refine JC (use:=none) rfl hs b O.kind O.names<|Cb (Z y s F H _ I h) fun v s1 L=>Cb L fun ab s2 M=>?_;obtain⟨it,fp,tn,J,H2,e,j,T,u,z,W,⟨m0,w0⟩,f⟩:=M;subst e;refine XF (RR:=fun o C=>compPost (Et X.prog X.w) X.A X.xe none (EP X y F Q) o C) (Fin:=fun E i=>∀p,i p=none->Q (.ref p) (upd i p<|.lst E)) O c S G Y t U j T u z W m0 w0 f ?_;intro D C s' ac i E aa n R P l d vv hl B r q;have K:=comp_back j z l R d vv hl B;obtain⟨m,hm,_⟩:=l.loc;have nC:i C=none:=l.free;refine⟨m,hm,fun h' sb=>⟨.ref D,_,UP j K P (by rwa[zI<|EE r]) sb,rfl,q D B⟩⟩
theorem NO {k:Nat}{y:Str}{i c:Pos}(O:Wa sc N N' src scope)(q:X.env.scope=sc)(hN:X.N=N)(D5:X.calm=true)(hi:PI X tg iter wi)
  (hg:∀C s H fp,PG (X.comp N' scope C s H fp) tg g) (L:∀C s H fp,vN (X.comp N' scope C s H fp) ifs tf) (he:∀C s H fp,PE (X.comp N' scope C s H fp) elt te)
  (nd:X.N.Nodup) (hk:X.N[k]?=some y) (P:Loc X.env.scope y)
  (M:Mb (.ListComp elt [⟨tg,iter,ifs,0⟩] scope pos) (some<|.Name y i) c.line X.env=Ln true:=by rfl)
  (hf:X.fn y=true\/X.env.scope.names.lookup y=some .local:=by first|exact .inl rfl|exact .inr rfl|assumption)
  (hs:∀x,LZ iter X.env x=Ln x:=by intro _;rfl):PS X (.Assign [.Name y i] (.ListComp elt [⟨tg,iter,ifs,0⟩] scope pos) c) (MV (Oi src wi g tf te)<|Uv k):=by
 intro u s Z H b I h;rw[exec_Assign_Name_used _ _ _ _ M];refine Q4<|Vu<|Q4 ?_;show Em _ X.A (do let _ ←comprehension (.ListComp elt [⟨tg,iter,ifs,0⟩] scope pos) scope X.env _ (newList []) false (EZ iter X.env) (some<|Mn (.Name y i) X.env)) _ _ s;have f:closureFor scope X.env=Ln (xI X.env scope):=x8 fun x P hk=>I.ok.has x.1 (by
  have:=O.free x P hk;rw[←q]at this;exact this)
 refine Q4<|Z3 (JC (use:=some<|Mn (.Name y i) X.env) (Q:=fun _ j=>SP X u b .next j) rfl hs f O.kind O.names<|Cb (hi u s Z H _ I h) fun v s1 h1=>Cb h1 fun ab s2 h2=>?_) (fun _ j hq=>Q7<|Q7 hq) fun _ _ e=>e
 obtain⟨it,fp,tn,J,H2,e,l,T,R,S,W,⟨m0,w0⟩,r⟩:=h2;subst e;refine XF (RR:=fun E C=>compPost (Et X.prog X.w) X.A X.xe (some<|Mn (.Name y i) X.env) (fun _ j=>SP X u b .next j) E C) (Fin:=fun Y t=>∀p,t p=none->Uv k (.ref p) Z (upd t p<|.lst Y) b.nx) O q hN D5 hg L he l T R S W m0 w0 r ?_;intro D C j ac t Y aa n hD G B d vv hl U K F;have I3:=comp_back l S B hD d vv hl U;obtain⟨m,hm,_⟩:=B.loc;have nC:t C=none:=B.free;show Em _ X.A (Mn (.Name y i) X.env<|.ref D) _ _ j;refine Vm<|UO I3 nd hk P (v:=.ref D) rfl (fun s4 I4 ⟨a,sa,ha⟩=>?_) hf;have aC:C≠a:=by
  rcases ha with e|e
  ·rw[e];intro z;exact ZQ _<|Zq l.lt<|z▸G
  ·intro z;obtain⟨v,o,ho,_⟩:=l.cell y a e;exact ZQ _<|Zq (Zd ho)<|z▸G
 refine⟨m,Heap.Ns.sameBut hm sa aC,fun h' sb=>⟨_,_,UP l I4 G (by rwa[zI<|EE K]) sb,F D U⟩⟩
end
def RS (t u:TS):TS:=fun D d H=>∃R:St->Hp->Prop,t { D with nx:=R } d H/\∀b c,R b c->u D b c
theorem k8 {st:ER}{b:List ER}(i:PS X st t)(j:R8 X b u):R8 X (st::b) (RS t u):=by
 intro d s o H D I ⟨R,h,l⟩;refine VA<|Cb (i d s o H { D with nx:=R } I h) fun f n q=>?_;cases f with
 |next =>
  obtain⟨c,e,g,q⟩:=q;exact j d n c e D g<|l c e q
 |ret v=>exact q
 |brk=>exact q
 |cont=>exact q
section
variable {K:Ca}{src:List (Option Nat)}{g:TG}{tf:TT}{te:TE}{Q:VK}{a:Ei}{xs:Dk}{σ:St}{H:Hp}
theorem Uy {J:It}(n:Nat)(d:Nat->Dk->St->Hp->Prop)(q:d 0 [] (VW src σ) H)(hz:n<=sizeLine)(hl:∀i ys σ H,i<=n->d i ys σ H->ys.length<=i)
  (o:∀ys σ H,d n ys σ H->J.stop n H) (l:∀i ys σ H,i<n->d i ys σ H->J.go i H)
  (hs:∀i ys σ H,i<n->d i ys σ H->∀x H2,J.wI i H x H2->g x σ H2 fun σ2 H3=>tf σ2 H3 fun b H4=>if b=true then te σ2 H4 fun y H5=>d (i+1) (ys++[y]) σ2 H5 else d (i+1) ys σ2 H4)
  (hd:∀ys σ H,d n ys σ H->∀p,H p=none->Q (.ref p) (upd H p<|.lst ys)):Ue src J g tf te Q σ H:=by
 refine⟨fun i m ys σ H=>m=n-i/\i<=n/\d i ys σ H,⟨n,by simp,ZA _,q⟩,?_⟩;rintro i m ys c j ⟨rfl,r,p⟩;have t:=hl i ys c j r p;refine⟨by omega,?_⟩
 by_cases f:i<n
 ·exact .inr ⟨l i ys c j f p,d<|i+1,fun s σ2 H2 z=>⟨n-(i+1),by omega,rfl,f,z⟩,fun x H2 y=>hs i ys c j f p x H2 y⟩
 ·have e:i=n:=by omega
  subst e;exact .inl ⟨o ys c j p,hd ys c j p⟩
theorem Hu (c:Nat->Dk->St->Hp->Prop)(f:c 0 [] (VW src σ) H)(hz:xs.length<=sizeLine)(hl:∀i ys σ H,i<=xs.length->c i ys σ H->WP K H a xs/\ys.length<=i)
  (hs:∀i x ys σ H,xs[i]?=some x->c i ys σ H->g x σ H fun σ2 H3=>tf σ2 H3 fun b H4=>if b=true then te σ2 H4 fun y H5=>c (i+1) (ys++[y]) σ2 H5 else c (i+1) ys σ2 H4)
  (hd:∀ys σ H,c xs.length ys σ H->∀p,H p=none->Q (.ref p) (upd H p<|.lst ys)):Ue src (M6 K a) g tf te Q σ H :=
 Uy xs.length c f hz (fun i ys σ H d p=>(hl i ys σ H d p).2) (fun ys σ H p=>⟨xs,(hl _ ys σ H (Q9 _) p).1,Q9 _⟩) (fun i ys σ H d p=>⟨xs,xs[i],(hl i ys σ H (Yd d) p).1,by simp[d]⟩)
  (fun i ys σ H d p x j y=>by
   obtain⟨e,y⟩:=y;subst e;exact hs i x ys σ _ (y xs (hl i ys σ _ (Yd d) p).1) p) hd
theorem Kp (c:Nat->Dk->St->Hp->Prop)(f:c 0 [] (VW src σ) H)(hz:xs.length<=sizeLine)(hl:∀i ys σ H,i<=xs.length->c i ys σ H->Wu K H a xs/\ys.length<=i)
  (hs:∀i x ys σ H,xs[i]?=some x->c i ys σ H->g x σ H fun σ2 H3=>tf σ2 H3 fun b H4=>if b=true then te σ2 H4 fun y H5=>c (i+1) (ys++[y]) σ2 H5 else c (i+1) ys σ2 H4)
  (hd:∀ys σ H,c xs.length ys σ H->∀p,H p=none->Q (.ref p) (upd H p<|.lst ys)):Ue src (Om K a) g tf te Q σ H :=
 Uy xs.length c f hz (fun i ys σ H d p=>(hl i ys σ H d p).2) (fun ys σ H p=>⟨xs,(hl _ ys σ H (Q9 _) p).1,Q9 _⟩) (fun i ys σ H d p=>⟨xs,xs[i],(hl i ys σ H (Yd d) p).1,by simp[d]⟩)
  (fun i ys σ H d p x j y=>by
   obtain⟨e,y⟩:=y;subst e;exact hs i x ys σ _ (y xs (hl i ys σ _ (Yd d) p).1) p) hd
theorem Cz {lo:Int}{n:Nat}(c:Nat->Dk->St->Hp->Prop)(f:c 0 [] (VW src σ) H)(hz:n<=sizeLine)(hl:∀i ys σ H,i<=n->c i ys σ H->ys.length<=i)
  (hs:∀i ys σ H,i<n->c i ys σ H->g (.int<|lo+i) σ H fun σ2 H3=>tf σ2 H3 fun b H4=>if b=true then te σ2 H4 fun y H5=>c (i+1) (ys++[y]) σ2 H5 else c (i+1) ys σ2 H4)
  (hd:∀ys σ H,c n ys σ H->∀p,H p=none->Q (.ref p) (upd H p<|.lst ys)):Ue src (M8 lo n) g tf te Q σ H :=
 Uy n c f hz hl (fun _ _ _ _=>Q9 _) (fun _ _ _ _ d _=>d)
  (fun i ys σ H d p x j y=>by
   obtain⟨e,y⟩:=y;subst e y;exact hs i ys σ _ d p) hd
theorem GU {te:TE}{A:V->St->Hp->Prop}{B:St->Hp->Prop}:(fun σ2 H3=>IJ σ2 H3 fun b H4=>if b=true then te σ2 H4 (fun y H5=>A y σ2 H5) else B σ2 H4)=fun(σ2:St) (H3:Hp)=>te σ2 H3 fun y H5=>A y σ2 H5:=by
 funext σ2 H3
 show(if true=true then(te σ2 H3 fun y H5=>A y σ2 H5) else B σ2 H3)=_;rw[Zp rfl]
theorem j6 (b:Nat->Dk->St->Hp->Prop)(c:b 0 [] (VW src σ) H)(hz:xs.length<=sizeLine)(hl:∀i ys σ H,i<=xs.length->b i ys σ H->WP K H a xs/\ys.length<=i)
  (hs:∀i x ys σ H,xs[i]?=some x->b i ys σ H->g x σ H fun σ2 H3=>te σ2 H3 fun y H5=>b (i+1) (ys++[y]) σ2 H5)
  (hd:∀ys σ H,b xs.length ys σ H->∀p,H p=none->Q (.ref p) (upd H p<|.lst ys)):Ue src (M6 K a) g IJ te Q σ H :=
 Hu b c hz hl (fun i x ys σ H e p=>by rw[GU];exact hs i x ys σ H e p) hd
theorem jY (b:Nat->Dk->St->Hp->Prop)(c:b 0 [] (VW src σ) H)(hz:xs.length<=sizeLine)(hl:∀i ys σ H,i<=xs.length->b i ys σ H->Wu K H a xs/\ys.length<=i)
  (hs:∀i x ys σ H,xs[i]?=some x->b i ys σ H->g x σ H fun σ2 H3=>te σ2 H3 fun y H5=>b (i+1) (ys++[y]) σ2 H5)
  (hd:∀ys σ H,b xs.length ys σ H->∀p,H p=none->Q (.ref p) (upd H p<|.lst ys)):Ue src (Om K a) g IJ te Q σ H :=
 Kp b c hz hl (fun i x ys σ H e p=>by rw[GU];exact hs i x ys σ H e p) hd
theorem BP {lo:Int}{n:Nat}(b:Nat->Dk->St->Hp->Prop)(c:b 0 [] (VW src σ) H)(hz:n<=sizeLine)(hl:∀i ys σ H,i<=n->b i ys σ H->ys.length<=i)
  (hs:∀i ys σ H,i<n->b i ys σ H->g (.int<|lo+i) σ H fun σ2 H3=>te σ2 H3 fun y H5=>b (i+1) (ys++[y]) σ2 H5)
  (hd:∀ys σ H,b n ys σ H->∀p,H p=none->Q (.ref p) (upd H p<|.lst ys)):Ue src (M8 lo n) g IJ te Q σ H :=
 Cz b c hz hl (fun i ys σ H e p=>by rw[GU];exact hs i ys σ H e p) hd
end
mutual
def Dt (K:Ca)(H:Hp):Er->V->Prop
 | .none,v=>v=.non
 | .bool b,v=>v=.bl b
 | .int i,v=>v=.int i
 | .str x,v=>v=.str x
 | .list ds,v=>∃a c,v=.ref a/\WP K H a c/\W6 K H ds c
 | .tuple ds,v=>∃a c,v=.ref a/\Wu K H a c/\W6 K H ds c
 | .dict _,_=>False
def W6 (K:Ca)(H:Hp):Dg->Dk->Prop
 |[],xs=>xs=[]
 |d::ds,xs=>∃x r,xs=x::r/\Dt K H d x/\W6 K H ds r
end
theorem W8.Wv {K:Ca}(e:W8 H H')(h:Wu K H a xs):Wu K H' a xs:=by
 rcases h with(h|⟨o,h⟩)|h
 ·exact .inl (.inl<|e _ _ h)
 ·exact .inl (.inr ⟨o,e _ _ h⟩)
 ·exact .inr h
mutual
theorem Dt.same {K:Ca}(e:W8 H H'):∀(d:Er) (v:V),Dt K H d v->Dt K H' d v
 | .none,_,h=>h
 | .bool _,_,h=>h
 | .int _,_,h=>h
 | .str _,_,h=>h
 | .list ds,_,⟨a,xs,h1,h2,h3⟩=>⟨a,xs,h1,e.seq h2,W6.same e ds xs h3⟩
 | .tuple ds,_,⟨a,xs,h1,h2,h3⟩=>⟨a,xs,h1,e.Wv h2,W6.same e ds xs h3⟩
 | .dict _,_,h=>h
theorem W6.same {K:Ca}(e:W8 H H'):∀(ds:Dg) (xs:Dk),W6 K H ds xs->W6 K H' ds xs
 |[],_,h=>h
 |d::ds,_,⟨x,r,h1,h2,h3⟩=>⟨x,r,h1,Dt.same e d x h2,W6.same e ds r h3⟩
end
theorem W6.length {K:Ca}:∀{ds:Dg} {xs:Dk},W6 K H ds xs->xs.length=ds.length
 |[],_,h=>by cases(show _=[] from h);rfl
 |d::ds,_,⟨x,r,h1,h2,h3⟩=>by rw[h1,ZF,ZF,W6.length h3]
theorem W6.append {K:Ca}:∀{ds es:Dg} {xs ys:Dk},W6 K H ds xs->W6 K H es ys->W6 K H (ds++es) (xs++ys)
 |[],_,_,_,h,h'=>by cases(show _=[] from h);exact h'
 |d::ds,_,_,_,⟨x,r,h1,h2,h3⟩,h'=>⟨x,r++_,by rw[h1];rfl,h2,W6.append h3 h'⟩
theorem W6.get {K:Ca}:∀{ds:Dg} {xs:Dk} {i:Nat} {x:V},W6 K H ds xs->xs[i]?=some x->∃d,ds[i]?=some d/\Dt K H d x
 |[],_,_,_,h,e=>by cases(show _=[] from h);simp at e
 |d::ds,_,0,_,⟨x,r,h1,h2,h3⟩,e=>by rw[h1]at e;simp at e;subst e;exact⟨d,rfl,h2⟩
 |d::ds,_,i+1,_,⟨x,r,h1,h2,h3⟩,e=>by
  rw[h1]at e;obtain⟨b,c,f⟩:=W6.get (i:=i) h3 (by simpa using e);exact⟨b,by simpa using c,f⟩
theorem W6.strs {K:Ca}:∀(ls:Da),W6 K H (ls.map E9) (ls.map V.str)
 |[]=>rfl
 |x::ls=>⟨.str x,ls.map V.str,rfl,rfl,W6.strs ls⟩
theorem W6.Tt {K:Ca}:∀{ls:Da} {xs:Dk},W6 K H (ls.map E9) xs->xs=ls.map V.str
 |[],_,h=>h
 |x::ls,_,⟨v,r,h1,b,h3⟩=>by
  have b:v=V.str x:=b;rw[h1,b,W6.Tt h3];rfl
section
variable {X:Cx}{Do:Df}{σ:St}{H:Hp}{s:Eo}
mutual
theorem Dt.Ws (I:Inv X Do σ H s):∀(d:Er) (v:V) (u:Ej),Dt X.K H d v->WX v u->∃as,Reads s.heap u d as
 | .none,_,u,h,r=>by
  cases(show _=V.non from h);cases(show u=EA from r);exact⟨_,.none⟩
 | .bool b,_,u,h,r=>by
  cases(show _=V.bl b from h);cases(show u=LA b from r);exact⟨_,.bool b⟩
 | .int i,_,u,h,r=>by
  cases(show _=V.int i from h);obtain⟨t,e⟩:=(show∃t,u=Value.int i t from r);cases e;exact⟨_,.int i t⟩
 | .str x,_,u,h,r=>by
  cases(show _=V.str x from h);obtain⟨t,e⟩:=(show∃t,u=Ma x t from r);cases e;exact⟨_,.str x t⟩
 | .list ds,_,u,⟨a,xs,h1,h2,h3⟩,r=>by
  subst h1;cases(show u=Ev a from r);obtain⟨f,g,⟨o,n,e,c,_,d⟩,_⟩:=I.list h2;obtain⟨as,q⟩:=W6.Ws I ds xs f h3 g;exact⟨_,.list e c d<|by simpa using q⟩
 | .tuple ds,_,u,⟨a,xs,h1,h2,h3⟩,r=>by
  subst h1;cases(show u=Ev a from r);obtain⟨f,g,⟨o,e,c,n,d⟩,_⟩:=I.tuple h2;obtain⟨as,q⟩:=W6.Ws I ds xs f h3 g;exact⟨_,.tuple e c d<|by simpa using q⟩
 | .dict _,_,_,h,_=>EH h
theorem W6.Ws (I:Inv X Do σ H s):∀(ds:Dg) (xs:Dk) (us:Db),W6 X.K H ds xs->W2 xs us->∃as,LG s.heap us ds as
 |[],_,us,h,r=>by
  cases(show _=[] from h);cases r;exact⟨_,.nil⟩
 |d::ds,_,us,⟨x,rr,h1,h2,h3⟩,r=>by
  subst h1;cases r with
  |cons r1 r2 =>
   obtain⟨as,b⟩:=Dt.Ws I d x _ h2 r1;obtain⟨bs,c⟩:=W6.Ws I ds rr _ h3 r2;exact⟨_,.cons b c⟩
end
end
section
variable {X:Cx}
def RH (K:Ca):R2:=fun x y H Q=>∃d e,Dt K H d x/\Dt K H e y/\ET d=true/\ET e=true/\Q (.bl<|EG d e) H
def PX (K:Ca):R2:=fun x y H Q=>∃d e,Dt K H d x/\Dt K H e y/\ET d=true/\ET e=true/\Q (.bl<|!EG d e) H
theorem GM (i:X.A.units+64<E4):Cj X (EJ .Eq) (RH X.K):=by
 intro p s t H x y v u Q I n o h;obtain⟨d,e,b,c,f,g,q⟩:=h;obtain⟨r,j⟩:=Dt.Ws I d x v b n;obtain⟨bs,l⟩:=Dt.Ws I e y u c o;exact SeqAt.compareEq_shaped j l f g i ⟨.bl _,H,I,rfl,q⟩
theorem UA (i:X.A.units+64<E4):Cj X (EJ .NotEq) (PX X.K):=by
 intro p s t H x y v u Q I n o h;obtain⟨d,e,b,c,f,g,q⟩:=h;obtain⟨r,j⟩:=Dt.Ws I d x v b n;obtain⟨bs,l⟩:=Dt.Ws I e y u c o;exact SeqAt.compareNe_shaped j l f g i ⟨.bl _,H,I,rfl,q⟩
theorem kB:∀{ys:Da} {us:Db},W2 (ys.map V.str) us->StrsAre us ys
 |[],us,r=>by rw[VE]at r;cases r;exact .nil
 |y::ys,us,r=>by
  rw[ZJ]at r;cases r with
  |cons r1 r2 =>
   obtain⟨t,e⟩:=r1;subst e;exact .cons y t<|kB r2
theorem UH:∀{us:Db} {ys:Da},StrsAre us ys->W2 (ys.map V.str) us
 |_,_,.nil=>.nil
 |_,_,.cons y t r=>.cons ⟨t,rfl⟩<|UH r
def rJoin (K:Ca):V->Dk->Hp->VK->Prop:=fun x d H Q=>∃b p c,x=.str b/\d=[.ref p]/\(WP K H p (c.map V.str)\/Wu K H p (c.map V.str))/\(c.map (·.length)).sum+c.length*b.length<=16777216/\Q (.str<|Txt.join b c) H
theorem FJ:Oo X "str.join" (rJoin X.K):=by
 intro n s z H x w v o Q I i f h;obtain⟨j,p,y,rfl,rfl,b,e,q⟩:=h;obtain⟨t,rfl⟩:=i;obtain⟨u,rfl,g⟩:=Wl f;cases g
 rcases b with b|b
 ·obtain⟨c,r,d,_⟩:=I.list b;exact join_list d.isList (by simpa using kB r) e fun l k=>⟨.str _,H,I.tok _,⟨_,rfl⟩,q⟩
 ·obtain⟨c,r,d,_⟩:=I.tuple b;exact join_tuple d (by simpa using kB r) e fun l k=>⟨.str _,H,I.tok _,⟨_,rfl⟩,q⟩
theorem UR {b:Ej}{lo:Option Int}(h:Mr b lo):∃o:Option<|Int×Tok,b=partValue o/\lo=o.map (·.1):=by
 cases h with
 |none=>exact⟨none,rfl,rfl⟩
 |int i t=>exact⟨some (i,t),rfl,rfl⟩
def RM:V->Option Int->Option Int->Hp->VK->Prop:=fun x c b H Q=>∃z,x=.str z/\z.length<=sizeLine/\Q (.str<|LW z c b) H
theorem GA:Rn X RM:=by
 intro j s y H x v r w o n sl Q I i b f g h;obtain⟨z,rfl,c,q⟩:=h;obtain⟨t,rfl⟩:=i;obtain⟨d,rfl,rfl⟩:=UR f;obtain⟨e,rfl,rfl⟩:=UR g;refine⟨"str",_,F.slot_str_getitem.lookup,J1 _ _ _,wpAny_getItem_str_slice (l:=d) (u:=e) (st:=none) ?_ rfl<|post_val_or_str ⟨Yc (Txt.slice_le z _ _) c,fun p k=>⟨.str _,H,I.tok _,⟨_,rfl⟩,q⟩⟩⟩;exact b
end
section
variable {X:Cx}{Do:Df}{σ:St}{H:Hp}{s:Eo}{h':EC}
theorem Inv.vQ {t':Nat}{ch:De}(I:Inv X Do σ H s)(g:∀b∈ch,Uj X Do H b)(k:∀b o,b∉ch->s.heap.get? b=some o->h'.get? b=some o)(th:∀b∈ch,∃o,h'.get? b=some o):Inv X Do σ H { s with heap:=h',toks:=t' }:=by
 have f:∀b u,H b=some u->b∉ch:=fun b u e z=>by rw[(g b z).1]at e;cases e
 refine I.step (g':=s.gens) (d':=s.drawn) (ch:=ch) (fun b hb=>?_) (fun b o _ _ d e _=>k b o d e) (fun b o _ _ d e _=>⟨o.slots,k b o d e⟩) (fun _ _ _ _ n=>n)
  (fun b o d e=>⟨o,k b o d e⟩) (fun _ _ e=>e) (fun _ _ _ e=>e) (fun b y e=>⟨#[],by rw[e];simp⟩) (fun m hm=>?_) (fun b u e=>?_) I.bare
 ·obtain⟨_,l,_,p,t,w⟩:=g b hb;exact⟨p,l,t,w⟩
 ·obtain⟨o,j,i,x,r⟩:=hm;exact⟨o,j,i,k _ o (fun z=>(g _ z).2.1 rfl) x,r⟩
 ·refine(I.hok b u e).stay (fun c v d q=>k c v ?_ q) (fun _ q=>q) fun _ _ q=>q
  rcases d with z|z
  ·rw[z];exact f b u e
  ·exact f c _ z
theorem Un.vG {D:Ei}(u:Un fs ex H H1 h h1)(f:h.get? D=none)(d:H1 D=none):Un fs ex H (upd H1 D o) h h1 where
 keep:=u.keep
 slot:=u.slot
 free:=fun b ob q n g=>by
  have hb:b≠D:=fun z=>by rw[z,f]at q;cases q
  rw[zI hb];exact u.free b ob q n g
 there:=u.there
 tups:=fun b c q=>by rw[zI<|zN (u.tups b c q) d];exact u.tups b c q
 Tw:=fun b ob c q=>by rw[zI<|zN (u.Tw b ob c q) d];exact u.Tw b ob c q
 Tg:=fun b i q=>by
  obtain⟨m,e⟩:=u.Tg b i q;exact⟨m,by rw[zI<|zN e d];exact e⟩
theorem Inv.uP {T:Ei}{o:HO}(I:Inv X Do σ H s)(n:H T=none)(f:X.s₀.heap.objs.size<=T)(g:T≠X.env.locals)(i:∀x c,X.env.cells.lookup x=some c->c≠T)(j:∀p∈X.pn++Do,p.1≠T)
  (new:WT X.prog X.w (upd H T o) s.heap T o):Inv X Do σ (upd H T o) s:=by
 refine⟨I.ok,I.os,I.bare,I.base.vG (J5 f) n,I.loc,I.cell,?_,fun x c e=>?_,fun p b=>?_,I.hok.adopt n new,I.len⟩
 ·rw[zI<|EE g];exact I.free
 ·rw[zI<|i x c e];exact I.Wm x c e
 ·obtain⟨e,l,ne,q,d⟩:=I.pin p b;exact⟨e,by rw[zI<|j p b];exact l,ne,q,d⟩
end
def Pq (x:Str):It:=⟨fun i _=>i<x.length,fun i H v b=>b=H/\∃c,x.cps[i]?=some c/\v=.str ⟨#[c]⟩,fun i _=>i=x.length⟩
theorem XL {P:Ek}{w:Ep}{K:Ca}{S:EK}{it:Ei}{x:Str}{g:Nat->EC->Prop}(D:∀A:ED,A.handled=none->Walks P w A it [it] [it] x.cps.size (SignAt x) g)
  (Z:∀i h,g i h->∃o,h.get? it=some o/\∀v,o.data≠.cell v) (d:∀(A:ED) (i:Nat) (s:Eo) (Q:Ej->Di) (E:Ej->Di),g i s.heap->Q (.ref it) s->Em (Et P w) A (Mq<|.ref it) Q E s) :
  Turn P w K S (Pq x) [it] it g where
 mem:=by simp
 obj:=fun i h st b hb=>by
  have e:b=it:=by simpa using hb
  subst e;exact Z i h st
 keep:=fun i h f st k=>(D {} rfl).frame i h f st k
 item:=by
  intro X C L B F i l s R H E I j st J;subst C L B;obtain⟨p,q,Y,r,t,y⟩:=j it (by simp);refine(D X.A<|I.ok.hd F).item i s _ _ J st fun v f O hv N M=>?_;obtain⟨c,u,G,rfl⟩:=hv;have U:Inv X l R H { s with heap:=f,toks:=O }:=I.turned (fun b o hb e=>M b o (by simpa using hb) e) p q r t y;refine⟨_,rfl,?_⟩;have z:∃T n,Inv X l R n { s with heap:=f,toks:=O }/\WX T (.str ⟨#[c]⟩ u)/\(Pq x).wI i H T n/\g (i+1) f/\∀b∈[it],n b=none :=
   ⟨.str ⟨#[c]⟩,H,U,⟨u,rfl⟩,⟨rfl,c,G,rfl⟩,N,fun b hb=>(j b hb).1⟩
  unfold LF;cases S<;>exact Q7 z
 done:=by
  intro X C L B F i l s R H E I j st J;subst C L B;obtain⟨p,q,Y,r,t,y⟩:=j it (by simp);exact(D X.A<|I.ok.hd F).done s _ _ (by have e:i=x.length:=J;subst e;exact st) fun f O M=>⟨rfl,I.turned (fun b o hb e=>M b o (by simpa using hb) e) p q r t y⟩
 self:=d
section
variable {X:Cx}{tg:EK}
def Rw (c:TE):TI:=fun d H R=>c d H fun x b=>∃z,x=.str z/\R (Pq z) b
theorem CZ (r:PE X e te):PI X tg e (Rw te):=by
 intro p s y H R I h;refine Cb (r p s y H _ I h) fun v c ⟨x,f,d,w,u⟩=>?_;obtain⟨z,e,q⟩:=u;subst e;obtain⟨t,rfl⟩:=w;have n:f c.heap.objs.size=none:=d.hok.fresh<|Q9 _;cases ha:z.cps.all (·<128)
 ·refine wpAny_pyIter_wide ha ?_;refine⟨c.heap.objs.size,[c.heap.objs.size],fun i h=>h.IsStrIter c.heap.objs.size "str_iterator" z t i,_,f,rfl,d.kept (t':=c.toks) fun b o e=>Q6 _ e,XL (fun A g=>Walks.strWide g _ z t) (fun i h ⟨o,l,_,hd⟩=>⟨o,l,fun v z=>by rw[hd]at z;cases z⟩)<|fun _ _ _ _ _ st j=>wpAny_pyIter_striter_wide st j,⟨_,Zb _ rfl,rfl,rfl⟩,fun b hb=>?_,q⟩
  have e:b=c.heap.objs.size:=by simpa using hb
  subst e;exact d.yq (Q9 _) n
 ·refine wpAny_pyIter_ascii ha ?_;refine⟨c.heap.objs.size,[c.heap.objs.size],fun i h=>h.IsStrIter c.heap.objs.size "str_ascii_iterator" z t i,_,f,rfl,d.kept (t':=c.toks) fun b o e=>Q6 _ e,XL (fun A g=>Walks.strAscii g _ z t) (fun i h ⟨o,l,_,hd⟩=>⟨o,l,fun v z=>by rw[hd]at z;cases z⟩)<|fun _ _ _ _ _ st j=>wpAny_pyIter_striter_ascii st j,⟨_,Zb _ rfl,rfl,rfl⟩,fun b hb=>?_,q⟩
  have e:b=c.heap.objs.size:=by simpa using hb
  subst e;exact d.yq (Q9 _) n
end
abbrev M5 (J:It)(g:TG)(tb:TS)(D:Ends)(σ:St)(H:Hp):Prop :=
 ∃W:Nat->Nat->St->Hp->Prop,(∃m,W 0 m σ H)/\∀i m σ H,W i m σ H ->
  (J.stop i H/\D.nx σ H)\/(J.go i H/\∃N:St->Hp->Prop,(∀σ' H',N σ' H'->∃m',m'<m/\W (i+1) m' σ' H')/\∀x H',J.wI i H x H'->g x σ H' fun σ2 H2=>tb { D with nx:=N,ct:=N,bk:=D.nx } σ2 H2)
theorem Kz {J:It}{g:TG}{tb:TS}{D:Ends}{b:St}{H:Hp}(n:Nat)(c:Nat->St->Hp->Prop)(l:c 0 b H)(j:∀b H,c n b H->J.stop n H)(f:∀i b H,i<n->c i b H->J.go i H)
  (hs:∀i b H,i<n->c i b H->∀x H',J.wI i H x H'->g x b H' fun σ2 H2=>tb { D with nx:=c<|i+1,ct:=c<|i+1,bk:=D.nx } σ2 H2) (hd:∀b H,c n b H->D.nx b H):M5 J g tb D b H:=by
 refine⟨fun i m b H=>m=n-i/\i<=n/\c i b H,⟨n,by simp,ZA _,l⟩,?_⟩;rintro i m b H ⟨rfl,r,p⟩
 by_cases d:i<n
 ·exact .inr ⟨f i b H d p,c<|i+1,fun q H' o=>⟨n-(i+1),by omega,rfl,d,o⟩,fun x H' y=>hs i b H d p x H' y⟩
 ·have e:i=n:=by omega
  subst e;exact .inl ⟨j b H p,hd b H p⟩
theorem Ni {x:Str}{g:TG}{tb:TS}{D:Ends}{b:St}{H:Hp}(d:Nat->St->Hp->Prop)(l:d 0 b H)
  (hs:∀i c b H,x.cps[i]?=some c->d i b H->g (.str ⟨#[c]⟩) b H fun σ2 H2=>tb { D with nx:=d<|i+1,ct:=d<|i+1,bk:=D.nx } σ2 H2) (hd:∀b H,d x.length b H->D.nx b H):M5 (Pq x) g tb D b H :=
 Kz x.length d l (fun _ _ _=>rfl) (fun _ _ _ f _=>f) (fun i b H f p v o y=>by
  obtain⟨e,c,n,j⟩:=y;subst e j;exact hs i c b _ n p) hd
end L2
namespace L2
open PySem PySem.Spec PyProof.Rows
section
variable {X:Cx}{Ec:List EK}{x1:Nat}{tpos:Pos}
def Of (K:Ca):V->Option Int->Option Int->Hp->VK->Prop:=fun x e d H Q=>∃a b,x=.ref a/\Wu K H a b/\∀v c,(v=.ref a/\c=H/\XO b e d=b)\/(∃p,H p=none/\v=.ref p/\c=upd H p (.tup<|XO b e d))->Q v c
end
namespace AxT
variable {prog:Ek}{w:Ep}{A:ED}{E:Ej->Di}{s:Eo}
open HT
theorem S9 {t sl:Ei}{b:Array Ej}{l p:Ej}{lo e:Option Int}{Q:Ej->Di}(c:IsTup s.heap t b)(hs:s.heap.IsSliceOf sl l p .none)(pl:Mr l lo)(r:Mr p e)
  (j:Wf b.size 0 lo=0/\Wf b.size b.size e=b.size) (h:Q (.ref t) s):Em (Et prog w) A (Mj (.ref t)<|.ref sl) Q E s:=by
 obtain⟨os,i,g,q⟩:=id hs;have f:s.TypeIs (.ref sl) "slice":=⟨os,i,g⟩;unfold Mj
 try with_reducible refine ZV ?_
 first|refine Q4 (Q7 ?_)|skip
 refine Q4 (wpAny_sequenceKey c.typeIs (by decide) ?_);refine Q4<|Z1 (name:=EN "__getitem__") c.typeIs Yv<|ZO Yv c.typeIs entry_tuple_getitem ?_<|args_tuple_getitem _ _
 show Em _ _ (LL (.ref t)>>=_) _ _ s;refine Q4<|tupleItemsOf_ c ?_;refine Q4<|Ve f ?_;rw[Zp<|by decide];refine Q4<|qH hs pl r ?_;have d:(((Wf b.size 0 lo:Nat):Int)==0&&(1:Int)==1&&(Wf b.size b.size e-Wf b.size 0 lo)==b.size)=true:=by
  rw[j.1,j.2];simp
 show Em _ _ (if(((Wf b.size 0 lo:Nat):Int)==0&&(1:Int)==1&&(Wf b.size b.size e-Wf b.size 0 lo)==b.size)=true then _ else _) _ _ s;rw[Zp d];obtain⟨o,v,u,n,hd⟩:=id c;refine Q4 (m:=Builtin.Tuple.tupleIsExact _) ?_;unfold Builtin.Tuple.tupleIsExact;refine Q4<|Ve c.typeIs<|Q7 ?_;rw[Zp<|by decide];exact Q4<|Jq<|Q7 ⟨_,rfl,Q7 h⟩
end AxT
section
variable {X:Cx}
theorem vf:Rn X (Of X.K):=by
 intro y s B H x v z A f g sl Q I w l n p h;obtain⟨a,d,rfl,t,q⟩:=h;cases w;obtain⟨c,r,j,u⟩:=I.tuple t;have i:c.toArray.size=d.length:=by rw[Zn];exact r.length.symm
 refine⟨"tuple",_,Yv.lookup,j.typeIs,?_⟩
 by_cases e:HT.Wf c.toArray.size 0 f=0/\HT.Wf c.toArray.size c.toArray.size g=c.toArray.size
 ·refine AxT.S9 j l n p e ⟨.ref a,H,I,rfl,q _ _<|.inl ⟨rfl,rfl,?_⟩⟩;rw[i]at e;unfold XO;rw[e.1,e.2];simp
 ·refine HT.SN j l n p e ?_ (by rwa[i]);rw[i];refine⟨.ref s.heap.objs.size,_,I.laid (t':=s.toks) (o:=.tup<|XO d f g) (fun b ob q=>Q6 _ q) (Q9 _) ?_,rfl,q _ _<|.inr ⟨_,I.hok.fresh<|Q9 _,rfl,rfl⟩⟩;exact⟨Yc (Bf d f g) u,_,(r.drop<|HT.Wf d.length 0 f).take<|HT.Wf d.length d.length g-HT.Wf d.length 0 f,TupAt.new _ _⟩
structure T9 (P:Ek)(w:Ep)(K:Ca)(mg:Str->Dc)(base:EC)(k:Nat)(x:Str)(ps:Da)(sp:Sp):Prop where
 ex:∃(f:Ei) (fd:Es),W0 P w K mg base Cd k f fd ps sp/\mg x=some (.ref f)/\ES K (.ref f)=true/\Wr K fd ps []
theorem zL {e:EK}{es:List EK}{p pos:Pos}(C:T9 X.prog X.w X.K X.mg X.base k x ps sp)(i:Wy k X.A)(ha:PA X (e::es) t)(g:Gl X x:=by rfl)
  (b:(x==("__debug__":Str))=false:=by decide) (d:EB (e::es) X.env=(false,EZ e X.env)::EB es X.env:=by rfl) (c:(Ld pos<|EB es X.env).any (·.1)=false:=by rfl) :
  PE X (.Call (.Name x p) (e::es) [] pos) (MW sp [] E0 t):=by
 obtain⟨f,j,F,hm,hk,hb⟩:=C.ex;exact NE F i g hm hk hb .nil IW ha b d c
theorem T9.mk' {K:Ca}{st:ER}(F:Wt K x qual st f fd)(G:W0 P w K mg base Cd k f fd ps sp)(hm:mg x=some (.ref f))
  (b:Wr K fd ps []):T9 P w K mg base k x ps sp:=⟨f,fd,G,hm,F.kp,b⟩
def KD (P:Ek)(w:Ep)(K:Ca)(a:Ei)(c:Dl):Prop:=∀h:EC,K.In h->∃b,KV c b/\h.DictOf (zU P w) a b
def Ra (P:Ek)(w:Ep)(K:Ca)(f ty:TE):TE:=fun c H Q=>f c H fun x d=>ty c d fun y e=>∃a b k v,x=.ref a/\y=kV k/\KD P w K a b/\VS b k=some v/\Q v e
theorem NH {pos:Pos}(t:PE X o td)(r:PE X i ty)(hs:Na i):PE X (.Subscript o i pos) (Ra X.prog X.w X.K td ty):=by
 intro d s g H Q I h;refine Gp PySem.F.slot_dict_getitem.lookup hs<|Cb (t d s g H _ I h) fun u E ⟨x,j,p,C,A⟩=>Cb (r d E g j _ p A) fun L M hh=>?_;obtain⟨y,n,e,D,a,J,k,v,ex,q,kd,l,B⟩:=hh;subst ex q;obtain rfl:u=Ev a:=C;obtain⟨G,b,f⟩:=kd _ e.Tn;obtain⟨N,z,c⟩:=Tv.some_of (v:=v) (o:=valueAt G k) (by rw[←l];exact b.val k);exact⟨f.typeIs,wpAny_getItem_of (U1 D) f.mapOf z ⟨v,n,e.tok _,c,B⟩⟩
end
theorem WT.there (x:WT P w H h a o):∃ob,h.get? a=some ob:=by
 cases o with
 |lst xs=>obtain⟨_,_,_,_,e⟩:=x;exact⟨_,e⟩
 |tup xs=>obtain⟨_,_,_,ob,e,_⟩:=x;exact⟨_,e⟩
 |dK Dm=>obtain⟨_,_,_,_,ob,_,_,e,_⟩:=x;exact⟨_,e⟩
 |dT Dm=>obtain⟨_,_,_,_,ob,_,_,e,_⟩:=x;exact⟨_,e⟩
 |set S n=>obtain⟨ob,_,_,_,e,_⟩:=x;exact⟨_,e⟩
 |ins C dx fs=>obtain⟨_,_,_,e,_⟩:=x;exact⟨_,e⟩
 |own y=>exact x
 |xd fs=>obtain⟨_,⟨_,_,_,e,_⟩,_⟩:=x;exact⟨_,e⟩
 |rng lo hi=>obtain⟨_,_,_,e⟩:=x;exact⟨_,e⟩
 |frz ob u=>obtain⟨e,_⟩:=x;exact⟨_,e⟩
 |tbl ps=>exact⟨_,(show h.get? a=some _ from x)⟩
 |met f y=>exact⟨_,(show h.get? a=some _ from x)⟩
 |ext φ=>obtain⟨_,e,_⟩:=x;exact e
def ctx0 (vs:Array Ej):Prop:=vs[2]?=some .none
theorem UN:Iy ctx0:=fun b v h=>by
 show(b.setIfInBounds 1 v)[2]?=some .none;rwa[Array.getElem?_setIfInBounds_ne<|by decide]
def ExcAt (h:EC)(a T:Ei)(cls:Ej):Prop :=
 ∃b c d e,h.get? a=some b/\(b.cls=cls/\ctx0 c)/\b.data=.fields c/\c[1]?=some (.ref T)/\T≠a/\h.get? T=some d/\d.data=.fields e/\e[3]?=some .none
def Cl (P:Ek)(w:Ep):Ki:=fun outer H s E e c=>∃a T cls b,e=.ref a/\c.os=s.os/\Mh c.gens/\Un (frs outer) [] H b s.heap c.heap/\Td P w b c.heap /\
 s.heap.get? a=none/\s.heap.get? T=none/\b a=none/\b T=none/\ExcAt c.heap a T cls/\E cls none b
section
variable {X:Cx}{Do:Df}{σ:St}{H:Hp}{s:Eo}
theorem Inv.none_of (I:Inv X Do σ H s){a:Ei}(e:s.heap.get? a=none):H a=none:=by
 cases q:H a with
 |none=>rfl
 |some u =>
  obtain⟨ob,z⟩:=(I.hok a u q).there;rw[e]at z;cases z
theorem Inv.TX (I:Inv X Do σ H s)(b:X.ex=[]){a:Ei}(e:s.heap.get? a=none):X.s₀.heap.get? a=none:=by
 cases q:X.s₀.heap.get? a with
 |none=>rfl
 |some o =>
  obtain⟨ob,z⟩:=I.base.there a o q (by rw[b];simp);rw[e]at z;cases z
abbrev Ug (h:EC)(as:De)(l:List Env):Heap:=PySem.W.hideAll h<|as++frs l
theorem jF {h:EC}{base:EC}{l:List Env}(f:h.FunFrames base l):h.FunFrames (Ug h as l) l :=
 PySem.W.funFrames_hide f fun env c b hb=>Zy _<|Vh.mpr ⟨env,c,hb⟩
theorem jA:(Ug h as l).StaysIn h:=fun _ _ q=>PySem.W.of_hideAll _ q
theorem GS (i:X.stack=X.env::X.outer)(G:X.env.frame=some X.env.locals)(l:X.ex=[])(I:Inv X Do σ H s){e:Ei}{cls:Ej}{args:Db}{h':EC}(p:Heap.MadeExcOf s.heap h' e cls args){E:XK}(q:E cls none H)
  {Ex:Ej->Di}:Em (Et X.prog X.w) X.A (leaving X.env<|.ref e) (fun _ s''=>Cl X.prog X.w X.outer X.H₀ X.s₀ E (.ref e) s'') Ex { s with heap:=h' }:=by
 have M:=jF (as:=[]) I.stack;have R:X.A.frames=some (X.env::X.outer):=by rw[I.ok.frames,i]
 obtain⟨t,U,Z,ht⟩:=p.there;have fresh:∀b,s.heap.get? b=none->(Ug s.heap [] X.stack).get? b=none:=fun b hb=>by
  cases Y:(Ug s.heap [] X.stack).get? b with
  |none=>rfl
  |some B=>have:=jA b B Y;rw[hb]at this;cases this
 rw[i]at M;refine Bl (base:=Ug s.heap [] X.stack) (q:=ctx0) UN R ((by rw[i];exact M:s.heap.FunFrames (Ug s.heap [] X.stack) (X.env::X.outer)).of_keeps fun b o hb _=>⟨o,p.keeps b o hb,rfl⟩) G U (fun b o hb=>p.keeps b o<|jA b o hb) (fresh e p.new) rfl rfl rfl fun F k1 k2 L k4=>?_;obtain⟨oe,vs,T,oT,ts,t1,t2,t3,t4,t5,t6,P,Q,t9⟩:=L;have stk:∀b∈frs X.stack,H b=none:=I.SJ;have kp:∀b o,s.heap.get? b=some o->b∉frs X.stack->F.get? b=some o:=fun b o e hb=>k1 b o (YH _ e<|by simpa using hb);have sl:∀b o,s.heap.get? b=some o->b∈frs X.stack->∃sl,F.get? b=some { o with slots:=sl }:=fun b o e hb=>by
  obtain⟨_,B,f,hd⟩:=I.stack.mem hb;rw[e]at f;cases f;exact k4 b o (p.keeps b o e) hd
 have nL:∀b o,X.s₀.heap.get? b=some o->b≠X.env.locals:=fun b o e=>Zl<|Zq (Zd e) I.ok.above;have j:∀b,b∉X.ex:=fun b=>by rw[l];simp
 have O:s.heap.get? T=none:=by
  cases qT:s.heap.get? T with
  |none=>rfl
  |some o =>
   exfalso
   by_cases N:T∈frs X.stack
   ·have J:F.FunFrames (Ug s.heap [] X.stack) X.stack:=by have z:=k2;rw[←i]at z;exact z
    obtain⟨_,B,f,hd⟩:=J.mem N;rw[P]at f;cases f;exact hd _ Q
   ·have z:(Ug s.heap [] X.stack).get? T=some o:=YH _ qT (by simpa using N);rw[t5]at z;cases z
 refine⟨e,T,cls,H,rfl,I.os,I.bare,⟨fun b o d n hb _=>?_,fun b o d n hb _=>?_,fun b o d n _=>I.base.free b o d n<|j b,fun b o d _=>?_,I.base.tups,I.base.Tw,I.base.Tg⟩,fun b u d=>?_,I.TX l p.new,I.TX l O,I.none_of p.new,I.none_of O,⟨oe,vs,oT,ts,t1,t2,t3,t4,t6,P,Q,t9⟩,q⟩
 ·refine kp b o (I.base.keep b o d n hb<|j b) fun z=>?_
  rcases Za.mp (I.Sy b z) with r|r
  ·exact nL b o d r
  ·exact hb r
 ·obtain⟨K,x⟩:=I.base.slot b o d n hb<|j b
  by_cases g:b∈frs X.stack
  ·obtain⟨C,D⟩:=sl b _ x g;exact⟨C,D⟩
  ·exact⟨K,kp b _ x g⟩
 ·obtain⟨B,x⟩:=I.base.there b o d<|j b
  by_cases g:b∈frs X.stack
  ·obtain⟨C,D⟩:=sl b _ x g;exact⟨_,D⟩
  ·exact⟨B,kp b _ x g⟩
 ·refine(I.hok b u d).stay (fun c v S r=>kp c v r fun z=>?_) (fun _ r=>r) fun _ _ r=>r;have g:=stk c z
  rcases S with y|y
  ·rw[y,d]at g;cases g
  ·rw[y]at g;cases g
end
theorem HA {K:Ca}{h:EC}{C:Ei}{d:Db}{b:String}(X:K.In h)(q:EO K C d b=true) :
  ∃bm N nm q bs hdct sn sub ab col dd k0 k1 k2 k3 k5 mN,h.get? C=some (excClassObj nm q C N bs bm hdct sn sub ab col dd k0 k1 k2 k3 k5 b)/\h.Ns N mN/\mN "__init__"=none/\OwnTail h d bm:=by
 unfold EO at q
 split at q
 ·rename_i dd i sl o
  split at q
  ·rename_i s bm k0 k1 k2 k3 n k5 hm g;simp only[Zk,Jo,JP]at q;obtain⟨⟨⟨⟨⟨rfl,rfl⟩,c⟩,p⟩,hok⟩,e⟩:=q;obtain⟨nm,bs,mro,ns,r,hd,sn,sub,ab,col,j⟩:=i;dsimp only at hm c hok e;subst hm c;have f:sl=#[k0,k1,k2,k3,some<|.builtin n,k5]:=by
    obtain⟨l⟩:=sl;simp only at g;rw[g]
   subst f;exact⟨bm,ns,nm,r,bs,hd,sn,sub,ab,col,dd,k0,k1,k2,k3,k5,_,X _ _ o,.of_isNs<|PySem.W.isNs_of_in X hok,PySem.W.nsMap_none_of_in X hok e,PySem.W.tail_of_in X p⟩
  ·cases q
 ·cases q
abbrev V2:Db:=[.type "ValueError",.type "Exception",.type "BaseException",.type "object"]
def Throws (X:Cx)(R:St->Hp->Ej->Prop):Prop:=∀(f:Df) (d:St) (H:Hp) (s:Eo) (e:Ei) (cls:Ej) (b:Db) (c:EC),Inv X f d H s->Heap.MadeExcOf s.heap c e cls b->R d H cls->X.xe (.ref e) { s with heap:=c }
def O7 (C:Ei)(R:St->Hp->Ej->Prop)(t:TA):TS:=fun _ b H=>t b H fun d c=>d.length<=sizeLine/\R b c (.ref C)
section
variable {X:Cx}
theorem xG {C:Ei}{c:EK}{b:List EK}{J g pos:Pos}(B:X.calm=true)(G:Throws X R)(E:Gl X x)(hm:X.mg x=some (.ref C))(j:EO X.K C V2 "ValueError.__new__"=true)(ha:PA X (c::b) t)
  (p:EB (c::b) X.env=(false,EZ c X.env)::EB b X.env:=by rfl) (u:(Ld g<|EB b X.env).any (·.1)=false:=by rfl) (hd:(x==("__debug__":Str))=false:=by decide) :
  PS X (.Raise (some<|.Call (.Name x J) (c::b) [] g) none pos) (O7 C R t):=by
 intro o s r H D I h;obtain⟨O,N,nm,q,bs,hdct,sn,sub,ab,col,dd,k0,k1,k2,k3,k5,mN,z,A,n,T⟩:=HA I.ok.mod.vq j;refine wpAny_Raise_call_subU (C:=C) (nm:=nm) (q:=q) (N:=N) (bs:=bs) (bm:=O) (hdct:=hdct) (sn:=sn) (sub:=sub) (ab:=ab) (col:=col) (dd:=dd) (k0:=k0) (k1:=k1) (k2:=k2) (k3:=k3) (k5:=k5)
  F.excBase_ValueError (by decide +kernel) F.excBase_ValueError (mN:=mN) (T.hasType F.excBase_ValueError.hasBase) (I.ok.hd B) (by rw[p];show(false||(Ld g<|EB b X.env).any (·.1))=false;rw[u];rfl) n (qO I E hm ⟨rfl,?_⟩ hd)
 have d:=ha g o s r H _ I h;rw[p]at d ⊢;exact Calls.evalArgs_plain (Z3 d (fun Q f ⟨S,v,i,M,P,L⟩=>⟨rfl,by rw[←M.length];exact P,i.bk _ _ z,A.keeps i.bk,T.keeps i.bk,fun w e l=>G o r v f e _ _ w i l L⟩) fun _ _ y=>y)
theorem yV {P:Ek}{w:Ep}{K:Ca}{mg:Str->Dc}{base:EC}{N:Da}{qual:Str}{scope:LI}{f:Ei}{b:Ej}{A:ED}{outer:List Env}{s:Eo}{H:Hp}{E:XK} :
  Throws (Ix (Cl P w) P w K mg base N qual scope f b A outer s H E) (fun _ H' cls=>E cls none H') :=
 fun _ _ _ _ _ _ _ _ I c q=>GS rfl rfl rfl I c q
end
def Raises (X:Cx)(R:St->Hp->Ej->Prop):Prop:=∀(d:Df) (c:St) (H:Hp) (s:Eo) (e:Ej) (b:Eo),Inv X d c H s->Cl X.prog X.w X.stack H s (fun cls _ f=>R c f cls) e b->X.xe e b
def O1 (sp:Sp)(R:St->Hp->Ej->Prop)(t:TA):TE:=fun b H Q=>t b H fun e d=>sp e d Q<|fun cls _ c=>R b c cls
section
variable {X:Cx}{k:Nat}{f:Ei}{fd:Es}{ps:Da}{sp:Sp}{x:Str}{p pos:Pos}{e:EK}{es:List EK}{t:TA}{R:St->Hp->Ej->Prop}
theorem F2 {g:Df}{d:St}{H:Hp}{s:Eo}{Q:VK}{us:Db}{vs:Dk}(F:W0 X.prog X.w X.K X.mg X.base (Cl X.prog X.w) k f fd ps sp)(i:Wy k X.A)(hb:Wr X.K fd ps [])(j:Raises X R)
  (I:Inv X g d H s) (r:W2 vs us) (h:sp vs H Q<|fun cls _ H'=>R d H' cls):Em (Et X.prog X.w) X.A (call (.ref f) us) (EP X g d Q) X.xe s:=by
 have hl:us.length=ps.length:=by rw[←r.length];exact F.len _ _ _ _ h
 have b:=hb s us I.Tn (by simpa using hl);rw[YG]at b;refine JI<|Yy (F.run X.A X.stack s H ⟨us,[]⟩ us vs Q _ i I.env0 b r h) fun r l c=>?_;cases r with
 |error e=>exact j g d H s e l I c
 |ok fl =>
  cases fl with
  |ret u=>exact I.after c
  |next=>exact EH c
  |brk=>exact EH c
  |cont=>exact EH c
structure Ss (P:Ek)(w:Ep)(K:Ca)(mg:Str->Dc)(base:EC)(k:Nat)(x:Str)(ps:Da)(sp:Sp):Prop where
 ex:∃(f:Ei) (fd:Es),W0 P w K mg base (Cl P w) k f fd ps sp/\mg x=some (.ref f)/\ES K (.ref f)=true/\Wr K fd ps []
theorem xY (C:Ss X.prog X.w X.K X.mg X.base k x ps sp)(l:Wy k X.A)(n:Raises X R)(ha:PA X (e::es) t)(j:Gl X x:=by rfl)
  (b:(x==("__debug__":Str))=false:=by decide) (i:EB (e::es) X.env=(false,EZ e X.env)::EB es X.env:=by rfl) (c:(Ld pos<|EB es X.env).any (·.1)=false:=by rfl) :
  PE X (.Call (.Name x p) (e::es) [] pos) (O1 sp R t):=by
 obtain⟨f,fd,F,hm,hk,hb⟩:=C.ex;intro g s o H Q I h;refine Ye<|qO I j hm ?_ b;refine YS (h₀:=X.base) I.ok.mod.vq hk (Cb (ha pos g s o H _ I h) fun y v ⟨z,u,d,r,q⟩=>⟨d.Tn,?_⟩) i c;exact F2 F l hb n d r q
end
def Pe (X:Cx)(d:Df)(H:Hp)(b:Ei):Prop :=
 H b=none/\X.s₀.heap.get? b=none/\b≠X.env.locals/\(∀x c,X.env.cells.lookup x=some c->c≠b)/\∀p∈X.pn++d,p.1≠b
section
variable {X:Cx}{Do D4:Df}{σ:St}{H:Hp}{s:Eo}{h':EC}{R:St->Hp->Ej->Prop}
theorem Inv.uF (I:Inv X Do σ H s)(f:X.ex=[]){H':Hp}{b:Ei}(e:s.heap.get? b=none)(n:H' b=none):Pe X Do H' b:=by
 refine⟨n,I.TX f e,fun z=>?_,fun x c q z=>?_,fun p g z=>?_⟩
 ·obtain⟨m,⟨o,_,_,d,_⟩,_⟩:=I.loc;rw[←z,e]at d;cases d
 ·obtain⟨v,o,d,_⟩:=I.cell x c q;rw[z,e]at d;cases d
 ·have d:=(I.pin p g).1;rw[z,e]at d;cases d
theorem Inv.land {ch:De}(I:Inv X Do σ H s)(j:∀b∈ch,Pe X Do H b)(k1:(Ug s.heap ch X.stack).StaysIn h')(k2:s.heap.UpToSlots h')(P:Nat):Inv X Do σ H { s with heap:=h',toks:=P }:=by
 have kp:∀b o,s.heap.get? b=some o->b∉ch->b∉frs X.stack->h'.get? b=some o:=fun b o e t hb=>k1 b o (YH _ e (by
  intro z
  rcases ZG.mp z with z|z
  ·exact t z
  ·exact hb z))
 have any:∀b o,s.heap.get? b=some o->b∉ch->∃sl,h'.get? b=some { o with slots:=sl }:=fun b o e t=>by
  by_cases hb:b∈frs X.stack
  ·obtain⟨_,O,B,hd⟩:=I.stack.mem hb;rw[e]at B;cases B;exact k2 b o e hd
  ·exact⟨o.slots,kp b o e t hb⟩
 have D:∀b,b≠X.env.locals->b∉X.fs->b∉frs X.stack:=fun b K L z=>(Za.mp<|I.Sy b z).elim K L;have N:∀b o,X.s₀.heap.get? b=some o->b≠X.env.locals:=fun b o e=>Zl<|Zq (Zd e) I.ok.above;have q:∀b o,X.s₀.heap.get? b=some o->b∉ch:=fun b o e z=>by rw[(j b z).2.1]at e;cases e
 have f:∀c v,s.heap.IsCell c v->h'.IsCell c v:=fun c v ⟨o,M,hd⟩=>by
  obtain⟨sl,e⟩:=k2 c o M fun Q z=>by rw[hd]at z;cases z
  exact⟨_,e,hd⟩
 refine⟨I.ok,I.os,I.bare,⟨fun b o e n hb C=>?_,fun b o e n hb C=>?_,I.base.free,fun b o e C=>?_,I.base.tups,I.base.Tw,I.base.Tg⟩,?_,fun x c e=>?_,I.free,I.Wm,fun p F=>?_,fun b u e=>?_,I.len⟩
 ·exact kp b o (I.base.keep b o e n hb C) (q b o e) (D b (N b o e) hb)
 ·obtain⟨sl,w⟩:=I.base.slot b o e n hb C;obtain⟨E,A⟩:=any b _ w<|q b o e;exact⟨E,A⟩
 ·obtain⟨O,w⟩:=I.base.there b o e C;obtain⟨E,A⟩:=any b _ w<|q b o e;exact⟨_,A⟩
 ·obtain⟨m,hn,hl⟩:=I.loc;refine⟨m,k2.ns hn,fun i x v w A J=>?_⟩;obtain⟨u,r,l⟩:=hl i x v w A J;refine⟨u,r,?_⟩
  rcases l with l|⟨k,c,e,z⟩
  ·exact .inl l
  ·exact .inr ⟨k,c,e,f c _ z⟩
 ·obtain⟨v,z⟩:=I.cell x c e;exact⟨v,f c v z⟩
 ·obtain⟨e,n,ne,G,d⟩:=I.pin p F;exact⟨kp _ _ e (fun z=>(j _ z).2.2.2.2 p F rfl) (D _ ne G),n,ne,G,d⟩
 ·refine(I.hok b u e).stay (fun c v t r=>kp c v r (fun z=>?_) fun z=>?_) (fun _ r=>r) fun _ _ r=>r
  ·have g:=(j c z).1
   rcases t with y|y
   ·rw[y,e]at g;cases g
   ·rw[y]at g;cases g
  ·have g:=I.SJ c z
   rcases t with y|y
   ·rw[y,e]at g;cases g
   ·rw[y]at g;cases g
theorem Inv.uZ (I:Inv X Do σ H s)(f:Pe X Do H T)(new:WT X.prog X.w (upd H T o) s.heap T o):Inv X Do σ (upd H T o) s:=by
 obtain⟨n,g,i,j,l⟩:=f;refine⟨I.ok,I.os,I.bare,I.base.vG g n,I.loc,I.cell,?_,fun x c e=>?_,fun p b=>?_,I.hok.adopt n new,I.len⟩
 ·rw[zI<|EE i];exact I.free
 ·rw[zI<|j x c e];exact I.Wm x c e
 ·obtain⟨e,q,ne,r,d⟩:=I.pin p b;exact⟨e,by rw[zI<|l p b];exact q,ne,r,d⟩
theorem Inv.forgot (I:Inv X Do σ H s){m:Str->Dc}(hn:h'.Ns X.env.locals m)(f:E6 X.env.locals s.heap h')(D:Nat):Inv X Do (List.replicate X.N.length none) H { s with heap:=h',toks:=D }:=by
 have t:∀b o,X.s₀.heap.get? b=some o->b≠X.env.locals:=fun b o e=>Zl<|Zq (Zd e) I.ok.above;refine⟨I.ok,I.os,I.bare,⟨fun b o e n hb g=>(f.2 b<|t b o e).trans<|I.base.keep b o e n hb g,fun b o e n hb g=>?_,I.base.free,fun b o e g=>?_,I.base.tups,I.base.Tw,I.base.Tg⟩,⟨m,hn,fun i x v _ q _=>?_⟩,fun x c e=>?_,I.free,I.Wm,fun p A=>?_,fun b u e=>?_,by simp⟩
 ·obtain⟨sl,l⟩:=I.base.slot b o e n hb g;exact⟨sl,(f.2 b<|t b o e).trans l⟩
 ·obtain⟨C,l⟩:=I.base.there b o e g;exact⟨C,(f.2 b<|t b o e).trans l⟩
 ·rw[List.getElem?_replicate]at q
  split at q<;>cases q
 ·obtain⟨v,z⟩:=I.cell x c e;exact⟨v,z.sameBut f<|I.uU x c e⟩
 ·obtain⟨e,n,ne,B,d⟩:=I.pin p A;exact⟨(f.2 p.1 ne).trans e,n,ne,B,d⟩
 ·refine(I.hok b u e).stay (fun c v w r=>(f.2 c fun z=>?_).trans r) (fun _ r=>r) fun _ _ r=>r;have j:=I.free;rw[←z]at j
  rcases w with y|y
  ·rw[y,e]at j;cases j
  ·rw[y]at j;cases j
def Cx.vK (X:Cx)(Do:Df)(R:St->Hp->Ej->Prop):Cx :=
 { X with pn:=X.pn++Do,xe:=fun e b=>∃a T cls σ H,e=.ref a/\Inv X Do σ H b/\Pe X Do H a/\Pe X Do H T/\ExcAt b.heap a T cls/\R σ H cls }
theorem Inv.into (I:Inv X Do σ H s)(R:St->Hp->Ej->Prop):Inv (X.vK Do R) [] σ H s :=
 ⟨⟨I.ok.mod,I.ok.kind,I.ok.glob,I.ok.blt,I.ok.above,I.ok.inj,I.ok.has,I.ok.cab,I.ok.hd,I.ok.frames,I.ok.stk,I.ok.vp,I.ok.bs,I.ok.v6,I.ok.wY,I.ok.yt,I.ok.Tz,I.ok.vM⟩,I.os,I.bare,I.base,I.loc,I.cell,I.free,I.Wm,fun p b=>I.pin p (by
  have b:p∈(X.pn++Do)++[]:=b;simpa using b),I.hok,I.len⟩
theorem Inv.zu (I:Inv (X.vK Do R) D4 σ H s):Inv X Do σ H s :=
 ⟨⟨I.ok.mod,I.ok.kind,I.ok.glob,I.ok.blt,I.ok.above,I.ok.inj,I.ok.has,I.ok.cab,I.ok.hd,I.ok.frames,I.ok.stk,I.ok.vp,I.ok.bs,I.ok.v6,I.ok.wY,I.ok.yt,I.ok.Tz,I.ok.vM⟩,I.os,I.bare,I.base,I.loc,I.cell,I.free,I.Wm,fun p b=>I.pin p<|Yz _ b,I.hok,I.len⟩
theorem SP.zu (h:SP (X.vK Do R) D4 D f s'):SP X Do D f s':=by
 cases f with
 |next=>obtain⟨b,c,I,q⟩:=h;exact⟨b,c,I.zu,q⟩
 |brk=>obtain⟨b,c,I,q⟩:=h;exact⟨b,c,I.zu,q⟩
 |cont=>obtain⟨b,c,I,q⟩:=h;exact⟨b,c,I.zu,q⟩
 |ret u=>obtain⟨v,b,c,I,r,q⟩:=h;exact⟨v,b,c,I.zu,r,q⟩
theorem qA (c:X.ex=[]):Raises (X.vK Do R) R:=by
 intro D4 σ H s e p I l;obtain⟨a,T,cls,f,rfl,os,bare,un,hok,o,n,ha,j,i,q⟩:=l;have d:Inv X Do σ H s:=I.zu;have g:Inv X Do σ f p:=d.call' (ch:=[]) os un hok bare fun b z=>absurd z (by simp);exact⟨a,T,cls,σ,f,rfl,g,d.uF c o ha,d.uF c n j,i,q⟩
def Cx.wJ (X:Cx)(e:Ej):Cx:={ X with A:=X.A.mark<|some e,calm:=false,xe:=fun _ _=>False }
theorem Inv.mark (I:Inv X Do σ H s)(e:Ej):Inv (X.wJ e) Do σ H s :=
 ⟨⟨I.ok.mod,I.ok.kind,I.ok.glob,I.ok.blt,I.ok.above,I.ok.inj,I.ok.has,I.ok.cab,fun z=>(by cases z),I.ok.frames,I.ok.stk,I.ok.vp,I.ok.bs,I.ok.v6,I.ok.wY,I.ok.yt,I.ok.Tz,I.ok.vM⟩,I.os,I.bare,I.base,I.loc,I.cell,I.free,I.Wm,I.pin,I.hok,I.len⟩
theorem Inv.unmark {e:Ej}(ok:X.Ok)(I:Inv (X.wJ e) Do σ H s):Inv X Do σ H s :=
 ⟨ok,I.os,I.bare,I.base,I.loc,I.cell,I.free,I.Wm,I.pin,I.hok,I.len⟩
end
def V9 (a:Ei)(cls:Ej):HO:=.ext fun h=>∃o b,h.get? a=some o/\o.cls=cls/\o.data=.fields b/\ctx0 b
def Rf (K:Ca)(C:Ei)(i:Nat)(tb:(St->Hp->Ej->Prop)->TS)(th:Ei->TS):TS:=fun D d H=>∃R:St->Hp->Ej->Prop,tb R D d H /\
 ∀b c cls a,R b c cls->c a=none->PySem.W.exmOne K cls (.ref C)=some true/\th a { nx:=fun _ _=>False,rt:=D.rt } (b.set i (some<|.ref a)) (upd c a<|V9 a cls)
section
variable {X:Cx}
theorem NP {body g:List ER}{l:ER}{c n:Str}{C:Ei}{i:Nat}{np G pos:Pos}{tb:(St->Hp->Ej->Prop)->TS}{th:Ei->TS}(J:X.stack=X.env::X.outer)(ad:X.env.frame=some X.env.locals)(an:X.ex=[])
  (hb:∀Do R,R8 (X.vK Do R) body<|tb R) (hg:Gl X c) (hm:X.mg c=some (.ref C)) (hN:X.N.Nodup) (hi:X.N[i]?=some n) (hl:X.env.scope.names.lookup n=some .local) (hs:∀z:Ei,R8 (X.wJ<|.ref z) (l::g)<|th z)
  (hd:(c==("__debug__":Str))=false:=by decide):PS X (.Try body [.ExceptHandler (some<|.Name c np) (some n) (l::g) G] [] [] pos) (Rf X.K C i tb th):=by
 intro Do s σ H D I h;obtain⟨R,ac,hh⟩:=h;refine wpAny_Try_except<|Z3 (hb Do R [] s σ H D (I.into R) ac) (fun f d q=>?_) fun e d q=>?_
 ·have U:SP X Do D f d:=q.zu;cases f with
  |next=>exact J7 U
  |brk=>exact U
  |cont=>exact U
  |ret u=>exact U
 ·obtain⟨a,T,cls,j,x,rfl,y,fa,fT,⟨oe,vs,oT,ts,e1,e2,e3,e4,e5,e6,e7,e8⟩,r1⟩:=q;obtain⟨hx,ag⟩:=hh j x cls a r1 fa.1;have hA:X.A.frames=some (X.env::X.outer):=by rw[y.ok.frames,J]
  have E:∀b∈[a,T],Pe X Do x b:=fun b z=>by
   rcases Za.mp z with z|z
   ·rwa[z]
   ·rwa[Q8.mp z]
  have aa:d.heap.FunFrames (Ug d.heap [a,T] X.stack) (X.env::X.outer):=by have z:=jF (as:=[a,T]) y.stack;rw[J]at z ⊢;exact z
  have ab:Kk ctx0 d.heap (Ug d.heap [a,T] X.stack) a cls .none:=⟨oe,vs,T,oT,ts,e1,e2,e3,e4,Jn _<|by simp,e5,e6,e7,e8⟩;refine FN UN hA aa ad ab jA (Jn _<|by simp) fun h2 Q g2 t M=>?_;refine qC (s:={ d with heap:=h2 }) Q g2 t fun S P Z p O=>?_;have I3:Inv X Do j x { d with heap:=S }:=y.land E P (M.trans O) d.toks;refine wpAny_handleBy_cons (codeAny_handlers_test ?_) (by intro z;cases z);refine qO (X:=X.wJ<|.ref a) (I3.mark _) hg hm ?_ hd;obtain⟨ob,_,_,_,_,af,⟨F,_⟩,_⟩:=id p;have LT:PySem.W.Looks (Et X.prog X.w) S (typeOf<|.ref a) cls:=F▸(PySem.W.Looks.ld af).andThen .now;refine(PySem.W.exm_one (K:=X.K) (h:=S) I3.Tn LT hx).here ?_;refine codeAny_handlers_suite_as<|qC (s:={ d with heap:=S }) P Z p fun h4 aj am B ai=>?_;have I4:Inv X Do j x { d with heap:=h4 }:=y.land E aj ((M.trans O).trans ai) d.toks;have new:WT X.prog X.w (upd x a<|V9 a cls) h4 a (V9 a cls):=by
   obtain⟨L,ak,_,_,_,Q,⟨g2,gc⟩,g3,_⟩:=B;exact⟨⟨L,ak,Q,g2,g3,gc⟩,⟨L,Q⟩,fun u1 u2 ⟨o,v,z1,z2,z3⟩ k=>⟨o,v,k o z1,z2,z3⟩⟩
  have I5:Inv X Do j (upd x a<|V9 a cls) { d with heap:=h4 }:=I4.uZ fa new;refine XX (X:=X.wJ<|.ref a) (v:=.ref a) (I5.mark _) hN hi (EY hl) rfl (fun s6 I6=>?_)<|Or.inr hl;refine Z3 (hs a Do s6 _ _ _ I6 ag) (fun f s7 Y=>?_) fun _ _ z=>z.elim;cases f with
  |ret u =>
   obtain⟨v,al,H7,I7,rv,q⟩:=Y;have r:Inv X Do al H7 s7:=I7.unmark y.ok;obtain⟨m,hn,_⟩:=r.loc;refine wpAny_nameGoes hl hn (by rw[r.ok.kind];rfl) fun h8 m8 ae ah=>?_;exact⟨v,_,H7,r.forgot ae ah _,rv,q⟩
  |next=>obtain⟨_,_,_,z⟩:=Y;exact z.elim
  |brk=>obtain⟨_,_,_,z⟩:=Y;exact z.elim
  |cont=>obtain⟨_,_,_,z⟩:=Y;exact z.elim
end
section
variable {P:Ek}{w:Ep}{K:Ca}{mg:Str->Dc}{base:EC}
theorem Wt.Sg {st:ER}{k:Nat}{sp:Sp}(F:Wt K x qual st f fd)(S:W7 N ps<|zE st)
  (d:∀(cdv:Ej) (A:ED) (outer:List Env) (s:Eo) (H:Hp) (vs:Dk) (Q:VK) (E:XK),Wy k (A.deeper<|Mc qual (zE st) s.heap.objs.size f cdv)->sp vs H Q E -> ∃t,R8 (Ix (Cl P w) P w K mg base N qual (zE st) f cdv A outer s H E) (yX st) t/\t { nx:=fun _ H'=>Q .non H',rt:=Q } (start N vs) H)(len:∀vs H Q E,sp vs H Q E->vs.length=ps.length:=by intro _ _ _ _ h;first|(cases h;subst_vars;rfl)|repeat first|(obtain⟨rfl,_⟩:=h;rfl)|obtain⟨_,h⟩:=h):W0 P w K mg base (Cl P w) (k+1) f fd ps sp:=by
 obtain⟨n,o,kV,e,p,l,cdv,ct,j,rfl,i,b⟩:=F.ex;refine Oa i b S len fun A outer s H vs Q E g c=>?_;obtain⟨t,h,q⟩:=d cdv A outer s H vs Q E g c;exact⟨t,h,q⟩
end
section
variable {X:Cx}{a:EK}{ta:TE}{K:Ca}
def RZ (K:Ca)(ta:TE):TT:=fun c H Q=>ta c H fun x b=>∃k,Ot K x b k/\Q k b
theorem zP (ha:PE X a ta)(c:∀whole,isTrue a X.env whole=(do let v ←whole;standAt a.pos;Mp [v] (truthy v)):=by intro _;rfl)(b:X.K=K:=by rfl):PT X a (RZ K ta):=by
 subst b;exact MA ha c
end
end L2
namespace An
open PySem L2
abbrev cs (x:Str):List Nat:=x.cps.toList
theorem T6 (h:cs x=cs y):x=y:=by
 obtain⟨a⟩:=x;obtain⟨b⟩:=y;have:a=b:=by simpa using h
 rw[this]
theorem WY (x y:Str):cs (x++y)=cs x++cs y:=by
 show(x.cps++y.cps).toList=_;simp
theorem WW (x:Str):x.length=(cs x).length:=by simp[Str.length]
theorem WQ (x y:Str):(x++y).length=x.length+y.length:=by rw[WW,WW,WW,WY,ZD]
theorem kE:∀xs:Da,cs (Str.join "" xs)=xs.flatMap cs
 |[]=>rfl
 |[x]=>by show cs x=_;simp
 |x::y::r=>by
  show cs (x++""++Str.join "" (y::r))=_;have:cs ("":Str)=[]:=by decide +kernel
  rw[WY,WY,kE (y::r),this,YG];simp
theorem q8:∀(a b:Da),EW (a.map .str) (b.map .str)=decide (a=b)
 |[],[]=>rfl
 |[],_::_=>rfl
 |_::_,[]=>rfl
 |x::a,y::b=>by
  show((x==y)&&EW (a.map .str) (b.map .str))=_;rw[q8 a b,ZS];simp
structure Ok (n:Nat)(x:Str):Prop where
 len:x.length<=n
 ok:El x=true
theorem x5 (x:Str):El x=true↔∀c∈cs x,c<1114112:=by
 unfold El;rw[←Array.all_toList,ZW];simp
theorem q9:∀ls:Da,(∀p∈ls,El p=true)->Ew (ls.map .str)=true/\EF (ls.map .str)=0
 |[],_=>⟨rfl,rfl⟩
 |x::ls,h=>by
  obtain⟨b,c⟩:=q9 ls fun p d=>h p<|Zi _ d;refine⟨?_,?_⟩
  ·show(El x&&Ew (ls.map .str))=true;rw[h x Zj,b];rfl
  ·show max 0 (EF<|ls.map .str)=0;rw[c];rfl
theorem qB {ls:Da}(h:∀p∈ls,El p=true):ET (.list<|ls.map .str)=true/\ET (.tuple<|ls.map .str)=true:=by
 obtain⟨b,c⟩:=q9 ls h;refine⟨?_,?_⟩
 ·show(Ew (ls.map .str)&&decide (EF (ls.map .str)+1<=64))=true;rw[b,c];rfl
 ·show(Ew (ls.map .str)&&decide (EF (ls.map .str)+1<=64))=true;rw[b,c];rfl
theorem zG {H:Hp}{l:Ei}(h:H l=none):W8 H (upd H l o):=fun b u e=>by rwa[zI<|zN e h]
theorem W8.uJ {l:Ei}(e:W8 H H2)(n:H l=none):W8 H (upd H2 l o):=fun b u q=>by rw[zI<|zN q n];exact e b u q
theorem W3 {n:Nat}(h:n<=16777216):n<=sizeLine:=by rwa[Ya]
theorem jH {n:Nat}(h:n<16777216):n<sizeLine:=by rwa[Ya]
theorem Bx {b:Type}(x:b)(r:List b):Ct (x::r) 0=some x:=zT (j:=0) rfl
theorem VR (n:Nat)(h:n<=16777216:=by decide):n<=sizeLine:=W3 h
theorem Uf {c A B:Prop} [Decidable c](hc:¬c)(h:B):if decide c=true then A else B:=by
 rw[Zg hc];exact VQ h
theorem MU {n:Nat}:∀(ys:Da),(∀y∈ys,y.length<=n)->(ys.map (·.length)).sum<=ys.length*n
 |[],_=>by simp
 |y::ys,h=>by
  have c:=MU ys fun z b=>h z<|Zi _ b;have d:=h y Zj;rw[ZJ,List.sum_cons,ZF,Nat.succ_mul];omega
theorem XH {b:Type}{p:b->Prop}{l:List b}{x:b}(h:∀y∈l,p y)(d:p x):∀y∈l++[x],p y:=fun y c=>by
 rcases ZG.mp c with z|z
 ·exact h y z
 ·rwa[Q8.mp z]
theorem GR {c:Type}{f:c->V}{xs:List c}{i:Int}(d:0<=i)(e:i<xs.length):∃x,xs[i.toNat]?=some x/\Ct (xs.map f) i=some (f x):=by
 obtain⟨j,rfl⟩:=YD d;have b:j<xs.length:=by omega
 refine⟨xs[j],by simp[b],zT ?_⟩;rw[Zo,Zh b];rfl
theorem Ks {i:Int}(b:0<=i):XO xs (some i) none=xs.drop i.toNat:=by
 obtain⟨j,rfl⟩:=YD b;unfold XO;rw[HT.vD,HT.vh];show(xs.drop<|min j xs.length).take (xs.length-min j xs.length)=xs.drop j
 by_cases h:j<=xs.length
 ·rw[Nat.min_eq_left h];exact JQ (by rw[YO];omega)
 ·rw[Nat.min_eq_right<|by omega,List.drop_eq_nil_of_le<|Q9 _,List.drop_eq_nil_of_le<|by omega];simp
theorem XD (K:Ca)(T:String):EM K (.type T) (.type T)=some true:=by
 unfold EM;rw[Zp<|by simp]
theorem VX {A B:Prop}(h:B):if(!true)=true then A else B:=by
 show if false=true then A else B;exact VQ h
theorem Uc {A B:Prop}(h:A):if(!false)=true then A else B:=by
 show if true=true then A else B;exact VO h
def one (c:Nat):Str:=⟨#[c]⟩
theorem BG:∀l:List Nat,cs (Txt.join ""<|l.map one)=l:=by
 intro l;have b:Txt.join "" (l.map one)=Str.join "" (l.map one):=LH _ _;rw[b,kE,List.flatMap_map]
 induction l with
 |nil=>rfl
 |cons c l ih =>
  rw[List.flatMap_cons];show[c]++_=_;rw[ih<|LH _ _];rfl
theorem G8:∀l:List Nat,((l.map one).map (·.length)).sum=l.length
 |[]=>rfl
 |c::l=>by
  rw[ZJ,ZJ,List.sum_cons,G8 l,ZF];show 1+l.length=_;omega
end An
namespace L2
open PySem PySem.Spec PyProof.Rows
end L2
namespace AxT
open PySem PySem.Spec PyProof.Rows PySem.SeqAt
end AxT
namespace L2
open PySem PySem.Spec PyProof.Rows
end L2
namespace AxR
open PySem PySem.Spec PyProof.Rows
end AxR
namespace L2
open PySem PySem.Spec PyProof.Rows
section
variable {X:Cx}{K:Ca}
def RK:R2:=fun x y H Q=>∃i j:Str,x=.str i/\y=.str j/\Q (.bl<|!decide (j.cps.toList<i.cps.toList)) H
theorem Gk:Cj X (EJ .LtE) RK:=by
 intro d s f H x y v u Q I b c h;obtain⟨i,j,rfl,rfl,q⟩:=h;obtain⟨t,rfl⟩:=b;obtain⟨e,rfl⟩:=c;exact P.le_str ⟨.bl _,H,I,rfl,q⟩
theorem GV:∀{bs:List Bool} {us:Db},W2 (bs.map V.bl) us->us=bs.map LA
 |[],us,h=>by cases h;rfl
 |b::bs,us,h=>by
  cases h with
  |cons r1 r2=>rw[GV r2];cases r1;rfl
def RF (K:Ca):Dk->Hp->VK->Prop:=fun b H Q=>∃(a:Ei) (bs:List Bool),b=[.ref a]/\WP K H a (bs.map V.bl)/\Q (.bl<|bs.all id) H
theorem jR (o:X.calm=true)(n:X.K=K:=by rfl):Wz X (.builtin "all") (RF K):=by
 subst n;intro x s J H G F Q I r h;obtain⟨a,bs,rfl,ha,q⟩:=h;obtain⟨u,rfl,t⟩:=Wl r;cases t;obtain⟨c,w,p,C⟩:=I.list ha;have g:=GV w;have hl:=p.isList;have f:a<s.heap.objs.size:=by obtain⟨_,e,_⟩:=hl;exact Zd e
 refine call_all_walk<|Jm hl ?_;refine⟨s.heap.objs.size,[s.heap.objs.size,a],[s.heap.objs.size],c.toArray.size,_,_,fun i=>(bs[i]?).getD true,rfl,Walks.list (A:=X.A.in1) (I.ok.hd o) _ a (Zl f) c.toArray,⟨⟨_,Zb _ rfl,rfl,rfl⟩,hl.push _⟩,fun i v D z y d j=>?_,fun B E hk=>?_⟩
 ·have d:c[i]?=some v:=by simpa using d
  rw[g,Zo]at d;cases e:bs[i]? with
  |none=>rw[e]at d;cases d
  |some b =>
   rw[e]at d;have d:LA b=v:=Option.some.inj d;subst d;simp only[e,J2]at j;exact Yo j
 ·have l:c.length=bs.length:=by rw[g,Q5]
  have e:((EX c.toArray.size).all fun i=>(bs[i]?).getD true)=bs.all id:=by
   rw[Zn,l];exact PyProof.Rows.LSm.range_all bs
  rw[e];exact⟨.bl _,H,I.kept<|PyProof.Rows.LSm.kept_iter hk,rfl,q⟩
end
mutual
def Dw (K:Ca)(H:Hp):Er->V->Prop
 | .none,v=>v=.non
 | .bool b,v=>v=.bl b
 | .int i,v=>v=.int i
 | .str x,v=>v=.str x
 | .list ds,v=>∃a c,v=.ref a/\WP K H a c/\WD K H ds c
 | .tuple ds,v=>∃a c,v=.ref a/\Wu K H a c/\WD K H ds c
 | .dict _,v=>∃a d,v=.ref a/\H a=some (.dK d)
def WD (K:Ca)(H:Hp):Dg->Dk->Prop
 |[],xs=>xs=[]
 |d::ds,xs=>∃x r,xs=x::r/\Dw K H d x/\WD K H ds r
end
mutual
theorem Dw.same {K:Ca}(e:W8 H H'):∀(d:Er) (v:V),Dw K H d v->Dw K H' d v
 | .none,_,h=>h
 | .bool _,_,h=>h
 | .int _,_,h=>h
 | .str _,_,h=>h
 | .list ds,_,⟨a,xs,h1,h2,h3⟩=>⟨a,xs,h1,e.seq h2,WD.same e ds xs h3⟩
 | .tuple ds,_,⟨a,xs,h1,h2,h3⟩=>⟨a,xs,h1,e.Wv h2,WD.same e ds xs h3⟩
 | .dict _,_,⟨a,Dm,h1,h2⟩=>⟨a,Dm,h1,e _ _ h2⟩
theorem WD.same {K:Ca}(e:W8 H H'):∀(ds:Dg) (xs:Dk),WD K H ds xs->WD K H' ds xs
 |[],_,h=>h
 |d::ds,_,⟨x,r,h1,h2,h3⟩=>⟨x,r,h1,Dw.same e d x h2,WD.same e ds r h3⟩
end
mutual
theorem Dt.dw {K:Ca}:∀{d:Er} {v:V},Dt K H d v->Dw K H d v
 | .none,_,h=>h
 | .bool _,_,h=>h
 | .int _,_,h=>h
 | .str _,_,h=>h
 | .list ds,_,⟨a,xs,h1,h2,h3⟩=>⟨a,xs,h1,h2,W6.dw h3⟩
 | .tuple ds,_,⟨a,xs,h1,h2,h3⟩=>⟨a,xs,h1,h2,W6.dw h3⟩
 | .dict _,_,h=>h.elim
theorem W6.dw {K:Ca}:∀{ds:Dg} {xs:Dk},W6 K H ds xs->WD K H ds xs
 |[],_,h=>h
 |d::ds,_,⟨x,r,h1,h2,h3⟩=>⟨x,r,h1,Dt.dw h2,W6.dw h3⟩
end
theorem WD.length {K:Ca}:∀{ds:Dg} {xs:Dk},WD K H ds xs->xs.length=ds.length
 |[],_,h=>by rw[show _=[] from h];rfl
 |d::ds,_,⟨x,r,h1,h2,h3⟩=>by rw[h1,ZF,ZF,WD.length h3]
theorem WD.get {K:Ca}:∀{ds:Dg} {xs:Dk} {i:Nat} {x:V},WD K H ds xs->xs[i]?=some x->∃d,ds[i]?=some d/\Dw K H d x
 |[],_,i,x,h,e=>by rw[show _=[] from h]at e;cases e
 |d::ds,_,0,x,⟨x',r,h1,h2,h3⟩,e=>by
  rw[h1]at e;cases e;exact⟨d,rfl,h2⟩
 |d::ds,_,i+1,x,⟨x',r,h1,h2,h3⟩,e=>by
  rw[h1]at e;obtain⟨b,c,f⟩:=WD.get (i:=i) h3 (by simpa using e);exact⟨b,by simpa using c,f⟩
theorem WD.at {K:Ca}{i:Nat}{d:Er}(h:WD K H ds xs)(e:ds[i]?=some d):∃x,xs[i]?=some x/\Dw K H d x:=by
 have c:i<xs.length:=by rw[h.length];exact(Z2.mp e).1
 obtain⟨f,b,q⟩:=h.get<|Zh c;rw[e]at b;cases b;exact⟨_,Zh c,q⟩
def Ub:Er->String
 | .none=>"NoneType"
 | .bool _=>"bool"
 | .int _=>"int"
 | .str _=>"str"
 | .list _=>"list"
 | .tuple _=>"tuple"
 | .dict _=>"dict"
section
variable {X:Cx}{Do:Df}{σ:St}{H:Hp}{s:Eo}{A:ED}{E:Ej->Di}{Q:Ej->Di}{c:Ej}{b:Bool}{K:Ca}
theorem HG (I:Inv X Do σ H s)(f:WX x u)(hd:Dw X.K H d x)(e:EM X.K (.type<|Ub d) c=some b)(h:∀tk,Q (.bool b) { s with toks:=tk }) :
  Em (Et X.prog X.w) A (call (.builtin "isinstance") [u,c]) Q E s:=by
 cases d with
 |none=>cases(show x=_ from hd);exact qM I f .non e h
 |bool y=>cases(show x=_ from hd);exact qM I f (.bl y) e h
 |int i=>cases(show x=_ from hd);exact qM I f (.int i) e h
 |str y=>cases(show x=_ from hd);exact qM I f (.str y) e h
 |dict Dm=>obtain⟨a,v,rfl,r⟩:=hd;exact qM I f (.dK r) e h
 |list ds =>
  obtain⟨a,t,rfl,l,_⟩:=hd;cases(show u=Ev a from f);obtain⟨q,_,⟨o,n,g,j,_⟩,_⟩:=I.list l;exact ZY Vo I.Tn ⟨o,g,j⟩ e (fun z=>nomatch z) h
 |tuple ds =>
  obtain⟨a,t,rfl,l,_⟩:=hd;cases(show u=Ev a from f);obtain⟨q,_,p,_⟩:=I.tuple l;obtain⟨o,g,j,_⟩:=p;exact ZY PySem.W.kitx_tuple I.Tn ⟨o,g,j⟩ e (fun z=>nomatch z) h
def PU (K:Ca):Dk->Hp->VK->Prop:=fun c H Q=>∃y T d b,c=[y,.ty T]/\Dw K H d y/\EM K (.type<|Ub d) (.type T)=some b/\Q (.bl b) H
theorem zS (e:X.K=K:=by rfl):Wz X (.builtin "isinstance") (PU K):=by
 subst e;intro Do s σ H n l Q I r h;obtain⟨y,T,d,b,rfl,hd,f,q⟩:=h;obtain⟨u,i,rfl,g,c⟩:=vals2 r;cases(show i=Value.type T from c);exact HG I g hd f fun j=>⟨.bl b,H,I.tok _,rfl,q⟩
end
section
variable {src:List (Option Nat)}{g:TG}{te:TE}{Q:VK}{σ:St}{H:Hp}
theorem IZ {x:Str}(b:Nat->Dk->St->Hp->Prop)(f:b 0 [] (VW src σ) H)(hz:x.length<=sizeLine)(hl:∀i ys σ H,i<=x.length->b i ys σ H->ys.length<=i)
  (hs:∀i c ys σ H,x.cps[i]?=some c->b i ys σ H->g (.str ⟨#[c]⟩) σ H fun σ2 H3=>te σ2 H3 fun y H5=>b (i+1) (ys++[y]) σ2 H5)
  (hd:∀ys σ H,b x.length ys σ H->∀p,H p=none->Q (.ref p) (upd H p<|.lst ys)):Ue src (Pq x) g IJ te Q σ H :=
 Uy x.length b f hz hl (fun _ _ _ _=>rfl) (fun _ _ _ _ d _=>d)
  (fun i ys σ H d p n l y=>by
   obtain⟨e,c,j,rfl⟩:=y;subst e;rw[GU];exact hs i c ys σ _ j p) hd
end
end L2
namespace L2
open PySem PySem.Spec PyProof.Rows
section
variable {X:Cx}{K:Ca}{a b c d:EK}{ta tb tc td:TE}{pos:Pos}
def NR (K:Ca)(tup c:Bool):R2:=fun x y H Q=>∃(d:Er) (b:Dg),Dt K H d x/\Dt K H (if tup then .tuple b else .list b) y/\Ew b=true/\d.canLay0=true/\d.depth<=60/\Q (.bl<|c !=b.any fun y=>EG y d) H
theorem OQ (w:X.A.units+64<E4)(g:X.K=K:=by rfl):Cj X (EJ .In) (NR K false false):=by
 subst g;intro p s z H x y v u Q I l n h;obtain⟨d,o,b,c,e,f,t,q⟩:=h;obtain⟨r,i⟩:=Dt.Ws I d x v b l;obtain⟨bs,j⟩:=Dt.Ws I _ y u c n;have hm:min (EF o) d.depth<=d.depth:=Jy _ _;exact SeqAt.in_list_reads j i e f (by omega) ⟨.bl _,H,I,rfl,by simpa using q⟩
end
section
variable {X:Cx}{Do:Df}{σ:St}{H:Hp}{s:Eo}
theorem Io (p:X.stack=X.env::X.outer)(M:X.env.frame=some X.env.locals)(B:X.ex=[])(I:Inv X Do σ H s){a T:Ei}{cls:Ej}(na:X.s₀.heap.get? a=none)(nT:X.s₀.heap.get? T=none)(ha:H a=none)(hT:H T=none)(ea:ExcAt s.heap a T cls){E:XK}(q:E cls none H)
  {Ex:Ej->Di}:Em (Et X.prog X.w) X.A (leaving X.env<|.ref a) (fun _ s''=>Cl X.prog X.w X.outer X.H₀ X.s₀ E (.ref a) s'') Ex s:=by
 have fr:=jF (as:=[a,T]) I.stack;have hA:X.A.frames=some (X.env::X.outer):=by rw[I.ok.frames,p]
 have C:∀b,b=a\/b=T->(Ug s.heap [a,T] X.stack).get? b=none:=fun b hb=>by
  cases D:(Ug s.heap [a,T] X.stack).get? b with
  |none=>rfl
  |some o =>
   exfalso;have z:=Jn ([a,T]++frs X.stack) (h:=s.heap) (b:=b) (Yz _<|by simpa using hb);rw[z]at D;cases D
 obtain⟨oe,vs,oT,ts,t1,t2,t3,t4,t6,t7,t8,t9⟩:=ea;have tw:Kk ctx0 s.heap (Ug s.heap [a,T] X.stack) a cls .none:=⟨oe,vs,T,oT,ts,t1,t2,t3,t4,C T<|.inr rfl,t6,t7,t8,t9⟩;refine CN (base:=Ug s.heap [a,T] X.stack) UN hA (by rwa[←p]) M tw jA (C a<|.inl rfl) fun K k1 k2 L k4=>?_;obtain⟨U,aa,f,Q,Z,u1,u2,u3,u4,u5,u6,u7,u8,u9⟩:=L;have stk:∀b∈frs X.stack,H b=none:=I.SJ;have kp:∀b o,s.heap.get? b=some o->b≠a->b≠T->b∉frs X.stack->K.get? b=some o:=fun b o e h3 h4 hb=>k1 b o (YH _ e (by
  intro z
  rcases ZG.mp z with z|z
  ·have z:b=a\/b=T:=by simpa using z
   exact z.elim h3 h4
  ·exact hb z))
 have sl:∀b o,s.heap.get? b=some o->b∈frs X.stack->∃sl,K.get? b=some { o with slots:=sl }:=fun b o e hb=>by
  obtain⟨_,P,g,hd⟩:=I.stack.mem hb;rw[e]at g;cases g;exact k4 b o e hd
 have nL:∀b o,X.s₀.heap.get? b=some o->b≠X.env.locals:=fun b o e=>Zl<|Zq (Zd e) I.ok.above;have j:∀b,b∉X.ex:=fun b=>by rw[B];simp
 have O:∀b o,X.s₀.heap.get? b=some o->b≠a:=fun b o e z=>by rw[z,na]at e;cases e
 have t:∀b o,X.s₀.heap.get? b=some o->b≠T:=fun b o e z=>by rw[z,nT]at e;cases e
 have F:f=T\/s.heap.get? f=none:=by
  by_cases D:f=T
  ·exact .inl D
  ·refine .inr ?_;cases qT:s.heap.get? f with
   |none=>rfl
   |some o =>
    exfalso
    by_cases hf:f∈frs X.stack
    ·have N:K.FunFrames (Ug s.heap [a,T] X.stack) X.stack:=by have z:=k2;rw[←p]at z;exact z
     obtain⟨_,P,g,hd⟩:=N.mem hf;rw[u7]at g;cases g;exact hd _ u8
    ·have z:(Ug s.heap [a,T] X.stack).get? f=some o:=YH _ qT (by
      intro z
      rcases ZG.mp z with z|z
      ·have z:f=a\/f=T:=by simpa using z
       exact z.elim u6 D
      ·exact hf z)
     rw[u5]at z;cases z
 have R:X.s₀.heap.get? f=none:=F.elim (fun z=>by rwa[z]) fun z=>I.TX B z;have S:H f=none:=F.elim (fun z=>by rwa[z]) fun z=>I.none_of z;refine⟨a,f,cls,H,rfl,I.os,I.bare,⟨fun b o d n hb _=>?_,fun b o d n hb _=>?_,fun b o d n _=>I.base.free b o d n<|j b,fun b o d _=>?_,I.base.tups,I.base.Tw,I.base.Tg⟩,fun b u d=>?_,na,R,ha,S,⟨U,aa,Q,Z,u1,u2,u3,u4,u6,u7,u8,u9⟩,q⟩
 ·refine kp b o (I.base.keep b o d n hb<|j b) (O b o d) (t b o d) fun z=>?_
  rcases Za.mp (I.Sy b z) with r|r
  ·exact nL b o d r
  ·exact hb r
 ·obtain⟨Y,x⟩:=I.base.slot b o d n hb<|j b
  by_cases i:b∈frs X.stack
  ·obtain⟨G,J⟩:=sl b _ x i;exact⟨G,J⟩
  ·exact⟨Y,kp b _ x (O b o d) (t b o d) i⟩
 ·obtain⟨P,x⟩:=I.base.there b o d<|j b
  by_cases i:b∈frs X.stack
  ·obtain⟨G,J⟩:=sl b _ x i;exact⟨_,J⟩
  ·exact⟨P,kp b _ x (O b o d) (t b o d) i⟩
 ·have off:∀c,(c=b\/H c=some (.own b))->H c≠none:=fun c l z=>by
   rcases l with y|y
   ·rw[y,d]at z;cases z
   ·rw[y]at z;cases z
  refine(I.hok b u d).stay (fun c v l r=>kp c v r (fun z=>?_) (fun z=>?_) fun z=>?_) (fun _ r=>r) fun _ _ r=>r
  ·rw[z]at l
   rcases l with y|y
   ·rw[←y,ha]at d;cases d
   ·rw[ha]at y;cases y
  ·rw[z]at l
   rcases l with y|y
   ·rw[←y,hT]at d;cases d
   ·rw[hT]at y;cases y
  ·have i:=stk c z
   rcases l with y|y
   ·rw[y,d]at i;cases i
   ·rw[y]at i;cases i
end
theorem z6 {P:Ek}{w:Ep}{K:Ca}{mg:Str->Dc}{base:EC}{N:Da}{qual:Str}{scope:LI}{f:Ei}{d:Ej}{A:ED}{outer:List Env}{s:Eo}{H:Hp}{E:XK} :
  Raises (Ix (Cl P w) P w K mg base N qual scope f d A outer s H E) (fun _ H' cls=>E cls none H'):=by
 intro o u p t e r I j;obtain⟨a,T,cls,H',rfl,os,bare,un,hok,n,l,ha,i,g,q⟩:=j;have c:=I.call' (ch:=[]) os un hok bare fun b z=>absurd z (by simp);exact Io rfl rfl rfl c (I.TX rfl n) (I.TX rfl l) ha i g q
theorem Ss.mk' {K:Ca}{st:ER}(F:Wt K x qual st f fd)(G:W0 P w K mg base (Cl P w) k f fd ps sp)(hm:mg x=some (.ref f))
  (b:Wr K fd ps []):Ss P w K mg base k x ps sp:=⟨f,fd,G,hm,F.kp,b⟩
instance:DecidableEq PyData:=fun a b=>decidable_of_iff _<|same_iff (a:=a) (b:=b)
mutual
def Ur:Er->Bool
 | .str x=>El x
 | .tuple ds=>yU ds
 | .none=>true
 |_=>false
def yU:Dg->Bool
 |[]=>true
 |d::ds=>Ur d&&yU ds
end
mutual
def Id:Er->Nat
 | .tuple ds=>xL ds+1
 |_=>0
def xL:Dg->Nat
 |[]=>0
 |d::ds=>max (Id d)<|xL ds
end
mutual
def yj (h:EC):Er->Ej->Prop
 | .str x,v=>∃t,v=.str x t
 | .tuple ds,v=>∃a o b n,v=.ref a/\h.get? a=some o/\o.cls=.type "tuple"/\o.data=.seq b n/\Wj h ds b.toList
 | .none,v=>v=.none
 |_,_=>False
def Wj (h:EC):Dg->Db->Prop
 |[],vs=>vs=[]
 |d::ds,vs=>∃v r,vs=v::r/\yj h d v/\Wj h ds r
end
mutual
def Ui (w:Ep):Er->Int
 | .str x=>hashStr w x
 | .tuple ds=>reduceHash<|EV<|kS w ds
 | .none=>reduceHash 0xFCA86420
 |_=>0
def kS (w:Ep):Dg->List Int
 |[]=>[]
 |d::ds=>Ui w d::kS w ds
end
mutual
def IU:Er->Nat
 | .tuple ds=>yY ds+1
 |_=>1
def yY:Dg->Nat
 |[]=>0
 |d::ds=>IU d+yY ds
end
theorem X3 (w:Ep):∀ds,kS w ds=ds.map (Ui w)
 |[]=>rfl
 |d::ds=>by rw[kS,X3 w ds];rfl
theorem UX:∀(a b:Dg),yY (a++b)=yY a+yY b
 |[],b=>by simp[yY]
 |d::a,b=>by
  show IU d+yY (a++b)=(IU d+yY a)+yY b;rw[UX a b];omega
mutual
theorem yj.Ws:∀(d:Er) (v:Ej),yj h d v->∃as,Reads h v d as
 | .str x,_,⟨t,e⟩=>by subst e;exact⟨_,.str x t⟩
 | .tuple ds,_,⟨a,o,vs,n,e,h1,h2,h3,h4⟩=>by
  subst e;obtain⟨as,q⟩:=Wj.Ws ds vs.toList h4;exact⟨_,.tuple h1 h2 h3 q⟩
 | .none,_,e=>by cases(show _=EA from e);exact⟨_,.none⟩
 | .bool _,_,q=>q.elim
 | .int _,_,q=>q.elim
 | .list _,_,q=>q.elim
 | .dict _,_,q=>q.elim
theorem Wj.Ws:∀(ds:Dg) (vs:Db),Wj h ds vs->∃as,LG h vs ds as
 |[],vs,e=>by cases(show vs=[] from e);exact⟨_,.nil⟩
 |d::ds,_,⟨v,r,e,h1,h2⟩=>by
  subst e;obtain⟨as,q⟩:=yj.Ws d v h1;obtain⟨bs,b⟩:=Wj.Ws ds r h2;exact⟨_,.cons q b⟩
end
mutual
theorem yj.inj:∀(d e:Er) (v:Ej),yj h d v->yj h e v->d=e
 | .str x,e,v,⟨t,h1⟩,h2=>by
  subst h1;cases e with
  |str y=>obtain⟨g,q⟩:=h2;cases q;rfl
  |tuple ds=>obtain⟨a,o,b,n,q,_⟩:=h2;cases q
  |none=>cases(show _=EA from h2)
  |bool _=>exact h2.elim
  |int _=>exact h2.elim
  |list _=>exact h2.elim
  |dict _=>exact h2.elim
 | .tuple ds,e,v,⟨a,o,b,n,h1,h3,h4,h5,h6⟩,h2=>by
  subst h1;cases e with
  |str y=>obtain⟨g,q⟩:=h2;cases q
  |tuple es =>
   obtain⟨l,r,j,p,q,c,s,f,i⟩:=h2;cases q;rw[h3]at c;cases c;rw[h5]at f;cases f;rw[Wj.inj ds es b.toList h6 i]
  |none=>cases(show _=EA from h2)
  |bool _=>exact h2.elim
  |int _=>exact h2.elim
  |list _=>exact h2.elim
  |dict _=>exact h2.elim
 | .none,e,v,h1,h2=>by
  cases(show v=EA from h1);cases e with
  |str y=>obtain⟨g,q⟩:=h2;cases q
  |tuple es=>obtain⟨a,o,b,n,q,_⟩:=h2;cases q
  |none=>rfl
  |bool _=>exact h2.elim
  |int _=>exact h2.elim
  |list _=>exact h2.elim
  |dict _=>exact h2.elim
 | .bool _,_,_,q,_=>q.elim
 | .int _,_,_,q,_=>q.elim
 | .list _,_,_,q,_=>q.elim
 | .dict _,_,_,q,_=>q.elim
theorem Wj.inj:∀(ds es:Dg) (vs:Db),Wj h ds vs->Wj h es vs->ds=es
 |[],[],_,_,_=>rfl
 |[],e::es,vs,h1,⟨v,r,q,_⟩=>by rw[show vs=[] from h1]at q;cases q
 |d::ds,[],vs,⟨v,r,q,_⟩,h2=>by rw[show vs=[] from h2]at q;cases q
 |d::ds,e::es,_,⟨v,r,h1,h3,h4⟩,⟨v',r',q1,q3,q4⟩=>by
  subst h1;injection q1 with b c;subst b c;rw[yj.inj d e v h3 q3,Wj.inj ds es r h4 q4]
end
mutual
theorem yj.keeps {h h':EC}{dd:Ei}{c:Obj}{es:Array Lj}{ep:Nat}(b:h.get? dd=some c)(hd:c.data=.dict es ep)(hs:E6 dd h h'):∀(d:Er) (v:Ej),yj h d v->yj h' d v
 | .str x,_,q=>q
 | .tuple ds,_,⟨a,o,vs,n,e,h1,h2,h3,h4⟩=>by
  have ne:a≠dd:=fun z=>by
   subst z;rw[h1]at b;cases b;rw[h3]at hd;cases hd
  exact⟨a,o,vs,n,e,(hs.2 a ne).trans h1,h2,h3,Wj.keeps b hd hs ds vs.toList h4⟩
 | .none,_,q=>q
 | .bool _,_,q=>q.elim
 | .int _,_,q=>q.elim
 | .list _,_,q=>q.elim
 | .dict _,_,q=>q.elim
theorem Wj.keeps {h h':EC}{dd:Ei}{c:Obj}{es:Array Lj}{ep:Nat}(b:h.get? dd=some c)(hd:c.data=.dict es ep)(hs:E6 dd h h'):∀(ds:Dg) (vs:Db),Wj h ds vs->Wj h' ds vs
 |[],_,q=>q
 |d::ds,_,⟨v,r,e,h1,h2⟩=>⟨v,r,e,yj.keeps b hd hs d v h1,Wj.keeps b hd hs ds r h2⟩
end
section
variable {prog:Ek}{w:Ep}
def Gx (prog:Ek)(w:Ep)(d:Er):Prop:=∀(A:ED) (E:Ej->Di) (s:Eo) (v:Ej) (Q:Int->Di),A.units+Id d<E4->yj s.heap d v->Q (Ui w d) { s with toks:=s.toks+IU d }->Em (Et prog w) A (pyHash v) Q E s
theorem GE:∀{ds:Dg} {d:Er},d∈ds->Id d<=xL ds
 |[],_,h=>nomatch h
 |e::ds,d,h=>by
  show Id d<=max (Id e) (xL ds)
  rcases Za.mp h with rfl|h
  ·omega
  ·have:=GE h;omega
theorem CG {g:Dg}(L:∀d∈g,Gx prog w d):Gx prog w (.tuple g):=by
 intro A E s v Q J j h;obtain⟨a,o,M,n,rfl,u,G,hd,I⟩:=j;have q:A.units<cLine:=by omega
 have l:s.TypeIs (.ref a) "tuple":=⟨o,u,G⟩;have K:A.units+(xL g+1)<cLine:=J;unfold pyHash
 first|unfold pyHashByItsType|skip
 first|refine Q4 (wpAny_cRoomFor_or (.inr q) ?_)|skip
 refine Q4<|Jk l F.slot_tuple_hash.lookup ?_;show Em _ _ (if(some (Value.builtin "tuple.__hash__")==some EA)=true then _ else _) Q E s;rw[Zm (by rw[beq_builtin_none];exact Zs)];refine Q4<|Jk l F.slot_tuple_hash.lookup ?_;show Em _ _ (callSpecialIfBoundUnlessNone? (.ref a) "__hash__" _>>=_) Q E s;refine Q4<|wpAny_callSpecialIfBoundUnlessNone?_slot l F.slot_tuple_hash<|ZO F.slot_tuple_hash l F.entry_tuple_hash ?_<|F.args_tuple_hash_1 _;show Em _ _ (LL (.ref a)>>=_) _ _ s;refine Q4<|Vi u hd ?_;refine Q4 ?_;rw[←Array.forIn_toList];refine VB _
  (fun f (b:Array Int) t=>∃done left,g=done++left/\Wj s.heap left f/\b.toList=done.map (Ui w)/\t={ s with toks:=s.toks+yY done })
  _ ?_ ?_ _ _ ⟨[],g,rfl,I,rfl,by simp[yY]⟩
 ·rintro x f b t ⟨done,left,e,hl,hb,rfl⟩;cases left with
  |nil=>cases(show x::f=[] from hl)
  |cons d left =>
   obtain⟨v,r,p,C,D⟩:=hl;injection p with z B;subst z B;have hm:d∈g:=by rw[e];simp
   have H:=GE hm;have y:∃c i,g=c++i/\Wj s.heap i f/\(b.push<|Ui w d).toList=c.map (Ui w)/\({ s with toks:=s.toks+yY done+IU d }:Eo)={ s with toks:=s.toks+yY c } :=
    ⟨done++[d],left,by simp[e],D,by simp[hb],by rw[UX];simp[yY,Nat.add_assoc]⟩
   refine Q4 (L d hm A.in1 _ _ _ _ (by show A.units+1+Id d<E4;omega) C ?_)
   first
    |exact Q7 y
    |exact Q4 (Q7<|Q7 y)
 ·rintro b t ⟨done,left,e,hl,hb,rfl⟩;cases left with
  |cons d left=>obtain⟨v,r,p,_⟩:=hl;cases p
  |nil =>
   rw[YG]at e;subst e;show Em _ _ (retInt<|EV b.toList) _ _ _;rw[hb];have h:Q (reduceHash<|EV<|kS w g) { s with toks:=s.toks+(yY g+1) }:=h;rw[X3]at h;refine wpAny_ret_mkInt ?_;show Em _ _ (if(decide (-(2:Int) ^ 63<=EV (g.map<|Ui w))&&decide (EV (g.map<|Ui w)<2 ^ 63))=true then _ else _) Q E _;unfold reduceHash at h
   by_cases j:(decide (-(2:Int) ^ 63<=EV (g.map<|Ui w))&&decide (EV (g.map<|Ui w)<2 ^ 63))=true
   ·rw[Zp j];rw[Zp j]at h;exact Q7 (by simpa[Nat.add_assoc] using h)
   ·rw[Zm j];rw[Zm j]at h;exact Q4 (Jq<|Q7<|by simpa[Nat.add_assoc] using h)
mutual
theorem FD:∀d:Er,Gx prog w d
 | .str x=>fun A E s v Q _ b h=>by
  obtain⟨t,rfl⟩:=b;exact(strKind prog w).pyHash (k:=x) (by show E3 x (.str x t)=true;simp[E3]) h
 | .tuple ds=>CG<|Bp ds
 | .none=>fun A E s v Q c b h=>by
  cases(show v=EA from b);exact PySem.W.pyHash_slot (T:="NoneType") rfl F.slot_NoneType_hash F.entry_NoneType_hash (F.args_NoneType_hash_1 _) (beq_builtin_none _) (.inr<|by omega)<|Q4<|Q7<|Q4<|wpAny_mkInt<|Q7 ⟨_,_,rfl,h⟩
 | .bool _=>fun _ _ _ _ _ _ b _=>b.elim
 | .int _=>fun _ _ _ _ _ _ b _=>b.elim
 | .list _=>fun _ _ _ _ _ _ b _=>b.elim
 | .dict _=>fun _ _ _ _ _ _ b _=>b.elim
theorem Bp:∀ds:Dg,∀d∈ds,Gx prog w d
 |[],_,h=>nomatch h
 |e::ds,d,h=>(Za.mp h).elim (fun z=>z▸FD e)<|Bp ds d
end
mutual
theorem FC:∀(d e:Er),Ur d=true->Ur e=true->EG d e=decide (d=e)
 | .str x,.str y,_,_=>by
  show(x==y)=_;rw[ZS];simp
 | .str _,.tuple _,_,_=>by rw[Zg<|by simp];rfl
 | .tuple _,.str _,_,_=>by rw[Zg<|by simp];rfl
 | .tuple ds,.tuple es,h1,h2=>by
  show EW ds es=_;rw[BU ds es h1 h2];exact Y9.mpr (by simp)
 | .none,.none,_,_=>rfl
 | .none,.str _,_,_=>by rw[Zg<|by simp];rfl
 | .none,.tuple _,_,_=>by rw[Zg<|by simp];rfl
 | .none,.bool _,_,h=>by cases h
 | .none,.int _,_,h=>by cases h
 | .none,.list _,_,h=>by cases h
 | .none,.dict _,_,h=>by cases h
 | .bool _,_,h,_=>by cases h
 | .int _,_,h,_=>by cases h
 | .list _,_,h,_=>by cases h
 | .dict _,_,h,_=>by cases h
 | .str _,.none,_,_=>by rw[Zg<|by simp];rfl
 | .str _,.bool _,_,h=>by cases h
 | .str _,.int _,_,h=>by cases h
 | .str _,.list _,_,h=>by cases h
 | .str _,.dict _,_,h=>by cases h
 | .tuple _,.none,_,_=>by rw[Zg<|by simp];rfl
 | .tuple _,.bool _,_,h=>by cases h
 | .tuple _,.int _,_,h=>by cases h
 | .tuple _,.list _,_,h=>by cases h
 | .tuple _,.dict _,_,h=>by cases h
theorem BU:∀(ds es:Dg),yU ds=true->yU es=true->EW ds es=decide (ds=es)
 |[],[],_,_=>rfl
 |[],_::_,_,_=>rfl
 |_::_,[],_,_=>rfl
 |d::ds,e::es,b,c=>by
  have b:(Ur d&&yU ds)=true:=b;have c:(Ur e&&yU es)=true:=c;rw[Zk]at b c;show(EG d e&&EW ds es)=_;rw[FC d e b.1 c.1,BU ds es b.2 c.2,←Bool.decide_and];exact Y9.mpr (by simp)
end
mutual
theorem Gg:∀d:Er,Ur d=true->d.canLay0=true/\d.depth<=Id d
 | .str x,h=>⟨h,Q9 _⟩
 | .tuple ds,h=>by
  obtain⟨b,c⟩:=BN ds h;refine⟨b,?_⟩;show EF ds+1<=xL ds+1;omega
 | .none,_=>⟨rfl,Q9 _⟩
 | .bool _,h=>by cases h
 | .int _,h=>by cases h
 | .list _,h=>by cases h
 | .dict _,h=>by cases h
theorem BN:∀ds:Dg,yU ds=true->Ew ds=true/\EF ds<=xL ds
 |[],_=>⟨rfl,Q9 _⟩
 |d::ds,h=>by
  have h:(Ur d&&yU ds)=true:=h;rw[Zk]at h;obtain⟨b,e⟩:=Gg d h.1;obtain⟨c,f⟩:=BN ds h.2;refine⟨?_,?_⟩
  ·show(d.canLay0&&Ew ds)=true;rw[b,c];rfl
  ·show max d.depth (EF ds)<=max (Id d) (xL ds);omega
end
def Xd (prog:Ek)(w:Ep)(d:Er):Prop:=∀(A:ED) (E:Ej->Di) (s:Eo) (v:Ej) (n:Nat) (Q:Bool->Di),Id d<=n->yj s.heap d v->Q true s->Em (Et prog w) A (eqIsQuiet n v) Q E s
theorem Bb {c:Dg}(G:∀d∈c,Xd prog w d):Xd prog w (.tuple c):=by
 intro A E s v n Q hn g h;obtain⟨a,o,p,m,rfl,l,B,hd,D⟩:=g;have j:s.TypeIs (.ref a) "tuple":=⟨o,l,B⟩;have hn:xL c+1<=n:=hn;obtain⟨n,rfl⟩:∃k,n=k+1:=⟨n-1,by omega⟩;unfold eqIsQuiet;refine Q4<|Jk j F.slot_tuple_eq.lookup ?_;show Em _ _ (isInstance (.ref a) (.type "tuple")>>=_) _ _ s;refine Q4<|Yx j isSubtype_tuple_tuple ?_;simp only[Vv,ZZ,Y7];refine Q4<|JR l hd ?_;refine Q4 ?_;show Em _ _ (forIn p _ _) _ _ s;rw[←Array.forIn_toList];refine VB _ (fun b r i=>r.1=none/\i=s/\∃left,(∀d∈left,d∈c)/\Wj s.heap left b) _ ?_ ?_ _ _ ⟨rfl,rfl,c,fun _ z=>z,D⟩
 ·rintro v b r i ⟨g,rfl,left,hm,hl⟩;cases left with
  |nil=>cases(show v::b=[] from hl)
  |cons d left =>
   obtain⟨K,H,u,x,y⟩:=hl;injection u with q t;subst q t;have f:=hm d Zj;have:=GE f;refine Q4 (G d f A _ i _ n _ (by omega) x ?_);simp only[Vv,ZZ,Y7];exact Q7 ⟨rfl,rfl,left,fun e C=>hm e<|Zi _ C,y⟩
 ·rintro⟨I,J⟩ i ⟨g,rfl,_⟩;simp only at g;subst g;exact Q7 h
mutual
theorem Bq:∀d:Er,Xd prog w d
 | .str x=>fun A E s v n Q _ b h=>by
  obtain⟨t,rfl⟩:=b;rw[eqIsQuiet_byValue _<|by rfl];exact Q7 h
 | .tuple ds=>Bb<|Gc ds
 | .none=>fun A E s v n Q _ b h=>by
  cases(show v=EA from b);rw[eqIsQuiet_byValue _<|by rfl];exact Q7 h
 | .bool _=>fun _ _ _ _ _ _ _ b _=>b.elim
 | .int _=>fun _ _ _ _ _ _ _ b _=>b.elim
 | .list _=>fun _ _ _ _ _ _ _ b _=>b.elim
 | .dict _=>fun _ _ _ _ _ _ _ b _=>b.elim
theorem Gc:∀ds:Dg,∀d∈ds,Xd prog w d
 |[],_,h=>nomatch h
 |e::ds,d,h=>(Za.mp h).elim (fun z=>z▸Bq e)<|Gc ds d
end
def yA (prog:Ek)(w:Ep):HeapKind prog w Er where
 is:=fun h d a=>yj h d (.ref a)/\Ur d=true/\Id d<=6
 hash:=Ui w
 draws:=IU
 room:=fun A=>A.units+8<E4
 inj:=fun c f=>yj.inj _ _ _ c.1 f.1
 keeps:=fun x i hd j=>⟨yj.keeps i hd j _ _ x.1,x.2⟩
 pyHash:=fun l hk h=>FD _ _ _ _ _ _ (by have:=hk.2.2;omega) hk.1 h
 eqBool:=fun{A E s x y a b Q} l c f h=>by
  obtain⟨g,p⟩:=yj.Ws _ _ c.1;obtain⟨bs,q⟩:=yj.Ws _ _ f.1;obtain⟨n,r⟩:=Gg _ c.2.1;obtain⟨o,t⟩:=Gg _ f.2.1;have e:=SeqAt.eqAt_reads x y A s _ _ g bs p q n o (by have:=c.2.2;omega);rw[FC _ _ c.2.1 f.2.1]at e;exact e prog w E Q h
 quiet:=fun hk h=>Bq _ _ _ _ _ _ _ (by have:=hk.2.2;omega) hk.1 h
end
end L2
namespace L2
open PySem PySem.Spec PyProof.Rows
def U7 (d:Ei)(es:List Lj):HO:=.ext fun h=>∃o b,h.get? d=some o/\o.ExactDict/\o.data=.dict es.toArray b/\(d==EL)=false
theorem FZ {h:EC}{d:Ei}{es:List Lj}{o:Obj}{ep:Nat}(c:h.get? d=some o)(f:o.ExactDict)(g:o.data=.dict es.toArray ep)(i:(d==EL)=false):WT P w H h d (U7 d es) :=
 ⟨⟨o,ep,c,f,g,i⟩,⟨o,c⟩,fun _ _ ⟨e,b,j,l⟩ k=>⟨e,b,k e j,l⟩⟩
mutual
theorem Dt.other {K:Ca}(n:∀xs,¬Rd H d (.tup xs)):∀(k:Er) (v:V),Ur k=true->Dt K H k v->Dt K (upd H d o) k v
 | .str x,_,_,h=>h
 | .tuple ds,_,t,⟨a,xs,h1,b,h3⟩=>by
  refine⟨a,xs,h1,?_,W6.other n ds xs t h3⟩
  rcases b with b|b
  ·have ne:a≠d:=fun z=>n xs<|z▸b
   left
   unfold Rd;rwa[zI ne]
  ·exact .inr b
 | .none,_,_,h=>h
 | .bool _,_,t,_=>by cases t
 | .int _,_,t,_=>by cases t
 | .list _,_,t,_=>by cases t
 | .dict _,_,t,_=>by cases t
theorem W6.other {K:Ca}(n:∀xs,¬Rd H d (.tup xs)):∀(ks:Dg) (vs:Dk),yU ks=true->W6 K H ks vs->W6 K (upd H d o) ks vs
 |[],_,_,h=>h
 |k::ks,_,t,⟨x,r,h1,h2,h3⟩=>by
  have t:(Ur k&&yU ks)=true:=t;rw[Zk]at t;exact⟨x,r,h1,Dt.other n k x t.1 h2,W6.other n ks r t.2 h3⟩
end
section
variable {X:Cx}{Do:Df}{σ:St}{H:Hp}{s:Eo}
mutual
theorem Dt.uE (I:Inv X Do σ H s):∀(d:Er) (v:V) (u:Ej),Ur d=true->Dt X.K H d v->WX v u->yj s.heap d u
 | .str x,_,u,_,h,r=>by
  cases(show _=V.str x from h);exact r
 | .tuple ds,_,u,t,⟨a,xs,h1,h2,h3⟩,r=>by
  subst h1;cases(show u=Ev a from r);obtain⟨b,f,⟨o,e,c,n,d⟩,_⟩:=I.tuple h2;exact⟨a,o,b.toArray,n,rfl,e,c,d,by simpa using W6.uE I ds xs b t h3 f⟩
 | .none,_,u,_,h,r=>by cases(show _=V.non from h);exact r
 | .bool _,_,_,t,_,_=>by cases t
 | .int _,_,_,t,_,_=>by cases t
 | .list _,_,_,t,_,_=>by cases t
 | .dict _,_,_,t,_,_=>by cases t
theorem W6.uE (I:Inv X Do σ H s):∀(ds:Dg) (xs:Dk) (us:Db),yU ds=true->W6 X.K H ds xs->W2 xs us->Wj s.heap ds us
 |[],_,us,_,h,r=>by
  cases(show _=[] from h);cases r;exact rfl
 |d::ds,_,us,t,⟨x,r,h1,h2,h3⟩,rv=>by
  have t:(Ur d&&yU ds)=true:=t;rw[Zk]at t;subst h1;cases rv with
  |cons r1 r2=>exact⟨_,_,rfl,Dt.uE I d x _ t.1 h2 r1,W6.uE I ds r _ t.2 h3 r2⟩
end
def Uo (k:Er):Prop:=Ur k=true/\Id k<=6
def Wo (K:Ca)(H:Hp)(p:Er×V)(q:Er×Ei×Ej):Prop:=p.1=q.1/\Dt K H p.1 (.ref q.2.1)/\WX p.2 q.2.2
def TJ (P:Ek)(w:Ep)(K:Ca)(H:Hp)(d:Ei)(ps:List<|Er×V):Prop :=
 ps.length<=10000/\(∀p∈ps,Uo p.1)/\(ps.map (·.1)).Nodup/\∃b:List<|Er×Ei×Ej,H d=some (U7 d<|b.map<|LB<|yA P w)/\Lf (Wo K H) ps b
theorem Wo.keys {K:Ca}:∀{ps:List (Er×V)} {xs:List (Er×Ei×Ej)},Lf (Wo K H) ps xs->xs.map (·.1)=ps.map (·.1)
 |_,_,.nil=>rfl
 |_,_,.cons r t=>by rw[ZJ,ZJ,Wo.keys t,r.1]
theorem Wo.at {K:Ca}{k:Er}:∀{ps:List (Er×V)} {xs:List (Er×Ei×Ej)},Lf (Wo K H) ps xs->(atKey xs k=none/\VS ps k=none)\/∃p v,atKey xs k=some p/\VS ps k=some v/\WX v p.2
 |_,_,.nil=>.inl ⟨rfl,rfl⟩
 |p::ps,q::xs,.cons r t=>by
  unfold atKey VS;rw[Z7,Z7];have e:p.1=q.1:=r.1
  by_cases h:q.1=k
  ·rw[Zc h,Zc<|show p.1=k by rwa[e]];exact .inr ⟨q.2,p.2,rfl,rfl,r.2.2⟩
  ·rw[Zg h,Zg<|show¬p.1=k by rwa[e]];exact Wo.at t
theorem Wo.is (I:Inv X Do σ H s):∀{ps:List (Er×V)} {xs:List (Er×Ei×Ej)},(∀p∈ps,Uo p.1)->Lf (Wo X.K H) ps xs->∀x∈xs,(yA X.prog X.w).is s.heap x.1 x.2.1
 |_,_,_,.nil,x,h=>nomatch h
 |p::ps,q::xs,hk,.cons r t,x,h=>by
  rcases Za.mp h with rfl|h
  ·obtain⟨b,d⟩:=hk p Zj;rw[←r.1];exact⟨Dt.uE I _ _ _ b r.2.1 rfl,b,d⟩
  ·exact Wo.is I (fun p c=>hk p<|Zi _ c) t x h
theorem TJ.heap (I:Inv X Do σ H s)(T:TJ X.prog X.w X.K H d ps):∃xs,H d=some (U7 d<|xs.map<|LB<|yA X.prog X.w)/\Lf (Wo X.K H) ps xs/\s.heap.DictOfH (yA X.prog X.w) d xs/\(d==EL)=false:=by
 obtain⟨hl,hk,nd,xs,e,r⟩:=T;obtain⟨⟨o,b,c,f,g,i⟩,_⟩:(∃o b,s.heap.get? d=some o/\o.ExactDict/\o.data=.dict (xs.map<|LB<|yA X.prog X.w).toArray b/\(d==EL)=false)/\_:=I.hok d _ e;exact⟨xs,e,r,⟨o,_,b,c,f,g,by simp,Wo.is I hk r,by rw[Wo.keys r];exact nd⟩,i⟩
theorem F0 {A:ED}(b:A.units+64<E4)(prog:Ek)(w:Ep):(yA prog w).room A.in1:=by
 show A.units+1+8<E4;omega
theorem key_is (I:Inv X Do σ H s){k:Er}{a:Ei}(hk:Uo k)(h:Dt X.K H k<|.ref a):(yA X.prog X.w).is s.heap k a:=⟨Dt.uE I _ _ _ hk.1 h rfl,hk⟩
end
section
variable {X:Cx}{K:Ca}
def RI (P:Ek)(w:Ep)(K:Ca):R2:=fun y x H Q=>∃a d b k,y=.ref a/\x=.ref d/\TJ P w K H d b/\Uo k/\Dt K H k (.ref a)/\Q (.bl (VS b k).isSome) H
theorem K4 (c:X.A.units+64<E4):Cj X (EJ .In) (RI X.prog X.w X.K):=by
 intro g s l H y x v u Q I f e h;obtain⟨a,d,i,k,rfl,rfl,T,hk,ha,q⟩:=h;cases f;cases e;obtain⟨j,_,r,b,hd⟩:=T.heap I;refine wpAny_in_heap (F0 c _ _) (key_is I hk ha) hd b ⟨.bl _,H,I.tok _,?_,q⟩
 rcases Wo.at (k:=k) r with⟨e1,e2⟩|⟨p,v,e1,e2,_⟩
 ·rw[e1,e2];rfl
 ·rw[e1,e2];rfl
def Rc (P:Ek)(w:Ep)(K:Ca)(g ty:TE):TE:=fun e H Q=>g e H fun x f=>ty e f fun y b=>∃a d c k v,x=.ref d/\y=.ref a/\TJ P w K b d c/\Uo k/\Dt K b k (.ref a)/\VS c k=some v/\Q v b
theorem FR {pos:Pos}(z:X.A.units+64<E4)(t:PE X o td)(q:PE X i ty)(hs:Na i):PE X (.Subscript o i pos) (Rc X.prog X.w X.K td ty):=by
 intro c s f H Q I h;refine Gp PySem.F.slot_dict_getitem.lookup hs<|Cb (t c s f H _ I h) fun u J ⟨x,g,l,E,C⟩=>Cb (q c J f g _ l C) fun B M hh=>?_;obtain⟨y,j,b,G,a,d,L,k,v,ex,n,T,hk,ha,hv,D⟩:=hh;subst ex n;obtain rfl:u=Ev d:=E;obtain rfl:B=Ev a:=G;obtain⟨N,_,r,e,hd⟩:=T.heap b;refine⟨e.typeIs,?_⟩
 rcases Wo.at (k:=k) r with⟨e1,e2⟩|⟨p,v',e1,e2,rv⟩
 ·rw[hv]at e2;cases e2
 ·rw[hv]at e2;cases e2;exact wpAny_getItem_heap (F0 z _ _) (key_is b hk ha) e e1 ⟨v,j,b.tok _,rv,D⟩
def P1 (P:Ek)(w:Ep)(K:Ca)(j ty l:TE):TS:=fun D c H=>l c H fun v f=>j c f fun x g=>ty c g fun y b=>∃a d e k,x=.ref d/\y=.ref a/\TJ P w K b d e/\e.length<10000/\Uo k/\Dt K b k (.ref a) /\
 ∀o,TJ P w K (upd b d o) d (WK e k v)->(∃i,o=U7 d i)->D.nx c (upd b d o)
theorem jX {b c:Type}{F:b->c->Prop}:∀{l l':List b} {m m':List c},Lf F l m->Lf F l' m'->Lf F (l++l') (m++m')
 |_,_,_,_,.nil,h=>h
 |_,_,_,_,.cons r t,h=>.cons r<|jX t h
theorem Wo.repl {K:Ca}{k:Er}(b:WX v u):∀{ps:List (Er×V)} {xs:List (Er×Ei×Ej)},Lf (Wo K H) ps xs->Lf (Wo K H) (ps.map fun p=>if p.1=k then(p.1,v) else p) (xs.map<|putAt k u)
 |_,_,.nil=>.nil
 |p::ps,q::xs,.cons r t=>by
  rw[ZJ,ZJ];refine .cons ?_<|Wo.repl b t;have e:p.1=q.1:=r.1;unfold putAt
  by_cases h:q.1=k
  ·rw[Zp h,Zp<|show p.1=k by rwa[e]];exact⟨r.1,r.2.1,b⟩
  ·rw[Zm h,Zm<|show¬p.1=k by rwa[e]];exact r
theorem Wo.put {K:Ca}{a:Ei}{ps:List (Er×V)}{xs:List (Er×Ei×Ej)}(r:Lf (Wo K H) ps xs)(ha:Dt K H k<|.ref a)(b:WX v u):Lf (Wo K H) (WK ps k v) (storedH xs k a u):=by
 have e:(ps.any fun kv=>decide (kv.1=k))=(atKey xs k).isSome:=by
  rcases Wo.at (k:=k) r with⟨e1,e2⟩|⟨p,v',e1,e2,_⟩
  ·rw[e1];refine Y0.mpr fun z=>?_;obtain⟨kv,hm,hk⟩:=ZP.mp z;exact Xu e2<|Ze.mpr ⟨kv,hm,Zv hk⟩
  ·obtain⟨kv,hm,hk⟩:=Ze.mp<|GQ e2;rw[e1,ZP.mpr ⟨kv,hm,Zc hk⟩];rfl
 unfold WK storedH;rw[e]
 split
 ·exact Wo.repl b r
 ·exact jX r (.cons ⟨rfl,ha,b⟩ .nil)
theorem MB {ps:List (Er×V)}(h:∀p∈ps,Uo p.1)(hk:Uo k):∀p∈WK ps k v,Uo p.1:=by
 unfold WK
 split
 ·intro p b;obtain⟨q,c,rfl⟩:=Ze.mp b
  split
  ·exact h q c
  ·exact h q c
 ·intro p b
  rcases ZG.mp b with b|b
  ·exact h p b
  ·rwa[Q8.mp b]
theorem NQ {ps:List (Er×V)}(h:(ps.map (·.1)).Nodup):((WK ps k v).map (·.1)).Nodup:=by
 unfold WK
 split
 ·have e:(ps.map fun kv=>if kv.1=k then(kv.1,v) else kv).map (·.1)=ps.map (·.1):=by
   rw[ZB];refine YI fun p _=>?_;show(if p.1=k then(p.1,v) else p).1=p.1
   split<;>rfl
  rwa[e]
 ·rename_i hn;rw[Zr];refine j9 h fun z=>hn ?_;obtain⟨p,b,e⟩:=Ze.mp z;exact ZP.mpr ⟨p,b,Zc e⟩
theorem FU {pos E:Pos}(hu:X.A.units+64<E4)(ho:PE X o td)(Z:PE X i ty)(hv:PE X value tv)(hs:Mb value (some<|.Subscript o i E) pos.line X.env=Ln false) :
  PS X (.Assign [.Subscript o i E] value pos) (P1 X.prog X.w X.K td ty tv):=by
 intro n s l H D I h;refine wpAny_Assign_Subscript (Cb (hv n s l H _ I h) fun r s1 ⟨v,J,M,rv,q1⟩=>Cb (ho n s1 l J _ M q1) fun u s2 ⟨x,L,N,rx,q2⟩=>Cb (Z n s2 l L _ N q2) fun iv s3 hh=>?_) hs;obtain⟨y,f,q,ry,a,d,c,k,ex,R,T,hl,hk,ha,q3⟩:=hh;subst ex R;obtain rfl:u=Ev d:=rx;obtain rfl:iv=Ev a:=ry;obtain⟨b,e,j,P,hd⟩:=T.heap q;have hz:b.length<=sizeLine:=by rw[←Paired.length j];exact An.W3 (by omega)
 refine wpAny_setItem_heap (hsz:=hz) (F0 hu _ _) (key_is q hk ha) P fun h' t C=>?_;obtain⟨ob,es,Q,F,S,U,Y,_,_⟩:=t;have B:ob.data=.dict ((storedH b k a r).map<|LB<|yA X.prog X.w).toArray Q:=by rw[U,←Y]
 have mu:Op (f d):=by rw[e];exact Lg
 have O:=Xc (t':=s3.toks+(yA X.prog X.w).draws k) q mu C ⟨ob,F⟩<|FZ (H:=upd f d<|U7 d<|(storedH b k a r).map<|LB<|yA X.prog X.w) F S B hd;have G:∀b,¬Rd f d (.tup b):=fun ys z=>by
  rcases z with z|⟨o',z⟩
  ·rw[e]at z;cases z
  ·rw[e]at z;cases z
 refine⟨l,_,O,q3 _ ⟨?_,MB T.2.1 hk,NQ T.2.2.1,storedH b k a r,zB,?_⟩ ⟨_,rfl⟩⟩
 ·have:=xU c k v;omega
 ·have r2:Lf (Wo X.K<|upd f d<|U7 d<|(storedH b k a r).map<|LB<|yA X.prog X.w) c b:=by
   have key:∀{c:List (Er×V)} {b:List (Er×Ei×Ej)},(∀p∈c,Uo p.1)->Lf (Wo X.K f) c b->∀o,Lf (Wo X.K<|upd f d o) c b:=by
    intro c b g r
    induction r with
    |nil=>intro _;exact .nil
    |cons r1 _ ih=>intro o;exact .cons ⟨r1.1,Dt.other G _ _ (g _ Zj).1 r1.2.1,r1.2.2⟩<|ih (fun p hp=>g p<|Zi _ hp) o
   exact key T.2.1 j _
  exact Wo.put r2 (Dt.other G _ _ hk.1 ha) rv
theorem BJ {pos:Pos}:PE X (.Dict [] [] pos) (fun _ H Q=>∀p o,H p=none->TJ X.prog X.w X.K (upd H p o) p []->(∃es,o=U7 p es)->Q (.ref p) (upd H p o)):=by
 intro c s d H Q I h;have hn:H s.heap.objs.size=none:=I.hok.fresh<|Q9 _;have b:(s.heap.objs.size==EL)=false:=Yi.mpr<|EE<|Zl I.big;exact wpAny_Dict_empty ⟨.ref s.heap.objs.size,_,I.laid (a:=s.heap.objs.size) (o:=U7 s.heap.objs.size []) (t':=s.toks) (fun _ _ q=>Q6 _ q) (Q9 _)<|FZ (ep:=0) (Zb _ rfl) ⟨rfl,rfl,rfl⟩ rfl b,rfl,h _ _ hn ⟨ZA _,fun _ z=>(nomatch z),Yp,[],zB,.nil⟩ ⟨_,rfl⟩⟩
end
end L2
namespace L2
open PySem PySem.Spec PyProof.Rows
structure Met (P:Ek)(w:Ep)(K:Ca)(mg:Str->Dc)(base:EC)(C:Ei)(k:Nat)(m:Str)(ps:Da)(sp:Sp):Prop where
 ex:∃(f:Ei) (fd:Es),W0 P w K mg base Cd k f fd ps sp/\Meth K C m f/\Wr K fd ps []
structure TV (P:Ek)(w:Ep)(K:Ca)(mg:Str->Dc)(base:EC)(C:Ei)(k:Nat)(m:Str)(ps:Da)(sp:Sp):Prop where
 ex:∃(f:Ei) (fd:Es),W0 P w K mg base (Cl P w) k f fd ps sp/\Meth K C m f/\Wr K fd ps []
def O6 (C:Ei)(m:Str)(sp:Sp)(R:St->Hp->Ej->Prop)(g:TE)(t:TA):TE:=fun b H Q=>g b H fun x c=>∃a f fs,x=.ref a/\c a=some (.ins C f fs)/\fs.lookup m=none /\
 t b c fun i e=>sp (x::i) e Q<|fun cls _ d=>R b d cls
section
variable {X:Cx}{C:Ei}{k:Nat}{m:Str}{ps:Da}{sp:Sp}{o e:EK}{es:List EK}{ta:TE}{t:TA}{Dq pos:Pos}{R:St->Hp->Ej->Prop}
theorem j7 {pl:Sem Bool}(g:PE X o ta)(c:Cls X.K C)(M:Met X.prog X.w X.K X.mg X.base C k m ps sp)(i:Wy k X.A)(ha:PA X (e::es) t)
  (d:EB (e::es) X.env=(false,EZ e X.env)::EB es X.env:=by rfl) (b:(Ld pos<|EB es X.env).any (·.1)=false:=by rfl)
  (j:EZ (.Call (.Attribute o m Dq) (e::es) [] pos) X.env=(do
   let ov ←EZ o X.env
   standAt Dq.atName
   let (f,first) ←Mp [ov] (Ml ov m pl)
   callWith pos f first (Ld pos<|EB (e::es) X.env) (backToKw pos<|LV [] X.env)):=by rfl) :
  PE X (.Call (.Attribute o m Dq) (e::es) [] pos) (F9 C m sp [] E0 ta t):=by
 obtain⟨f,l,F,hm,hb⟩:=M.ex;exact NK (pl:=pl) g c hm F i hb .nil IW ha d b j
theorem kP {pl:Sem Bool}(b:PE X o ta)(c:Cls X.K C)(M:Met X.prog X.w X.K X.mg X.base C k m ps sp)(d:Wy k X.A)
  (e:EZ (.Call (.Attribute o m Dq) [] [] pos) X.env=(do
   let ov ←EZ o X.env
   standAt Dq.atName
   let (f,first) ←Mp [ov] (Ml ov m pl)
   callWith pos f first (Ld pos<|EB [] X.env) (backToKw pos<|LV [] X.env)):=by rfl) :
  PE X (.Call (.Attribute o m Dq) [] [] pos) (F9 C m sp [] E0 ta UQ):=by
 obtain⟨f,g,F,hm,hb⟩:=M.ex;exact Mu (pl:=pl) b c hm F d hb .nil IW e
theorem yF {pl:Sem Bool}(y:PE X o ta)(c:Cls X.K C)(M:TV X.prog X.w X.K X.mg X.base C k m ps sp)(z:Wy k X.A)(D:Raises X R)(ha:PA X (e::es) t)
  (d:EB (e::es) X.env=(false,EZ e X.env)::EB es X.env:=by rfl) (b:(Ld pos<|EB es X.env).any (·.1)=false:=by rfl)
  (B:EZ (.Call (.Attribute o m Dq) (e::es) [] pos) X.env=(do
   let ov ←EZ o X.env
   standAt Dq.atName
   let (f,first) ←Mp [ov] (Ml ov m pl)
   callWith pos f first (Ld pos<|EB (e::es) X.env) (backToKw pos<|LV [] X.env)):=by rfl) :
  PE X (.Call (.Attribute o m Dq) (e::es) [] pos) (O6 C m sp R ta t):=by
 obtain⟨f,O,F,hm,hb⟩:=M.ex;intro g s n H Q I h;refine JW (pl:=pl) (Cb (y g s n H _ I h) fun u J hh=>?_) B;obtain⟨x,p,i,G,a,N,fs,ex,v,l,q⟩:=hh;subst ex;obtain rfl:u=Ev a:=G;refine kC i v c hm l ?_;refine YS (first:=[.ref a]) (h₀:=X.base) I.ok.mod.vq hm.kp (Cb (ha pos g J n p _ i q) fun us P ⟨vs,L,j,r,E⟩=>⟨j.Tn,?_⟩) d b;exact F2 (us:=.ref a::us) (vs:=.ref a::vs) F z hb D j (.cons rfl r) E
end
structure uv (P:Ek)(w:Ep)(K:Ca)(mg:Str->Dc)(base:EC)(C:Ei)(k:Nat)(x:Str)(ps:Da)(sp:Sp):Prop where
 ex:∃(f:Ei) (fd:Es),W0 P w K mg base Cd k f fd ps sp/\Mk K C f/\Wr K fd ps []/\mg x=some (.ref C)
theorem NI {X:Cx}{e:EK}{es:List EK}{p pos:Pos}(M:uv X.prog X.w X.K X.mg X.base C k x ps sp)(i:Wy (k+1) X.A)(ha:PA X (e::es) t)(g:Gl X x:=by rfl)
  (b:(x==("__debug__":Str))=false:=by decide) (d:EB (e::es) X.env=(false,EZ e X.env)::EB es X.env:=by rfl) (c:(Ld pos<|EB es X.env).any (·.1)=false:=by rfl) :
  PE X (.Call (.Name x p) (e::es) [] pos) (F8 C sp [] E0 t):=by
 obtain⟨f,l,F,hm,hb,j⟩:=M.ex;exact NJ hm F i g j hb .nil IW ha b d c
theorem Gw (x:Str)(i j:Nat):An.cs (Lh x i j)=((An.cs x).take j).drop i:=by
 show(x.cps.extract i j).toList=_;rw[Array.toList_extract,List.extract_eq_drop_take,List.drop_take]
theorem U8 (x:Str)(c i:Nat)(t u:Tok)(r:List Nat)(d:Lx x ⟨#[c]⟩ 0 x.length 1=i::r)(hz:x.length<=100000):Meets (Builtin.«str.partition» ⟨[.str x t,.str ⟨#[c]⟩ u],[]⟩)
  (fun _ R s=>R (.ok<|.ret<|.ref s.heap.objs.size) { s with heap:=s.heap.push { cls:=.type "tuple",data:=.seq #[.str (Lh x 0 i) s.toks,.str ⟨#[c]⟩ u,.str (Lh x (i+1) x.length)<|s.toks+1] },toks:=s.toks+1+1 }) :=
 .of_wp fun prog w A R s h=>by
  obtain⟨b,e⟩:=partition_tree x ⟨#[c]⟩ t u;rw[e,Zm<|show¬((⟨#[c]⟩:Str).length==0)=true from(by show¬(1==0)=true;decide),d];have f:(Lh x 0 i).length<=sizeLine:=by
   rw[An.WW,Gw,YO,Zz];refine An.W3 ?_;rw[←An.WW];omega
  have g:(Lh x (i+(⟨#[c]⟩:Str).length) x.length).length<=sizeLine:=by
   rw[An.WW,Gw,YO,Zz];refine An.W3 ?_;rw[←An.WW];omega
  refine Q4<|wpAny_mkStr ?_ f;refine Q4<|wpAny_mkStr ?_ g;refine Q4 (wpAny_newTuple ?_ (by show 3<=sizeLine;decide));exact Q7 ⟨_,rfl,h⟩
section
variable {X:Cx}
def Oe:V->Dk->Hp->VK->Prop:=fun x b H Q=>∃(u v:Str) (c:Nat),x=.str (u++⟨#[c]⟩++v)/\b=[.str ⟨#[c]⟩]/\c∉An.cs u/\(u++⟨#[c]⟩++v).length<=100000/\∀p,H p=none->Q (.ref p) (upd H p<|.tup [.str u,.str ⟨#[c]⟩,.str v])
theorem kI:Oo X "str.partition" Oe:=by
 intro u s B H x A v y Q I p n h;obtain⟨a,b,c,rfl,rfl,j,l,q⟩:=h;obtain⟨t,rfl⟩:=p;obtain⟨w,rfl,t',rfl⟩:=Wl n;have d:An.cs (a++⟨#[c]⟩++b)=An.cs a++c::An.cs b:=by
  rw[An.WY,An.WY];show An.cs a++[c]++An.cs b=_;simp
 have e:(An.cs<|a++⟨#[c]⟩++b)[(An.cs a).length]?=some c:=by rw[d];simp
 have f:∃r,Lx (a++⟨#[c]⟩++b) ⟨#[c]⟩ 0 (a++⟨#[c]⟩++b).length 1=(An.cs a).length::r:=by
  rcases StrLaws.occ_head_from (a++⟨#[c]⟩++b) ⟨#[c]⟩ 0 1 (Q9 1) with⟨h0,hn⟩|⟨k,r,h0,hlo,hk,hn⟩
  ·exact absurd ((L7 _ c _).mpr e) (hn _<|ZA _)
  ·have hm:=(L7 _ c k).mp hk;have hm:(An.cs<|a++⟨#[c]⟩++b)[k]?=some c:=hm
   rcases JS k (An.cs a).length with z|z|z
   ·rw[d,YW z]at hm;exact absurd (Zu hm) j
   ·exact⟨r,by rw[h0,z]⟩
   ·exact absurd ((L7 _ c _).mpr e) (hn _ (ZA _) z)
 obtain⟨r,f⟩:=f;refine JJ F.slot_str_partition (J1 s _ t) F.entry_str_partition (F.args_str_partition_2 _ _) (U8 _ c _ t t' r f l) ?_;have g:Lh (a++⟨#[c]⟩++b) 0 (An.cs a).length=a:=An.T6 (by rw[Gw,d,List.drop_zero,List.take_left]);have i:Lh (a++⟨#[c]⟩++b) ((An.cs a).length+1) (a++⟨#[c]⟩++b).length=b:=An.T6 (by
  rw[Gw,An.WW,ZI,d];rw[show An.cs a++c::An.cs b=(An.cs a++[c])++An.cs b by simp];rw[show(An.cs a).length+1=(An.cs a++[c]).length by simp];exact List.drop_left)
 rw[g,i];have hn:H s.heap.objs.size=none:=I.hok.fresh<|Q9 _;refine⟨.ref s.heap.objs.size,_,I.laid (t':=s.toks+1+1) (a:=s.heap.objs.size) (o:=.tup [.str a,.str ⟨#[c]⟩,.str b]) (fun _ _ q=>Q6 _ q) (Q9 _) ?_,rfl,q _ hn⟩;exact⟨by show 3<=sizeLine;decide,_,.cons ⟨_,rfl⟩<|.cons ⟨_,rfl⟩<|.cons ⟨_,rfl⟩ .nil,⟨_,Zb _ rfl,rfl,_,rfl,rfl⟩⟩
def V0 (n:Nat):Str:=EN<|toString ((n:Nat):Int)
theorem Hn:Wz X (.type "int") (fun xs H Q=>∃n:Nat,xs=[.str<|V0 n]/\n<10000000000/\Q (.int n) H):=by
 intro b s d H xs c Q I r h;obtain⟨n,rfl,hn,q⟩:=h;obtain⟨u,rfl,t,rfl⟩:=Wl r;exact PySem.W.KIN.call_num (by omega) (by omega) ⟨.int n,H,I.tok _,⟨_,rfl⟩,q⟩
def tF3 (e:TE)(y:Str)(f:TE):TE:=fun b H Q=>e b H fun v c=>∃x:Str,v=.str x/\x.length<=100000/\y.length<=1000/\f b c fun u d=>∃n:Nat,u=.int n/\n<1000000/\Q (.str<|x++y++V0 n) d
theorem PQ {y:Str}{k:Nat}{C i D pos:Pos}(A:PE X e1 t1)(B:PE X e2 t2):PE X (.JoinedStr [.FormattedValue e1 (-1) none C,.Constant (.str y) k i,.FormattedValue e2 (-1) none D] pos) (tF3 t1 y t2):=by
 intro c s d H Q I h;refine JoinedStr_many<|joinParts_cons<|FormattedValue_plain<|Cb (A c s d H _ I h) fun v O hh=>?_;obtain⟨Y,f,p,F,x,ex,xl,yl,E⟩:=hh;subst ex;obtain⟨t,rfl⟩:=F;refine formatField_str (fun R M=>⟨?_,?_⟩) (An.W3<|by omega)
 ·show(LU++x).length<=sizeLine;rw[An.WQ];exact An.W3 (by show 0+x.length<=_;omega)
 refine joinParts_cons<|Cb ((W9:PE X (.Constant (.str y) k i) _) c _ d f (fun v j=>v=.str y/\j=f) (p.tok M) ⟨rfl,rfl⟩) fun T K hh=>?_;obtain⟨Z,l,q,G,e2,u⟩:=hh;subst e2 u;obtain⟨L,rfl⟩:=G;refine⟨?_,?_⟩
 ·show(LU++x++y).length<=sizeLine;rw[An.WQ,An.WQ];exact An.W3 (by show 0+x.length+y.length<=_;omega)
 refine joinParts_cons<|FormattedValue_plain<|Cb (B c K d l _ q E) fun U P hh=>?_;obtain⟨x3,o,r,J,n,w,nl,N⟩:=hh;subst w;obtain⟨S,rfl⟩:=J;have b:((n:Int)).natAbs.log2<1920:=by
  rw[Vj]
  rcases Vk n with z|z
  ·subst z;decide
  ·have:n.log2<20:=(Nat.log2_lt<|by omega).mpr (by omega);omega
 have g:(LU++x++y++V0 n).length<=sizeLine:=by
  rw[An.WQ,An.WQ,An.WQ];have:=J3 b;exact An.W3 (by show 0+x.length+y.length+(V0 n).length<=_;have e:(V0 n).length<=1921:=this;omega)
 refine formatField_int_small b ⟨g,joinParts_nil ⟨.str _,o,r.tok _,⟨_,rfl⟩,?_⟩ g⟩;have e:LU++x++y++(EN<|toString (n:Int))=x++y++V0 n:=An.T6 (by
  rw[An.WY,An.WY,An.WY,An.WY,An.WY];rfl)
 rwa[e]
theorem X4:∀{Dm:Dl} {vs:List (Key×Ej)} {us:Db},KV Dm vs->us.length=vs.length->(∀(j:Nat) (v:Ej),us[j]?=some v->∃k x,vs[j]?=some (k,x)/\(zU P w).is k v=true)->W2 (Dm.map fun kv=>kV kv.1) us
 |[],_,[],.nil,_,_=>.nil
 |[],_,_::_,.nil,hl,_=>by cases hl
 |_::_,_,[],.cons _ _,hl,_=>by cases hl
 |p::_,q::_,u::us,.cons r1 r2,hl,hm=>by
  obtain⟨k,x,e,hk⟩:=hm 0 u rfl;have e:q=(k,x):=by simpa using e
  have b:p.1=k:=by rw[show p.1=q.1 from r1.1,e]
  refine .cons (by
   show WX (kV p.1) u;rw[b];cases k with
   |inl i =>
    have hk:Me i u=true:=hk;cases u<;>simp[Me]at hk;subst hk;exact⟨_,rfl⟩
   |inr z =>
    obtain⟨t,rfl⟩:=Yr<|show E3 z u=true from hk;exact⟨t,rfl⟩) (X4 (P:=P) (w:=w) r2 (by simpa using hl) fun j v c=>?_)
  obtain⟨d,l,f,g⟩:=hm (j+1) v (by simpa using c);exact⟨d,l,by simpa using f,g⟩
theorem Cw (z:X.calm=true):Wz X (.type "list") (fun xs H Q=>∃a Dm,xs=[.ref a]/\H a=some (.dK Dm)/\∀l,H l=none->Q (.ref l) (upd H l<|.lst<|Dm.map fun kv=>kV kv.1)):=by
 intro J s M H xs L Q I r h;obtain⟨a,Dm,rfl,ha,q⟩:=h;obtain⟨u,rfl,E⟩:=Wl r;cases E;obtain⟨D,y,b,f,o,t,ep,A,C,hd,hk,B,i⟩:Dm.length<=sizeLine/\(a==EL)=false/\∃b,KV Dm b/\s.heap.DictOf (zU X.prog X.w) a b:=I.hok a _ ha;have p:s.heap.DictAt (zU X.prog X.w) a b ep:=⟨o,t,A,C,hd,hk,B,i⟩;have K:Dm.length=b.length:=Paired.length f;refine PySem.W.kdl_call (PySem.W.kdl_dict (knd:=zU X.prog X.w) (kvs:=b) (ep:=ep) y) (I.ok.hd z) p (by omega) fun x G d c g hl n=>?_;have F:W2 (Dm.map fun kv=>kV kv.1) d.toList:=X4 f (by rw[Zw];exact n.1) fun j v e=>n.2 j v (by rwa[←Z6]);exact⟨.ref s.heap.objs.size,_,I.laid (t':=G) g (Q9 _)<|show WT X.prog X.w _ x _ (.lst<|Dm.map fun kv=>kV kv.1) from⟨by rw[Q5];exact D,d.toList,c,F,hl⟩,rfl,q _<|I.hok.fresh<|Q9 _⟩
end
end L2
namespace An
open PySem L2
def V5 (c:Nat):Bool:=decide (32<=c)&&decide (c<=126)&&decide (c≠37)
def Uh (x:Str):Bool:=decide (x.length<=20)&&(cs x).all V5
def V6 (c:Nat):Bool:=decide (97<=c)&&decide (c<=122)
def yB (x:Str):Bool:=decide (1<=x.length)&&decide (x.length<=8)&&(cs x).all V6
def U2:Er->Bool
 | .str x=>Uh x
 |_=>false
def XN:Er->Bool
 | .tuple ds=>ds.all U2
 |_=>false
def xA:Er->Bool
 | .str x=>yB x
 |_=>false
def V1:Er->Bool
 | .str _=>true
 |_=>false
def Us:Er->Bool
 | .tuple [l,n]=>xA l&&V1 n
 |_=>false
mutual
def small:Er->Bool
 | .str x=>decide (x.length<=1000)
 | .list ds=>decide (ds.length<=1000)&&yD ds
 | .tuple ds=>decide (ds.length<=1000)&&yD ds
 |_=>true
def yD:Dg->Bool
 |[]=>true
 |d::ds=>small d&&yD ds
end
theorem yJ:∀{ds:Dg} {i:Nat} {d:Er},yD ds=true->ds[i]?=some d->small d=true
 |[],_,_,_,h=>by cases h
 |e::ds,0,d,h,q=>by
  have h:(small e&&yD ds)=true:=h;have q:e=d:=Option.some.inj q;rw[Zk]at h;rw[←q];exact h.1
 |e::ds,i+1,d,h,q=>by
  have h:(small e&&yD ds)=true:=h;rw[Zk]at h;exact yJ h.2 (by simpa using q)
theorem xX {b:Dg}(h:small (.tuple b)=true):b.length<=1000/\yD b=true:=by
 have h:(decide (b.length<=1000)&&yD b)=true:=h;rw[Zk]at h;exact⟨Zv h.1,h.2⟩
theorem KP (a c:Nat):[a]<[c]↔a<c:=by
 rw[List.cons_lt_cons_iff];constructor
 ·rintro(h|⟨_,h⟩)
  ·exact h
  ·exact absurd h (by simp)
 ·exact .inl
theorem GI {p q:Prop} [Decidable p] [Decidable q](h:¬p↔q):(!decide p)=decide q:=by
 by_cases b:p
 ·rw[Zc b,Zg<|fun z=>h.mpr z b];rfl
 ·rw[Zg b,Zc<|h.mp b];rfl
theorem KL (c a:Nat)(x:Str)(b:x.cps.toList=[a]):(!decide ((⟨#[c]⟩:Str).cps.toList<x.cps.toList))=decide (a<=c):=by
 rw[b];exact GI (by show¬[c]<[a]↔_;rw[KP];omega)
theorem one_le (c a:Nat)(x:Str)(b:x.cps.toList=[a]):(!decide (x.cps.toList<(⟨#[c]⟩:Str).cps.toList))=decide (c<=a):=by
 rw[b];exact GI (by show¬[a]<[c]↔_;rw[KP];omega)
def MR:Sp:=fun b H Q _=>∃c:Nat,b=[.str ⟨#[c]⟩]/\Q (.bl<|V5 c) H
def GL (K:Ca):Sp:=fun c H Q _=>∃(d:Er) (v:V),c=[v]/\Dw K H d v/\small d=true/\∀b,W8 H b->Q (.bl<|U2 d) b
def F4 (K:Ca):Sp:=fun c H Q _=>∃(d:Er) (v:V),c=[v]/\Dw K H d v/\small d=true/\∀b,W8 H b->Q (.bl<|XN d) b
def Gu (K:Ca):Sp:=fun c H Q _=>∃(d:Er) (v:V),c=[v]/\Dw K H d v/\small d=true/\∀b,W8 H b->Q (.bl<|xA d) b
def Oh (K:Ca):Sp:=fun c H Q _=>∃(d:Er) (v:V),c=[v]/\Dw K H d v/\small d=true/\∀b,W8 H b->Q (.bl<|Us d) b
theorem y9 {b:Type}{l:List b}{f:b->Bool}{i:Nat}{c:b}(h:l[i]?=some c):(l.take<|i+1).map f=(l.take i).map f++[f c]:=by
 rw[Z4,h,Zr];rfl
theorem Kr {x:Str}{i c:Nat}(h:x.cps[i]?=some c):(cs x)[i]?=some c:=by rw[←h];simp
theorem all_map (l:List α)(f:α->Bool):(l.map f).all id=l.all f:=by
 rw[List.all_map];rfl
end An
namespace L2
open PySem PySem.Spec PyProof.Rows
end L2
namespace An
open PySem L2
mutual
def kY:Er->Bool
 | .list _=>false
 | .dict _=>false
 | .tuple ds=>yG ds
 |_=>true
def yG:Dg->Bool
 |[]=>true
 |d::ds=>kY d&&yG ds
end
mutual
def jQ:Er->Bool
 | .dict _=>false
 | .list ds=>yZ ds
 | .tuple ds=>yZ ds
 |_=>true
def yZ:Dg->Bool
 |[]=>true
 |d::ds=>jQ d&&yZ ds
end
mutual
theorem Dw.dt {K:Ca}:∀(d:Er) (v:V),jQ d=true->Dw K H d v->Dt K H d v
 | .none,_,_,h=>h
 | .bool _,_,_,h=>h
 | .int _,_,_,h=>h
 | .str _,_,_,h=>h
 | .list ds,_,t,⟨a,xs,h1,h2,h3⟩=>⟨a,xs,h1,h2,WD.dt ds xs t h3⟩
 | .tuple ds,_,t,⟨a,xs,h1,h2,h3⟩=>⟨a,xs,h1,h2,WD.dt ds xs t h3⟩
 | .dict _,_,t,_=>by cases t
theorem WD.dt {K:Ca}:∀(ds:Dg) (xs:Dk),yZ ds=true->WD K H ds xs->W6 K H ds xs
 |[],_,_,h=>h
 |d::ds,_,t,⟨x,r,h1,h2,h3⟩=>by
  have t:(jQ d&&yZ ds)=true:=t;rw[Zk]at t;exact⟨x,r,h1,Dw.dt d x t.1 h2,WD.dt ds r t.2 h3⟩
end
theorem qV:∀ls:Da,yG (ls.map .str)=true
 |[]=>rfl
 |l::ls=>by
  show(true&&yG (ls.map .str))=true;rw[qV ls];rfl
theorem qK {d:Er}(b:d.canLay0=true)(c:d.depth<=60):ET d=true:=by
 show(PyData.canLay0 d&&decide (PyData.depth d<=64))=true;rw[b,Zc<|by omega];rfl
mutual
theorem UU:∀d:Er,kY d=true->jQ d=true
 | .none,_=>rfl
 | .bool _,_=>rfl
 | .int _,_=>rfl
 | .str _,_=>rfl
 | .list _,t=>by cases t
 | .tuple ds,t=>kN ds t
 | .dict _,t=>by cases t
theorem kN:∀ds:Dg,yG ds=true->yZ ds=true
 |[],_=>rfl
 |d::ds,t=>by
  have t:(kY d&&yG ds)=true:=t;rw[Zk]at t;show(jQ d&&yZ ds)=true;rw[UU d t.1,kN ds t.2];rfl
end
end An
namespace An
open PySem L2
structure En where
 h:Str
 n:Nat
 d:Er
abbrev Dj:=List En
def dot:Str:=⟨#[46]⟩
theorem Kv:(".":Str)=dot:=by decide +kernel
def En.nm (e:En):Str:=e.h++dot++V0 e.n
def WM (S:Dj)(h:Str):Option Nat:=S.foldl (fun b e=>if e.h=h then some (max (b.getD 0)<|e.n+1) else b) none
theorem U4 (S:Dj)(e:En)(h:Str):WM (S++[e]) h=if e.h=h then some (max ((WM S h).getD 0)<|e.n+1) else WM S h:=by
 unfold WM;rw[Vq];rfl
structure vC (e:En):Prop where
 key:Uo e.d
 free:46∉cs e.h
 num:e.n<1000000
 hl:e.h.length<=100
structure Tp (S:Dj):Prop where
 ent:∀e∈S,vC e
 nd:(S.map (·.d)).Nodup
 nn:(S.map En.nm).Nodup
 len:S.length<=2000
theorem Tp.nil:Tp []:=⟨fun _ h=>(nomatch h),Yp,Yp,ZA _⟩
theorem Tp.snoc (g:Tp S)(h:vC e)(b:e.d∉S.map (·.d))(c:e.nm∉S.map En.nm)(f:S.length<2000):Tp (S++[e]) :=
 ⟨XH g.ent h,by rw[Zr];exact j9 g.nd b,by rw[Zr];exact j9 g.nn c,by rw[ZD,Yw];omega⟩
def Off (fp:De)(H H':Hp):Prop:=∀b o,b∉fp->H b=some o->H' b=some o
theorem Off.refl (fp:De)(H:Hp):Off fp H H:=fun _ _ _ h=>h
theorem Off.trans (a:Off fp H H1)(b:Off fp H1 H2):Off fp H H2:=fun c o n h=>b c o n<|a c o n h
theorem Off.of (s:W8 H H'):Off fp H H':=fun b o _ h=>s b o h
theorem Off.upd {a:Ei}{o:HO}(h:Off fp H H')(m:a∈fp):Off fp H (L2.upd H' a o):=fun b u n e=>by
 have ne:b≠a:=fun z=>n (by rwa[z]);rw[zI ne];exact h b u n e
def Kx (b c d:Ei):List (Str×V):=[("thing_by_name",.ref b),("name_by_thing",.ref c),("next_numbers",.ref d)]
def Wd (H:Hp)(fp:De):Prop:=∀b∈fp,∃o,H b=some o/\(∀c,o≠.tup c)/\(∀c,o≠.lst c)/\∀u v,o≠.frz u v
structure Wx (P:Ek)(w:Ep)(K:Ca)(C:Ei)(H:Hp)(a:Ei)(fp:De)(S:Dj):Prop where
 good:Tp S
 at_:∃(dx d1 d2 d3:Ei) (ts:De) (nx:Dl),fp=[a,dx,d1,d2,d3]/\(fp).Nodup/\H a=some (.ins C dx<|Kx d1 d2 d3)/\H dx=some (.own a)/\ts.length=S.length /\
  H d1=some (.dK<|(S.zip ts).map fun e=>((Ey e.1.nm:Key),V.ref e.2))/\TJ P w K H d2 (S.map fun e=>(e.d,V.str e.nm)) /\
  H d3=some (.dK nx)/\nx.length<=S.length/\(∀h,VS nx (Ey h:Key)=(WM S h).map fun n:Nat=>V.int (n:Int)) /\
  ∀(i:Nat) (e:En) (t:Ei),S[i]?=some e->ts[i]?=some t->Dt K H e.d (.ref t)
theorem Bn {H:Hp}{b:Ei}{o:HO}(h:H b=some o)(c:∀xs,o≠.tup xs)(d:∀u v,o≠.frz u v):∀xs,¬Rd H b (.tup xs):=fun xs z=>by
 rcases z with z|⟨u,z⟩
 ·rw[h]at z;exact c xs<|Option.some.inj z
 ·rw[h]at z;exact d u _<|Option.some.inj z
mutual
theorem Dt.off {K:Ca}{fp:De}(n:∀b∈fp,∀xs,¬Rd H b (.tup xs))(o:Off fp H H'):∀(k:Er) (v:V),Ur k=true->Dt K H k v->Dt K H' k v
 | .str x,_,_,h=>h
 | .tuple ds,_,t,⟨a,xs,h1,c,h3⟩=>by
  refine⟨a,xs,h1,?_,W6.off n o ds xs t h3⟩
  rcases c with c|c
  ·have ne:a∉fp:=fun z=>n a z xs c
   rcases c with c|⟨u,c⟩
   ·exact .inl (.inl<|o a _ ne c)
   ·exact .inl (.inr ⟨u,o a _ ne c⟩)
  ·exact .inr c
 | .none,_,_,h=>h
 | .bool _,_,t,_=>by cases t
 | .int _,_,t,_=>by cases t
 | .list _,_,t,_=>by cases t
 | .dict _,_,t,_=>by cases t
theorem W6.off {K:Ca}{fp:De}(n:∀b∈fp,∀xs,¬Rd H b (.tup xs))(o:Off fp H H'):∀(ks:Dg) (vs:Dk),yU ks=true->W6 K H ks vs->W6 K H' ks vs
 |[],_,_,h=>h
 |k::ks,_,t,⟨x,r,h1,h2,h3⟩=>by
  have t:(Ur k&&yU ks)=true:=t;rw[Zk]at t;exact⟨x,r,h1,Dt.off n o k x t.1 h2,W6.off n o ks r t.2 h3⟩
end
theorem TJ.off {K:Ca}{fp:De}{d:Ei}(n:∀b∈fp,∀xs,¬Rd H b (.tup xs))(o:Off fp H H')(e:H' d=H d)(T:TJ P w K H d ps):TJ P w K H' d ps:=by
 obtain⟨hl,hk,nd,xs,f,r⟩:=T;refine⟨hl,hk,nd,xs,by rw[e];exact f,?_⟩;have key:∀{ps:List (Er×V)} {xs:List (Er×Ei×Ej)},(∀p∈ps,Uo p.1)->Lf (Wo K H) ps xs->Lf (Wo K H') ps xs:=by
  intro ps xs c r
  induction r with
  |nil=>exact .nil
  |cons r1 _ ih=>exact .cons ⟨r1.1,Dt.off n o _ _ (c _ Zj).1 r1.2.1,r1.2.2⟩<|ih fun p g=>c p<|Zi _ g
 exact key hk r
theorem Wx.off {K:Ca}{fp gp:De}(n:∀b∈gp,∀xs,¬Rd H b (.tup xs))(o:Off gp H H')(r:∀b∈fp,b∉gp)(h:Wx P w K C H a fp S):Wx P w K C H' a fp S:=by
 obtain⟨g,j,c,d,f,F,nx,rfl,nd,s,v,x,y,p,z,A,B,D⟩:=h;have k:∀b u,b∈[a,j,c,d,f]->H b=some u->H' b=some u:=fun b u m e=>o b u (r b m) e;obtain⟨xs,l,_⟩:=p.2.2.2;refine⟨g,j,c,d,f,F,nx,rfl,nd,k _ _ (by simp) s,k _ _ (by simp) v,x,k _ _ (by simp) y,TJ.off n o ?_ p,k _ _ (by simp) z,A,B,fun i e t q E=>Dt.off n o _ _ (g.ent e<|Zu q).key.1<|D i e t q E⟩;rw[l];exact k _ _ (by simp) l
theorem Wx.same {K:Ca}(s:W8 H H')(h:Wx P w K C H a fp S):Wx P w K C H' a fp S :=
 h.off (gp:=[]) (fun b m=>(nomatch m)) (Off.of s) (fun b _=>by simp)
theorem Wx.Wh {K:Ca}(h:Wx P w K C H a fp S):Wd H fp:=by
 obtain⟨g,p,l,n,o,u,nx,rfl,nd,d,e,q,f,i,j,r,s,t⟩:=h;obtain⟨v,c,_⟩:=i.2.2.2;intro b m;simp only[Za,ZC,Yl]at m
 rcases m with rfl|rfl|rfl|rfl|rfl
 ·exact⟨_,d,fun _ z=>(nomatch z),fun _ z=>(nomatch z),fun _ _ z=>(nomatch z)⟩
 ·exact⟨_,e,fun _ z=>(nomatch z),fun _ z=>(nomatch z),fun _ _ z=>(nomatch z)⟩
 ·exact⟨_,f,fun _ z=>(nomatch z),fun _ z=>(nomatch z),fun _ _ z=>(nomatch z)⟩
 ·exact⟨_,c,fun _ z=>(nomatch z),fun _ z=>(nomatch z),fun _ _ z=>(nomatch z)⟩
 ·exact⟨_,j,fun _ z=>(nomatch z),fun _ z=>(nomatch z),fun _ _ z=>(nomatch z)⟩
theorem Wd.tup (h:Wd H fp):∀b∈fp,∀xs,¬Rd H b (.tup xs):=fun b m xs=>by
 obtain⟨o,e,n1,_,n2⟩:=h b m;exact Bn e n1 n2 xs
theorem FW {κ:Type} [DecidableEq κ]{Dm:List (κ×V)}{k:κ}{v:V}(h:k∉Dm.map (·.1)):WK Dm k v=Dm++[(k,v)]:=by
 unfold WK;rw[Zm];intro z;obtain⟨kv,hm,e⟩:=ZP.mp z;exact h<|Ze.mpr ⟨kv,hm,Zv e⟩
theorem GP {κ:Type} [DecidableEq κ]:∀{Dm:List (κ×V)} {k:κ} {v:V},(Dm.map (·.1)).Nodup->(k,v)∈Dm->VS Dm k=some v
 |[],_,_,_,h=>(nomatch h)
 |p::r,k,v,nd,h=>by
  rw[ZJ,ZK]at nd;unfold VS;rw[Z7]
  rcases Za.mp h with e|h
  ·subst e;rw[Zc<|show((k,v):κ×V).1=k from rfl];rfl
  ·rw[Zg<|show¬p.1=k from fun z=>nd.1<|Ze.mpr ⟨(k,v),h,z.symm⟩];exact GP nd.2 h
theorem K0 (e:En):cs e.nm=cs e.h++46::cs (V0 e.n):=by
 unfold En.nm;rw[WY,WY];show cs e.h++[46]++cs (V0 e.n)=_;simp
theorem K2 (h:V0 m=V0 n):m=n:=by
 have b:cs (V0 m)=cs (V0 n):=by rw[h]
 have e:=JY m;have f:=JY n;have c:=PySem.W.KIN.val_back m;have d:=PySem.W.KIN.val_back n;rw[←e]at c;rw[←f]at d;have b:(EN<|toString ((m:Nat):Int)).cps.toList=(EN<|toString ((n:Nat):Int)).cps.toList:=b;rw[b]at c;exact c.symm.trans d
theorem F7:∀{a b r s:List Nat},¬(46∈a)->¬(46∈b)->a++46::r=b++46::s->a=b/\r=s
 |[],[],r,s,_,_,h=>⟨rfl,by injection h⟩
 |[],y::b,r,s,_,hb,h=>by
  injection h with c d;exact absurd (by rw[←c];exact Zj) hb
 |x::a,[],r,s,ha,_,h=>by
  injection h with c d;exact absurd (by rw[c];exact Zj) ha
 |x::a,y::b,r,s,ha,hb,h=>by
  injection h with c d;obtain⟨e,f⟩:=F7 (fun z=>ha<|Zi _ z) (fun z=>hb<|Zi _ z) d;exact⟨by rw[c,e],f⟩
theorem ON {e f:En}(d:46∉cs e.h)(g:46∉cs f.h)(h:e.nm=f.nm):e.h=f.h/\e.n=f.n:=by
 have:=congrArg cs h;rw[K0,K0]at this;obtain⟨b,c⟩:=F7 d g this;exact⟨T6 b,K2<|T6 c⟩
theorem Nt:∀{S:Dj} {e:En},e∈S->e.n<(WM S e.h).getD 0:=by
 have key:∀(S:Dj) (b:Option Nat) (h:Str),b.getD 0<=(S.foldl (fun b e=>if e.h=h then some (max (b.getD 0)<|e.n+1) else b) b).getD 0/\∀e∈S,e.h=h->e.n<(S.foldl (fun b e=>if e.h=h then some (max (b.getD 0)<|e.n+1) else b) b).getD 0:=by
  intro S
  induction S with
  |nil=>intro b h;exact⟨Q9 _,fun e c=>(nomatch c)⟩
  |cons f S ih =>
   intro b h;rw[Va];obtain⟨g,i⟩:=ih (if f.h=h then some (max (b.getD 0)<|f.n+1) else b) h;have mono:b.getD 0<=(if f.h=h then some (max (b.getD 0)<|f.n+1) else b).getD 0:=by
    split
    ·exact Nat.le_max_left _ _
    ·exact Q9 _
   refine⟨Yc mono g,fun e c d=>?_⟩
   rcases Za.mp c with rfl|c
   ·rw[Zp d]at g ⊢;have:e.n+1<=(some<|max (b.getD 0)<|e.n+1).getD 0:=Nat.le_max_right _ _;omega
   ·exact i e c d
 intro S e c;exact(key S none e.h).2 e c rfl
theorem KY (g:Tp S){h:Str}{d:Er}(i:46∉cs h):(En.mk h ((WM S h).getD 0) d).nm∉S.map En.nm:=fun z=>by
 obtain⟨e,f,q⟩:=Ze.mp z;obtain⟨b,c⟩:=ON (g.ent e f).free i q;have:=Nt f;have b:e.h=h:=b;have c:e.n=(WM S h).getD 0:=c;rw[b]at this;omega
end An
namespace An
open PySem L2
def dig (n:Nat):Str:=EN<|toString ((n:Nat):Int)
def enc (p:Str):List Nat:=cs (dig p.length)++58::cs p
inductive Th where
 |leaf (ls:Da)
 |tree (rows:Dh)
 |note (t:Str) (ps:Da) (w:Str)
def zZ:Dh->Da
 |[]=>[]
 |r::rs=>r.1::r.2::zZ rs
theorem qP:∀(a b:Dh),zZ (a++b)=zZ a++zZ b
 |[],_=>rfl
 |(x,y)::a,b=>by
  show x::y::zZ (a++b)=x::y::(zZ a++zZ b);rw[qP a b]
def Th.word:Th->Str
 | .leaf _=>"leaf"|.tree _=>"tree"|.note _ _ _=>"note"
def Th.letter:Th->Str
 | .leaf _=>"L"|.tree _=>"T"|.note _ _ _=>"N"
def Th.parts:Th->Da
 | .leaf ls=>ls
 | .tree rows=>zZ rows
 | .note t ps w=>[t,dig ps.length]++ps++[w]
def counted (p:Str):Str:=dig p.length++":"++p
def more (x p:Str):Str:=x++dig p.length++":"++p
def Th.sp (t:Th):Str:=t.parts.foldl more t.letter
theorem Be:cs (":":Str)=[58]:=by decide +kernel
theorem CB (p:Str):cs (counted p)=enc p:=by
 unfold counted enc;rw[WY,WY,Be];simp
theorem Nf (x p:Str):cs (more x p)=cs x++enc p:=by
 unfold more enc;rw[WY,WY,WY,Be];simp
theorem B7:∀(ps:Da) (x:Str),cs (ps.foldl more x)=cs x++ps.flatMap enc
 |[],x=>by simp
 |p::ps,x=>by
  rw[Va,B7 ps,Nf,List.flatMap_cons,Y1]
theorem Pu (t:Th):cs t.sp=cs t.letter++t.parts.flatMap enc:=B7 _ _
theorem P4 (t:Th):t.letter++Txt.join "" (t.parts.map counted)=t.sp:=by
 apply T6
 rw[WY,Pu];have e:cs (Txt.join ""<|t.parts.map counted)=t.parts.flatMap enc:=by
  show cs (Builtin.Str.glued ""<|t.parts.map counted)=_;rw[LH];rw[kE,List.flatMap_map]
  congr 1
  funext p
  exact CB p
 rw[e]
theorem jW (t:Th):cs t.letter=[match t with|.leaf _=>76|.tree _=>84|.note _ _ _=>78]:=by
 cases t
 ·show cs ("L":Str)=[76]
  decide +kernel
 ·show cs ("T":Str)=[84]
  decide +kernel
 ·show cs ("N":Str)=[78]
  decide +kernel
def Px (n:Int)(c:Nat):Int:=(31*n+c) % 97
def dg (x:Str):Int:=(cs x).foldl Px 0
def W5 (r:Str×Str):PyData:=.tuple [.str r.1,.str r.2]
def Th.dat:Th->Er
 | .leaf ls=>.tuple [.str "leaf",.tuple<|ls.map .str]
 | .tree rows=>.tuple [.str "tree",.tuple<|rows.map W5]
 | .note t ps w=>.tuple [.str "note",.str t,.tuple<|ps.map .str,.str w]
theorem Ba:∀(a b:Dh),EW (a.map W5) (b.map W5)=decide (a=b)
 |[],[]=>rfl
 |[],_::_=>rfl
 |_::_,[]=>rfl
 |(x,y)::a,(z,w)::b=>by
  show(((x==z)&&((y==w)&&true))&&EW (a.map W5) (b.map W5))=_;rw[Ba a b,ZS];simp[and_assoc]
theorem qZ {x y:Str}{xs ys:Dg}(h:(x==y)=false):EG (.tuple (.str x::xs)) (.tuple (.str y::ys))=false:=by
 show((x==y)&&EW xs ys)=false;rw[h];rfl
theorem FB (a b:Th):EG a.dat b.dat=true↔a=b:=by
 have c:(("leaf":Str)=="tree")=false:=by decide +kernel
 have d:(("leaf":Str)=="note")=false:=by decide +kernel
 have e:(("tree":Str)=="leaf")=false:=by decide +kernel
 have f:(("tree":Str)=="note")=false:=by decide +kernel
 have g:(("note":Str)=="leaf")=false:=by decide +kernel
 have i:(("note":Str)=="tree")=false:=by decide +kernel
 cases a with
 |leaf ls =>
  cases b with
  |leaf ms =>
   show((("leaf":Str)=="leaf")&&(EW (ls.map .str) (ms.map .str)&&true))=true↔_;rw[q8];simp
  |tree _ =>
   exact JT (fun z=>absurd ((qZ c).symm.trans z) Zs) (fun z=>by cases z)
  |note _ _ _ =>
   exact JT (fun z=>absurd ((qZ d).symm.trans z) Zs) (fun z=>by cases z)
 |tree rs =>
  cases b with
  |leaf ms =>
   exact JT (fun z=>absurd ((qZ e).symm.trans z) Zs) (fun z=>by cases z)
  |tree qs =>
   show((("tree":Str)=="tree")&&(EW (rs.map W5) (qs.map W5)&&true))=true↔_;rw[Ba];simp
  |note _ _ _ =>
   exact JT (fun z=>absurd ((qZ f).symm.trans z) Zs) (fun z=>by cases z)
 |note t ps w =>
  cases b with
  |leaf ms =>
   exact JT (fun z=>absurd ((qZ g).symm.trans z) Zs) (fun z=>by cases z)
  |tree qs =>
   exact JT (fun z=>absurd ((qZ i).symm.trans z) Zs) (fun z=>by cases z)
  |note t' ps' w' =>
   show((("note":Str)=="note")&&((t==t')&&(EW (ps.map .str) (ps'.map .str)&&((w==w')&&true))))=true↔_;rw[q8];simp
def Th.Good (t:Th):Prop:=t.parts.length<=1000/\∀p∈t.parts,Ok 1000 p
end An
namespace L2
open PySem PySem.Spec PyProof.Rows
section
variable {X:Cx}{Do:Df}{σ:St}{H:Hp}{s:Eo}{d:Ei}{Dm:Dl}
theorem Inv.freeze (I:Inv X Do σ H s)(e:H d=some (.dK Dm)):∃ob:Obj,Inv X Do σ (upd H d<|.frz ob<|.dK Dm) s:=by
 obtain⟨t,n,c,i,o,l,j,g,r,hd,hk,p,f⟩:Dm.length<=sizeLine/\(d==EL)=false/\∃c,KV Dm c/\s.heap.DictOf (zU X.prog X.w) d c:=I.hok d _ e;refine⟨o,?_⟩;have v:Op (H d):=by rw[e];trivial
 exact I.write (x:=d) (e:=d) (h':=s.heap) (t':=s.toks) v (.inl rfl) (fun b u _ q=>q) ⟨o,g⟩ ⟨g,t,n,c,i,o,l,j,g,r,hd,hk,p,f⟩
theorem MK {k:Key}{u:Ej}(h:(zU P w).is k u=true):WX (kV k) u:=by
 cases k with
 |inl i =>
  have h:Me i u=true:=h;cases u<;>simp[Me]at h;subst h;exact⟨_,rfl⟩
 |inr x =>
  obtain⟨t,rfl⟩:=Yr<|show E3 x u=true from h;exact⟨t,rfl⟩
theorem qJ {c b:Type}{F:c->b->Prop}:∀{l₁:List c} {l₂:List b} {i:Nat} {y:b},Lf F l₁ l₂->l₂[i]?=some y->∃x,l₁[i]?=some x/\F x y
 |_,_,_,_,.nil,h=>by cases h
 |_,_,0,_,.cons r _,h=>by cases h;exact⟨_,rfl,r⟩
 |_,_,i+1,_,.cons _ t,h=>by
  obtain⟨x,d,e⟩:=qJ (i:=i) t (by simpa using h);exact⟨x,by simpa using d,e⟩
theorem CD {ob:Obj}(z:WT P w H h d<|.frz ob<|.dK Dm):∃vs es ep,ob.data=.dict es ep/\KV Dm vs/\h.DictAt (zU P w) d vs ep/\(d==EL)=false/\Dm.length<=sizeLine:=by
 obtain⟨i,q,l,vs,g,o,b,e,j,p,c,hk,n,f⟩:=z;rw[i]at j;cases j;exact⟨vs,b,e,c,g,⟨ob,b,i,p,c,hk,n,f⟩,l,q⟩
theorem Xa {ob:Obj}{es:Array Lj}{ep:Nat}(hd:ob.data=.dict es ep)(z:WT P w H h d<|.frz ob<|.dK Dm):∃vs,KV Dm vs/\h.DictAt (zU P w) d vs ep/\(d==EL)=false:=by
 obtain⟨vs,g,f,b,c,e,i,_⟩:=CD z;rw[hd]at b;cases b;exact⟨vs,c,e,i⟩
def Rk (d:Ei)(Dm:Dl)(ob:Obj):It where
 go:=fun i H=>H d=some (.frz ob<|.dK Dm)/\i<Dm.length
 wI:=fun i H x b=>b=H/\∃k v,Dm[i]?=some (k,v)/\x=kV k
 stop:=fun i H=>H d=some (.frz ob<|.dK Dm)/\i=Dm.length
theorem Kc {K:Ca}{ob:Obj}{es:Array Lj}{ep:Nat}(hd:ob.data=.dict es ep)(it:Ei):Turn P w K tg (Rk d Dm ob) [it] it (fun i h=>h.IsKeyIter it d i Dm.length ep) where
 mem:=by simp
 obj:=fun i h st b hb=>by
  have e:b=it:=by simpa using hb
  subst e;obtain⟨o,e,c,r⟩:=st;exact⟨o,e,fun v z=>by rw[r]at z;cases z⟩
 keep:=fun i h n st k=>by
  obtain⟨o,e,c⟩:=st;exact⟨o,k it (by simp) o e,c⟩
 item:=by
  intro X D G C L i Do s σ H E I p st F;subst D G C;obtain⟨j,M⟩:=F;obtain⟨g,f,q,U⟩:=Xa hd<|I.hok d _ j;have hl:Dm.length=g.length:=Paired.length f;rw[hl]at st;have N:g[i]?=some (g[i]'(by omega)):=Zh (by omega);obtain⟨t,u,S,x,y,A⟩:=p it (by simp);refine wpAny_pyNext_dict_item (k:=(g[i]'(by omega)).1) (v:=(g[i]'(by omega)).2) st q N fun key n O l Z=>?_;have Q:Inv X Do σ H { s with heap:=n }:=I.turned (t':=s.toks) (fun b o hb e=>(Z.2 b hb).trans e) t u x y A;rw[←hl]at l;obtain⟨o,e,c,r⟩:=id l;have hk:∃v,Dm[i]?=some ((g[i]'(by omega)).1,v):=by
   obtain⟨⟨Y,J⟩,T,B,_⟩:=qJ f N;have B:Y=_:=B;subst B;exact⟨J,T⟩
  obtain⟨J,hk⟩:=hk;exact⟨key,rfl,G2 (s:={ s with heap:=n }) e c r (by decide) ⟨kV (g[i]'(by omega)).1,H,Q,MK O,⟨rfl,_,J,hk,rfl⟩,l,fun b hb=>(p b hb).1⟩⟩
 done:=by
  intro X D G C L i Do s σ H E I p st F;subst D G C;obtain⟨j,M⟩:=F;subst M;obtain⟨g,f,q,U⟩:=Xa hd<|I.hok d _ j;have hl:Dm.length=g.length:=Paired.length f;obtain⟨t,u,S,x,y,A⟩:=p it (by simp);rw[hl]at st;exact wpAny_pyNext_dict_end (I.ok.hd L) st q (ZN<|by omega) fun n R=>⟨rfl,I.turned (t':=s.toks) (fun b o hb e=>R b o hb e) t u x y A⟩
 self:=fun _ _ _ _ _ st h=>wpAny_pyIter_keyiter st h
def Rq (d:Ei)(Dm:Dl)(ob:Obj):It where
 go:=fun i H=>H d=some (.frz ob<|.dK Dm)/\i<Dm.length
 wI:=fun i H x b=>∃T k v,Dm[i]?=some (k,v)/\H T=none/\x=.ref T/\b=upd H T (.tup [kV k,v])
 stop:=fun i H=>H d=some (.frz ob<|.dK Dm)/\i=Dm.length
theorem Fk {P:Ek}{w:Ep}{K:Ca}{Ec:List EK} {x1}{l:Pos}{ob:Obj}{es:Array Lj}{ep:Nat}(hd:ob.data=.dict es ep)(it:Ei) :
  Turn P w K (.Tuple Ec x1 l) (Rq d Dm ob) [it] it (fun i h=>∃ok ov,IsItemIter h it d i Dm.length ep ok ov) where
 mem:=by simp
 obj:=fun i h st b hb=>by
  have e:b=it:=by simpa using hb
  subst e;obtain⟨ok,ov,e⟩:=st;exact⟨_,e,fun v z=>by cases z⟩
 keep:=fun i h R st k=>by
  obtain⟨ok,ov,e⟩:=st;exact⟨ok,ov,k it (by simp) _ e⟩
 item:=by
  intro X F L D S i Do s σ H E I y st J;subst F L D;obtain⟨f,T⟩:=J;obtain⟨t,c,A,hS⟩:=Xa hd<|I.hok d _ f;have hl:Dm.length=t.length:=Paired.length c;obtain⟨ok,ov,st⟩:=st;rw[hl]at st;obtain⟨⟨Y,u⟩,U⟩:∃p,t[i]?=some p:=⟨_,Zh<|show i<t.length by omega⟩;obtain⟨⟨g,r⟩,h0,C,N⟩:=qJ c U;have C:g=Y:=C;have N:WX r u:=N;have fi:=y it (by simp);have G:H s.heap.objs.size=none:=I.hok.fresh<|Q9 _;have j:it<s.heap.objs.size:=Zd st;refine wpAny_pyNext_items_item (k:=Y) (v:=u) st A U fun key R Ed M tup sz kp=>?_;refine⟨_,rfl,wpAny_letOwnedTupleGo_items M fun x Q Z=>?_⟩;have n:x.get? s.heap.objs.size=some { cls:=.type "tuple",data:=.seq #[key,u] }:=(Z.2 _<|Je j).trans tup;have I1:Inv X Do σ H { s with heap:=x }:=I.vQ (t':=s.toks) (ch:=[it]) y (fun b o hb q=>by
   have O:b≠it:=fun z=>hb (by simp[z]);exact(Z.2 b O).trans (kp b o O q)) (fun b hb=>by
   have z:b=it:=by simpa using hb
   subst z;exact⟨_,Q⟩)
  have B:=I.yq (Q9 _) G;have new:WT X.prog X.w (upd H s.heap.objs.size<|.tup [kV g,r]) x s.heap.objs.size (.tup [kV g,r]) :=
   ⟨by show 2<=sizeLine;decide,[key,u],.cons (by rw[C];exact MK Ed)<|.cons N .nil,⟨_,n,rfl,_,rfl,rfl⟩⟩
  have I2:Inv X Do σ (upd H s.heap.objs.size<|.tup [kV g,r]) { s with heap:=x } :=
   I1.uP G (Yc I.sz<|Q9 _) B.2.1 B.2.2.2.2.1 B.2.2.2.2.2 new
  refine⟨.ref s.heap.objs.size,_,I2,rfl,⟨_,g,r,h0,G,rfl,rfl⟩,⟨key,u,by rw[hl];exact Q⟩,fun b hb=>?_⟩;have z:b=it:=by simpa using hb
  subst z;rw[zI<|Zl j];exact fi.1
 done:=by
  intro X F L D S i Do s σ H E I y st J;subst F L D;obtain⟨f,T⟩:=J;subst T;obtain⟨t,c,A,hS⟩:=Xa hd<|I.hok d _ f;have hl:Dm.length=t.length:=Paired.length c;obtain⟨f0,f1,f2,f3,f4,f5⟩:=y it (by simp);obtain⟨ok,ov,st⟩:=st;rw[hl]at st;exact wpAny_pyNext_items_end (I.ok.hd S) st A (ZN<|by omega) fun R eb=>⟨rfl,I.turned (t':=s.toks) (fun b o hb e=>eb b o hb e) f0 f1 f3 f4 f5⟩
 self:=fun _ _ _ _ _ st h=>by
  obtain⟨ok,ov,st⟩:=st;exact PySem.W.kcp_self st h
end
section
variable {X:Cx}{tg:EK}
def RU (t:TE):TE:=fun e H Q=>t e H fun v c=>∃d b,v=.ref d/\c d=some (.dK b)/\∀ob,Q v<|upd c d<|.frz ob<|.dK b
theorem Xz (h:PE X e t):PE X e (RU t):=by
 intro b s g H Q I q;refine Cb (h b s g H _ I q) fun v l hh=>?_;obtain⟨x,j,c,r,d,i,ex,hd,q⟩:=hh;subst ex;obtain⟨ob,f⟩:=c.freeze hd;exact⟨.ref d,_,f,r,q ob⟩
def PB (e:TE):TI:=fun f H R=>e f H fun v c=>∃d ob b,v=.ref d/\c d=some (.frz ob<|.dK b)/\R (Rk d b ob) c
theorem FS (hl:PE X l tl):PI X tg l (PB tl):=by
 intro j s p H R I h;refine Cb (hl j s p H _ I h) fun v c hh=>?_;obtain⟨x,w,g,r,d,ob,t,ex,hd,q⟩:=hh;subst ex;cases r;obtain⟨n,C,A,f,i,z,B,_⟩:=CD<|g.hok d _ hd;have u:t.length=n.length:=Paired.length i;refine wpAny_pyIter_dict B z ?_;have y:Inv X j p w { c with heap:=c.heap.push { cls:=.type "dict_keyiterator",data:=.fields #[.ref d,.int 0 0,.int n.length 0,.int A 0] } }:=g.kept (t':=c.toks) fun b o e=>Q6 _ e;refine⟨c.heap.objs.size,[c.heap.objs.size],_,_,_,rfl,y,Kc f _,?_,fun b hb=>?_,q⟩
 ·exact⟨_,Zb _ rfl,rfl,by rw[u];rfl⟩
 ·have e:b=c.heap.objs.size:=by simpa using hb
  subst e;exact g.yq (Q9 _)<|g.hok.fresh<|Q9 _
def OC (e:TE):TI:=fun f H R=>e f H fun v c=>∃d ob b,v=.ref d/\c d=some (.frz ob<|.dK b)/\R (Rq d b ob) c
theorem Xv {K:List EK}{g z A:Pos}(S:PE X o td)(E:Ll o "items" X.env (EZ o X.env)=EZ o X.env:=by rfl)(D:(z.endLine==A.line)=true:=by rfl) :
  PI X (.Tuple K x1 g) (.Call (.Attribute o "items" z) [] [] A) (OC td):=by
 intro y s C H R I h;refine Y8 E D<|Cb (S y s C H _ I h) fun v c hh=>?_;obtain⟨x,L,B,r,d,ob,G,ex,hd,q⟩:=hh;subst ex;cases r;obtain⟨u,T,M,f,t,l,Q,_⟩:=CD<|B.hok d _ hd;have J:G.length=u.length:=Paired.length t;have j:=l.dictOf;obtain⟨p,N,O,P,U⟩:=id l;refine⟨"dict","dict.items",F.plainAttrs_dict,L8,F.type_dict_items,j.typeIs,fun b q=>by cases q;exact⟨p,O,P.2.1⟩,E7 rfl<|JA ?_⟩;refine Vf L8 j.typeIs F.entry_dict_items (F.args_dict_items_1 _) (meets_dict_items (zU X.prog X.w) d Q) ⟨⟨u,j⟩,?_⟩;have i:Inv X y C L { c with heap:=c.heap.push { cls:=.type "dict_items",data:=.fields #[.ref d] } }:=B.kept (t':=c.toks) fun b o e=>Q6 _ e;have n:(c.heap.push { cls:=.type "dict_items",data:=.fields #[.ref d] }).DictAt (zU X.prog X.w) d u M:=l.at' fun o e=>Q6 _ e;refine wpAny_pyIter_items (v:=c.heap.objs.size) (d:=d) ⟨_,Zb _ rfl,rfl,rfl⟩ n ?_;refine⟨_,[_],_,_,_,rfl,i.kept (t':=c.toks) fun b o e=>Q6 _ e,Fk f _,⟨_,_,by rw[J];exact Zb _ rfl⟩,fun b hb=>?_,q⟩;have e:=Q8.mp hb;subst e;exact i.yq (Q9 _)<|i.hok.fresh<|Q9 _
section
variable {d:Ei}{Dm:Dl}{ob:Obj}{g:TG}{tb:TS}{D:Ends}{σ:St}{H:Hp}
theorem Ky (b:Nat->St->Hp->Prop)(j:b 0 σ H)(hl:∀i σ H,i<=Dm.length->b i σ H->H d=some (.frz ob<|.dK Dm))
  (hs:∀i k v σ H,Dm[i]?=some (k,v)->b i σ H->g (kV k) σ H fun σ2 H2=>tb { D with nx:=b<|i+1,ct:=b<|i+1,bk:=D.nx } σ2 H2) (hd:∀σ H,b Dm.length σ H->D.nx σ H):M5 (Rk d Dm ob) g tb D σ H :=
 Kz Dm.length b j (fun σ H p=>⟨hl _ σ H (Q9 _) p,rfl⟩) (fun i σ H c p=>⟨hl i σ H (Yd c) p,c⟩) (fun i σ H c p v n y=>by
  obtain⟨e,k,x,l,f⟩:=y;subst f e;exact hs i k x σ _ l p) hd
theorem UG (b:Nat->St->Hp->Prop)(j:b 0 σ H)(hl:∀i σ H,i<=Dm.length->b i σ H->H d=some (.frz ob<|.dK Dm))
  (hs:∀i k v T σ H,Dm[i]?=some (k,v)->b i σ H->H T=none->g (.ref T) σ (upd H T<|.tup [kV k,v]) fun σ2 H2=>tb { D with nx:=b<|i+1,ct:=b<|i+1,bk:=D.nx } σ2 H2) (hd:∀σ H,b Dm.length σ H->D.nx σ H):M5 (Rq d Dm ob) g tb D σ H :=
 Kz Dm.length b j (fun σ H p=>⟨hl _ σ H (Q9 _) p,rfl⟩) (fun i σ H c p=>⟨hl i σ H (Yd c) p,c⟩) (fun i σ H c p v o y=>by
  obtain⟨T,k,x,n,l,f,e⟩:=y;subst f e;exact hs i k x T σ H n p l) hd
end
def RJ:R2:=fun y x H Q=>∃a o,x=.ref a/\Wn H a y o/\Q (.bl o.isSome) H
theorem CY (f:X.A.units+64<E4):Cj X (EJ .In) RJ:=by
 intro e s j H y x v u Q I d c h;obtain⟨a,o,rfl,g,q⟩:=h;cases c;exact Ru (by omega) I g d fun i b=>⟨.bl _,H,b,rfl,q⟩
inductive uY (K:Ca)(H:Hp)(kb:Dl):Dl->Bool->Prop
 |nil:uY K H kb [] true
 |miss {k:Key} {v:V} {r:Dl}:VS kb k=none->uY K H kb ((k,v)::r) false
 |hit {k:Key} {v y:V} {d e:Er} {r:Dl} {b:Bool}:VS kb k=some y->Dt K H d v->Dt K H e y->ET d=true->ET e=true->uY K H kb r b->uY K H kb ((k,v)::r) (EG d e&&b)
end
section
variable {X:Cx}{K:Ca}
theorem FQ (w:X.A.units+64<E4)(g:X.K=K:=by rfl):Cj X (EJ .NotIn) (NR K false true):=by
 subst g;intro p s z H x y v u Q I l n h;obtain⟨d,o,b,c,e,f,t,q⟩:=h;obtain⟨r,i⟩:=Dt.Ws I d x v b l;obtain⟨bs,j⟩:=Dt.Ws I _ y u c n;have hm:min (EF o) d.depth<=d.depth:=Jy _ _;exact SeqAt.notIn_list_reads j i e f (by omega) ⟨.bl _,H,I,rfl,by simpa using q⟩
theorem K7 (w:X.A.units+64<E4)(g:X.K=K:=by rfl):Cj X (EJ .NotIn) (NR K true true):=by
 subst g;intro p s z H x y v u Q I l n h;obtain⟨d,o,b,c,e,f,t,q⟩:=h;obtain⟨r,i⟩:=Dt.Ws I d x v b l;obtain⟨bs,j⟩:=Dt.Ws I _ y u c n;have hm:min (EF o) d.depth<=d.depth:=Jy _ _;exact SeqAt.notIn_tuple_reads j i e f (by omega) ⟨.bl _,H,I,rfl,by simpa using q⟩
end
end L2
namespace An
open PySem L2
theorem XV (x:Str):0<=dg x/\dg x<97:=by
 unfold dg;have:∀(l:List Nat) (n:Int),(0<=n/\n<97)->0<=l.foldl Px n/\l.foldl Px n<97:=by
  intro l
  induction l with
  |nil=>intro n h;exact h
  |cons c l ih =>
   intro n _;rw[Va];refine ih _ ?_;unfold Px;omega
 exact this _ 0 ⟨by decide,by decide⟩
theorem K3 (x:Str):EN (toString<|dg x)=V0 (dg x).toNat:=by
 unfold V0;rw[Int.toNat_of_nonneg (XV x).1]
theorem B0 {n:Nat}(h:n<97):(V0 n).length<=10:=Y5 (by omega) (by decide) (by
 have:n<10 ^ 9:=by omega
 omega)
theorem Fv (x:Str)(n:Nat):cs (LW x none<|some (n:Int))=(cs x).take n:=by
 by_cases h:n<=x.length
 ·have e:=YZ (J6 (x:=x) (j:=(n:Int)) (by omega)<|by omega);rw[e];show((x.cps.toList.drop (0:Int).toNat).take ((n:Int)-0).toNat).toArray.toList=_;simp[cs]
 ·have e:=YZ (J6 (x:=x) (j:=(x.length:Int)) (by omega)<|by omega);rw[PyProof.Rows.slice_to_beyond<|by omega,e];have hl:(cs x).length<=n:=by rw[←WW];omega
  rw[JQ hl];show((x.cps.toList.drop (0:Int).toNat).take ((x.length:Int)-0).toNat).toArray.toList=_;have:((x.length:Int)-0).toNat=x.cps.toList.length:=by simp[Str.length]
  rw[this];show(x.cps.toList.take x.cps.toList.length)=cs x;rw[ZI]
theorem Fu (x:Str)(n:Nat)(h:n<=x.length):cs (LW x (some (n:Int)) none)=(cs x).drop n:=by
 have e:=YZ (PyProof.Rows.slice_closes_fromL (x:=x) (i:=(n:Int)) (b:=(x.length:Int)) (by omega) (by omega) rfl);rw[e];show((x.cps.toList.drop (n:Int).toNat).take ((x.length:Int)-n).toNat).toArray.toList=_;have:((x.length:Int)-n).toNat=(x.cps.toList.drop n).length:=by rw[YO];simp[Str.length]
 rw[this];show(x.cps.toList.drop n).take (x.cps.toList.drop n).length=(cs x).drop n;rw[ZI]
theorem snoc_ind {b:Type}{p:List b->Prop}(h0:p [])(h1:∀l x,p l->p (l++[x]))(l:List b):p l:=by
 have:∀l:List b,p l.reverse:=by
  intro l
  induction l with
  |nil=>exact h0
  |cons x l ih=>rw[List.reverse_cons];exact h1 _ _ ih
 have:=this l.reverse
 rwa[List.reverse_reverse]at this
theorem vd (S:Dj)(h:Str):(WM S h).getD 0=0\/∃e∈S,e.h=h/\e.n+1=(WM S h).getD 0:=by
 induction S using snoc_ind with
 |h0=>exact .inl rfl
 |h1 S e ih =>
  rw[U4]
  by_cases q:e.h=h
  ·rw[Zp q];show max ((WM S h).getD 0) (e.n+1)=0\/_
   rcases Nat.le_total ((WM S h).getD 0) (e.n+1) with z|z
   ·exact .inr ⟨e,by simp,q,(Nat.max_eq_right z).symm⟩
   ·have d:max ((WM S h).getD 0) (e.n+1)=(WM S h).getD 0:=Nat.max_eq_left z
    rcases ih with i|⟨f,c,h1,b⟩
    ·exact .inl (d.trans i)
    ·exact .inr ⟨f,by simp[c],h1,b.trans d.symm⟩
  ·rw[Zm q]
   rcases ih with i|⟨f,c,h1,b⟩
   ·exact .inl i
   ·exact .inr ⟨f,by simp[c],h1,b⟩
theorem FK {S:Dj}(b:∀e∈S,e.n<S.length)(h:Str):(WM S h).getD 0<=S.length:=by
 rcases vd S h with i|⟨f,c,_,d⟩
 ·omega
 ·have:=b f c;omega
theorem CV (n:Nat):El (V0 n)=true:=by
 rw[x5];intro c b;have b:c∈(EN<|toString ((n:Nat):Int)).cps.toList:=b;rw[JY]at b;obtain⟨d,hd,rfl⟩:=Ze.mp b;show d.val.toNat<1114112
 rcases d.valid with h|⟨_,h⟩
 ·exact Nat.lt_trans h (by decide)
 ·exact h
theorem CW {x y:Str}(d:El x=true)(e:El y=true):El (x++y)=true:=by
 rw[x5]at *;intro c b;rw[WY,ZG]at b;exact b.elim (d c)<|e c
theorem Km (xs:Da)(x:Str):(xs.map E9).any (fun y=>EG y<|.str x)=decide (x∈xs):=by
 induction xs with
 |nil=>rfl
 |cons y xs ih =>
  show((y==x)||(xs.map E9).any (fun y=>EG y<|.str x))=_;rw[ih,ZS,VI,Zt,Zt,Za,Jo];exact⟨fun h=>h.elim (fun z=>.inl z.symm) .inr,fun h=>h.elim (fun z=>.inl z.symm) .inr⟩
theorem OL {S:Dj}(nd:(S.map (·.d)).Nodup){e f:En}(j:e∈S)(l:f∈S)(h:e.d=f.d):e=f:=by
 induction S with
 |nil=>cases j
 |cons x S ih =>
  rw[ZJ,ZK]at nd
  rcases Za.mp j with i|c
  ·rcases Za.mp l with g|b
   ·rw[i,g]
   ·exact absurd (Ze.mpr ⟨f,b,by rw[←i];exact h.symm⟩) nd.1
  ·rcases Za.mp l with g|b
   ·exact absurd (Ze.mpr ⟨e,c,by rw[←g];exact h⟩) nd.1
   ·exact ih nd.2 c b
def Ex (H:Hp)(X:De):Prop:=∀c∈X,∃o,H c=some o
section
variable {P:Ek}{w:Ep}{K:Ca}{C:Ei}{H H' H0:Hp}{S:Dj}
theorem Wx.ex (h:Wx P w K C H a fp S):Ex H fp:=fun c b=>by
 obtain⟨o,e,_⟩:=h.Wh c b;exact⟨o,e⟩
theorem Wx.nodup (h:Wx P w K C H a fp S):fp.Nodup:=by
 obtain⟨_,_,_,_,_,_,_,_,nd,_⟩:=h;exact nd
end
theorem XU {b:Type}{l:List b}{i:Nat}{x:b}(nd:l.Nodup)(h:l[i]?=some x):x∉l.take i:=fun z=>by
 obtain⟨j,f,e⟩:=Z5.mp z;rw[Zz]at f;rw[List.getElem_take]at e;obtain⟨d,c⟩:=Z2.mp h;exact YY.mp nd j i (by omega) d (by omega)<|e.trans c.symm
def VZ (t:Th):Str:=t.letter++V0 (dg t.sp).toNat
def Il (S:Dj)(t:Th):En:=⟨VZ t,(WM S<|VZ t).getD 0,t.dat⟩
theorem Xp (t:Th):t.letter.length=1:=by rw[WW,jW];rfl
theorem BD (t:Th):46∉cs t.letter:=by
 rw[jW];cases t
 ·show 46∉[76];decide
 ·show 46∉[84];decide
 ·show 46∉[78];decide
theorem jB (t:Th):46∉cs (VZ t):=by
 unfold VZ;rw[WY,ZG,Jr];exact⟨BD t,fun h=>(PyProof.Rows.intText_free_46 _).mp h⟩
theorem jU (t:Th):(VZ t).length<=100:=by
 unfold VZ;have b:=B0 (n:=(dg t.sp).toNat) (by have:=XV t.sp;omega);rw[WQ,Xp];omega
theorem HK (t:Th):El t.letter=true:=by
 rw[x5,jW];intro c b;rw[Q8.mp b];cases t
 ·show 76<1114112;decide
 ·show 84<1114112;decide
 ·show 78<1114112;decide
theorem X1:∀{ls:Da},(∀l∈ls,El l=true)->yU (ls.map .str)=true/\xL (ls.map .str)=0
 |[],_=>⟨rfl,rfl⟩
 |l::ls,h=>by
  obtain⟨b,c⟩:=X1 fun x d=>h x<|Zi _ d;refine⟨?_,?_⟩
  ·show(El l&&yU (ls.map .str))=true;rw[h l Zj,b];rfl
  ·show max 0 (xL<|ls.map .str)=0;rw[c];rfl
theorem BK:∀{rs:Dh},(∀p∈zZ rs,El p=true)->yU (rs.map W5)=true/\xL (rs.map W5)<=1
 |[],_=>⟨rfl,ZA _⟩
 |(x,y)::rs,h=>by
  obtain⟨b,d⟩:=BK (rs:=rs) fun p c=>h p<|Zi _<|Zi _ c;refine⟨?_,?_⟩
  ·show((El x&&(El y&&true))&&yU (rs.map W5))=true;rw[h x Zj,h y<|Zi _ Zj,b];rfl
  ·show max (max 0 (max 0 0)+1) (xL<|rs.map W5)<=1;omega
theorem Fw {t:Th}(g:t.Good):Uo t.dat:=by
 have c:∀p∈t.parts,El p=true:=fun p e=>(g.2 p e).ok;cases t with
 |leaf ls =>
  obtain⟨b,d⟩:=X1 (ls:=ls) c;refine⟨?_,?_⟩
  ·show(El "leaf"&&(yU (ls.map .str)&&true))=true;rw[b];decide +kernel
  ·show max 0 (max (xL (ls.map .str)+1) 0)+1<=6;rw[d];decide
 |tree rs =>
  obtain⟨b,d⟩:=BK (rs:=rs) c;refine⟨?_,?_⟩
  ·show(El "tree"&&(yU (rs.map W5)&&true))=true;rw[b];decide +kernel
  ·show max 0 (max (xL (rs.map W5)+1) 0)+1<=6;omega
 |note x ps y =>
  have f:∀p∈ps,El p=true:=fun p e=>c p (by show p∈[x,dig ps.length]++ps++[y];simp[e]);have i:El x=true:=c x (by show x∈[x,dig ps.length]++ps++[y];simp);have j:El y=true:=c y (by show y∈[x,dig ps.length]++ps++[y];simp);obtain⟨b,d⟩:=X1 f;refine⟨?_,?_⟩
  ·show(El "note"&&(El x&&(yU (ps.map .str)&&(El y&&true))))=true;rw[b,i,j];decide +kernel
  ·show max 0 (max 0<|max (xL (ps.map .str)+1)<|max 0 0)+1<=6;rw[d];decide
theorem Gj {a b:Th}(h:a.dat=b.dat):a=b:=(FB a b).mp (by
 rw[h];exact(FB b b).mpr rfl)
def Uw (e:En):Prop:=∃t:Th,e.d=t.dat/\t.Good/\e.h=VZ t
def Hj (e:En):Str:=match e.d with|.tuple (.str x::_)=>x|_=>""
theorem M4 (t:Th)(h:Str)(n:Nat):Hj ⟨h,n,t.dat⟩=t.word:=by cases t<;>rfl
theorem j5 {e:En}{t:Th}(h:e.d=t.dat):Hj e=t.word:=by
 obtain⟨a,b,c⟩:=e;have h:c=t.dat:=h;subst h;exact M4 t a b
def zV (S:Dj)(x:Str)(b:Da):Bool:=S.any fun e=>decide (e.nm=x)&&decide (Hj e∈b)
def namesOk (S:Dj):Th->Bool
 | .leaf _=>true
 | .tree rows=>rows.all fun r=>zV S r.2 ["leaf","tree"]
 | .note t ps _=>zV S t ["tree"]&&ps.all fun p=>zV S p ["note"]
theorem Gh (g:Tp S){e:En}(d:e∈S)(n:Da):zV S e.nm n=decide (Hj e∈n):=by
 unfold zV;rw[ZS,ZP,Zt];constructor
 ·rintro⟨f,o,h⟩;rw[Zk,Zt,Zt]at h;obtain⟨i,p,b⟩:=Z5.mp d;obtain⟨j,q,c⟩:=Z5.mp o;have:i=j:=by
   have l:=YY.mp g.nn
   rcases JS i j with z|z|z
   ·exact absurd (by rw[ZX,ZX,b,c];exact h.1.symm) (l i j (by rwa[Q5]) (by rwa[Q5]) z)
   ·exact z
   ·exact absurd (by rw[ZX,ZX,b,c];exact h.1) (l j i (by rwa[Q5]) (by rwa[Q5]) z)
  subst this;rw[←b,c];exact h.2
 ·intro h;exact⟨e,d,by rw[Zc rfl,Zc h];rfl⟩
theorem Bh {S:Dj}{x:Str}(h:x∉S.map En.nm)(c:Da):zV S x c=false:=by
 unfold zV;rw[Vn];intro e b z;rw[Zk,Zt]at z;exact h<|Ze.mpr ⟨e,b,z.1⟩
theorem Uz {T:Dj}(h:zV S x ws=true):zV (S++T) x ws=true:=by
 unfold zV at *;rw[List.any_append,h];rfl
end An
namespace AxS
open PySem PySem.Spec PyProof.Rows
theorem U6 (t:Lp)(n:Nat):(t.orStandIn n).led=t.led/\(t.plain=false->(t.orStandIn n).plain=false):=by
 unfold SetTable.orStandIn
 split
 ·exact⟨rfl,id⟩
 ·exact⟨rfl,fun _=>rfl⟩
theorem Go (t:Lp)(es:Array<|Int×Ej)(h:Int)(x:Ej):(layNew t es h x).2.1.led=t.led/\(t.plain=false->(layNew t es h x).2.1.plain=false):=by
 unfold layNew
 split
 ·rename_i slot b _;have m:=U6 (t.put slot).1 (SetTable.insertAt es (t.put slot).2 (h,x)).size;exact⟨m.1,m.2⟩
 ·exact⟨rfl,fun _=>rfl⟩
theorem CM {d b c:Nat}{led plain:Bool}{hs:Array Int}{t:Lp}{o:Array Nat}(h:SetTable.laid d b c led plain hs=some (t,o)):t.led=led/\t.plain=plain:=by
 unfold SetTable.laid at h;simp only[Option.bind_eq_bind,Option.bind_eq_some_iff,Option.pure_def,Option.some.injEq,Prod.mk.injEq]at h;obtain⟨_,_,h,_⟩:=h;rw[←h];exact⟨rfl,rfl⟩
theorem X7 (t:Lp)(es:Array<|Int×Ej)(n:Nat):(relayAll t es n).2.1.led=t.led/\(t.plain=false->(relayAll t es n).2.1.plain=false):=by
 unfold relayAll
 split
 ·rename_i d b c;have m:=CM c;dsimp only
  split
  ·exact⟨m.1,fun z=>m.2.trans z⟩
  ·exact⟨rfl,fun _=>rfl⟩
 ·exact⟨rfl,fun _=>rfl⟩
def keyOf (e:Int×Ej):Str:=match e.2 with
 | .str k _=>k
 |_=>""
def Kl (prog:Ek)(w:Ep)(es:Array<|Int×Ej)(t:Lp)(ks:Da):Prop :=
 ElemsOf (strKind prog w) es.toList/\(es.toList.map keyOf).Perm ks/\es.size<Mm/\t.fits es.size=true/\t.led=!(w.params.followText "set-order")/\(es.size≠0->t.plain=false)
def Wi (prog:Ek)(w:Ep)(h:EC)(a:Ei)(ks:Da):Prop:=∃o b c t,h.get? a=some o/\o.ExactSet/\o.data=.set b c t/\Kl prog w b t ks
section
variable {prog:Ek}{w:Ep}{A:ED}{E:Ej->Di}{s:Eo}
theorem Wi.at {h':EC}(x:Wi prog w h a ks)(e:∀o,h.get? a=some o->h'.get? a=some o):Wi prog w h' a ks:=by
 obtain⟨o,c,b,t,d,r⟩:=x;exact⟨o,c,b,t,e _ d,r⟩
theorem key_is {es:Array (Int×Ej)}(h:ElemsOf (strKind prog w) es.toList){e:Int×Ej}(f:e∈es.toList)(k:Str):(strKind prog w).is k e.2=true↔keyOf e=k:=by
 obtain⟨⟨c,b,_⟩,_⟩:=h e f;obtain⟨t,d⟩:=Yr b;have ek:keyOf e=c:=by unfold keyOf;rw[d]
 constructor
 ·intro z;rw[ek];exact(strKind prog w).inj e.2 c k b z
 ·intro z;rwa[←z,ek]
theorem Br {es:Array (Int×Ej)}{ks:Da}(h:ElemsOf (strKind prog w) es.toList)(p:(es.toList.map keyOf).Perm ks)(k:Str):k∈ks↔∃e∈es.toList,(strKind prog w).is k e.2=true:=by
 rw[←p.mem_iff,Ze];exact⟨fun⟨e,b,z⟩=>⟨e,b,(key_is h b k).mpr z⟩,fun⟨e,b,z⟩=>⟨e,b,(key_is h b k).mp z⟩⟩
theorem Fo {es:Array (Int×Ej)}{t:Lp}{ks:Da}(x:Kl prog w es t ks):es.size=ks.length:=by
 rw[←x.2.1.length_eq,Q5,Zw]
theorem Pc {k:Str}{D:Tok}{Q:Bool->Di}(hS:Wi prog w s.heap a ks)(af:ks.length+1<Mm)
  (h:∀h' r,E6 a s.heap h'->Wi prog w h' a (if k∈ks then ks else ks++[k])->Q r { s with heap:=h' }) :
  Em (Et prog w) A (setAddHashed a (.str k D)<|hashStr w k) Q E s:=by
 obtain⟨o,y,Y,t,O,F,hd,X⟩:=hS;have Dp:=Fo X;obtain⟨l,T,hb,Z,n,ae⟩:=X;have Ed:(strKind prog w).is k (.str k D)=true:=by show E3 k (.str k D)=true;simp[E3]
 have I:(Ma k D).scannable=true:=rfl;have hh:hashStr w k=(strKind prog w).hash k:=rfl;rw[hh];unfold setAddHashed setAddHashedIn;refine ZV<|Q4<|Y2 O hd Z ?_;dsimp only;rw[byScan_of (knd:=strKind prog w) I hb l];simp only[↓reduceIte];unfold setAddByScan;refine Q4<|Q4<|Jq<|Q4<|wpAny_setScan_of (knd:=strKind prog w) Ed O hd Z l ?_;cases hr:List.findIdx? (fun e=>(strKind prog w).is k e.2) y.toList with
 |some j =>
  obtain⟨hj,ad,_⟩:=List.findIdx?_eq_some_iff_getElem.mp hr;have hk:k∈ks:=(Br l T k).mpr ⟨y.toList[j],Ja hj,ad⟩;have:=h s.heap false (Heap.SameBut.refl a s.heap) (by rw[Zp hk];exact⟨o,y,Y,t,O,F,hd,l,T,hb,Z,n,ae⟩);exact Q7<|Q7 this
 |none =>
  have hk:k∉ks:=fun z=>by
   obtain⟨e,he,q⟩:=(Br l T k).mp z;have:=List.findIdx?_eq_none_iff.mp hr e he;rw[q]at this;cases this
  rw[Zm hk]at h;have M:∀(b:Bool) {u:Eo} {U:Unit->Di},U () u->Em (Et prog w) A (match b with|true=>rule "set.scan.the-table-gave-way"|false=>Ln ()) U E u:=by
   intro b u U hq;cases b
   ·exact Q7 hq
   ·exact Jq hq
  have d:=layNew_perm t y ((strKind prog w).hash k)<|.str k D;have g:=layNew_fits t y ((strKind prog w).hash k)<|.str k D;have x:=Go t y ((strKind prog w).hash k)<|.str k D;dsimp only;generalize layNew t y ((strKind prog w).hash k) (.str k D)=L at d g x ⊢;obtain⟨c,t1,wd,ag⟩:=L;dsimp only at d g x ⊢;rw[Array.toList_push]at d;have ai:c.size=y.size+1:=by rw[←Zw,d.length_eq,ZD,Zw];rfl
  have B:ElemsOf (strKind prog w) c.toList:=(l.push Ed I).perm d;have P:(c.toList.map keyOf).Perm (ks++[k]):=by
   refine(d.map keyOf).trans ?_;rw[Zr];exact T.append<|List.Perm.refl _
  have K:c.size<scanBound:=by omega
  refine Q4<|M _ ?_;have C:∀(f:Lp),f.fits c.size=true->f.led=t.led->f.plain=false->Em (Et prog w) A (do
    storeSet a c f
    if(!wd&&f.tooFull)=true then do
      (match(relayAll f c<|Ly c.size).2.2 with|true=>rule "set.scan.the-table-gave-way"|false=>Ln ())
      storeSet a (relayAll f c<|Ly c.size).1 (relayAll f c<|Ly c.size).2.1
      Ln (some true)
     else Ln (some true)) (fun r s'=>r=some true/\Q true s') E s:=by
   intro f aa N R;refine Q4<|wpAny_storeSet_of O hd ?_<|fits_of_scanBound K;have S:=EQ s.heap a<|Mo c f;have H:(s.heap.update a<|Mo c f).get? a=some { o with data:=.set c (Y+1) f }:=by
    have:=ZM (Mo c f) O (by rw[putSet_of c f hd];rfl);rw[putSet_of c f hd]at this;exact this
   split
   ·have p:=relayAll_perm f c<|Ly c.size;have G:=relayAll_fits f c<|Ly c.size;have v:=X7 f c<|Ly c.size;generalize relayAll f c (Ly c.size)=Rl at p G v ⊢;obtain⟨i,J,gv⟩:=Rl;dsimp only at p G v ⊢;have ah:i.size=c.size:=by rw[←Zw,p.length_eq,Zw]
    refine Q4 (M _<|Q4<|wpAny_storeSet_of H rfl ?_<|fits_of_scanBound<|by omega);have ab:((s.heap.update a<|Mo c f).update a<|Mo i J).get? a=some { o with data:=.set i (Y+1+1) J }:=by
     have:=ZM (Mo i J) H (by rw[putSet_of i J rfl];rfl);rw[putSet_of i J rfl]at this;exact this
    exact Q7 ⟨rfl,h _ true (S.trans<|EQ _ a _) ⟨_,i,_,J,ab,F,rfl,B.perm p,((p.map keyOf)).trans P,by omega,G,v.1.trans<|N.trans n,fun _=>v.2 R⟩⟩
   ·exact Q7 ⟨rfl,h _ true S ⟨_,c,_,f,H,F,rfl,B,P,K,aa,N.trans n,fun _=>R⟩⟩
  split
  ·refine Q4 ?_;rw[hashByValue_scannable 8 I];refine Q7 ?_;refine Z3 (C { t1 with plain:=false } (SetTable.fits_plain_off g) x.1 rfl) (fun r s' q=>?_) fun _ _ z=>z;obtain⟨rfl,q⟩:=q;exact Q7 q
  ·rename_i ac;refine Q4<|Q7 ?_;simp only[↓reduceIte];refine Z3 (C t1 g x.1<|by simpa using ac) (fun r s' q=>?_) fun _ _ z=>z;obtain⟨rfl,q⟩:=q;exact Q7 q
def step (ks:Da)(k:Str):Da:=if k∈ks then ks else ks++[k]
def uniq (xs:Da):Da:=xs.foldl step []
theorem IN (xs:Da)(k:Str):uniq (xs++[k])=step (uniq xs) k:=by unfold uniq;rw[Vq];rfl
theorem MT (ks:Da)(k:Str):(step ks k).length<=ks.length+1:=by unfold step;split<;>simp
theorem zf:∀(n:Nat) (xs:Da),xs.length=n->(uniq xs).length<=n
 | 0,xs,h=>by rw[Jc h];exact Q9 _
 |n+1,xs,h=>by
  have b:xs≠[]:=fun z=>by rw[z]at h;cases h
  rw[←List.dropLast_concat_getLast b,IN];have:=zf n xs.dropLast (by rw[List.length_dropLast];omega);have:=MT (uniq xs.dropLast)<|xs.getLast b;omega
theorem Kf {xs:Da}{i:Nat}{k:Str}(h:xs[i]?=some k):uniq (xs.take<|i+1)=if k∈uniq (xs.take i) then uniq (xs.take i) else uniq (xs.take i)++[k]:=by
 have e:xs.take (i+1)=xs.take i++[k]:=by rw[Z4,h];rfl
 rw[e,IN];rfl
end
section
variable {prog:Ek}{w:Ep}{A:ED}{R:Result->Di}{I:Ei}{fp wr:De}{G:Array GenState->Array GenState->Prop}{n:Nat}{P:Nat->Ej->Prop}{St:Nat->Di}
theorem Hh (W:WalksS prog w A.in1 I fp wr G n P St)(S:Ei)(j:S∉fp)(xs:Da)(hn:xs.length=n)(y:∀i v,P i v->∃k t,xs[i]?=some k/\v=.str k t)(hb:n+1<Mm) :
  ∀(m i:Nat) (s:Eo),n-i=m->i<=n->St i s->Wi prog w s.heap S (uniq<|xs.take i) ->
   (∀s',Moved (S::wr) G s s'->Wi prog w s'.heap S (uniq xs)->R (.ok<|.ret .none) s')->Ls (Et prog w) A (.builtin "set.update.loop" ⟨[.ref S,.ref I],[]⟩) R s:=by
 have l:S∉wr:=fun h=>j<|W.sub _ h;have c:∀b∈wr,b∈S::wr:=fun b hb=>Zi _ hb;intro m
 induction m with
 |zero =>
  intro i s hk J d z B;have D:i=n:=by omega
  subst D;refine Yu JB ?_;rw[Lq YJ _];show Em _ A.in1 (Lu (.ref I)>>=_) _ _ s;refine Q4<|W.done s _ _ d fun s' hm=>?_;show Em _ A.in1 (ret EA) _ _ s';rw[←hn,ZI]at z;exact Q7<|B s' (hm.mono c)<|z.at fun o e=>hm.heap S _ l e
 |succ m ih =>
  intro i s hk J d z B;have p:i<n:=by omega
  refine Yu JB ?_;rw[Lq YJ _];show Em _ A.in1 (Lu (.ref I)>>=_) _ _ s;refine Q4<|W.item i s _ _ p d fun v s' H x hm=>?_;obtain⟨k,t,E,rfl⟩:=y i v H;have C:=z.at (h':=s'.heap) fun o e=>hm.heap S _ l e;show Em _ A.in1 (Mp [Ma k t] (setAdd S<|.str k t)>>=_) _ _ s';refine Q4<|ZV ?_;unfold setAdd;refine ZV ?_;refine Q4 ((strKind prog w).pyHash (k:=k) (by show E3 k (.str k t)=true;simp[E3]) ?_);have hl:=zf _ (xs.take i) rfl;rw[Zz]at hl;refine Pc (s:={ s' with toks:=s'.toks+1 }) C (by omega) fun h' r u g=>?_;rw[←Kf E]at g;refine Q7 ⟨Vw YJ _,ih (i+1) _ (by omega) p (W.frame _ s' _ _ x (Ym _) fun b hb o e=>?_) g fun F q f=>?_⟩
  ·rw[u.2 b (fun h:b=S=>j<|by rwa[←h])];exact e
  ·refine B F (Moved.trans W.gtrans ((hm.mono c).then_heap (Ym _) fun b o hb e=>?_) q) f;rw[u.2 b (fun h:b=S=>hb (by rw[h];exact Zj))];exact e
end
section
variable {prog:Ek}{w:Ep}{A:ED}{E:Ej->Di}{s:Eo}
def zX (w:Ep):Obj:={ cls:=.type "set",dict:=none,data:=.set #[] 0 (.fresh 0 0<|!(w.params.followText "set-order")) }
theorem Bs {h:EC}{a:Ei}{xs:Da}(e:h.get? a=some (zX w)):Wi prog w h a (uniq<|xs.take 0) :=
 ⟨_,#[],0,_,e,⟨rfl,rfl,rfl⟩,rfl,fun _ z=>by simp at z,List.Perm.refl _,by decide,by rfl,rfl,fun z=>absurd rfl z⟩
theorem F3 (a:Ej){Q₁:Ej->Di}(h:Q₁ (.ref s.heap.objs.size) { s with heap:=s.heap.push (zX w) }) :
  Ls (Et prog w) A (.call (.builtin "set.__new__") ⟨[.type "set",a],[]⟩) (wants Q₁ E) s:=by
 refine VJ ?_;show Em _ A.in1 (do checkBuiltinCall "set.__new__" ⟨[.type "set",a],[]⟩;again (.builtin "set.__new__" ⟨[.type "set",a],[]⟩)) _ _ s;refine Q4<|YC (F.newCall_set_1 a)<|Q7 ⟨Vw F.plain_set_new _,Yu F.entry_set_new ?_⟩;rw[Lq F.plain_set_new _];unfold Builtin.«set.__new__» Builtin.Frozenset.newClass;have b:=sub_set_self;obtain⟨c,g,d,e,os⟩:=s;dsimp only
 wp_walk
 refine Jb<|Q7 ?_;dsimp only;simp only[newObj];refine Q4<|wpAny_alloc<|Q7 ?_;exact Q7 h
theorem sub_list_set:isSubtype (.type "list") (.type "set")=Ln false:=by rw[YT];kernel_rfl
theorem sub_list_frozenset:isSubtype (.type "list") (.type "frozenset")=Ln false:=by rw[YT];kernel_rfl
theorem sub_tuple_set:isSubtype (.type "tuple") (.type "set")=Ln false:=by rw[YT];kernel_rfl
theorem sub_tuple_frozenset:isSubtype (.type "tuple") (.type "frozenset")=Ln false:=by rw[YT];kernel_rfl
end
section
variable {M:Model}{A:ED}{E:Ej->Di}{s:Eo}
theorem Gs {src:Source}{n:Nat}{Q:Nat->Di}(hn:n≠0)(h:∀i,i<n->Q i { s with drawn:=s.drawn.bump src }):Em M A (choose src n) Q E s :=
 fun b p _=>⟨hn,h _<|Nat.mod_lt _<|Nat.pos_of_ne_zero hn⟩
theorem Xm {b:Type}{xs:List b}{i:Nat}{x:b}(h:xs[i]?=some x):(x::xs.eraseIdx i).Perm xs:=by
 induction xs generalizing i with
 |nil=>cases h
 |cons y ys ih =>
  cases i with
  |zero =>
   have h:y=x:=Option.some.inj h;subst h;exact List.Perm.refl _
  |succ i =>
   have h:ys[i]?=some x:=by simpa using h
   show(x::y::ys.eraseIdx i).Perm (y::ys);exact(List.Perm.swap y x _).trans (List.Perm.cons y<|ih h)
theorem qS {f:Type}:∀(n:Nat) (xs:List f) (s:Eo) {Q:List f->Di},xs.length<=n->(∀ys d,ys.Perm xs->Q ys { s with drawn:=d })->Em M A (drawOrder n xs) Q E s
 | 0,xs,s,Q,hl,h=>by
  have e:xs=[]:=Jc (by omega);subst e;exact Q7<|h [] s.drawn<|List.Perm.refl _
 |n+1,[],s,Q,hl,h=>Q7<|h [] s.drawn<|List.Perm.refl _
 |n+1,x::xs,s,Q,hl,h=>by
  refine Q4 (Gs (by simp) fun i b=>?_);have c:(x::xs)[i]?=some ((x::xs)[i]):=Zh b;have g:=Xm c;show Em M A (match(x::xs)[i]? with|some x_1=>_|none=>_) Q E _;rw[c];refine Q4 (qS n _ _ (by rw[List.length_eraseIdx_of_lt b];simp at hl ⊢;omega) fun ys d j=>?_);exact Q7<|h _ d<|(List.Perm.cons _ j).trans g
theorem FT {d:Type}(next:Nat->Nat):∀(fuel k:Nat) (left:List d) (out:Array d),left.length=fuel->(pickOrder.go next fuel k left out).toList.Perm (out.toList++left)
 | 0,k,left,out,h=>by
  rw[Jc h,YG];exact List.Perm.refl _
 |fuel+1,k,left,out,h=>by
  unfold pickOrder.go;have b:next k % left.length<left.length:=Nat.mod_lt _ (by omega);have c:left[next k % left.length]?=some (left[next k % left.length]):=Zh b;rw[c];refine(FT next fuel (k+1) _ _ (by rw[List.length_eraseIdx_of_lt b];omega)).trans ?_;rw[Array.toList_push,Y1];exact List.Perm.append_left _<|Xm c
theorem UB {b:Type}(next:Nat->Nat)(xs:Array b):(LX next xs).toList.Perm xs.toList:=by
 have:=FT next xs.size 0 xs.toList #[] (by simp);simpa[LX] using this
end
section
variable {prog:Ek}{w:Ep}{A:ED}{E:Ej->Di}{s:Eo}
def byText (w:Ep):Bool:=w.params.followText "set-order"
theorem X5 {a:Ei}{o:Obj}{es:Array (Int×Ej)}{ep:Nat}{t:Lp}{Q:Bool->Di}(c:s.heap.get? a=some o)(hd:o.data=.set es ep t)(b:t.fits es.size=true)
  (h:Q (!byText w&&(!t.plain&&decide (es.size>1))) s):Em (Et prog w) A (setDrawn a) Q E s:=by
 unfold setDrawn setsByText;refine Q4<|Y2 c hd b ?_;refine Q4<|Q4<|Jb<|Q7 ?_;exact Q7 h
theorem CC:entryFor table "set.__iter__"=some Builtin.«frozenset.__iter__» :=
 entryFor_alias (id':="frozenset.__iter__") (by kernel_rfl) (by first|rfl|decide +kernel|(unfold String.splitOn;simp +decide [String.splitOnAux])) (by decide +kernel) (by kernel_rfl)
theorem Bu:Manifest.owners.lookup (String.ofList ['r','o','t','a','r','e','t','i','_','t','e','s'].reverse)=some Manifest.sig_set_iterator:=by kernel_rfl
theorem slot_next:Slot "set_iterator" "__next__" "set_iterator.__next__" :=
 .of (owner:="set_iterator") (n:="__next__") (by rw[typeLookup_type,builtinLookup_eq_fast];kernel_rfl) (by decide +kernel) (by decide +kernel) (by decide +kernel)
  (by first|exact .inl (by decide +kernel)|exact .inr (by decide +kernel)) (by rw[YT];kernel_rfl)
theorem entry_next:entryFor table "set_iterator.__next__"=some Builtin.«set_iterator.__next__»:=entryFor_of_tree (by kernel_rfl)
theorem args_next (a:Ej):argsOk "set_iterator.__next__" ⟨[a],[]⟩:=by
 unfold argsOk;rw[signature?_of (id:="set_iterator.__next__") (n:=['_','_','t','x','e','n','_','_']) (o:=['r','o','t','a','r','e','t','i','_','t','e','s']) (by kernel_rfl) Bu];kernel_rfl
theorem UV:Slot "set_iterator" "__iter__" "set_iterator.__iter__" :=
 .of (owner:="set_iterator") (n:="__iter__") (by rw[typeLookup_type,builtinLookup_eq_fast];kernel_rfl) (by decide +kernel) (by decide +kernel) (by decide +kernel)
  (by first|exact .inl (by decide +kernel)|exact .inr (by decide +kernel)) (by rw[YT];kernel_rfl)
theorem BF (a:Ej):argsOk "set_iterator.__iter__" ⟨[a],[]⟩:=by
 unfold argsOk;rw[signature?_of (id:="set_iterator.__iter__") (n:=['_','_','r','e','t','i','_','_']) (o:=['r','o','t','a','r','e','t','i','_','t','e','s']) (by kernel_rfl) Bu];kernel_rfl
theorem GB:entryFor table "set_iterator.__iter__"=some Builtin.«dict_keyiterator.__iter__» :=
 entryFor_alias (id':="dict_keyiterator.__iter__") (by kernel_rfl) (by first|rfl|decide +kernel|(unfold String.splitOn;simp +decide [String.splitOnAux])) (by decide +kernel) (by kernel_rfl)
def FG (first:Ej)(i:Int)(a:Ei)(n ep:Nat):Obj:={ cls:=.type "set_iterator",data:=.fields #[first,EU i,.ref a,EU n,EU ep] }
theorem KI {a:Ei}{o:Obj}{es:Array (Int×Ej)}{ep:Nat}{t:Lp}{Q:Ej->Di}(b:s.heap.get? a=some o)(p:o.ExactSet)(hd:o.data=.set es ep t)(c:t.fits es.size=true)(hz:es.size<=1000)
  (l:(!byText w&&(!t.plain&&decide (es.size>1)))=false->Q (.ref s.heap.objs.size) { s with heap:=s.heap.push (FG (EU 0) 0 a es.size ep) })
  (n:(!byText w&&(!t.plain&&decide (es.size>1)))=true->∀(ps:List Nat) d tk,ps.Perm (EX es.size)->Q (.ref<|s.heap.objs.size+1) { s with heap:=(s.heap.push { cls:=.type "tuple",data:=.seq (ps.map fun i=>EU (i:Nat)).toArray }).push (FG (.ref s.heap.objs.size) 0 a es.size ep),drawn:=d,toks:=tk }) :
  Em (Et prog w) A (Mq<|.ref a) Q E s:=by
 have g:s.TypeIs (.ref a) "set":=⟨o,b,p.1⟩;refine Vr g PySem.F.slot_set_iter<|ZO PySem.F.slot_set_iter g CC ?_<|PySem.F.args_set_iter_1 _;unfold Builtin.«frozenset.__iter__»;refine Q4 (m:=Builtin.Frozenset.slot0 _ _)<|YC (a:=a) rfl ?_;unfold Builtin.Frozenset.sizeOf;refine Q4<|Q4<|Y6 b hd c<|Q7 ?_;refine Q4<|X5 b hd c ?_;cases q:(!byText w&&(!t.plain&&decide (es.size>1))) with
 |false =>
  rw[Zm<|by decide];refine Q4<|Q7<|Q4<|wpAny_setEpoch_of b hd c ?_;simp only[newFields];refine Q4<|Zx ?_;exact Q7 ⟨_,rfl,"set_iterator",_,⟨_,Zb _ rfl,rfl⟩,slot_next.lookup,l q⟩
 |true =>
  rw[Zp rfl];refine Q4 (qS es.size (EX es.size) s (by rw[YE];exact Q9 _) fun ps d j=>?_);have r:ps.length=es.size:=by rw[j.length_eq,YE]
  simp only[newTuple];refine Q4<|Zx ?_ ?_
  ·have f:(s.heap.push { cls:=.type "tuple",data:=.seq (ps.map fun i=>EU (i:Nat)).toArray }).get? a=some o:=Q6 _ b;refine Q4<|wpAny_setEpoch_of (s:={ s with heap:=s.heap.push { cls:=.type "tuple",data:=.seq (ps.map fun i=>EU (i:Nat)).toArray },drawn:=d }) f hd c ?_;simp only[newFields];refine Q4<|Zx ?_;have e:(s.heap.push { cls:=.type "tuple",data:=.seq (ps.map fun i=>EU (i:Nat)).toArray }).objs.size=s.heap.objs.size+1:=Z8 _ _;refine Q7 ⟨_,rfl,"set_iterator",_,⟨_,Zb _ rfl,rfl⟩,slot_next.lookup,?_⟩;have:=n q ps d s.toks j;rw[←e]at this;exact this
  ·show(ps.map fun i=>EU (i:Nat)).toArray.size<=sizeLine;rw[Zn,Q5,r,Ya];omega
theorem xS {it:Ei}(h:s.heap.get? it=some (FG f i a n ep)):s.TypeIs (.ref it) "set_iterator":=⟨_,h,rfl⟩
theorem IC {it a:Ei}{o:Obj}{es:Array (Int×Ej)}{ep:Nat}{t:Lp}{slot i D3:Nat}{x:Ej}{Q:Dc->Di}(b:s.heap.get? it=some (FG (EU slot) i a es.size ep))(g:a≠it)(j:s.heap.get? a=some o)(hd:o.data=.set es ep t)(f:t.fits es.size=true)
  (hn:∀(A:ED) (E:Ej->Di) (Q:Option (Ej×Nat)->Di),Q (some (x,D3)) s->Em (Et prog w) A (setNext a slot i ep) Q E s)
  (h:∀h',h'.get? it=some (FG (EU D3) (i+1) a es.size ep)->E6 it s.heap h'->Q (some x) { s with heap:=h' }):Em (Et prog w) A (Lu<|.ref it) Q E s:=by
 unfold Lu;refine Q4<|YM<|Z1 (name:=EN "__next__") (xS b) slot_next<|ZO slot_next (xS b) entry_next ?_<|args_next _
 unfold Builtin.«set_iterator.__next__»;refine Q4<|YC (a:=(Ev it,[])) rfl ?_;refine Q4<|JU b rfl ?_;show Em _ _ (setEntries a>>=_) _ _ s;refine Q4<|Y6 j hd f ?_;have d:(((es.size:Nat):Int) !=((es.size:Nat):Int))=false:=by simp
 rw[Zm (by rw[d];decide)];show Em _ _ (setNext a slot i ep>>=_) _ _ s;refine Q4<|hn _ _ _ ?_;show Em _ _ (setField (.ref it) 0 (EU D3)>>=_) _ _ s;refine Q4 (Yb b rfl (by simp) ?_);have c:=ZM (E2 (·.setIfInBounds 0 (EU (D3:Nat)))) b rfl;refine Q4 (Yb c rfl (by simp) ?_);have e:=ZM (E2 (·.setIfInBounds 1 (EU<|(i:Int)+1))) c rfl;exact Q7 ⟨x,rfl,Q7<|h _ e<|(EQ ..).trans<|EQ ..⟩
theorem j3 {it a:Ei}{o:Obj}{es:Array (Int×Ej)}{ep:Nat}{t:Lp}{slot i:Nat}{Q:Dc->Di}(d:A.handled=none)(c:s.heap.get? it=some (FG (EU slot) i a es.size ep))(g:s.heap.get? a=some o)(hd:o.data=.set es ep t)(f:t.fits es.size=true)
  (hn:∀(A:ED) (E:Ej->Di) (Q:Option (Ej×Nat)->Di),Q none s->Em (Et prog w) A (setNext a slot i ep) Q E s)
  (h:∀h',Mf it s.heap h'->Q none { s with heap:=h' }):Em (Et prog w) A (Lu<|.ref it) Q E s:=by
 unfold Lu;refine Q4<|YM<|Z1 (name:=EN "__next__") (xS c) slot_next<|ZO slot_next (xS c) entry_next ?_<|args_next _
 unfold Builtin.«set_iterator.__next__»;refine Q4<|YC (a:=(Ev it,[])) rfl ?_;refine Q4<|JU c rfl ?_;show Em _ _ (setEntries a>>=_) _ _ s;refine Q4<|Y6 g hd f ?_;have e:(((es.size:Nat):Int) !=((es.size:Nat):Int))=false:=by simp
 rw[Zm (by rw[e];decide)];show Em _ _ (setNext a slot i ep>>=_) _ _ s;refine Q4<|hn _ _ _ ?_;show Em _ _ (setField (.ref it) 2 .none>>=_) _ _ s;refine Q4 (Yb c rfl (by simp) ?_);refine Q4 ?_;simp only[newExc,newTuple];refine Q4 (Zx ?_<|by size_fits);refine Q4 (m:=La _ _) (YC (a:=EA) (by first|rfl|(simp only[La];rfl)) ?_);refine Zx ?_ (by size_fits);simp only[raiseNew];refine Q4<|Vx ?_
 first|rw[show A.in1.handled=none from d]|rw[d]
 refine Q4<|Q7<|VN ?_;refine Q4<|Yx (T:="StopIteration") (b:=true) ⟨_,Zb _ rfl,rfl⟩ JV ?_;refine Q7<|h _ ?_;refine((Heap.ExtBut.push ?_ _).push _);exact(EQ ..).extBut
def N2 (ps:List Nat):Obj:={ cls:=.type "tuple",data:=.seq (ps.map fun i=>EU (i:Nat)).toArray }
theorem CT {it a u:Ei}{o:Obj}{es:Array (Int×Ej)}{ep:Nat}{t:Lp}{i p:Nat}{ps:List Nat}{e:Int×Ej}{Q:Dc->Di}(b:s.heap.get? it=some (FG (.ref u) i a es.size ep))(r:s.heap.get? u=some (N2 ps))(f:s.heap.get? a=some o)(hd:o.data=.set es ep t)(d:t.fits es.size=true)
  (q:ps[i]?=some p) (n:es[p]?=some e) (h:∀h',h'.get? it=some (FG (.ref u) (i+1) a es.size ep)->E6 it s.heap h'->Q (some e.2) { s with heap:=h' }):Em (Et prog w) A (Lu<|.ref it) Q E s:=by
 unfold Lu;refine Q4<|YM<|Z1 (name:=EN "__next__") (xS b) slot_next<|ZO slot_next (xS b) entry_next ?_<|args_next _
 unfold Builtin.«set_iterator.__next__»;refine Q4<|YC (a:=(Ev it,[])) rfl ?_;refine Q4<|JU b rfl ?_;show Em _ _ (setEntries a>>=_) _ _ s;refine Q4<|Y6 f hd d ?_;have g:(((es.size:Nat):Int) !=((es.size:Nat):Int))=false:=by simp
 rw[Zm (by rw[g];decide)];show Em _ _ (seqItems? (.ref u)>>=_) _ _ s;refine Q4<|JR r rfl ?_;have c:(ps.map fun i=>EU ((i:Nat):Int)).toArray[i]?=some (EU (p:Nat)):=by
  rw[Jl,Zo,q];rfl
 show Em _ _ (match(ps.map fun i=>EU ((i:Nat):Int)).toArray[i]? with|some (.int place _)=>_|some _=>_|none=>_) _ _ s;rw[c];show Em _ _ (setNextDrawn a p ep>>=_) _ _ s;unfold setNextDrawn;refine Q4<|Q4<|Y2 f hd d ?_;have j:(ep !=ep)=false:=by simp
 dsimp only;rw[Zm (by rw[j];decide)];rw[n];refine Q7 ?_;show Em _ _ (setField (.ref it) 1 (EU<|(i:Int)+1)>>=_) _ _ s;refine Q4 (Yb b rfl (by simp) ?_);have l:=ZM (E2 (·.setIfInBounds 1 (EU<|(i:Int)+1))) b rfl;exact Q7 ⟨e.2,rfl,Q7<|h _ l<|EQ ..⟩
theorem Ig {it a u:Ei}{o:Obj}{es:Array (Int×Ej)}{ep:Nat}{t:Lp}{i:Nat}{ps:List Nat}{Q:Dc->Di}(e:A.handled=none)(c:s.heap.get? it=some (FG (.ref u) i a es.size ep))(p:s.heap.get? u=some (N2 ps))(l:s.heap.get? a=some o)(hd:o.data=.set es ep t)(j:t.fits es.size=true)
  (n:ps[i]?=none) (h:∀h',Mf it s.heap h'->Q none { s with heap:=h' }):Em (Et prog w) A (Lu<|.ref it) Q E s:=by
 unfold Lu;refine Q4<|YM<|Z1 (name:=EN "__next__") (xS c) slot_next<|ZO slot_next (xS c) entry_next ?_<|args_next _
 unfold Builtin.«set_iterator.__next__»;refine Q4<|YC (a:=(Ev it,[])) rfl ?_;refine Q4<|JU c rfl ?_;show Em _ _ (setEntries a>>=_) _ _ s;refine Q4<|Y6 l hd j ?_;have f:(((es.size:Nat):Int) !=((es.size:Nat):Int))=false:=by simp
 rw[Zm (by rw[f];decide)];show Em _ _ (seqItems? (.ref u)>>=_) _ _ s;refine Q4<|JR p rfl ?_;have d:(ps.map fun i=>EU ((i:Nat):Int)).toArray[i]?=none:=by
  rw[Jl,Zo,n];rfl
 show Em _ _ (match(ps.map fun i=>EU ((i:Nat):Int)).toArray[i]? with|some (.int place _)=>_|some _=>_|none=>_) _ _ s;rw[d];show Em _ _ (setField (.ref it) 0 (EU 0)>>=_) _ _ s;refine Q4 (Yb c rfl (by simp) ?_);have g:=ZM (E2 (·.setIfInBounds 0 (EU 0))) c rfl;refine Q4 (Yb g rfl (by simp) ?_);refine Q4 ?_;simp only[newExc,newTuple];refine Q4 (Zx ?_<|by size_fits);refine Q4 (m:=La _ _) (YC (a:=EA) (by first|rfl|(simp only[La];rfl)) ?_);refine Zx ?_ (by size_fits);simp only[raiseNew];refine Q4<|Vx ?_
 first|rw[show A.in1.handled=none from e]|rw[e]
 refine Q4<|Q7<|VN ?_;refine Q4<|Yx (T:="StopIteration") (b:=true) ⟨_,Zb _ rfl,rfl⟩ JV ?_;refine Q7<|h _ ?_;refine((Heap.ExtBut.push ?_ _).push _);exact((EQ ..).trans<|EQ ..).extBut
end
section
variable {prog:Ek}{w:Ep}{A:ED}{E:Ej->Di}{s:Eo}{a:Ei}{o:Obj}{es:Array (Int×Ej)}{ep:Nat}{t:Lp}
theorem kM {slot i:Nat}{Q:Option (Ej×Nat)->Di}(hb:byText w=true)(d:s.heap.get? a=some o)(hd:o.data=.set es ep t)(c:t.fits es.size=true)
  (h:Q (((LX (w.params.setOrder a ep) es)[i]?).map fun e=>(e.2,slot)) s):Em (Et prog w) A (setNext a slot i ep) Q E s:=by
 have b:(Setting.mk (Et prog w).prog (Et prog w).w.params).params.followText "set-order"=true:=hb;unfold setNext setsByText;refine Q4<|Y2 d hd c ?_;refine Q4<|Q4<|Jb<|Q7 ?_;dsimp only;rw[Zp b];have f:(ep !=ep)=false:=by simp
 rw[Zm (by rw[f];decide)];unfold setWalk setsByText;refine Q4<|Q4<|Y2 d hd c ?_;refine Q4<|Q4<|Jb<|Q7 ?_;dsimp only;rw[Zp b];refine Q4<|Jb ?_;exact Q7<|Q7 h
theorem U3 {slot i:Nat}{Q:Option (Ej×Nat)->Di}(hb:byText w=false)(hl:t.led=true)(g:es.size<=1)(f:s.heap.get? a=some o)(hd:o.data=.set es ep t)(e:t.fits es.size=true)
  (h:Q (match es[Lb t.place slot]?,t.place[Lb t.place slot]? with|some (_,x),some j=>some (x,j+1)|_,_=>none) s):Em (Et prog w) A (setNext a slot i ep) Q E s:=by
 have b:(Setting.mk (Et prog w).prog (Et prog w).w.params).params.followText "set-order"=false:=hb;have c:(!t.plain&&decide (es.size>1))=false:=by rw[Zg<|by omega,Js]
 have d:(!t.led&&!es.isEmpty)=false:=by rw[hl];rfl
 unfold setNext setsByText;refine Q4<|Y2 f hd e ?_;refine Q4<|Q4<|Jb<|Q7 ?_;dsimp only;rw[Zm (by rw[b];decide)];refine Q4<|Q7 ?_;show Em _ _ (if(!t.plain&&decide (es.size>1))=true then _ else _) _ _ _;rw[Zm (by rw[c];decide)];refine Q4 ?_;show Em _ _ (if(!t.led&&!es.isEmpty)=true then _ else _) _ _ _;rw[Zm (by rw[d];decide)];exact Q7<|Q7 h
theorem Gy {it:Ei}{Q:Ej->Di}(b:s.heap.get? it=some (FG f i a n ep))(h:Q (.ref it) s):Em (Et prog w) A (Mq<|.ref it) Q E s:=by
 refine Vr (xS b) UV<|ZO UV (xS b) GB ?_<|BF _;show Em _ _ (ret<|.ref it) _ _ s;exact Q7 ⟨_,rfl,"set_iterator",_,xS b,slot_next.lookup,h⟩
theorem Rh (u:A.handled=none)(I:Ei)(c:a≠I)(hb:byText w=true)(hd:o.data=.set es ep t)(d:t.fits es.size=true) :
  Walks prog w A I [I,a] [I] es.size (fun i v=>((LX (w.params.setOrder a ep) es).toList.map (·.2))[i]?=some v) (fun i h=>h.get? I=some (FG (EU (0:Nat)) (i:Nat) a es.size ep)/\h.get? a=some o) where
 sub:=fun b hb=>by simp at hb;simp[hb]
 frame:=fun _ _ _ st hk=>⟨hk I (by simp) _ st.1,hk a (by simp) _ st.2⟩
 item:=fun i s Q E y st g=>by
  have hl:(LX (w.params.setOrder a ep) es).toList.length=es.size:=by rw[(UB _ es).length_eq,Zw]
  have j:(LX (w.params.setOrder a ep) es).toList[i]?=some ((LX (w.params.setOrder a ep) es).toList[i]'(by omega)):=Zh (by omega);generalize (LX (w.params.setOrder a ep) es).toList[i]'(by omega)=e at j;refine IC (slot:=0) (D3:=0) (x:=e.2) st.1 c st.2 hd d (fun A E Q q=>kM hb st.2 hd d ?_) fun f r n=>?_
  ·rwa[←Z6,j]
  ·exact g _ f s.toks (by rw[Zo,j];rfl) ⟨r,(n.2 a c).trans st.2⟩ fun b l hb e=>(n.2 b<|by simpa using hb).trans e
 done:=fun s Q E st g=>by
  have hl:(LX (w.params.setOrder a ep) es).toList.length=es.size:=by rw[(UB _ es).length_eq,Zw]
  refine j3 (slot:=0) u st.1 st.2 hd d (fun A E Q q=>kM hb st.2 hd d ?_) fun f p=>g f s.toks fun b l hb e=>p b l (by simpa using hb) e;rwa[←Z6,ZN<|by omega]
 self:=fun _ _ _ _ st h=>Gy st.1 h
theorem Rj (H:A.handled=none)(I u:Ei)(n:a≠I)(r:u≠I)(ps:List Nat)(f:ps.Perm<|EX es.size)(hd:o.data=.set es ep t)(C:t.fits es.size=true) :
  Walks prog w A I [I,a,u] [I] es.size (fun i v=>(ps.filterMap fun p=>(es[p]?).map (·.2))[i]?=some v) (fun i h=>h.get? I=some (FG (.ref u) (i:Nat) a es.size ep)/\h.get? a=some o/\h.get? u=some (N2 ps)) where
 sub:=fun b hb=>by simp at hb;simp[hb]
 frame:=fun _ _ _ st hk=>⟨hk I (by simp) _ st.1,hk a (by simp) _ st.2.1,hk u (by simp) _ st.2.2⟩
 item:=fun i s Q E K st l=>by
  have hl:ps.length=es.size:=by rw[f.length_eq,YE]
  have d:ps[i]?=some (ps[i]'(by omega)):=Zh (by omega);have hm:ps[i]'(by omega)<es.size:=Vg.mp<|f.mem_iff.mp<|Ja _;have B:es[ps[i]'(by omega)]?=some (es[ps[i]'(by omega)]'hm):=Yh hm;have all:ps.filterMap (fun p=>(es[p]?).map (·.2))=ps.map fun p=>(((es[p]?).map (·.2)).getD .none):=by
   have:∀c:List Nat,(∀q∈c,q<es.size)->c.filterMap (fun p=>(es[p]?).map (·.2))=c.map fun p=>(((es[p]?).map (·.2)).getD .none):=fun c=>by
    induction c with
    |nil=>intro _;rfl
    |cons q c ih =>
     intro g;have x:es[q]?=some (es[q]'(g q Zj)):=Yh _;rw[Jz,ZJ,x];simp only[Jj,J2];rw[ih fun z J=>g z<|Zi _ J]
   exact this ps fun q g=>Vg.mp<|f.mem_iff.mp g
  refine CT st.1 st.2.2 st.2.1 hd C d B fun j G y=>?_;refine l _ j s.toks ?_ ⟨G,(y.2 a n).trans st.2.1,(y.2 u r).trans st.2.2⟩ fun b D hb e=>(y.2 b<|by simpa using hb).trans e;rw[all,Zo,d];simp only[Jj,B,J2]
 done:=fun s Q E st l=>by
  have hl:ps.length=es.size:=by rw[f.length_eq,YE]
  exact Ig H st.1 st.2.2 st.2.1 hd C (ZN<|by omega) fun j F=>l j s.toks fun b D hb e=>F b D (by simpa using hb) e
 self:=fun _ _ _ _ st h=>Gy st.1 h
theorem Xi (xs:Array Nat)(h:xs.size<=1):Lb xs 0=0:=by
 unfold Lb;have b:xs.size=0\/xs.size=1:=by omega
 rcases b with e|e
 ·rw[e];rfl
 ·rw[e];unfold SetTable.below.go;rw[Zp<|by decide];show(if xs.getD 0 0<0 then _ else _)=_;rw[Zm<|by omega];rfl
theorem Hk (xs:Array Nat)(h:xs.size=1):Lb xs (xs.getD 0 0+1)=1:=by
 unfold Lb;rw[h];unfold SetTable.below.go;rw[Zp<|by decide];show(if xs.getD 0 (xs.getD 0 0+1)<xs.getD 0 0+1 then _ else _)=_;have e:∀d,xs.getD 0 d=xs[0]'(by omega):=fun d=>by
  rw[ZL,Yh<|by omega];rfl
 rw[e,e,Zp<|by omega];rfl
def uV (t:Lp):Nat->Nat
 | 0=>0
 |_+1=>t.place.getD 0 0+1
theorem Ri (F:A.handled=none)(I:Ei)(d:a≠I)(hb:byText w=false)(hl:t.led=true)(f:es.size<=1)(hd:o.data=.set es ep t)(c:t.fits es.size=true) :
  Walks prog w A I [I,a] [I] es.size (fun i v=>(es.toList.map (·.2))[i]?=some v) (fun i h=>h.get? I=some (FG (EU ((uV t i:Nat):Int)) (i:Nat) a es.size ep)/\h.get? a=some o) where
 sub:=fun b hb=>by simp at hb;simp[hb]
 frame:=fun _ _ _ st hk=>⟨hk I (by simp) _ st.1,hk a (by simp) _ st.2⟩
 item:=fun i s Q E p st l=>by
  have G:i=0:=by omega
  subst G;have r:t.place.size=es.size:=by
   unfold SetTable.fits at c;rw[Zk]at c;exact YZ c.1
  have u:es[0]?=some (es[0]'p):=Yh p;have y:t.place[0]?=some (t.place[0]'(by omega)):=Yh (by omega);have n:t.place.getD 0 0=t.place[0]'(by omega):=by rw[ZL,y];rfl
  refine IC (slot:=0) (D3:=t.place.getD 0 0+1) (x:=(es[0]'p).2) st.1 d st.2 hd c (fun A E Q q=>U3 hb hl f st.2 hd c ?_) fun g f B=>?_
  ·rwa[Xi _<|by omega,u,y,←n]
  ·refine l _ g s.toks ?_ ⟨f,(B.2 a d).trans st.2⟩ fun b z hb e=>(B.2 b<|by simpa using hb).trans e;rw[Zo,Z6,u];rfl
 done:=fun s Q E st l=>by
  have r:t.place.size=es.size:=by
   unfold SetTable.fits at c;rw[Zk]at c;exact YZ c.1
  refine j3 (slot:=uV t es.size) F st.1 st.2 hd c (fun A E Q q=>U3 hb hl f st.2 hd c ?_) fun g C=>l g s.toks fun b z hb e=>C b z (by simpa using hb) e;have D:es.size=0\/es.size=1:=by omega
  rcases D with e|e
  ·rw[e];show Q (match es[Lb t.place 0]?,t.place[Lb t.place 0]? with|some (_,x),some j=>some (x,j+1)|_,_=>none) s;rwa[Xi _<|by omega,Jg<|by omega]
  ·rw[e];show Q (match es[Lb t.place<|t.place.getD 0 0+1]?,t.place[Lb t.place<|t.place.getD 0 0+1]? with|some (_,x),some j=>some (x,j+1)|_,_=>none) s;rwa[Hk _<|by omega,Jg<|by omega]
 self:=fun _ _ _ _ st h=>Gy st.1 h
end
def xM (vs:Db)(b:Da):Prop:=vs.length=b.length/\∀(i:Nat) (v:Ej),vs[i]?=some v->∃k t,b[i]?=some k/\v=.str k t
section
variable {prog:Ek}{w:Ep}{A:ED}{E:Ej->Di}{s:Eo}{a:Ei}{ks:Da}
theorem XZ {l:List (Int×Ej)}(h:ElemsOf (strKind prog w) l):xM (l.map (·.2)) (l.map keyOf):=by
 refine⟨by rw[Q5,Q5],fun i v e=>?_⟩;rw[Zo]at e;cases q:l[i]? with
 |none=>rw[q]at e;cases e
 |some x =>
  rw[q]at e;have e:x.2=v:=Option.some.inj e;obtain⟨⟨k,hk,_⟩,_⟩:=h x<|Zu q;obtain⟨t,b⟩:=Yr hk;exact⟨k,t,by rw[Zo,q];show some (keyOf x)=_;unfold keyOf;rw[b],by rw[←e];exact b⟩
theorem N4 {Q:Ej->Di}(O:Wi prog w s.heap a ks)(hk:ks.length<=1000)(D:A.handled=none)
  (h:∀(I:Ei) (fp:De) (h':EC) d tk (vs:Db) (zs:Da) (St:Nat->EC->Prop),s.heap.objs.size<=I->(∀b∈fp,b=a\/s.heap.objs.size<=b)->(∀b o,s.heap.get? b=some o->h'.get? b=some o)->zs.Perm ks->xM vs zs -> Walks prog w A I fp [I] ks.length (fun i v=>vs[i]?=some v) St->St 0 h'->Q (.ref I) { s with heap:=h',drawn:=d,toks:=tk }):Em (Et prog w) A (Mq<|.ref a) Q E s:=by
 obtain⟨o,es,ep,t,x,P,hd,X⟩:=O;have g:=Fo X;obtain⟨f,G,hb,C,l,H⟩:=X;have n:a<s.heap.objs.size:=Zd x;have r:a≠s.heap.objs.size:=Zl n;refine KI x P hd C (by omega) (fun q=>?_)<|fun q B d tk y=>?_
 ·have kp:∀b u,s.heap.get? b=some u->(s.heap.push<|FG (EU 0) 0 a es.size ep).get? b=some u:=fun b u e=>Q6 _ e;have j:∀b∈[s.heap.objs.size,a],b=a\/s.heap.objs.size<=b:=fun b hb=>by
   rcases Za.mp hb with z|z
   ·exact .inr (Vd z.symm)
   ·exact .inl (Q8.mp z)
  cases c:byText w with
  |true =>
   have W:=Rh (prog:=prog) (A:=A) (es:=es) (ep:=ep) (t:=t) (o:=o) D s.heap.objs.size r c hd C;have K:=UB (w.params.setOrder a ep) es;rw[g]at W;exact h _ _ _ s.drawn s.toks _ _ _ (Q9 _) j kp ((K.map keyOf).trans G) (XZ<|f.perm K) W ⟨by rw[←g];exact Zb _ rfl,Q6 _ x⟩
  |false =>
   have N:es.size<=1:=by
    rw[c]at q
    by_cases z:es.size>1
    ·rw[H<|by omega,Zc z]at q;cases q
    ·omega
   have hl:t.led=true:=by rw[l];show(!byText w)=true;rw[c];rfl
   have W:=Ri (prog:=prog) (A:=A) (es:=es) (ep:=ep) (t:=t) (o:=o) D s.heap.objs.size r c hl N hd C;rw[g]at W;exact h _ _ _ s.drawn s.toks _ _ _ (Q9 _) j kp G (XZ f) W ⟨by rw[←g];exact Zb _ rfl,Q6 _ x⟩
 ·have F:a≠s.heap.objs.size+1:=Zl<|Yk n;have W:=Rj (prog:=prog) (w:=w) (A:=A) (es:=es) (ep:=ep) (t:=t) (o:=o) (a:=a) D (s.heap.objs.size+1) s.heap.objs.size F (Zl<|YN _) B y hd C;have J:(B.filterMap fun p=>es[p]?).Perm es.toList:=by
   refine(y.filterMap _).trans ?_;have e:=List.filterMap_getElem?_range_length es.toList;rw[Zw]at e;have L:(EX es.size).filterMap (fun p=>es[p]?)=(EX es.size).filterMap fun i=>es.toList[i]?:=by congr 1;funext p;exact(Z6 ..).symm
   rw[L,e]
  have hv:(B.filterMap fun p=>(es[p]?).map (·.2))=(B.filterMap fun p=>es[p]?).map (·.2):=by rw[List.map_filterMap]
  rw[g]at W;rw[hv]at W;have M:(s.heap.push<|N2 B).objs.size=s.heap.objs.size+1:=Z8 _ _;refine h _ _ _ d tk _ _ _ (Ym _) (fun b hb=>?_) (fun b u e=>Q6 _<|Q6 _ e) ((J.map keyOf).trans G) (XZ<|f.perm J) W ⟨?_,Q6 _<|Q6 _ x,Q6 _<|Zb _ rfl⟩
  ·rcases Za.mp hb with z|z
   ·exact .inr (by rw[z];exact Ym _)
   ·rcases Za.mp z with z|z
    ·exact .inl z
    ·exact .inr (Vd (Q8.mp z).symm)
  ·rw[←M,←g];exact Zb _ rfl
theorem KC (e:s.TypeIs (.ref a) "set"){Q:Bool->Di}(h:Q false s):Em (Et prog w) A (Builtin.List.listLengthHint<|.ref a) Q E s:=by
 unfold Builtin.List.listLengthHint;refine Q4<|Jk e PySem.F.slot_set_len.lookup ?_;generalize d:("set.__len__":String)=f;wp_delta;rw[show splitId f=some ("set","__len__") from by subst d;decide +kernel];subst d;refine Q4 (Yx (T:="set") (b:=true) e (by rw[YT];kernel_rfl) ?_);refine Vb (fun c=>absurd c<|by decide) (fun _=>?_);refine Vb (fun _=>?_) (fun c=>absurd (by decide +kernel) c);refine Q4<|Ve e ?_;exact Q7 h
open PySem.Calls PyProof.V in
theorem Ke {R:Result->Di}(Y:A.handled=none)(x:Wi prog w s.heap a ks)(hk:ks.length<=1000)(S:Ei)(p:S≠a)(res:Ej)(n:Nat)(K:s.heap.get? S=some { cls:=.type "list",data:=.seq #[] n })
  (X:∀h' d tk DT c' (zs:Da),(∀b o,b≠S->s.heap.get? b=some o->h'.get? b=some o)->h'.get? S=some { cls:=.type "list",dict:=none,data:=.seq DT c',slots:=#[] }->zs.Perm ks->xM DT.toList zs->R (.ok<|.ret res) { s with heap:=h',drawn:=d,toks:=tk }) :
  Em (Et prog w) A.in1 (LK (.ref S) (.ref a) res)
   (fun fin s'=>match fin with|.done f=>R (.ok f) s'|.again c'=>c'.quiet=true/\Ls (Et prog w) A c' R s') (fun e s'=>R (.error e) s') s:=by
 have r:S<s.heap.objs.size:=Zd K;have ty:s.TypeIs (.ref a) "set":=by obtain⟨o,O,N,t,C,E,_⟩:=x;exact⟨o,C,E.1⟩
 unfold LK;refine Q4<|Ve (T:="set") ty ?_;have Q:Builtin.List.listSameRef (.ref S) (.ref a)=false:=by simp[Builtin.List.listSameRef,p]
 have nl:(Value.type "set"==Value.type "list")=false:=by decide
 have nt:(Value.type "set"==Value.type "tuple")=false:=by decide
 simp only[Q,nl,nt,Bool.or_false,ZZ,Y7];refine Q4<|N4 (A:=A.in1) x hk Y fun I P h' d tk L zs St U B kp hz tx W st=>?_;have H:Shared.TypeIs { s with heap:=h',drawn:=d,toks:=tk } (.ref a) "set":=by obtain⟨o,O,N,t,C,E,_⟩:=x;exact⟨o,kp _ _ C,E.1⟩
 refine Q4<|ZV<|KC H ?_;have q:S∉P:=fun z=>by
  rcases B S z with e|e
  ·exact p e
  ·exact ZQ _ (Zq r e)
 have c:=kp _ _ K;refine Vb (fun _=>?_) (fun z=>absurd (by decide) z);refine Q4<|Jq ?_;refine Q4 ?_;show Em _ _ (updateSeq S (·.push .none)>>=fun _=>updateSeq S (·.pop)) _ _ _;refine Q4<|wpAny_updateSeq c rfl ?_;have g:=ZM (E8 (·.push EA)) c rfl;refine wpAny_updateSeq (hz:=by seq_fits) g rfl ?_;have l:=ZM (E8 (·.pop)) g rfl;refine Q7 ⟨Vw PySem.F.plain_extend_loop _,?_⟩;have u:∀b o,b≠S->h'.get? b=some o->((h'.update S (E8 (·.push EA))).update S (E8 (·.pop))).get? b=some o:=fun b o hb e =>
  (ZT _ _<|EE hb).trans ((ZT _ _<|EE hb).trans e)
 have G:=W.frame 0 _ _ st fun b hb o e=>u b o (fun z=>q<|z▸hb) e;refine codeAny_extend_loopS W.toS (by rw[Ya];omega) S q res ks.length 0 _ #[] _ rfl (ZA _) G l (ItemsOf.nil _) fun s' DT c' hm v J=>?_;rw[Moved.eq_with hm];have D:DT.toList=L:=by
  have hl:DT.toList.length=L.length:=by rw[Zw,J.1,tx.1,hz.length_eq]
  refine Vs fun i=>?_
  by_cases Z:i<DT.size
  ·have e:=Yh Z;rw[Z6,e];exact(J.2 i _ e).symm
  ·rw[ZN (by rw[Zw];omega),ZN (by rw[←hl,Zw];omega)]
 refine X s'.heap d s'.toks DT c' zs (fun b o hb e=>hm.heap b o (fun j=>?_)<|u b o hb<|kp b o e) v hz (by rwa[D])
 rcases Za.mp j with M|j
 ·exact hb M
 ·have y:b=I:=Q8.mp j;exact absurd (y▸Zd e)<|Nat.not_lt.mpr U
open PySem.Calls PyProof.V PySem.W in
theorem Fn {R:Db->Di}(D:A.handled=none)(z:Wi prog w s.heap a ks)(hk:ks.length<=1000)
  (h:∀(h':EC) d (tk:Nat) (vs:Db) (zs:Da),(∀b o,s.heap.get? b=some o->h'.get? b=some o)->zs.Perm ks->xM vs zs->R vs { s with heap:=h',drawn:=d,toks:=tk }):Em (Et prog w) A (collect<|.ref a) R E s:=by
 have u:a<s.heap.objs.size:=by obtain⟨o,I,H,t,G,_⟩:=z;exact Zd G
 unfold collect;refine Q4<|Vl<|Yu entry_proto_collect' ?_;rw[Lq PySem.F.plain_proto_collect _];show Em _ A.in1 (newList []>>=fun l=>again<|.builtin "list.__iadd__" ⟨[l,.ref a],[]⟩) _ _ s;refine Q4<|Zx ?_;refine Q7 ⟨Vw PySem.F.plain_list_iadd _,Yu entry_list_iadd' ?_⟩;rw[Lq PySem.F.plain_list_iadd _];have g:(s.heap.push { cls:=.type "list",data:=.seq ([]:Db).toArray }).get? s.heap.objs.size=some { cls:=.type "list",data:=.seq #[] }:=Zb _ rfl;show Em _ A.in1 (LK (.ref s.heap.objs.size) (.ref a)<|.ref s.heap.objs.size) _ _ _;have key:=Ke (prog:=prog) (w:=w) (A:=A) (a:=a) (ks:=ks) (s:={ s with heap:=s.heap.push { cls:=.type "list",data:=.seq ([]:Db).toArray } })
  (R:=fun(q:Result) (v:Eo)=>∃(h':EC) (d:Drawn) (tk:Nat) (i:Array Ej) (j:Nat) (zs:Da),q=.ok (.ret<|.ref s.heap.objs.size)/\v={ s with heap:=h',drawn:=d,toks:=tk } /\ (∀b o,s.heap.get? b=some o->h'.get? b=some o)/\h'.get? s.heap.objs.size=some { cls:=.type "list",dict:=none,data:=.seq i j,slots:=#[] }/\zs.Perm ks/\xM i.toList zs)
  D (z.at fun o e=>Q6 _ e) hk s.heap.objs.size (Je u) (.ref s.heap.objs.size) 0 g
  (fun h' d tk i j zs hk c n p=>⟨h',d,tk,i,j,zs,rfl,rfl,fun b o e=>hk b o (Zl<|Zd e)<|Q6 _ e,c,n,p⟩)
 refine Z3 key (fun r v x=>?_) fun e v x=>?_
 ·cases r with
  |done f =>
   obtain⟨h',d,tk,i,j,zs,e,rfl,hk,c,n,p⟩:=x;cases e;show Em _ A (load s.heap.objs.size>>=_) _ _ _;refine Q4<|VD c ?_;exact Q7<|h h' d tk _ zs hk n p
  |again c₁ =>
   refine⟨x.1,Yy x.2 fun q B y=>?_⟩;obtain⟨h',d,tk,i,j,zs,rfl,rfl,hk,c,n,p⟩:=y;show Em _ A (load s.heap.objs.size>>=_) _ _ _;refine Q4<|VD c ?_;exact Q7<|h h' d tk _ zs hk n p
 ·obtain⟨_,_,_,_,_,_,C,_⟩:=x;cases C
end
section
variable {prog:Ek}{w:Ep}{A:ED}{E:Ej->Di}{s:Eo}
set_option maxHeartbeats 6400000 in
theorem call_set_list {l:Ei}{j:Array Ej}{xs:Da}{Q:Ej->Di}(hh:A.handled=none)(hl:s.heap.IsList l j)(Dp:xs.length=j.size)(hi:∀(i:Nat) (v:Ej),j[i]?=some v->∃k t,xs[i]?=some k/\v=.str k t)(hb:j.size+1<Mm)
  (h:∀(h':EC) (tk:Nat),Wi prog w h' s.heap.objs.size (uniq xs)->(∀b o,s.heap.get? b=some o->h'.get? b=some o)->Q (.ref s.heap.objs.size) { s with heap:=h',toks:=tk }):Em (Et prog w) A (call (.type "set") [.ref l]) Q E s:=by
 obtain⟨c,tl,Y⟩:=F.called_set.mro;have N:=F.called_set.made;have ab:=F.called_set.sub;have h1:=F.called_set.notType;have h2:=F.called_set.canCreate;have ae:=F.typeCall_set_1<|.ref l;refine JI<|VJ ?_;show Em _ _ (callAny (.type "set") _) _ _ _;refine Q7 ⟨Code.quiet_builtin _<|by decide +kernel,Yu F.entry_type_call ?_⟩;rw[Around.under_plain (weight_type_call_type "set" [.ref l] []) rfl]
 repeat (any_goals (first|assumption|wp_step))
 refine Yy (F3 (.ref l) (E:=E) (Q₁:=fun obj f=>obj=.ref s.heap.objs.size/\f={ s with heap:=s.heap.push (zX w) }) ⟨rfl,rfl⟩) fun r f P=>?_;cases r with
 |error e=>exact P
 |ok fl =>
  cases fl with
  |ret obj =>
   obtain⟨rfl,rfl⟩:=P;have H:(s.heap.push<|zX w).get? s.heap.objs.size=some (zX w):=Zb _ rfl;have hT:Shared.TypeIs { s with heap:=s.heap.push (zX w) } (.ref s.heap.objs.size) "set":=⟨_,H,rfl⟩;have af:=F.called_set.init.lookup;have ad:=F.called_set.init.bind<|.ref s.heap.objs.size
   repeat (any_goals (first|assumption|wp_step))
   refine Yy (Jt (R:=wants (fun r g=>r=.none/\∃h' tk,g={ s with heap:=h',toks:=tk }/\Wi prog w h' s.heap.objs.size (uniq xs) /\ (∀b o,s.heap.get? b=some o->h'.get? b=some o)) E) F.called_set.init.plain F.entry_set_init (check_set_init_1 hT ?_)) fun C g d=>?_
   ·have p:(s.heap.push<|zX w).IsList l j:=hl.push _;obtain⟨ol,O,u,nl,x⟩:=id p;have z:l<s.heap.objs.size:=by obtain⟨_,e,_⟩:=hl;exact Zd e
    obtain⟨ac,T,S,D⟩:=ol;simp only at u x;subst u;subst x;have aa:=sub_list_set;have Z:=sub_list_frozenset;have ag:(Value.type "list"==Value.type "dict")=false:=by decide
    unfold zX at H O;unfold Builtin.«set.__init__» noKeywords Builtin.Frozenset.updateFrom;generalize G:Mq=PI;unfold zX
    wp_walk
    subst G;refine Jm p ?_;refine Q4<|Vl ?_;have L:A.in1.in1.in1.handled=none:=by simp[hh]
    have B:l≠(s.heap.push<|zX w).objs.size:=by
     rw[Z8];exact Zl<|Yk z
    have I:s.heap.objs.size∉[(s.heap.push<|zX w).objs.size,l]:=by
     rw[Z8];simp only[Za,Q8,ZC,Yl,Jr];exact⟨Zl<|YN _,Je z⟩
    refine Hh ((Walks.list L _ l B j).toS) s.heap.objs.size I xs Dp hi hb (j.size-0) 0 _ (by omega) (ZA _)
     ⟨⟨_,Zb _ rfl,rfl,rfl⟩,(p.push _)⟩ ?hS0 ?hR
    case hS0 =>
     have y:((s.heap.push<|zX w).push { cls:=.type "list_iterator",data:=.fields #[.ref l,.int 0 0] }).get? s.heap.objs.size=some (zX w):=Q6 _ H;exact Bs y
    case hR =>
     intro s' hm n;obtain⟨h',g',d',X,U⟩:=s';have eg:g'=s.gens:=hm.gens;have ed:d'=s.drawn:=hm.drawn;have eo:U=s.os:=hm.os;subst eg;subst ed;subst eo;show Em _ _ _ _ _ _;refine Q7 ?_;show Em _ _ (ret EA) _ _ _;refine Q7 ⟨rfl,h',X,rfl,n,fun b o e=>?_⟩;have q:=Zd e;have J:b≠s.heap.objs.size:=Zl q;have K:b≠(s.heap.push<|zX w).objs.size:=by
      rw[Z8];exact Zl<|Yk q
     exact hm.heap b o (by simp only[Za,Q8,ZC,Yl,Jr];exact⟨J,K⟩)<|Q6 _<|Q6 _ e
   ·cases C with
    |error e=>exact d
    |ok fl₂ =>
     cases fl₂ with
     |ret r =>
      obtain⟨rfl,h',tk,rfl,n,M⟩:=d
      repeat (any_goals (first|assumption|wp_step))
      exact h _ _ n M
     |_=>exact d.elim
  |_=>exact P.elim
set_option maxHeartbeats 6400000 in
theorem X9 {l:Ei}{j:Array Ej}{xs:Da}{Q:Ej->Di}(hh:A.handled=none)(hl:s.heap.IsTuple l j)(Dp:xs.length=j.size)(hi:∀(i:Nat) (v:Ej),j[i]?=some v->∃k t,xs[i]?=some k/\v=.str k t)(hb:j.size+1<Mm)
  (h:∀(h':EC) (tk:Nat),Wi prog w h' s.heap.objs.size (uniq xs)->(∀b o,s.heap.get? b=some o->h'.get? b=some o)->Q (.ref s.heap.objs.size) { s with heap:=h',toks:=tk }):Em (Et prog w) A (call (.type "set") [.ref l]) Q E s:=by
 obtain⟨c,tl,Y⟩:=F.called_set.mro;have N:=F.called_set.made;have ab:=F.called_set.sub;have h1:=F.called_set.notType;have h2:=F.called_set.canCreate;have ae:=F.typeCall_set_1<|.ref l;refine JI<|VJ ?_;show Em _ _ (callAny (.type "set") _) _ _ _;refine Q7 ⟨Code.quiet_builtin _<|by decide +kernel,Yu F.entry_type_call ?_⟩;rw[Around.under_plain (weight_type_call_type "set" [.ref l] []) rfl]
 repeat (any_goals (first|assumption|wp_step))
 refine Yy (F3 (.ref l) (E:=E) (Q₁:=fun obj f=>obj=.ref s.heap.objs.size/\f={ s with heap:=s.heap.push (zX w) }) ⟨rfl,rfl⟩) fun r f P=>?_;cases r with
 |error e=>exact P
 |ok fl =>
  cases fl with
  |ret obj =>
   obtain⟨rfl,rfl⟩:=P;have H:(s.heap.push<|zX w).get? s.heap.objs.size=some (zX w):=Zb _ rfl;have hT:Shared.TypeIs { s with heap:=s.heap.push (zX w) } (.ref s.heap.objs.size) "set":=⟨_,H,rfl⟩;have af:=F.called_set.init.lookup;have ad:=F.called_set.init.bind<|.ref s.heap.objs.size
   repeat (any_goals (first|assumption|wp_step))
   refine Yy (Jt (R:=wants (fun r g=>r=.none/\∃h' tk,g={ s with heap:=h',toks:=tk }/\Wi prog w h' s.heap.objs.size (uniq xs) /\ (∀b o,s.heap.get? b=some o->h'.get? b=some o)) E) F.called_set.init.plain F.entry_set_init (check_set_init_1 hT ?_)) fun C g d=>?_
   ·have p:(s.heap.push<|zX w).IsTuple l j:=hl.push _;obtain⟨ol,O,u,nl,x⟩:=id p;have z:l<s.heap.objs.size:=by obtain⟨_,e,_⟩:=hl;exact Zd e
    obtain⟨ac,T,S,D⟩:=ol;simp only at u x;subst u;subst x;have aa:=sub_tuple_set;have Z:=sub_tuple_frozenset;have ag:(Value.type "tuple"==Value.type "dict")=false:=by decide
    unfold zX at H O;unfold Builtin.«set.__init__» noKeywords Builtin.Frozenset.updateFrom;generalize G:Mq=PI;unfold zX
    wp_walk
    subst G;refine wpAny_pyIter_tuple p ?_;refine Q4<|Vl ?_;have L:A.in1.in1.in1.handled=none:=by simp[hh]
    have B:l≠(s.heap.push<|zX w).objs.size:=by
     rw[Z8];exact Zl<|Yk z
    have I:s.heap.objs.size∉[(s.heap.push<|zX w).objs.size,l]:=by
     rw[Z8];simp only[Za,Q8,ZC,Yl,Jr];exact⟨Zl<|YN _,Je z⟩
    refine Hh ((Walks.tuple L _ l B j).toS) s.heap.objs.size I xs Dp hi hb (j.size-0) 0 _ (by omega) (ZA _)
     ⟨⟨_,Zb _ rfl,rfl,rfl⟩,(p.push _)⟩ ?hS0 ?hR
    case hS0 =>
     have y:((s.heap.push<|zX w).push { cls:=.type "tuple_iterator",data:=.fields #[.ref l,.int 0 0] }).get? s.heap.objs.size=some (zX w):=Q6 _ H;exact Bs y
    case hR =>
     intro s' hm n;obtain⟨h',g',d',X,U⟩:=s';have eg:g'=s.gens:=hm.gens;have ed:d'=s.drawn:=hm.drawn;have eo:U=s.os:=hm.os;subst eg;subst ed;subst eo;show Em _ _ _ _ _ _;refine Q7 ?_;show Em _ _ (ret EA) _ _ _;refine Q7 ⟨rfl,h',X,rfl,n,fun b o e=>?_⟩;have q:=Zd e;have J:b≠s.heap.objs.size:=Zl q;have K:b≠(s.heap.push<|zX w).objs.size:=by
      rw[Z8];exact Zl<|Yk q
     exact hm.heap b o (by simp only[Za,Q8,ZC,Yl,Jr];exact⟨J,K⟩)<|Q6 _<|Q6 _ e
   ·cases C with
    |error e=>exact d
    |ok fl₂ =>
     cases fl₂ with
     |ret r =>
      obtain⟨rfl,h',tk,rfl,n,M⟩:=d
      repeat (any_goals (first|assumption|wp_step))
      exact h _ _ n M
     |_=>exact d.elim
  |_=>exact P.elim
end
end AxS
namespace L2
open PySem PySem.Spec PyProof.Rows AxS
def GD (P:Ek)(w:Ep)(a:Ei)(ks:Da):HO:=.ext fun h=>Wi P w h a ks
theorem N5 (x:Wi P w h a ks):WT P w H h a (GD P w a ks):=by
 obtain⟨o,d,c,t,b,r⟩:=id x;exact⟨x,⟨o,b⟩,fun f g z k=>Wi.at z fun o e=>k o e⟩
theorem Bi (x:WT P w H h a<|GD P w a ks):Wi P w h a ks:=x.1
section
variable {X:Cx}{K:Ca}
def NS (P:Ek)(w:Ep):Dk->Hp->VK->Prop:=fun c H Q=>∃(a:Ei) (b:Da),c=[.ref a]/\H a=some (GD P w a b)/\Q (.int b.length) H
theorem Ho:Wz X (.builtin "len") (NS X.prog X.w):=by
 intro j s x H v p Q I r h;obtain⟨a,n,rfl,ha,q⟩:=h;obtain⟨u,rfl,i⟩:=Wl r;cases i;obtain⟨o,e,l,t,g,b,hd,c⟩:=Bi<|I.hok a _ ha;have d:=Fo c;obtain⟨_,_,hb,f,_⟩:=c;have hb:e.size<4096:=hb;refine call_len_set g b hd f (by omega) ?_;rw[d];exact⟨.int _,H,I.tok _,⟨_,rfl⟩,q⟩
theorem Inv.drew {d:Drawn}(I:Inv X Do σ H s):Inv X Do σ H { s with drawn:=d } :=
 ⟨I.ok,I.os,I.bare,I.base,I.loc,I.cell,I.free,I.Wm,I.pin,I.hok,I.len⟩
theorem Tt:∀{vs:Db} {zs:Da},xM vs zs->StrsAre vs zs
 |[],[],_=>.nil
 |[],_::_,h=>by cases h.1
 |_::_,[],h=>by cases h.1
 |v::vs,z::zs,h=>by
  obtain⟨k,t,e,rfl⟩:=h.2 0 v rfl;have e:z=k:=Option.some.inj e;subst e;exact .cons _ _ (Tt ⟨by have:=h.1;simpa using this,fun i v e=>by
   obtain⟨k,t,b,c⟩:=h.2 (i+1) v (by simpa using e);exact⟨k,t,by simpa using b,c⟩⟩)
def MG (P:Ek)(w:Ep):Dk->Hp->VK->Prop:=fun d H Q=>∃(a:Ei) (b:Da),d=[.ref a]/\H a=some (GD P w a b)/\b.length<64/\∀l c,H l=none->c.Perm b->sortedS c=true->Q (.ref l) (upd H l<|.lst<|c.map V.str)
theorem GG (S:X.calm=true):Wz X (.builtin "sorted") (MG X.prog X.w):=by
 intro G s Y H xs us Q I r h;obtain⟨a,ks,rfl,ha,O,q⟩:=h;obtain⟨u,rfl,U⟩:=Wl r;cases U;have P:=Bi<|I.hok a _ ha;refine LQ kind_sorted plain_sorted entry_sorted (args_sorted1 _) ?_;unfold Builtin.«sorted»;refine Q4 (m:=checkCount "sorted" 1 1 _)<|Q7 ?_;refine Q4 (Fn (A:=X.A.in1) (I.ok.hd S) P (by omega) fun f d x c zs n p D=>?_);have g:=Tt D;have R:c.length<64:=by rwa[D.1,p.length_eq]
 have Z:64<=sizeLine:=by rw[Ya];decide
 refine Q4 (Vy ?_<|by omega);have i:(f.push<|Li "list" c.toArray 0).get? f.objs.size=some (Li "list" c.toArray 0):=Zb _ rfl;refine Q4 (ZV<|ZO slot_list_sort ⟨_,i,rfl⟩ VL (list_sort_treeK strKind_oneLt i g.keysOf (fun E F C e=>keyKind_strs<|by rwa[←e]) (by omega) fun l J K=>⟨_,rfl,?_⟩) (args_list_sort _));obtain⟨j,L,z,M⟩:=sorted_out_str g J K;refine Q7 ⟨_,rfl,?_⟩;obtain⟨e,T⟩:=sortedHeap_at (out:=(arrOf l).map (·.2)) i;have nl:=UH L;have y:Inv X G Y H { s with heap:=f,drawn:=d,toks:=x }:=(I.kept (t':=x) n).drew (d:=d);have v:∀b ob,f.get? b=some ob->(sortedHeap (f.push<|Li "list" c.toArray 0) f.objs.size c ((arrOf l).map (·.2))).get? b=some ob:=fun b ob B=>by
  have hb:b<f.objs.size:=Zd B;rw[sortedHeap_old (Zl hb) (by rw[Z8];exact Yk hb)];exact Q6 _ B
 have N:H f.objs.size=none:=y.hok.fresh<|Q9 _;have t:(j.map V.str).length<=sizeLine:=by
  have:=z.length_eq;have:=p.length_eq;rw[Q5];omega
 exact⟨.ref f.objs.size,_,y.laid (o:=.lst<|j.map V.str) (t':=x) v (Q9 _) ⟨t,_,e,nl,T⟩,rfl,q _ j N (z.trans p) M⟩
def RL (K:Ca)(P:Ek)(w:Ep):Dk->Hp->VK->Prop:=fun c H Q=>∃(a:Ei) (b:Da),c=[.ref a]/\(WP K H a (b.map V.str)\/Wu K H a (b.map V.str))/\b.length<=1000/\∀p,H p=none->Q (.ref p) (upd H p<|GD P w p<|uniq b)
theorem X2 {ls:Da}(r:W2 (ls.map V.str) us):xM us ls:=by
 refine⟨by rw[←r.length,Q5],fun i v e=>?_⟩;have b:i<ls.length:=by have:=(Z2.mp e).1;rw[←r.length,Q5]at this;exact this
 obtain⟨u,c,d⟩:=r.get (show(ls.map V.str)[i]?=some (V.str ls[i]) by rw[Zo,Zh b];rfl);rw[c]at e;cases e;obtain⟨t,rfl⟩:=d;exact⟨_,t,Zh b,rfl⟩
theorem By (p:X.calm=true)(A:X.K=K:=by rfl):Wz X (.type "set") (RL K X.prog X.w):=by
 subst A;intro z s C H E D Q I r h;obtain⟨a,t,rfl,ha,hl,q⟩:=h;obtain⟨u,rfl,B⟩:=Wl r;cases B;have d:∀(f:EC) (n:Nat),Wi X.prog X.w f s.heap.objs.size (uniq t)->(∀b o,s.heap.get? b=some o->f.get? b=some o)->EP X z C Q (.ref s.heap.objs.size) { s with heap:=f,toks:=n }:=fun f n x k =>
  ⟨.ref s.heap.objs.size,_,I.laid (o:=GD X.prog X.w s.heap.objs.size<|uniq t) (t':=n) k (Q9 _)<|N5 x,rfl,q _<|I.hok.fresh<|Q9 _⟩
 have y:Mm=4096:=rfl
 rcases ha with ha|ha
 ·obtain⟨g,l,j,_⟩:=I.list ha;have c:=X2 l;exact call_set_list (I.ok.hd p) j.isList (by rw[Zn];exact c.1.symm) (fun i v e=>c.2 i v<|by simpa using e) (by rw[Zn,c.1,y];omega) d
 ·obtain⟨g,l,j,_⟩:=I.tuple ha;have c:=X2 l;exact X9 (I.ok.hd p) j (by rw[Zn];exact c.1.symm) (fun i v e=>c.2 i v<|by simpa using e) (by rw[Zn,c.1,y];omega) d
end
end L2
namespace An
open PySem PySem.Spec PyProof.Rows L2
def Nq (a b:Str):Prop:=¬b.cps.toList<a.cps.toList
theorem HJ (d:Nq a b)(e:Nq b c):Nq a c:=by
 have d:a.cps.toList<=b.cps.toList:=Ju.mp d;have e:b.cps.toList<=c.cps.toList:=Ju.mp e;exact Ju.mpr<|List.le_trans d e
theorem Ic (c:Nq a b)(d:Nq b a):a=b:=by
 have e:a.cps.toList=b.cps.toList:=VC (Ju.mp c)<|Ju.mp d;exact T6 e
theorem Gd:∀(l:Da) (p:Str),risingS p l=true->(p::l).Pairwise Nq
 |[],p,_=>List.pairwise_singleton _ _
 |x::r,p,h=>by
  have h:(!ltCps x.cps.toList p.cps.toList&&risingS x r)=true:=h;rw[Zk,ltCps_eq]at h;have c:Nq p x:=fun z=>by rw[Zc z]at h;exact absurd h.1 (by decide)
  have d:=Gd r x h.2;refine JL.mpr ⟨fun y b=>?_,d⟩
  rcases Za.mp b with rfl|b
  ·exact c
  ·exact HJ c ((JL.mp d).1 y b)
theorem jZ:∀{l:Da},sortedS l=true->l.Pairwise Nq
 |[],_=>List.Pairwise.nil
 |x::r,h=>Gd r x h
def Ut:Da->Bool
 |[]=>true
 |x::r=>r.all (fun y=>decide (x.cps.toList<y.cps.toList))&&Ut r
theorem yx:∀{l:Da},Ut l=true↔l.Pairwise Nq/\l.Nodup
 |[]=>⟨fun _=>⟨List.Pairwise.nil,Yp⟩,fun _=>rfl⟩
 |x::r=>by
  show(r.all _&&Ut r)=true↔_;rw[Zk,yx,ZW,JL,ZK];constructor
  ·rintro⟨b,d,e⟩;refine⟨⟨fun y c=>?_,d⟩,fun z=>?_,e⟩
   ·have:=Zv<|b y c;exact fun z=>List.lt_irrefl _<|List.lt_trans this z
   ·exact List.lt_irrefl _ (Zv<|b x z)
  ·rintro⟨⟨b,d⟩,e,f⟩;refine⟨fun y c=>Zc ?_,d,f⟩
   by_cases z:x.cps.toList<y.cps.toList
   ·exact z
   ·have:=Ic (b y c) z;exact absurd (this▸c) e
theorem Fg {ks:Da}{k:Str}(h:ks.Nodup):(AxS.step ks k).Nodup:=by
 unfold AxS.step
 split
 ·exact h
 ·rename_i z;rw[List.nodup_append];exact⟨h,by simp,fun a ha b hb=>by rw[Q8.mp hb];exact fun e=>z<|e▸ha⟩
theorem Xn:∀(xs ks:Da),ks.Nodup->(xs.foldl AxS.step ks).Nodup
 |[],ks,h=>h
 |x::xs,ks,h=>Xn xs _<|Fg h
theorem fold_all:∀(xs ks:Da),(ks++xs).Nodup->xs.foldl AxS.step ks=ks++xs
 |[],ks,_=>by rw[YG];rfl
 |x::xs,ks,h=>by
  have e:AxS.step ks x=ks++[x]:=by
   unfold AxS.step;rw[Zm];intro z;exact(List.nodup_append.mp h).2.2 x z x Zj rfl
  rw[Va,e,fold_all xs (ks++[x])<|by rwa[Y1],Y1];rfl
theorem Fp (xs:Da):(AxS.uniq xs).Nodup:=Xn xs [] Yp
theorem Iz {xs:Da}(h:xs.Nodup):AxS.uniq xs=xs:=fold_all xs [] h
theorem Cp:∀(xs ks:Da) {x:Str},x∈xs.foldl AxS.step ks->x∈ks\/x∈xs
 |[],ks,x,h=>.inl h
 |y::xs,ks,x,h=>by
  rcases Cp xs _ h with z|z
  ·unfold AxS.step at z
   split at z
   ·exact .inl z
   ·rcases ZG.mp z with z|z
    ·exact .inl z
    ·exact .inr (Za.mpr<|.inl<|Q8.mp z)
  ·exact .inr (Zi _ z)
theorem M1 {xs:Da}{x:Str}(h:x∈AxS.uniq xs):x∈xs:=(Cp xs [] h).elim (fun z=>nomatch z) id
theorem Ff {xs ss:Da}(c:ss.Perm<|AxS.uniq xs)(hs:sortedS ss=true):decide (xs=ss)=Ut xs:=by
 rw[ZS,Zt,yx];constructor
 ·intro e;subst e;exact⟨jZ hs,c.nodup_iff.mpr<|Fp _⟩
 ·rintro⟨d,f⟩;rw[Iz f]at c;exact(JD (fun a b _ _=>Ic) (jZ hs) d c).symm
end An
namespace PySem.SeqAt
open MeetsSeq PyProof.Rows
end PySem.SeqAt
namespace L2
open PySem PySem.Spec PyProof.Rows
section
variable {X:Cx}{K:Ca}
theorem G3:∀{zs:Dk} {us:Db},W2 zs us->∀u∈us,∃z∈zs,WX z u
 |_,_,.nil,u,h=>nomatch h
 |_,_,.cons r1 r2,u,h=>by
  rcases Za.mp h with rfl|h
  ·exact⟨_,Zj,r1⟩
  ·obtain⟨z,b,r⟩:=G3 r2 u h;exact⟨z,Zi _ b,r⟩
end
end L2
namespace PySem.W
open PySem PySem.Spec PySem.Calls PyProof.Rows Builtin Builtin.ObjectAttr Builtin.Getset_descriptor
section
variable {prog:Ek}{w:Ep}{A:ED}{E:Ej->Di}{s:Eo}{K:Frag}{x D:Ei}{ox:Obj}
structure T7 (K:Frag)(D:Ei):Prop where
 ga:findIn K (.ref D) "__getattribute__"=some (some<|.builtin "BaseException.__getattribute__")
 hk:findIn K (.ref D) "__getattr__"=some none
 ha:findIn K (.ref D) "__class__"=some (some<|.builtin "object.__class__")
 hn:specialIn K (.builtin "object.__class__") "__get__"=some (some<|.builtin "getset_descriptor.__get__")
 htk:takesIn K (.builtin "object.__class__")=some true
 hm:mroIn K D (.type "object")=some true
 hb:subIn K (.ref D) (.type "BaseException")=some true
 cl:(clsIn K D).isSome=true
structure zy (h:EC)(x D:Ei):Prop where
 ex:∃o,h.get? x=some o/\o.cls=.ref D/\notCls o=true
theorem zy.type {M:Model}(I:zy h x D):Looks M h (typeOf<|.ref x) (.ref D):=by
 obtain⟨o,c,b,_⟩:=I.ex;exact b▸(Looks.ld c).andThen .now
theorem Ir {R:Result->Di}{b:Ej}(X:K.In s.heap)(I:zy s.heap x D)(hm:mroIn K D (.type "object")=some true)
  (h:R (.ok<|.ret<|.ref D) s):Ls (Et prog w) A (.call (.builtin "getset_descriptor.__get__") ⟨[.builtin "object.__class__",.ref x,b],[]⟩) R s:=by
 obtain⟨f,g,e,t,os⟩:=s;have c:=I.type (M:=Et prog w);have d:=looks_mroIn (M:=Et prog w) X hm;refine Jt KF.slot_gs.plain KF.entry_gs<|KF.slot_gs.check _ _ _ _ _ _ _ _ KF.type_class (KF.args_gs _ _ _) ?_;unfold Builtin.«getset_descriptor.__get__» descrGet;rw[dga_obj];refine Q4<|Q7 ?_;unfold descrGetter descrCheckInstance descrNameAndClass isInstance;simp only[KF.owner_class]
 repeat lk
 refine⟨Code.quiet_builtin _<|by decide +kernel,Yu KF.entry_class ?_⟩;unfold Builtin.«object.__class__» shownTypeOf
 repeat lk
 exact h
theorem Kw {M:Model}{h:EC}(X:K.In h)(k:T7 K D):Looks M h (find (.ref x) (.ref D) "__class__") (.bind (.builtin "getset_descriptor.__get__")<|.builtin "object.__class__"):=by
 have b:=looks_findIn (M:=M) X k.ha;have c:=looks_specialIn (M:=M) X k.hn;have d:=looks_takesIn (M:=M) X k.htk;unfold find;exact b.andThen<|Looks.andThen c<|Looks.andThen (d.andThen .now)<|Looks.tag .now
theorem Hx {M:Model}{b:Ej}{Q:Unit->Di}(k:T7 K D)(X:K.In s.heap)(I:zy s.heap x D)(e:Q () s):Em M A (checkBuiltinCall "BaseException.__getattribute__" ⟨[.ref x,b],[]⟩) Q E s:=by
 have hk:builtinKind "BaseException.__getattribute__"=some .slot:=by decide +kernel
 have c:splitId "BaseException.__getattribute__"=some ("BaseException","__getattribute__"):=by decide +kernel
 have ha:=F.args_bexc_ga (.ref x) b;obtain⟨j,g,d,t,os⟩:=s;have f:=I.type (M:=M);have i:=looks_subIn (M:=M) X k.hb;simp only[checkBuiltinCall,hk,c];refine Q4 ?_
 ·unfold isInstance
  repeat (first|lk|wp_step)
  exact e
theorem Hz {i:Tok}{Q:Fin->Di}(k:T7 K D)(X:K.In s.heap)(I:zy s.heap x D)(f:Q (.done<|.ret<|.ref D) s) :
  Em (Et prog w) A (Builtin.«object.__getattribute__» ⟨[.ref x,.str "__class__" i],[]⟩) Q E s:=by
 obtain⟨e,g,d,t,os⟩:=s;have b:=I.type (M:=Et prog w);have c:=Kw (M:=Et prog w) (x:=x) X k;unfold Builtin.«object.__getattribute__»;refine Q4<|Q7<|Q4<|Q7<|Q4<|b.at (Q4<|c.at ?_);show Em _ _ (bindTo _ _ _ _) _ _ _;show Em _ _ (Mp [Value.builtin "object.__class__"] (call (Value.builtin "getset_descriptor.__get__") [Value.builtin "object.__class__",Ev x,Ev D])>>=ret) _ _ _;exact Q4<|ZV<|JI<|Ir (s:=⟨e,g,d,t,os⟩) X I k.hm<|Q7 f
theorem Hy {Q:Dc->Di}(k:T7 K D)(X:K.In s.heap)(I:zy s.heap x D)(h:Q (some<|.ref D) { s with toks:=s.toks+1 }):Em (Et prog w) A (getAttr? (.ref x) "__class__") Q E s:=by
 obtain⟨f,g,d,t,os⟩:=s;have b:=I.type (M:=Et prog w);have c:=looks_findIn (M:=Et prog w) X k.ga;have e:=looks_findIn (M:=Et prog w) X k.hk;unfold getAttr? getAttrBy? getAttrBy;refine Q4<|wpAny_mkText<|Q4<|YM<|ZV<|Q4<|b.at (Q4<|c.at ?_);show Em _ _ (getAttrByItsOwn _ _ _ _ _ _) _ _ _;unfold getAttrByItsOwn hookBefore;refine Q4<|e.at ?_;refine Q4<|YM<|ZV ?_;show Em _ _ (boundAndCalled _ _ _) _ _ _;unfold boundAndCalled;rw[F.attr_ValueError.ga.bind];refine Q4<|Q7 ?_;refine JI<|Jt F.attr_ValueError.ga.plain F.entry_bexc_ga<|Hx k X I<|Hz k X I ?_;exact handed_on (s:=⟨f,g,d,t+1,os⟩) rfl<|Q7 h
theorem vB (k:T7 K D):KitX K (.ref x) (.ref D) (fun h=>zy h x D) where
 ty:=fun _ _ _ I=>I.type
 it:=fun _ _ X _=>by
  obtain⟨d,b⟩:=ZU.mp k.cl;unfold clsIn at b
  split at b
  ·rename_i j l c i f;intro r t s v k q;unfold isType loadHead;exact Q4<|wpAny_loadPart (k _ _<|X _ _ f)<|Q7 q
  ·cases b
 ne:=fun h p u o n sl X g=>by
  obtain⟨d,b⟩:=ZU.mp k.cl;refine Y0.mpr fun q=>?_;have e:D=p:=Value.ref.inj<|Jo.mp q;subst e;unfold clsIn at b
  split at b
  ·rename_i j l c i f;have z:=(X _ _ f).symm.trans g;cases z
  ·cases b
 ca:=fun X I q=>Hy k X I q
end
end PySem.W
namespace L2
open PySem PySem.Spec PyProof.Rows
section
variable {X:Cx}{K:Ca}
def MC (K:Ca)(c:Ej)(d:V):Dk->Hp->VK->Prop:=fun e H Q=>∃(a D:Ei) (b:Bool),e=[.ref a,d]/\H a=some (V9 a<|.ref D)/\PySem.W.T7 K D/\EM K (.ref D) c=some b/\Q (.bl b) H
theorem FF {a D:Ei}{b:Bool}{c:Ej}{Q:VK}(I:Inv X Do σ H s)(ha:H a=some (V9 a<|.ref D))(k:PySem.W.T7 X.K D)(e:EM X.K (.ref D) c=some b)(q:Q (.bl b) H) :
  Em (Et X.prog X.w) X.A (call (.builtin "isinstance") [.ref a,c]) (EP X Do σ Q) X.xe s:=by
 obtain⟨⟨o,j,d,f,g,_⟩,_⟩:=(I.hok a _ ha);refine ZY (PySem.W.vB k) I.Tn ⟨o,d,f,?_⟩ e (fun z=>nomatch z) fun i=>⟨.bl b,H,I.tok _,rfl,q⟩;unfold PySem.W.notCls;rw[g]
theorem z8 (d:X.K=K:=by rfl){C:Ei}:Wz X (.builtin "isinstance") (MC K (.ref C)<|.ref C):=by
 subst d;intro i s n H l j Q I r h;obtain⟨a,D,b,rfl,ha,k,e,q⟩:=h;obtain⟨u,g,rfl,f,c⟩:=vals2 r;cases(show u=Ev a from f);cases(show g=Ev C from c);exact FF I ha k e q
theorem Iu (d:X.K=K:=by rfl){T:String}:Wz X (.builtin "isinstance") (MC K (.type T)<|.ty T):=by
 subst d;intro i s n H l j Q I r h;obtain⟨a,D,b,rfl,ha,k,e,q⟩:=h;obtain⟨u,g,rfl,f,c⟩:=vals2 r;cases(show u=Ev a from f);cases(show g=Value.type T from c);exact FF I ha k e q
end
structure Tr (k:Nat)(A:ED):Prop where
 dp:A.depth+3*k+5<recursionLimit
 un:A.units+16*k+200<E4
theorem Wy.h (r:Wy k A):Tr k A:=⟨r.dp,r.un⟩
theorem Tr.mark (r:Tr k A)(e:Ej):Tr k (A.mark<|some e):=⟨r.dp,r.un⟩
theorem Tr.deeper {k:Nat}(r:Tr (k+1) A)(env:Env):Tr k (A.deeper env) :=
 ⟨by have:=r.dp;show A.depth+1+3*k+5<_;omega,by have:=r.un;show A.units+3+16*k+200<_;omega⟩
def Pw (P:Ek)(w:Ep)(K:Ca)(mg:Str->Dc)(base:EC)(N:Da)(qual:Str)(scope:LI)(f:Ei)(b:Ej)(A:ED)(outer:List Env)(s:Eo)(H:Hp)(E:XK):Cx :=
 { Ix Cd P w K mg base N qual scope f b A outer s H E with calm:=false,xe:=fun _ _=>False }
section
variable {P:Ek}{w:Ep}{K:Ca}{mg:Str->Dc}{base:EC}
theorem CH {N ps:Da}{qual:Str}{scope:LI}{f:Ei}{c:Ej}{A:ED}{outer:List Env}{s d:Eo}{H:Hp}{E:XK}{us:Db}{vs:Dk}
  (S:W7 N ps scope) (b:yw P w K mg base A outer s H) (hl:vs.length=ps.length) (r:W2 vs us)
  (x:InCallC s s.heap.objs.size (bindL (Mc qual scope s.heap.objs.size f c).kindOf (ps.zip us) fun _=>none) (cellsFrom (s.heap.objs.size+1) scope.names []) (bindC (Mc qual scope s.heap.objs.size f c).kindOf (ps.zip us) fun _=>none) d) :
  Inv (Pw P w K mg base N qual scope f c A outer s H E) [] (start N vs) H d:=by
 have e:yw P w K mg base { A with handled:=none } outer s H:=⟨b.frames,b.mod,b.bs,b.v6,b.Tz,b.vM,b.hok,b.bare⟩;have I:=Ge (CX:=Cd) (E:=E) (A:={ A with handled:=none }) S rfl e hl r x;exact⟨⟨I.ok.mod,I.ok.kind,I.ok.glob,I.ok.blt,I.ok.above,I.ok.inj,I.ok.has,I.ok.cab,fun z=>(by cases z),Around.frames_deeper b.frames,I.ok.stk,I.ok.vp,I.ok.bs,I.ok.v6,I.ok.wY,I.ok.yt,I.ok.Tz,I.ok.vM⟩,I.os,I.bare,I.base,I.loc,I.cell,I.free,I.Wm,I.pin,I.hok,I.len⟩
end
section
variable {X:Cx}
def RG (K:Ca):Dk->Hp->VK->Prop:=fun b H Q=>∃(a:Ei) (bs:List Bool),b=[.ref a]/\WP K H a (bs.map V.bl)/\Q (.bl<|bs.any id) H
theorem Ko {K:Ca}(o:X.calm=true)(n:X.K=K:=by rfl):Wz X (.builtin "any") (RG K):=by
 subst n;intro x s J H G F Q I r h;obtain⟨a,bs,rfl,ha,q⟩:=h;obtain⟨u,rfl,t⟩:=Wl r;cases t;obtain⟨c,w,p,C⟩:=I.list ha;have g:=GV w;have hl:=p.isList;have f:a<s.heap.objs.size:=by obtain⟨_,e,_⟩:=hl;exact Zd e
 refine call_any_walk<|Jm hl ?_;refine⟨s.heap.objs.size,[s.heap.objs.size,a],[s.heap.objs.size],c.toArray.size,_,_,fun i=>(bs[i]?).getD false,rfl,Walks.list (A:=X.A.in1) (I.ok.hd o) _ a (Zl f) c.toArray,⟨⟨_,Zb _ rfl,rfl,rfl⟩,hl.push _⟩,fun i v D z y d j=>?_,fun B E hk=>?_⟩
 ·have d:c[i]?=some v:=by simpa using d
  rw[g,Zo]at d;cases e:bs[i]? with
  |none=>rw[e]at d;cases d
  |some b =>
   rw[e]at d;have d:LA b=v:=Option.some.inj d;subst d;simp only[e,J2]at j;exact Yo j
 ·have l:c.length=bs.length:=by rw[g,Q5]
  have e:((EX c.toArray.size).any fun i=>(bs[i]?).getD false)=bs.any id:=by
   rw[Zn,l];exact PyProof.Rows.LSm.range_any bs
  rw[e];exact⟨.bl _,H,I.kept<|PyProof.Rows.LSm.kept_iter hk,rfl,q⟩
end
end L2
namespace An
open PySem L2
structure zc (S:Dj):Prop where
 good:Tp S
 th:∀e∈S,Uw e
 num:∀e∈S,e.n<S.length
def At (S:Dj)(x:Str)(t:Th):Prop:=∃e∈S,e.nm=x/\e.d=t.dat
section
variable {S T:Dj}{x y:Str}{t u:Th}
theorem K1 (g:(S.map En.nm).Nodup){e f:En}(b:e∈S)(c:f∈S)(h:e.nm=f.nm):e=f:=by
 obtain⟨i,d,rfl⟩:=Z5.mp b;obtain⟨j,l,rfl⟩:=Z5.mp c;have:=(Vz (h₀:=by simpa using d) (h₁:=by simpa using l) g).mp (by rwa[ZX,ZX]);subst this;rfl
theorem At.thing (g:zc S)(h:At S x t)(k:At S x u):t=u:=by
 obtain⟨e,c,rfl,hd⟩:=h;obtain⟨f,d,fn,b⟩:=k;have:=K1 g.good.nn d c fn;subst this;exact Gj<|hd.symm.trans b
theorem At.name (g:zc S)(h:At S x t)(k:At S y t):x=y:=by
 obtain⟨e,c,rfl,hd⟩:=h;obtain⟨f,d,rfl,b⟩:=k;rw[OL g.good.nd c d<|hd.trans b.symm]
theorem At.more (h:At S x t):At (S++T) x t:=let ⟨e,he,a⟩:=h;⟨e,Yz _ he,a⟩
theorem At.mem (h:At S x t):x∈S.map En.nm:=let ⟨e,he,a,_⟩:=h;Ze.mpr ⟨e,he,a⟩
end
def RA (a b:Str):Prop:=cs a<cs b
theorem PJ (h:RA a b):a≠b:=fun z=>by subst z;exact List.lt_irrefl _ h
noncomputable def Ce (S:Dj)(t:Th):List En×Str:=open Classical in if h:∃x,At S x t then(S,choose h) else(S++[Il S t],(Il S t).nm)
section
variable {S T:Dj}{x:Str}{t:Th}
theorem FV (g:zc S)(h:At S x t):Ce S t=(S,x):=by
 unfold Ce;have ex:∃x,At S x t:=⟨x,h⟩;rw[dif_pos ex];exact congrArg (Prod.mk S)<|At.name g (Classical.choose_spec ex) h
theorem G4 (h:∀e∈S,e.d≠t.dat):Ce S t=(S++[Il S t],(Il S t).nm):=by
 unfold Ce;rw[dif_neg];rintro⟨x,e,b,_,hd⟩;exact h e b hd
theorem Oz {e:En}(h:e.h=VZ t)(hn:e.n<1000000):Ok 1000 e.nm:=by
 refine⟨?_,?_⟩
 ·have b:=jU t;have c:(V0 e.n).length<=10:=Y5 (by omega) (by decide) (by
   have:e.n<10 ^ 9:=by omega
   omega)
  unfold En.nm;rw[WQ,WQ,h];have:dot.length=1:=rfl;omega
 ·unfold En.nm;rw[h];exact CW (CW (CW (HK t)<|CV _)<|by decide +kernel)<|CV _
theorem zc.nm (g:zc S){e:En}(b:e∈S):Ok 1000 e.nm:=by
 obtain⟨t,_,_,h⟩:=g.th e b;exact Oz h (g.good.ent e b).num
theorem zc.snoc (g:zc S)(c:t.Good)(l:S.length<2000)(h:∀e∈S,e.d≠t.dat):zc (S++[Il S t]):=by
 have nl:=FK g.num<|VZ t;refine⟨g.good.snoc ⟨Fw c,jB t,?_,jU t⟩ (fun z=>?_) (KY g.good<|jB t) l,fun e b=>?_,fun e b=>?_⟩
 ·show(WM S<|VZ t).getD 0<1000000;omega
 ·obtain⟨e,b,hd⟩:=Ze.mp z;exact h e b hd
 ·rcases ZG.mp b with z|z
  ·exact g.th e z
  ·rw[Q8.mp z];exact⟨t,rfl,c,rfl⟩
 ·rw[ZD,Yw]
  rcases ZG.mp b with z|z
  ·have:=g.num e z;omega
  ·rw[Q8.mp z];show(WM S<|VZ t).getD 0<_;omega
theorem GO (g:zc S)(c:t.Good)(l:S.length<2000):zc (Ce S t).1/\At (Ce S t).1 (Ce S t).2 t/\(Ce S t).1.length<=S.length+1/\∃T,(Ce S t).1=S++T/\∀e∈T,e.nm=(Ce S t).2:=by
 by_cases z:∃x,At S x t
 ·obtain⟨x,h⟩:=z;rw[FV g h];exact⟨g,h,Ym _,[],(YG _).symm,fun e b=>(nomatch b)⟩
 ·have h:∀e∈S,e.d≠t.dat:=fun e b hd=>z ⟨e.nm,e,b,rfl,hd⟩;rw[G4 h];exact⟨g.snoc c l h,⟨_,Zy _<|Q8.mpr rfl,rfl,rfl⟩,by rw[ZD];exact Q9 _,[Il S t],rfl,fun e b=>by rw[Q8.mp b]⟩
end
def Pn (a b:Str×Str):Bool:=!decide (cs b.1<cs a.1)
def V8 (rows:Dh):Dh:=rows.mergeSort Pn
theorem TF:Pn a b=true↔cs a.1<=cs b.1:=by
 unfold Pn;rw[JP,JM];exact Ju
theorem G1 (rows:Dh):(V8 rows).Pairwise (fun a b=>Pn a b=true) :=
 List.pairwise_mergeSort (le:=Pn) (fun a b c d e=>TF.mpr<|List.le_trans (TF.mp d)<|TF.mp e) (fun a b=>by
  rw[VI,TF (a:=a) (b:=b),TF (a:=b) (b:=a)];exact List.le_total _ _) rows
theorem xQ (rows:Dh):(V8 rows).Perm rows:=List.mergeSort_perm rows Pn
theorem MQ {rows:Dh}(nd:(rows.map (·.1)).Nodup):((V8 rows).map (·.1)).Pairwise RA:=by
 have c:((V8 rows).map (·.1)).Nodup:=((xQ rows).map _).nodup_iff.mpr nd;have d:((V8 rows).map (·.1)).Pairwise (fun a b=>cs a<=cs b):=List.pairwise_map.mpr<|(G1 rows).imp fun{a b} h=>TF.mp h;exact(d.and<|Jw.mp c).imp fun{a b} h=>by
  by_cases z:cs a<cs b
  ·exact z
  ·exact absurd (T6<|VC h.1<|Ju.mp z) h.2
theorem MP {rows ss:Dh}(nd:(rows.map (·.1)).Nodup)(p:ss.Perm rows)(l:ss.Pairwise<|fun a b=>cs a.1<=cs b.1):ss=V8 rows:=by
 refine JD (le:=fun a b=>cs a.1<=cs b.1) (fun a b ha hb c d=>?_) l ((G1 rows).imp fun{a b} h=>TF.mp h) (p.trans (xQ rows).symm);have e:=T6<|VC c d;have ha:=p.mem_iff.mp ha;have hb:=(xQ rows).mem_iff.mp hb;obtain⟨i,f,rfl⟩:=Z5.mp ha;obtain⟨j,g,rfl⟩:=Z5.mp hb;have:=(Vz (h₀:=by simpa using f) (h₁:=by simpa using g) nd).mp (by rwa[ZX,ZX]);subst this;rfl
theorem Wb:∀rs:Dh,(zZ rs).length=2*rs.length
 |[]=>rfl
 |r::rs=>by
  show(zZ rs).length+1+1=2*(rs.length+1);rw[Wb rs];omega
theorem Bw:∀{rs:Dh} {p:Str},p∈zZ rs->∃r∈rs,p=r.1\/p=r.2
 |r::rs,p,h=>by
  rcases Za.mp h with q|h
  ·exact⟨r,Zj ..,.inl q⟩
  ·rcases Za.mp h with q|h
   ·exact⟨r,Zj ..,.inr q⟩
   ·obtain⟨s,b,q⟩:=Bw h;exact⟨s,Zi _ b,q⟩
theorem IX (h:yB x=true):Ok 1000 x:=by
 unfold yB at h;rw[Zk,Zk,Yq,Yq]at h;refine⟨by omega,?_⟩;rw[x5];intro c b;have:=ZW.mp h.2 c b;unfold V6 at this;simp only[Zk,Yq]at this;omega
theorem Hg (g:zc S){rows:Dh}(hl:rows.length<=63)(h:∀r∈rows,yB r.1=true/\r.2∈S.map En.nm):(Th.tree rows).Good:=by
 refine⟨by show(zZ rows).length<=1000;rw[Wb];omega,fun p i=>?_⟩;obtain⟨r,j,q⟩:=Bw i;obtain⟨c,d⟩:=h r j
 rcases q with q|q
 ·rw[q];exact IX c
 ·obtain⟨e,f,b⟩:=Ze.mp d;rw[q,←b];exact g.nm f
end An
namespace AxK
structure TO (β:Type) where
 lt:β->β->Bool
 tY:∀a b,lt a b=true->lt b a=false
 uh:∀a b c,lt b a=false->lt c b=false->lt c a=false
 uD:∀a b,lt a b=false->lt b a=false->a=b
section
variable {β γ:Type}{O:TO β}
def TO.le (O:TO β)(a b:β):Prop:=O.lt b a=false
theorem TO.refl (O:TO β)(a:β):O.le a a:=by
 show O.lt a a=false;cases h:O.lt a a with
 |false=>rfl
 |true=>exact h.symm.trans<|O.tY a a h
theorem TO.of_lt {a b:β}(h:O.lt a b=true):O.le a b:=O.tY a b h
theorem TO.trans {a b c:β}(d:O.le a b)(e:O.le b c):O.le a c:=O.uh a b c d e
def TO.nat:TO Nat:=⟨fun a b=>decide (a<b),fun a b h=>by have:=Zv h;exact Zg<|by omega,fun a b c d e=>by
 have:=YU d;have:=YU e;exact Zg<|by omega,fun a b d e=>by
 have:=YU d;have:=YU e;omega⟩
def yE (O:TO β):List β->List β->Bool
 |[],[]=>false
 |[],_::_=>true
 |_::_,[]=>false
 |a::as,b::bs=>O.lt a b||(!O.lt b a&&yE O as bs)
theorem BR (O:TO β):∀a b:List β,yE O a b=true->yE O b a=false
 |[],[],h=>nomatch h
 |[],_::_,_=>rfl
 |_::_,[],h=>nomatch h
 |a::as,b::bs,h=>by
  unfold yE at h ⊢;cases c:O.lt a b with
  |true =>
   rw[O.tY _ _ c];simp
  |false =>
   rw[c]at h;have h:O.lt b a=false/\yE O as bs=true:=by simpa using h
   rw[h.1,BR O as bs h.2];rfl
theorem BQ (O:TO β):∀a b:List β,yE O a b=false->yE O b a=false->a=b
 |[],[],_,_=>rfl
 |[],_::_,h,_=>nomatch h
 |_::_,[],_,h=>nomatch h
 |a::as,b::bs,c,d=>by
  unfold yE at c d;have c:=Y3.mp c;have d:=Y3.mp d;have e:=O.uD _ _ c.1 d.1;have f:yE O as bs=false:=by have:=c.2;rw[d.1]at this;simpa using this
  have g:yE O bs as=false:=by have:=d.2;rw[c.1]at this;simpa using this
  rw[e,BQ O as bs f g]
theorem B8 (O:TO β):∀a b c:List β,yE O b a=false->yE O c b=false->yE O c a=false
 |[],[],c,_,h=>h
 |[],_::_,[],_,_=>rfl
 |[],_::_,_::_,_,_=>rfl
 |_::_,[],c,h,_=>nomatch h
 |_::_,_::_,[],_,h=>nomatch h
 |a::as,b::bs,c::cs,d,e=>by
  unfold yE at d e ⊢;have d:=Y3.mp d;have e:=Y3.mp e;rw[O.uh _ _ _ d.1 e.1,Vt];cases q:O.lt a c with
  |true=>rfl
  |false =>
   have f:a=c:=O.uD _ _ q<|O.uh _ _ _ d.1 e.1;have g:O.lt a b=false:=by rw[f];exact e.1
   have i:O.lt b c=false:=by rw[←f];exact d.1
   have j:yE O bs as=false:=by have:=d.2;rw[g]at this;simpa using this
   have l:yE O cs bs=false:=by have:=e.2;rw[i]at this;simpa using this
   rw[B8 O as bs cs j l];rfl
def TO.list (O:TO β):TO (List β):=⟨yE O,BR O,B8 O,BQ O⟩
def TO.by_ (O:TO β)(f:γ->β)(h:∀a b,f a=f b->a=b):TO γ:=⟨fun a b=>O.lt (f a)<|f b,fun a b=>O.tY _ _,fun a b c=>O.uh _ _ _,fun a b d e=>h a b<|O.uD _ _ d e⟩
end
open PySem PySem.W PyProof.Rows
def run {b:Type}(lt:Nat->Nat->Bool):KasT b->b
 | .ret a=>a
 | .ask i j k=>run lt<|k<|lt i j
theorem run_bind {b c:Type}{f:b->KasT c}:∀t:KasT b,run lt (t.bind f)=run lt (f<|run lt t)
 | .ret _=>rfl
 | .ask i j k=>run_bind<|k<|lt i j
section
variable {β:Type}{O:TO β}{key:Nat->β}
def kn (key:Nat->β)(p:Array Nat)(i:Nat):β:=key<|p.getD i 0
def Up (O:TO β)(key:Nat->β)(p:Array Nat)(n:Nat):Prop:=∀i j,i<=j->j<n->O.le (kn key p i) (kn key p j)
def Down (O:TO β)(key:Nat->β)(p:Array Nat)(n:Nat):Prop:=∀i j,i<=j->j<n->O.le (kn key p j) (kn key p i)
theorem BO {p q:Array Nat}{i j:Nat}(h:p[i]?=q[j]?):kn key p i=kn key q j:=by
 unfold kn;rw[ZL,ZL,h]
theorem Up.snoc {n:Nat}(c:1<=n)(h:Up O key p n)(hl:O.le (kn key p<|n-1)<|kn key p n):Up O key p (n+1):=fun i j b d=>by
 by_cases z:j<n
 ·exact h i j b z
 ·have z:j=n:=by omega
  subst z
  by_cases z:i=j
  ·subst z;exact O.refl _
  ·exact TO.trans (h i (j-1) (by omega)<|by omega) hl
theorem Down.snoc {n:Nat}(c:1<=n)(h:Down O key p n)(hl:O.le (kn key p n)<|kn key p<|n-1):Down O key p (n+1):=fun i j b d=>by
 by_cases z:j<n
 ·exact h i j b z
 ·have z:j=n:=by omega
  subst z
  by_cases z:i=j
  ·subst z;exact O.refl _
  ·exact TO.trans hl (h i (j-1) (by omega)<|by omega)
theorem one_up (p:Array Nat):Up O key p 1:=fun i j b c=>by
 have:i=j:=by omega
 subst this;exact O.refl _
theorem Cv:∀(f n:Nat),1<=n->Up O key p n->∃m,run (fun i j=>O.lt (key i)<|key j) (kas_asc p f n)=m/\n<=m/\m<=n+f/\Up O key p m/\(m=n+f\/O.lt (kn key p m) (kn key p<|m-1)=true)
 | 0,n,_,h=>⟨n,rfl,Q9 _,Q9 _,h,.inl rfl⟩
 |f+1,n,h1,h=>by
  unfold kas_asc;show∃m,run _ (if O.lt (kn key p n) (kn key p<|n-1)=true then KasT.ret n else kas_asc p f (n+1))=m/\_;cases q:O.lt (kn key p n) (kn key p<|n-1) with
  |true=>exact⟨n,by rw[Zp rfl];rfl,Q9 _,by omega,h,.inr q⟩
  |false =>
   rw[Zm<|by decide];obtain⟨m,e,a,b,c,d⟩:=Cv f (n+1) (by omega)<|h.snoc h1 q;exact⟨m,e,by omega,by omega,c,d.imp (fun z=>by omega) id⟩
theorem Fb {p:Array Nat}{i j:Nat}(b:j<=p.size)(k:Nat):kn key (kas_rev p i j) k=if i<=k/\k<j then kn key p (i+j-1-k) else kn key p k:=by
 have e:=getElem?_mirror_all (i:=i) b k;unfold kas_rev
 by_cases z:i<=k/\k<j
 ·rw[Zp z]at e ⊢;exact BO e
 ·rw[Zm z]at e ⊢;exact BO e
theorem XC {p:Array Nat}{i j:Nat}(b:j<=p.size)(h:∀k,i<=k->k<j->kn key p k=kn key p (j-1))(k:Nat):kn key (kas_rev p i j) k=kn key p k:=by
 rw[Fb b]
 split
 ·rw[h _ (by omega)<|by omega,h k (by omega)<|by omega]
 ·rfl
theorem y8 (p:Array Nat)(i j:Nat):(kas_rev p i j).Perm p:=mirror_perm _ _ _ _
theorem Down.vL (h:Down O key p n)(e:∀k,kn key q k=kn key p k):Down O key q n:=fun i j b c=>by
 rw[e,e];exact h i j b c
def Flat (key:Nat->β)(p:Array Nat)(n q:Nat):Prop:=q+1<=n/\∀i,n-(q+1)<=i->i<n->kn key p i=kn key p (n-1)
theorem Ih {n:Nat}(h:1<=n):Flat key p n 0:=⟨h,fun i b c=>by
 have:i=n-1:=by omega
 rw[this]⟩
theorem Xe:∀(f:Nat) (p:Array Nat) (n q:Nat),1<=n->n+f<=p.size->Down O key p n->Flat key p n q ->
  ∃p' n' q',run (fun i j=>O.lt (key i)<|key j) (kas_desc f p n q)=(p',n',q')/\p'.Perm p/\n<=n'/\n'<=n+f/\Down O key p' n'/\Flat key p' n' q'
 | 0,p,n,q,_,_,h,hq=>⟨p,n,q,rfl,Array.Perm.refl _,Q9 _,Q9 _,h,hq⟩
 |f+1,p,n,q,h1,hz,h,hq=>by
  unfold kas_desc;show∃p' n' q',run (fun i j=>O.lt (key i)<|key j) (if O.lt (kn key p n) (kn key p<|n-1)=true then(if q>0 then kas_desc f (kas_rev p (n-(q+1)) n) (n+1) 0 else kas_desc f p (n+1) 0)
   else .ask (p.getD (n-1) 0) (p.getD n 0) fun d=>if d=true then .ret (p,n,q) else kas_desc f p (n+1) (q+1))=(p',n',q')/\_
  cases c:O.lt (kn key p n) (kn key p<|n-1) with
  |true =>
   rw[Zp rfl];have hd:=h.snoc h1<|TO.of_lt c
   by_cases z:q>0
   ·rw[Zp z];have o:=XC (key:=key) (p:=p) (i:=n-(q+1)) (j:=n) (by omega) hq.2;obtain⟨p',n',q',e,a,b,d,g,k⟩:=Xe f (kas_rev p (n-(q+1)) n) (n+1) 0 (by omega) (by rw[(y8 p _ _).size_eq];omega) (hd.vL o) (Ih<|by omega);exact⟨p',n',q',e,a.trans<|y8 _ _ _,by omega,by omega,g,k⟩
   ·rw[Zm z];obtain⟨p',n',q',e,a,b,d,g,k⟩:=Xe f p (n+1) 0 (by omega) (by omega) hd (Ih<|by omega);exact⟨p',n',q',e,a,by omega,by omega,g,k⟩
  |false =>
   rw[Zm<|by decide];show∃p' n' q',run (fun i j=>O.lt (key i)<|key j) (if O.lt (kn key p<|n-1) (kn key p n)=true then KasT.ret (p,n,q) else kas_desc f p (n+1) (q+1))=(p',n',q')/\_;cases d:O.lt (kn key p<|n-1) (kn key p n) with
   |true=>exact⟨p,n,q,by rw[Zp rfl];rfl,Array.Perm.refl _,Q9 _,by omega,h,hq⟩
   |false =>
    rw[Zm<|by decide];have eq:kn key p n=kn key p (n-1):=O.uD _ _ c d;have o:Flat key p (n+1) (q+1):=⟨by have:=hq.1;omega,fun i r s=>by
     rw[show n+1-1=n by omega]
     by_cases z:i=n
     ·rw[z]
     ·rw[eq];exact hq.2 i (by omega)<|by omega⟩
    obtain⟨p',n',q',e,a,b,g,k,l⟩:=Xe f p (n+1) (q+1) (by omega) (by omega) (h.snoc h1 d) o;exact⟨p',n',q',e,a,by omega,by omega,k,l⟩
theorem Cr {p:Array Nat}{n Ds:Nat}(d:1<=n)(hn:n<=Ds)(hz:Ds<=p.size)(h:Down O key p n) :
  ∃m p',run (fun i j=>O.lt (key i)<|key j) (kas_tail3 n Ds p)=(m,p')/\p'.Perm p/\1<=m/\m<=Ds/\Up O key p' m:=by
 have up:Up O key (kas_rev p 0 n) n:=fun i j f g=>by
  rw[Fb<|by omega,Fb<|by omega,Zp<|by omega,Zp<|by omega];exact h _ _ (by omega) (by omega)
 obtain⟨m,e,a,b,c,_⟩:=Cv (Ds-n) n d up;refine⟨m,kas_rev p 0 n,?_,y8 _ _ _,by omega,by omega,c⟩;unfold kas_tail3;rw[run_bind,e];rfl
theorem U0 {p:Array Nat}{n Ds:Nat}(hn:n+1<=Ds)(hz:Ds<=p.size)(h:Down O key p<|n+1) :
  ∃m p',run (fun i j=>O.lt (key i)<|key j) (kas_descPart n Ds p)=(m,p')/\p'.Perm p/\1<=m/\m<=Ds/\Up O key p' m:=by
 obtain⟨p',g,l,e,a,b,c,d,v⟩:=Xe (Ds-(n+1)) p (n+1) 0 (by omega) (by omega) h (Ih<|by omega);have u:Ds<=p'.size:=by rwa[a.size_eq]
 unfold kas_descPart;rw[run_bind,e];show∃m f,run _ (if l>0 then kas_tail3 g Ds (kas_rev p' (g-(l+1)) g) else kas_tail3 g Ds p')=(m,f)/\_
 by_cases z:l>0
 ·rw[Zp z];have w:=XC (key:=key) (p:=p') (i:=g-(l+1)) (j:=g) (by omega) v.2;obtain⟨m,f,t,o,q,r,s⟩:=Cr (Ds:=Ds) (by omega) (by omega) (by rwa[(y8 p' _ _).size_eq]) (d.vL w);exact⟨m,f,t,(o.trans<|y8 _ _ _).trans a,q,r,s⟩
 ·rw[Zm z];obtain⟨m,f,t,o,q,r,s⟩:=Cr (Ds:=Ds) (by omega) (by omega) u d;exact⟨m,f,t,o.trans a,q,r,s⟩
theorem Kq {p:Array Nat}{Ds:Nat}(A:1<=Ds)(hz:Ds<=p.size) :
  ∃m p',run (fun i j=>O.lt (key i)<|key j) (kas_count Ds p)=(m,p')/\p'.Perm p/\1<=m/\m<=Ds/\Up O key p' m:=by
 obtain⟨n,e,a,b,c,d⟩:=Cv (O:=O) (key:=key) (p:=p) (Ds-1) 1 (Q9 _)<|one_up p;unfold kas_count;rw[run_bind,e]
 by_cases z:n=Ds
 ·rw[Zp<|by simpa using z];exact⟨n,p,rfl,Array.Perm.refl _,a,by omega,c⟩
 rw[Zm<|by simpa using z];have l:O.lt (kn key p n) (kn key p<|n-1)=true:=d.resolve_left (by omega)
 by_cases g:n>1
 ·rw[Zp g];show∃m p',run _ (if O.lt (kn key p 0) (kn key p<|n-1)=true then KasT.ret (n,p) else kas_descPart n Ds (kas_rev p 0 n))=(m,p')/\_;cases q:O.lt (kn key p 0) (kn key p<|n-1) with
  |true =>
   rw[Zp rfl];exact⟨n,p,rfl,Array.Perm.refl _,a,by omega,c⟩
  |false =>
   rw[Zm<|by decide];have f:∀k,0<=k->k<n->kn key p k=kn key p (n-1):=fun k _ hk =>
    O.uD _ _ (TO.trans q<|c 0 k (by omega) hk) (c k (n-1) (by omega)<|by omega)
   have y:=XC (key:=key) (p:=p) (i:=0) (j:=n) (by omega) f;have w:Down O key p n:=fun i j o r=>by
    rw[f i (by omega)<|by omega,f j (by omega) r];exact O.refl _
   obtain⟨m,p',x,s,t,u,v⟩:=U0 (O:=O) (key:=key) (p:=kas_rev p 0 n) (n:=n) (Ds:=Ds) (by omega) (by rwa[(y8 p _ _).size_eq]) ((w.snoc a<|TO.of_lt l).vL y);exact⟨m,p',x,s.trans<|y8 _ _ _,t,u,v⟩
 ·rw[Zm g];have g:n=1:=by omega
  subst g;exact U0 (by omega) hz (Down.snoc (Q9 _) (fun i j o r=>by
   have:i=j:=by omega
   subst this;exact O.refl _)<|TO.of_lt l)
theorem XG (hs:Up O key p k):∀(f l r:Nat),l<=r->r<=k->r-l<=f->(∀i,i<l->O.le (kn key p i) (kn key p k))->(∀i,r<=i->i<k->O.lt (kn key p k) (kn key p i)=true) ->
  ∃m,run (fun i j=>O.lt (key i)<|key j) (kas_place p k f l r)=m/\m<=k/\(∀i,i<m->O.le (kn key p i) (kn key p k))/\(∀i,m<=i->i<k->O.lt (kn key p k) (kn key p i)=true)
 | 0,l,r,h1,h2,h3,h4,h5=>⟨l,rfl,by omega,h4,fun i c b=>h5 i (by omega) b⟩
 |f+1,l,r,h1,h2,h3,h4,h5=>by
  unfold kas_place
  by_cases z:l≥r
  ·rw[Zp z];exact⟨l,rfl,by omega,h4,fun i c b=>h5 i (by omega) b⟩
  rw[Zm z];show∃m,run _ (if O.lt (kn key p k) (kn key p<|(l+r) / 2)=true then kas_place p k f l ((l+r) / 2) else kas_place p k f ((l+r) / 2+1) r)=m/\_;cases q:O.lt (kn key p k) (kn key p<|(l+r) / 2) with
  |true =>
   rw[Zp rfl];refine XG hs f l ((l+r) / 2) (by omega) (by omega) (by omega) h4 fun i c b=>?_;cases w:O.lt (kn key p k) (kn key p i) with
   |true=>rfl
   |false =>
    have:=O.uh _ _ _ (hs _ _ c b) w;rw[q]at this;exact this.symm
  |false =>
   rw[Zm<|by decide];exact XG hs f ((l+r) / 2+1) r (by omega) (by omega) (by omega) (fun i c=>TO.trans (hs i ((l+r) / 2) (by omega)<|by omega) q) h5
theorem IB {p:Array Nat}{k l:Nat}(hk:k<p.size)(hl:l<=k)(i:Nat):kn key (bubble p k<|k-l) i=if i=l then kn key p k else if l<i/\i<=k then kn key p (i-1) else kn key p i:=by
 have e:=getElem?_bubble hk (k-l) (by omega) i;rw[show k-(k-l)=l by omega]at e
 by_cases z:i=l
 ·rw[Zp z]at e ⊢;exact BO e
 ·rw[Zm z]at e ⊢
  by_cases z:l<i/\i<=k
  ·rw[Zp z]at e ⊢;exact BO e
  ·rw[Zm z]at e ⊢;exact BO e
theorem Kn:∀(f:Nat) (p:Array Nat) (k:Nat),k+f<=p.size->Up O key p k->∃p',run (fun i j=>O.lt (key i)<|key j) (kas_bin f p k)=p'/\p'.Perm p/\Up O key p' (k+f)
 | 0,p,k,_,h=>⟨p,rfl,Array.Perm.refl _,h⟩
 |f+1,p,k,hz,h=>by
  obtain⟨m,e,a,b,c⟩:=XG h k 0 k (by omega) (Q9 _) (by omega) (fun i o=>by omega) (fun i r s=>by omega);have up:Up O key (bubble p k<|k-m) (k+1):=fun i j n q=>by
   rw[IB (by omega) a,IB (by omega) a]
   repeat' split
   all_goals first
    |(exfalso;omega)
    |exact O.refl _
    |exact b _ (by omega)
    |exact TO.of_lt (c _ (by omega)<|by omega)
    |exact h _ _ (by omega) (by omega)
  obtain⟨p',l,d,g⟩:=Kn f (bubble p k<|k-m) (k+1) (by rw[bubble_size];omega) up;unfold kas_bin;rw[run_bind,e];exact⟨p',l,d.trans<|bubble_perm _ _ _,by rw[show k+(f+1)=k+1+f by omega];exact g⟩
theorem NX {n:Nat}(r:1<=n):∃p',run (fun i j=>O.lt (key i)<|key j) (kas_sort n)=p'/\p'.Perm (Lc<|EX n)/\Up O key p' n:=by
 have l:(Lc<|EX n).size=n:=by simp
 obtain⟨m,p',e,a,b,c,d⟩:=Kq (O:=O) (key:=key) (p:=Lc<|EX n) (Ds:=n) r<|Vd l.symm;unfold kas_sort;rw[run_bind,e];show∃f,run _ (if m<n then kas_bin (n-max m 1) p' (max m 1) else KasT.ret p')=f/\_;have em:max m 1=m:=by omega
 rw[em]
 by_cases z:m<n
 ·rw[Zp z];obtain⟨f,q,o,g⟩:=Kn (n-m) p' m (by rw[a.size_eq,l];omega) d;exact⟨f,q,o.trans a,by rw[show m+(n-m)=n by omega]at g;exact g⟩
 ·rw[Zm z];have z:m=n:=by omega
  rw[z]at d;exact⟨p',rfl,a,d⟩
end
def Asks (n:Nat){c:Type}(R:c->Prop):KasT c->Prop
 | .ret a=>R a
 | .ask i j k=>i<n/\j<n/\∀b,Asks n R<|k b
theorem Asks.bind {c g:Type}{R:c->Prop}{d:g->Prop}{f:c->KasT g}(e:∀a,R a->Asks n d (f a)):∀{t:KasT c},Asks n R t->Asks n d (t.bind f)
 | .ret a,h=>e a h
 | .ask i j k,h=>⟨h.1,h.2.1,fun b=>Asks.bind e<|h.2.2 b⟩
theorem Asks.wp {n:Nat}{c:Type}{R:c->Prop}{b:Nat->Nat->(Bool->Di)->Di}{lt:Nat->Nat->Bool}{s:Eo}(d:∀i j,i<n->j<n->∀C:Bool->Di,C (lt i j) s->b i j C s){Q:c->Di} :
  ∀{t:KasT c},Asks n R t->Q (run lt t) s->t.kasWp b Q s
 | .ret _,_,q=>q
 | .ask i j k,h,q=>d i j h.1 h.2.1 _<|Asks.wp d (h.2.2 _) q
def Bd (n:Nat)(p:Array Nat):Prop:=∀i:Nat,p.getD i 0<n
theorem Bd.perm {q:Array Nat}(h:Bd n p)(e:q.Perm p):Bd n q:=fun i=>by
 rw[ZL]
 rcases VF i q.size with z|z
 ·rw[VG q i z];have hm:q[i]∈p:=e.mem_iff.mp<|Array.getElem_mem z;obtain⟨j,c,b⟩:=Array.getElem_of_mem hm;have:=h j;rw[ZL,VG p j c,b]at this;exact this
 ·rw[Jg z];have:=h p.size;rw[ZL,Jg<|Q9 _]at this;exact this
theorem XT (h:Bd n p):∀f m:Nat,Asks n (fun _=>True) (kas_asc p f m)
 | 0,m=>trivial
 | f+1,m=>⟨h _,h _,fun c=>by
  show Asks n _ (if c=true then KasT.ret m else kas_asc p f (m+1))
  split
  ·trivial
  ·exact XT h f (m+1)⟩
theorem jK:∀(f:Nat) (p:Array Nat) (m q:Nat),Bd n p->Asks n (fun r=>Bd n r.1) (kas_desc f p m q)
 | 0,p,m,q,h=>h
 | f+1,p,m,q,h=>⟨h _,h _,fun c=>by
  cases c with
  |true =>
   show Asks n _ (if q>0 then kas_desc f (kas_rev p (m-(q+1)) m) (m+1) 0 else kas_desc f p (m+1) 0)
   split
   ·exact jK f _ _ _ (h.perm<|y8 _ _ _)
   ·exact jK f _ _ _ h
  |false =>
   refine⟨h _,h _,fun d=>?_⟩;cases d with
   |true=>exact h
   |false=>exact jK f _ _ _ h⟩
theorem XE {m r:Nat}(h:Bd n p):Asks n (fun r=>Bd n r.2) (kas_tail3 m r p):=by
 have b:Bd n (kas_rev p 0 m):=h.perm<|y8 _ _ _;unfold kas_tail3;refine Asks.bind (fun a _=>?_)<|XT b _ _;exact b
theorem jJ {m r:Nat}(h:Bd n p):Asks n (fun r=>Bd n r.2) (kas_descPart m r p):=by
 refine Asks.bind (fun a ha=>?_)<|jK _ _ _ _ h;show Asks n _ (if a.2.2>0 then _ else _)
 split
 ·exact XE (Bd.perm ha<|y8 _ _ _)
 ·exact XE ha
theorem CA {r:Nat}(h:Bd n p):Asks n (fun r=>Bd n r.2) (kas_count r p):=by
 refine Asks.bind (fun a _=>?_)<|XT h _ _;show Asks n _ (if(a==r)=true then _ else _)
 split
 ·exact h
 ·split
  ·refine⟨h _,h _,fun c=>?_⟩;cases c with
   |true=>exact h
   |false=>exact jJ<|h.perm<|y8 _ _ _
  ·exact jJ h
theorem j4 {k:Nat}(h:Bd n p):∀f l r:Nat,Asks n (fun _=>True) (kas_place p k f l r)
 | 0,l,r=>trivial
 |f+1,l,r=>by
  unfold kas_place
  split
  ·trivial
  ·refine⟨h _,h _,fun c=>?_⟩;cases c with
   |true=>exact j4 h f _ _
   |false=>exact j4 h f _ _
theorem BL:∀(f:Nat) (p:Array Nat) (k:Nat),Bd n p->Asks n (fun r=>Bd n r) (kas_bin f p k)
 | 0,p,k,h=>h
 |f+1,p,k,h=>Asks.bind (fun l _=>BL f _ _<|h.perm<|bubble_perm _ _ _) (j4 h _ _ _)
theorem HY {n:Nat}(b:1<=n):Asks n (fun r=>Bd n r) (kas_sort n):=by
 have h:Bd n (Lc<|EX n):=fun i=>by
  rw[ZL,Jl]
  rcases VF i n with z|z
  ·rwa[List.getElem?_range z]
  ·rw[ZN<|by rwa[YE]];exact b
 refine Asks.bind (fun a ha=>?_)<|CA h;show Asks n _ (if a.1<n then _ else _)
 split
 ·exact BL _ _ _ ha
 ·exact ha
end AxK
namespace L2
open PySem PyProof.Rows
mutual
def Pf:Er->Er->Bool->Prop
 | .int a,.int b,r=>r=decide (a<b)
 | .str a,.str b,r=>r=decide (a.cps.toList<b.cps.toList)
 | .tuple xs,.tuple ys,r=>N7 xs ys r
 |_,_,_=>False
def N7:Dg->Dg->Bool->Prop
 |[],ys,r=>r=decide (0<ys.length)
 |_::_,[],r=>r=false
 |x::xs,y::ys,r=>(EG x y=true/\N7 xs ys r)\/(EG x y=false/\Pf x y r)
end
section
variable {prog:Ek}{w:Ep}
def Fq (prog:Ek)(w:Ep)(A:ED)(r:Bool)(b:Bool)(s:Eo):List (Ej×Ej)->Prop
 |[]=>b=r
 |p::l=>(∀(Q:Bool->Di) (E:Ej->Di),Q true s->Em (Et prog w) A (eqBool p.1 p.2) Q E s)/\Fq prog w A r b s l \/
  (∀(Q:Bool->Di) (E:Ej->Di),Q false s->Em (Et prog w) A (eqBool p.1 p.2) Q E s) /\
  (∀(Q:Ej->Di) (E:Ej->Di),Q (.bool r) s->Em (Et prog w) A (richCompare .Lt p.1 p.2) Q E s)
theorem Im {A:ED}{E:Ej->Di}{s:Eo}{a b:Ei}{p ob:Obj}{xs ys:Array Ej}{t nb:Nat}{r:Bool}{P:Fin->Di}
  (o:s.heap.get? a=some p) (l:p.data=.seq xs t) (e:s.heap.get? b=some ob) (j:ob.cls=.type "tuple") (n:ob.data=.seq ys nb)
  (q:Fq prog w A r (decide (xs.size<ys.size)) s (xs.toList.zip ys.toList)) (h:P (.done<|.ret<|.bool r) s) :
  Em (Et prog w) A (Builtin.«tuple.__lt__» ⟨[.ref a,.ref b],[]⟩) P E s:=by
 have g:s.TypeIs (.ref b) "tuple":=⟨ob,e,j⟩;show Em _ _ (isInstance (.ref b) (.type "tuple")>>=_) _ _ s;refine Q4<|Yx g isSubtype_tuple_tuple ?_;simp only[Vv,ZZ,Y7];refine Q4<|Vi o l<|Q4<|Vi e n<|Q4 ?_;refine VB _ (fun d c f=>c.1=none/\f=s/\Fq prog w A r (decide (xs.size<ys.size)) s d) _ ?_ ?_ _ _ ⟨rfl,rfl,q⟩
 ·rintro⟨u,v⟩ d c f ⟨i,rfl,ha⟩
  rcases ha with⟨h1,h2⟩|⟨h1,h2⟩
  ·refine Q4 (h1 _ _ ?_);simp only[Vv,ZZ,Y7];exact Q7 ⟨rfl,rfl,h2⟩
  ·refine Q4 (h1 _ _ ?_);simp only[Bool.not_false,if_true];refine Q4<|Jq<|Q4<|h2 _ _<|Q4<|Q7<|Q7 ?_;exact Q7 h
 ·rintro⟨x,y⟩ f ⟨i,rfl,ha⟩;simp only at i;subst i;refine Q7 ?_;have ha:decide (xs.size<ys.size)=r:=ha;show P (.done<|.ret<|.bool<|decide (xs.size<ys.size)) f;rwa[ha]
def Kj (prog:Ek)(w:Ep)(d:Er):Prop:=∀(e:Er) (r:Bool) (A:ED) (s:Eo) (a b:Ej) (c bs:De),Reads s.heap a d c->Reads s.heap b e bs->d.canLay0=true->e.canLay0=true->A.units+min d.depth e.depth<E4->Pf d e r ->
  ∀(Q:Ej->Di) (E:Ej->Di),Q (.bool r) s->Em (Et prog w) A (richCompare .Lt a b) Q E s
def Bg (prog:Ek)(w:Ep)(xs:Dg):Prop:=∀(b:Dg) (r:Bool) (A:ED) (s:Eo) (d c:Db) (e bs:De),LG s.heap d xs e->LG s.heap c b bs->Ew xs=true->Ew b=true->A.units+min (EF xs) (EF b)<E4->N7 xs b r ->
  ∀k:Nat,Fq prog w A r (decide (k+d.length<k+c.length)) s (d.zip c)
theorem HM (i:Int):Kj prog w (.int i):=by
 intro e r A s a b f bs c d _ _ _ h Q E q;cases e with
 |int j =>
  cases c;cases d;cases(show r=_ from h);exact(lt_int q:Em _ _ (EJ .Lt _ _) _ _ _)
 |_=>exact EH h
theorem HN (i:Str):Kj prog w (.str i):=by
 intro e r A s a b f bs c d _ _ _ h Q E q;cases e with
 |str j =>
  cases c;cases d;cases(show r=_ from h);exact(lt_str q:Em _ _ (EJ .Lt _ _) _ _ _)
 |_=>exact EH h
theorem HP (f:Bg prog w xs):Kj prog w (.tuple xs):=by
 intro e r A s a b j bs g i ha hb d h Q E q;cases e with
 |tuple ys =>
  cases g with
  |tuple h1 h2 h3 h4 =>
   cases i with
   |tuple k1 k2 k3 k4 =>
    have c:=f ys r A.in1 s _ _ _ _ h4 k4 ha hb (SeqAt.room_in d) h 0;rw[Nat.zero_add,Nat.zero_add,Zw,Zw]at c;exact wpAny_richCompare_same_room (op:=.Lt) ⟨_,h1,h2⟩ ⟨_,k1,k2⟩ F.slot_tuple_lt
     (ZO F.slot_tuple_lt ⟨_,h1,h2⟩ F.entry_tuple_lt (Im h1 h3 k1 k2 k3 (r:=r) c ⟨_,rfl,(fun e=>nomatch e),q⟩)<|F.args_tuple_lt_2 _ _) (SeqAt.room_here d)
 |_=>exact EH h
theorem Nr:Bg prog w []:=by
 intro f r A s i b g bs c d _ _ _ h k;cases c;have e:b.length=f.length:=SeqAt.ReadsAll.length _ _ _ d;rw[List.zip_nil_left];show decide (k+0<k+b.length)=r;rw[show r=_ from h,e];exact Y9.mpr (by omega)
theorem KQ (p:Kj prog w x)(t:Bg prog w xs):Bg prog w (x::xs):=by
 intro f r A s j i C bs n o z B l h k;cases f with
 |nil =>
  cases o;cases n;rw[List.zip_nil_right];show decide (k+_<k+0)=r;rw[show r=_ from h];exact Zg (by omega)
 |cons y f =>
  have b:x.canLay0=true/\Ew xs=true:=by simpa[Ew] using z
  have c:y.canLay0=true/\Ew f=true:=by simpa[Ew] using B
  have d:A.units+min x.depth y.depth<cLine:=SeqAt.room_head l;have g:A.units+min (EF xs) (EF f)<cLine:=SeqAt.room_tail l;cases n with
  | @cons v j _ _ _ _ p1 p2 =>
   cases o with
   | @cons u i _ _ _ _ q1 q2 =>
    rw[List.zip_cons_cons];have h:(EG x y=true/\N7 xs f r)\/(EG x y=false/\Pf x y r):=h
    rcases h with⟨e,h⟩|⟨e,h⟩
    ·refine .inl ⟨fun Q E q=>LM prog w A E s _ _ _ _ _ _ Q p1 q1 b.1 c.1 d<|by rwa[e],?_⟩;have D:=t f r A s _ _ _ _ p2 q2 b.2 c.2 g h<|k+1;rwa[ZF,ZF,show k+(j.length+1)=k+1+j.length by omega,show k+(i.length+1)=k+1+i.length by omega]
    ·exact .inr ⟨fun Q E q=>LM prog w A E s _ _ _ _ _ _ Q p1 q1 b.1 c.1 d<|by rwa[e],fun Q E q=>p y r A s _ _ _ _ p1 q1 b.1 c.1 d h Q E q⟩
mutual
theorem KN:∀d:Er,Kj prog w d
 | .int i=>HM i
 | .str i=>HN i
 | .tuple xs=>HP<|KO xs
 | .none=>fun e r A s a b c bs f g _ _ _ h=>EH h
 | .bool _=>fun e r A s a b c bs f g _ _ _ h=>EH h
 | .list _=>fun e r A s a b c bs f g _ _ _ h=>EH h
 | .dict _=>fun e r A s a b c bs f g _ _ _ h=>EH h
theorem KO:∀xs:Dg,Bg prog w xs
 |[]=>Nr
 |x::xs=>KQ (KN x)<|KO xs
end
end
end L2
namespace L2
open PySem PySem.Spec PyProof.Rows PySem.W AxK
section
variable {prog:Ek}{w:Ep}{A:ED}{E:Ej->Di}{s:Eo}
theorem Fe {a:Ei}{vs:Db}{n:Nat}{κ:SortKind}{lt:Nat->Nat->Bool}{P:PySem.Fin->Di}(x:s.heap.get? a=some (Li "list" vs.toArray n))(y:vs.length<64)
  (hk:2<=vs.length->∀s1:Eo,(∀b o,b≠a->s.heap.get? b=some o->s1.heap.get? b=some o)->(∀(Q:SortKind->Di) (E':Ej->Di),Q κ s1->Em (Et prog w) A (keyKind' vs.toArray) Q E' s1) /\ ∀i j,i<vs.length->j<vs.length->∀C:Bool->Di,C (lt i j) s1->kas_ask prog w A κ vs i j C s1)
  (h:∀p:Array Nat,(vs.length<2/\p=Lc (EX vs.length))\/(2<=vs.length/\p=run lt (kas_sort vs.length))->P (.done<|.ret .none) { s with heap:=sortedHeap s.heap a vs (Lc<|p.toList.map fun i=>vs.getD i EA) }) :
  Em (Et prog w) A (Builtin.«list.sort» ⟨[.ref a],[]⟩) P E s:=by
 have ha:a<s.heap.objs.size:=Zd x;have O:=EQ s.heap a<|E8 fun _=>(#[]:Array Ej);obtain⟨n1,t⟩:∃H,(s.heap.update a<|E8 fun _=>(#[]:Array Ej)).get? a=some (Li "list" #[] H):=⟨_,get?_update_seq x fun _=>#[]⟩;have d:(((s.heap.update a<|E8 fun _=>(#[]:Array Ej)).push (Li "tuple" vs.toArray 0)).push (Li "list" #[] 0)).get? a=some (Li "list" #[] n1):=Q6 _<|Q6 _ t;have keep:∀b o,b≠a->s.heap.get? b=some o->(((s.heap.update a<|E8 fun _=>(#[]:Array Ej)).push (Li "tuple" vs.toArray 0)).push (Li "list" #[] 0)).get? b=some o:=fun b o hb q =>
  Q6 _ (Q6 _<|by rwa[Heap.get?_update_ne _ _ _ _ hb])
 have c:vs.toArray.size=vs.length:=by simp
 rw[list_sort_plain];refine Q4 (listItems_at x rfl<|Q4<|listUpdate_at x rfl (Q4<|seqEpoch_at t rfl<|Q4<|wpAny_newTuple (Q4<|Vy (ZV ?_)<|ZA _) (by show vs.length<=_;rw[Ya];omega)) (by rw[Zn,Ya];omega)<|ZA _);show Em (Et prog w) A _ P E { s with heap:=((s.heap.update a<|E8 fun _=>#[]).push<|Li "tuple" vs.toArray 0).push (Li "list" #[] 0) };dsimp only
 by_cases J:vs.length<2
 ·have r:=h (Lc<|EX vs.length)<|.inl ⟨J,rfl⟩;have I:(Lc<|(Lc<|EX vs.length).toList.map fun i=>vs.getD i EA)=(vs.toArray.zip vs.toArray).map (·.2):=by
   have e:=kas_range<|vs.toArray.zip vs.toArray;rw[show(vs.toArray.zip vs.toArray).size=vs.length by simp]at e;exact(kat_snds (ks:=vs) (vs:=vs) (st:=SortSt.mk' general' (vs.toArray.zip vs.toArray) #[] 7 none) rfl e.symm).symm
  rw[I]at r;rw[Zp<|by rwa[c],Zp<|by rwa[c]];refine Q4<|Q7 ?_;rw[StateT.run_pure];refine Q4<|Q7 ?_;dsimp only;refine Q4 (seqEpoch_at d rfl<|Q4<|listUpdate_at d rfl ?_ (ZA _) (by rw[Array.size_map,Array.size_zip,c,Nat.min_self,Ya];omega));simp only[bne_self_eq_false,ZZ,Y7];exact Q7 r
 ·have l:2<=vs.length:=by omega
  rw[Zm<|by rwa[c],Zm<|by rwa[c]];obtain⟨M,N⟩:=hk l { s with heap:=((s.heap.update a<|E8 fun _=>(#[]:Array Ej)).push (Li "tuple" vs.toArray 0)).push (Li "list" #[] 0) } keep;refine Q4<|M _ _ ?_;have g:(kas_sort vs.length).kasWp (kas_ask prog w A κ vs) (fun p v=>p=run lt (kas_sort vs.length)/\v={ s with heap:=((s.heap.update a<|E8 fun _=>(#[]:Array Ej)).push (Li "tuple" vs.toArray 0)).push (Li "list" #[] 0) })
    { s with heap:=((s.heap.update a<|E8 fun _=>(#[]:Array Ej)).push (Li "tuple" vs.toArray 0)).push (Li "list" #[] 0) }:=(HY<|by omega).wp N ⟨rfl,rfl⟩
  refine Q4 (Z3 (kat_run (Q:=fun f v=>arrOf f=(run lt<|kas_sort vs.length).map (kas_item<|vs.toArray.zip vs.toArray)/\failedOf f=none/\(run lt<|kas_sort vs.length).size=vs.length/\v={ s with heap:=((s.heap.update a<|E8 fun _=>(#[]:Array Ej)).push (Li "tuple" vs.toArray 0)).push (Li "list" #[] 0) }) rfl l y (fun R f v B D F G=>by obtain⟨rfl,rfl⟩:=G;exact⟨D,F,B,rfl⟩) g) ?_ fun _ _ e=>e)
  rintro⟨⟨⟩,f⟩ v ⟨z,K,L,rfl⟩;dsimp only;have u:=kat_snds rfl z;rw[u];refine Q4 (seqEpoch_at d rfl<|Q4<|listUpdate_at d rfl ?_ (ZA _) (by rw[Zn,Q5,Zw,L,Ya];omega));rw[K];simp only[bne_self_eq_false,ZZ,Y7];exact Q7<|h _<|.inr ⟨l,rfl⟩
def XW (T:String):Er->Prop
 | .tuple (.int _::_)=>T="int"
 | .tuple (.str _::_)=>T="str"
 | .tuple (.tuple _::_)=>T="tuple"
 |_=>False
def On (h h':EC)(d:Er):Prop:=∀(v:Ej) (b:De),d.canLay0=true->Reads h v d b->Reads h' v d b
def M9 (h h':EC)(b:Dg):Prop:=∀(d:Db) (c:De),Ew b=true->LG h d b c->LG h' d b c
mutual
theorem Fa {h h':EC}(k:∀b o,h.get? b=some o->h'.get? b=some o):∀d:Er,On h h' d
 | .none=>fun v c _ r=>by cases r;exact .none
 | .bool _=>fun v c _ r=>by cases r;exact .bool _
 | .int _=>fun v c _ r=>by cases r;exact .int _ _
 | .str _=>fun v c _ r=>by cases r;exact .str _ _
 | .list xs=>fun v c l r=>by
  have e:=xO k xs;cases r with
  |list h1 h2 h3 h4=>exact .list (k _ _ h1) h2 h3<|e _ _ l h4
 | .tuple xs=>fun v c l r=>by
  have e:=xO k xs;cases r with
  |tuple h1 h2 h3 h4=>exact .tuple (k _ _ h1) h2 h3<|e _ _ l h4
 | .dict Dm=>fun v c l r=>nomatch l
theorem xO {h h':EC}(k:∀b o,h.get? b=some o->h'.get? b=some o):∀ds:Dg,M9 h h' ds
 |[]=>fun g c _ r=>by cases r;exact .nil
 |d::ds=>fun g c l r=>by
  have e:=Fa k d;have f:=xO k ds;have l:d.canLay0=true/\Ew ds=true:=by simpa[Ew] using l
  cases r with
  |cons h1 h2=>exact .cons (e _ _ l.1 h1)<|f _ _ l.2 h2
end
theorem IR {h:EC}:∀{ds:Dg} {us:Db} {as:De},LG h us ds as->(∀d∈ds,XW T d)->∃fs:Db,fs.length=ds.length/\KatTups h us fs/\∀v∈fs,(T="int"/\∃i t,v=.int i t)\/(T="str"/\∃i t,v=.str i t)\/(T="tuple"/\∃a o,v=.ref a/\h.get? a=some o/\o.cls=.type "tuple")
 |[],_,_,r,_=>by
  cases r;exact⟨[],rfl,KatTups.nil,fun v hv=>(nomatch hv)⟩
 |d::ds,_,_,r,hf=>by
  cases r with
  |cons r1 r2 =>
   obtain⟨fs,c,e,f⟩:=IR r2 fun x g=>hf x<|Zi _ g;have hd:=hf d<|Zj ..;unfold XW at hd
   split at hd
   all_goals first
    |exact hd.elim
    | (cases r1 with
     |tuple h1 h2 h3 h4 =>
      rename_i b nx;cases q:b.toList with
      |nil=>rw[q]at h4;cases h4
      |cons v0 vr =>
       rw[q]at h4;have n:b[0]?=some v0:=by rw[←Z6,q];rfl
       cases h4 with
       |cons g1 g2 =>
        refine⟨v0::fs,by rw[ZF,ZF,c],KatTups.cons h1 h2 h3 n e,fun v hv=>?_⟩
        rcases Za.mp hv with rfl|hv
        ·cases g1
         first
          |exact .inl ⟨hd,_,_,rfl⟩
          |exact .inr (.inl ⟨hd,_,_,rfl⟩)
          |(rename_i j l p s;exact .inr<|.inr ⟨hd,_,_,rfl,j,l⟩)
        ·exact f v hv)
theorem No {b:Dg}{us:Db}{as:De}(r:LG s.heap us b as)(f:∀d∈b,XW T d)(hn:0<b.length){Q:SortKind->Di}(q:Q (tuples'<|Value.type T !=Value.type "tuple") s) :
  Em (Et prog w) A (keyKind' us.toArray) Q E s:=by
 obtain⟨fs,g,c,e⟩:=IR r f;refine kat_kind c (by omega) (T:=.type T) (fun v hv=>?_) (by simp) q
 rcases e v hv with⟨rfl,i,t,rfl⟩|⟨rfl,i,t,rfl⟩|⟨rfl,a,o,rfl,ho,hc⟩
 ·exact .now
 ·exact .now
 ·rw[←hc];exact(Looks.ld ho).andThen .now
def Oq (x y:Er):Prop:=(∃i j,x=.int i/\y=.int j)\/(∃i j,x=.str i/\y=.str j)
theorem OJ {b:Bool}{Q:Bool->Di}{r:Bool}(q:Q r s)(xs:Dg):∀(ys:Dg) (vs us:Db) (as bs:De) (i k:Nat),LG s.heap vs xs as->LG s.heap us ys bs->Ew xs=true->Ew ys=true->A.units+min (EF xs) (EF ys)<E4 ->
  N7 xs ys r->(b=true->i=0->∀x xs' y ys',xs=x::xs'->ys=y::ys'->Oq x y)->KatLex prog w A b (decide (k+vs.length<k+us.length)) Q (vs.zip us) i s:=by
 induction xs with
 |nil =>
  intro ys vs us as bs i k j l _ _ _ h _;cases j;have e:us.length=ys.length:=SeqAt.ReadsAll.length _ _ _ l;rw[List.zip_nil_left];show Q (decide (k+0<k+us.length)) s;rw[show decide (k+0<k+us.length)=r by rw[show r=_ from h,e];exact Y9.mpr<|by omega];exact q
 |cons x xs t =>
  intro ys vs us as bs i k j l B C p h hb;cases ys with
  |nil =>
   cases l;cases j with
   | @cons v vs _ _ _ _ p1 p2 =>
    rw[List.zip_nil_right];show Q (decide (k+(vs.length+1)<k+0)) s;rw[show decide (k+(vs.length+1)<k+0)=r by rw[show r=_ from h];exact Zg<|by omega];exact q
  |cons y ys =>
   have d:x.canLay0=true/\Ew xs=true:=by simpa[Ew] using B
   have f:y.canLay0=true/\Ew ys=true:=by simpa[Ew] using C
   have g:A.units+min x.depth y.depth<cLine:=SeqAt.room_head p;have n:A.units+min (EF xs) (EF ys)<cLine:=SeqAt.room_tail p;cases j with
   | @cons v vs _ _ _ _ p1 p2 =>
    cases l with
    | @cons u us _ _ _ _ q1 q2 =>
     rw[List.zip_cons_cons];refine kat_cons ?_;have h:(EG x y=true/\N7 xs ys r)\/(EG x y=false/\Pf x y r):=h
     rcases h with⟨e,h⟩|⟨e,h⟩
     ·refine LM prog w A _ s _ _ _ _ _ _ _ p1 q1 d.1 f.1 g ?_;rw[e];refine kat_yes ?_;have t:=t ys vs us _ _ (i+1) (k+1) p2 q2 d.2 f.2 n h (fun _ z=>by omega);rwa[ZF,ZF,show k+(vs.length+1)=k+1+vs.length by omega,show k+(us.length+1)=k+1+us.length by omega]
     ·refine LM prog w A _ s _ _ _ _ _ _ _ p1 q1 d.1 f.1 g ?_;rw[e];refine kat_no ?_;cases c:(b&&i==0) with
      |true =>
       have o:b=true/\i=0:=by simpa using c
       rcases hb o.1 o.2 x xs y ys rfl rfl with⟨i1,j1,rfl,rfl⟩|⟨i1,j1,rfl,rfl⟩
       ·cases p1;cases q1;refine kat_lt_int ?_;rwa[←(show r=_ from h)]
       ·cases p1;cases q1;refine kas_lt_str ?_;rwa[←(show r=_ from h)]
      |false=>exact kat_one _ _<|KN x y r A s _ _ _ _ p1 q1 d.1 f.1 g h _ _ q
theorem HI {d e:Er}{u v:Ej}{as bs:De}{C:Bool->Di}(o:Reads s.heap u d as)(p:Reads s.heap v e bs)(g:XW T d)(f:XW T e)(ld:d.canLay0=true)(le:e.canLay0=true)(n:A.units+min d.depth e.depth<E4)(h:Pf d e r)(c:C r s) :
  Em (Et prog w) A (keyLt' (tuples'<|Value.type T !=Value.type "tuple") u v) C (fun _ _=>False) s:=by
 cases d with
 |tuple xs =>
  cases e with
  |tuple ys =>
   cases o with
   |tuple h1 h2 h3 h4 =>
    cases p with
    |tuple k1 k2 k3 k4 =>
     refine kat_lt h1 h3 k1 k3 ?_;have:=OJ (prog:=prog) (w:=w) (A:=A) (b:=(Value.type T !=Value.type "tuple")) c xs ys _ _ _ _ 0 0 h4 k4 ld le (by
      have i:(PyData.tuple xs).depth=EF xs+1:=rfl;have j:(PyData.tuple ys).depth=EF ys+1:=rfl;rw[i,j]at n;omega) h (fun hb _ x q y t ex l=>by
      subst ex l;unfold XW at g f
      split at g
      ·rename_i e;cases e
       split at f
       ·rename_i e;cases e;exact .inl ⟨_,_,rfl,rfl⟩
       ·rw[g]at f;exact absurd f (by decide)
       ·rw[g]at f;exact absurd f (by decide)
       ·exact f.elim
      ·rename_i e;cases e
       split at f
       ·rw[g]at f;exact absurd f (by decide)
       ·rename_i e;cases e;exact .inr ⟨_,_,rfl,rfl⟩
       ·rw[g]at f;exact absurd f (by decide)
       ·exact f.elim
      ·subst g;simp at hb
      ·exact g.elim)
     simpa using this
  |_=>exact f.elim
 |_=>exact g.elim
end
section
variable {X:Cx}{K:Ca}
theorem ID:∀{vs:Dk} {us:Db},W2 vs us->∀(p:List Nat),(∀i∈p,i<vs.length)->W2 (p.map fun i=>vs.getD i .non) (p.map fun i=>us.getD i EA)
 |vs,us,r,[],_=>.nil
 |vs,us,r,i::p,h=>by
  refine .cons ?_<|ID r p fun j d=>h j<|Zi _ d;have c:=h i<|Zj ..;have go:∀{vs:Dk} {us:Db} (i:Nat),W2 vs us->i<vs.length->WX (vs.getD i .non) (us.getD i EA):=fun{vs us} i r c=>by
   induction i generalizing vs us with
   |zero =>
    cases r with
    |nil=>exact absurd c<|VM _
    |cons a b=>exact a
   |succ i ih =>
    cases r with
    |nil=>exact absurd c<|VM _
    |cons a b=>exact ih b (by simpa using c)
  exact go i r c
theorem FA (h:W6 K H ds vs):∀(p:List Nat),(∀i∈p,i<vs.length)->W6 K H (p.map fun i=>ds.getD i .none) (p.map fun i=>vs.getD i .non)
 |[],_=>rfl
 |i::p,hp=>by
  have b:=hp i<|Zj ..;obtain⟨d,c,f⟩:=h.get<|Zh b;refine⟨vs.getD i .non,_,rfl,?_,FA h p fun j e=>hp j<|Zi _ e⟩;show Dt K H (ds.getD i .none) (vs.getD i .non);rwa[Yf,Yf,c,Zh b]
theorem UJ {h:EC}:∀{ds:Dg} {us:Db} {as:De} (i:Nat),LG h us ds as->i<ds.length->∃bs,Reads h (us.getD i EA) (ds.getD i .none) bs
 |[],_,_,i,_,hi=>absurd hi<|VM _
 |d::ds,_,_,0,r,_=>by
  cases r with
  |cons r1 r2=>exact⟨_,r1⟩
 |d::ds,_,_,i+1,r,hi=>by
  cases r with
  |cons r1 r2=>exact UJ i r2 (by simpa using hi)
theorem Mx {b:Type}{l:List b}{z:b}:(EX l.length).map (fun i=>l.getD i z)=l:=by
 apply Vs
 intro i;rw[Zo]
 rcases VF i l.length with q|q
 ·rw[List.getElem?_range q,Zh q];simp[Yf,Zh q]
 ·rw[ZN<|by rwa[YE],ZN q];rfl
end
end L2
namespace AxS
open PySem PySem.Spec PyProof.Rows
end AxS
namespace L2
open PySem PySem.Spec PyProof.Rows AxS
section
variable {X:Cx}{Do:Df}{σ:St}{H:Hp}{s:Eo}{d:Ei}{Dm:Dl}
theorem MJ (I:Inv X Do σ H s)(e:Rd H d<|.dK Dm):∃vs ep,KV Dm vs/\s.heap.DictAt (zU X.prog X.w) d vs ep/\(d==EL)=false/\Dm.length<=sizeLine:=by
 obtain⟨z,hd,vs,f,o,g,ep,i,l,b,hk,j,c⟩:=UT I.hok e;exact⟨vs,ep,f,⟨o,g,i,l,b,hk,j,c⟩,hd,z⟩
theorem X8 {c d:Type}{F G:c->d->Prop}(h:∀a b,F a b->G a b):∀{l:List c} {m:List d},Lf F l m->Lf G l m
 |_,_,.nil=>.nil
 |_,_,.cons r t=>.cons (h _ _ r)<|X8 h t
theorem WT.uW {ob:Obj}{x:HO}(hd:H d=some (.frz ob x)){y:HO}(ok:WT P w H h b u):WT P w (upd H d y) h b u:=by
 have keep:∀{c:Ei} {z:HO},H c=some z->(∀o v,z≠.frz o v)->upd H d y c=some z:=fun{c z} e n=>by
  rw[zI fun q=>by rw[q,hd]at e;exact n _ _ (Option.some.inj e).symm];exact e
 induction u generalizing b with
 |lst g=>exact ok
 |tup g=>exact ok
 |dK Dm=>exact ok
 |dT Dm =>
  obtain⟨i,j,g,s,l⟩:=ok;exact⟨i,j,g,X8 (fun p q r=>⟨r.1,keep r.2.1 (fun o v z=>(nomatch z)),r.2.2⟩) s,l⟩
 |set S n=>exact ok
 |ins C dx fs=>exact⟨keep ok.1 (fun o v z=>(nomatch z)),ok.2⟩
 |own x=>exact ok
 |xd fs=>exact ok
 |rng lo hi=>exact ok
 |frz o u ih=>exact⟨ok.1,ih ok.2⟩
 |tbl ps=>exact ok
 |met f x=>exact ok
 |ext φ=>exact ok
theorem Inv.uW {ob:Obj}(I:Inv X Do σ H s)(hd:H d=some (.frz ob<|.dK Dm))(y:∀o u,X.H₀ d≠some (.frz o u)):Inv X Do σ (upd H d<|.dK Dm) s:=by
 have ne:∀{b:Ei},H b=none->b≠d:=fun{b} e z=>by rw[z,hd]at e;cases e
 have i:∀{b:Ei} {z:HO},H b=some z->(∀o v,z≠.frz o v)->b≠d:=fun{b z} e n q=>by rw[q,hd]at e;exact n _ _ (Option.some.inj e).symm
 refine⟨I.ok,I.os,I.bare,⟨I.base.keep,I.base.slot,fun b o f r t=>?_,I.base.there,fun b B f=>?_,fun b o u f=>?_,fun b A f=>?_⟩,I.loc,I.cell,?_,fun x c f=>?_,fun p w=>?_,fun b u f=>?_,I.len⟩
 ·have:=I.base.free b o f r t;rwa[zI<|ne this]
 ·have:=I.base.tups b B f;rwa[zI<|i this fun o v z=>(nomatch z)]
 ·have:=I.base.Tw b o u f;rw[zI fun z=>y o u<|by rwa[←z]];exact this
 ·obtain⟨more,this⟩:=I.base.Tg b A f;exact⟨more,by rw[zI<|i this fun o v z=>(nomatch z)];exact this⟩
 ·rw[zI<|ne I.free];exact I.free
 ·have:=I.Wm x c f;rwa[zI<|ne this]
 ·obtain⟨j,g,l⟩:=I.pin p w;exact⟨j,by rw[zI<|ne g];exact g,l⟩
 ·by_cases z:b=d
  ·rw[z,zB]at f;cases f;rw[z];exact(I.hok d _ hd).2
  ·rw[zI z]at f;exact(I.hok b u f).uW hd
end
section
variable {X:Cx}{tg:EK}
def Re (H₀:Hp)(t:TE):TE:=fun e H Q=>t e H fun v c=>∃d ob b,c d=some (.frz ob<|.dK b)/\(∀o u,H₀ d≠some (.frz o u))/\Q v (upd c d<|.dK b)
theorem NL (h:PE X e t):PE X e (Re X.H₀ t):=by
 intro b s g H Q I q;refine Cb (h b s g H _ I q) fun v l hh=>?_;obtain⟨x,j,c,r,d,ob,i,hd,f,q⟩:=hh;exact⟨x,_,c.uW hd f,r,q⟩
def CJ (kv:Key×V):Str:=match kv.1 with
 | .inr x=>x
 | .inl _=>""
def Ol (b:Dl):Prop:=∀kv∈b,kv.1=.inr (CJ kv)
theorem CK {us:Db}(f:Ol Dm)(c:KV Dm vs)(hl:us.length=vs.length)(hm:∀(j:Nat) (v:Ej),us[j]?=some v->∃k x,vs[j]?=some (k,x)/\(zU P w).is k v=true):xM us (Dm.map CJ):=by
 have o:Dm.length=vs.length:=Paired.length c;refine⟨by rw[Q5];omega,fun i v e=>?_⟩;obtain⟨k,x,l,hk⟩:=hm i v e;obtain⟨p,d,b,_⟩:=qJ c l;have b:p.1=k:=b;have g:=f p<|Zu d;rw[←b,g]at hk;obtain⟨t,n⟩:=Yr<|show E3 (CJ p) v=true from hk;exact⟨CJ p,t,by rw[Zo,d];rfl,n⟩
def ME:Dk->Hp->VK->Prop:=fun d H Q=>∃a b,d=[.ref a]/\Rd H a (.dK b)/\Ol b/\b.length<64/\∀l c,H l=none->c.Perm (b.map CJ)->sortedS c=true->Q (.ref l) (upd H l<|.lst<|c.map V.str)
theorem kJ (hc:X.calm=true):Wz X (.builtin "sorted") ME:=by
 intro N s σ H xs us Q I r h;obtain⟨a,D,rfl,ha,R,Z,q⟩:=h;obtain⟨u,rfl,ru⟩:=Wl r;cases ru;obtain⟨K,ep,n,U,hS,hz⟩:=MJ I ha;have Dp:D.length=K.length:=Paired.length n;refine LQ kind_sorted plain_sorted entry_sorted (args_sorted1 _) ?_;unfold Builtin.«sorted»;refine Q4 (m:=checkCount "sorted" 1 1 _)<|Q7 ?_;refine Q4 (PySem.W.kdu_collect (A:=X.A.in1) (PySem.W.kdl_dict (knd:=zU X.prog X.w) (kvs:=K) (ep:=ep) hS) (I.ok.hd hc) U (by omega) fun d z f t C=>?_);have B:xM f.toList (D.map CJ):=CK R n (by rw[Zw];exact C.1) fun j v e=>C.2 j v (by rwa[←Z6]);generalize f.toList=c at B ⊢;have g:=Tt B;have aa:c.length<64:=by rwa[B.1,Q5]
 have DG:64<=sizeLine:=by rw[Ya];decide
 refine Q4 (Vy ?_<|by omega);have i:(d.push<|Li "list" c.toArray 0).get? d.objs.size=some (Li "list" c.toArray 0):=Zb _ rfl;refine Q4 (ZV<|ZO slot_list_sort ⟨_,i,rfl⟩ VL (list_sort_treeK strKind_oneLt i g.keysOf (fun L M J e=>keyKind_strs<|by rwa[←e]) (by omega) fun p O P=>⟨_,rfl,?_⟩) (args_list_sort _));obtain⟨l,S,F,T⟩:=sorted_out_str g O P;refine Q7 ⟨_,rfl,?_⟩;obtain⟨e,he⟩:=sortedHeap_at (out:=(arrOf p).map (·.2)) i;have nl:=UH S;have E:Inv X N σ H { s with heap:=d,toks:=z }:=I.kept (t':=z) t;have y:∀b ob,d.get? b=some ob->(sortedHeap (d.push<|Li "list" c.toArray 0) d.objs.size c ((arrOf p).map (·.2))).get? b=some ob:=fun b ob G=>by
  have hb:b<d.objs.size:=Zd G;rw[sortedHeap_old (Zl hb) (by rw[Z8];exact Yk hb)];exact Q6 _ G
 have Y:H d.objs.size=none:=E.hok.fresh<|Q9 _;have x:(l.map V.str).length<=sizeLine:=by
  have:=F.length_eq;rw[Q5]at this ⊢;omega
 exact⟨.ref d.objs.size,_,E.laid (o:=.lst<|l.map V.str) (t':=z) y (Q9 _) ⟨x,_,e,nl,he⟩,rfl,q _ l Y F T⟩
end
end L2
namespace An10
end An10
namespace An12
open PySem L2 An An10
end An12
namespace An10
open PySem L2 An
end An10
namespace An12
open PySem L2 An An10
end An12
namespace AnJ
section
variable {α:Type}
inductive Pt (α:Type) where
 |same (ls:List α)
 |clash (b m y:List α)
end
open An10
open AxK
open PySem L2 An An12
theorem FI:∀a b:List Nat,decide (a<b)=yE TO.nat a b
 |[],[]=>by decide
 |[],_::_=>by simp[yE]
 |_::_,[]=>by simp[yE]
 |a::as,b::bs=>by
  have d:=FI as bs;unfold yE;rw[←d,ZS,Zt,List.cons_lt_cons_iff];show _↔(decide (a<b)||(!decide (b<a)&&decide (as<bs)))=true;rw[VI,Zk,Zt,Zt,JP,JM];constructor
  ·rintro(h|⟨h,c⟩)
   ·exact .inl h
   ·exact .inr ⟨by omega,c⟩
  ·rintro(h|⟨h,c⟩)
   ·exact .inl h
   ·by_cases z:a<b
    ·exact .inl z
    ·exact .inr ⟨by omega,c⟩
def TY:TO Str:=TO.by_ (TO.list TO.nat) cs fun a b h=>T6 h
theorem vY (a b:Str):TY.lt a b=decide (a.cps.toList<b.cps.toList):=(FI _ _).symm
theorem vX:∀a b:Da,N7 (a.map .str) (b.map .str) ((TO.list TY).lt a b)
 |[],[]=>by
  show false=decide (0<0);rfl
 |[],_::_=>by
  show true=decide (0<_);simp
 |_::_,[]=>rfl
 |x::a,y::b=>by
  show((x==y)=true/\N7 (a.map .str) (b.map .str) (yE TY (x::a) (y::b)))\/((x==y)=false/\yE TY (x::a) (y::b)=decide (x.cps.toList<y.cps.toList))
  by_cases e:x=y
  ·subst e;refine .inl ⟨by simp,?_⟩;unfold yE;have:TY.lt x x=false:=TY.refl x;rw[this];exact vX a b
  ·refine .inr ⟨by simpa using e,?_⟩;unfold yE;rw[←vY];cases q:TY.lt x y with
   |true=>rfl
   |false =>
    cases c:TY.lt y x with
    |true=>rfl
    |false=>exact absurd (TY.uD _ _ q c) e
end AnJ
namespace L2
open PySem PySem.Spec PyProof.Rows PySem.W AxK An
def lays:Hp->List (Ei×Dk)->Hp
 |H,[]=>H
 |H,p::r=>lays (upd H p.1<|.tup p.2) r
theorem jV:∀{l:List (Ei×Dk)} {H:Hp} {b:Ei},b∉l.map (·.1)->lays H l b=H b
 |[],_,_,_=>rfl
 |p::r,H,b,h=>by
  rw[ZJ,Za,Jr]at h;show lays (upd H p.1<|.tup p.2) r b=_;rw[jV h.2,zI h.1]
theorem Gz:∀{l:List (Ei×Dk)} {H:Hp} {p:Ei×Dk},(l.map (·.1)).Nodup->p∈l->lays H l p.1=some (.tup p.2)
 |q::r,H,p,nd,h=>by
  rw[ZJ,ZK]at nd;show lays (upd H q.1<|.tup q.2) r p.1=_
  rcases Za.mp h with rfl|h
  ·rw[jV nd.1,zB]
  ·exact Gz nd.2 h
theorem vU:∀{l:List (Ei×Dk)} {H:Hp} {b:Ei} {o:HO},(l.map (·.1)).Nodup->lays H l b=some o->H b=some o\/∃xs,(b,xs)∈l/\o=.tup xs:=fun{l H b o} nd h=>by
 by_cases z:b∈l.map (·.1)
 ·obtain⟨p,c,rfl⟩:=Ze.mp z;rw[Gz nd c]at h;exact .inr ⟨p.2,c,(Option.some.inj h).symm⟩
 ·rw[jV z]at h;exact .inl h
theorem IV {l:List (Ei×Dk)}{H:Hp}(f:∀p∈l,H p.1=none):W8 H (lays H l):=fun b o e=>by
 rw[jV]
 ·exact e
 ·intro z;obtain⟨p,c,rfl⟩:=Ze.mp z;rw[f p c]at e;cases e
section
variable {X:Cx}{Do:Df}{σ:St}{H:Hp}{s:Eo}{h':EC}{K:Ca}
theorem Inv.lays {t':Nat}(I:Inv X Do σ H s){l:List (Ei×Dk)}(nd:(l.map (·.1)).Nodup)(k:∀b u,s.heap.get? b=some u->h'.get? b=some u)(g:∀p∈l,s.heap.objs.size<=p.1)(new:∀p∈l,WT X.prog X.w (lays H l) h' p.1<|.tup p.2) :
  Inv X Do σ (lays H l) { s with heap:=h',toks:=t' }:=by
 have i:∀p∈l,H p.1=none:=fun p m=>I.hok.fresh<|g p m;have d:=IV i;have nx:∀b u,s.heap.get? b=some u->b∉l.map (·.1):=fun b u q z=>by
  obtain⟨p,m,rfl⟩:=Ze.mp z;exact absurd (Zd q)<|Nat.not_lt.mpr<|g p m
 refine I.un ⟨fun b u q _ _ _=>k b u q,fun b u q _ _ _=>⟨u.slots,k b u q⟩,fun b u q n _=>by rw[jV<|nx b u q];exact n,fun b u q _=>⟨u,k b u q⟩,fun b f q=>d _ _ q,fun b u f q=>d _ _ q,fun b j q=>⟨#[],by rw[d _ _ q];simp⟩⟩ fun b u e=>?_
 rcases vU nd e with z|⟨f,m,rfl⟩
 ·exact(I.hok b u z).stay (fun c v _ q=>k c v q) (fun c q=>d _ _ q) fun c f q=>d _ _ q
 ·exact new _ m
theorem X0:∀{ps:Dh},(∀p∈ps,El p.1=true/\El p.2=true)->Ew (ps.map An.W5)=true
 |[],_=>rfl
 |p::ps,h=>by
  obtain⟨b,c⟩:=h p<|Zj ..;show(((El p.1)&&((El p.2)&&true))&&Ew (ps.map An.W5))=true;rw[b,c,X0 fun q d=>h q<|Zi _ d];rfl
def Iv:Er->Da
 | .tuple xs=>xs.map fun d=>match d with
  | .str x=>x
  |_=>""
 |_=>[]
theorem Xs {ps:Dh}{i:Nat}(h:i<ps.length):(ps.map An.W5).getD i .none=An.W5 (ps.getD i ("","")):=by
 rw[Yf,Yf,Zo,Zh h];rfl
theorem OX {a b:Str×Str}(h:(TO.list AnJ.TY).le (Iv<|An.W5 a)<|Iv<|An.W5 b):cs a.1<=cs b.1:=by
 have h:yE AnJ.TY [b.1,b.2] [a.1,a.2]=false:=h;have h:(AnJ.TY.lt b.1 a.1||(!AnJ.TY.lt a.1 b.1&&yE AnJ.TY [b.2] [a.2]))=false:=h;rw[Y3,AnJ.vY,JM]at h;exact Ju.mp h.1
def O8 (K:Ca)(j:TE):TE:=fun σ H Q=>j σ H fun v f=>∃(d:Ei) (e:Dh),v=.ref d/\Rd f d (.dK<|e.map fun p=>((.inr p.1:Key),V.str p.2))/\e.length<64/\(∀p∈e,El p.1=true/\El p.2=true) /\
 ∀(l:Ei) (g:Dh) (i:Dk) (c:Hp),g.Perm e->(g.Pairwise fun a b=>cs a.1<=cs b.1)->W8 f c->f l=none->c l=some (.lst i)->W6 K c (g.map An.W5) i->Q (.ref l) c
theorem Mv {p Dq Dr pos:Pos}(hc:X.calm=true)(hu:X.A.units+64<E4)(hg:Gl X x)(hm:X.mg x=none)(hv:LO x=some (.builtin "sorted"))(ho:PE X o td)
  (DS:Ll o "items" X.env (EZ o X.env)=EZ o X.env:=by rfl) (DG:(Dq.endLine==Dr.line)=true:=by rfl) (hn:x≠"__name__":=by decide) (am:(x==("__debug__":Str))=false:=by decide)
  (he:EB [.Call (.Attribute o "items" Dq) [] [] Dr] X.env=(false,EZ (.Call (.Attribute o "items" Dq) [] [] Dr) X.env)::EB [] X.env:=by rfl) (ap:(Ld pos<|EB [] X.env).any (·.1)=false:=by rfl) (hK:X.K=K:=by rfl) :
  PE X (.Call (.Name x p) [.Call (.Attribute o "items" Dq) [] [] Dr] [] pos) (O8 K td):=by
 subst hK;intro Do s σ H Q I h;refine Ye<|k6 I hg hm hv ?_ hn am;refine J0 ?_ he ap;rw[he];show Em _ _ (spliced ((false,EZ (.Call (.Attribute o "items" Dq) [] [] Dr) X.env)::Ld pos (EB [] X.env))) _ _ s;refine LD ?_;refine Y8 DS DG<|Cb (ho Do s σ H _ I h) fun v B hh=>?_;obtain⟨x,J,I1,r,d,f,ex,hd,ak,hok,q⟩:=hh;subst ex;cases r;obtain⟨vs,ep,Y,da,hS,ar⟩:=MJ I1 hd;have dO:=da.dictOf;obtain⟨aw,ax,h1,h2,h3⟩:=id da;refine⟨"dict","dict.items",F.plainAttrs_dict,L8,F.type_dict_items,dO.typeIs,fun b q=>by cases q;exact⟨aw,h1,h2.2.1⟩,E7 rfl<|JA ?_⟩;refine Vf L8 dO.typeIs F.entry_dict_items (F.args_dict_items_1 _) (meets_dict_items (zU X.prog X.w) d hS) ⟨⟨vs,dO⟩,?_⟩;refine L5 ?_;have I2:Inv X Do σ J { B with heap:=B.heap.push { cls:=.type "dict_items",data:=.fields #[.ref d] } }:=I1.kept (t':=B.toks) fun b o e=>Q6 _ e;have ab:(B.heap.push { cls:=.type "dict_items",data:=.fields #[.ref d] }).DictAt (zU X.prog X.w) d vs ep:=da.at' fun o e=>Q6 _ e;have ah:(B.heap.push { cls:=.type "dict_items",data:=.fields #[.ref d] }).IsItemsView B.heap.objs.size d:=⟨_,Zb _ rfl,rfl,rfl⟩;have Dp:(f.map fun p=>((.inr p.1:Key),V.str p.2)).length=vs.length:=Paired.length Y;rw[Q5]at Dp;have DG:64<=sizeLine:=by rw[Ya];decide
 refine LQ kind_sorted plain_sorted entry_sorted (args_sorted1 _) ?_;unfold Builtin.«sorted»;refine Q4 (m:=checkCount "sorted" 1 1 _)<|Q7 ?_;refine Q4 (kdx_collect (A:=X.A.in1) (knd:=zU X.prog X.w) (I.ok.hd hc) ah ab (by omega) fun h' tk l af hl R=>?_);have N:∀b o,(B.heap.push { cls:=.type "dict_items",data:=.fields #[.ref d] }).get? b=some o->h'.get? b=some o:=af;generalize B.heap.push { cls:=.type "dict_items",data:=.fields #[.ref d] }=h0 at I2 R N;clear ab ah af;have ln:l.length=f.length:=by rw[hl,←Dp]
 have ai:l.Nodup:=Jw.mpr<|R.rise.imp fun{a b} z=>Zl z;have z1:((l.zip f).map fun(q:Ei×(Str×Str))=>(q.1,[V.str q.2.1,V.str q.2.2])).map (·.1)=l:=by
  rw[ZB];exact J4 (by omega)
 have I3:Inv X Do σ (lays J<|(l.zip f).map fun(q:Ei×(Str×Str))=>(q.1,[V.str q.2.1,V.str q.2.2])) { B with heap:=h',toks:=tk }:=by
  refine Inv.lays (s:={ B with heap:=h0 }) I2 (by rwa[z1]) N (fun p y=>?_)<|fun p y=>?_
  ·obtain⟨c,D,rfl⟩:=Ze.mp y;exact Yd<|R.above _ (Ji D).1
  ·obtain⟨c,D,rfl⟩:=Ze.mp y;obtain⟨j,u⟩:=List.mem_iff_getElem?.mp D;rw[YX]at u;obtain⟨key,k,x,e1,hk,e2⟩:=R.pairs j _ u.1;obtain⟨p,L,P,rx⟩:=qJ Y e1;rw[Zo,u.2]at L;have L:=(Option.some.inj L).symm;subst L;have P:(Ey c.2.1:Key)=k:=P;rw[←P]at hk;obtain⟨t,et⟩:=Yr<|show E3 c.2.1 key=true from hk;exact⟨by show 2<=_;omega,[key,x],.cons ⟨t,et⟩<|.cons rx .nil,_,e2,rfl,0,rfl,rfl⟩
 have sm:W8 J (lays J<|(l.zip f).map fun(q:Ei×(Str×Str))=>(q.1,[V.str q.2.1,V.str q.2.2])):=IV fun p y=>by
  obtain⟨c,D,rfl⟩:=Ze.mp y;exact I2.hok.fresh<|Yd<|R.above _ (Ji D).1
 have E:W6 X.K (lays J<|(l.zip f).map fun(q:Ei×(Str×Str))=>(q.1,[V.str q.2.1,V.str q.2.2])) (f.map An.W5) (l.map V.ref):=by
  have at_:∀(j:Nat) (a:Ei) (p:Str×Str),l[j]?=some a->f[j]?=some p->lays J ((l.zip f).map fun(q:Ei×(Str×Str))=>(q.1,[V.str q.2.1,V.str q.2.2])) a=some (.tup [V.str p.1,V.str p.2]):=fun j a p ha y =>
   Gz (p:=(a,[V.str p.1,V.str p.2])) (by rwa[z1]) (Ze.mpr ⟨(a,p),Zu (i:=j)<|YX.mpr ⟨ha,y⟩,rfl⟩)
  generalize lays J ((l.zip f).map fun(q:Ei×(Str×Str))=>(q.1,[V.str q.2.1,V.str q.2.2]))=Hs at at_;clear I3 sm z1 ai R hl hok q hd Y ak Dp ar
  induction l generalizing f with
  |nil =>
   cases f with
   |nil=>rfl
   |cons p f=>cases ln
  |cons a l ih =>
   cases f with
   |nil=>cases ln
   |cons p f =>
    have h0:=at_ 0 a p rfl rfl;exact⟨.ref a,l.map V.ref,rfl,⟨a,[V.str p.1,V.str p.2],rfl,Wu.of h0,_,_,rfl,rfl,_,_,rfl,rfl,rfl⟩,ih f (by simpa using ln) fun j b q' hb aq=>at_ (j+1) b q' hb aq⟩
 generalize lays J ((l.zip f).map fun(q:Ei×(Str×Str))=>(q.1,[V.str q.2.1,V.str q.2.2]))=Hs at I3 sm E;have rv:W2 (l.map V.ref) (l.map Ev):=by
  clear R hl ai ln z1 E I3
  induction l with
  |nil=>exact .nil
  |cons a l ih=>exact .cons rfl ih
 obtain⟨aa,rd⟩:=W6.Ws I3 _ _ _ E rv;have rd:LG h' (l.map Ev) (f.map An.W5) aa:=rd;have av:Ew (f.map An.W5)=true:=X0 hok;have l1:(l.map V.ref).length=(f.map An.W5).length:=by rwa[Q5,Q5]
 have l2:(l.map Ev).length=(f.map An.W5).length:=by rwa[Q5,Q5]
 have l3:(f.map An.W5).length<64:=by rwa[Q5]
 have S:∀d∈f.map An.W5,XW "str" d/\d.canLay0=true/\d.depth<=60:=fun d hd=>by
  obtain⟨p,y,rfl⟩:=Ze.mp hd;obtain⟨h1,h2⟩:=hok p y;refine⟨rfl,?_,by show max 0 (max 0 0)+1<=60;decide⟩;show(El p.1&&(El p.2&&true))=true;rw[h1,h2];rfl
 have ao:∀d∈f.map An.W5,∀e∈f.map An.W5,Pf d e ((TO.list AnJ.TY).lt (Iv d)<|Iv e):=fun d hd e he=>by
  obtain⟨p,y,rfl⟩:=Ze.mp hd;obtain⟨p',ay,rfl⟩:=Ze.mp he;exact AnJ.vX [p.1,p.2] [p'.1,p'.2]
 generalize l.map Ev=g at rd rv l2;generalize l.map V.ref=Z at rv E l1;refine Q4 (Vy ?_ (by rw[l2];omega));have M:(h'.push<|Li "list" g.toArray 0).get? h'.objs.size=some (Li "list" g.toArray 0):=Zb _ rfl;have kp:∀b o,h'.get? b=some o->(h'.push<|Li "list" g.toArray 0).get? b=some o:=fun b o z=>Q6 _ z;show Em _ _ _ _ _ { B with heap:=h'.push<|Li "list" g.toArray 0,toks:=tk };generalize h'.push (Li "list" g.toArray 0)=ad at M kp;refine Q4<|ZV<|ZO slot_list_sort ⟨_,M,rfl⟩ VL ?body<|args_list_sort _;refine Fe (s:={ B with heap:=ad,toks:=tk }) (κ:=tuples'<|Value.type "str" !=Value.type "tuple") (lt:=fun i j=>(TO.list AnJ.TY).lt (Iv<|(f.map An.W5).getD i .none)<|Iv<|(f.map An.W5).getD j .none) M (by omega) (fun h2 s2 k1=>?_) fun p y=>⟨_,rfl,Q7 ⟨_,rfl,?_⟩⟩
 ·have U:LG s2.heap g (f.map An.W5) aa:=xO (fun b o z=>k1 b o (Zl<|Zd z)<|kp b o z) _ _ _ av rd;refine⟨fun Q' E' z=>No U (fun d al=>(S d al).1) (by omega) z,fun i j G u C c=>?_⟩;obtain⟨b1,r1⟩:=UJ i U (by omega);obtain⟨b2,r2⟩:=UJ j U (by omega);have m:∀k,k<g.length->(f.map An.W5).getD k .none∈f.map An.W5:=fun k hk=>by
   rw[Yf,Zh<|by omega];exact Ja _
  have d1:=S _<|m i G;have d2:=S _<|m j u;exact HI r1 r2 d1.1 d2.1 d1.2.1 d2.2.1 (by show X.A.units+1+1+_<_;omega) (ao _ (m i G) _<|m j u) c
 ·have pp:p.Perm (Lc<|EX g.length)/\Up (TO.list AnJ.TY) (fun i=>Iv<|(f.map An.W5).getD i .none) p g.length:=by
   rcases y with⟨n2,rfl⟩|⟨n2,rfl⟩
   ·refine⟨Array.Perm.refl _,fun(i j:Nat) (ae:i<=j) (u:j<g.length)=>?_⟩;have:i=j:=by omega
    subst this;exact(TO.list AnJ.TY).refl _
   ·obtain⟨p',e,a1,a2⟩:=NX (O:=TO.list AnJ.TY) (key:=fun i=>Iv<|(f.map An.W5).getD i .none) (n:=g.length) (by omega);rw[e];exact⟨a1,a2⟩
  obtain⟨pp,up⟩:=pp;have T:p.toList.Perm (EX g.length):=by simpa using Array.perm_iff_toList_perm.mp pp
  have pm:∀i∈p.toList,i<Z.length:=fun i G=>by
   have:=Vg.mp<|T.mem_iff.mp G;omega
  obtain⟨e,an⟩:=sortedHeap_at (out:=Lc<|p.toList.map fun i=>g.getD i EA) M;have nl:=ID rv p.toList pm;have au:∀b ob,h'.get? b=some ob->(sortedHeap ad h'.objs.size g<|Lc<|p.toList.map fun i=>g.getD i EA).get? b=some ob:=fun b ob q1=>by
   have hb:b<h'.objs.size:=Zd q1;rw[sortedHeap_old (Zl hb)<|Zd<|kp b ob q1];exact kp b ob q1
  have ag:p.toList.length=g.length:=by rw[T.length_eq,YE]
  have ac:Hs h'.objs.size=none:=I3.hok.fresh<|Q9 _;have uF:J h'.objs.size=none:=sm.free ac;have aj:=zG (o:=.lst<|p.toList.map fun i=>Z.getD i .non) ac;refine⟨.ref h'.objs.size,_,I3.laid (o:=.lst<|p.toList.map fun i=>Z.getD i .non) (t':=tk) au (Q9 _) ⟨by rw[Q5,ag,Ya];omega,_,e,nl,an⟩,rfl,q _ (p.toList.map fun i=>f.getD i ("","")) _ _ ?_ ?_ (sm.trans aj) uF zB ?_⟩
  ·have:=T.map fun i=>f.getD i ("","");rw[show g.length=f.length by rw[l2,Q5],Mx]at this;exact this
  ·rw[YY];intro i j G u ae;rw[ZX,ZX];have:=up i j (Yd ae) (by rw[Q5,ag]at u;exact u);unfold kn at this;rw[Q5,Zw]at G u;rw[ZL,ZL,VG p i G,VG p j u]at this;have pi:p[i]<f.length:=by
    have:=pm p[i] (by rw[←Jx G];exact Ja _);rw[l1,Q5]at this;exact this
   have pj:p[j]<f.length:=by
    have:=pm p[j] (by rw[←Jx u];exact Ja _);rw[l1,Q5]at this;exact this
   rw[Jx G,Jx u];have this:(TO.list AnJ.TY).le (Iv<|(f.map An.W5).getD p[i] .none) (Iv<|(f.map An.W5).getD p[j] .none):=by simpa using this
   rw[Xs pi,Xs pj]at this;exact OX this
  ·have:=W6.same aj _ _<|FA E p.toList pm;rw[show(p.toList.map fun i=>(f.map An.W5).getD i .none)=(p.toList.map fun i=>f.getD i ("","")).map An.W5 by
    rw[ZB];refine YI fun i G=>Xs ?_;have:=pm i G;rw[l1,Q5]at this;exact this]at this
   exact this
end
section
variable {X:Cx}
def O9 (H₀:Hp)(t:TS):TS:=fun D f H=>t { D with nx:=fun b e=>∃d ob c,e d=some (.frz ob<|.dK c)/\(∀o u,H₀ d≠some (.frz o u))/\D.nx b (upd e d<|.dK c) } f H
theorem Xb {st:ER}(h:PS X st t):PS X st (O9 X.H₀ t):=by
 intro c s i H D I q;refine Cb (h c s i H _ I q) fun f n z=>?_;cases f with
 |next =>
  obtain⟨b,l,e,d,ob,j,hd,g,q⟩:=z;exact⟨b,_,e.uW hd g,q⟩
 |ret v=>exact z
 |brk=>exact z
 |cont=>exact z
def PV (K:Ca):Dk->Hp->VK->Prop:=fun d H Q=>∃a T c b,d=[.ref a,.ty T]/\Rd H a (.dK c)/\EM K (.type "dict") (.type T)=some b/\Q (.bl b) H
theorem GT {K:Ca}(e:X.K=K:=by rfl):Wz X (.builtin "isinstance") (PV K):=by
 subst e;intro n s y H x v Q I r h;obtain⟨a,T,l,b,rfl,ha,f,q⟩:=h;obtain⟨u,j,rfl,i,c⟩:=vals2 r;cases(show j=Value.type T from c);cases i;obtain⟨w,o,g,d,p,_⟩:=MJ I ha;exact ZY Vp I.Tn d.dictOf.typeIs f (fun z=>nomatch z) fun t=>⟨.bl b,H,I.tok _,rfl,q⟩
end
end L2
namespace An22
open PySem L2 An
seal L2.PS L2.R8 L2.PE L2.PT L2.PW L2.PA L2.PG L2.vm L2.PI L2.vN L2.PC
def top (i:Nat):Stmt:=PySem.Challenge.pw_annals_k22_branches.main.body.getD i<|.Pass ⟨0,0,0,0⟩
def kinds:List String:=["NoneType","bool","int","str","list","tuple","dict"]
def xE:Dl:=[(Ey "leaf",.str "L"),(Ey "tree",.str "T"),(Ey "note",.str "N")]
theorem CO (t:Th):VS xE (Ey t.word:Key)=some (.str t.letter):=by
 cases t
 ·show VS xE (Ey "leaf":Key)=some (.str "L")
  decide +kernel
 ·show VS xE (Ey "tree":Key)=some (.str "T")
  decide +kernel
 ·show VS xE (Ey "note":Key)=some (.str "N")
  decide +kernel
section
variable {K:Ca}{H:Hp}
theorem GJ {ls:Da}{v:V}(h:Dt K H (Th.leaf ls).dat v):∃a b,v=.ref a/\Wu K H a [.str "leaf",.ref b]/\Wu K H b (ls.map V.str):=by
 obtain⟨a,n,rfl,e,i,j,rfl,c,l,g,rfl,⟨b,o,rfl,hb,f⟩,d⟩:=h;have c:i=.str "leaf":=c;have d:g=[]:=d;subst c d;rw[W6.Tt f]at hb;exact⟨a,b,rfl,e,hb⟩
theorem Gn {rs:Dh}{v:V}(h:Dt K H (Th.tree rs).dat v):∃a b,v=.ref a/\Wu K H a [.str "tree",.ref b]/\Dt K H (.tuple<|rs.map W5) (.ref b):=by
 obtain⟨a,o,rfl,e,i,l,rfl,c,n,g,rfl,⟨b,j,rfl,hb,f⟩,d⟩:=h;have c:i=.str "tree":=c;have d:g=[]:=d;subst c d;exact⟨a,b,rfl,e,b,j,rfl,hb,f⟩
theorem Xg {t:Str}{ps:Da}{w:Str}{v:V}(h:Dt K H (Th.note t ps w).dat v):∃a b,v=.ref a/\Wu K H a [.str "note",.str t,.ref b,.str w]/\Wu K H b (ps.map V.str):=by
 obtain⟨a,u,rfl,g,l,p,rfl,c,n,q,rfl,d,s,r,rfl,⟨b,x,rfl,hb,i⟩,o,j,rfl,e,f⟩:=h;have c:l=.str "note":=c;have d:n=.str t:=d;have e:o=.str w:=e;have f:j=[]:=f;subst c d e f;rw[W6.Tt i]at hb;exact⟨a,b,rfl,g,hb⟩
theorem kO {t:Th}(h:Dt K H t.dat v):∃a r,v=.ref a/\Wu K H a (.str t.word::r):=by
 cases t with
 |leaf ls=>obtain⟨a,b,e,c,_⟩:=GJ h;exact⟨a,_,e,c⟩
 |tree rs=>obtain⟨a,b,e,c,_⟩:=Gn h;exact⟨a,_,e,c⟩
 |note t ps w=>obtain⟨a,b,e,c,_⟩:=Xg h;exact⟨a,_,e,c⟩
theorem OW (h:Dt K H (W5 r) v):∃a,v=.ref a/\Wu K H a [.str r.1,.str r.2]:=by
 obtain⟨a,l,rfl,e,g,j,rfl,b,i,f,rfl,c,d⟩:=h;have b:g=.str r.1:=b;have c:i=.str r.2:=c;have d:f=[]:=d;subst b c d;exact⟨a,rfl,e⟩
theorem BW {rs:Dh}{i:Nat}{x:V}(h:W6 K H (rs.map W5) xs)(e:xs[i]?=some x):∃r a,rs[i]?=some r/\x=.ref a/\Wu K H a [.str r.1,.str r.2]:=by
 obtain⟨d,b,c⟩:=h.get e;rw[Zo]at b;cases q:rs[i]? with
 |none=>rw[q]at b;cases b
 |some r =>
  rw[q]at b;have b:W5 r=d:=Option.some.inj b;subst b;obtain⟨a,f,g⟩:=OW c;exact⟨r,a,rfl,f,g⟩
end
def Ib (K:Ca):Sp:=fun b H Q _=>∃v t,b=[v]/\Dt K H (Th.dat t) v/\Q (.str t.letter) H
def UY (K:Ca):Sp:=fun c H Q _=>∃v b,c=[v]/\Dt K H (.tuple<|b.map W5) v/\b.length<=1000/\∀l,H l=none->Q (.ref l) (upd H l<|.lst<|(zZ b).map V.str)
def F6 (K:Ca):Sp:=fun c H Q _=>∃v t,c=[v]/\Dt K H (Th.dat t) v/\t.Good/\∀l b,W8 H b->H l=none->b l=some (.lst<|t.parts.map V.str)->Q (.ref l) b
def IF:Sp:=fun b H Q _=>∃x,b=[.str x]/\x.length<=1000/\Q (.str<|counted x) H
def IH (K:Ca):Sp:=fun c H Q _=>∃v t,c=[v]/\Dt K H (Th.dat t) v/\t.Good/\∀b,W8 H b->Q (.str t.sp) b
def G5 (K:Ca):Sp:=fun c H Q _=>∃v t,c=[v]/\Dt K H (Th.dat t) v/\t.Good/\∀b,W8 H b->Q (.int<|dg t.sp) b
structure Txt (P:Ek)(w:Ep)(K:Ca)(mg:Str->Dc)(t1 t2 t3 t4 t5 t6:Tok)(aL aC aN aT aA b1 b2 b3 b4 b5 b6 b7 b8 aD:Ei):Prop where
 len:mg "len"=none
 all:mg "all"=none
 ord:mg "ord"=none
 isinstance:mg "isinstance"=none
 str:mg "str"=none
 set:mg "set"=none
 sorted:mg "sorted"=none
 tuple:mg "tuple"=none
 list:mg "list"=none
 max:mg "max"=none
 int:mg "int"=none
 bool:mg "bool"=none
 range:mg "range"=none
 dict:mg "dict"=none
 any:mg "any"=none
 xq:mg "LONGEST_LINE"=some (.int 20 t1)
 yr:mg "LONGEST_LABEL"=some (.int 8 t2)
 wU:mg "MOST_PARENTS"=some (.int 2 t3)
 PERCENT:mg "PERCENT"=some (.int 37 t4)
 yp:mg "DIGEST_FACTOR"=some (.int 31 t5)
 xr:mg "DIGEST_BOUND"=some (.int 97 t6)
 LETTERS:mg "LETTERS"=some (.ref aL)
 wj:mg "NoName"=some (.ref aN)
 v9:mg "NoThing"=some (.ref aT)
 wK:mg "AnnalsError"=some (.ref aA)
 uX:mg "BadPath"=some (.ref b1)
 SQ:mg "BadFiles"=some (.ref b2)
 uc:mg "NoFit"=some (.ref b3)
 ut:mg "Clash"=some (.ref b4)
 yo:mg "NoVersion"=some (.ref b5)
 vZ:mg "BadLine"=some (.ref b6)
 wQ:mg "NoBranch"=some (.ref b7)
 yh:mg "BadBranch"=some (.ref b8)
 uQ:mg "Annals"=some (.ref aD)
 min:mg "min"=none
 ValueError:mg "ValueError"=none
 ud:mg "Shelf"=some (.ref aC)
 v8:EO K aN V2 "ValueError.__new__"=true
 vA:EO K aT V2 "ValueError.__new__"=true
 Su:EO K b2 V2 "ValueError.__new__"=true
 dst:[b5,b7,b8,aN,aT,b1,b2,b3,b4,b6].Nodup
 ek:∀a∈[b5,b7,b8],PySem.W.T7 K a
 kx:∀a∈[b5,b7,b8],∀b∈[b5,b7,b8,aN,aT,b1,b2,b3,b4,b6],EM K (.ref a) (.ref b)=some (decide (a=b))
 kv:∀a∈[b5,b7,b8],EM K (.ref a) (.type "ValueError")=some true
 exm:∀a∈[b5,b7,b8],PySem.W.exmOne K (.ref a) (.ref aA)=some true
 wG:EO K b5 V2 "ValueError.__new__"=true
 vI:EO K b6 V2 "ValueError.__new__"=true
 vV:EO K b7 V2 "ValueError.__new__"=true
 wg:EO K b8 V2 "ValueError.__new__"=true
 Wg:Cls K aD
 m1:Wc K aD "shelf"
 m2:Wc K aD "heads"
 kd:KD P w K aL xE
 cls:Cls K aC
 n1:Wc K aC "thing_by_name"
 n2:Wc K aC "name_by_thing"
 n3:Wc K aC "next_numbers"
 kit:∀a∈kinds,∀b∈kinds,EM K (.type a) (.type b)=some (a==b||(a=="bool"&&b=="int"))
theorem KW (d:Er):Ub d∈kinds:=by cases d<;>simp[Ub,kinds]
def Ii:Er->Str
 | .str x=>x
 |_=>""
def x6:Er->Bool
 | .tuple ds=>ds.all V1&&(decide (ds.length<=2)&&decide ((AxS.uniq<|ds.map Ii).length=ds.length))
 |_=>false
inductive S5 (K:Ca)(vs:Dk)(H:Hp)(Q:VK)(e3:XK):Prop
 |mk (d:Er) (v:V) (h0:vs=[v]) (h1:Dw K H d v) (h2:small d=true) (h3:∀H',W8 H H'->Q (.bl<|x6 d) H'):S5 K vs H Q e3
theorem Cs {K:Ca}:∀{ds:Dg} {xs:Dk},WD K H ds xs->ds.all V1=true->xs=(ds.map Ii).map V.str
 |[],_,h,_=>by rw[show _=[] from h];rfl
 | .str x::ds,_,⟨v,r,e,hv,hr⟩,h=>by
  rw[List.all_cons,Zk]at h;rw[e,Cs hr h.2,show v=V.str x from hv];rfl
 | .none::_,_,_,h=>by cases h
 | .bool _::_,_,_,h=>by cases h
 | .int _::_,_,_,h=>by cases h
 | .list _::_,_,_,h=>by cases h
 | .tuple _::_,_,_,h=>by cases h
 | .dict _::_,_,_,h=>by cases h
theorem j8 (d:Er):(Ub d=="str"||(Ub d=="bool"&&"str"=="int"))=V1 d:=by cases d<;>rfl
def Uk:Er->Str
 | .tuple (.str l::_)=>l
 |_=>""
def IG:Er->Bool
 | .tuple ds=>ds.all Us&&Ut (ds.map Uk)
 |_=>false
inductive wk (K:Ca)(vs:Dk)(H:Hp)(Q:VK)(e3:XK):Prop
 |mk (d:Er) (v:V) (h0:vs=[v]) (h1:Dw K H d v) (h2:small d=true) (h3:(∀ds,d=.tuple ds->ds.length<=63)) (h4:∀H',W8 H H'->Q (.bl<|IG d) H'):wk K vs H Q e3
theorem F1 {K:Ca}(h:Dw K H d v)(r:Us d=true):∃(t:Ei) (y:V),v=.ref t/\Wu K H t [.str<|Uk d,y]/\yB (Uk d)=true:=by
 match d,r with
 | .tuple [l,n],r =>
  have r:(xA l&&V1 n)=true:=r;rw[Zk]at r;obtain⟨t,p,rfl,c,g,o,rfl,b,i,f,rfl,j,e⟩:=h;have e:f=[]:=e;subst e;cases l with
  |str x=>cases(show g=_ from b);exact⟨t,i,rfl,c,r.1⟩
  |none=>cases r.1
  |bool _=>cases r.1
  |int _=>cases r.1
  |list _=>cases r.1
  |tuple _=>cases r.1
  |dict _=>cases r.1
theorem UD (h:yB x=true):El x=true:=by
 unfold yB at h;rw[Zk]at h;rw[x5];intro c b;have:=ZW.mp h.2 c b;unfold V6 at this;rw[Zk]at this;have:=Zv this.2;omega
def Cn (b:Dg)(i:Nat):PyData:=(b[i]?).getD .none
def Um (word:Str)(b:Dg):Bool:=decide (word="leaf")&&(decide (b.length=1)&&XN (Cn b 0))
def Ul (word:Str)(b:Dg):Bool:=decide (word="tree")&&(decide (b.length=1)&&IG (Cn b 0))
inductive S6 (K:Ca)(b:Str->Dg->Bool)(vs:Dk)(H:Hp)(Q:VK)(e3:XK):Prop
 |mk (word:Str) (a:Ei) (ds:Dg) (xs:Dk) (h0:vs=[.str word,.ref a]) (h1:Wu K H a xs) (h2:WD K H ds xs) (h3:yD ds=true) (h4:ds.length<=63) (h5:(∀e∈ds,∀es,e=.tuple es->es.length<=63)) (h6:∀H',W8 H H'->Q (.bl<|b word ds) H'):S6 K b vs H Q e3
def Uq (word:Str)(b:Dg):Bool:=decide (word="note")&&(decide (b.length=3)&&(V1 (Cn b 0)&&(x6 (Cn b 1)&&U2 (Cn b 2))))
def jN:Er->Bool
 | .tuple (.str word::ds)=>Um word ds||(Ul word ds||Uq word ds)
 |_=>false
def narrow (d:Er):Prop:=∀b,d=.tuple b->b.length<=63/\∀e∈b,∀c,e=.tuple c->c.length<=63
inductive za (K:Ca)(vs:Dk)(H:Hp)(Q:VK)(e3:XK):Prop
 |mk (d:Er) (v:V) (h0:vs=[v]) (h1:Dw K H d v) (h2:small d=true) (h3:narrow d) (h4:∀H',W8 H H'->Q (.bl<|jN d) H'):za K vs H Q e3
theorem Ng {K:Ca}{H':Hp}{lo:Option Int}{v:V}(hs:Wu K H a xs)(h:(v=.ref a/\H'=H/\XO xs lo hi=xs)\/(∃p,H p=none/\v=.ref p/\H'=upd H p (.tup<|XO xs lo hi))) :
  ∃p:Ei,v=.ref p/\W8 H H'/\Wu K H' p (XO xs lo hi):=by
 rcases h with⟨rfl,rfl,e2⟩|⟨p,np,rfl,rfl⟩
 ·exact⟨a,rfl,W8.refl _,by rw[e2];exact hs⟩
 ·exact⟨p,rfl,zG np,Wu.of zB⟩
inductive wF (K:Ca)(aT:Ei)(vs:Dk)(H:Hp)(Q:VK)(E:XK):Prop
 |mk (d:Er) (v:V) (h0:vs=[v]) (h1:Dw K H d v) (h2:small d=true) (h3:narrow d) (h4:(jN d=true->∀H',W8 H H'->Q v H')) (h5:(jN d=false->∀H',W8 H H'->E (.ref aT) none H')):wF K aT vs H Q E
def Ip (S:Dj):Er->Bool
 | .str x=>decide (x∈S.map En.nm)
 |_=>false
inductive xu (P:Ek)(w:Ep)(K:Ca)(C:Ei)(vs:Dk)(H:Hp)(Q:VK)(e3:XK):Prop
 |mk (a:Ei) (fp:De) (S:Dj) (e:En) (t:Ei) (h0:vs=[.ref a,.str e.nm,.ref t]) (h1:Wx P w K C H a fp S) (h2:vC e) (h3:Dt K H e.d<|.ref t) (h4:e.d∉S.map (·.d)) (h5:e.nm∉S.map En.nm) (h6:S.length<2000) (h7:∀H',Off fp H H'->Wx P w K C H' a fp (S++[e])->Q .non H'):xu P w K C vs H Q e3
inductive zz (P:Ek)(w:Ep)(K:Ca)(C:Ei)(vs:Dk)(H:Hp)(Q:VK)(e3:XK):Prop
 |mk (a:Ei) (fp:De) (S:Dj) (h0:vs=[.ref a]) (h1:Wx P w K C H a fp S) (h2:∀l,H l=none->Q (.ref l) (upd H l<|.lst<|S.map fun e=>V.str e.nm)):zz P w K C vs H Q e3
def OA (b:Dl):Er->Bool
 | .str x=>(VS b (Ey x:Key)).isSome
 |_=>false
inductive v7 (K:Ca)(vs:Dk)(H:Hp)(Q:VK)(e3:XK):Prop
 |mk (d1:Ei) (Dm:Dl) (d:Er) (v:V) (h0:vs=[.ref d1,v]) (h1:H d1=some (.dK Dm)) (h2:Dw K H d v) (h3:Q (.bl<|OA Dm d) H):v7 K vs H Q e3
inductive S8 (P:Ek)(w:Ep)(K:Ca)(C aN:Ei)(vs:Dk)(H:Hp)(Q:VK)(E:XK):Prop
 |mk (a:Ei) (fp:De) (S:Dj) (d:Er) (v:V) (h0:vs=[.ref a,v]) (h1:Wx P w K C H a fp S) (h2:Dw K H d v) (h3:(Ip S d=true->Q .non H)) (h4:(Ip S d=false->E (.ref aN) none H)):S8 P w K C aN vs H Q E
inductive v5 (P:Ek)(w:Ep)(K:Ca)(C:Ei)(vs:Dk)(H:Hp)(Q:VK)(e3:XK):Prop
 |mk (a:Ei) (fp:De) (S:Dj) (d:Er) (v:V) (h0:vs=[.ref a,v]) (h1:Wx P w K C H a fp S) (h2:Dw K H d v) (h3:Q (.bl<|Ip S d) H):v5 P w K C vs H Q e3
inductive Te (P:Ek)(w:Ep)(K:Ca)(C aN:Ei)(vs:Dk)(H:Hp)(Q:VK)(E:XK):Prop
 |mk (a:Ei) (fp:De) (S:Dj) (d:Er) (v:V) (h0:vs=[.ref a,v]) (h1:Wx P w K C H a fp S) (h2:Dw K H d v) (h3:(∀e∈S,d=.str e.nm->∀t,Dt K H e.d (.ref t)->Q (.ref t) H)) (h4:(Ip S d=false->E (.ref aN) none H)):Te P w K C aN vs H Q E
inductive wR (P:Ek)(w:Ep)(K:Ca)(C aN:Ei)(vs:Dk)(H:Hp)(Q:VK)(E:XK):Prop
 |mk (a f:Ei) (fp:De) (S:Dj) (x:Str) (ws:Da) (h0:vs=[.ref a,.str x,.ref f]) (h1:Wx P w K C H a fp S) (h2:(∀e∈S,Uw e)) (h3:Wu K H f<|ws.map V.str) (h4:(∀y∈ws,El y=true)) (h5:(zV S x ws=true->Q .non H)) (h6:(zV S x ws=false->E (.ref aN) none H)):wR P w K C aN vs H Q E
inductive yg (P:Ek)(w:Ep)(K:Ca)(C aN:Ei)(vs:Dk)(H:Hp)(Q:VK)(E:XK):Prop
 |mk (a:Ei) (fp:De) (S:Dj) (t:Th) (v:V) (h0:vs=[.ref a,v]) (h1:Wx P w K C H a fp S) (h2:(∀e∈S,Uw e)) (h3:Dt K H t.dat v) (h4:(namesOk S t=true->∀H',W8 H H'->Q .non H')) (h5:(namesOk S t=false->∀H',W8 H H'->E (.ref aN) none H')):yg P w K C aN vs H Q E
def Os (P:Ek)(w:Ep)(K:Ca)(C:Ei)(H:Hp)(a:Ei)(fp:De)(S:Dj)(t:Th)(c:Hp)(b:Dj)(e:En):Prop :=
 Off fp H c/\Wx P w K C c a fp b/\e∈b/\e.d=t.dat/\(b=S\/(b=S++[e]/\e=Il S t/\t.dat∉S.map (·.d)))
inductive Sq (P:Ek)(w:Ep)(K:Ca)(C aN aT:Ei)(vs:Dk)(H:Hp)(Q:VK)(E:XK):Prop
 |mk (a:Ei) (fp:De) (S:Dj) (d:Er) (v:V) (h0:vs=[.ref a,v]) (h1:Wx P w K C H a fp S) (h2:(∀e∈S,Uw e)) (h3:Dw K H d v) (h4:small d=true) (h5:narrow d) (h6:(jN d=true->∃t:Th,d=t.dat/\t.Good)) (h7:S.length<2000) (h8:(∀h,(WM S h).getD 0<1000000)) (h9:(jN d=false->∀H',W8 H H'->E (.ref aT) none H')) (h10:(∀t,d=t.dat->jN d=true->namesOk S t=false->∀H',W8 H H'->E (.ref aN) none H')) (h11:(∀t,d=t.dat->jN d=true->namesOk S t=true->∀H2 S' e,Os P w K C H a fp S t H2 S' e->Q (.str e.nm) H2)):Sq P w K C aN aT vs H Q E
inductive wz (P:Ek)(w:Ep)(K:Ca)(C:Ei)(vs:Dk)(H:Hp)(Q:VK)(e3:XK):Prop
 |mk (x dx:Ei) (b:V) (S:Dj) (h0:vs=[.ref x,b]) (h1:H x=some (.ins C dx [])) (h2:H dx=some (.own x)) (h3:dx≠x) (h4:((b=.non/\S=[])\/∃a fp0,b=.ref a/\Wx P w K C H a fp0 S/\x∉fp0/\dx∉fp0/\S.length<2000)) (h5:∀fp H',(∀c∈fp,c=x\/c=dx\/H c=none)->Off [x] H H'->Wx P w K C H' x fp S->Q .non H'):wz P w K C vs H Q e3
section
variable {P:Ek}{w:Ep}{K:Ca}{mg:Str->Dc}{base:EC}{t1 t2 t3 t4 t5 t6:Tok}{aL aC aN aT aA b1 b2 b3 b4 b5 b6 b7 b8 aD:Ei}
theorem Txt.is {T:String}(t:Txt P w K mg t1 t2 t3 t4 t5 t6 aL aC aN aT aA b1 b2 b3 b4 b5 b6 b7 b8 aD)(b:T∈kinds):EM K (.type<|Ub d) (.type T)=some (Ub d==T||(Ub d=="bool"&&T=="int")):=t.kit _ (KW d) _ b
namespace Aa
abbrev st:Stmt:=top 24
theorem sc:W7 ["sign"] ["sign"] (zE st):=Cf
theorem ok (F:Wt K "is_sign" "is_sign" st f fd)(T:Txt P w K mg t1 t2 t3 t4 t5 t6 aL aC aN aT aA b1 b2 b3 b4 b5 b6 b7 b8 aD):W0 P w K mg base Cd 1 f fd ["sign"] MR:=by
 refine F.ok sc fun _ _ _ _ H i Q E g h=>?_;obtain⟨c,rfl,k⟩:=h;refine⟨_,(zF<|zK<|xC (Ia Gk Gk W9 (pv 0) W9)<|x4<|yO K6 (zJ BS (by rfl) T.ord PyProof.Rows.boot_ord<|zA (pv 0) zC) (yN (v:=.int 37) rfl T.PERCENT ⟨_,rfl⟩)<|zR _),?_⟩;refine⟨_,rfl,_,_,rfl,rfl,_,rfl,?_⟩;rw[KL c 32 " "<|by decide +kernel];refine V3 (fun b=>?_)<|fun b=>?_
 ·refine⟨_,_,rfl,rfl,_,rfl,?_⟩;rw[one_le c 126 "~"<|by decide +kernel];refine V3 (fun d=>?_)<|fun d=>?_
  ·refine⟨_,rfl,_,rfl,rfl,rfl,?_⟩;have e:V5 c=!decide (V.int (((⟨#[c]⟩:Str).cps.getD 0 0:Nat):Int)=V.int 37):=by
    unfold V5;rw[b,d];show decide (c≠37)=!decide (V.int (c:Int)=V.int 37);rw[eq_comm];exact GI ⟨fun h z=>h (by rw[z];rfl),fun h z=>h (by injection z with z;omega)⟩
   rw[e]at k;exact k
  ·have e:V5 c=false:=by
    unfold V5;rw[b,Y0.mpr d];rfl
   rw[e]at k;exact k
 ·have e:V5 c=false:=by
   unfold V5;rw[Y0.mpr b];rfl
  rw[e]at k;exact⟨_,rfl,k⟩
end Aa
namespace Ab
abbrev st:Stmt:=top 25
theorem sc:W7 ["thing"] ["thing"] (zE st):=Cf
theorem ok (F:Wt K "is_line" "is_line" st f fd)(T:Txt P w K mg t1 t2 t3 t4 t5 t6 aL aC aN aT aA b1 b2 b3 b4 b5 b6 b7 b8 aD)(q:T9 P w K mg base 1 "is_sign" ["sign"] MR):W0 P w K mg base Cd 2 f fd ["thing"] (GL K):=by
 refine F.ok sc fun _ _ _ _ H A Q E s h=>?_;obtain⟨d,v,rfl,hd,u,k⟩:=h;refine⟨_,(zF<|zK<|xC (zJ (zS (K:=K)) (by rfl) T.isinstance Zf<|zA (pv 0)<|zA (yM (v:=.ty "str") rfl T.str ZR rfl) zC)<|xC (yO FP (zJ qX (by rfl) T.len Z0<|zA (pv 0) zC) (yN (v:=.int 20) rfl T.xq ⟨_,rfl⟩)<|zR _)<|x4<|zJ (jR rfl) (by rfl) T.all YV<|zA (xR (sc:=zE st) (N:=["thing"]) (N':=["sign"]) (src:=[none]) .a rfl rfl rfl (CZ<|pv 0) (fun _ _ _ _=>(zY (i:=0) (show(["sign"]:Da).Nodup by decide +kernel) rfl (EY rfl))) (fun _ _ _ _=>qL) (fun _ _ _ _=>(zL q s.m<|zA (pv 0) zC))) zC),?_⟩;refine⟨_,rfl,_,_,d,_,rfl,hd,T.is<|by simp[kinds],_,rfl,?_⟩;cases d with
 |str x =>
  cases(show v=_ from hd);have B:x.length<=1000:=Zv u;refine VO ⟨_,rfl,x,rfl,W3<|by omega,_,_,rfl,rfl,_,rfl,V3 (fun g=>?_)<|fun g=>?_⟩
  ·have g:x.length<=20:=by have:=Zv g;omega
   refine⟨_,rfl,_,rfl,IZ (fun i l n j=>∃o,n=[o]/\j=H/\l=(((cs x).take i).map V5).map V.bl) ⟨none,rfl,rfl,rfl⟩ (W3<|by omega) ?_ ?_ ?_⟩
   ·rintro i l n j y ⟨o,rfl,rfl,rfl⟩;rw[Q5,Q5,Zz];omega
   ·rintro i c l n j r ⟨o,rfl,rfl,rfl⟩;refine⟨_,rfl,c,rfl,_,rfl,rfl,?_⟩;rw[y9<|Kr r,Zr];rfl
   ·rintro l n j ⟨o,rfl,rfl,rfl⟩ p t;refine⟨p,_,rfl,WP.of zB,?_⟩;rw[WW,ZI,all_map];have e:U2 (.str x)=(cs x).all V5:=by
     show(decide (x.length<=20)&&(cs x).all V5)=_;rw[Zc g];rfl
    rw[e]at k;exact k _<|zG t
  ·have e:U2 (.str x)=false:=by
    show(decide (x.length<=20)&&(cs x).all V5)=_;rw[Zg<|fun z=>g<|Zc<|by omega];rfl
   rw[e]at k;exact k _<|W8.refl _
 |none=>exact VQ<|k _<|W8.refl _
 |bool b=>exact VQ<|k _<|W8.refl _
 |int i=>exact VQ<|k _<|W8.refl _
 |list ds=>exact VQ<|k _<|W8.refl _
 |tuple ds=>exact VQ<|k _<|W8.refl _
 |dict Dm=>exact VQ<|k _<|W8.refl _
end Ab
namespace Ac
abbrev st:Stmt:=top 26
theorem sc:W7 ["thing"] ["thing"] (zE st):=Cf
theorem ok (F:Wt K "is_lines" "is_lines" st f fd)(T:Txt P w K mg t1 t2 t3 t4 t5 t6 aL aC aN aT aA b1 b2 b3 b4 b5 b6 b7 b8 aD)(q:T9 P w K mg base 2 "is_line" ["thing"]<|GL K):W0 P w K mg base Cd 3 f fd ["thing"] (F4 K):=by
 refine F.ok sc fun _ _ _ _ H C Q E t h=>?_;obtain⟨d,v,rfl,hd,z,k⟩:=h;refine⟨_,(zF<|zK<|xC (zJ (zS (K:=K)) (by rfl) T.isinstance Zf<|zA (pv 0)<|zA (yM (v:=.ty "tuple") rfl T.tuple Z9 rfl) zC)<|x4<|zJ (jR rfl) (by rfl) T.all YV<|zA (xR (sc:=zE st) (N:=["thing"]) (N':=["line"]) (src:=[none]) .a rfl rfl rfl (k7<|pv 0) (fun _ _ _ _=>(zY (i:=0) (show(["line"]:Da).Nodup by decide +kernel) rfl (EY rfl))) (fun _ _ _ _=>qL) (fun _ _ _ _=>(zL q t.m<|zA (pv 0) zC))) zC),?_⟩;refine⟨_,rfl,_,_,d,_,rfl,hd,T.is<|by simp[kinds],_,rfl,?_⟩;cases d with
 |tuple ds =>
  obtain⟨a,xs,rfl,l,ha⟩:=hd;obtain⟨sl,sa⟩:=xX z;have n:=ha.length;refine VO ⟨_,rfl,a,rfl,⟨_,l⟩,jY (K:=K) (a:=a) (xs:=xs) (fun i g j e=>∃o,j=[o]/\W8 H e/\g=((ds.take i).map U2).map V.bl) ⟨none,rfl,W8.refl _,rfl⟩ (W3<|by omega) ?_ ?_ ?_⟩
  ·rintro i g j e B ⟨o,rfl,c,rfl⟩;refine⟨c.Wv l,?_⟩;rw[Q5,Q5,Zz];omega
  ·rintro i x g j e u ⟨o,rfl,c,rfl⟩;obtain⟨d,hd,r⟩:=ha.get u;refine⟨_,rfl,d,x,rfl,r.same c,yJ sa hd,fun A s=>⟨_,rfl,c.trans s,?_⟩⟩;rw[y9 hd,Zr];rfl
  ·rintro g j e ⟨o,rfl,c,rfl⟩ p y;refine⟨p,_,rfl,WP.of zB,?_⟩;rw[n,ZI,all_map];exact k _<|c.trans<|zG y
 |none=>exact VQ<|k _<|W8.refl _
 |bool b=>exact VQ<|k _<|W8.refl _
 |int i=>exact VQ<|k _<|W8.refl _
 |list ds=>exact VQ<|k _<|W8.refl _
 |str x=>exact VQ<|k _<|W8.refl _
 |dict Dm=>exact VQ<|k _<|W8.refl _
end Ac
namespace Ad
abbrev st:Stmt:=top 27
theorem sc:W7 ["thing"] ["thing"] (zE st):=Cf
theorem ok (F:Wt K "is_label" "is_label" st f fd)(T:Txt P w K mg t1 t2 t3 t4 t5 t6 aL aC aN aT aA b1 b2 b3 b4 b5 b6 b7 b8 aD):W0 P w K mg base Cd 1 f fd ["thing"] (Gu K):=by
 refine F.ok sc fun _ _ _ _ H B Q E A h=>?_;obtain⟨d,v,rfl,hd,u,k⟩:=h;refine⟨_,(zD (z7 (yS<|zP (K:=K)<|zJ (zS (K:=K)) (by rfl) T.isinstance Zf<|zA (pv 0)<|zA (yM (v:=.ty "str") rfl T.str ZR rfl) zC) (zF<|zK jP) zM)<|zF<|zK<|xC (Ia FP FP zH (zJ qX (by rfl) T.len Z0<|zA (pv 0) zC)<|yN (v:=.int 8) rfl T.yr ⟨_,rfl⟩)<|x4<|zJ (jR rfl) (by rfl) T.all YV<|zA (xR (sc:=zE st) (N:=["thing"]) (N':=["sign"]) (src:=[none]) .a rfl rfl rfl (CZ<|pv 0) (fun _ _ _ _=>(zY (i:=0) (show(["sign"]:Da).Nodup by decide +kernel) rfl (EY rfl))) (fun _ _ _ _=>qL) (fun _ _ _ _=>(Ia Gk Gk W9 (pv 0) W9))) zC),?_⟩
 refine⟨_,rfl,_,_,d,_,rfl,hd,T.is<|by simp[kinds],_,rfl,?_⟩;cases d with
 |str x =>
  cases(show v=_ from hd);have C:x.length<=1000:=Zv u;refine VQ ?_;refine⟨_,rfl,x,rfl,W3<|by omega,_,_,rfl,rfl,_,rfl,V3 (fun g=>?_)<|fun g=>?_⟩
  ·refine⟨_,_,rfl,rfl,_,rfl,V3 (fun j=>?_)<|fun j=>?_⟩
   ·have g:1<=x.length:=by have:=Zv g;omega
    have j:x.length<=8:=by have:=Zv j;omega
    refine⟨_,rfl,_,rfl,IZ (fun i n q l=>∃o,q=[o]/\l=H/\n=(((cs x).take i).map V6).map V.bl) ⟨none,rfl,rfl,rfl⟩ (W3<|by omega) ?_ ?_ ?_⟩
    ·rintro i n q l y ⟨o,rfl,rfl,rfl⟩;rw[Q5,Q5,Zz];omega
    ·rintro i c n q l s ⟨o,rfl,rfl,rfl⟩;rw[y9<|Kr s,Zr];refine⟨_,rfl,_,_,rfl,rfl,_,rfl,?_⟩;rw[KL c 97 "a"<|by decide +kernel];refine V3 (fun r=>?_)<|fun r=>?_
     ·refine⟨_,_,rfl,rfl,?_⟩;rw[one_le c 122 "z"<|by decide +kernel];have e:V6 c=decide (c<=122):=by unfold V6;rw[r];rfl
      rw[e];exact⟨_,rfl,rfl,rfl⟩
     ·have e:V6 c=false:=by unfold V6;rw[Y0.mpr r];rfl
      rw[e];exact⟨_,rfl,rfl,rfl⟩
    ·rintro n q l ⟨o,rfl,rfl,rfl⟩ p t;refine⟨p,_,rfl,WP.of zB,?_⟩;rw[WW,ZI,all_map];have e:xA (.str x)=(cs x).all V6:=by
      show(decide (1<=x.length)&&decide (x.length<=8)&&(cs x).all V6)=_;rw[Zc g,Zc j];rfl
     rw[e]at k;exact k _<|zG t
   ·have e:xA (.str x)=false:=by
     show(decide (1<=x.length)&&decide (x.length<=8)&&(cs x).all V6)=_;rw[Zg (p:=x.length<=8)<|fun z=>j<|Zc<|by omega,Js];rfl
    rw[e]at k;exact k _<|W8.refl _
  ·have e:xA (.str x)=false:=by
    show(decide (1<=x.length)&&decide (x.length<=8)&&(cs x).all V6)=_;rw[Zg (p:=1<=x.length)<|fun z=>g<|Zc<|by omega];rfl
   rw[e]at k;exact⟨_,rfl,k _<|W8.refl _⟩
 |none=>exact VO<|k _<|W8.refl _
 |bool b=>exact VO<|k _<|W8.refl _
 |int i=>exact VO<|k _<|W8.refl _
 |list ds=>exact VO<|k _<|W8.refl _
 |tuple ds=>exact VO<|k _<|W8.refl _
 |dict Dm=>exact VO<|k _<|W8.refl _
end Ad
namespace Ae
abbrev st:Stmt:=top 28
theorem sc:W7 ["thing"] ["thing"] (zE st):=Cf
theorem ok (F:Wt K "is_row" "is_row" st f fd)(T:Txt P w K mg t1 t2 t3 t4 t5 t6 aL aC aN aT aA b1 b2 b3 b4 b5 b6 b7 b8 aD)(r:T9 P w K mg base 1 "is_label" ["thing"]<|Gu K):W0 P w K mg base Cd 2 f fd ["thing"] (Oh K):=by
 refine F.ok sc fun _ _ _ _ H A Q E s h=>?_;obtain⟨d,v,rfl,hd,t,k⟩:=h;refine⟨_,(zF<|zK<|xC (zJ (zS (K:=K)) (by rfl) T.isinstance Zf<|zA (pv 0)<|zA (yM (v:=.ty "tuple") rfl T.tuple Z9 rfl) zC)<|xC (yO xB (zJ z0 (by rfl) T.len Z0<|zA (pv 0) zC) zH<|zR _)<|xC (zL r s.m<|zA (zQ (W4:Cc _<|WR K) (pv 0) zH) zC)<|x4<|zJ (zS (K:=K)) (by rfl) T.isinstance Zf<|zA (zQ (W4:Cc _<|WR K) (pv 0) zH)<|zA (yM (v:=.ty "str") rfl T.str ZR rfl) zC),?_⟩;refine⟨_,rfl,_,_,d,_,rfl,hd,T.is<|by simp[kinds],_,rfl,?_⟩;cases d with
 |tuple ds =>
  obtain⟨a,u,rfl,p,ha⟩:=hd;obtain⟨sl,sa⟩:=xX t;have q:=ha.length;refine VO ⟨_,rfl,a,_,rfl,.inr p,rfl,_,rfl,V3 (fun c=>?_)<|fun c=>?_⟩
  ·have c:u.length=2:=by have:=Zv c;injection this with z;omega
   match ds,ha,q,sa,k with
   |[l,n],⟨x0,r0,e0,d0,x1,r1,e1,d1,j⟩,_,sa,k =>
    have j:r1=[]:=j;subst j e1 e0;refine⟨_,rfl,a,_,_,_,rfl,rfl,p,rfl,l,_,rfl,d0,yJ (i:=0) sa rfl,fun y g=>⟨_,rfl,V3 (fun o=>?_)<|fun o=>?_⟩⟩
    ·refine⟨_,rfl,a,_,_,_,rfl,rfl,g.Wv p,rfl,_,_,n,_,rfl,d1.same g,T.is<|by simp[kinds],?_⟩;have e:Us (.tuple [l,n])=(Ub n=="str"||(Ub n=="bool"&&"str"=="int")):=by
      show(xA l&&V1 n)=_;rw[o];cases n<;>rfl
     rw[e]at k;exact k _ g
    ·have e:Us (.tuple [l,n])=false:=by
      show(xA l&&V1 n)=_;rw[Y0.mpr o];rfl
     rw[e]at k;exact k _ g
   |[],_,hl,_,_=>exact absurd (hl.symm.trans c) (by simp)
   |[_],_,hl,_,_=>exact absurd (hl.symm.trans c) (by simp)
   |_::_::_::_,_,hl,_,_=>exact absurd (hl.symm.trans c) (by simp)
  ·have e:Us (.tuple ds)=false:=by
    match ds,q with
    |[_,_],hl=>exact absurd (Zc (by rw[hl];rfl)) c
    |[],_=>rfl
    |[_],_=>rfl
    |_::_::_::_,_=>rfl
   rw[e]at k;exact k _<|W8.refl _
 |none=>exact VQ<|k _<|W8.refl _
 |bool b=>exact VQ<|k _<|W8.refl _
 |int i=>exact VQ<|k _<|W8.refl _
 |list ds=>exact VQ<|k _<|W8.refl _
 |str x=>exact VQ<|k _<|W8.refl _
 |dict Dm=>exact VQ<|k _<|W8.refl _
end Ae
namespace Af
abbrev st:Stmt:=top 30
theorem sc:W7 ["thing"] ["thing"] (zE st):=Cf
theorem ok (F:Wt K "is_parents" "is_parents" st f fd)(T:Txt P w K mg t1 t2 t3 t4 t5 t6 aL aC aN aT aA b1 b2 b3 b4 b5 b6 b7 b8 aD):W0 P w K mg base Cd 1 f fd ["thing"] (S5 K):=by
 refine F.ok sc fun _ _ _ _ H J Q E I h=>?_;obtain⟨d,v,rfl,hd,D,k⟩:=h;refine⟨_,(zD (z7 (PW.pt<|k9 (yS<|zP (K:=K)<|zJ (zS (K:=K)) (by rfl) T.isinstance Zf<|zA (pv 0)<|zA (yM (v:=.ty "tuple") rfl T.tuple Z9 rfl) zC)<|kF<|yS<|zP (K:=K)<|zJ (jR rfl) (by rfl) T.all YV<|zA (xR (sc:=zE st) (N:=["thing"]) (N':=["name"]) (src:=[none]) .a rfl rfl rfl (k7<|pv 0) (fun _ _ _ _=>(zY (i:=0) (show(["name"]:Da).Nodup by decide +kernel) rfl (EY rfl))) (fun _ _ _ _=>qL) (fun _ _ _ _=>(zJ (zS (K:=K)) (by rfl) T.isinstance Zf<|zA (pv 0)<|zA (yM (v:=.ty "str") rfl T.str ZR rfl) zC))) zC) (zF<|zK jP) zM) (zF<|zK<|xC (yO FP (zJ z0 (by rfl) T.len Z0<|zA (pv 0) zC) (yN (v:=.int 2) rfl T.wU ⟨_,rfl⟩)<|zR _)<|x4<|yO xB (zJ Ho (by rfl) T.len Z0<|zA (yC (By (K:=K) rfl) (by rfl) T.set PyProof.Rows.boot_set (zA (pv 0) zC)) zC) (zJ z0 (by rfl) T.len Z0<|zA (pv 0) zC) (zR _))),?_⟩
 refine⟨_,rfl,_,_,d,_,rfl,hd,T.is<|by simp[kinds],_,rfl,?_⟩;cases d with
 |tuple ds =>
  obtain⟨a,xs,rfl,c,ha⟩:=hd;obtain⟨sl,sa⟩:=xX D;have t:=ha.length;refine VQ ⟨_,rfl,a,rfl,⟨_,c⟩,jY (K:=K) (a:=a) (xs:=xs) (fun i j l g=>∃o,l=[o]/\g=H/\j=((ds.take i).map V1).map V.bl) ⟨none,rfl,rfl,rfl⟩ (W3<|by omega) ?_ ?_ ?_⟩
  ·rintro i j l g G ⟨o,rfl,rfl,rfl⟩;refine⟨c,?_⟩;rw[Q5,Q5,Zz];omega
  ·rintro i x j l g A ⟨o,rfl,rfl,rfl⟩;obtain⟨d,hd,y⟩:=ha.get A;refine⟨_,rfl,_,_,d,_,rfl,y,T.is<|by simp[kinds],_,rfl,rfl,?_⟩;rw[j8,y9 hd,Zr];rfl
  ·rintro j l g ⟨o,rfl,rfl,rfl⟩ p C;refine⟨p,_,rfl,WP.of zB,?_⟩;rw[t,ZI,all_map];have u:=zG (o:=.lst<|(ds.map V1).map V.bl) C;cases q:ds.all V1 with
   |false =>
    have e:x6 (.tuple ds)=false:=by show(ds.all V1&&_)=false;rw[q];rfl
    rw[e]at k;exact⟨_,rfl,VO<|k _ u⟩
   |true =>
    have ex:=Cs ha q;rw[ex]at c;refine⟨_,rfl,VQ ?_⟩;refine⟨_,rfl,a,_,rfl,.inr<|u.Wv c,_,_,rfl,rfl,_,rfl,V3 (fun n=>?_)<|fun n=>?_⟩
    ·refine⟨_,rfl,a,ds.map Ii,rfl,.inr<|u.Wv c,by rw[Q5];exact sl,fun r n2=>?_⟩;have s:=zG (o:=GD P w r<|AxS.uniq<|ds.map Ii) n2;refine⟨r,_,rfl,zB,_,rfl,a,_,rfl,.inr<|(u.trans s).Wv c,rfl,?_⟩;have B:ds.length<=2:=by have:=Zv n;rw[Q5,Q5]at this;omega
     have e:x6 (.tuple ds)=decide (V.int (((AxS.uniq<|ds.map Ii).length:Nat):Int)=V.int (((((ds.map Ii).map V.str).length:Nat)):Int)):=by
      show(ds.all V1&&(decide (ds.length<=2)&&decide _))=_;rw[q,Zc B,Bool.true_and,Bool.true_and,ZS,Zt,Zt,Q5,Q5];constructor
      ·intro z;rw[z]
      ·intro z;injection z with z;omega
     rw[e]at k;exact k _<|u.trans s
    ·have e:x6 (.tuple ds)=false:=by
      show(ds.all V1&&(decide (ds.length<=2)&&_))=false;rw[Zg (p:=ds.length<=2)<|fun z=>n<|Zc (by rw[Q5,Q5];omega),YR,Js]
     rw[e]at k;exact k _ u
 |none=>exact VO<|k _<|W8.refl _
 |bool b=>exact VO<|k _<|W8.refl _
 |int i=>exact VO<|k _<|W8.refl _
 |list ds=>exact VO<|k _<|W8.refl _
 |str x=>exact VO<|k _<|W8.refl _
 |dict Dm=>exact VO<|k _<|W8.refl _
end Af
namespace Ag
abbrev st:Stmt:=top 29
theorem sc:W7 ["thing","labels"] ["thing"] (zE st):=Cf
theorem ok (F:Wt K "is_rows" "is_rows" st f fd)(T:Txt P w K mg t1 t2 t3 t4 t5 t6 aL aC aN aT aA b1 b2 b3 b4 b5 b6 b7 b8 aD)(Z:T9 P w K mg base 2 "is_row" ["thing"]<|Oh K):W0 P w K mg base Cd 3 f fd ["thing"] (wk K):=by
 refine F.ok sc fun _ _ _ _ H vs Q E X h=>?_;obtain⟨d,v,rfl,hd,sm,B,k⟩:=h;refine⟨_,(zD (z7 (PW.pt<|k9 (yS<|zP (K:=K)<|zJ (zS (K:=K)) (by rfl) T.isinstance Zf<|zA (pv 0)<|zA (yM (v:=.ty "tuple") rfl T.tuple Z9 rfl) zC)<|kF<|yS<|zP (K:=K)<|zJ (jR rfl) (by rfl) T.all YV<|zA (xR (sc:=zE st) (N:=["thing","labels"]) (N':=["row"]) (src:=[none]) .a rfl rfl rfl (k7<|pv 0) (fun _ _ _ _=>(zY (i:=0) (show(["row"]:Da).Nodup by decide +kernel) rfl (EY rfl))) (fun _ _ _ _=>qL) (fun _ _ _ _=>(zL Z X.m<|zA (pv 0) zC))) zC) (zF<|zK jP) zM) (zD (NO (sc:=zE st) (N:=["thing","labels"]) (N':=["row"]) (src:=[none]) .a rfl rfl rfl (k7<|pv 0) (fun _ _ _ _=>(zY (i:=0) (show(["row"]:Da).Nodup by decide +kernel) rfl (EY rfl))) (fun _ _ _ _=>qL) (fun _ _ _ _=>(zQ (W4:Cc _<|WR K) (pv 0) zH)) sc.nd rfl (EY rfl) (k:=1)) (zF<|zK<|yO (GM X.units) (pv 1) (zJ (GG rfl) (by rfl) T.sorted Y4<|zA (yC (By (K:=K) rfl) (by rfl) T.set PyProof.Rows.boot_set (zA (pv 1) zC)) zC) (zR _)))),?_⟩
 refine⟨_,rfl,_,_,d,_,rfl,hd,T.is<|by simp[kinds],_,rfl,?_⟩;cases d with
 |tuple ds =>
  have B:=B ds rfl;obtain⟨a,xs,rfl,I,ha⟩:=hd;obtain⟨sl,sa⟩:=xX sm;have S:=ha.length;refine VQ ⟨_,rfl,a,rfl,⟨_,I⟩,jY (K:=K) (a:=a) (xs:=xs) (fun i g n c=>∃o,n=[o]/\W8 H c/\g=((ds.take i).map Us).map V.bl) ⟨none,rfl,W8.refl _,rfl⟩ (W3<|by omega) ?_ ?_ ?_⟩
  ·rintro i g n c hi ⟨o,rfl,A,rfl⟩;refine⟨A.Wv I,?_⟩;rw[Q5,Q5,Zz];omega
  ·rintro i x g n c r ⟨o,rfl,A,rfl⟩;obtain⟨d,hd,J⟩:=ha.get r;refine⟨_,rfl,d,x,rfl,J.same A,yJ sa hd,fun H3 e3=>⟨_,rfl,A.trans e3,?_⟩⟩;rw[y9 hd,Zr];rfl
  ·rintro g n c ⟨o,rfl,A,rfl⟩ p np;refine⟨p,_,rfl,WP.of zB,?_⟩;rw[S,ZI,all_map];have u:=A.trans<|zG (o:=.lst<|(ds.map Us).map V.bl) np;cases q:ds.all Us with
   |false =>
    have e:IG (.tuple ds)=false:=by show(ds.all Us&&_)=false;rw[q];rfl
    rw[e]at k;exact⟨_,rfl,VO<|k _ u⟩
   |true =>
    refine⟨_,rfl,VQ ?_⟩;show MZ _ _ _ _ (upd c p<|.lst<|(ds.map Us).map V.bl);generalize upd c p (.lst<|(ds.map Us).map V.bl)=G at u;have C:=WD.same u _ _ ha;refine⟨_,rfl,a,rfl,⟨_,u.Wv I⟩,jY (K:=K) (a:=a) (xs:=xs) (fun i g n c=>∃o,n=[o]/\c=G/\g=((ds.take i).map Uk).map V.str) ⟨none,rfl,rfl,rfl⟩ (W3<|by omega) ?_ ?_ ?_⟩
    ·rintro i g n c hi ⟨o,rfl,rfl,rfl⟩;refine⟨u.Wv I,?_⟩;rw[Q5,Q5,Zz];omega
    ·rintro i x g n c r ⟨o,rfl,rfl,rfl⟩;obtain⟨d,hd,J⟩:=C.get r;obtain⟨t,y,rfl,ht,_⟩:=F1 J<|ZW.mp q d<|Zu hd;refine⟨_,rfl,t,_,_,_,rfl,rfl,ht,rfl,_,rfl,rfl,?_⟩;have e1:ds.take (i+1)=ds.take i++[d]:=by rw[Z4,hd];rfl
     rw[e1,Zr,Zr];rfl
    ·rintro g n c ⟨o,rfl,rfl,rfl⟩ l nl;rw[S,ZI];have v1:=zG (o:=.lst<|(ds.map Uk).map V.str) nl;have ul:=AxS.zf _ (ds.map Uk) rfl;rw[Q5]at ul;refine⟨_,rfl,_,rfl,l,ds.map Uk,rfl,.inl<|WP.of zB,by rw[Q5];omega,fun R n2=>?_⟩;have Y:=v1.trans<|zG (o:=GD P w R<|AxS.uniq<|ds.map Uk) n2;refine⟨R,_,rfl,zB,by omega,fun l3 s n3 U M=>?_⟩;have v3:=Y.trans<|zG (o:=.lst<|s.map V.str) n3;have D:∀x∈ds.map Uk,El x=true:=fun x r=>by
      obtain⟨d,hd,rfl⟩:=Ze.mp r;obtain⟨j,hj⟩:=List.getElem?_of_mem hd;obtain⟨z,hz,dz⟩:=C.at hj;obtain⟨_,_,_,_,hl⟩:=F1 dz<|ZW.mp q d hd;exact UD hl
     have O:∀x∈s,El x=true:=fun x r=>D x<|M1<|U.mem_iff.mp r;have aa:=(Y.trans<|zG (o:=.lst<|s.map V.str) n3);have L:=(((zG (o:=GD P w R<|AxS.uniq<|ds.map Uk) n2).trans<|zG (o:=.lst<|s.map V.str) n3)) _ _<|zB (H:=c) (a:=l) (o:=.lst<|(ds.map Uk).map V.str);refine⟨.list<|(ds.map Uk).map .str,.list<|s.map .str,⟨l,_,rfl,WP.of L,W6.strs _⟩,⟨l3,_,rfl,WP.of zB,W6.strs _⟩,(qB D).1,(qB O).1,?_⟩;have ev:EG (.list<|(ds.map Uk).map .str) (.list<|s.map .str)=decide (ds.map Uk=s):=q8 _ _;rw[ev,Ff U M];have e:IG (.tuple ds)=Ut (ds.map Uk):=by show(ds.all Us&&_)=_;rw[q];rfl
     rw[e]at k;exact k _<|u.trans v3
 |none=>exact VO<|k _<|W8.refl _
 |bool b=>exact VO<|k _<|W8.refl _
 |int i=>exact VO<|k _<|W8.refl _
 |list ds=>exact VO<|k _<|W8.refl _
 |str x=>exact VO<|k _<|W8.refl _
 |dict Dm=>exact VO<|k _<|W8.refl _
end Ag
namespace Ah
abbrev st:Stmt:=top 31
theorem sc:W7 ["word","parts"] ["word","parts"] (zE st):=Cf
theorem ok (F:Wt K "is_leaf" "is_leaf" st f fd)(T:Txt P w K mg t1 t2 t3 t4 t5 t6 aL aC aN aT aA b1 b2 b3 b4 b5 b6 b7 b8 aD)(n:T9 P w K mg base 3 "is_lines" ["thing"]<|F4 K):W0 P w K mg base Cd 4 f fd ["word","parts"] (S6 K Um):=by
 refine F.ok sc fun _ _ _ _ H A Q E s h=>?_;obtain⟨word,a,b,v,rfl,i,ha,sa,o,r,k⟩:=h;refine⟨_,(zF<|zK<|xC (yO xB (pv 0) W9<|zR _)<|xC (yO xB (zJ z0 (by rfl) T.len Z0<|zA (pv 1) zC) zH<|zR _)<|x4<|zL n s.m<|zA (zQ (W4:Cc _<|WR K) (pv 1) zH) zC),?_⟩;have l:=ha.length;refine⟨_,rfl,rfl,_,rfl,V3 (fun c=>?_)<|fun c=>?_⟩
 ·have c:V.str word=V.str "leaf":=Zv c;have c:word="leaf":=by injection c
  refine⟨_,rfl,a,_,rfl,.inr i,rfl,_,rfl,V3 (fun g=>?_)<|fun g=>?_⟩
  ·have g:v.length=1:=by have:=Zv g;injection this with z;omega
   have d:b[0]?=some (Cn b 0):=by
    have:b[0]?=some (b[0]'(by omega)):=Zh _;unfold Cn;rw[this];rfl
   obtain⟨x,t,q⟩:=ha.at d;refine⟨_,rfl,a,_,_,_,rfl,rfl,i,zT (j:=0) t,Cn b 0,_,rfl,q,yJ sa d,fun y u=>?_⟩;have e:Um word b=XN (Cn b 0):=by
    unfold Um;rw[Zc c,Zc<|show b.length=1 by omega];rfl
   rw[e]at k;exact k _ u
  ·have e:Um word b=false:=by
    unfold Um;rw[Zg (p:=b.length=1)<|fun z=>g<|Zc (by rw[l,z];rfl),YR,Js]
   rw[e]at k;exact k _<|W8.refl _
 ·have e:Um word b=false:=by
   unfold Um;rw[Zg (p:=word="leaf")<|fun z=>c<|Zc<|by rw[z],YR]
  rw[e]at k;exact k _<|W8.refl _
end Ah
namespace Ai
abbrev st:Stmt:=top 32
theorem sc:W7 ["word","parts"] ["word","parts"] (zE st):=Cf
theorem ok (F:Wt K "is_tree" "is_tree" st f fd)(T:Txt P w K mg t1 t2 t3 t4 t5 t6 aL aC aN aT aA b1 b2 b3 b4 b5 b6 b7 b8 aD)(o:T9 P w K mg base 3 "is_rows" ["thing"]<|wk K):W0 P w K mg base Cd 4 f fd ["word","parts"] (S6 K Ul):=by
 refine F.ok sc fun _ _ _ _ H C Q E u h=>?_;obtain⟨word,a,b,A,rfl,l,ha,sa,q,i,k⟩:=h;refine⟨_,(zF<|zK<|xC (yO xB (pv 0) W9<|zR _)<|xC (yO xB (zJ z0 (by rfl) T.len Z0<|zA (pv 1) zC) zH<|zR _)<|x4<|zL o u.m<|zA (zQ (W4:Cc _<|WR K) (pv 1) zH) zC),?_⟩;have n:=ha.length;refine⟨_,rfl,rfl,_,rfl,V3 (fun c=>?_)<|fun c=>?_⟩
 ·have c:V.str word=V.str "tree":=Zv c;have c:word="tree":=by injection c
  refine⟨_,rfl,a,_,rfl,.inr l,rfl,_,rfl,V3 (fun g=>?_)<|fun g=>?_⟩
  ·have g:A.length=1:=by have:=Zv g;injection this with z;omega
   have d:b[0]?=some (Cn b 0):=by
    have:b[0]?=some (b[0]'(by omega)):=Zh _;unfold Cn;rw[this];rfl
   obtain⟨x,v,r⟩:=ha.at d;refine⟨_,rfl,a,_,_,_,rfl,rfl,l,zT (j:=0) v,Cn b 0,_,rfl,r,yJ sa d,fun s t=>i _ (Zu d) s t,fun B y=>?_⟩;have e:Ul word b=IG (Cn b 0):=by
    unfold Ul;rw[Zc c,Zc<|show b.length=1 by omega];rfl
   rw[e]at k;exact k _ y
  ·have e:Ul word b=false:=by
    unfold Ul;rw[Zg (p:=b.length=1)<|fun z=>g<|Zc (by rw[n,z];rfl),YR,Js]
   rw[e]at k;exact k _<|W8.refl _
 ·have e:Ul word b=false:=by
   unfold Ul;rw[Zg (p:=word="tree")<|fun z=>c<|Zc<|by rw[z],YR]
  rw[e]at k;exact k _<|W8.refl _
end Ai
namespace Aj
abbrev st:Stmt:=top 33
theorem sc:W7 ["word","parts"] ["word","parts"] (zE st):=Cf
theorem ok (F:Wt K "is_note" "is_note" st f fd)(T:Txt P w K mg t1 t2 t3 t4 t5 t6 aL aC aN aT aA b1 b2 b3 b4 b5 b6 b7 b8 aD)(C:T9 P w K mg base 1 "is_parents" ["thing"]<|S5 K)(B:T9 P w K mg base 2 "is_line" ["thing"]<|GL K):W0 P w K mg base Cd 3 f fd ["word","parts"] (S6 K Uq):=by
 refine F.ok sc fun _ _ _ _ H O Q E u h=>?_;obtain⟨word,a,b,J,rfl,c,ha,sa,D,G,k⟩:=h;refine⟨_,(zD (z7 (PW.pt<|k9 (zO K6 (pv 0) W9<|zR _)<|kF<|zO K6 (zJ z0 (by rfl) T.len Z0<|zA (pv 1) zC) zH<|zR _) (zF<|zK jP) zM)<|zF<|zK<|xC (zJ (zS (K:=K)) (by rfl) T.isinstance Zf<|zA (zQ (W4:Cc _<|WR K) (pv 1) zH)<|zA (yM (v:=.ty "str") rfl T.str ZR rfl) zC)<|xC (zL C u.m<|zA (zQ (W4:Cc _<|WR K) (pv 1) zH) zC)<|x4<|zL B u.m<|zA (zQ (W4:Cc _<|WR K) (pv 1) zH) zC),?_⟩
 have A:=ha.length
 by_cases d:word="note"
 ·refine⟨_,rfl,rfl,_,rfl,BZ (by rw[d]) ?_⟩
  by_cases g:b.length=3
  ·refine⟨_,rfl,a,_,rfl,.inr c,rfl,_,rfl,BZ (by rw[A,g];rfl) ?_⟩;have get:∀i,i<3->b[i]?=some (Cn b i):=fun i N=>by
    have:b[i]?=some (b[i]'(by omega)):=Zh _;unfold Cn;rw[this];rfl
   obtain⟨R,r,n⟩:=ha.at (get 0<|by decide);obtain⟨S,s,o⟩:=ha.at (get 1<|by decide);obtain⟨U,t,q⟩:=ha.at (get 2<|by decide);have e:Uq word b=(V1 (Cn b 0)&&(x6 (Cn b 1)&&U2 (Cn b 2))):=by
    unfold Uq;rw[Zc d,Zc g];rfl
   rw[e]at k;refine⟨_,rfl,a,_,_,_,rfl,rfl,c,zT (j:=0) r,_,_,Cn b 0,_,rfl,n,T.is<|by simp[kinds],_,rfl,?_⟩;rw[j8];cases x:V1 (Cn b 0) with
   |false =>
    rw[x]at k;exact VQ<|k _<|W8.refl _
   |true =>
    rw[x]at k;refine VO ⟨_,rfl,a,_,_,_,rfl,rfl,c,zT (j:=1) s,Cn b 1,_,rfl,o,yJ sa<|get 1<|by decide,fun L l=>⟨_,rfl,?_⟩⟩;cases y:x6 (Cn b 1) with
    |false =>
     rw[y]at k;exact VQ<|k _ l
    |true =>
     rw[y]at k;exact VO ⟨_,rfl,a,_,_,_,rfl,rfl,l.Wv c,zT (j:=2) t,Cn b 2,_,rfl,q.same l,yJ sa<|get 2<|by decide,fun M I=>k _<|l.trans I⟩
  ·have e:Uq word b=false:=by
    unfold Uq;rw[Zg g,YR,Js]
   rw[e]at k;refine⟨_,rfl,a,_,rfl,.inr c,rfl,_,rfl,?_⟩;rw[Zg (p:=V.int ((J.length:Nat):Int)=V.int 3)<|fun z=>g (by injection z with z;omega)];exact VO<|k _<|W8.refl _
 ·have e:Uq word b=false:=by
   unfold Uq;rw[Zg d,YR]
  rw[e]at k;refine⟨_,rfl,rfl,_,rfl,?_⟩;rw[Zg (p:=V.str word=V.str "note")<|fun z=>d<|by injection z];exact VO<|VO<|k _<|W8.refl _
end Aj
namespace Ak
abbrev st:Stmt:=top 34
theorem sc:W7 ["thing","word","parts"] ["thing"] (zE st):=Cf
theorem ok (F:Wt K "is_thing" "is_thing" st f fd)(T:Txt P w K mg t1 t2 t3 t4 t5 t6 aL aC aN aT aA b1 b2 b3 b4 b5 b6 b7 b8 aD)(N:T9 P w K mg base 4 "is_leaf" ["word","parts"]<|S6 K Um)(L:T9 P w K mg base 4 "is_tree" ["word","parts"]<|S6 K Ul)(M:T9 P w K mg base 3 "is_note" ["word","parts"]<|S6 K Uq) :
  W0 P w K mg base Cd 5 f fd ["thing"] (za K):=by
 refine F.ok sc fun _ _ _ _ H vs Q E y h=>?_;obtain⟨d,v,rfl,hd,S,A,k⟩:=h;refine⟨_,(zD (z7 (PW.pt<|k9 (yS<|zP (K:=K)<|zJ (zS (K:=K)) (by rfl) T.isinstance Zf<|zA (pv 0)<|zA (yM (v:=.ty "tuple") rfl T.tuple Z9 rfl) zC)<|k9 (zO xB (zJ z0 (by rfl) T.len Z0<|zA (pv 0) zC) zH<|zR _)<|kF<|yS<|zP (K:=K)<|zJ (zS (K:=K)) (by rfl) T.isinstance Zf<|zA (zQ (W4:Cc _<|WR K) (pv 0) zH)<|zA (yM (v:=.ty "str") rfl T.str ZR rfl) zC) (zF<|zK jP) zM)<|zD (Cg (i:=1) sc.nd<|zQ (W4:Cc _<|WR K) (pv 0) zH)<|zD (Cg (i:=2) sc.nd<|jT (vf:Rn _<|Of K) (pv 0) (kW zH) kZ)<|zF<|zK<|Oc (zL N y.m<|zA (pv 1)<|zA (pv 2) zC)<|Oc (zL L y.m<|zA (pv 1)<|zA (pv 2) zC)<|x4<|zL M y.m<|zA (pv 1)<|zA (pv 2) zC),?_⟩
 refine⟨_,rfl,_,_,d,_,rfl,hd,T.is<|by simp[kinds],_,rfl,?_⟩;cases d with
 |tuple ds =>
  obtain⟨n1,n2⟩:=A ds rfl;obtain⟨a,U,rfl,p,ha⟩:=hd;obtain⟨sl,sa⟩:=xX S;have s:=ha.length;refine VQ ?_
  match ds,ha,s,sa,n1,n2,k with
  |[],ha,s,sa,n1,n2,k =>
   refine⟨_,rfl,a,_,rfl,.inr p,rfl,_,rfl,?_⟩;rw[Zc (show V.int ((U.length:Nat):Int)=V.int 0 by rw[s];rfl)];exact VO<|VO<|k _<|W8.refl _
  |d0::ds,⟨x0,r,ex,hd0,hr'⟩,s,sa,n1,n2,k =>
   subst ex;refine⟨_,rfl,a,_,rfl,.inr p,rfl,_,rfl,Uf (fun z=>by injection z with z;simp at z;omega) ?_⟩;refine⟨_,rfl,a,_,_,_,rfl,rfl,p,zT (j:=0) rfl,_,_,d0,_,rfl,hd0,T.is<|by simp[kinds],_,rfl,?_⟩;rw[j8];cases d0 with
   |str word =>
    cases(show x0=_ from hd0);refine VQ ?_;refine⟨_,rfl,a,_,_,_,rfl,rfl,p,zT (j:=0) rfl,?_⟩;refine⟨_,rfl,_,rfl,a,_,rfl,p,fun v J hv=>?_⟩;obtain⟨q,rfl,B,o⟩:=Ng p hv;rw[Ks<|by decide]at o;have o:Wu K J q r:=o;have n:yD ds=true:=by
     have sa:(small (.str word)&&yD ds)=true:=sa;rw[Zk]at sa;exact sa.2
    have g:ds.length<=63:=by have:=n1;simp at this;omega
    have l:∀e∈ds,∀D,e=.tuple D->D.length<=63:=fun e O=>n2 e<|Zi _ O;refine⟨_,rfl,_,rfl,word,q,ds,r,rfl,o,WD.same B _ _ hr',n,g,l,fun X t=>⟨_,rfl,?_⟩⟩;have k:∀C,W8 H C->Q (.bl (Um word ds||(Ul word ds||Uq word ds))) C:=k;cases G:Um word ds with
    |true =>
     rw[G]at k;exact VO<|k _<|B.trans t
    |false =>
     rw[G,Vt]at k;have c:=B.trans t;refine VQ ⟨_,rfl,_,rfl,word,q,ds,r,rfl,t.Wv o,WD.same c _ _ hr',n,g,l,fun Y u=>⟨_,rfl,?_⟩⟩;cases I:Ul word ds with
     |true =>
      rw[I]at k;exact VO<|k _<|c.trans u
     |false =>
      rw[I,Vt]at k;exact VQ ⟨_,rfl,_,rfl,word,q,ds,r,rfl,(t.trans u).Wv o,WD.same (c.trans u) _ _ hr',n,g,l,fun Z R=>k _<|(c.trans u).trans R⟩
   |none=>exact VO<|k _<|W8.refl _
   |bool _=>exact VO<|k _<|W8.refl _
   |int _=>exact VO<|k _<|W8.refl _
   |list _=>exact VO<|k _<|W8.refl _
   |tuple _=>exact VO<|k _<|W8.refl _
   |dict _=>exact VO<|k _<|W8.refl _
 |none=>exact VO<|VO<|k _<|W8.refl _
 |bool b=>exact VO<|VO<|k _<|W8.refl _
 |int i=>exact VO<|VO<|k _<|W8.refl _
 |list ds=>exact VO<|VO<|k _<|W8.refl _
 |str x=>exact VO<|VO<|k _<|W8.refl _
 |dict Dm=>exact VO<|VO<|k _<|W8.refl _
end Ak
namespace Al
abbrev st:Stmt:=top 35
theorem sc:W7 ["thing"] ["thing"] (zE st):=Cf
theorem ok (F:Wt K "need_thing" "need_thing" st f fd)(T:Txt P w K mg t1 t2 t3 t4 t5 t6 aL aC aN aT aA b1 b2 b3 b4 b5 b6 b7 b8 aD)(e:T9 P w K mg base 5 "is_thing" ["thing"]<|za K):W0 P w K mg base (Cl P w) 6 f fd ["thing"] (wF K aT):=by
 refine F.Sg sc fun _ _ _ _ H o Q E g h=>?_;obtain⟨d,v,rfl,hd,l,b,i,j⟩:=h;refine⟨_,(zD (z7 (yS<|zP (K:=K)<|zL e g.m<|zA (pv 0) zC) (zF<|xG rfl yV rfl T.v9 T.vA<|zA W9 zC) zM)<|zF<|zK<|pv 0),?_⟩
 refine⟨_,rfl,d,v,rfl,hd,l,b,fun n c=>⟨_,rfl,?_⟩⟩;cases q:jN d with
 |true=>exact VQ ⟨_,rfl,i q _ c⟩
 |false=>exact VO ⟨VR 1,j q _ c⟩
end Al
namespace Am
abbrev st:Stmt:=top 36
theorem sc:W7 ["thing"] ["thing"] (zE st):=Cf
theorem ok (F:Wt K "letter_of" "letter_of" st f fd)(T:Txt P w K mg t1 t2 t3 t4 t5 t6 aL aC aN aT aA b1 b2 b3 b4 b5 b6 b7 b8 aD):W0 P w K mg base Cd 1 f fd ["thing"] (Ib K):=by
 refine F.ok sc fun _ _ _ _ H d Q E c h=>?_;obtain⟨v,t,rfl,hd,k⟩:=h;refine⟨_,(zF<|zK<|NH (yN (v:=.ref aL) rfl T.LETTERS rfl) (zQ (W4:Cc _<|WR K) (pv 0) zH)<|fun _ _=>rfl),?_⟩;obtain⟨a,r,rfl,b⟩:=kO hd;exact⟨_,rfl,a,_,_,_,rfl,rfl,b,Bx _ _,_,_,Ey t.word,_,rfl,rfl,T.kd,CO t,k⟩
end Am
namespace Ao
abbrev st:Stmt:=top 37
theorem sc:W7 ["rows","parts","label","name"] ["rows"] (zE st):=Cf
theorem Wb:∀rs:Dh,(zZ rs).length=2*rs.length
 |[]=>rfl
 |r::rs=>by
  show(zZ rs).length+2=2*(rs.length+1);rw[Wb rs];omega
theorem ok (F:Wt K "tree_parts" "tree_parts" st f fd)(T:Txt P w K mg t1 t2 t3 t4 t5 t6 aL aC aN aT aA b1 b2 b3 b4 b5 b6 b7 b8 aD):W0 P w K mg base Cd 1 f fd ["rows"] (UY K):=by
 refine F.ok sc fun _ _ _ _ H B Q E A h=>?_;obtain⟨v,c,rfl,hd,hl,k⟩:=h;obtain⟨a,xs,rfl,p,q⟩:=hd;have n:xs.length=c.length:=by rw[q.length,Q5]
 refine⟨_,(zD (Cg (i:=1) sc.nd<|y7 zC)<|zD (qF PassesOwn.never rfl (k7<|pv 0) (Gv rfl<|xH (zY (i:=2) sc.nd rfl<|EY rfl)<|xH (zY (i:=3) sc.nd rfl<|EY rfl) kX)<|zD (yL<|U5 YF JE JF UL (pv 1)<|zA (pv 2) zC)<|zF<|yL<|U5 YF JE JF UL (pv 1)<|zA (pv 3) zC)<|zF<|zK<|pv 1),?_⟩
 refine⟨ZA _,fun l nl=>?_⟩;refine⟨_,rfl,a,rfl,⟨_,(zG nl).Wv p⟩,Gf (K:=K) (a:=a) (xs:=xs) (fun i j g=>∃(x y:Option V),j=[some<|.ref a,some<|.ref l,x,y]/\g=upd H l (.lst<|(zZ<|c.take i).map V.str)) ⟨none,none,rfl,rfl⟩ (fun i j g _ ⟨_,_,_,e⟩=>by rw[e];exact(zG nl).Wv p) ?_ ?_⟩
 ·rintro i x j g s ⟨u,z,rfl,rfl⟩;obtain⟨r,b,o,rfl,hb⟩:=BW q s;have t:i<c.length:=(Z2.mp o).1;have d:((zZ<|c.take i).map V.str).length<=2000:=by
   rw[Q5,Wb,Zz];omega
  refine⟨b,_,rfl,(zG nl).Wv hb,rfl,_,_,rfl,_,_,rfl,rfl,?_⟩;refine⟨_,rfl,.inl ⟨rfl,_,WP.of zB⟩,_,rfl,l,_,_,rfl,rfl,zB,JK d (by rw[Ya];decide),?_⟩;refine⟨_,rfl,.inl ⟨rfl,_,WP.of zB⟩,_,rfl,l,_,_,rfl,rfl,zB,?_,?_⟩
  ·rw[ZD,Yw];exact JK (Nat.succ_le_succ d) (by rw[Ya];decide)
  ·refine⟨_,_,rfl,?_⟩;rw[Hi,Hi]
   congr 2
   rw[Z4,o];show _=(zZ<|c.take i++[r]).map V.str;rw[qP,Zr];show _=(zZ<|c.take i).map V.str++[V.str r.1,V.str r.2];rw[Y1];rfl
 ·rintro j g ⟨u,z,rfl,rfl⟩;refine⟨_,rfl,?_⟩;rw[n,ZI];exact k l nl
end Ao
theorem Xh {c A B:Prop} [Decidable c](hc:c)(h:A):if decide c=true then A else B:=by
 rw[Zc hc];exact VO h
theorem Uf {c A B:Prop} [Decidable c](hc:¬c)(h:B):if decide c=true then A else B:=by
 rw[Zg hc];exact VQ h
theorem GK {n:Nat}(h:n<=100000):(dig n).length<=10:=Y5 (by omega) (by decide) (by
 have:(10:Int) ^ 10=10000000000:=by decide
 rw[this];omega)
theorem IS {n:Nat}(h:n<=1900):((n:Int)).natAbs.log2<1920:=by
 rw[Vj];exact JK (Nat.log2_le_self n) (by omega)
theorem HC {rs:Dh}(g:(Th.tree rs).Good):rs.length<=1000:=by
 have h:=g.1;have e:(zZ rs).length<=1000:=h;rw[Ao.Wb]at e;omega
theorem HB {x:Str}{ps:Da}{w:Str}(g:(Th.note x ps w).Good):ps.length<=1000:=by
 have h:=g.1;have e:([x,dig ps.length]++ps++[w]).length<=1000:=h;simp at e;omega
namespace Ap
abbrev st:Stmt:=top 38
theorem sc:W7 ["thing","parents"] ["thing"] (zE st):=Cf
theorem ok (F:Wt K "parts_of" "parts_of" st f fd)(T:Txt P w K mg t1 t2 t3 t4 t5 t6 aL aC aN aT aA b1 b2 b3 b4 b5 b6 b7 b8 aD)(B:T9 P w K mg base 1 "tree_parts" ["rows"]<|UY K):W0 P w K mg base Cd 2 f fd ["thing"] (F6 K):=by
 refine F.ok sc fun _ _ _ _ H J Q E C h=>?_;obtain⟨v,t,rfl,hd,g,k⟩:=h;refine⟨_,(zD (z7 (zO xB (zQ (W4:Cc _<|WR K) (pv 0) zH) W9<|zR _) (zF<|zK<|yC qI (by rfl) T.list YL<|zA (zQ (W4:Cc _<|WR K) (pv 0) zH) zC) zM)<|zD (z7 (zO xB (zQ (W4:Cc _<|WR K) (pv 0) zH) W9<|zR _) (zF<|zK<|zL B C.m<|zA (zQ (W4:Cc _<|WR K) (pv 0) zH) zC) zM)<|zD (Cg (i:=1) sc.nd<|zQ (W4:Cc _<|WR K) (pv 0) zH)<|zF<|zK<|z5 XS (z5 XS (y7<|zA (zQ (W4:Cc _<|WR K) (pv 0) zH)<|zA (yC xZ (by rfl) T.str ZR<|zA (zJ z0 (by rfl) T.len Z0<|zA (pv 1) zC) zC) zC)<|yC qI (by rfl) T.list YL<|zA (pv 1) zC)<|y7<|zA (zQ (W4:Cc _<|WR K) (pv 0) zH) zC),?_⟩
 cases t with
 |leaf ls =>
  obtain⟨a,b,rfl,c,hb⟩:=GJ hd;refine⟨_,rfl,a,_,_,_,rfl,rfl,c,rfl,rfl,_,rfl,Xh rfl ?_⟩;exact⟨_,rfl,a,_,_,_,rfl,rfl,c,rfl,b,_,rfl,.inr hb,fun l nl=>k l _ (zG nl) nl zB⟩
 |tree rs =>
  obtain⟨a,b,rfl,c,hb⟩:=Gn hd;refine⟨_,rfl,a,_,_,_,rfl,rfl,c,rfl,rfl,_,rfl,Uf (by decide +kernel) ?_⟩;refine⟨_,rfl,a,_,_,_,rfl,rfl,c,rfl,rfl,_,rfl,Xh rfl ?_⟩;exact⟨_,rfl,a,_,_,_,rfl,rfl,c,rfl,_,rs,rfl,hb,HC g,fun l nl=>k l _ (zG nl) nl zB⟩
 |note x ps y =>
  obtain⟨a,b,rfl,c,hb⟩:=Xg hd;have I:=HB g;refine⟨_,rfl,a,_,_,_,rfl,rfl,c,rfl,rfl,_,rfl,Uf (by decide +kernel) ?_⟩;refine⟨_,rfl,a,_,_,_,rfl,rfl,c,rfl,rfl,_,rfl,Uf (by decide +kernel) ?_⟩;refine⟨_,rfl,a,_,_,_,rfl,rfl,c,rfl,?_⟩;refine⟨_,rfl,a,_,_,_,rfl,rfl,c,rfl,_,rfl,b,_,rfl,.inr hb,_,rfl,?_,VR 2,fun j n1=>?_⟩
  ·rw[Q5];exact IS (by omega)
  have u:=zG (o:=.lst [V.str x,V.str<|EN<|toString (((ps.map V.str).length:Nat):Int)]) n1;refine⟨_,rfl,b,_,rfl,.inr<|u.Wv hb,fun n n2=>?_⟩;have G:=u.trans<|zG (o:=.lst<|ps.map V.str) n2;have d:j≠n:=zN zB n2;refine⟨j,n,_,_,rfl,rfl,(by rw[zI d];exact zB),zB,(by rw[Q5];exact W3 (by simp only[ZF,J8];omega)),fun p n3=>?_⟩;have z:=G.trans<|zG (o:=.lst<|[V.str x,V.str<|EN<|toString (((ps.map V.str).length:Nat):Int)]++ps.map V.str) n3;refine⟨_,rfl,a,_,_,_,rfl,rfl,z.Wv c,rfl,VR 1,fun q r=>?_⟩;have A:=z.trans<|zG (o:=.lst [V.str y]) r;have e:p≠q:=zN zB r;refine⟨p,q,_,_,rfl,rfl,(by rw[zI e];exact zB),zB,?_,fun D s=>?_⟩
  ·rw[ZD,Q5];exact W3 (by simp only[ZF,J8];omega)
  ·refine k D _ (A.trans<|zG s) (A.free s) ?_;rw[zB]
   congr 2
   show _=([x,dig ps.length]++ps++[y]).map V.str;rw[Zr,Zr];show([V.str x,V.str<|EN<|toString (((ps.map V.str).length:Nat):Int)]++ps.map V.str)++[V.str y]=_;rw[Q5];rfl
end Ap
namespace Aq
abbrev st:Stmt:=top 39
theorem sc:W7 ["part"] ["part"] (zE st):=Cf
theorem ok (F:Wt K "counted" "counted" st f fd)(T:Txt P w K mg t1 t2 t3 t4 t5 t6 aL aC aN aT aA b1 b2 b3 b4 b5 b6 b7 b8 aD):W0 P w K mg base Cd 1 f fd ["part"] IF:=by
 refine F.ok sc fun _ _ _ _ H g Q E e h=>?_;obtain⟨x,rfl,hl,k⟩:=h;refine⟨_,(zF<|zK<|z5 yQ (z5 yQ (yC xZ (by rfl) T.str ZR<|zA (zJ qX (by rfl) T.len Z0<|zA (pv 0) zC) zC) W9)<|pv 0),?_⟩;have d:=GK (n:=x.length) (by omega);have c:(""++":":String).length=1:=by decide
 have b:(":":Str).length=1:=by decide +kernel
 refine⟨_,rfl,x,rfl,W3<|by omega,_,rfl,IS<|by omega,_,_,rfl,rfl,W3 (by rw[b];exact Yc (Nat.add_le_add_right d 1)<|by decide),_,rfl,_,_,rfl,rfl,W3 ?_,k⟩;show(dig x.length++":").length+x.length<=_;rw[WQ,b];omega
end Aq
namespace Ar
abbrev st:Stmt:=top 40
theorem sc:W7 ["thing"] ["thing"] (zE st):=Cf
theorem Bk {x:Str}(h:x.length<=1000):(counted x).length<=1011:=by
 have d:=GK (n:=x.length) (by omega);have b:(":":Str).length=1:=by decide +kernel
 show(dig x.length++":"++x).length<=_;rw[WQ,WQ,b];omega
theorem ok (F:Wt K "spelled" "spelled" st f fd)(T:Txt P w K mg t1 t2 t3 t4 t5 t6 aL aC aN aT aA b1 b2 b3 b4 b5 b6 b7 b8 aD)(A:T9 P w K mg base 1 "letter_of" ["thing"]<|Ib K)(s:T9 P w K mg base 2 "parts_of" ["thing"]<|F6 K)
  (u:T9 P w K mg base 1 "counted" ["part"] IF):W0 P w K mg base Cd 3 f fd ["thing"] (IH K):=by
 refine F.ok sc fun _ _ _ _ H S Q E n h=>?_;obtain⟨v,t,rfl,hd,g,k⟩:=h;refine⟨_,(zF<|zK<|z5 yQ (zL A n.m<|zA (pv 0) zC)<|U5 Jh PySem.F.slot_str_join PySem.F.type_str_join FJ W9<|zA (xR (sc:=zE st) (N:=["thing"]) (N':=["part"]) (src:=[none]) .a rfl rfl rfl (kA<|zL s n.m<|zA (pv 0) zC) (fun _ _ _ _=>(zY (i:=0) (show(["part"]:Da).Nodup by decide +kernel) rfl (EY rfl))) (fun _ _ _ _=>qL) (fun _ _ _ _=>(zL u n.m<|zA (pv 0) zC))) zC),?_⟩;refine⟨_,rfl,v,t,rfl,hd,rfl,_,rfl,v,t,rfl,hd,g,fun l r L nl hl=>?_⟩;have O:(t.parts.map V.str).length<=1000:=by rw[Q5];exact g.1
 refine⟨l,rfl,⟨_,WP.of hl⟩,j6 (K:=K) (a:=l) (xs:=t.parts.map V.str) (fun i d j c=>∃x,j=[x]/\c=r/\d=((t.parts.take i).map counted).map V.str) ⟨none,rfl,rfl,rfl⟩ (W3<|by omega) (fun i d j c b ⟨x,_,e,C⟩=>⟨by rw[e];exact WP.of hl,?_⟩) ?_ ?_⟩
 ·rw[C,Q5,Q5,Zz];exact Nat.min_le_left _ _
 ·rintro i x d j c b ⟨M,rfl,rfl,rfl⟩;rw[Zo]at b;cases q:t.parts[i]? with
  |none=>rw[q]at b;cases b
  |some p =>
   rw[q]at b;have b:V.str p=x:=Option.some.inj b;subst b;have D:=g.2 p<|Zu q;refine⟨_,rfl,p,rfl,D.len,_,rfl,rfl,?_⟩;rw[Z4,q,Zr,Zr];rfl
 ·rintro d j c ⟨M,rfl,rfl,rfl⟩ p J;have e:(t.parts.take (t.parts.map V.str).length)=t.parts:=by rw[Q5,ZI]
  rw[e];have b1:∀y∈t.parts.map counted,y.length<=1011:=fun y G=>by
   obtain⟨z,I,rfl⟩:=Ze.mp G;exact Bk (g.2 z I).len
  have b2:=MU _ b1;have b3:(t.parts.map counted).length<=1000:=by rw[Q5];exact g.1
  have b4:(t.parts.map counted).length*1011<=1011000:=Nat.mul_le_mul_right 1011 b3;have o:("":Str).length=0:=by decide +kernel
  have R:t.letter.length=1:=by rw[WW,jW];rfl
  refine⟨_,p,t.parts.map counted,rfl,rfl,.inl<|WP.of zB,by rw[o];omega,_,_,rfl,rfl,?_,?_⟩
  ·have:=StrLaws.join_length_le ""<|t.parts.map counted;have B:Txt.join "" (t.parts.map counted)=Str.join "" (t.parts.map counted):=LH _ _;rw[B];rw[o]at this;exact W3 (by omega)
  ·rw[P4];exact k _<|L.trans<|zG J
end Ar
namespace As
abbrev st:Stmt:=top 41
theorem sc:W7 ["thing","number","sign"] ["thing"] (zE st):=Cf
theorem ok (F:Wt K "digest" "digest" st f fd)(T:Txt P w K mg t1 t2 t3 t4 t5 t6 aL aC aN aT aA b1 b2 b3 b4 b5 b6 b7 b8 aD)(l:T9 P w K mg base 3 "spelled" ["thing"]<|IH K):W0 P w K mg base Cd 4 f fd ["thing"] (G5 K):=by
 refine F.ok sc fun _ _ _ _ H q Q E o h=>?_;obtain⟨v,t,rfl,hd,g,k⟩:=h;refine⟨_,(zD (Cg (i:=1) sc.nd zH)<|zD (qF PassesOwn.never rfl (CZ<|zL l o.m<|zA (pv 0) zC) (zY (i:=2) sc.nd rfl<|EY rfl)<|zF<|Cg (i:=1) sc.nd<|z5 y6 (z5 Xl (z5 K5 (yN (v:=.int 31) rfl T.yp ⟨_,rfl⟩)<|pv 1)<|zJ BS (by rfl) T.ord PyProof.Rows.boot_ord<|zA (pv 2) zC)<|yN (v:=.int 97) rfl T.xr ⟨_,rfl⟩)<|zF<|zK<|pv 1),?_⟩
 refine⟨_,rfl,v,t,rfl,hd,g,fun j p=>⟨_,rfl,Ni (fun i e b=>∃x,e=[some v,some<|.int<|((cs t.sp).take i).foldl Px 0,x]/\b=j) ⟨none,rfl,rfl⟩ ?_ ?_⟩⟩
 ·rintro i c e b n ⟨x,rfl,rfl⟩;refine⟨_,rfl,_,_,rfl,rfl,.inl ⟨by decide,by decide⟩,_,rfl,_,rfl,rfl,_,_,rfl,rfl,_,_,rfl,rfl,(by show(0:Int)<97;decide),some<|.str ⟨#[c]⟩,?_,rfl⟩;have d:(cs t.sp)[i]?=some c:=by rw[←n];simp
  rw[Z4,d,Vq];rfl
 ·rintro e b ⟨x,rfl,rfl⟩;refine⟨_,rfl,?_⟩;rw[WW,ZI];exact k _ p
end As
namespace Au
abbrev st:Stmt:=inClass (top 49) 7
theorem sc:W7 ["self"] ["self"] (zE st):=Cf
theorem ok (F:Wt K "names" "Shelf.names" st f fd)(T:Txt P w K mg t1 t2 t3 t4 t5 t6 aL aC aN aT aA b1 b2 b3 b4 b5 b6 b7 b8 aD):W0 P w K mg base Cd 1 f fd ["self"] (zz P w K aC):=by
 refine F.ok sc fun _ _ _ _ H z Q E y h=>?_;obtain⟨a,p,S,rfl,sh,k⟩:=h;refine⟨_,(zF<|zK<|yC (Cw rfl) (by rfl) T.list YL<|zA (yT (pv 0) rfl) zC),?_⟩;obtain⟨g,d,c,n,o,b,nx,rfl,nd,i,q,r,j,s,t,u,v,x⟩:=sh;refine⟨_,rfl,a,aC,d,_,_,rfl,i,T.cls,T.n1,rfl,c,_,rfl,j,fun l nl=>?_⟩;have e:(((S.zip b).map fun e=>((Ey e.1.nm:Key),V.ref e.2)).map fun kv=>kV kv.1)=S.map fun e=>V.str e.nm:=by
  rw[ZB];have:(S.zip b).map (·.1)=S:=J4 (by omega)
  conv=>rhs;rw[←this]
  rw[ZB];rfl
 rw[e];exact k l nl
end Au
namespace Av
abbrev st:Stmt:=inClass (top 49) 1
theorem sc:W7 ["self","name","thing","halves","head"] ["self","name","thing"] (zE st):=Cf
theorem ok (F:Wt K "take" "Shelf.take" st f fd)(T:Txt P w K mg t1 t2 t3 t4 t5 t6 aL aC aN aT aA b1 b2 b3 b4 b5 b6 b7 b8 aD):W0 P w K mg base Cd 1 f fd ["self","name","thing"] (xu P w K aC):=by
 refine F.ok sc fun _ _ _ _ H vs Q E hr h=>?_;obtain⟨a,fp,S,e,t,rfl,sh,u,ht,hd,hn,hl,k⟩:=h;have hu:=KG hr;refine⟨_,(zD (Cg (i:=3) sc.nd<|U5 Jh PySem.F.slot_str_partition PySem.F.type_str_partition kI (pv 1)<|zA W9 zC)<|zD (Cg (i:=4) sc.nd<|zQ (W4:Cc _<|WR K) (pv 3) zH)<|zD (xJ hu (yT (pv 0) rfl) (pv 4) (zJ (Hq rfl) (by rfl) T.max PyProof.Rows.boot_max<|zA (XJ hu (yT (pv 0) rfl) (pv 4) zH ⟨rfl,rfl,rfl,rfl⟩)<|zA (z5 Xl (yC Hn (by rfl) T.int PyProof.Rows.boot_int<|zA (zQ (W4:Cc _<|WR K) (pv 3) zH) zC) zH) zC) rfl)<|zD (xJ hu (yT (pv 0) rfl) (pv 1) (pv 2) rfl)<|zF<|FU hr.units (yT (pv 0) rfl) (pv 2) (pv 1) rfl),?_⟩
 obtain⟨g,r,c,l,b,j,nx,rfl,nd,h1,h2,h3,h4,h5,h6,h7,h8,h9⟩:=id sh;have Wh:=sh.Wh.tup;have nl:(V0 e.n).length<=2000:=by
  have U:((e.n:Int)).natAbs.log2<1920:=by
   have:=u.num;rw[Vj]
   rcases Vk e.n with z|z
   ·rw[z];decide
   ·have:e.n.log2<20:=(Nat.log2_lt<|by omega).mpr (by omega);omega
  have:=J3 U;have G:(V0 e.n).length<=1921:=this;omega
 have ak:e.nm.length<=100000:=by
  have:=u.hl;have e1:dot.length=1:=rfl;unfold En.nm;rw[WQ,WQ,e1];omega
 simp only[ZK,Za,ZC,Yl,Jr,Yp,and_true,not_false_eq_true]at nd;obtain⟨⟨aj,X,Y,Z⟩,⟨aa,ab,ac⟩,⟨y,A⟩,B⟩:=nd;refine⟨_,rfl,rfl,e.h,V0 e.n,46,rfl,by rw[Kv];rfl,u.free,ak,fun p np=>?_⟩;have D:=zG (o:=.tup [V.str e.h,V.str ⟨#[46]⟩,V.str<|V0 e.n]) np;have hp:Wu K (upd H p<|.tup [V.str e.h,V.str ⟨#[46]⟩,V.str<|V0 e.n]) p [V.str e.h,V.str ⟨#[46]⟩,V.str<|V0 e.n]:=Wu.of zB;show MZ _ _ _ _ (upd H p<|.tup [V.str e.h,V.str ⟨#[46]⟩,V.str<|V0 e.n]);generalize upd H p (.tup [V.str e.h,V.str ⟨#[46]⟩,V.str<|V0 e.n])=s at D hp;have g1:=D _ _ h1;have g4:=D _ _ h4;have g6:=D _ _ h6;refine⟨_,rfl,p,_,_,_,rfl,rfl,hp,rfl,?_⟩;refine⟨_,rfl,a,aC,r,_,_,rfl,g1,T.cls,T.n3,rfl,b,rfl,.inl ⟨_,.inl g6⟩,_,rfl,_,Wn.k (k:=(Ey e.h:Key)) g6,?_⟩;obtain⟨m,em,en⟩:∃m:Nat,(VS nx (Ey e.h:Key)).getD (V.int 0)=V.int (m:Int)/\m=(WM S e.h).getD 0:=by
  rw[h8];cases WM S e.h with
  |none=>exact⟨0,rfl,rfl⟩
  |some m=>exact⟨m,rfl,rfl⟩
 rw[em];refine⟨_,rfl,p,_,_,_,rfl,rfl,hp,rfl,e.n,rfl,by have:=u.num;omega,_,_,rfl,rfl,_,_,rfl,?_⟩;have I:(if(e.n:Int)+1>(m:Int) then(e.n:Int)+1 else(m:Int))=((max m (e.n+1):Nat):Int):=by
  split<;>omega
 rw[I];have al:nx.length<2000:=by omega
 refine⟨_,rfl,a,aC,r,_,_,rfl,g1,T.cls,T.n3,rfl,_,rfl,b,_,rfl,wH.k (k:=(Ey e.h:Key)) g6<|jH<|by omega,?_⟩;have o1:Off [a,r,c,l,b] H (upd s b<|.dK<|WK nx (Ey e.h:Key)<|V.int ((max m (e.n+1):Nat):Int)):=(Off.of D).upd (by simp);have J:upd s b (.dK<|WK nx (Ey e.h:Key)<|V.int ((max m (e.n+1):Nat):Int)) a=some (.ins aC r<|Kx c l b):=by rwa[zI Z]
 have M:upd s b (.dK<|WK nx (Ey e.h:Key)<|V.int ((max m (e.n+1):Nat):Int)) c=some (.dK<|(S.zip j).map fun e=>((Ey e.1.nm:Key),V.ref e.2)):=by rwa[zI A]
 have af:upd s b (.dK<|WK nx (Ey e.h:Key)<|V.int ((max m (e.n+1):Nat):Int)) b=some (.dK<|WK nx (Ey e.h:Key)<|V.int ((max m (e.n+1):Nat):Int)):=zB;have ad:upd s b (.dK<|WK nx (Ey e.h:Key)<|V.int ((max m (e.n+1):Nat):Int)) r=some (.own a):=by rw[zI ac];exact D _ _ h2
 obtain⟨am,e5,_⟩:=h5.2.2.2;have ae:upd s b (.dK<|WK nx (Ey e.h:Key)<|V.int ((max m (e.n+1):Nat):Int)) l=H l:=by rw[zI B,e5];exact D _ _ e5
 show MZ _ _ _ _ (upd s b<|.dK<|WK nx (Ey e.h:Key)<|V.int ((max m (e.n+1):Nat):Int));generalize upd s b (.dK<|WK nx (Ey e.h:Key)<|V.int ((max m (e.n+1):Nat):Int))=v at o1 J M af ad ae;have zl:((S.zip j).map fun e=>((Ey e.1.nm:Key),V.ref e.2)).length<=2000:=by rw[Q5,List.length_zip];omega
 refine⟨_,rfl,_,rfl,a,aC,r,_,_,rfl,J,T.cls,T.n1,rfl,_,rfl,c,_,rfl,wH.k (k:=(Ey e.nm:Key)) M<|jH<|by omega,?_⟩;have ek:((S.zip j).map fun e=>((Ey e.1.nm:Key),V.ref e.2)).map (·.1)=S.map fun e=>(Ey e.nm:Key):=by
  rw[ZB];have:(S.zip j).map (·.1)=S:=J4 (by omega)
  conv=>rhs;rw[←this]
  rw[ZB];rfl
 have hk:(Ey e.nm:Key)∉((S.zip j).map fun e=>((Ey e.1.nm:Key),V.ref e.2)).map (·.1):=fun z=>by
  rw[ek]at z;obtain⟨G,ag,q⟩:=Ze.mp z;exact hn<|Ze.mpr ⟨G,ag,Sum.inr.inj q⟩
 rw[FW hk];have o2:Off [a,r,c,l,b] H (upd v c<|.dK<|(S.zip j).map (fun e=>((Ey e.1.nm:Key),V.ref e.2))++[(Ey e.nm,V.ref t)]):=o1.upd (by simp);have x:upd v c (.dK<|(S.zip j).map (fun e=>((Ey e.1.nm:Key),V.ref e.2))++[(Ey e.nm,V.ref t)]) a=some (.ins aC r<|Kx c l b):=by rwa[zI X]
 have L:upd v c (.dK<|(S.zip j).map (fun e=>((Ey e.1.nm:Key),V.ref e.2))++[(Ey e.nm,V.ref t)]) r=some (.own a):=by rwa[zI aa]
 have N:upd v c (.dK<|(S.zip j).map (fun e=>((Ey e.1.nm:Key),V.ref e.2))++[(Ey e.nm,V.ref t)]) c=some (.dK<|(S.zip j).map (fun e=>((Ey e.1.nm:Key),V.ref e.2))++[(Ey e.nm,V.ref t)]):=zB;have O:upd v c (.dK<|(S.zip j).map (fun e=>((Ey e.1.nm:Key),V.ref e.2))++[(Ey e.nm,V.ref t)]) l=H l:=by rwa[zI<|EE y]
 have R:upd v c (.dK<|(S.zip j).map (fun e=>((Ey e.1.nm:Key),V.ref e.2))++[(Ey e.nm,V.ref t)]) b=some (.dK<|WK nx (Ey e.h:Key)<|V.int ((max m (e.n+1):Nat):Int)):=by rwa[zI<|EE A]
 generalize upd v c (.dK<|(S.zip j).map (fun e=>((Ey e.1.nm:Key),V.ref e.2))++[(Ey e.nm,V.ref t)])=H3 at o2 x L N O R;have T3:TJ P w K H3 l (S.map fun e=>(e.d,V.str e.nm)):=TJ.off Wh o2 O h5;have ai:Dt K H3 e.d (.ref t):=Dt.off Wh o2 _ _ u.key.1 ht;refine⟨_,rfl,_,rfl,a,aC,r,_,_,rfl,x,T.cls,T.n2,rfl,_,rfl,t,l,_,e.d,rfl,rfl,T3,by rw[Q5];omega,u.key,ai,fun o T4 ⟨es,eo⟩=>?_⟩;have ah:e.d∉(S.map fun e=>(e.d,V.str e.nm)).map (·.1):=by rwa[ZB]
 rw[FW ah]at T4;have o3:Off [a,r,c,l,b] H (upd H3 l o):=o2.upd (by simp);refine k _ o3 ⟨g.snoc u hd hn<|by omega,r,c,l,b,j++[t],_,rfl,by simp[aj,X,Y,Z,aa,ab,ac,y,A,B],by rw[zI Y];exact x,by rw[zI ab];exact L,by rw[ZD,ZD,h3];rfl,?_,?_,by rw[zI<|EE B];exact R,?_,?_,?_⟩
 ·rw[zI y,N,List.zip_append h3.symm,Zr];rfl
 ·rw[Zr];exact T4
 ·have:=xU nx (Ey e.h:Key)<|V.int ((max m (e.n+1):Nat):Int);rw[ZD,Yw];omega
 ·intro h;rw[M3,U4]
  by_cases q:e.h=h
  ·rw[Zp<|by rw[q],Zp q,←q,←en];rfl
  ·rw[Zm<|fun z=>q (Sum.inr.inj z).symm,Zm q];exact h8 h
 ·intro i G t' C q2
  rcases JS i S.length with z|z|z
  ·rw[YW z]at C;rw[YW<|by omega]at q2;exact Dt.off Wh o3 _ _ (g.ent G<|Zu C).key.1<|h9 i G t' C q2
  ·subst z;rw[Jp<|Q9 _,Nat.sub_self]at C;rw[Jp<|by omega,h3,Nat.sub_self]at q2;cases C;cases q2;exact Dt.off Wh o3 _ _ u.key.1 ht
  ·rw[ZN (by rw[ZD,Yw];omega)]at C;cases C
end Av
theorem FH {S:Dj}{b:De}(h:b.length=S.length):((S.zip b).map fun e=>((Ey e.1.nm:Key),V.ref e.2)).map (·.1)=S.map fun e=>(Ey e.nm:Key):=by
 rw[ZB];have:(S.zip b).map (·.1)=S:=J4 (by omega)
 conv=>rhs;rw[←this]
 rw[ZB];rfl
theorem Nl {S:Dj}{c:De}(h:c.length=S.length)(x:Str):(VS ((S.zip c).map fun e=>((Ey e.1.nm:Key),V.ref e.2)) (Ey x:Key)).isSome=decide (x∈S.map En.nm):=by
 have ek:=FH h;rw[ZS,Zt];constructor
 ·intro z;obtain⟨v,hv⟩:=ZU.mp z;have:=GQ hv;rw[ek]at this;obtain⟨e,b,q⟩:=Ze.mp this;exact Ze.mpr ⟨e,b,Sum.inr.inj q⟩
 ·intro z;obtain⟨e,b,q⟩:=Ze.mp z;cases hv:VS ((S.zip c).map fun e=>((Ey e.1.nm:Key),V.ref e.2)) (Ey x:Key) with
  |some v=>rfl
  |none =>
   refine absurd ?_<|Xu hv;rw[ek];exact Ze.mpr ⟨e,b,by rw[q]⟩
theorem Ou {c:De}(g:Tp S)(h:c.length=S.length){i:Nat}{e:En}{t:Ei}(f:S[i]?=some e)(j:c[i]?=some t):VS ((S.zip c).map fun e=>((Ey e.1.nm:Key),V.ref e.2)) (Ey e.nm:Key)=some (V.ref t):=by
 have d:(((S.zip c).map fun e=>((Ey e.1.nm:Key),V.ref e.2)).map (·.1)).Nodup:=by
  rw[FH h];have:=List.Pairwise.map (S:=fun a b:Key=>a≠b) (fun x=>(Ey x:Key)) (fun a b h z=>h<|Sum.inr.inj z) g.nn;rw[ZB]at this;exact this
 have hm:((Ey e.nm:Key),V.ref t)∈(S.zip c).map fun e=>((Ey e.1.nm:Key),V.ref e.2) :=
  Ze.mpr ⟨(e,t),Zu (i:=i) (by rw[YX];exact⟨f,j⟩),rfl⟩
 exact GP d hm
namespace Aw
abbrev st:Stmt:=top 14
theorem sc:W7 ["table","thing"] ["table","thing"] (zE st):=Cf
theorem ok (F:Wt K "is_key" "is_key" st f fd)(T:Txt P w K mg t1 t2 t3 t4 t5 t6 aL aC aN aT aA b1 b2 b3 b4 b5 b6 b7 b8 aD):W0 P w K mg base Cd 1 f fd ["table","thing"] (v7 K):=by
 refine F.ok sc fun _ _ _ _ H l Q E j h=>?_;obtain⟨e,c,d,v,rfl,g,hd,k⟩:=h;refine⟨_,(zF<|zK<|xC (zJ (zS (K:=K)) (by rfl) T.isinstance Zf<|zA (pv 1)<|zA (yM (v:=.ty "str") rfl T.str ZR rfl) zC)<|x4<|yO (CY j.units) (pv 1) (pv 0)<|by with_unfolding_all rfl),?_⟩;refine⟨_,rfl,_,_,d,_,rfl,hd,T.is<|by simp[kinds],_,rfl,?_⟩;cases d with
 |str x =>
  cases(show v=_ from hd);exact VO ⟨_,rfl,_,rfl,e,_,rfl,Wn.k (k:=(Ey x:Key)) g,k⟩
 |none=>exact VQ k
 |bool b=>exact VQ k
 |int i=>exact VQ k
 |list ds=>exact VQ k
 |tuple ds=>exact VQ k
 |dict c=>exact VQ k
end Aw
theorem Nk {S:Dj}{c:De}(h:c.length=S.length)(d:Er):OA ((S.zip c).map fun e=>((Ey e.1.nm:Key),V.ref e.2)) d=Ip S d:=by
 cases d with
 |str x=>exact Nl h x
 |none=>rfl
 |bool b=>rfl
 |int i=>rfl
 |list ds=>rfl
 |tuple ds=>rfl
 |dict Dm=>rfl
namespace Ax
abbrev st:Stmt:=inClass (top 49) 5
theorem sc:W7 ["self","name"] ["self","name"] (zE st):=Cf
theorem ok (F:Wt K "has" "Shelf.has" st f fd)(T:Txt P w K mg t1 t2 t3 t4 t5 t6 aL aC aN aT aA b1 b2 b3 b4 b5 b6 b7 b8 aD)(b:T9 P w K mg base 1 "is_key" ["table","thing"]<|v7 K):W0 P w K mg base Cd 2 f fd ["self","name"] (v5 P w K aC):=by
 refine F.ok sc fun _ _ _ _ H A Q E n h=>?_;obtain⟨a,q,S,d,v,rfl,sh,hd,k⟩:=h;refine⟨_,(zF<|zK<|zL b n.m<|zA (yT (pv 0) rfl)<|zA (pv 1) zC),?_⟩;obtain⟨g,e,c,o,p,z,nx,rfl,nd,i,r,j,l,s,t,u,x,y⟩:=sh;refine⟨_,rfl,a,aC,e,_,_,rfl,i,T.cls,T.n1,rfl,_,rfl,c,_,d,v,rfl,l,hd,?_⟩;rwa[Nk j d]
end Ax
namespace Ay
abbrev st:Stmt:=top 15
theorem sc:W7 ["store","name"] ["store","name"] (zE st):=Cf
theorem ok (F:Wt K "need_name" "need_name" st f fd)(T:Txt P w K mg t1 t2 t3 t4 t5 t6 aL aC aN aT aA b1 b2 b3 b4 b5 b6 b7 b8 aD)(b:Met P w K mg base aC 2 "has" ["self","name"]<|v5 P w K aC):W0 P w K mg base (Cl P w) 3 f fd ["store","name"] (S8 P w K aC aN):=by
 refine F.Sg sc fun _ _ _ _ H G Q E j h=>?_;obtain⟨a,s,S,d,v,rfl,sh,hd,l,n⟩:=h;refine⟨_,(zF<|z7 (yS<|zP (K:=K)<|j7 (pv 0) T.cls b j.m<|zA (pv 1) zC) (zF<|xG rfl yV rfl T.wj T.v8<|zA W9 zC) zM),?_⟩
 obtain⟨g,c,o,p,r,D,nx,e,nd,i,t,u,x,y,z,A,B,C⟩:=id sh;refine⟨_,rfl,a,c,_,rfl,i,rfl,_,rfl,a,_,S,d,v,rfl,sh,hd,_,rfl,?_⟩;cases q:Ip S d with
 |false=>exact VO ⟨VR 1,n q⟩
 |true=>exact VQ<|l q
end Ay
namespace Az
abbrev st:Stmt:=inClass (top 49) 6
theorem sc:W7 ["self","name"] ["self","name"] (zE st):=Cf
theorem ok (F:Wt K "thing" "Shelf.thing" st f fd)(T:Txt P w K mg t1 t2 t3 t4 t5 t6 aL aC aN aT aA b1 b2 b3 b4 b5 b6 b7 b8 aD)(r:Ss P w K mg base 3 "need_name" ["store","name"]<|S8 P w K aC aN):W0 P w K mg base (Cl P w) 4 f fd ["self","name"] (Te P w K aC aN):=by
 refine F.Sg sc fun _ _ _ _ H Z Q E n h=>?_;obtain⟨a,N,S,d,v,rfl,sh,hd,I,J⟩:=h;have G:=KG n;refine⟨_,(zD (yL<|xY r n.m z6<|zA (pv 0)<|zA (pv 1) zC)<|zF<|zK<|yH G (yT (pv 0) rfl) (pv 1)<|fun _ _=>rfl),?_⟩
 obtain⟨g,t,s,L,M,j,nx,u,nd,z,O,A,B,R,U,X,Y,C⟩:=id sh;refine⟨_,rfl,_,rfl,a,_,S,d,v,rfl,sh,hd,fun q=>?_,J⟩;cases d with
 |str x =>
  cases(show v=_ from hd);have q:x∈S.map En.nm:=Zv q;obtain⟨e,l,rfl⟩:=Ze.mp q;obtain⟨i,D,y⟩:=Z5.mp l;have c:i<j.length:=by omega
  have o:S[i]?=some e:=by rw[Zh D,y]
  have p:j[i]?=some j[i]:=Zh c;have hv:=Ou g A o p;exact⟨_,rfl,a,aC,t,_,_,rfl,z,T.cls,T.n1,rfl,_,rfl,s,_,rfl,by rw[←hv];exact Wn.k (k:=(Ey e.nm:Key)) B,I e l rfl _<|C i e _ o p⟩
 |none=>cases q
 |bool b=>cases q
 |int i=>cases q
 |list ds=>cases q
 |tuple ds=>cases q
 |dict Dm=>cases q
end Az
namespace AA
abbrev st:Stmt:=inClass (top 49) 4
theorem sc:W7 ["self","name","forms"] ["self","name","forms"] (zE st):=Cf
theorem ok (F:Wt K "need_form" "Shelf.need_form" st f fd)(T:Txt P w K mg t1 t2 t3 t4 t5 t6 aL aC aN aT aA b1 b2 b3 b4 b5 b6 b7 b8 aD)(v:TV P w K mg base aC 4 "thing" ["self","name"]<|Te P w K aC aN):W0 P w K mg base (Cl P w) 5 f fd ["self","name","forms"] (wR P w K aC aN):=by
 refine F.Sg sc fun _ _ _ _ H X Q E p h=>?_;obtain⟨a,B,O,S,x,b,rfl,sh,th,G,l,I,u⟩:=h;refine⟨_,(zF<|z7 (zO (K7 (K:=K) p.units) (zQ (W4:Cc _<|WR K) (yF (pv 0) T.cls v p.m z6<|zA (pv 1) zC) zH) (pv 2)<|by with_unfolding_all rfl) (zF<|xG rfl yV rfl T.wj T.v8<|zA W9 zC) zM),?_⟩
 obtain⟨g,y,L,M,N,U,nx,A,nd,C,_⟩:=id sh;refine⟨_,rfl,a,y,_,rfl,C,rfl,_,rfl,a,_,S,.str x,.str x,rfl,sh,rfl,fun e o ex t s=>?_,fun j=>?_⟩
 ·have ex:x=e.nm:=by injection ex
  obtain⟨i,n,R,_⟩:=th e o;rw[n]at s;obtain⟨c,r,z,D⟩:=kO s;cases z;have J:=j5 n;have d:=Gh g o b;rw[←ex,J]at d;refine⟨t,_,_,_,rfl,rfl,D,Bx _ _,_,rfl,.str i.word,b.map .str,rfl,⟨B,_,rfl,G,W6.strs b⟩,(q9 b l).1,?_,(show 0<=60 by decide),!decide (i.word∈b),?_,?_⟩
  ·cases i
   ·show El "leaf"=true;decide +kernel
   ·show El "tree"=true;decide +kernel
   ·show El "note"=true;decide +kernel
  ·rw[Km];cases decide (i.word∈b)<;>rfl
  ·cases q:decide (i.word∈b) with
   |true=>rw[q]at d;exact VQ<|I d
   |false=>rw[q]at d;exact VO ⟨VR 1,u d⟩
 ·have j:x∉S.map En.nm:=YU j;exact u<|Bh j b
end AA
theorem PK:∀y∈(["leaf","tree"]:Da),El y=true:=fun y b=>by
 rcases Za.mp b with rfl|b
 ·decide +kernel
 ·rw[Q8.mp b];decide +kernel
theorem R0:∀y∈(["tree"]:Da),El y=true:=fun y b=>by
 rw[Q8.mp b];decide +kernel
theorem RB:∀y∈(["note"]:Da),El y=true:=fun y b=>by
 rw[Q8.mp b];decide +kernel
namespace AB
abbrev st:Stmt:=inClass (top 49) 3
theorem sc:W7 ["self","thing","row","parent"] ["self","thing"] (zE st):=Cf
theorem ok (F:Wt K "need_names" "Shelf.need_names" st f fd)(T:Txt P w K mg t1 t2 t3 t4 t5 t6 aL aC aN aT aA b1 b2 b3 b4 b5 b6 b7 b8 aD)(N:TV P w K mg base aC 5 "need_form" ["self","name","forms"]<|wR P w K aC aN):W0 P w K mg base (Cl P w) 6 f fd ["self","thing"] (yg P w K aC aN):=by
 refine F.Sg sc fun _ A _ _ H vs Q E X h=>?_;obtain⟨a,R,S,t,v,rfl,sh,th,hd,Z,k2⟩:=h;refine⟨_,(k8 (z7 (zO xB (zQ (W4:Cc _<|WR K) (pv 1) zH) W9<|zR _) (zF<|qF L9 rfl (k7<|zQ (W4:Cc _<|WR K) (pv 1) zH) (zY (i:=2) sc.nd rfl<|EY rfl)<|zF<|yL<|yF (pv 0) T.cls N X.m z6<|zA (zQ (W4:Cc _<|WR K) (pv 2) zH)<|zA (yI<|zA W9<|zA W9 zC) zC) zM)<|zF<|z7 (zO xB (zQ (W4:Cc _<|WR K) (pv 1) zH) W9<|zR _) (zD (yL<|yF (pv 0) T.cls N X.m z6<|zA (zQ (W4:Cc _<|WR K) (pv 1) zH)<|zA (yI<|zA W9 zC) zC)<|zF<|qF L9 rfl (k7<|zQ (W4:Cc _<|WR K) (pv 1) zH) (zY (i:=3) sc.nd rfl<|EY rfl)<|zF<|yL<|yF (pv 0) T.cls N X.m z6<|zA (pv 3)<|zA (yI<|zA W9 zC) zC) zM),?_⟩
 obtain⟨g,O,d1,d2,d3,ts,nx,ac,nd,U,_⟩:=id sh;cases t with
 |leaf ls =>
  obtain⟨p,b,rfl,s,hb⟩:=GJ hd;refine⟨fun d l=>d=[some<|.ref a,some<|.ref p,none,none]/\l=H,⟨_,rfl,p,_,_,_,rfl,rfl,s,rfl,rfl,false,congrArg V.bl<|by decide +kernel,VQ (A:=False) ⟨rfl,rfl⟩⟩,?_⟩;rintro d l ⟨rfl,rfl⟩;exact⟨_,rfl,p,_,_,_,rfl,rfl,s,rfl,rfl,false,congrArg V.bl<|by decide +kernel,VQ (A:=False)<|Z rfl _<|W8.refl _⟩
 |tree rs =>
  obtain⟨p,b,rfl,s,hb⟩:=Gn hd;obtain⟨b',xs,e,L,hx⟩:=hb;cases e;have Y:xs.length=rs.length:=by rw[hx.length,Q5]
  refine⟨fun d l=>∃o,d=[some<|.ref a,some<|.ref p,o,none]/\W8 H l/\(rs.all fun r=>zV S r.2 ["leaf","tree"])=true,?_,?_⟩
  ·refine⟨_,rfl,p,_,_,_,rfl,rfl,s,rfl,rfl,true,congrArg V.bl<|Zc rfl,VO (B:=False) ?_⟩;refine⟨_,rfl,p,_,_,_,rfl,rfl,s,rfl,b,rfl,⟨_,L⟩,Gf (K:=K) (a:=b) (xs:=xs) (fun i I C=>∃o,I=[some<|.ref a,some<|.ref p,o,none]/\W8 H C/\((rs.take i).all fun r=>zV S r.2 ["leaf","tree"])=true) ⟨none,rfl,W8.refl _,rfl⟩ (fun i I C _ ⟨_,_,e,_⟩=>e.Wv L) ?_ ?_⟩
   ·rintro i x I C D ⟨o,rfl,j,n⟩;obtain⟨r,c,J,rfl,hc⟩:=BW hx D;refine⟨_,rfl,a,O,_,rfl,j _ _ U,rfl,_,rfl,c,_,_,_,rfl,rfl,j.Wv hc,rfl,VR 2,fun q nq=>?_⟩;have u:=j.trans<|zG (o:=.tup [V.str "leaf",V.str "tree"]) nq;refine⟨a,q,R,S,r.2,["leaf","tree"],rfl,sh.same u,th,Wu.of zB,PK,fun ok=>⟨_,rfl,u,?_⟩,fun M=>?_⟩
    ·rw[Z4,J,List.all_append,n];show(zV S r.2 ["leaf","tree"]&&true)=true;rw[ok];rfl
    ·refine k2 ?_ _ u;show(rs.all fun r=>zV S r.2 ["leaf","tree"])=false;rw[List.all_eq_false];exact⟨r,Zu J,by rw[M];decide⟩
   ·rintro I C ⟨o,rfl,j,n⟩;rw[Y,ZI]at n;exact⟨o,rfl,j,n⟩
  ·rintro d l ⟨o,rfl,j,n⟩;exact⟨_,rfl,p,_,_,_,rfl,rfl,j.Wv s,rfl,rfl,false,congrArg V.bl<|by decide +kernel,VQ (A:=False)<|Z n _ j⟩
 |note x ps y =>
  obtain⟨p,b,rfl,s,hb⟩:=Xg hd;refine⟨fun d l=>d=[some<|.ref a,some<|.ref p,none,none]/\l=H,⟨_,rfl,p,_,_,_,rfl,rfl,s,rfl,rfl,false,congrArg V.bl<|by decide +kernel,VQ (A:=False) ⟨rfl,rfl⟩⟩,?_⟩;rintro d l ⟨rfl,rfl⟩;refine⟨_,rfl,p,_,_,_,rfl,rfl,s,rfl,rfl,true,congrArg V.bl<|Zc rfl,VO (B:=False) ?_⟩;refine⟨_,rfl,a,O,_,rfl,U,rfl,_,rfl,p,_,_,_,rfl,rfl,s,rfl,VR 1,fun q nq=>?_⟩;have u:=zG (o:=.tup [V.str "tree"]) nq;refine⟨a,q,R,S,x,["tree"],rfl,sh.same u,th,Wu.of zB,R0,fun ok=>?_,fun M=>k2 ?_ _ u⟩
  ·show MY _ _ (upd l q<|.tup [V.str "tree"]);generalize upd l q (.tup [V.str "tree"])=G at u;refine⟨_,rfl,p,_,_,_,rfl,rfl,u.Wv s,rfl,b,rfl,⟨_,u.Wv hb⟩,Gf (K:=K) (a:=b) (xs:=ps.map V.str) (fun i I C=>∃o,I=[some<|.ref a,some<|.ref p,none,o]/\W8 l C/\((ps.take i).all fun r=>zV S r ["note"])=true) ⟨none,rfl,u,rfl⟩ (fun i I C _ ⟨_,_,e,_⟩=>e.Wv hb) ?_ ?_⟩
   ·rintro i z I C D ⟨o,rfl,j,n⟩;rw[Zo]at D;cases J:ps[i]? with
    |none=>rw[J]at D;cases D
    |some r =>
     rw[J]at D;have D:V.str r=z:=Option.some.inj D;subst D;refine⟨_,rfl,a,O,_,rfl,j _ _ U,rfl,_,rfl,VR 1,fun q2 aa=>?_⟩;have s4:=j.trans<|zG (o:=.tup [V.str "note"]) aa;refine⟨a,q2,R,S,r,["note"],rfl,sh.same s4,th,Wu.of zB,RB,fun ab=>⟨_,rfl,s4,?_⟩,fun M=>k2 ?_ _ s4⟩
     ·rw[Z4,J,List.all_append,n];show(zV S r ["note"]&&true)=true;rw[ab];rfl
     ·show(zV S x ["tree"]&&ps.all fun p=>zV S p ["note"])=false;rw[ok,Bool.true_and,List.all_eq_false];exact⟨r,Zu J,by rw[M];decide⟩
   ·rintro I C ⟨o,rfl,j,n⟩;rw[Q5,ZI]at n;refine Z ?_ _ j;show(zV S x ["tree"]&&ps.all fun p=>zV S p ["note"])=true;rw[ok,n];rfl
  ·show(zV S x ["tree"]&&ps.all fun p=>zV S p ["note"])=false;rw[M];rfl
end AB
theorem yW:Raises X (fun _ _ _=>False):=by
 intro c f H s e d I b;obtain⟨_,_,_,_,_,_,_,_,_,_,_,_,_,_,q⟩:=b;exact q.elim
theorem FL (g:Tp S){e f:En}(l:e∈S)(n:f∈S)(h:e.nm=f.nm):e=f:=by
 obtain⟨i,o,b⟩:=Z5.mp l;obtain⟨j,p,c⟩:=Z5.mp n;have d:=YY.mp g.nn;have:i=j:=by
  rcases JS i j with z|z|z
  ·exact absurd (by rwa[ZX,ZX,b,c]) (d i j (by rwa[Q5]) (by rwa[Q5]) z)
  ·exact z
  ·exact absurd (by rw[ZX,ZX,b,c];exact h.symm) (d j i (by rwa[Q5]) (by rwa[Q5]) z)
 subst this;rw[←b,c]
theorem GX:∀rs:Dh,yG (rs.map W5)=true
 |[]=>rfl
 |r::rs=>by
  show(kY (W5 r)&&yG (rs.map W5))=true;rw[GX rs];rfl
theorem N3 (t:Th):kY t.dat=true:=by
 cases t with
 |leaf ls=>show(true&&(yG (ls.map .str)&&true))=true;rw[qV];rfl
 |tree rs=>show(true&&(yG (rs.map W5)&&true))=true;rw[GX];rfl
 |note x ps y=>show(true&&(true&&(yG (ps.map .str)&&(true&&true))))=true;rw[qV];rfl
theorem Ox {K:Ca}{t:Th}(h:Dw K H t.dat v):Dt K H t.dat v:=Dw.dt _ _ (UU _<|N3 t) h
namespace AC
abbrev st:Stmt:=inClass (top 49) 2
theorem sc:W7 ["self","thing","head","number","name"] ["self","thing"] (zE st):=Cf
theorem ok (F:Wt K "put" "Shelf.put" st f fd)(T:Txt P w K mg t1 t2 t3 t4 t5 t6 aL aC aN aT aA b1 b2 b3 b4 b5 b6 b7 b8 aD)(QI:Ss P w K mg base 6 "need_thing" ["thing"]<|wF K aT)(QJ:TV P w K mg base aC 6 "need_names" ["self","thing"]<|yg P w K aC aN)
  (Qh:T9 P w K mg base 1 "letter_of" ["thing"]<|Ib K) (QK:T9 P w K mg base 4 "digest" ["thing"]<|G5 K) (Ql:Met P w K mg base aC 1 "take" ["self","name","thing"]<|xu P w K aC):W0 P w K mg base (Cl P w) 7 f fd ["self","thing"] (Sq P w K aC aN aT):=by
 refine F.Sg sc fun _ A _ _ H vs Q E j h=>?_;obtain⟨a,fp,S,d,v,rfl,sh,th,hd,sm,ab,tg,hl,hn,k1,k2,O⟩:=h;have hu:=KG j;refine⟨_,(zD (yL<|xY QI j.m z6<|zA (pv 1) zC)<|zD (yL<|yF (pv 0) T.cls QJ j.m z6<|zA (pv 1) zC)<|zD (z7 (zO (K4 j.units) (pv 1) (yT (pv 0) rfl)<|by with_unfolding_all rfl) (zF<|zK<|FR j.units (yT (pv 0) rfl) (pv 1)<|fun _ _=>rfl) zM)<|zD (Cg (i:=2) sc.nd<|z5 yQ (zL Qh j.m<|zA (pv 1) zC)<|yC xZ (by rfl) T.str ZR<|zA (zL QK j.m<|zA (pv 1) zC) zC)<|zD (Cg (i:=3) sc.nd<|XJ hu (yT (pv 0) rfl) (pv 2) zH ⟨rfl,rfl,rfl,rfl⟩)<|zD (Cg (i:=4) sc.nd<|PQ (pv 2)<|pv 3)<|zD (yL<|j7 (pv 0) T.cls Ql j.m<|zA (pv 4)<|zA (pv 1) zC)<|zF<|zK<|pv 4),?_⟩
 refine⟨_,rfl,d,v,rfl,hd,sm,ab,fun tb H1 x=>?_,fun tb H1 x=>k1 tb _ x⟩;obtain⟨t,rfl,gt⟩:=tg tb;have hd:=Ox hd;obtain⟨y,ev⟩:∃t,v=.ref t:=by
  obtain⟨c,r,e,_⟩:=kO hd;exact⟨c,e⟩
 subst ev;have g:=sh.same x;have o:=Dt.same x _ _ hd;obtain⟨X,s,d1,R,d3,ts,nx,B,nd,l,Y,h3,h4,N,Z,h7,h8,h9⟩:=id g;refine⟨_,rfl,a,s,_,rfl,l,rfl,_,rfl,a,fp,S,t,.ref y,rfl,g,th,o,fun ac H2 J=>?_,fun no H2 J=>k2 t rfl tb no _<|x.trans J⟩;have O:=O t rfl tb ac;have I:=x.trans J;have q:=g.same J;have b:=Dt.same J _ _ o;clear g Y h3 h4 N Z h7 h8 h9 l o B nd;obtain⟨X,s,d1,R,d3,ts,nx,B,nd,l,Y,h3,h4,N,Z,h7,h8,h9⟩:=id q;have kt:=Fw gt;refine⟨_,rfl,_,rfl,a,aC,s,_,_,rfl,l,T.cls,T.n2,rfl,y,R,_,t.dat,rfl,rfl,N,kt,b,_,rfl,?_⟩;cases hv:VS (S.map fun e=>(e.d,V.str e.nm)) t.dat with
 |some u =>
  obtain⟨p,hp,e⟩:=Ze.mp<|GQ hv;obtain⟨M,C,rfl⟩:=Ze.mp hp;have e:M.d=t.dat:=e;have aa:VS (S.map fun e=>(e.d,V.str e.nm)) t.dat=some (V.str M.nm):=GP (by rw[ZB];exact X.nd) (Ze.mpr ⟨M,C,by rw[e]⟩);exact VO ⟨_,rfl,a,aC,s,_,_,rfl,l,T.cls,T.n2,rfl,_,rfl,y,R,_,t.dat,_,rfl,rfl,N,kt,b,aa,O _ S M ⟨Off.of I,q,C,e,.inl rfl⟩⟩
 |none =>
  have D:t.dat∉S.map (·.d):=fun z=>by
   have:=Xu hv;rw[ZB]at this;exact this z
  refine VQ (A:=False) ?_;have db:=XV t.sp;have G:=hn<|VZ t;refine⟨_,rfl,.ref y,t,rfl,b,_,rfl,.ref y,t,rfl,b,gt,fun H3 L=>⟨_,rfl,?_,_,_,rfl,rfl,?_,?_⟩⟩
  ·have hz:(dg t.sp).natAbs<97:=by omega
   rcases Vk (dg t.sp).natAbs with z|z
   ·rw[z];decide
   ·have:(dg t.sp).natAbs.log2<7:=(Nat.log2_lt<|by omega).mpr (by omega);omega
  ·rw[K3];have l:=B0 (n:=(dg t.sp).toNat) (by omega);have Y:=Xp t;exact W3 (by omega)
  rw[K3];show Uv 2 (V.str<|VZ t) _ H3 _;have ad:=q.same L;have g1:=L _ _ l;have g6:=L _ _ Z;refine⟨_,rfl,a,aC,s,_,_,rfl,g1,T.cls,T.n3,rfl,d3,rfl,.inl ⟨_,.inl g6⟩,_,rfl,_,Wn.k (k:=(Ey (VZ t):Key)) g6,?_⟩;have em:(VS nx (Ey (VZ t):Key)).getD (V.int 0)=V.int (((WM S<|VZ t).getD 0:Nat):Int):=by
   rw[h8];cases WM S (VZ t) with
   |none=>rfl
   |some m=>rfl
  rw[em];have dl:(".":Str).length=1:=by decide +kernel
  refine⟨_,rfl,_,rfl,by have:=jU t;omega,by rw[dl];decide,_,rfl,_,rfl,G,?_⟩;have U:VZ t++"."++V0 ((WM S<|VZ t).getD 0)=(Il S t).nm:=by unfold En.nm Il;rw[Kv]
  rw[U];refine⟨_,rfl,a,s,_,rfl,g1,rfl,_,rfl,_,rfl,a,fp,S,Il S t,y,rfl,ad,⟨kt,jB t,G,jU t⟩,Dt.same L _ _ b,D,KY X<|jB t,hl,fun H4 o4 ae=>?_⟩;exact⟨_,rfl,O _ _ _ ⟨(Off.of<|I.trans L).trans o4,ae,by simp,rfl,.inr ⟨rfl,rfl,D⟩⟩⟩
end AC
namespace AD
abbrev st:Stmt:=inClass (top 49) 0
theorem sc:W7 ["self","base","name"] ["self","base"] (zE st):=Cf
theorem ok (F:Wt K "__init__" "Shelf.__init__" st f fd)(T:Txt P w K mg t1 t2 t3 t4 t5 t6 aL aC aN aT aA b1 b2 b3 b4 b5 b6 b7 b8 aD)(Qf:Met P w K mg base aC 1 "names" ["self"]<|zz P w K aC)(Ql:Met P w K mg base aC 1 "take" ["self","name","thing"]<|xu P w K aC)
  (Qa:TV P w K mg base aC 4 "thing" ["self","name"]<|Te P w K aC aN):W0 P w K mg base Cd 5 f fd ["self","base"] (wz P w K aC):=by
 refine F.ok sc fun _ A _ _ H vs Q E hr h=>?_;obtain⟨x,n,b,S,rfl,hx,I,ne,hb,k⟩:=h;refine⟨_,(zD (Xr (pv 0) xN rfl)<|zD (Xr (pv 0) BJ rfl)<|zD (Xr (pv 0) xN rfl)<|zF<|z7 (zO GN (pv 1) qU<|zR _) (zF<|qF PassesOwn.never rfl (kA<|kP (pv 1) T.cls Qf hr.m) (zY (i:=2) sc.nd rfl<|EY rfl)<|zF<|yL<|j7 (pv 0) T.cls Ql hr.m<|zA (pv 2)<|zA (yF (pv 1) T.cls Qa hr.m yW<|zA (pv 2) zC) zC) zM),?_⟩
 refine fun g n1=>⟨_,rfl,x,aC,n,_,rfl,(zG n1) _ _ hx,T.cls,T.n1,by decide,?_⟩;have N:x≠g:=zN hx n1;have ae:n≠g:=zN I n1;refine fun d o2 n2 T2 e2=>?_;obtain⟨es,rfl⟩:=e2;have ao:d≠x/\d≠g/\H d=none:=by
  refine⟨fun z=>?_,fun z=>?_,?_⟩
  ·rw[z,zB]at n2;cases n2
  ·rw[z,zI<|EE N,zB]at n2;cases n2
  ·have a1:d≠x:=fun z=>by rw[z,zB]at n2;cases n2
   have a2:d≠g:=fun z=>by rw[z,zI<|EE N,zB]at n2;cases n2
   rw[zI a1,zI a2]at n2;exact n2
 obtain⟨C,O,R⟩:=ao;have af:n≠d:=zN I R;refine⟨_,rfl,x,aC,n,[("thing_by_name",V.ref g)],rfl,by rw[zI<|EE C,zB];rfl,T.cls,T.n2,(show 1<1000 by decide),?_⟩;refine fun j n3=>?_;have ap:j≠x/\j≠d/\j≠g/\H j=none:=by
  have a1:j≠x:=fun z=>by rw[z,zB]at n3;cases n3
  have a2:j≠d:=fun z=>by rw[z,zI C,zB]at n3;cases n3
  have a3:j≠g:=fun z=>by rw[z,zI<|EE N,zI<|EE O,zI<|EE N,zB]at n3;cases n3
  refine⟨a1,a2,a3,?_⟩;rw[zI a1,zI a2,zI a1,zI a3]at n3;exact n3
 obtain⟨X,ad,ac,U⟩:=ap;have ag:n≠j:=zN I U;refine⟨_,rfl,x,aC,n,[("thing_by_name",V.ref g),("name_by_thing",V.ref d)],rfl,by rw[zI<|EE X,zB];rfl,T.cls,T.n3,(show 2<1000 by decide),?_⟩;obtain⟨p,J⟩:∃p,p=upd (upd (upd (upd (upd (upd H g<|.dK []) x<|.ins aC n<|V7 "thing_by_name" (V.ref g) []) d<|U7 d es) x<|.ins aC n<|V7 "name_by_thing" (V.ref d) [("thing_by_name",V.ref g)]) j<|.dK []) x (.ins aC n<|V7 "next_numbers" (V.ref j) [("thing_by_name",V.ref g),("name_by_thing",V.ref d)]):=⟨_,rfl⟩;have q0:p x=some (.ins aC n<|Kx g d j):=by rw[J,zB];rfl
 have q1:p g=some (.dK []):=by rw[J,zI<|EE N,zI<|EE ac,zI<|EE N,zI<|EE O,zI<|EE N,zB]
 have q2:p d=some (U7 d es):=by rw[J,zI C,zI<|EE ad,zI C,zB]
 have q3:p j=some (.dK []):=by rw[J,zI X,zB]
 have qx:p n=some (.own x):=by rwa[J,zI ne,zI ag,zI ne,zI af,zI ne,zI ae]
 have Z:Off [x] H p:=fun c o y e=>by
  have cx:c≠x:=fun z=>y (by rw[z];exact Zj);rwa[J,zI cx,zI<|zN e U,zI cx,zI<|zN e R,zI cx,zI<|zN e n1]
 have G:∀c∈[x,n,g,d,j],c=x\/c=n\/H c=none:=fun c y=>by
  simp only[Za,ZC,Yl]at y
  rcases y with rfl|rfl|rfl|rfl|rfl
  ·exact .inl rfl
  ·exact .inr (.inl rfl)
  ·exact .inr (.inr n1)
  ·exact .inr (.inr R)
  ·exact .inr (.inr U)
 have aa:Wx P w K aC p x [x,n,g,d,j] []:=by
  obtain⟨_,_,_,xs,aj,r⟩:=T2;cases r;rw[zB]at aj;have ar:p d=some (U7 d<|List.map (LB<|yA P w) []):=q2.trans aj;exact⟨Tp.nil,n,g,d,j,[],[],rfl,by simp[EE ne,N,EE C,EE X,ae,af,ag,EE O,EE ac,EE ad],q0,qx,rfl,q1,⟨ZA _,fun _ z=>(nomatch z),Yp,[],ar,.nil⟩,q3,ZA _,fun h=>rfl,fun i e t z=>by cases z⟩
 rw[←J];clear J
 rcases hb with⟨rfl,rfl⟩|⟨a,fp0,rfl,sh0,x0,dx0,Sl⟩
 ·exact⟨_,rfl,rfl,false,congrArg V.bl (by rw[Zc rfl];rfl),VQ (A:=False)<|k _ _ G Z aa⟩
 ·refine⟨_,rfl,rfl,true,congrArg V.bl (by rw[Zg<|fun z=>by cases z];rfl),VO (B:=False) ?_⟩;have dj:∀c∈fp0,c∉[x,n,g,d,j]:=fun c y z=>by
   obtain⟨o,eo,_⟩:=sh0.Wh c y
   rcases G c z with rfl|rfl|q
   ·exact x0 y
   ·exact dx0 y
   ·rw[eo]at q;cases q
  have D:Wx P w K aC p a fp0 S:=sh0.off (gp:=[x]) (fun b hb xs z=>by
   rw[Q8.mp hb]at z
   rcases z with z|⟨u,z⟩
   ·rw[hx]at z;cases z
   ·rw[hx]at z;cases z) Z (fun c y z=>x0<|by rwa[←Q8.mp z])
  obtain⟨gS,dy,e1,e2,e3,ts,nx,as,nd,h1,h2,h3,h4,h5,h6,h7,h8,h9⟩:=id D;refine⟨_,rfl,a,dy,_,rfl,h1,rfl,a,fp0,S,rfl,D,fun l nl=>?_⟩;have ul:=zG (o:=.lst<|S.map fun e=>V.str e.nm) nl;have Y:upd p l (.lst<|S.map fun e=>V.str e.nm) l=some (.lst<|S.map fun e=>V.str e.nm):=zB;have ab:=aa.same ul;have L:=D.same ul;have an:l∉[x,n,g,d,j]:=fun z=>by
   obtain⟨o,eo,_⟩:=aa.Wh l z;rw[eo]at nl;cases nl
  have ak:Off [x] H (upd p l<|.lst<|S.map fun e=>V.str e.nm):=Z.trans<|Off.of ul;refine⟨l,rfl,⟨_,WP.of Y⟩,?_⟩;generalize upd p l (.lst<|S.map fun e=>V.str e.nm)=H5 at ul Y ab L ak;have aq:=ab.Wh.tup;refine BY (K:=K) (a:=l) (xs:=S.map fun e=>V.str e.nm) (fun i σ H6=>∃o,σ=[some<|.ref x,some<|.ref a,o]/\Off [x,n,g,d,j] H5 H6/\Wx P w K aC H6 x [x,n,g,d,j] (S.take i)) ⟨none,rfl,Off.refl _ _,ab⟩ (fun i σ H6 hi ⟨_,_,o6,_⟩=>WP.of<|o6 _ _ an Y) ?_ ?_
  ·rintro i v σ H6 hv ⟨o,rfl,o6,s⟩;rw[Zo]at hv;cases q:S[i]? with
   |none=>rw[q]at hv;cases hv
   |some e =>
    rw[q]at hv;have hv:V.str e.nm=v:=Option.some.inj hv;subst hv;have he:=Zu q;have M:=L.off aq o6 dj;obtain⟨_,al,_,_,_,_,_,_,_,k1,_⟩:=id M;obtain⟨_,ah,_,_,_,_,_,_,_,z1,_⟩:=id s;refine⟨_,rfl,x,ah,_,rfl,z1,rfl,_,rfl,_,rfl,a,al,_,rfl,k1,rfl,_,rfl,a,fp0,S,.str e.nm,.str e.nm,rfl,M,rfl,fun e2 am ex t ht=>?_,fun no=>(YU no<|Ze.mpr ⟨e,he,rfl⟩)⟩;cases FL gS he am (by injection ex);refine⟨x,_,S.take i,e,t,rfl,s,gS.ent e he,ht,?_,?_,by rw[Zz];omega,fun H7 o7 au=>?_⟩
    ·rw[List.map_take];exact XU gS.nd (by rw[Zo,q];rfl)
    ·rw[List.map_take];exact XU gS.nn (by rw[Zo,q];rfl)
    ·refine⟨_,rfl,o6.trans o7,?_⟩;rwa[Z4,q]
  ·rintro σ H6 ⟨o,rfl,o6,s⟩;rw[Q5,ZI]at s;refine k _ _ G (fun c u y e=>?_) s;have e5:=ak c u y e
   by_cases z:c∈[x,n,g,d,j]
   ·rcases G c z with q|q|q
    ·exact absurd (by rw[q];exact Zj) y
    ·subst q;obtain⟨_,ah,y1,y2,y3,_,_,ai,_,_,z2,_⟩:=id s;injection ai with w1 w2;injection w2 with w2 w3;subst w2;rw[I]at e;cases e;exact z2
    ·rw[e]at q;cases q
   ·exact o6 c u z e5
end AD
end
end An22
namespace An
open PySem L2 AnJ
def rkv (rows:Dh):Dl:=rows.map fun p=>((.inr p.1:Key),V.str p.2)
section
variable {K:Ca}{H1 H H':Hp}{fs:List Fi}{fa:List (Str×Ei)}
theorem xK {c:Ei}:Off [c] H (upd H c o):=(Off.refl _ _).upd<|Q8.mpr rfl
theorem Xx {c:Ei}{d:Dl}(h:H c=some (.dK d)):∀b∈[c],∀xs,¬Rd H b (.tup xs):=fun b hb xs=>by
 rw[Q8.mp hb];exact Bn h (fun _ z=>(nomatch z)) (fun _ _ z=>(nomatch z)) xs
end
end An
namespace An22
open PySem L2 An
seal L2.PS L2.R8 L2.PE L2.PT L2.PW L2.PA L2.PG L2.vm L2.PI L2.vN L2.PC
theorem zq:Uh x=true↔x.length<=20/\(cs x).all V5=true:=by
 unfold Uh;rw[Zk,Yq]
theorem Tf:yB x=true↔1<=x.length/\x.length<=8/\(cs x).all V6=true:=by
 unfold yB;rw[Zk,Zk,Yq,Yq,and_assoc]
def Gr (t:Th):Prop:=t.Good/\jN t.dat=true/\small t.dat=true/\narrow t.dat
theorem GC (h:Uh x=true):Ok 1000 x:=by
 obtain⟨e,b⟩:=zq.mp h;refine⟨by omega,?_⟩;rw[x5];intro c d;have:=ZW.mp b c d;unfold V5 at this;simp only[Zk,Yq]at this;omega
theorem Bc (h:yB x=true):Ok 1000 x:=⟨by have:=(Tf.mp h).2.1;omega,UD h⟩
theorem Xo:∀{ls:Da},(∀l∈ls,l.length<=1000)->yD (ls.map .str)=true
 |[],_=>rfl
 |l::ls,h=>by
  show(decide (l.length<=1000)&&yD (ls.map .str))=true;rw[Zc<|h l Zj,Xo fun x b=>h x<|Zi _ b];rfl
theorem XI:∀{rs:Dh},(∀r∈rs,r.1.length<=1000/\r.2.length<=1000)->yD (rs.map W5)=true
 |[],_=>rfl
 |r::rs,h=>by
  obtain⟨b,c⟩:=h r Zj;show((decide (2<=1000)&&(decide (r.1.length<=1000)&&(decide (r.2.length<=1000)&&true)))&&yD (rs.map W5))=true;rw[Zc b,Zc c,XI fun x d=>h x<|Zi _ d];rfl
theorem HD {rs:Dh}(h:∀r∈rs,yB r.1=true/\Ok 1000 r.2)(c:Ut (rs.map (·.1))=true)(hl:rs.length<=63):Gr (.tree rs):=by
 have j:∀rs:Dh,(∀r∈rs,yB r.1=true/\Ok 1000 r.2)->∀p∈zZ rs,Ok 1000 p:=by
  intro rs
  induction rs with
  |nil=>intro _ p b;cases b
  |cons r rs ih =>
   intro h p b
   rcases Za.mp b with q|b
   ·rw[q];exact Bc (h r Zj).1
   ·rcases Za.mp b with q|b
    ·rw[q];exact(h r Zj).2
    ·exact ih (fun x n=>h x<|Zi _ n) p b
 refine⟨⟨?_,j rs h⟩,?_,?_,fun f e=>?_⟩
 ·show(zZ rs).length<=1000;rw[Ao.Wb];omega
 ·show((decide (("tree":Str)="leaf")&&(decide (1=1)&&XN (.tuple<|rs.map W5)))||((decide (("tree":Str)="tree")&&(decide (1=1)&&((rs.map W5).all Us&&Ut ((rs.map W5).map Uk))))||_))=true;have g:(rs.map W5).all Us=true:=by
   rw[List.all_map,ZW];intro r c;show(yB r.1&&true)=true;rw[(h r c).1];rfl
  have i:(rs.map W5).map Uk=rs.map (·.1):=by rw[ZB];rfl
  rw[g,i,c,Zg<|show¬("tree":Str)="leaf" by decide +kernel,Zc<|show("tree":Str)="tree" from rfl];rfl
 ·show(decide (2<=1000)&&(decide (("tree":Str).length<=1000)&&((decide ((rs.map W5).length<=1000)&&yD (rs.map W5))&&true)))=true;rw[XI fun r c=>⟨(Bc (h r c).1).len,(h r c).2.len⟩,Q5,Zc<|show rs.length<=1000 by omega,Zc<|show("tree":Str).length<=1000 by decide +kernel];rfl
 ·have e:[E9 "tree",.tuple<|rs.map W5]=f:=by injection e
  subst e;refine⟨by show 2<=63;decide,fun e l o d=>?_⟩
  rcases Za.mp l with q|q
  ·rw[q]at d;cases d
  ·rw[Q8.mp q]at d;cases d;rwa[Q5]
theorem IL {ps:Da}(l:Ok 1000 x)(c:Uh y=true)(f:∀p∈ps,Ok 1000 p)(nd:ps.Nodup)(hl:ps.length<=2):Gr (.note x ps y):=by
 refine⟨⟨?_,fun p h=>?_⟩,?_,?_,fun g e=>?_⟩
 ·show([x,dig ps.length]++ps++[y]).length<=1000;simp;omega
 ·have h:p∈[x,dig ps.length]++ps++[y]:=h;simp at h
  rcases h with z|z|z|z
  ·rwa[z]
  ·rw[z];exact⟨Yc (GK<|by omega)<|by decide,CV _⟩
  ·exact f p z
  ·rw[z];exact GC c
 ·show((decide (("note":Str)="leaf")&&(decide (3=1)&&XN (.str x)))||((decide (("note":Str)="tree")&&(decide (3=1)&&IG (.str x)))||(decide (("note":Str)="note")&&(decide (3=3)&&(true&&(((ps.map E9).all V1&&(decide ((ps.map E9).length<=2)&&decide ((AxS.uniq<|(ps.map E9).map Ii).length=(ps.map E9).length)))&&Uh y))))))=true;have i:(ps.map E9).all V1=true:=by rw[List.all_map,ZW];exact fun _ _=>rfl
  have j:(ps.map E9).map Ii=ps:=by rw[ZB];exact List.map_id _
  rw[i,j,Iz nd,Q5,c,Zc hl,Zc<|show ps.length=ps.length from rfl,Zg<|show¬("note":Str)="leaf" by decide +kernel,Zg<|show¬("note":Str)="tree" by decide +kernel,Zc<|show("note":Str)="note" from rfl];rfl
 ·show(decide (4<=1000)&&(decide (("note":Str).length<=1000)&&(decide (x.length<=1000)&&((decide ((ps.map E9).length<=1000)&&yD (ps.map .str))&&(decide (y.length<=1000)&&true)))))=true;rw[Xo fun p h=>(f p h).len,Q5,Zc<|show ps.length<=1000 by omega,Zc l.len,Zc (GC c).len,Zc<|show("note":Str).length<=1000 by decide +kernel];rfl
 ·have e:[E9 "note",.str x,.tuple<|ps.map .str,.str y]=g:=by injection e
  subst e;refine⟨by show 4<=63;decide,fun e d n b=>?_⟩;simp only[Za,ZC,Yl]at d
  rcases d with q|q|q|q
  ·rw[q]at b;cases b
  ·rw[q]at b;cases b
  ·rw[q]at b;cases b;rw[Q5];omega
  ·rw[q]at b;cases b
theorem NU {l:Da}(h:l.Pairwise RA):Ut l=true:=yx.mpr ⟨h.imp fun{a b} z q=>List.lt_asymm z q,Jw.mpr<|h.imp fun{a b} z=>PJ z⟩
theorem jI (h:zV S x ws=true):x∈S.map En.nm:=by
 unfold zV at h;obtain⟨e,b,q⟩:=ZP.mp h;rw[Zk,Yq]at q;exact Ze.mpr ⟨e,b,q.1⟩
theorem Od {K:Ca}{o p:Ei}{Q:VK}{E:XK}(sh:Wx P w K C H a fp S)(ok:zc S)(g:Gr t)(d:namesOk S t=true)(l:S.length<2000)(hv:Dt K H t.dat v)
  (k:∀H2,Off fp H H2->Wx P w K C H2 a fp (Ce S t).1->Q (.str (Ce S t).2) H2):Sq P w K C o p [.ref a,v] H Q E:=by
 refine⟨a,fp,S,t.dat,v,rfl,sh,ok.th,Dt.dw hv,g.2.2.1,g.2.2.2,fun _=>⟨t,rfl,g.1⟩,l,fun h=>by have:=FK ok.num h;omega,fun z=>?_,fun A e _ j=>?_,fun A e _ _ H2 B i u=>?_⟩
 ·rw[g.2.1]at z;cases z
 ·have:=Gj e;subst this;rw[d]at j;cases j
 ·have:=Gj e;subst this;obtain⟨of,b,c,r,q⟩:=u
  rcases q with q|⟨q,n,y⟩
  ·rw[q]at c b;have f:=FV ok (x:=i.nm) ⟨i,c,rfl,r⟩;rw[f]at k;exact k H2 of b
  ·have f:=G4 (S:=S) (t:=t) fun e s hd=>y<|Ze.mpr ⟨e,s,hd⟩;rw[f]at k;rw[n]at q;rw[q]at b;rw[n];exact k H2 of b
inductive Sx (P:Ek)(w:Ep)(K:Ca)(C:Ei)(vs:Dk)(H:Hp)(Q:VK)(e3:XK):Prop
 |mk (a d:Ei) (fp:De) (S:Dj) (rows:Dh) (h0:vs=[.ref a,.ref d]) (h1:Wx P w K C H a fp S) (h2:zc S) (h3:Rd H d<|.dK<|rkv rows) (h4:(rows.map (·.1)).Nodup) (h5:(∀r∈rows,yB r.1=true/\zV S r.2 ["leaf","tree"]=true)) (h6:rows.length<=63) (h7:S.length<2000) (h8:∀H',Off fp H H'->Wx P w K C H' a fp (Ce S<|.tree<|V8 rows).1->Q (.str (Ce S<|.tree<|V8 rows).2) H'):Sx P w K C vs H Q e3
section
variable {P:Ek}{w:Ep}{K:Ca}{mg:Str->Dc}{base:EC}{t1 t2 t3 t4 t5 t6:Tok}{aL aC aN aT aA b1 b2 b3 b4 b5 b6 b7 b8 aD:Ei}
theorem KH (h:Wx P w K C H a fp S):∃dx d1 d2 d3,H a=some (.ins C dx<|Kx d1 d2 d3):=by
 obtain⟨_,dx,d1,d2,d3,_,_,_,_,b,_⟩:=h;exact⟨dx,d1,d2,d3,b⟩
namespace AE
abbrev st:Stmt:=top 53
theorem sc:W7 ["shelf","rows"] ["shelf","rows"] (zE st):=Cf
theorem ok (F:Wt K "put_rows" "put_rows" st f fd)(T:Txt P w K mg t1 t2 t3 t4 t5 t6 aL aC aN aT aA b1 b2 b3 b4 b5 b6 b7 b8 aD)(I:TV P w K mg base aC 7 "put" ["self","thing"]<|Sq P w K aC aN aT):W0 P w K mg base Cd 8 f fd ["shelf","rows"] (Sx P w K aC):=by
 refine F.ok sc fun _ _ _ _ H vs Q E B h=>?_;obtain⟨a,d,Z,S,rows,rfl,sh,ok,hd,nd,i,rl,sl,k⟩:=h;refine⟨_,(zF<|zK<|yF (pv 0) T.cls I B.m yW<|zA (yI<|zA W9<|zA (yC jM (by rfl) T.tuple Z9<|zA (Mv (K:=K) rfl B.units (by rfl) T.sorted Y4<|pv 1) zC) zC) zC),?_⟩;obtain⟨O,i1,i2,i3,t⟩:=KH sh;have j:∀r∈rows,yB r.1=true/\Ok 1000 r.2:=fun r m=>by
  obtain⟨e,N,L⟩:=Ze.mp<|jI (i r m).2;exact⟨(i r m).1,by rw[←L];exact ok.nm N⟩
 refine⟨_,rfl,a,O,_,rfl,t,rfl,_,rfl,d,rows,rfl,hd,by omega,fun p A=>⟨(IX (j p A).1).ok,(j p A).2.ok⟩,fun l ss s z U Y X nl hl dt=>?_⟩;have M:=MP nd U Y;subst M;refine⟨l,_,rfl,.inl ⟨WP.of hl,fun n n2=>?_⟩⟩;have D:=zG (o:=.tup s) n2;refine⟨VR 2,fun q R=>?_⟩;have y:=zG (o:=.tup [V.str "tree",V.ref n]) R;have c:=(X.trans D).trans y;have J:Dt K (upd (upd z n<|.tup s) q<|.tup [V.str "tree",V.ref n]) (Th.tree<|V8 rows).dat (.ref q):=⟨q,_,rfl,Wu.of zB,_,_,rfl,rfl,_,_,rfl,⟨n,s,rfl,Wu.of<|y _ _ zB,W6.same (D.trans y) _ _ dt⟩,rfl⟩;have C:∀{r},r∈V8 rows↔r∈rows:=(xQ rows).mem_iff;have g:Gr (.tree<|V8 rows):=HD (fun r m=>j r<|C.mp m) (NU<|MQ nd) (by rwa[(xQ rows).length_eq]);have u:namesOk S (.tree<|V8 rows)=true:=ZW.mpr fun r m=>(i r<|C.mp m).2;delta UQ;dsimp only;show Sq P w K aC aN aT [V.ref a,V.ref q] (upd (upd z n<|.tup s) q<|.tup [V.str "tree",V.ref n]) _ _;exact Od (sh.same c) ok g u sl J fun G v x=>k G (fun b o nb e=>v b o nb<|c _ _ e) x
end AE
end
end An22
namespace AnJ
open AxK
open PySem L2 An An10 An12
end AnJ
namespace L2
open PySem PySem.Spec PyProof.Rows
end L2
namespace AxS
open PySem PySem.Spec PyProof.Rows
section
variable {prog:Ek}{w:Ep}{A:ED}{E:Ej->Di}{s:Eo}
set_option maxHeartbeats 6400000 in
end
end AxS
namespace L2
open PySem PySem.Spec PyProof.Rows AxS
end L2
namespace AxS
open PySem PySem.Spec PyProof.Rows
end AxS
namespace L2
open PySem PySem.Spec PyProof.Rows AxS
theorem Wy.WN (r:Wy k A):A.units+1<cLine:=by have:=r.un;omega
section
variable {d:Ei}{Dm:Dl}{ob:Obj}{src:List (Option Nat)}{g:TG}{tf:St->Hp->(Bool->Hp->Prop)->Prop}{te:TE}{Q:VK}{σ:St}{H:Hp}
theorem Ht (c:Nat->Dk->St->Hp->Prop)(l:c 0 [] (VW src σ) H)(hz:Dm.length<=sizeLine)(hl:∀i ys σ H,i<=Dm.length->c i ys σ H->H d=some (.frz ob<|.dK Dm)/\ys.length<=i)
  (hs:∀i k v ys σ H,Dm[i]?=some (k,v)->c i ys σ H->g (kV k) σ H fun σ2 H3=>tf σ2 H3 fun b H4=>if b=true then te σ2 H4 fun y H5=>c (i+1) (ys++[y]) σ2 H5 else c (i+1) ys σ2 H4)
  (hd:∀ys σ H,c Dm.length ys σ H->∀p,H p=none->Q (.ref p) (upd H p<|.lst ys)):Ue src (Rk d Dm ob) g tf te Q σ H :=
 Uy Dm.length c l hz (fun i ys σ H e p=>(hl i ys σ H e p).2) (fun ys σ H p=>⟨(hl _ ys σ H (Q9 _) p).1,rfl⟩) (fun i ys σ H e p=>⟨(hl i ys σ H (Yd e) p).1,e⟩)
  (fun i ys σ H e p x o y=>by
   obtain⟨f,k,v,n,j⟩:=y;subst j f;exact hs i k v ys σ _ n p) hd
end
section
variable {X:Cx}
def PZ:R2:=fun y x H Q=>∃a o,x=.ref a/\Wn H a y o/\Q (.bl<|!o.isSome) H
theorem NC (f:X.A.units+64<E4):Cj X (EJ .NotIn) PZ:=by
 intro e s j H y x v u Q I d c h;obtain⟨a,o,rfl,g,q⟩:=h;cases c;exact Nh (by omega) I g d fun i b=>⟨.bl _,H,b,rfl,q⟩
end
end L2
namespace AnS
open PySem L2 An AnJ
end AnS
namespace An
open PySem L2
inductive tW (par:Str->Da)(rs:Da):Str->Prop
 |root {x:Str}:x∈rs->tW par rs x
 |step {x y:Str}:tW par rs x->y∈par x->tW par rs y
def Nu (S:Dj)(x:Str):Bool:=zV S x ["note"]
theorem Nw {S:Dj}(th:∀e∈S,Uw e){x:Str}(h:Nu S x=true):∃e∈S,e.nm=x/\∃t ps y,e.d=(Th.note t ps y).dat:=by
 unfold Nu zV at h;rw[ZP]at h;obtain⟨e,c,h⟩:=h;rw[Zk,Zt,Zt]at h;obtain⟨t,f,_⟩:=th e c;refine⟨e,c,h.1,?_⟩;have b:=h.2;rw[j5 f]at b;cases t with
 |note t ps y=>exact⟨t,ps,y,f⟩
 |leaf ls=>exact absurd (show("leaf":Str)∈(["note"]:Da) from b) (by decide +kernel)
 |tree rs=>exact absurd (show("tree":Str)∈(["note"]:Da) from b) (by decide +kernel)
theorem GW {S:Dj}{e:En}(b:e∈S){t:Str}{ps:Da}{y:Str}(hd:e.d=(Th.note t ps y).dat):Nu S e.nm=true:=by
 unfold Nu zV;rw[ZP];refine⟨e,b,?_⟩;rw[Zk,Zt,Zt,j5 hd];exact⟨rfl,Q8.mpr rfl⟩
def VY (S:Dj):Er->Str->Bool
 | .str x,f=>zV S x [f]
 |_,_=>false
end An
namespace L2
open PySem PySem.Spec PyProof.Rows
section
variable {X:Cx}{K:Ca}
theorem NA (c:X.A.units+64<E4)(b:X.K=K:=by rfl):Cj X (EJ .NotEq) (PX K):=by
 subst b;exact UA c
end
end L2
namespace PySem.SeqAt
open MeetsSeq PyProof.Rows
theorem jD (l:Ei)(es:Array Lj)(n:Nat)(dd:Option Ei)(sl:Array Dc)(b:Str)(u:Tok) :
  Meets (Builtin.«dict.__eq__» ⟨[.ref l,.str b u],[]⟩) (fun _ R s=>s.heap.get? l=some { cls:=.type "dict",dict:=dd,data:=.dict es n,slots:=sl }/\R (.ok<|.ret .notImplemented) s) :=
 .of_wp fun prog w A R s h=>by obtain⟨e,g,d,f,os⟩:=s;obtain⟨hl,h⟩:=h;have c:=sub_str_dict;wp_walk using J9 hl;exact⟨_,rfl,h⟩
theorem jC (b:Str)(u:Tok)(l:Ei)(es:Array Lj)(n:Nat)(dd:Option Ei)(sl:Array Dc) :
  Meets (Builtin.«str.__eq__» ⟨[.str b u,.ref l],[]⟩) (fun _ R s=>s.heap.get? l=some { cls:=.type "dict",dict:=dd,data:=.dict es n,slots:=sl }/\R (.ok<|.ret .notImplemented) s) :=
 .of_wp fun prog w A R s h=>by obtain⟨c,g,d,e,os⟩:=s;obtain⟨hl,h⟩:=h;wp_walk using J9 hl,VD hl;exact⟨_,rfl,h⟩
theorem Ij:isSubtype (.type "dict") (.type "str")=Ln false:=by rw[YT];kernel_rfl
theorem EqAt.str_dict {A:ED}{s:Eo}{l:Ei}{o:Obj}{es:Array Lj}{n:Nat}(b:Str)(u:Tok)(d:s.heap.get? l=some o)(g:o.cls=.type "dict")(hd:o.data=.dict es n)(i:A.units<E4):EqAt A s (.str b u) (.ref l) false:=fun prog w E Q h=>by
 obtain⟨cls,f,data,sl⟩:=o;simp only at g hd;subst g hd;unfold eqBool;refine ZV ?_;refine Vb (fun e=>absurd (YZ e) nofun) (fun _=>?_);exact Q4 (rc_eq_decline_or (k:=false) (J1 s b u) ⟨_,d,rfl⟩ (by decide) Ij F.slot_str_eq F.slot_dict_eq_refl (fun _ c=>JJ F.slot_str_eq (J1 s b u) F.entry_str_eq (F.args_str_eq_2 _ _) (jC b u l es n f sl) ⟨d,c⟩) (fun _ c=>JJ F.slot_dict_eq_refl ⟨_,d,rfl⟩ F.entry_dict_eq (F.args_dict_eq_2 _ _) (jD l es n f sl b u) ⟨d,c⟩) (fun _ c=>YC (rfl:isSame (.str b u) (.ref l)=Ln false) c) (.inr i) (Yo h))
end PySem.SeqAt
namespace L2
open PySem PySem.Spec PyProof.Rows
def Tq (h:EC)(d:Ei)(es:List Lj)(ep:Nat):Prop:=∃o,h.get? d=some o/\o.ExactDict/\o.data=.dict es.toArray ep
section
variable {prog:Ek}{w:Ep}{A:ED}{E:Ej->Di}{s:Eo}{d it:Ei}{es:List Lj}{ep i:Nat}
theorem Tq.keep {h':EC}(x:Tq h d es ep)(k:∀o,h.get? d=some o->h'.get? d=some o):Tq h' d es ep:=let ⟨o,a,b⟩:=x;⟨o,k o a,b⟩
theorem Tq.ty (x:Tq s.heap d es ep):s.TypeIs (.ref d) "dict":=let ⟨o,a,b,_⟩:=x;⟨o,a,b.1⟩
theorem MI {R:Result->Di}(x:Tq s.heap d es ep)(hd:(d==EL)=false)(h:R (.ok<|.ret<|.ref s.heap.objs.size) { s with heap:=s.heap.push { cls:=.type "dict_values",data:=.fields #[.ref d] } }) :
  Em (Et prog w) A (Builtin.«dict.values» ⟨[.ref d],[]⟩) (fun f s'=>∃v,f=.done (.ret v)/\R (.ok<|.ret v) s') E s:=by
 refine Q4 ?_;unfold Builtin.Dict.noArgs;refine Q4<|wpAny_notOrdered_dict x.ty<|Q7<|Q4 ?_;unfold Builtin.Dict.showsAll;rw[hd];exact Q7<|Q4<|Zx<|Q7 ⟨_,rfl,h⟩
theorem K8:Builtin.Dict_items.ownsTuple "dict_valueiterator"=false:=by decide
theorem HV (hd:(d==EL)=false):MeetsIn prog w (Builtin.«dict.values» ⟨[.ref d],[]⟩) (fun _ R s=>Tq s.heap d es ep/\R (.ok<|.ret<|.ref s.heap.objs.size) { s with heap:=s.heap.push { cls:=.type "dict_values",data:=.fields #[.ref d] } }) :=
 .of_wp fun A R s h=>MI h.1 hd h.2
theorem MH {v:Ei}{Q:Ej->Di}(hv:s.heap.IsValuesView v d)(x:Tq s.heap d es ep)(q:Q (.ref s.heap.objs.size) { s with heap:=s.heap.push { cls:=.type "dict_valueiterator",data:=.fields #[.ref d,.int 0 0,.int es.length 0,.int ep 0] } }):Em (Et prog w) A (Mq<|.ref v) Q E s:=by
 obtain⟨g,e,_,f⟩:=id hv;obtain⟨o,b,_,c⟩:=x;refine Vr hv.typeIs F.slot_dict_values_iter<|ZO F.slot_dict_values_iter hv.typeIs F.entry_dict_values_iter ?_<|F.args_dict_values_iter_1 _;unfold Builtin.«dict_values.__iter__»;refine Q4<|Q7<|Q4 ?_;unfold Builtin.Dict_items.dictOf;refine Q4<|Yt e f (x:=.ref d) rfl<|Q7<|Q4 ?_;unfold Builtin.Dict_items.newIterator;refine Q4<|wpAny_dictEntries b c<|Q4<|wpAny_dictEpoch b c ?_;simp only[K8,ZZ,Y7];refine Zx<|Q7 ⟨_,rfl,"dict_valueiterator",_,⟨_,Zb _ rfl,rfl⟩,F.slot_dict_valueiterator_next.lookup,?_⟩;simpa[EU] using q
theorem Bz {Q:Dc->Di}(c:s.heap.IsValIter it d i es.length ep)(x:Tq s.heap d es ep)
  (item:∀e,es[i]?=some e->∀h',h'.IsValIter it d (i+1) es.length ep->E6 it s.heap h'->Q (some e.val) { s with heap:=h' })
  (stop:es[i]?=none->A.handled=none/\∀h',Mf it s.heap h'->Q none { s with heap:=h' }):Em (Et prog w) A (Lu<|.ref it) Q E s:=by
 obtain⟨o,j,r,g⟩:=id c;obtain⟨t,l,_,n⟩:=x;unfold Lu;refine Q4<|YM<|Z1 (name:=EN "__next__") c.typeIs F.slot_dict_valueiterator_next<|ZO F.slot_dict_valueiterator_next c.typeIs F.entry_dict_valueiterator_next ?_<|F.args_dict_valueiterator_next_1 _;refine Q4<|Q7<|Q4<|Q4 ?_
 first|refine Q4 (Jd c.typeIs<|Q7 ?_)|refine Q4 (JG c.typeIs<|Q7 ?_)
 refine Q4<|JU j g ?_;simp only[K8,ZZ,Y7];show Em _ _ (if(Ev d==EA)=true then _ else _) _ _ s;rw[Zm (by rw[show(Ev d==EA)=false from rfl];decide)];refine Q4<|Q7<|Q4<|wpAny_dictEntries l n ?_;rw[Zm<|by simp];refine Q4<|Q7<|Q4<|wpAny_dictEpoch l n ?_;rw[Zm<|by simp];refine Q7 ?_;simp only[show¬((i:Int)<0) from by omega,Y7,JO,Jl];cases q:es[i]? with
 |none =>
  obtain⟨p,stop⟩:=stop q;refine Q4 ?_
  first|refine Q4 (Jd c.typeIs<|Q7 ?_)|refine Q4 (JG c.typeIs<|Q7 ?_)
  show Em _ _ (setField (.ref it) 0 .none>>=_) _ _ s;refine Q4 (Yb j g (by simp) ?_);refine Q4 ?_;simp only[newExc,newTuple];refine Q4 (Zx (Q4 (m:=La _ _)<|YC (a:=EA) (by first|rfl|(simp only[La];rfl)) (Zx ?_<|by size_fits)) (by size_fits));simp only[raiseNew];refine Q4<|Vx ?_;rw[show A.in1.handled=none from p];refine Q4<|Q7<|VN ?_;exact(Q4<|Yx (T:="StopIteration") (b:=true) ⟨_,Zb _ rfl,rfl⟩ JV<|Q7<|stop _<|((EQ ..).extBut.push _).push _)
 |some e =>
  refine Q4 ?_
  first|refine Q4 (Jd c.typeIs<|Q7 ?_)|refine Q4 (JG c.typeIs<|Q7 ?_)
  refine Q4<|JZ c.typeIs ?_;show Em _ _ (setField (.ref it) 1 (EU<|(i:Int)+1)>>=_) _ _ s;refine Q4 (Yb j g (by simp) ?_);have f:(s.heap.update it (E2 (·.setIfInBounds 1 (EU<|(i:Int)+1)))).IsValIter it d (i+1) es.length ep:=⟨_,ZM _ j<|Lm<|Le g _,(LY ..).trans r,by rw[Le g];simp[EU]⟩;have ty:({ s with heap:=s.heap.update it (E2 (·.setIfInBounds 1 (EU<|(i:Int)+1))) }:Eo).TypeIs (.ref it) "dict_valueiterator":=f.typeIs;refine Q4<|ZV<|Q4<|JZ ty<|Q4<|JZ ty ?_;exact Q7<|Q7 ⟨_,rfl,Q7<|item e q _ f<|EQ ..⟩
theorem HW (n:A.handled=none)(I d:Ei)(ne:d≠I)(es:List Lj)(ep:Nat):Walks prog w A I [I,d] [I] es.length (fun i v=>∃e,es[i]?=some e/\v=e.val) (fun i h=>h.IsValIter I d i es.length ep/\Tq h d es ep) where
 sub:=fun b hb=>Za.mpr<|.inl<|Q8.mp hb
 frame:=fun _ _ _ st hk=>⟨st.1.at fun o e=>hk I (by simp) o e,st.2.keep fun o e=>hk d (by simp) o e⟩
 item:=fun i s Q E p st f=>Bz st.1 st.2 (fun e c g j l=>f e.val g s.toks ⟨e,c,rfl⟩ ⟨j,st.2.keep fun o q=>(l.2 d ne).trans q⟩ fun b o hb q=>(l.2 b fun z=>hb<|by simp[z]).trans q) fun q=>by rw[Zh p]at q;cases q
 done:=fun s Q E st f=>Bz st.1 st.2 (fun e c=>by rw[ZN<|Q9 _]at c;cases c) fun _=>⟨n,fun g c=>f g s.toks fun b o hb q=>c b o (fun z=>hb<|by simp[z]) q⟩
 self:=fun _ _ _ _ st f=>wpAny_pyIter_valiter st.1 f
theorem NT {r:Ei}:PySem.W.KdlSrc prog w "dict_values" r d es.length (fun i v=>∃e,es[i]?=some e/\v=e.val) (fun h=>h.IsValuesView r d/\Tq h d es ep) where
 type:=fun _ hm=>hm.1.typeIs
 there:=fun _ hm=>⟨let ⟨_,ho,_⟩:=hm.1;Zd ho,let ⟨_,ho,_⟩:=hm.2;Zd ho⟩
 keep:=fun _ _ hm hk=>⟨let ⟨o,ho,x⟩:=hm.1;⟨o,hk r (.inl rfl) o ho,x⟩,hm.2.keep fun o e=>hk d (.inr rfl) o e⟩
 notList:=by decide
 notTuple:=by decide
 hint:=fun _ _ _ _ hm b=>PySem.W.kdl_hint_values hm.1.typeIs b
 iter:=fun _ _ c hm=>⟨_,_,(fun _ _ b=>MH hm.1 hm.2 b),HW c _ d (Zl (let ⟨_,ho,_⟩:=hm.2;Zd ho)) es ep,⟨⟨_,Zb _ rfl,rfl,rfl⟩,hm.2.keep fun _ e=>Q6 _ e⟩⟩
end
section
variable {X:Cx}{K:Ca}
theorem Wo.vals:∀{H:Hp} {ps:List (Er×V)} {xs:List (Er×Ei×Ej)},Lf (Wo K H) ps xs->W2 (ps.map (·.2)) (xs.map (·.2.2))
 |_,_,_,.nil=>.nil
 |_,_,_,.cons r t=>.cons r.2.2<|Wo.vals t
def HZ (P:Ek)(w:Ep)(K:Ca)(e:TE):TE:=fun f H Q=>e f H fun x b=>∃d c,x=.ref d/\TJ P w K b d c/\∀l,b l=none->Q (.ref l) (upd b l (.lst (c.map (·.2))))
theorem jG {p n t pos:Pos}(hg:Gl X "list")(hm:X.mg "list"=none)(hc:X.calm=true)(ho:PE X o td)
  (U:Ll o "values" X.env (EZ o X.env)=EZ o X.env:=by rfl) (S:(n.endLine==t.line)=true:=by rfl)
  (O:EB [.Call (.Attribute o "values" n) [] [] t] X.env=(false,EZ (.Call (.Attribute o "values" n) [] [] t) X.env)::EB [] X.env:=by rfl) (C:(Ld pos<|EB [] X.env).any (·.1)=false:=by rfl) :
  PE X (.Call (.Name "list" p) [.Call (.Attribute o "values" n) [] [] t] [] pos) (HZ X.prog X.w X.K td):=by
 intro E s R H Q I h;refine Ye (k6 I hg hm boot_list ?_ (by decide)<|by decide);refine YK ?_ O C;rw[O];show Em _ _ (spliced ((false,EZ (.Call (.Attribute o "values" n) [] [] t) X.env)::Ld pos (EB [] X.env))) _ _ s;refine LD ?_;refine Y8 U S<|Cb (ho E s R H _ I h) fun v i hh=>?_;obtain⟨x,Y,G,r,d,y,ex,T,q⟩:=hh;subst ex;cases r;obtain⟨l,e,u,dd,hS⟩:=T.heap G;obtain⟨P,aa,ep,M,N,g3,g4,_⟩:=dd;have g:Tq i.heap d (l.map<|LB<|yA X.prog X.w) ep:=⟨P,M,N,by rw[g3,←g4]⟩;refine⟨"dict","dict.values",F.plainAttrs_dict,F.slot_dict_values,F.type_dict_values,g.ty,fun b z=>by cases z;exact⟨P,M,N.2.1⟩,E7 rfl<|JA ?_⟩;refine Vf F.slot_dict_values g.ty F.entry_dict_values (F.args_dict_values_1 _) (HV hS) ⟨g,L5 ?_⟩;have J:Inv X E R Y { i with heap:=i.heap.push { cls:=.type "dict_values",data:=.fields #[.ref d] } }:=G.kept (t':=i.toks) fun b o e=>Q6 _ e;have hz:y.length<=sizeLine:=An.W3 (Yc T.1<|by decide);have hl:y.length=l.length:=Paired.length u;refine PySem.W.kdl_call (s:={ i with heap:=i.heap.push { cls:=.type "dict_values",data:=.fields #[.ref d] } }) (NT (d:=d) (es:=l.map<|LB<|yA X.prog X.w) (ep:=ep) (r:=i.heap.objs.size)) (I.ok.hd hc) ⟨⟨_,Zb _ rfl,rfl,rfl⟩,g.keep fun o e=>Q6 _ e⟩ (by rw[Q5];omega) fun h' tk f c A B D=>?_;have Z:f.toList=l.map (·.2.2):=by
  refine Vs fun j=>?_;have l1:f.toList.length=l.length:=by rw[Zw,D.1,Q5]
  rcases VF j l.length with z|z
  ·obtain⟨en,L,e2⟩:=D.2 j f.toList[j] (by rw[←Z6];exact Zh _);rw[Zo,Zh z]at L;cases L;rw[Zh<|by omega,e2,Zo,Zh z];rfl
  ·rw[ZN<|by omega,ZN (by rw[Q5];omega)]
 have rv:W2 (y.map (·.2)) f.toList:=by rw[Z];exact Wo.vals u
 exact⟨.ref _,_,J.laid (t':=tk) A (Q9 _) (show WT X.prog X.w _ h' _ (.lst (y.map (·.2))) from⟨by rw[Q5];exact hz,f.toList,c,rv,B⟩),rfl,q _<|J.hok.fresh<|Q9 _⟩
theorem NG {f:Str}{pos:Pos}(c:PE X e ta)(hb:Ll e f X.env (EZ e X.env)=EZ e X.env)(b:X.K=K:=by rfl):PE X (.Attribute e f pos) (P9 K ta f):=by
 subst b;exact yT c hb
def PY (P:Ek)(w:Ep)(K:Ca):R2:=fun y x H Q=>∃a d b k,y=.ref a/\x=.ref d/\TJ P w K H d b/\Uo k/\Dt K H k (.ref a)/\Q (.bl<|!(VS b k).isSome) H
def Nv:Ej->Ej
 | .bool b=>.bool<|!b
 |v=>v
theorem OM {prog:Ek}{w:Ep}{A:ED}{E:Ej->Di}{s:Eo}{x y:Ej}{Q:Ej->Di}(h:Em (Et prog w) A (EJ .In x y) (fun v s'=>Q (Nv v) s') E s):Em (Et prog w) A (EJ .NotIn x y) Q E s:=by
 have e:EJ .NotIn x y=EJ .In x y>>=fun v=>Ln (Nv v):=by
  show(do return LA (!(←contains y x)):Sem Ej)=(do return LA (←contains y x))>>=fun v=>Ln<|Nv v;simp only[bind_assoc,pure_bind,Nv]
 rw[e];exact Q4<|Z3 h (fun v s' q=>Q7 q) fun _ _ q=>q
theorem NB (c:X.A.units+64<E4):Cj X (EJ .NotIn) (PY X.prog X.w X.K):=by
 intro g s l H y x v u Q I f e h;refine OM ?_;obtain⟨a,d,i,k,rfl,rfl,T,hk,ha,q⟩:=h;cases f;cases e;obtain⟨j,_,r,b,hd⟩:=T.heap I;refine wpAny_in_heap (F0 c _ _) (key_is I hk ha) hd b ⟨.bl _,H,I.tok _,?_,q⟩
 rcases Wo.at (k:=k) r with⟨e1,e2⟩|⟨p,v,e1,e2,_⟩
 ·rw[e1,e2];rfl
 ·rw[e1,e2];rfl
theorem G6 {p pos:Pos}(M:uv X.prog X.w X.K X.mg X.base C k x ps sp)(d:Wy (k+1) X.A)(c:Gl X x:=by rfl)(b:(x==("__debug__":Str))=false:=by decide):PE X (.Call (.Name x p) [] [] pos) (F8 C sp [] E0 UQ):=by
 obtain⟨f,g,F,hm,hb,e⟩:=M.ex;exact Mt hm F d c e hb .nil IW b
def FX (K:Ca):V->Dk->Hp->VK->Prop:=fun x c H Q=>(∃(y:V) (d:Er) (b:Dg),c=[y]/\Dt K H d y/\Dt K H (.list b) x/\Ew b=true/\d.canLay0=true/\d.depth<=60/\Q (.int (b.countP fun e=>EG e d:Nat)) H) \/
 ∃(a l:Ei) (f:Dl) (g:Da),c=[.ref a]/\x=.ref l/\H a=some (.dK f)/\WP K H l (g.map V.str)/\Q (.int 0) H
theorem HQ (hu:X.A.units+64<E4)(C:X.K=K:=by rfl):Oo X "list.count" (FX K):=by
 subst C;intro T s σ H x xs v us Q I B r h
 rcases h with⟨y,d,ds,rfl,h1,h2,h3,h4,h5,q⟩|⟨a,l,Dm,ss,rfl,rfl,ha,hl,q⟩
 ·obtain⟨u,rfl,p⟩:=Wl r;obtain⟨U,M⟩:=Dt.Ws I d y u h1 p;obtain⟨bs,N⟩:=Dt.Ws I _ x v h2 B;have hm:min (EF ds) d.depth<=d.depth:=Jy _ _;cases N with
  | @list l o g n ds2 as2 c e f k4 =>
   have b:=SeqAt.readsAll_map _ _ _ h3 k4;obtain⟨cls,i,data,sl⟩:=o;simp only at e f;subst e f;refine JJ F.slot_list_count ⟨_,c,rfl⟩ F.entry_list_count (F.args_list_count_2 _ _) (SeqAt.list_countAt l g n i sl u<|fun y=>EG (SeqAt.readOf s.heap y) d) ⟨c,SeqAt.items_eqAt k4 M h3 h4<|by omega,⟨.int _,H,I.tok _,⟨_,rfl⟩,?_⟩⟩;rw[←b,List.countP_map]at q;exact q
 ·obtain⟨u,rfl,p⟩:=Wl r;cases p;cases B;obtain⟨_,_,g,O,o,Z,Y,D,E,hd,_⟩:Dm.length<=sizeLine/\(a==EL)=false/\∃g,KV Dm g/\s.heap.DictOf (zU X.prog X.w) a g:=I.hok a _ ha;obtain⟨j,P,L,_⟩:=I.list hl;obtain⟨⟨cls,i,data,sl⟩,c,e,n,f⟩:=L.isList;simp only at e f;subst e f;refine JJ F.slot_list_count ⟨_,c,rfl⟩ F.entry_list_count (F.args_list_count_2 _ _) (SeqAt.list_countAt l j.toArray n i sl (.ref a)<|fun _=>false) ⟨c,fun y G=>?_,⟨.int _,H,I.tok _,⟨_,rfl⟩,?_⟩⟩
  ·obtain⟨z,J,R⟩:=G3 P y (by simpa using G);obtain⟨t,_,rfl⟩:=Ze.mp J;obtain⟨S,rfl⟩:=R;refine SeqAt.EqAt.str_dict t S D E.1 hd ?_;show X.A.units+1<E4;omega
  ·rwa[List.countP_false]
end
open PySem.W
theorem GZ (x:Str)(c:Nat)(t u:Tok)(d:Lx x ⟨#[c]⟩ 0 x.length 1=[]):Meets (Builtin.«str.partition» ⟨[.str x t,.str ⟨#[c]⟩ u],[]⟩)
  (fun _ R s=>R (.ok<|.ret<|.ref s.heap.objs.size) { s with heap:=s.heap.push { cls:=.type "tuple",data:=.seq #[.str x t,.str LU s.toks,.str LU s.toks] },toks:=s.toks+1 }) :=
 .of_wp fun prog w A R s h=>by
  obtain⟨b,e⟩:=partition_tree x ⟨#[c]⟩ t u;rw[e,Zm<|show¬((⟨#[c]⟩:Str).length==0)=true from(by show¬(1==0)=true;decide),d];refine Q4<|Jq ?_;refine Q4<|wpAny_mkStr ?_<|ZA _;refine Q4 (wpAny_newTuple ?_ (by show 3<=sizeLine;decide));exact Q7 ⟨_,rfl,h⟩
section
variable {X:Cx}
def MD:V->Dk->Hp->VK->Prop:=fun x b H Q=>∃(u:Str) (c:Nat),x=.str u/\b=[.str ⟨#[c]⟩]/\c∉An.cs u/\∀p,H p=none->Q (.ref p) (upd H p<|.tup [.str u,.str "",.str ""])
def OV:V->Dk->Hp->VK->Prop:=fun x b H Q=>Oe x b H Q\/MD x b H Q
theorem Iw:Oo X "str.partition" MD:=by
 intro g s l H x j v i Q I f e h;obtain⟨a,c,rfl,rfl,b,q⟩:=h;obtain⟨t,rfl⟩:=f;obtain⟨w,rfl,t',rfl⟩:=Wl e;have d:Lx a ⟨#[c]⟩ 0 a.length 1=[]:=by
  rcases StrLaws.occ_head_from a ⟨#[c]⟩ 0 1 (Q9 1) with⟨h0,hn⟩|⟨k,r,h0,hlo,hk,hn⟩
  ·exact h0
  ·have hm:=(L7 _ c k).mp hk;have hm:(An.cs a)[k]?=some c:=hm;exact absurd (Zu hm) b
 refine JJ F.slot_str_partition (J1 s _ t) F.entry_str_partition (F.args_str_partition_2 _ _) (GZ _ c t t' d) ?_;have hn:H s.heap.objs.size=none:=I.hok.fresh<|Q9 _;refine⟨.ref s.heap.objs.size,_,I.laid (t':=s.toks+1) (a:=s.heap.objs.size) (o:=.tup [.str a,.str "",.str ""]) (fun _ _ q=>Q6 _ q) (Q9 _) ?_,rfl,q _ hn⟩;exact⟨by show 3<=sizeLine;decide,_,.cons ⟨_,rfl⟩<|.cons ⟨_,rfl⟩<|.cons ⟨_,rfl⟩ .nil,⟨_,Zb _ rfl,rfl,_,rfl,rfl⟩⟩
theorem Ik:Oo X "str.partition" OV:=by
 intro b s g H x f v e Q I d c h
 rcases h with h|h
 ·exact kI b s g H x f v e Q I d c h
 ·exact Iw b s g H x f v e Q I d c h
end
end L2
namespace An22
open PySem L2 An
seal L2.PS L2.R8 L2.PE L2.PT L2.PW L2.PA L2.PG L2.vm L2.PI L2.vN L2.PC
theorem xD {i:Nat}{v:V}{b:St}{H:Hp}{Q:St->Hp->Prop}(h:Q (b.set i (some v)) H):Uv i v b H Q:=h
inductive Tu (e0:Dk)(e1:Hp)(e2:VK)(e3:XK):Prop
 |mk  (h0:False):Tu e0 e1 e2 e3
theorem never {K:Ca}:W0 P w K mg base Cd k f fd ps Tu :=
 ⟨fun _ _ _ _ ⟨h⟩=>h.elim,fun _ _ _ _ _ _ _ _ _ _ _ _ _ ⟨h⟩=>h.elim⟩
inductive uN (P:Ek)(w:Ep)(K:Ca)(C:Ei)(vs:Dk)(H:Hp)(Q:VK)(e3:XK):Prop
 |mk (a:Ei) (fp:De) (S:Dj) (d:Er) (v:V) (f:Str) (h0:vs=[.ref a,v,.str f]) (h1:Wx P w K C H a fp S) (h2:(∀e∈S,Uw e)) (h3:Dw K H d v) (h4:Q (.bl<|VY S d f) H):uN P w K C vs H Q e3
inductive zx (P:Ek)(w:Ep)(K:Ca)(C aV:Ei)(vs:Dk)(H:Hp)(Q:VK)(E:XK):Prop
 |mk (a:Ei) (fp:De) (S:Dj) (d:Er) (v:V) (h0:vs=[.ref a,v]) (h1:Wx P w K C H a fp S) (h2:(∀e∈S,Uw e)) (h3:Dw K H d v) (h4:(∀e∈S,∀t ps y,d=.str e.nm->e.d=(Th.note t ps y).dat->∀a,Dt K H (Th.note t ps y).dat (.ref a)->Q (.ref a) H)) (h5:(VY S d "note"=false->E (.ref aV) none H)):zx P w K C aV vs H Q E
inductive vz (P:Ek)(w:Ep)(K:Ca)(C aV:Ei)(g:Str->Str->Str)(vs:Dk)(H:Hp)(Q:VK)(E:XK):Prop
 |mk (a:Ei) (fp:De) (S:Dj) (d:Er) (v:V) (h0:vs=[.ref a,v]) (h1:Wx P w K C H a fp S) (h2:(∀e∈S,Uw e)) (h3:Dw K H d v) (h4:(∀e∈S,∀t ps y,d=.str e.nm->e.d=(Th.note t ps y).dat->Q (.str<|g t y) H)) (h5:(VY S d "note"=false->E (.ref aV) none H)):vz P w K C aV g vs H Q E
def G9 (P:Ek)(w:Ep)(K:Ca)(C b:Ei):Sp:=vz P w K C b fun t _=>t
inductive vH (P:Ek)(w:Ep)(K:Ca)(C aV:Ei)(vs:Dk)(H:Hp)(Q:VK)(E:XK):Prop
 |mk (a:Ei) (fp:De) (S:Dj) (d:Er) (v:V) (h0:vs=[.ref a,v]) (h1:Wx P w K C H a fp S) (h2:(∀e∈S,Uw e)) (h3:Dw K H d v) (h4:((d=.none\/VY S d "note"=true)->Q .non H)) (h5:(d≠.none->VY S d "note"=false->E (.ref aV) none H)):vH P w K C aV vs H Q E
def F5:Sp:=fun d H Q _=>∃c,d=[.ref c]/\H c=some (.dK [])/\∀b,W8 H b->Q .non b
inductive yc (P:Ek)(w:Ep)(K:Ca)(C:Ei)(vs:Dk)(H:Hp)(Q:VK)(e3:XK):Prop
 |mk (a c:Ei) (fp:De) (S:Dj) (h0:vs=[.ref a,.ref c]) (h1:Wx P w K C H a fp S) (h2:zc S) (h3:H c=some (.dK [])) (h4:c∉fp) (h5:S.length<1900) (h6:∀H',Off fp H H'->Wx P w K C H' a fp (Ce S<|.tree []).1->Q (.str (Ce S<|.tree []).2) H'):yc P w K C vs H Q e3
noncomputable def Ch (S:Dj)(ps:Da)(y:Str):List En×Str:=Ce (Ce S<|.tree []).1<|.note (Ce S<|.tree []).2 ps y
inductive xj (P:Ek)(w:Ep)(K:Ca)(C:Ei)(vs:Dk)(H:Hp)(Q:VK)(e3:XK):Prop
 |mk (a c l:Ei) (fp:De) (S:Dj) (ps:Da) (y:Str) (h0:vs=[.ref a,.ref c,.ref l,.str y]) (h1:Wx P w K C H a fp S) (h2:zc S) (h3:H c=some (.dK [])) (h4:c∉fp) (h5:WP K H l<|ps.map V.str) (h6:ps.Nodup) (h7:ps.length<=2) (h8:(∀p∈ps,zV S p ["note"]=true)) (h9:Uh y=true) (h10:S.length<1900) (h11:∀H',Off fp H H'->Wx P w K C H' a fp (Ch S ps y).1->Q (.str (Ch S ps y).2) H'):xj P w K C vs H Q e3
theorem isT {rows:Dh}(h:At S x<|.tree rows):VY S (.str x) "tree"=true:=by
 obtain⟨e,b,rfl,hd⟩:=h;refine ZP.mpr ⟨e,b,?_⟩;rw[Zk,Zt,Zt,j5 hd];exact⟨rfl,Q8.mpr rfl⟩
theorem x9 {K:Ca}(n:Wd H X)(o:Off X H H')(h:WP K H l xs):WP K H' l xs:=by
 rcases h with(z|⟨ob,z⟩)|z
 ·exact .inl (.inl<|o _ _ (fun q=>by obtain⟨b,e,_,k,_⟩:=n _ q;rw[z]at e;exact k _ (Option.some.inj e).symm) z)
 ·exact .inl (.inr ⟨ob,o _ _ (fun q=>by obtain⟨b,e,_,_,k⟩:=n _ q;rw[z]at e;exact k _ _ (Option.some.inj e).symm) z⟩)
 ·exact .inr z
theorem jS {H:Hp}{c:Ei}{ob:Obj}{d:Dl}(f:H c=some (.dK d))(e:W8 (upd H c<|.frz ob<|.dK d) H2):W8 H (upd H2 c<|.dK d):=fun b o h=>by
 by_cases z:b=c
 ·rw[z,zB];rw[z,f]at h;exact h
 ·rw[zI z];exact e _ _ (by rwa[zI z])
section
variable {P:Ek}{w:Ep}{K:Ca}{mg:Str->Dc}{base:EC}{t1 t2 t3 t4 t5 t6:Tok}{aL aC aN aT aA b1 b2 b3 b4 b5 b6 b7 b8 aD:Ei}
theorem XM (h:VY S d f=true):∃x,d=.str x/\zV S x [f]=true/\x∈S.map En.nm:=by
 cases d with
 |str x =>
  have h:zV S x [f]=true:=h;refine⟨x,rfl,h,?_⟩
  rcases Classical.em (x∈S.map En.nm) with z|z
  ·exact z
  ·rw[Bh z]at h;cases h
 |none=>cases h
 |bool b=>cases h
 |int i=>cases h
 |list ds=>cases h
 |tuple ds=>cases h
 |dict Dm=>cases h
namespace AF
abbrev st:Stmt:=top 51
theorem sc:W7 ["store","name","form"] ["store","name","form"] (zE st):=Cf
theorem ok (F:Wt K "names_form" "names_form" st f fd)(T:Txt P w K mg t1 t2 t3 t4 t5 t6 aL aC aN aT aA b1 b2 b3 b4 b5 b6 b7 b8 aD)(y:Met P w K mg base aC 2 "has" ["self","name"]<|v5 P w K aC)(u:TV P w K mg base aC 4 "thing" ["self","name"]<|Te P w K aC aN):W0 P w K mg base Cd 5 f fd ["store","name","form"] (uN P w K aC):=by
 refine F.ok sc fun _ _ _ _ H vs Q E p h=>?_;obtain⟨a,l,S,d,v,g,rfl,sh,th,hd,k⟩:=h;refine⟨_,(zF<|zK<|xC (j7 (pv 0) T.cls y p.m<|zA (pv 1) zC)<|x4<|yO xB (zQ (W4:Cc _<|WR K) (yF (pv 0) T.cls u p.m yW<|zA (pv 1) zC) zH) (pv 2)<|zR _),?_⟩;obtain⟨D,b,L,M,N,ts,nx,C,nd,n,O,R,U,X,Y,Z,h8,h9⟩:=id sh;refine⟨_,rfl,a,b,_,rfl,n,rfl,_,rfl,a,l,S,d,v,rfl,sh,hd,Ip S d,rfl,?_⟩;cases q:Ip S d with
 |false =>
  refine VQ ?_;have:VY S d g=false:=by
   cases e:VY S d g with
   |false=>rfl
   |true =>
    obtain⟨x,rfl,_,I⟩:=XM e;rw[show Ip S (.str x)=decide (x∈S.map En.nm) from rfl,Zc I]at q;cases q
  rw[this]at k;exact k
 |true =>
  refine VO ⟨_,rfl,a,b,_,rfl,n,rfl,_,rfl,a,l,S,d,v,rfl,sh,hd,fun e o B t s=>?_,fun z=>by rw[q]at z;cases z⟩;obtain⟨J,i,_⟩:=th e o;rw[i]at s;obtain⟨c,r,A,G⟩:=kO s;cases A;refine⟨t,_,_,_,rfl,rfl,G,zT (j:=0) rfl,_,rfl,rfl,?_⟩;subst B;have:VY S (.str e.nm) g=decide (V.str J.word=V.str g):=by
   show zV S e.nm [g]=_;rw[Gh D o,j5 i,ZS,Zt,Zt,Q8,V.str.injEq]
  rw[this]at k;exact k
end AF
namespace AG
abbrev st:Stmt:=top 58
theorem sc:W7 ["store","name"] ["store","name"] (zE st):=Cf
theorem ok (F:Wt K "note_of" "note_of" st f fd)(T:Txt P w K mg t1 t2 t3 t4 t5 t6 aL aC aN aT aA b1 b2 b3 b4 b5 b6 b7 b8 aD)(n:T9 P w K mg base 5 "names_form" ["store","name","form"]<|uN P w K aC)(o:TV P w K mg base aC 4 "thing" ["self","name"]<|Te P w K aC aN):W0 P w K mg base (Cl P w) 6 f fd ["store","name"] (zx P w K aC b5):=by
 refine F.Sg sc fun _ _ _ _ H vs Q E j h=>?_;obtain⟨a,g,S,d,v,rfl,sh,th,hd,G,I⟩:=h;refine⟨_,(zD (z7 (yS<|zP (K:=K)<|zL n j.m<|zA (pv 0)<|zA (pv 1)<|zA W9 zC) (zF<|xG rfl yV rfl T.yo T.wG<|zA W9 zC) zM)<|zF<|zK<|yF (pv 0) T.cls o j.m z6<|zA (pv 1) zC),?_⟩
 obtain⟨A,p,M,N,O,ts,nx,u,nd,B,R,U,X,Y,Z,h7,h8,h9⟩:=id sh;refine⟨_,rfl,_,rfl,a,g,S,d,v,"note",rfl,sh,th,hd,_,rfl,?_⟩;cases q:VY S d "note" with
 |false=>exact Uc ⟨VR 1,I q⟩
 |true =>
  obtain⟨x,rfl,C,D⟩:=XM q;obtain⟨e,i,rfl,t,J,y,b⟩:=Nw th C;refine VX ⟨_,rfl,a,p,_,rfl,B,rfl,_,rfl,a,g,S,.str e.nm,v,rfl,sh,hd,fun r c s L l=>?_,fun z=>?_⟩
  ·have:e=r:=FL A i c (by injection s);subst this;rw[b]at l;exact G e i t J y rfl b L l
  ·rw[show Ip S (.str e.nm)=decide (e.nm∈S.map En.nm) from rfl,Zc D]at z;cases z
end AG
namespace AH
abbrev st:Stmt:=top 60
theorem sc:W7 ["store","name"] ["store","name"] (zE st):=Cf
theorem ok (F:Wt K "tree_of" "tree_of" st f fd)(T:Txt P w K mg t1 t2 t3 t4 t5 t6 aL aC aN aT aA b1 b2 b3 b4 b5 b6 b7 b8 aD)(j:Ss P w K mg base 6 "note_of" ["store","name"]<|zx P w K aC b5):W0 P w K mg base (Cl P w) 7 f fd ["store","name"] (G9 P w K aC b5):=by
 refine F.Sg sc fun _ _ _ _ H A Q E r h=>?_;obtain⟨a,o,S,d,v,rfl,sh,th,hd,s,u⟩:=h;refine⟨_,(zF<|zK<|zQ (W4:Cc _<|WR K) (xY j r.m z6<|zA (pv 0)<|zA (pv 1) zC) zH),?_⟩;refine⟨_,rfl,_,rfl,a,o,S,d,v,rfl,sh,th,hd,fun e q t x y n i c p=>?_,u⟩;obtain⟨z,b,l,g,hb⟩:=Xg p;cases l;exact⟨c,_,_,_,rfl,rfl,g,rfl,s e q t x y n i⟩
end AH
namespace AI
abbrev st:Stmt:=top 59
theorem sc:W7 ["store","name"] ["store","name"] (zE st):=Cf
theorem ok (F:Wt K "need_version_or_none" "need_version_or_none" st f fd)(T:Txt P w K mg t1 t2 t3 t4 t5 t6 aL aC aN aT aA b1 b2 b3 b4 b5 b6 b7 b8 aD)(l:Ss P w K mg base 6 "note_of" ["store","name"]<|zx P w K aC b5):W0 P w K mg base (Cl P w) 7 f fd ["store","name"] (vH P w K aC b5):=by
 refine F.Sg sc fun _ _ _ _ H A Q E r h=>?_;obtain⟨a,o,S,d,v,rfl,sh,th,hd,j,s⟩:=h;refine⟨_,(zF<|z7 (zO GN (pv 1) qU<|zR _) (zF<|yL<|xY l r.m z6<|zA (pv 0)<|zA (pv 1) zC) zM),?_⟩
 have nn:v=.non↔d=.none:=by
  cases d with
  |none=>exact⟨fun _=>rfl,fun _=>hd⟩
  |bool b=>rw[show v=.bl b from hd];exact⟨fun z=>(nomatch z),fun z=>(nomatch z)⟩
  |int i=>rw[show v=.int i from hd];exact⟨fun z=>(nomatch z),fun z=>(nomatch z)⟩
  |str x=>rw[show v=.str x from hd];exact⟨fun z=>(nomatch z),fun z=>(nomatch z)⟩
  |list ds=>obtain⟨b,_,rfl,_⟩:=hd;exact⟨fun z=>(nomatch z),fun z=>(nomatch z)⟩
  |tuple ds=>obtain⟨b,_,rfl,_⟩:=hd;exact⟨fun z=>(nomatch z),fun z=>(nomatch z)⟩
  |dict Dm=>obtain⟨b,_,rfl,_⟩:=hd;exact⟨fun z=>(nomatch z),fun z=>(nomatch z)⟩
 refine⟨_,rfl,rfl,_,rfl,V3 (fun z=>?_)<|fun z=>?_⟩
 ·have nd:d≠.none:=fun q=>by rw[nn.mpr q,Zc rfl]at z;cases z
  exact⟨_,rfl,_,rfl,a,o,S,d,v,rfl,sh,th,hd,fun e p t u y n g c _=>j<|.inr (by rw[n];exact GW p g),fun q=>s nd q⟩
 ·exact j (.inl<|nn.mp<|Decidable.byContradiction fun q=>z (by rw[Zg q];rfl))
end AI
namespace AJ
abbrev st:Stmt:=top 46
theorem ok (F:Wt K "is_file" "is_file" st f fd)(T:Txt P w K mg t1 t2 t3 t4 t5 t6 aL aC aN aT aA b1 b2 b3 b4 b5 b6 b7 b8 aD):W0 P w K mg base Cd 1 f fd ["path","lines"] Tu:=never
end AJ
namespace AK
abbrev st:Stmt:=top 45
theorem ok (F:Wt K "folders_of" "folders_of" st f fd)(T:Txt P w K mg t1 t2 t3 t4 t5 t6 aL aC aN aT aA b1 b2 b3 b4 b5 b6 b7 b8 aD):W0 P w K mg base Cd 1 f fd ["path"] Tu:=never
end AK
namespace AL
abbrev st:Stmt:=top 47
theorem sc:W7 ["files","path","lines"] ["files"] (zE st):=Cf
theorem ok (F:Wt K "need_files" "need_files" st f fd)(T:Txt P w K mg t1 t2 t3 t4 t5 t6 aL aC aN aT aA b1 b2 b3 b4 b5 b6 b7 b8 aD)(q:T9 P w K mg base 1 "is_file" ["path","lines"] Tu)(r:T9 P w K mg base 1 "folders_of" ["path"] Tu):W0 P w K mg base (Cl P w) 2 f fd ["files"] F5:=by
 refine F.Sg sc fun _ _ _ _ H s Q E l h=>?_;obtain⟨c,rfl,g,k⟩:=h;refine⟨_,(zD (z7 (yS<|zP (K:=K)<|zJ (Wz.or (zS (K:=K))<|GT (K:=K)) (by rfl) T.isinstance Zf<|zA (pv 0)<|zA (yM (v:=.ty "dict") rfl T.dict PyProof.Rows.boot_dict rfl) zC) (zF<|xG rfl yV rfl T.SQ T.Su<|zA W9 zC) zM)<|zD (Xb<|qF L9 rfl (Xv<|Xz<|pv 0) (Gv rfl<|xH (zY (i:=1) sc.nd rfl<|EY rfl)<|xH (zY (i:=2) sc.nd rfl<|EY rfl) kX)<|zF<|z7 (yS<|zP (K:=K)<|zL q l.m<|zA (pv 1)<|zA (pv 2) zC) (zF<|xG rfl yV rfl T.SQ T.Su<|zA W9 zC) zM)<|zF<|Xb<|qF L9 rfl (FS<|Xz<|pv 0) (zY (i:=1) sc.nd rfl<|EY rfl)<|zF<|z7 (zP (K:=K)<|zJ (Ko rfl) (by rfl) T.any PyProof.Rows.boot_any<|zA (xR (sc:=zE st) (N:=["files","path","lines"]) (N':=["folder","files"]) (src:=[none,some 0]) .a rfl rfl rfl (kA<|zL r l.m<|zA (pv 1) zC) (fun _ _ _ _=>(zY (i:=0) (show(["folder","files"]:Da).Nodup by decide +kernel) rfl (EY rfl))) (fun _ _ _ _=>qL) (fun _ _ _ _=>(yO (CY l.units) (pv 0) (pv 1)<|by with_unfolding_all rfl))) zC) (zF<|xG rfl yV rfl T.SQ T.Su<|zA W9 zC) zM),?_⟩
 refine⟨_,rfl,.inr ⟨c,"dict",[],_,rfl,.inl g,T.kit _ (by simp[kinds]) _<|by simp[kinds],_,rfl,VQ ?_⟩⟩;refine⟨_,rfl,c,[],rfl,g,fun ob=>⟨c,ob,[],rfl,zB,UG (fun i d b=>d=[some<|.ref c,none,none]/\b=upd H c (.frz ob<|.dK [])) ⟨rfl,rfl⟩ (fun i d b _ h=>by rw[h.2];exact zB) (fun i k v T d b j=>(nomatch j)) ?_⟩⟩;rintro d b ⟨rfl,rfl⟩;refine⟨c,ob,[],zB,fun o u (z:H c=some (.frz o u))=>(by rw[g]at z;cases z),?_⟩;have n:=jS g<|W8.refl<|upd H c<|.frz ob<|.dK [];have e:=n _ _ g;generalize upd (upd H c<|.frz ob<|.dK []) c (.dK [])=p at n e ⊢;refine⟨_,rfl,c,[],rfl,e,fun ob=>⟨c,ob,[],rfl,zB,Ky (fun i d b=>d=[some<|.ref c,none,none]/\b=upd p c (.frz ob<|.dK [])) ⟨rfl,rfl⟩ (fun i d b _ h=>by rw[h.2];exact zB) (fun i k v d b j=>(nomatch j)) ?_⟩⟩;rintro d b ⟨rfl,rfl⟩;exact⟨c,ob,[],zB,fun o u (z:H c=some (.frz o u))=>(by rw[g]at z;cases z),k _<|n.trans<|jS e<|W8.refl _⟩
end AL
namespace AM
abbrev st:Stmt:=top 54
theorem sc:W7 ["shelf","files","rows","folders","path","lines","parts","label","beneath"] ["shelf","files"] (zE st):=Cf
theorem ok (F:Wt K "put_files" "put_files" st f fd)(T:Txt P w K mg t1 t2 t3 t4 t5 t6 aL aC aN aT aA b1 b2 b3 b4 b5 b6 b7 b8 aD)(Z:TV P w K mg base aC 7 "put" ["self","thing"]<|Sq P w K aC aN aT)(Y:T9 P w K mg base 8 "put_rows" ["shelf","rows"]<|Sx P w K aC)(X:mg "put_files"=some (.ref f))(U:Wr K fd ["shelf","files"] []):W0 P w K mg base Cd 9 f fd ["shelf","files"] (yc P w K aC):=by
 refine F.ok sc fun _ _ _ _ H vs Q E n h=>?_;obtain⟨a,c,fp,S,rfl,sh,ok,N,nc,sl,k⟩:=h;have Qm:T9 P w K mg base 1 "put_files" ["shelf","files"] Tu:=T9.mk' F never X U;have x:=n.WN;refine⟨_,(zD (Cg (i:=2) sc.nd xN)<|zD (Cg (i:=3) sc.nd xN)<|zD (Xb<|qF PassesOwn.never rfl (Xv<|Xz<|pv 1) (Gv rfl<|xH (zY (i:=4) sc.nd rfl<|EY rfl)<|xH (zY (i:=5) sc.nd rfl<|EY rfl) kX)<|zD (Cg (i:=6) sc.nd<|U5 Jh PySem.F.slot_str_partition PySem.F.type_str_partition Ik (pv 4)<|zA W9 zC)<|zD (Cg (i:=7) sc.nd<|zQ (W4:Cc _<|WR K) (pv 6) zH)<|zF<|z7 (zO xB (pv 7) (pv 4)<|zR _) (zF<|xJ x (pv 2) (pv 7) (yF (pv 0) T.cls Z n.m yW<|zA (yI<|zA W9<|zA (pv 5) zC) zC) rfl)<|zD (Cg (i:=8) sc.nd<|XJ x (pv 3) (pv 7) xN ⟨rfl,rfl,rfl,rfl⟩)<|zD (xJ x (pv 8) (zQ (W4:Cc _<|WR K) (pv 6) zH) (pv 5) rfl)<|zF<|xJ x (pv 3) (pv 7) (pv 8) rfl)<|zD (Xb<|qF PassesOwn.never rfl (Xv<|Xz<|pv 3) (Gv rfl<|xH (zY (i:=7) sc.nd rfl<|EY rfl)<|xH (zY (i:=8) sc.nd rfl<|EY rfl) kX)<|zF<|xJ x (pv 2) (pv 7) (zL Qm n.m<|zA (pv 0)<|zA (pv 8) zC) rfl)<|zF<|zK<|zL Y n.m<|zA (pv 0)<|zA (pv 2) zC),?_⟩
 refine fun p n2=>xD fun d n3=>xD ?_;have O:=zG (o:=.dK []) n2;have R:=zG (o:=.dK []) n3;have s:=R _ _<|zB (H:=H) (a:=p) (o:=.dK []);have t:=zB (H:=upd H p<|.dK []) (a:=d) (o:=.dK []);have J:=O.trans R;generalize upd (upd H p<|.dK []) d (.dK [])=B at s t J ⊢;have q:=J _ _ N;refine⟨_,rfl,c,[],rfl,q,fun ob=>⟨c,ob,[],rfl,zB,UG (fun i j g=>j=[some<|.ref a,some<|.ref c,some<|.ref p,some<|.ref d,none,none,none,none,none]/\g=upd B c (.frz ob<|.dK [])) ⟨rfl,rfl⟩ (fun i j g _ h=>by rw[h.2];exact zB) (fun i k v T j g D=>(nomatch D)) ?_⟩⟩;rintro j g ⟨rfl,rfl⟩;refine⟨c,ob,[],zB,fun o u (z:H c=some (.frz o u))=>(by rw[N]at z;cases z),?_⟩;have A:=jS q<|W8.refl<|upd B c<|.frz ob<|.dK [];generalize upd (upd B c<|.frz ob<|.dK []) c (.dK [])=C at A ⊢;have l:=A _ _ t;refine⟨_,rfl,d,[],rfl,l,fun ob=>⟨d,ob,[],rfl,zB,UG (fun i j g=>j=[some<|.ref a,some<|.ref c,some<|.ref p,some<|.ref d,none,none,none,none,none]/\g=upd C d (.frz ob<|.dK [])) ⟨rfl,rfl⟩ (fun i j g _ h=>by rw[h.2];exact zB) (fun i k v T j g D=>(nomatch D)) ?_⟩⟩;rintro j g ⟨rfl,rfl⟩;have I:H d=none:=O.free n3;refine⟨d,ob,[],zB,fun o u (z:H d=some (.frz o u))=>(by rw[I]at z;cases z),?_⟩;have L:=jS l<|W8.refl<|upd C d<|.frz ob<|.dK [];generalize upd (upd C d<|.frz ob<|.dK []) d (.dK [])=H5 at L ⊢;have y:=J.trans<|A.trans L;have e0:V8 []=[]:=List.Perm.eq_nil<|xQ [];rw[←e0]at k;exact⟨_,rfl,_,rfl,a,p,fp,S,[],rfl,sh.same y,ok,.inl<|(A.trans L) _ _ s,Yp,fun r n=>(nomatch n),by decide,by omega,fun g G M=>k g (fun b o nb e=>G b o nb<|y _ _ e) M⟩
end AM
namespace AN
abbrev st:Stmt:=top 62
theorem sc:W7 ["shelf","files","parents","words"] ["shelf","files","parents","words"] (zE st):=Cf
theorem ok (F:Wt K "noted" "noted" st f fd)(T:Txt P w K mg t1 t2 t3 t4 t5 t6 aL aC aN aT aA b1 b2 b3 b4 b5 b6 b7 b8 aD)(R:TV P w K mg base aC 7 "put" ["self","thing"]<|Sq P w K aC aN aT)(U:T9 P w K mg base 9 "put_files" ["shelf","files"]<|yc P w K aC):W0 P w K mg base Cd 10 f fd ["shelf","files","parents","words"] (xj P w K aC):=by
 refine F.ok sc fun _ _ _ _ H vs Q E t h=>?_;obtain⟨a,c,l,Y,S,g,y,rfl,sh,ok,hc,nc,hl,nd,p2,pf,ly,sl,k⟩:=h;refine⟨_,(zF<|zK<|yF (pv 0) T.cls R t.m yW<|zA (yI<|zA W9<|zA (zL U t.m<|zA (pv 0)<|zA (pv 1) zC)<|zA (yC jM (by rfl) T.tuple Z9<|zA (pv 2) zC)<|zA (pv 3) zC) zC),?_⟩;obtain⟨ix,i1,i2,i3,A⟩:=KH sh;refine⟨_,rfl,a,ix,_,rfl,A,rfl,_,rfl,_,rfl,a,c,Y,S,rfl,sh,ok,hc,nc,sl,fun L n G=>?_⟩;obtain⟨q,j,l1,T1,u,Z⟩:=GO ok (Hg ok (rows:=[]) (by decide) fun r t=>(nomatch t)) (by omega);have B:=x9 sh.Wh n hl;refine⟨_,rfl,l,_,rfl,.inl ⟨B,fun i n1=>⟨_,rfl,VR 4,fun d n2=>?_⟩⟩⟩;have N:=zG (o:=.tup<|g.map V.str) n1;have J:=zG (o:=.tup [V.str "note",V.str (Ce S<|.tree []).2,V.ref i,V.str y]) n2;have X:Dt K (upd (upd L i<|.tup<|g.map V.str) d<|.tup [V.str "note",V.str (Ce S<|.tree []).2,V.ref i,V.str y]) (Th.note (Ce S<|.tree []).2 g y).dat (.ref d):=⟨d,_,rfl,Wu.of zB,_,_,rfl,rfl,_,_,rfl,rfl,_,_,rfl,⟨i,_,rfl,Wu.of<|J _ _ zB,W6.strs g⟩,_,_,rfl,rfl,rfl⟩;have M:∀{x:Str},x∈(Ce S<|.tree []).1.map En.nm->Ok 1000 x:=fun{x} hx=>by
  obtain⟨e,z,rfl⟩:=Ze.mp hx;exact q.nm z
 have s:∀p∈g,zV (Ce S<|.tree []).1 p ["note"]=true:=fun p C=>by rw[u];exact Uz<|pf p C
 delta UQ;dsimp only;show Sq P w K aC aN aT [V.ref a,V.ref d] (upd (upd L i<|.tup<|g.map V.str) d<|.tup [V.str "note",V.str (Ce S<|.tree []).2,V.ref i,V.str y]) _ _;refine Od (G.same<|N.trans J) q (IL (M ?_) ly (fun p C=>M<|jI<|s p C) nd p2) ?_ (by omega) X fun O D I=>k O (fun b o nb e=>D b o nb<|(N.trans J) _ _<|n _ _ nb e) I
 ·obtain⟨e,z,v,_⟩:=j;rw[←v];exact Ze.mpr ⟨e,z,rfl⟩
 ·show(zV _ _ ["tree"]&&g.all fun p=>zV _ p ["note"])=true;rw[ZW.mpr s,Bool.and_true];exact isT j
end AN
end
end An22
namespace An
open PySem L2
open AnJ
def oV:Option Str->V
 |none=>.non
 |some n=>.str n
def Co:Option Str->Er
 |none=>.none
 |some n=>.str n
end An
namespace An22
open PySem L2 An
seal L2.PS L2.R8 L2.PE L2.PT L2.PW L2.PA L2.PG L2.vm L2.PI L2.vN L2.PC
abbrev Hs:=List<|Str×Option Str
def hkv (hs:Hs):Dl:=hs.map fun p=>(.inr p.1,oV p.2)
def VP (hs:Hs)(x:Str):Option (Option Str):=(hs.find? fun p=>decide (p.1=x)).map (·.2)
def VU (hs:Hs)(x:Str)(o:Option Str):Hs:=if(hs.any fun p=>decide (p.1=x))=true then hs.map (fun p=>if p.1=x then(p.1,o) else p) else hs++[(x,o)]
theorem qQ (x:Str):∀hs:Hs,VS (hkv hs) (.inr x)=(VP hs x).map oV
 |[]=>rfl
 |p::hs=>by
  by_cases e:p.1=x
  ·rw[show hkv (p::hs)=(.inr p.1,oV p.2)::hkv hs from rfl,yR<|by rw[e]];unfold VP;rw[Z7,Zc e];rfl
  ·rw[show hkv (p::hs)=(.inr p.1,oV p.2)::hkv hs from rfl,yP<|fun z=>e<|Sum.inr.inj z,qQ x hs];unfold VP;rw[Z7,Zg e]
theorem Gm (hs:Hs)(x:Str)(o:Option Str):WK (hkv hs) (.inr x) (oV o)=hkv (VU hs x o):=by
 have b:((hkv hs).any fun kv=>decide (kv.1=(.inr x:Key)))=hs.any fun p=>decide (p.1=x):=by
  unfold hkv;rw[VH];refine congrArg (fun f=>hs.any f)<|funext fun p=>?_;exact Y9.mpr ⟨fun z=>Sum.inr.inj z,fun z=>congrArg Ey z⟩
 unfold WK VU;rw[b]
 split
 ·unfold hkv;rw[ZB,ZB];refine YI fun p _=>?_;show(if(.inr p.1:Key)=.inr x then _ else _)=_
  by_cases z:p.1=x
  ·rw[Zp<|congrArg Ey z];show _=(fun q:Str×Option Str=>((.inr q.1:Key),oV q.2)) (if p.1=x then(p.1,o) else p);rw[Zp z]
  ·rw[Zm<|fun q=>z<|Sum.inr.inj q];show _=(fun q:Str×Option Str=>((.inr q.1:Key),oV q.2)) (if p.1=x then(p.1,o) else p);rw[Zm z]
 ·unfold hkv;rw[Zr];rfl
theorem jO {o:Option Str}(h:VP hs x=some o):(x,o)∈hs:=by
 obtain⟨p,b,e⟩:=Yg.mp h;have:=List.find?_some b;have c:p.1=x:=Zv this;rw[←c,←e];exact List.mem_of_find?_eq_some b
theorem yd:(VP hs x).isSome=true↔x∈hs.map (·.1):=by
 constructor
 ·intro h;obtain⟨o,b⟩:=ZU.mp h;exact Ze.mpr ⟨_,jO b,rfl⟩
 ·intro h;obtain⟨p,c,e⟩:=Ze.mp h;unfold VP;rw[Yj,List.find?_isSome];exact⟨p,c,Zc e⟩
theorem IT:(VU hs x o).map (·.1)=if x∈hs.map (·.1) then hs.map (·.1) else hs.map (·.1)++[x]:=by
 unfold VU
 by_cases h:x∈hs.map (·.1)
 ·obtain⟨p,b,e⟩:=Ze.mp h;rw[Zp h,Zp<|ZP.mpr ⟨p,b,Zc e⟩,ZB];refine YI fun p _=>?_;show(if p.1=x then(p.1,o) else p).1=p.1
  split<;>rfl
 ·rw[Zm h,Zm<|fun z=>?_,Zr]
  ·rfl
  ·obtain⟨p,b,e⟩:=ZP.mp z;exact h<|Ze.mpr ⟨p,b,Zv e⟩
theorem OZ {hs:Hs}(h:(hs.map (·.1)).Nodup):((VU hs x o).map (·.1)).Nodup:=by
 rw[IT]
 split
 ·exact h
 ·exact j9 h (by assumption)
theorem NW {p:Str×Option Str}(h:p∈VU hs x o):p=(x,o)\/p∈hs:=by
 unfold VU at h
 split at h
 ·obtain⟨q,b,e⟩:=Ze.mp h
  by_cases z:q.1=x
  ·rw[Zp z]at e;exact .inl (by rw[←e,z])
  ·rw[Zm z]at e;exact .inr<|e▸b
 ·rcases ZG.mp h with z|z
  ·exact .inr z
  ·exact .inl (Q8.mp z)
def Ux (hs:Hs):Er->Bool
 | .str x=>(VP hs x).isSome
 |_=>false
theorem OB (hs:Hs)(d:Er):OA (hkv hs) d=Ux hs d:=by
 cases d with
 |str x=>show(VS (hkv hs)<|.inr x).isSome=_;rw[qQ,Yj];rfl
 |_=>rfl
structure Wq (P:Ek)(w:Ep)(K:Ca)(C D:Ei)(H:Hp)(b a h:Ei)(fp:De)(S:Dj)(hs:Hs):Prop where
 ob:∃dx,H b=some (.ins D dx [("shelf",.ref a),("heads",.ref h)])
 sh:Wx P w K C H a fp S
 hd:H h=some (.dK<|hkv hs)
 nb:b∉fp
 nh:h∉fp
 ok:zc S
 nd:(hs.map (·.1)).Nodup
 hv:∀p∈hs,∀v,p.2=some v->zV S v ["note"]=true
section
variable {P:Ek}{w:Ep}{K:Ca}{C D:Ei}{H H':Hp}{b a h:Ei}{fp:De}{S S':Dj}{hs:Hs}
theorem Wq.same (x:Wq P w K C D H b a h fp S hs)(e:W8 H H'):Wq P w K C D H' b a h fp S hs:=⟨let ⟨dx,q⟩:=x.ob;⟨dx,e _ _ q⟩,x.sh.same e,e _ _ x.hd,x.nb,x.nh,x.ok,x.nd,x.hv⟩
inductive xf (P:Ek)(w:Ep)(K:Ca)(C D:Ei)(vs:Dk)(H:Hp)(Q:VK)(e3:XK):Prop
 |mk (x dx:Ei) (h0:vs=[.ref x]) (h1:H x=some (.ins D dx [])) (h2:H dx=some (.own x)) (h3:dx≠x) (h4:∀a h fp H',(∀c∈fp,H c=none)->H h=none->Off [x] H H'->Wq P w K C D H' x a h fp [] []->Q .non H'):xf P w K C D vs H Q e3
inductive xg (P:Ek)(w:Ep)(K:Ca)(C D:Ei)(vs:Dk)(H:Hp)(Q:VK)(e3:XK):Prop
 |mk (b a h:Ei) (fp:De) (S:Dj) (hs:Hs) (d:Er) (v:V) (h0:vs=[.ref b,v]) (h1:Wq P w K C D H b a h fp S hs) (h2:Dw K H d v) (h3:Q (.bl<|Ux hs d) H):xg P w K C D vs H Q e3
inductive R9 (P:Ek)(w:Ep)(K:Ca)(C D b7:Ei)(vs:Dk)(H:Hp)(Q:VK)(E:XK):Prop
 |mk (b a h:Ei) (fp:De) (S:Dj) (hs:Hs) (d:Er) (v:V) (h0:vs=[.ref b,v]) (h1:Wq P w K C D H b a h fp S hs) (h2:Dw K H d v) (h3:(Ux hs d=true->Q .non H)) (h4:(Ux hs d=false->E (.ref b7) none H)):R9 P w K C D b7 vs H Q E
inductive zm (P:Ek)(w:Ep)(K:Ca)(C D b7:Ei)(vs:Dk)(H:Hp)(Q:VK)(E:XK):Prop
 |mk (b a h:Ei) (fp:De) (S:Dj) (hs:Hs) (x:Str) (h0:vs=[.ref b,.str x]) (h1:Wq P w K C D H b a h fp S hs) (h2:(∀o,VP hs x=some o->Q (oV o) H)) (h3:(VP hs x=none->E (.ref b7) none H)):zm P w K C D b7 vs H Q E
inductive wZ (P:Ek)(w:Ep)(K:Ca)(C D b5 b7:Ei)(vs:Dk)(H:Hp)(Q:VK)(E:XK):Prop
 |mk (b a h:Ei) (fp:De) (S:Dj) (hs:Hs) (x:Str) (d:Er) (v:V) (h0:vs=[.ref b,.str x,v]) (h1:Wq P w K C D H b a h fp S hs) (h2:Dw K H d v) (h3:hs.length<1000) (h4:(VP hs x=none->E (.ref b7) none H)) (h5:((VP hs x).isSome=true->VY S d "note"=false->E (.ref b5) none H)) (h6:((VP hs x).isSome=true->∀y,d=.str y->VY S d "note"=true->∀H',H'=upd H h (.dK<|hkv<|VU hs x<|some y)->Wq P w K C D H' b a h fp S (VU hs x<|some y)->Q .non H')):wZ P w K C D b5 b7 vs H Q E
inductive wX (P:Ek)(w:Ep)(K:Ca)(C D b5 b8:Ei)(vs:Dk)(H:Hp)(Q:VK)(E:XK):Prop
 |mk (b a h:Ei) (fp:De) (S:Dj) (hs:Hs) (d e:Er) (v u:V) (h0:vs=[.ref b,v,u]) (h1:Wq P w K C D H b a h fp S hs) (h2:Dw K H d v) (h3:small d=true) (h4:Dw K H e u) (h5:hs.length<1000) (h6:((xA d=false\/Ux hs d=true)->∀H',W8 H H'->E (.ref b8) none H')) (h7:(xA d=true->Ux hs d=false->e≠.none->VY S e "note"=false->∀H',W8 H H'->E (.ref b5) none H')) (h8:(∀x o,d=.str x->e=Co o->xA d=true->Ux hs d=false->(e=.none\/VY S e "note"=true)->∀H',Off [h] H H'->Wq P w K C D H' b a h fp S (VU hs x o)->Q .non H')):wX P w K C D b5 b8 vs H Q E
inductive wW (P:Ek)(w:Ep)(K:Ca)(C D b7:Ei)(vs:Dk)(H:Hp)(Q:VK)(E:XK):Prop
 |mk (b a h c:Ei) (fp:De) (S:Dj) (hs:Hs) (x y:Str) (h0:vs=[.ref b,.str x,.ref c,.str y]) (h1:Wq P w K C D H b a h fp S hs) (h2:hs.length<1000) (h3:S.length<1900) (h4:H c=some (.dK [])) (h5:c∉fp) (h6:c≠h) (h7:Uh y=true) (h8:(VP hs x=none->E (.ref b7) none H)) (h9:(∀o,VP hs x=some o->∀H',Off (h::fp) H H'->Wq P w K C D H' b a h fp (Ch S o.toList y).1 (VU hs x<|some (Ch S o.toList y).2)->Q (.str (Ch S o.toList y).2) H')):wW P w K C D b7 vs H Q E
theorem qW {x b:Ei}{g i:HO}{fp:De}(nx:H x=none)(f:H b=none)(ne:b≠x)(d:∀c∈fp,c=x\/c=b\/(L2.upd (L2.upd H b g) x i) c=none)(o:Off [x] (L2.upd (L2.upd H b g) x i) H'):W8 H H'/\∀c∈fp,H c=none:=by
 have j:W8 H (L2.upd (L2.upd H b g) x i):=(zG f).trans (zG<|by rwa[zI<|EE ne]);refine⟨fun c u e=>o c u (fun z=>?_)<|j c u e,fun c l=>?_⟩
 ·rw[Q8.mp z,nx]at e;cases e
 ·rcases d c l with z|z|z
  ·rwa[z]
  ·rwa[z]
  ·exact j.free z
theorem Xj {c:TE}{i:Nat}{u:TS}{D:Ends}{b:St}{H:Hp}(h:c b H fun v H1=>u D (b.set i (some v)) H1):MZ (MV c<|Uv i) u D b H:=h
theorem ND {b:St}{Q:VK}{j:Nat}(e:b[j]?=some (some<|oV o))(k:∀l H',W8 H H'->H' l=some (.lst<|o.toList.map V.str)->Q (.ref l) H'):R7 (Oj<|Po (fun x y H Q=>y=V.non/\Q (V.bl<|decide (x=V.non)) H) (Ka j) (tC V.non)) (MX UQ) (MX<|Xy (Ka j) UQ) b H Q:=by
 cases o with
 |none=>exact⟨_,e,rfl,true,rfl,VO ⟨VR 0,fun l nl=>k l _ (zG nl) zB⟩⟩
 |some p=>exact⟨_,e,rfl,false,rfl,VQ ⟨_,e,VR 1,fun l nl=>k l _ (zG nl) zB⟩⟩
structure ye (S:Dj)(ps:Da)(y:Str)(q:List En×Str):Prop where
 ok:zc q.1
 tree:∃t,At q.1 t (.tree [])/\At q.1 q.2 (.note t ps y)/\∀e∈q.1,e∈S\/e.d=(Th.tree []).dat\/(e.nm=q.2/\e.d=(Th.note t ps y).dat)
 more:∃T,q.1=S++T
 len:q.1.length<=S.length+2
theorem KZ {S T:Dj}{x:Str}(g:zc S')(e:S'=S++T)(h:∀e∈T,e.nm=x)(a:At S' x t):∀e∈T,e.d=t.dat:=fun n hn=>by
 obtain⟨m,hm,c,b⟩:=a;rw[←b,K1 g.good.nn (by rw[e];exact Zy _ hn) hm<|(h n hn).trans c.symm]
theorem FM (ok:zc S){ps:Da}{y:Str}(nd:ps.Nodup)(C:ps.length<=2)(D:∀p∈ps,zV S p ["note"]=true)(B:Uh y=true)(sl:S.length<1900):ye S ps y (Ch S ps y):=by
 obtain⟨f,d,F,u,b,o⟩:=GO ok (Hg ok (rows:=[]) (by decide) fun r w=>(nomatch w)) (by omega);unfold Ch;have t:∀{x:Str},x∈(Ce S<|.tree []).1.map En.nm->Ok 1000 x:=fun{x} A=>by
  obtain⟨e,g,rfl⟩:=Ze.mp A;exact f.nm g
 have s:∀p∈ps,zV (Ce S<|.tree []).1 p ["note"]=true:=fun p q=>by rw[b];exact Uz<|D p q
 have n1:=KZ f b o d;have E:(Ce S<|.tree []).2∈(Ce S<|.tree []).1.map En.nm:=by
  obtain⟨e,g,n,_⟩:=d;rw[←n];exact Ze.mpr ⟨e,g,rfl⟩
 obtain⟨l,i,G,v,c,j⟩:=GO f (IL (t E) B (fun p q=>t<|jI<|s p q) nd C).1 (by omega);have n2:=KZ l c j i;refine⟨l,⟨_,by rw[c];exact d.more,i,fun e g=>?_⟩,⟨u++v,by rw[←Y1,←b];exact c⟩,by omega⟩;rw[c]at g
 rcases ZG.mp g with z|z
 ·rw[b]at z
  rcases ZG.mp z with z|z
  ·exact .inl z
  ·exact .inr (.inl<|n1 e z)
 ·exact .inr (.inr ⟨j e z,n2 e z⟩)
theorem Ry {t:Str}{ps:Da}{y:Str}(h:At S x<|.note t ps y):zV S x ["note"]=true:=by
 obtain⟨e,b,rfl,hd⟩:=h;exact GW b hd
theorem Wq.put (B:Wq P w K C D H b a h fp S hs)(x:Str)(o:Option Str)(hv:∀v,o=some v->zV S v ["note"]=true)(of:Off [h] H H')(g:H' h=some (.dK<|hkv<|VU hs x o)):Wq P w K C D H' b a h fp S (VU hs x o):=by
 obtain⟨d,hb⟩:=B.ob;have nh:b∉[h]:=fun z=>by rw[Q8.mp z,B.hd]at hb;cases hb
 refine⟨⟨d,of _ _ nh hb⟩,B.sh.off (Xx B.hd) of<|fun c f z=>B.nh<|Q8.mp z▸f,g,B.nb,B.nh,B.ok,OZ B.nd,fun p i v e=>?_⟩
 rcases NW i with z|z
 ·rw[z]at e;exact hv v e
 ·exact B.hv p z v e
end
section
variable {P:Ek}{w:Ep}{K:Ca}{mg:Str->Dc}{base:EC}{t1 t2 t3 t4 t5 t6:Tok}{aL aC aN aT aA b1 b2 b3 b4 b5 b6 b7 b8 aD:Ei}
namespace AO
abbrev st:Stmt:=inClass (top 64) 3
theorem sc:W7 ["self","branch"] ["self","branch"] (zE st):=Cf
theorem ok (F:Wt K "has_branch" "Annals.has_branch" st f fd)(T:Txt P w K mg t1 t2 t3 t4 t5 t6 aL aC aN aT aA b1 b2 b3 b4 b5 b6 b7 b8 aD)(c:T9 P w K mg base 1 "is_key" ["table","thing"]<|v7 K):W0 P w K mg base Cd 2 f fd ["self","branch"] (xg P w K aC aD):=by
 refine F.ok sc fun _ _ _ _ H l Q E g h=>?_;obtain⟨b,a,h,i,S,j,d,v,rfl,B,hd,k⟩:=h;refine⟨_,(zF<|zK<|zL c g.m<|zA (yT (pv 0) rfl)<|zA (pv 1) zC),?_⟩;obtain⟨e,hb⟩:=B.ob;rw[←OB]at k;exact⟨_,rfl,b,aD,e,_,_,rfl,hb,T.Wg,T.m2,rfl,_,rfl,h,_,d,v,rfl,B.hd,hd,k⟩
end AO
namespace AQ
abbrev st:Stmt:=inClass (top 64) 5
theorem sc:W7 ["self","branch"] ["self","branch"] (zE st):=Cf
theorem ok (F:Wt K "need_branch" "Annals.need_branch" st f fd)(T:Txt P w K mg t1 t2 t3 t4 t5 t6 aL aC aN aT aA b1 b2 b3 b4 b5 b6 b7 b8 aD)(e:Met P w K mg base aD 2 "has_branch" ["self","branch"]<|xg P w K aC aD):W0 P w K mg base (Cl P w) 3 f fd ["self","branch"] (R9 P w K aC aD b7):=by
 refine F.Sg sc fun _ _ _ _ H o Q E j h=>?_;obtain⟨b,a,h,i,S,c,d,v,rfl,B,hd,l,n⟩:=h;refine⟨_,(zF<|z7 (yS<|zP (K:=K)<|j7 (pv 0) T.Wg e j.m<|zA (pv 1) zC) (zF<|xG rfl yV rfl T.wQ T.vV<|zA W9 zC) zM),?_⟩
 obtain⟨g,hb⟩:=B.ob;refine⟨_,rfl,b,g,_,rfl,hb,rfl,_,rfl,b,a,h,i,S,c,d,v,rfl,B,hd,_,rfl,?_⟩;cases q:Ux c d with
 |true=>exact VX<|l q
 |false=>exact Uc ⟨VR 1,n q⟩
end AQ
namespace AR
abbrev st:Stmt:=inClass (top 64) 6
theorem sc:W7 ["self","branch"] ["self","branch"] (zE st):=Cf
theorem ok (F:Wt K "head" "Annals.head" st f fd)(T:Txt P w K mg t1 t2 t3 t4 t5 t6 aL aC aN aT aA b1 b2 b3 b4 b5 b6 b7 b8 aD)(i:TV P w K mg base aD 3 "need_branch" ["self","branch"]<|R9 P w K aC aD b7):W0 P w K mg base (Cl P w) 4 f fd ["self","branch"] (zm P w K aC aD b7):=by
 refine F.Sg sc fun _ _ _ _ H p Q E g h=>?_;obtain⟨b,a,h,j,S,c,x,rfl,B,l,n⟩:=h;refine⟨_,(zD (yL<|yF (pv 0) T.Wg i g.m z6<|zA (pv 1) zC)<|zF<|zK<|yH g.WN (yT (pv 0) rfl) (pv 1)<|fun _ _=>rfl),?_⟩
 obtain⟨d,hb⟩:=B.ob;refine⟨_,rfl,b,d,_,rfl,hb,rfl,_,rfl,b,a,h,j,S,c,.str x,_,rfl,B,rfl,fun q=>?_,fun q=>n (by cases z:VP c x with|none=>rfl|some o=>rw[show Ux c (.str x)=(VP c x).isSome from rfl,z]at q;cases q)⟩;obtain⟨o,e⟩:=ZU.mp<|show(VP c x).isSome=true from q;exact⟨_,rfl,b,aD,d,_,_,rfl,hb,T.Wg,T.m2,rfl,_,rfl,h,_,rfl,.inl ⟨_,.inr x,.inl B.hd,rfl,by rw[qQ,e];rfl⟩,l o e⟩
end AR
namespace AS
abbrev st:Stmt:=inClass (top 64) 7
theorem sc:W7 ["self","branch","version"] ["self","branch","version"] (zE st):=Cf
theorem ok (F:Wt K "set_head" "Annals.set_head" st f fd)(T:Txt P w K mg t1 t2 t3 t4 t5 t6 aL aC aN aT aA b1 b2 b3 b4 b5 b6 b7 b8 aD)(s:TV P w K mg base aD 3 "need_branch" ["self","branch"]<|R9 P w K aC aD b7)(r:Ss P w K mg base 6 "note_of" ["store","name"]<|zx P w K aC b5):W0 P w K mg base (Cl P w) 7 f fd ["self","branch","version"] (wZ P w K aC aD b5 b7):=by
 refine F.Sg sc fun _ _ _ _ H N Q E l h=>?_;obtain⟨b,a,h,p,S,g,x,d,v,rfl,B,hd,hl,I,J,L⟩:=h;refine⟨_,(zD (yL<|yF (pv 0) T.Wg s l.m z6<|zA (pv 1) zC)<|zD (yL<|xY r l.m z6<|zA (yT (pv 0) rfl)<|zA (pv 2) zC)<|zF<|xJ l.WN (yT (pv 0) rfl) (pv 1) (pv 2) rfl),?_⟩
 obtain⟨i,hb⟩:=B.ob;refine⟨_,rfl,b,i,_,rfl,hb,rfl,_,rfl,b,a,h,p,S,g,.str x,_,rfl,B,rfl,fun q=>?_,fun q=>I (by cases z:VP g x with|none=>rfl|some o=>rw[show Ux g (.str x)=(VP g x).isSome from rfl,z]at q;cases q)⟩;have q:(VP g x).isSome=true:=q;refine⟨_,rfl,b,aD,i,_,_,rfl,hb,T.Wg,T.m1,rfl,_,rfl,a,p,S,d,v,rfl,B.sh,B.ok.th,hd,fun e D t M y u j c _=>?_,fun z=>J q z⟩;subst u;have n:VY S (.str e.nm) "note"=true:=GW D j;have C:v=.str e.nm:=hd;subst C;refine⟨_,rfl,_,rfl,b,aD,i,_,_,rfl,hb,T.Wg,T.m2,rfl,_,rfl,h,_,rfl,.inl ⟨_,.inr x,B.hd,rfl,jH (by rw[show(hkv g).length=g.length from Q5 ..];omega),rfl⟩,?_⟩;have A:WK (hkv g) (.inr x) (V.str e.nm)=hkv (VU g x<|some e.nm):=Gm g x<|some e.nm;rw[A];exact L q e.nm rfl n _ rfl (B.put x (some e.nm) (fun z G=>by cases G;exact n) xK zB)
end AS
namespace AT
abbrev st:Stmt:=inClass (top 64) 4
theorem sc:W7 ["self","branch","version"] ["self","branch","version"] (zE st):=Cf
theorem ok (F:Wt K "begin" "Annals.begin" st f fd)(T:Txt P w K mg t1 t2 t3 t4 t5 t6 aL aC aN aT aA b1 b2 b3 b4 b5 b6 b7 b8 aD)(G:T9 P w K mg base 1 "is_label" ["thing"]<|Gu K)(I:Met P w K mg base aD 2 "has_branch" ["self","branch"]<|xg P w K aC aD)(D:Ss P w K mg base 7 "need_version_or_none" ["store","name"]<|vH P w K aC b5):W0 P w K mg base (Cl P w) 8 f fd ["self","branch","version"] (wX P w K aC aD b5 b8):=by
 refine F.Sg sc fun _ _ _ _ H vs Q E j h=>?_;obtain⟨b,a,h,A,S,l,d,e,v,u,rfl,B,hd,sd,r,hl,C,O,R⟩:=h;refine⟨_,(zD (z7 (PW.pt<|k9 (yS<|zP (K:=K)<|zL G j.m<|zA (pv 1) zC)<|kF<|zP (K:=K)<|j7 (pv 0) T.Wg I j.m<|zA (pv 1) zC) (zF<|xG rfl yV rfl T.yh T.wg<|zA W9 zC) zM)<|zD (yL<|xY D j.m z6<|zA (yT (pv 0) rfl)<|zA (pv 2) zC)<|zF<|xJ j.WN (yT (pv 0) rfl) (pv 1) (pv 2) rfl),?_⟩
 refine⟨_,rfl,d,v,rfl,hd,sd,fun H1 g=>⟨_,rfl,?_⟩⟩;have i:=B.same g;have p:=Dw.same g _ _ hd;have s:=Dw.same g _ _ r;cases q:xA d with
 |false=>exact Uc<|VO ⟨VR 1,C (.inl q) _ g⟩
 |true =>
  obtain⟨n,hb⟩:=i.ob;refine VX ⟨_,rfl,b,n,_,rfl,hb,rfl,_,rfl,b,a,h,A,S,l,d,v,rfl,i,p,_,rfl,?_⟩;cases z:Ux l d with
  |true=>exact VO ⟨VR 1,C (.inr z) _ g⟩
  |false =>
   refine VQ ⟨_,rfl,b,aD,n,_,_,rfl,hb,T.Wg,T.m1,rfl,_,rfl,a,A,S,e,u,rfl,i.sh,i.ok.th,s,fun y=>?_,fun Y Z=>O q z Y Z _ g⟩;obtain⟨x,rfl⟩:∃x,d=.str x:=by cases d<;>first|exact⟨_,rfl⟩|cases q
   obtain⟨o,L,X,M⟩:∃o,e=Co o/\u=oV o/\∀w,o=some w->zV S w ["note"]=true:=by
    rcases y with rfl|y
    ·exact⟨none,rfl,r,fun w t=>(nomatch t)⟩
    ·obtain⟨w,rfl,N,_⟩:=XM y;exact⟨some w,rfl,r,fun w' t=>by cases t;exact N⟩
   have hv:v=.str x:=hd;subst hv X;refine⟨_,rfl,_,rfl,b,aD,n,_,_,rfl,hb,T.Wg,T.m2,rfl,_,rfl,h,_,rfl,.inl ⟨_,.inr x,i.hd,rfl,jH (by rw[show(hkv l).length=l.length from Q5 ..];omega),rfl⟩,?_⟩;rw[Gm];exact R x o rfl L q z y _ (fun c w U J=>xK c w U<|g c w J) (i.put x o M xK zB)
end AT
namespace AU
abbrev st:Stmt:=inClass (top 64) 8
theorem sc:W7 ["self","branch","files","words","head","parents","version"] ["self","branch","files","words"] (zE st):=Cf
theorem ok (F:Wt K "keep" "Annals.keep" st f fd)(T:Txt P w K mg t1 t2 t3 t4 t5 t6 aL aC aN aT aA b1 b2 b3 b4 b5 b6 b7 b8 aD)(Qe:TV P w K mg base aD 4 "head" ["self","branch"]<|zm P w K aC aD b7)(QQ:Ss P w K mg base 2 "need_files" ["files"] F5)(Qb:T9 P w K mg base 2 "is_line" ["thing"]<|GL K)(QR:T9 P w K mg base 10 "noted" ["shelf","files","parents","words"]<|xj P w K aC)(Qp:TV P w K mg base aD 7 "set_head" ["self","branch","version"]<|wZ P w K aC aD b5 b7):W0 P w K mg base (Cl P w) 11 f fd ["self","branch","files","words"] (wW P w K aC aD b7):=by
 refine F.Sg sc fun _ _ _ _ H vs Q E s h=>?_;obtain⟨b,a,h,c,D,S,X,x,y,rfl,B,hl,sl,hc,nc,ch,I,k1,G⟩:=h;refine⟨_,(zD (Cg (i:=4) sc.nd<|yF (pv 0) T.Wg Qe s.m z6<|zA (pv 1) zC)<|zD (yL<|xY QQ s.m z6<|zA (pv 2) zC)<|zD (z7 (yS<|zP (K:=K)<|zL Qb s.m<|zA (pv 3) zC) (zF<|xG rfl yV rfl T.vZ T.vI<|zA W9 zC) zM)<|zD (Cg (i:=5) sc.nd<|Ms (zO OR (pv 4) qU<|zR _) (y7 zC)<|y7<|zA (pv 4) zC)<|zD (Cg (i:=6) sc.nd<|zL QR s.m<|zA (yT (pv 0) rfl)<|zA (pv 2)<|zA (pv 5)<|zA (pv 3) zC)<|zD (yL<|yF (pv 0) T.Wg Qp s.m z6<|zA (pv 1)<|zA (pv 6) zC)<|zF<|zK<|pv 6),?_⟩
 obtain⟨dx,hb⟩:=B.ob;refine⟨_,rfl,b,dx,_,rfl,hb,rfl,_,rfl,b,a,h,D,S,X,x,rfl,B,fun o U=>?_,k1⟩;refine xD ⟨_,rfl,c,rfl,hc,fun H1 s1=>?_⟩;have G:=G o U;refine⟨_,rfl,.str y,_,rfl,rfl,Zc (by have:=(zq.mp I).1;omega),fun H2 s2=>⟨_,rfl,?_⟩⟩;rw[show U2 (.str y)=true from I];refine VX ?_;have Y:=s1.trans s2;delta MY;dsimp only;refine Xj<|ND rfl ?_;intro l H3 s3 R;have j:=Y.trans s3;have C:=B.same j;obtain⟨n,r⟩:=C.ob;have d:∀p∈o.toList,zV S p ["note"]=true:=fun p d=>B.hv _ (jO U) p (by cases o with|none=>cases d|some q=>rw[Q8.mp d]);refine⟨_,rfl,b,aD,n,_,_,rfl,r,T.Wg,T.m1,rfl,_,rfl,_,rfl,_,rfl,a,c,l,D,S,o.toList,y,rfl,C.sh,C.ok,j _ _ hc,nc,WP.of R,by cases o<;>simp,by cases o<;>simp,d,I,sl,fun H4 g A=>xD ?_⟩;have N:=FM B.ok (ps:=o.toList) (by cases o<;>simp) (by cases o<;>simp) d I sl;generalize Ch S o.toList y=q at N A G ⊢;obtain⟨T',M⟩:=N.more;obtain⟨t,_,J,_⟩:=N.tree;have Z:Wq P w K aC aD H4 b a h D q.1 X:=⟨⟨n,g _ _ B.nb r⟩,A,g _ _ B.nh C.hd,B.nb,B.nh,N.ok,B.nd,fun p d v e=>by rw[M];exact Uz<|B.hv p d v e⟩;obtain⟨L,O⟩:=Z.ob;refine⟨_,rfl,b,L,_,rfl,O,rfl,_,rfl,_,rfl,b,a,h,D,q.1,X,x,.str q.2,_,rfl,Z,rfl,hl,fun z=>(by rw[U]at z;cases z),fun _ z=>?_,fun _ y' ey _ H5 e5 B5=>?_⟩
 ·rw[show VY q.1 (.str q.2) "note"=true from Ry J]at z;cases z
 ·cases ey;refine⟨_,rfl,G H5 (fun c' o' u e'=>?_) B5⟩;rw[e5,zI<|fun z=>u (by rw[z];exact Zj)];exact g _ _ (fun z=>u<|Zi _ z) (j _ _ e')
end AU
def Ck (hs:Hs)(x:Str):PyData:=.tuple [.str x,Co<|(VP hs x).getD none]
inductive SX (P:Ek)(w:Ep)(K:Ca)(C D:Ei)(vs:Dk)(H:Hp)(Q:VK)(e3:XK):Prop
 |mk (b a h:Ei) (fp:De) (S:Dj) (hs:Hs) (h0:vs=[.ref b]) (h1:Wq P w K C D H b a h fp S hs) (h2:hs.length<60) (h3:∀(l:Ei) (ss:Da) (xs:Dk) (H':Hp),W8 H H'->H l=none->H' l=some (.lst xs)->ss.Perm (hs.map (·.1))->PyProof.Rows.sortedS ss=true->W6 K H' (ss.map<|Ck hs) xs->Q (.ref l) H'):SX P w K C D vs H Q e3
theorem FE (hs:Hs):Ol (hkv hs)/\(hkv hs).map CJ=hs.map (·.1):=by
 refine⟨fun kv b=>?_,?_⟩
 ·obtain⟨p,_,rfl⟩:=Ze.mp b;rfl
 ·unfold hkv;rw[ZB];rfl
theorem BB {K:Ca}(o:Option Str):Dt K H (Co o) (oV o):=by cases o<;>rfl
namespace AV
abbrev st:Stmt:=inClass (top 64) 0
theorem sc:W7 ["self"] ["self"] (zE st):=Cf
theorem ok (F:Wt K "__init__" "Annals.__init__" st f fd)(T:Txt P w K mg t1 t2 t3 t4 t5 t6 aL aC aN aT aA b1 b2 b3 b4 b5 b6 b7 b8 aD)(N:uv P w K mg base aC 5 "Shelf" ["self","base"]<|wz P w K aC):W0 P w K mg base Cd 7 f fd ["self"] (xf P w K aC aD):=by
 refine F.ok sc fun _ _ _ _ H vs Q E X h=>?_;obtain⟨x,j,rfl,L,S,ne,k⟩:=h;refine⟨_,(zD (Xr (pv 0) (NI N X.m<|zA qU zC) rfl)<|zF<|Xr (pv 0) xN rfl),?_⟩
 refine fun a O Y A g=>⟨a,O,.non,[],rfl,zB,by rw[zI g];exact zB,g,.inl ⟨rfl,rfl⟩,fun I t v r i=>⟨rfl,?_⟩⟩;obtain⟨C,J⟩:=qW Y A g v r;have B:zc []:=⟨i.good,fun e u=>(nomatch u),fun e u=>(nomatch u)⟩;have n:=C _ _ L;have s:x∉I:=fun z=>by have:=J x z;rw[L]at this;cases this
 refine⟨_,rfl,x,aD,j,_,rfl,n,T.Wg,T.m1,by decide,?_⟩;refine fun h nh=>⟨_,rfl,x,aD,j,[("shelf",V.ref a)],rfl,(zG nh) _ _ zB,T.Wg,T.m2,(show 1<1000 by decide),?_⟩;have l:h≠x:=fun z=>by rw[z,zB]at nh;cases nh
 have d:t h=none:=by rw[zI l]at nh;exact nh
 have q:Off [x] t (upd (upd (upd t x<|.ins aD j<|V7 "shelf" (V.ref a) []) h<|.dK []) x<|.ins aD j<|V7 "heads" (V.ref h) [("shelf",V.ref a)]):=fun c o y e=>by
  have D:c≠x:=fun z=>y (by rw[z];exact Q8.mpr rfl);rwa[zI D,zI<|zN e d,zI D]
 have Z:∀b∈[x],∀M,¬Rd t b (.tup M):=fun b hb M z=>by
  rw[Q8.mp hb]at z
  rcases z with z|⟨o,z⟩<;>(rw[n]at z;cases z)
 refine k a h I _ J (C.free d) (fun c o y e=>q c o y<|C _ _ e) ⟨⟨j,by rw[zB];rfl⟩,i.off Z q<|fun c R z=>s<|Q8.mp z▸R,by rw[zI l,zB];rfl,s,fun z=>(by obtain⟨o,G⟩:=i.ex h z;rw[d]at G;cases G),B,Yp,fun p U=>(nomatch U)⟩
end AV
namespace AW
abbrev st:Stmt:=inClass (top 64) 2
theorem sc:W7 ["self"] ["self"] (zE st):=Cf
theorem ok (F:Wt K "branches" "Annals.branches" st f fd)(T:Txt P w K mg t1 t2 t3 t4 t5 t6 aL aC aN aT aA b1 b2 b3 b4 b5 b6 b7 b8 aD):W0 P w K mg base Cd 1 f fd ["self"] (SX P w K aC aD):=by
 refine F.ok sc fun _ _ _ _ H Y Q E O h=>?_;obtain⟨b,a,h,U,S,j,rfl,B,hl,k⟩:=h;refine⟨_,(zF<|zK<|xR (sc:=zE st) (N:=["self"]) (N':=["label","self"]) (src:=[none,some 0]) .a rfl rfl rfl (kA<|zJ (kJ rfl) (by rfl) T.sorted Y4<|zA (yT (pv 0) rfl) zC) (fun _ _ _ _=>(zY (i:=0) (show(["label","self"]:Da).Nodup by decide +kernel) rfl (EY rfl))) (fun _ _ _ _=>qL) (fun _ _ _ _=>(yI<|zA (pv 0)<|zA (yH O.WN (NG (K:=K) (pv 1) rfl) (pv 0)<|fun _ _=>rfl) zC))),?_⟩;obtain⟨M,hb⟩:=B.ob;obtain⟨L,ek⟩:=FE j;refine⟨_,rfl,b,aD,M,_,_,rfl,hb,T.Wg,T.m2,rfl,h,hkv j,rfl,.inl B.hd,L,by rw[show(hkv j).length=j.length from Q5 ..];omega,fun l e nl perm z=>?_⟩;rw[ek]at perm;have r:=zG (o:=.lst<|e.map V.str) nl;have c:=zB (H:=H) (a:=l) (o:=.lst<|e.map V.str);have A:=B.same r;have sl:e.length<60:=by rwa[perm.length_eq,Q5]
 generalize upd H l (.lst<|e.map V.str)=J at r c A ⊢;refine⟨l,rfl,⟨_,WP.of c⟩,j6 (K:=K) (a:=l) (xs:=e.map V.str) (fun i n s g=>∃o,s=[o,some<|.ref b]/\W8 J g/\W6 K g ((e.take i).map<|Ck j) n) ⟨none,rfl,W8.refl _,rfl⟩ (W3 (by rw[Q5];omega)) ?_ ?_ ?_⟩
 ·rintro i n s g X ⟨o,rfl,d,dt⟩;refine⟨d.seq<|WP.of c,?_⟩;have:=dt.length;rw[Q5,Zz]at this;omega
 ·rintro i v n s g hv ⟨o,rfl,d,dt⟩;rw[Zo]at hv;obtain⟨x,G,rfl⟩:=Yg.mp hv;have C:=A.same d;obtain⟨t,u⟩:=C.ob;obtain⟨R,D⟩:=ZU.mp<|yd.mpr<|perm.mem_iff.mp<|Zu G;refine xD ⟨_,rfl,_,rfl,b,aD,t,_,_,rfl,u,T.Wg,T.m2,rfl,_,rfl,h,_,rfl,.inl ⟨_,.inr x,.inl C.hd,rfl,by rw[qQ,D];rfl⟩,VR 2,fun p I=>⟨_,rfl,d.trans<|zG I,?_⟩⟩;rw[Z4,G,Zr];refine W6.append (W6.same (zG I) _ _ dt) ⟨_,[],rfl,⟨p,_,rfl,Wu.of zB,_,_,rfl,rfl,_,_,rfl,?_,rfl⟩,rfl⟩;rw[D];exact BB R
 ·rintro n s g ⟨o,rfl,d,dt⟩ q y;rw[Q5,ZI]at dt;exact k q e n _ (r.trans<|d.trans<|zG y) ((r.trans d).free y) zB perm z<|W6.same (zG y) _ _ dt
end AW
end
end An22
namespace L2
open PySem PySem.Spec PyProof.Rows
theorem Iq:entryFor table "proto.unchain"=some Builtin.«proto.unchain»:=entryFor_of_tree (by kernel_rfl)
section
variable {prog:Ek}{w:Ep}{A:ED}{E:Ej->Di}{s:Eo}
theorem FY {l:Type}{e x:Ei}{f g:Obj}{i j:Array Ej}{Q:l->Di}(o:A.handled=some (.ref x))(ne:x≠e)(d:s.heap.get? e=some f)(b:f.data=.fields i)(hz:2<i.size)(p:s.heap.get? x=some g)(c:g.data=.fields j)(n:j[2]?=some .none)
  (h:E (.ref e) { s with heap:=s.heap.update e (E2 (·.setIfInBounds 2 (.ref x))) }):Em (Et prog w) A (raiseNew (.ref e):Sem l) Q E s:=by
 unfold raiseNew;refine Q4<|Vx ?_;rw[o];have hb:(Ev x !=Ev e)=true:=by simp[ne]
 simp only[hb,if_true];refine Q4<|ZV<|Vl<|Yu Iq ?_;show Em _ _ (field (.ref x) 2>>=_) _ _ s;refine Q4<|Yt p c n ?_;simp only[show(EA==EA)=true from rfl,if_true];refine Q4<|Q7<|Q7 ?_;refine Q4 ?_;unfold updateField;refine Q4<|VD d ?_;rw[b];simp only[Zp hz];refine wpAny_update d ?_;exact VN h
theorem CP {it l x:Ei}{i:Nat}{r:Array Ej}{q:Obj}{t:Array Ej}{Q:Dc->Di}(B:A.handled=some (.ref x))(C:s.heap.get? x=some q)(f:q.data=.fields t)(z:t[2]?=some .none)(p:it≠x)
  (c:s.heap.IsListIter it l i) (hl:s.heap.IsList l r) (g:r[i]?=none) (y:∀h',Mf it s.heap h'->Q none { s with heap:=h' }):Em (Et prog w) A (Lu<|.ref it) Q E s:=by
 obtain⟨o,j,_,hd⟩:=id c;obtain⟨D,n,_,nl,d⟩:=id hl;unfold Lu;refine Q4<|YM<|Z1 (name:=EN "__next__") c.typeIs slot_listiter_next<|ZO slot_listiter_next c.typeIs entry_listiter_next ?_<|args_listiter_next _;show Em _ _ (field (.ref it) 0>>=_) _ _ _;refine Q4<|Yt j hd (x:=.ref l) rfl ?_;show Em _ _ (if(Ev l==EA)=true then _ else _) _ _ _;rw[Zm<|show¬(Ev l==EA)=true from Zs];show Em _ _ (field (.ref it) 1>>=_) _ _ _;refine Q4<|Yt j hd (x:=.int i 0) rfl ?_;show Em _ _ (seqItems? (.ref l)>>=_) _ _ _;refine Q4<|JR n d ?_;simp only[JO,g];refine Q4 (Jq<|Q4<|Yb j hd (by simp) ?_);show Em _ _ (newExc (.type "StopIteration") []>>=_) _ _ _;refine Q4 ?_;simp only[newExc,newTuple];refine Q4 (Zx ?_<|by size_fits);refine Q4 (m:=La _ _) (YC (a:=EA) (by first|rfl|(simp only[La];rfl)) ?_);refine Zx ?_ (by size_fits);have kx:∀b ob,b≠it->s.heap.get? b=some ob->((s.heap.update it (E2 (·.setIfInBounds 0 EA))).push { cls:=Value.type "tuple",data:=Data.seq #[] }).get? b=some ob:=fun b ob nb e=>Q6 _ (by rwa[ZT _ _<|EE nb]);have u:=kx x q (EE p) C;refine FY (x:=x) B (Zl<|Zd u) (Zb _ rfl) rfl (by simp;omega) (Q6 _ u) f z ?_;refine Q4<|Yx (T:="StopIteration") (b:=true) ⟨_,ZM _ (Zb _ rfl)<|Lm<|Le rfl _,LY _ _⟩ JV ?_;refine Q7<|y _ fun b ob nb e=>?_;have v:=kx b ob nb e;rw[ZT _ _<|Je<|Zd v];exact Q6 _ v
end
structure wM (P:Ek)(w:Ep)(K:Ca)(mg:Str->Dc)(base:EC)(k:Nat)(f:Ei)(fd:Es)(ps:Da)(sp:Ei->Sp):Prop where
 len:∀x vs H Q E,sp x vs H Q E->vs.length=ps.length
 run:∀(x:Ei) (A:ED) (outer:List Env) (s:Eo) (H:Hp) (args:Args) (us:Db) (vs:Dk) (Q:VK) (E:XK),Tr k A->A.handled=some (.ref x)->yw P w K mg base A outer s H->BindsTo s fd args (ps.zip us)->W2 vs us->sp x vs H Q E ->
  Ls (Et P w) A (.call (.ref f) args) (CR Cd outer P w H s Q E) s
section
variable {P:Ek}{w:Ep}{K:Ca}{mg:Str->Dc}{base:EC}
theorem Wt.tX {st:ER}{k:Nat}(F:Wt K x qual st f fd)(S:W7 N ps<|zE st){A:ED}{outer:List Env}{s:Eo}{H:Hp}{args:Args}{us:Db}{vs:Dk}{Q:VK}{E:XK}
  (D:Tr (k+1) A) (i:yw P w K mg base A outer s H) (hb:BindsTo s fd args<|ps.zip us) (r:W2 vs us) (hl:vs.length=ps.length)
  (L:∀(cdv:Ej),Tr k (A.deeper<|Mc qual (zE st) s.heap.objs.size f cdv)->∃t,R8 (Pw P w K mg base N qual (zE st) f cdv A outer s H E) (yX st) t/\t { nx:=fun _ H'=>Q .non H',rt:=Q } (start N vs) H) :
  Ls (Et P w) A (.call (.ref f) args) (CR Cd outer P w H s Q E) s:=by
 obtain⟨oc,od,kV,M,pm,an,cdv,ct,Z,rfl,Y,l⟩:=F.ex;have C:K.In s.heap:=i.mod.vq.keeps fun b o e=>(i.bs b o e).1;have p:s.heap.NoLimit:=i.mod.nolimit.keeps fun b o e=>(i.bs b o e).1;have d:∀y∈ps.zip us,(zE st).names.lookup y.1=some .local\/((zE st).names.lookup y.1=some .cell/\((cellsFrom (s.heap.objs.size+1) (zE st).names []).lookup y.1).isSome=true):=fun⟨n,v⟩ X=>by
  rcases S.par n (Ji X).1 with q|q
  ·exact .inl q
  ·exact .inr ⟨q,JN _ _ _<|.inl q⟩
 refine codeAny_call_function (by have:=D.dp;omega) (C _ _ Y) rfl S.co S.gen rfl (PySem.W.codeRec_of C l)<|hb _ _ _ _ ?_;refine wpAny_newFunctionEnv_cells S.kind d fun env R G x=>?_;subst R;refine⟨p.keeps x.toInCall.keep,codeAny_func ?_⟩;obtain⟨t,U,T⟩:=L cdv<|D.deeper _;have I:Inv (Pw P w K mg base N qual (zE st) f cdv A outer s H E) [] (start N vs) H G:=CH S i hl r x;refine Z3 (U [] G (start N vs) H _ I T) (fun O B g=>?_) fun e B g=>EH g;have j:∀{c:St} {H':Hp} {v:V} {u:Ej},Inv (Pw P w K mg base N qual (zE st) f cdv A outer s H E) [] c H' B->WX v u->Q v H'->CE outer P w H s Q u B :=
  fun{c H' v u} J z q=>⟨v,H',J.os,J.bare,J.base,J.hok,z,q⟩
 cases O with
 |ret u =>
  obtain⟨v,c,H',J,z,q⟩:=g;exact j J z q
 |next =>
  obtain⟨c,H',J,q⟩:=g;exact j (v:=V.non) (u:=EA) J rfl q
 |brk =>
  obtain⟨_,_,_,q⟩:=g;exact EH q
 |cont =>
  obtain⟨_,_,_,q⟩:=g;exact EH q
theorem Wt.okE {st:ER}{k:Nat}{sp:Ei->Sp}(F:Wt K x qual st f fd)(S:W7 N ps<|zE st)(len:∀z vs H Q E,sp z vs H Q E->vs.length=ps.length)
  (e:∀(z:Ei) (cdv:Ej) (A:ED) (outer:List Env) (s:Eo) (H:Hp) (vs:Dk) (Q:VK) (E:XK),Tr k (A.deeper<|Mc qual (zE st) s.heap.objs.size f cdv)->A.handled=some (.ref z)->sp z vs H Q E -> ∃t,R8 (Pw P w K mg base N qual (zE st) f cdv A outer s H E) (yX st) t/\t { nx:=fun _ H'=>Q .non H',rt:=Q } (start N vs) H):wM P w K mg base (k+1) f fd ps sp :=
 ⟨len,fun z A outer s H d l vs Q E j i g hb r b=>F.tX S j g hb r (len _ _ _ _ _ b) fun cdv c=>e z cdv A outer s H vs Q E c i b⟩
end
structure vO (P:Ek)(w:Ep)(K:Ca)(mg:Str->Dc)(base:EC)(k:Nat)(x:Str)(ps:Da)(sp:Ei->Sp):Prop where
 ex:∃(f:Ei) (fd:Es),wM P w K mg base k f fd ps sp/\mg x=some (.ref f)/\ES K (.ref f)=true/\Wr K fd ps []
theorem vO.mk' {K:Ca}{st:ER}(F:Wt K x qual st f fd)(G:wM P w K mg base k f fd ps sp)(hm:mg x=some (.ref f))
  (b:Wr K fd ps []):vO P w K mg base k x ps sp:=⟨f,fd,G,hm,F.kp,b⟩
section
variable {X:Cx}
theorem K9 {e:EK}{es:List EK}{p pos:Pos}{z:Ei}(C:vO X.prog X.w X.K X.mg X.base k x ps sp)(G:Tr k X.A)(E:X.A.handled=some (.ref z))(ha:PA X (e::es) t)(D:Gl X x:=by rfl)
  (g:(x==("__debug__":Str))=false:=by decide) (B:EB (e::es) X.env=(false,EZ e X.env)::EB es X.env:=by rfl) (i:(Ld pos<|EB es X.env).any (·.1)=false:=by rfl) :
  PE X (.Call (.Name x p) (e::es) [] pos) (MW (sp z) [] E0 t):=by
 obtain⟨f,L,F,hm,hk,hb⟩:=C.ex;intro l s y H Q I h;refine Ye<|qO I D hm ?_ g;refine YS (h₀:=X.base) I.ok.mod.vq hk (Cb (ha pos l s y H _ I h) fun d j ⟨v,n,b,r,q⟩=>⟨b.Tn,?_⟩) B i;have o:W2 (v++[]) (d++[]):=r.append .nil;have hl:(d++[]).length=ps.length:=by rw[←o.length];exact F.len _ _ _ _ _ q
 refine JI<|Yy (F.run z X.A X.stack j n ⟨d,[]⟩ (d++[]) (v++[]) Q E0 G E b.env0 (hb j d b.Tn hl) o q) fun r J c=>?_;cases r with
 |error e=>exact IW l y n j e J b c
 |ok fl =>
  cases fl with
  |ret u=>exact b.after c
  |next=>exact EH c
  |brk=>exact EH c
  |cont=>exact EH c
end
structure vy (P:Ek)(w:Ep)(K:Ca)(A:ED)(tg:EK)(J:It)(fp:De)(it:Ei)(tn:Nat->EC->Prop):Prop where
 mem:it∈fp
 obj:∀i h,tn i h->∀b∈fp,∃o,h.get? b=some o/\∀v,o.data≠.cell v
 keep:∀i h h',tn i h->(∀b∈fp,∀o,h.get? b=some o->h'.get? b=some o)->tn i h'
 item:∀(X:Cx),X.prog=P->X.w=w->X.K=K->X.A=A->∀(i:Nat) (Do:Df) (s:Eo) (σ:St) (H:Hp) (E:Ej->Di),Inv X Do σ H s->(∀b∈fp,Uj X Do H b)->tn i s.heap->J.go i H ->
  Em (Et P w) A (Lu<|.ref it) (fun r s1=>∃u,r=some u /\ Em (Et P w) A (LF tg (.ref it) u) (fun _ s2=>∃x H',Inv X Do σ H' s2/\WX x u/\J.wI i H x H'/\tn (i+1) s2.heap/\∀b∈fp,H' b=none) E s1) E s
 done:∀(X:Cx),X.prog=P->X.w=w->X.K=K->X.A=A->∀(i:Nat) (Do:Df) (s:Eo) (σ:St) (H:Hp) (E:Ej->Di),Inv X Do σ H s->(∀b∈fp,Uj X Do H b)->tn i s.heap->J.stop i H ->
  Em (Et P w) A (Lu<|.ref it) (fun r s1=>r=none/\Inv X Do σ H s1) E s
 self:∀(A:ED) (i:Nat) (s:Eo) (Q:Ej->Di) (E:Ej->Di),tn i s.heap->Q (.ref it) s->Em (Et P w) A (Mq<|.ref it) Q E s
def M7 (K:Ca)(a z:Ei):It :=
 ⟨(M6 K a).go,(M6 K a).wI,fun i H=>(∃b,WP K H a b/\b.length<=i)/\∃cls,H z=some (V9 z cls)⟩
theorem Fj {K:Ca}{A:ED}{z:Ei}(hh:A.handled=some (.ref z))(a it:Ei):vy P w K A tg (M7 K a z) [it] it (fun i h=>h.IsListIter it a i) where
 mem:=by simp
 obj:=fun i h st b hb=>by
  have e:b=it:=by simpa using hb
  subst e;obtain⟨o,e,c,d⟩:=st;exact⟨o,e,fun v z=>by rw[d]at z;cases z⟩
 keep:=fun i h l st k=>st.at fun o e=>k it (by simp) o e
 item:=by
  intro X G L F D i T s U H E I n st J;subst G L F D;obtain⟨xs,x,r,M⟩:=J;obtain⟨R,S,p,hz⟩:=I.list r;obtain⟨u,hu,ru⟩:=S.get M;obtain⟨f,t,f2,y,B,C⟩:=n it (by simp);refine wpAny_pyNext_list_item st p.isList (x:=u) (by simpa using hu) fun l j sb=>?_;have Y:Inv X T U H { s with heap:=l }:=I.turned (t':=s.toks) (fun b o hb e=>(sb.2 b hb).trans e) f t y B C;obtain⟨o,e,c,d⟩:=id j;exact⟨u,rfl,G2 (s:={ s with heap:=l }) e c d (by decide) ⟨x,H,Y,ru,⟨rfl,fun ys hy=>by rw[I.wL hy r];exact M⟩,j,fun b hb=>(n b hb).1⟩⟩
 done:=by
  intro X G L F D i T s U H E I n st J;subst G L F D;obtain⟨⟨xs,r,M⟩,cls,g⟩:=J;obtain⟨R,S,p,hz⟩:=I.list r;obtain⟨f,t,f2,y,B,C⟩:=n it (by simp);have hl:=S.length;obtain⟨⟨ox,vx,N,aa,O,Q⟩,_⟩:=I.hok z _ g;exact CP hh N O Q (fun q=>by rw[q,g]at f;cases f) st p.isList (by simp;omega) fun l Z=>⟨rfl,I.turned (t':=s.toks) (fun b o hb e=>Z b o hb e) f t y B C⟩
 self:=fun _ _ _ _ _ st h=>wpAny_pyIter_listiter st h
def O3 (K:Ca)(z:Ei)(src:List<|Option Nat)(f:TE)(g:TG)(e:TT)(d:TE):TE:=fun c H Q=>f c H fun v b=>∃a,v=.ref a/\(∃i,WP K b a i)/\Ue src (M7 K a z) g e d Q c b
section
variable {X:Cx}{tg elt iter:EK}{ifs:List EK}{scope sc:LI}{N N':Da}{src:List (Option Nat)}{g:TG}{tf:TT}{te:TE}{wi:TI}{pos:Pos}
theorem B9 {Do:Df}{σ:St}{H:Hp}{s:Eo}{fp:De}{it:Ei}{tn:Nat->EC->Prop}{J:It}{E:Ej->Di}{RR:Ej->Ei->Result->Di}{Fin:Dk->Hp->Prop}(O:Wa sc N N' src scope)(au:X.env.scope=sc)(hN:X.N=N)
  (hg:∀C s H fp,PG (X.comp N' scope C s H fp) tg g) (as:∀C s H fp,vN (X.comp N' scope C s H fp) ifs tf) (he:∀C s H fp,PE (X.comp N' scope C s H fp) elt te)
  (I:Inv X Do σ H s) (T:vy X.prog X.w X.K X.A tg J fp it tn) (t0:tn 0 s.heap) (hf:∀b∈fp,Uj X Do H b)
  (W:Nat->Nat->Dk->St->Hp->Prop) (m0:Nat) (w0:W 0 m0 [] (VW src σ) H)
  (hW:∀i m ys σ' H',W i m ys σ' H'->ys.length<=sizeLine/\((J.stop i H'/\Fin ys H') \/ (J.go i H'/\∃Nx:Dk->St->Hp->Prop,(∀ys2 σ2 H2,Nx ys2 σ2 H2->∃m',m'<m/\W (i+1) m' ys2 σ2 H2) /\ ∀x H2,J.wI i H' x H2->g x σ' H2 fun σ2 H3=>tf σ2 H3 fun b H4=>if b=true then te σ2 H4 fun y H5=>Nx (ys++[y]) σ2 H5 else Nx ys σ2 H4)))
  (ar:∀(D C:Ei) (s':Eo) (σ':St) (H':Hp) (ys:Dk) (its:Db) (n:Nat),s.heap.objs.size<=D->s.heap.objs.size<=C->Inv (X.comp N' scope C s H fp) [] σ' H' s'->s'.heap.get? D=some { cls:=.type "list",data:=.seq its.toArray n }->W2 ys its->ys.length<=sizeLine -> H' D=none->D≠C->Fin ys H'->RR (.ref D) C (.ok .next) s') :
  Em (Et X.prog X.w) X.A (newList []) (fun acc s₃=>Em (Et X.prog X.w) X.A (newFunctionEnv scope X.env.globals (xI X.env scope) [] X.env.qual none .none<|some X.env) (fun cenv s₄ => Ls (Et X.prog X.w) X.A (.compStart (.ListComp elt [⟨tg,iter,ifs,0⟩] scope pos) 0 (.ref it) acc { cenv with scope:=relabel scope X.env }) (RR acc cenv.locals) s₄) E s₃) E s:=by
 refine Zx (wpAny_newFunctionEnv O.zj (by intro y hy;cases hy) (fun F j f=>?_) O.kind);dsimp only at j f ⊢;generalize aa:s.heap.push { cls:=.type "list",dict:=none,data:=.seq ([]:Db).toArray }=P2 at j f ⊢;have Z:P2.objs.size=s.heap.objs.size+1:=by rw[←aa,Z8]
 have L:s.heap.objs.size≠P2.objs.size:=by rw[Z];exact Zl<|YN _
 have ax:s.heap.objs.size<=P2.objs.size:=by rw[Z];exact Ym _
 have below:∀b,b<s.heap.objs.size->b≠P2.objs.size/\b≠s.heap.objs.size:=fun b hb=>⟨by rw[Z];exact Zl<|Yk hb,Zl hb⟩;have old:∀b o,s.heap.get? b=some o->F.get? b=some o:=fun b o e=>f.extBut b o (below b<|Zd e).1<|Q6 _<|aa▸Q6 _ e;have DP:F.get? s.heap.objs.size=some { cls:=.type "list",data:=.seq ([]:Db).toArray 0 }:=f.extBut _ _ L<|Q6 _<|aa▸Zb _ rfl;have ae:∀b∈fp,∃o,s.heap.get? b=some o:=fun b hb=>let ⟨o,e,_⟩:=T.obj 0 _ t0 b hb;⟨o,e⟩;have G:∀b∈fp,b<s.heap.objs.size:=fun b hb=>let ⟨o,e⟩:=ae b hb;Zd e;generalize hD:s.heap.objs.size=D at *;generalize hC:P2.objs.size=C at *;have aj:∀tk,Inv (X.comp N' scope C s H fp) [] (VW src σ) H { s with heap:=F,toks:=tk }:=fun tk=>G0 O au hN I hf ae (by rwa[hD]) old j;have Sg:(X.comp N' scope C s H fp).Ok:=(aj 0).ok;have M:∀{H':Hp} {pl:Df},(∀b∈fp,H' b=none)->(∀p∈pl,p.1∉fp)->∀b∈fp,Uj (X.comp N' scope C s H fp) pl H' b:=fun{H' pl} hn l b hb =>
  ⟨hn b hb,(Sg.vp b hb).1,Sg.yt b hb,.inl hb,(Sg.vp b hb).2,fun p hm=>by
   have hm:p∈pl:=by simpa[Cx.comp] using hm
   exact fun z=>l p hm<|z▸hb⟩
 have ad:D∉(X.comp N' scope C s H fp).fs:=fun hb=>by
  obtain⟨_,o,ho,_⟩:=Sg.Tz.mem hb;have ho:s.heap.get? D=some o:=ho;have h1:=Zd ho;rw[hD]at h1;exact ZQ _ h1
 have S:∀x c,(X.comp N' scope C s H fp).env.cells.lookup x=some c->c≠D:=fun x c e z=>by
  obtain⟨v,o,ho,_⟩:=I.cell x c<|qN e;have h1:=Zd ho;rw[hD,z]at h1;exact ZQ _ h1
 have loop:∀tk,Ls (Et X.prog X.w) X.A (.compLoop (.ListComp elt [⟨tg,iter,ifs,0⟩] scope pos) 0 (.ref it) (.ref D)<|L6 scope (xI X.env scope) C X.env) (RR (.ref D) C) { s with heap:=F,toks:=tk }:=by
  intro tk;refine Cq (fun n s'=>∃i ys σ' H' its c,Inv (X.comp N' scope C s H fp) [] σ' H' s'/\tn i s'.heap/\(∀b∈fp,H' b=none)/\s'.heap.get? D=some { cls:=.type "list",data:=.seq (its:Db).toArray c }/\W2 ys its/\H' D=none/\W i n ys σ' H') ?_ m0
   ⟨0,[],VW src σ,H,[],0,aj tk,T.keep 0 _ _ t0 fun b _ o e=>old b o e,fun b hb=>(hf b hb).1,DP,.nil,I.hok.fresh (by rw[hD];exact Q9 _),w0⟩
  rintro n s3 ⟨i,ys,t,H3,its,B,I3,al,af,d3,v3,ah,w3⟩;obtain⟨Dp,ap⟩:=hW i n ys t H3 w3
  rcases ap with⟨stop,fin⟩|⟨go,Nx,hNx,step⟩
  ·have U:Inv (X.comp N' scope C s H fp) [(D,{ cls:=.type "list",data:=.seq its.toArray B })] t H3 s3:=I3.Wk fun p l=>by
    have e:p=(D,{ cls:=.type "list",data:=.seq its.toArray B }):=by simpa using l
    subst e;exact⟨d3,ah,L,ad,fun v z=>by cases z⟩
   refine Cb (T.done (X.comp N' scope C s H fp) rfl rfl rfl rfl i _ s3 t H3 _ U (M af fun p l z=>by
    have e:p=(D,{ cls:=.type "list",data:=.seq its.toArray B }):=by simpa using l
    rw[e]at z;exact ZQ _<|G D z) al stop) fun r s4 ⟨hr,I4⟩=>?_
   subst hr;obtain⟨d4,av,_⟩:=I4.pin (D,{ cls:=.type "list",data:=.seq its.toArray B }) (by simp[Cx.comp]);exact ar D C s4 t H3 ys its B (by omega) (by omega) (I4.Wk fun p l=>(by cases l)) d4 v3 Dp av L fin
  ·have U:Inv (X.comp N' scope C s H fp) [(D,{ cls:=.type "list",data:=.seq its.toArray B })] t H3 s3:=I3.Wk fun p l=>by
    have e:p=(D,{ cls:=.type "list",data:=.seq its.toArray B }):=by simpa using l
    subst e;exact⟨d3,ah,L,ad,fun v z=>by cases z⟩
   have ag:∀p∈[((D,{ cls:=.type "list",data:=.seq its.toArray B }):Ei×Obj)],p.1∉fp:=fun p l z=>by
    have e:p=(D,{ cls:=.type "list",data:=.seq its.toArray B }):=by simpa using l
    rw[e]at z;exact ZQ _<|G D z
   refine Cb (T.item (X.comp N' scope C s H fp) rfl rfl rfl rfl i _ s3 t H3 _ U (M af ag) al go) fun r s4 ⟨u,hr,h4⟩=>?_;subst hr;refine Cb h4 fun _ s5 hh=>?_;obtain⟨x,H5,I5,r5,y5,ac,aq⟩:=hh;have an:=I5.pinned (M aq ag)<|T.obj _ _ ac;have R:(D,({ cls:=.type "list",data:=.seq its.toArray B }:Obj))∈(X.comp N' scope C s H fp).pn++([((D,{ cls:=.type "list",data:=.seq its.toArray B }):Ei×Obj)]++kK fp s5.heap):=by simp[Cx.comp]
   have Q:∀{am:St} {P:Hp} {s7:Eo},Inv (X.comp N' scope C s H fp) ([((D,{ cls:=.type "list",data:=.seq its.toArray B }):Ei×Obj)]++kK fp s5.heap) am P s7 ->
     tn (i+1) s7.heap/\∀b∈fp,P b=none:=fun{am P s7} Y=>⟨T.keep _ _ _ ac fun b hb o e=>(Y.pin (b,o)<|Zy _<|Zy _<|xP hb e).1,fun b hb=>by
    obtain⟨o,e,d⟩:=T.obj _ _ ac b hb;exact(Y.pin (b,o)<|Zy _<|Zy _<|xP hb e).2.1⟩
   refine Cb (hg C s H fp _ s5 t H5 x u _ an r5<|step x H5 y5) fun _ s6 ⟨q,H6,I6,q6⟩=>?_;refine Cb (as C s H fp _ s6 q H6 _ I6 q6) fun b s7 ⟨P,Y,q7⟩=>?_;cases b with
   |false =>
    obtain⟨m',ab,w7⟩:=hNx ys q P (by simpa using q7);obtain⟨b1,b2⟩:=Q Y;obtain⟨d7,aw,_⟩:=Y.pin _ R;exact⟨m',ab,i+1,ys,q,P,its,B,Y.Wk fun p l=>(by cases l),b1,b2,d7,v3,aw,w7⟩
   |true =>
    have q7:te q P fun y H5=>Nx (ys++[y]) q H5:=by simpa using q7
    rw[Zp rfl];refine Cb (he C s H fp _ s7 q P _ Y q7) fun u8 s8 ⟨y,H8,I8,r8,n8⟩=>?_;obtain⟨m',ab,w8⟩:=hNx _ _ _ n8;obtain⟨b1,b2⟩:=Q I8;obtain⟨d8,ai,_⟩:=I8.pin _ R;have hl:=v3.length;refine wpAny_list_append_plain (items:=its.toArray) ⟨B,d8⟩ (fun h9 ⟨c9,d9⟩ ak=>?_) (by rwa[Zn,←hl]);have ao:Inv (X.comp N' scope C s H fp) [] q H8 s8:=I8.Wk fun p l=>by cases l
    have I9:Inv (X.comp N' scope C s H fp) [] q H8 { s8 with heap:=h9 }:=ao.turned (t':=s8.toks) (it:=D) (fun b o hb e=>(ak.2 b hb).trans e) ai L (.inr (by show s.heap.objs.size<=D;omega)) S (fun p l=>by
     have l:p∈([]:Df):=by simpa[Cx.comp] using l
     cases l)
    refine⟨m',ab,i+1,ys++[y],q,H8,its++[u8],c9,I9,T.keep _ _ _ b1 fun b hb o e=>(ak.2 b<|fun z=>ZQ _<|z▸G b hb).trans e,b2,?_,v3.append<|.cons r8 .nil,ai,w8⟩;show h9.get? D=_;rw[d9];simp
 exact codeAny_compStart_list (loop _)<|T.self _ 0 _ _ _ (T.keep 0 _ _ t0 fun b _ o e=>old b o e)<|loop _
theorem Mz {k:Nat}{y:Str}{q j:Pos}(O:Wa sc N N' src scope)(B:X.env.scope=sc)(hN:X.N=N){z:Ei}{tl:TE}(hh:X.A.handled=some (.ref z))(hl:PE X iter tl)
  (hg:∀C s H fp,PG (X.comp N' scope C s H fp) tg g) (S:∀C s H fp,vN (X.comp N' scope C s H fp) ifs tf) (he:∀C s H fp,PE (X.comp N' scope C s H fp) elt te)
  (nd:X.N.Nodup) (hk:X.N[k]?=some y) (Z:Loc X.env.scope y)
  (Y:Mb (.ListComp elt [⟨tg,iter,ifs,0⟩] scope pos) (some<|.Name y q) j.line X.env=Ln true:=by rfl)
  (hf:X.fn y=true\/X.env.scope.names.lookup y=some .local:=by first|exact .inl rfl|exact .inr rfl|assumption)
  (hs:∀x,LZ iter X.env x=Ln x:=by intro _;rfl):PS X (.Assign [.Name y q] (.ListComp elt [⟨tg,iter,ifs,0⟩] scope pos) j) (MV (O3 X.K z src tl g tf te)<|Uv k):=by
 intro t s σ H c I h;rw[exec_Assign_Name_used _ _ _ _ Y];refine Q4<|Vu<|Q4 ?_;show Em _ X.A (do let _ ←comprehension (.ListComp elt [⟨tg,iter,ifs,0⟩] scope pos) scope X.env _ (newList []) false (EZ iter X.env) (some<|Mn (.Name y q) X.env)) _ _ s;have l:closureFor scope X.env=Ln (xI X.env scope):=x8 fun x Z hk=>I.ok.has x.1 (by
  have:=O.free x Z hk;rw[←B]at this;exact this)
 refine Q4<|Z3 (JC (use:=some<|Mn (.Name y q) X.env) (Q:=fun _ r=>SP X t c .next r) rfl hs l O.kind O.names<|Cb (hl t s σ H _ I h) fun v f h1=>?_) (fun _ r hq=>Q7<|Q7 hq) fun _ _ e=>e
 obtain⟨y0,H2,G,r1,a,e0,⟨ag,U⟩,W,⟨m0,w0⟩,E⟩:=h1;subst e0;cases r1;obtain⟨ac,af,aa,ad⟩:=G.list U;refine Jm aa.isList ?_;have u:Inv X t σ H2 { f with heap:=f.heap.push { cls:=.type "list_iterator",data:=.fields #[.ref a,.int 0 0] } }:=G.kept (t':=f.toks) fun b o e=>Q6 _ e;have T:vy X.prog X.w X.K X.A tg (M7 X.K a z) [f.heap.objs.size] f.heap.objs.size (fun i h=>h.IsListIter f.heap.objs.size a i):=Fj hh a _;have ab:(f.heap.push { cls:=.type "list_iterator",data:=.fields #[.ref a,.int 0 0] }).IsListIter f.heap.objs.size a 0:=⟨_,Zb _ rfl,rfl,rfl⟩;have f2:∀b∈[f.heap.objs.size],Uj X t H2 b:=fun b hb=>by
  rw[Q8.mp hb];exact G.yq (Q9 _)<|G.hok.fresh<|Q9 _
 refine B9 (RR:=fun L C=>compPost (Et X.prog X.w) X.A X.xe (some<|Mn (.Name y q) X.env) (fun _ r=>SP X t c .next r) L C) (Fin:=fun ys F=>∀p,F p=none->Uv k (.ref p) σ (upd F p<|.lst ys) c.nx) O B hN hg S he u T ab f2 W m0 w0 E ?_;intro D C r ah F ys ae n hD P J d vv hl nD R M;have I3:=comp_back u f2 J hD d vv hl nD;obtain⟨m,hm,_⟩:=J.loc;have nC:F C=none:=J.free;show Em _ X.A (Mn (.Name y q) X.env<|.ref D) _ _ r;refine Vm<|UO I3 nd hk Z (v:=.ref D) rfl (fun s4 I4 ⟨a,sa,ha⟩=>?_) hf;have aC:C≠a:=by
  rcases ha with e|e
  ·rw[e];intro z;exact ZQ _<|Zq u.lt<|z▸P
  ·intro z;obtain⟨v,o,ho,_⟩:=u.cell y a e;exact ZQ _<|Zq (Zd ho)<|z▸P
 refine⟨m,Heap.Ns.sameBut hm sa aC,fun h' sb=>⟨_,_,UP u I4 P (by rwa[zI<|EE R]) sb,M D nD⟩⟩
end
section
variable {K:Ca}{src:List (Option Nat)}{g:TG}{tf:TT}{te:TE}{Q:VK}{a z:Ei}{xs:Dk}{σ:St}{H:Hp}
theorem Cy (c:Nat->Dk->St->Hp->Prop)(f:c 0 [] (VW src σ) H)(hz:xs.length<=sizeLine)(hl:∀i ys σ H,i<=xs.length->c i ys σ H->WP K H a xs/\(∃cls,H z=some (V9 z cls))/\ys.length<=i)
  (hs:∀i x ys σ H,xs[i]?=some x->c i ys σ H->g x σ H fun σ2 H3=>tf σ2 H3 fun b H4=>if b=true then te σ2 H4 fun y H5=>c (i+1) (ys++[y]) σ2 H5 else c (i+1) ys σ2 H4)
  (hd:∀ys σ H,c xs.length ys σ H->∀p,H p=none->Q (.ref p) (upd H p<|.lst ys)):Ue src (M7 K a z) g tf te Q σ H :=
 Uy xs.length c f hz (fun i ys σ H d p=>(hl i ys σ H d p).2.2) (fun ys σ H p=>⟨⟨xs,(hl _ ys σ H (Q9 _) p).1,Q9 _⟩,(hl _ ys σ H (Q9 _) p).2.1⟩) (fun i ys σ H d p=>⟨xs,xs[i],(hl i ys σ H (Yd d) p).1,by simp[d]⟩)
  (fun i ys σ H d p x j y=>by
   obtain⟨e,y⟩:=y;subst e;exact hs i x ys σ _ (y xs (hl i ys σ _ (Yd d) p).1) p) hd
end
section
variable {prog:Ek}{w:Ep}{A:ED}{E:Ej->Di}{s:Eo}
theorem Kb {it l x:Ei}{i:Nat}{r:Array Ej}{q:Obj}{t:Array Ej}{Q:Dc->Di}(B:A.handled=some (.ref x))(C:s.heap.get? x=some q)(f:q.data=.fields t)(z:t[2]?=some .none)(p:it≠x)
  (c:IsTupIter s.heap it l i) (hl:IsTup s.heap l r) (g:r[i]?=none) (y:∀h',Mf it s.heap h'->Q none { s with heap:=h' }):Em (Et prog w) A (Lu<|.ref it) Q E s:=by
 obtain⟨o,j,_,hd⟩:=id c;obtain⟨D,n,_,nl,d⟩:=id hl;unfold Lu;refine Q4<|YM<|Z1 (name:=EN "__next__") c.typeIs slot_tupleiter_next<|ZO slot_tupleiter_next c.typeIs entry_tupleiter_next ?_<|args_tupleiter_next _;show Em _ _ (field (.ref it) 0>>=_) _ _ _;refine Q4<|Yt j hd (x:=.ref l) rfl ?_;show Em _ _ (if(Ev l==EA)=true then _ else _) _ _ _;rw[Zm<|show¬(Ev l==EA)=true from Zs];show Em _ _ (field (.ref it) 1>>=_) _ _ _;refine Q4<|Yt j hd (x:=.int i 0) rfl ?_;show Em _ _ (seqItems? (.ref l)>>=_) _ _ _;refine Q4<|JR n d ?_;simp only[JO,g];refine Q4 (Jq<|Q4<|Yb j hd (by simp) ?_);show Em _ _ (newExc (.type "StopIteration") []>>=_) _ _ _;refine Q4 ?_;simp only[newExc,newTuple];refine Q4 (Zx ?_<|by size_fits);refine Q4 (m:=La _ _) (YC (a:=EA) (by first|rfl|(simp only[La];rfl)) ?_);refine Zx ?_ (by size_fits);have kx:∀b ob,b≠it->s.heap.get? b=some ob->((s.heap.update it (E2 (·.setIfInBounds 0 EA))).push { cls:=Value.type "tuple",data:=Data.seq #[] }).get? b=some ob:=fun b ob nb e=>Q6 _ (by rwa[ZT _ _<|EE nb]);have u:=kx x q (EE p) C;refine FY (x:=x) B (Zl<|Zd u) (Zb _ rfl) rfl (by simp;omega) (Q6 _ u) f z ?_;refine Q4<|Yx (T:="StopIteration") (b:=true) ⟨_,ZM _ (Zb _ rfl)<|Lm<|Le rfl _,LY _ _⟩ JV ?_;refine Q7<|y _ fun b ob nb e=>?_;have v:=kx b ob nb e;rw[ZT _ _<|Je<|Zd v];exact Q6 _ v
theorem BE {env:Env}{y:List EK} {x1}{pos:Pos}{t x:Ei}{g:Array Ej}{z:Obj}{D:Array Ej}{Q:Unit->Di}(G:A.handled=some (.ref x))(C:s.heap.get? x=some z)(B:z.data=.fields D)(F:D[2]?=some .none)(u:IsTup s.heap t g)
  (hn:(LC y env).length=g.size) (l:(LC y env).findIdx? (·.1)=none)
  (h:∀h',Mf s.heap.objs.size s.heap h'->Em (Et prog w) A (assignInOrder ((LC y env).map (·.2)) g.toList) Q E { s with heap:=h' }) :
  Em (Et prog w) A (Mn (.Tuple y x1 pos) env<|.ref t) Q E s:=by
 rw[assign_Tuple];refine Q4<|Vu ?_;unfold unpack;rw[hn,l];refine Q4<|ZV ?_;have r:t≠s.heap.objs.size:=by obtain⟨o,H,_⟩:=u;exact Zl<|Zd H
 have i:x≠s.heap.objs.size:=Zl<|Zd C;unfold unpackItems;refine Q4 ?_;unfold notIterableAtAll;refine Q4<|Jk u.typeIs slot_tuple_iter.lookup ?_;refine Q7 ?_;simp only[ZZ,Y7];refine Q4<|ZV<|iter_tuple u ?_;refine Q4 (ZV<|draw_tuple r g.size 0 _ _ ⟨_,Zb _ rfl,rfl,rfl⟩ (u.push _) (by omega) fun d f c=>?_);have q:List.take g.size (List.drop 0 g.toList)=g.toList:=by
  rw[List.drop_zero];exact JQ (by simp)
 rw[q];rw[Zm<|by simp];have n:IsTup d t g:=(u.push _).extBut c.extBut r;have p:d.get? x=some z:=c.extBut x z i<|Q6 _ C;refine Q4 (ZV<|Kb (s:={ s with heap:=d }) G p B F (EE i) f n (by simp) fun v j=>?_);simp only[Option.isSome_none,ZZ,Y7];exact Q7<|h v fun b o hb e=>j b o hb<|c.extBut b o hb<|Q6 _ e
end
section
variable {X:Cx}{K:Ca}{pos:Pos}
def Pz (K:Ca)(n:Nat)(z:Ei)(t:N8):TG:=fun v c H Q=>∃a b cls,v=.ref a/\Wu K H a b/\b.length=n/\H z=some (V9 z cls)/\t b c H Q
theorem NM {k:Nat}{n:Nat}{z:Ei}(B:X.A.handled=some (.ref z))(h:vm X es t)(y:X.K=K:=by rfl)
  (hn:(LC es X.env).length=n:=by rfl) (c:(LC es X.env).findIdx? (·.1)=none:=by rfl):PG X (.Tuple es k pos) (Pz K n z t):=by
 subst y;intro j s p H v u Q I r d;obtain⟨a,L,cls,w,C,hl,G,d⟩:=d;subst w;cases r;obtain⟨J,l,D,_⟩:=I.tuple C;obtain⟨⟨M,N,f,F,g,i⟩,_⟩:=I.hok z _ G;refine BE B f g i D (by simp[hn,←hl,l.length]) c fun x E=>?_;have q:Inv X j p H { s with heap:=x }:=I.kept (t':=s.toks) fun b o e=>E b o (Zl<|Zd e) e;exact h j _ p H L _ Q q (by simpa using l) d
end
end L2
namespace An22
open PySem L2 An
seal L2.PS L2.R8 L2.PE L2.PT L2.PW L2.PA L2.PG L2.vm L2.PI L2.vN L2.PC
inductive wu (K:Ca)(vs:Dk)(H:Hp)(Q:VK)(e3:XK):Prop
 |mk (a:Ei) (ns:List Int) (k:Int) (h0:vs=[.ref a,.int k]) (h1:WP K H a<|ns.map V.int) (h2:0<=k) (h3:∀i,Q (.int i) H):wu K vs H Q e3
inductive yu (K:Ca)(vs:Dk)(H:Hp)(Q:VK)(e3:XK):Prop
 |mk (a:Ei) (ns:List Int) (h0:vs=[.ref a]) (h1:WP K H a<|ns.map V.int) (h2:∀(l:Ei) (ls:Da) (H':Hp),W8 H H'->H l=none->H' l=some (.lst<|ls.map V.str)->ls.length=5->(∀x∈ls,yB x=true)->Q (.ref l) H'):yu K vs H Q e3
def Kh (b c d a:Ei):Str:=if a=b then"version" else if a=c then"nobranch" else"branch"
def MS (c d e z:Ei):Sp:=fun f H Q _=>∃a,f=[.ref z]/\H z=some (V9 z<|.ref a)/\a∈[c,d,e]/\∀b,W8 H b->Q (.str<|"refused "++Kh c d e a) b
def Pp (x:Str×Bool):PyData:=.tuple [.str x.1,.bool x.2]
section
variable {K:Ca}{z a:Ei}
theorem Pd (x:Str×Bool):Dt K (upd H p<|.tup [.str x.1,.bl x.2]) (Pp x) (.ref p):=⟨p,_,rfl,Wu.of zB,_,_,rfl,rfl,_,_,rfl,rfl,rfl⟩
def isW (a:Ei)(x:Str×Ei):Str×Bool:=(x.1,decide (a=x.2))
def Ww (K:Ca)(z a:Ei)(e:TA)(l:List<|Str×Ei):Prop:=∀d H Q,d[0]?=some (some<|V.ref z)->H z=some (V9 z<|.ref a)->(∀c b,W8 H b->W6 K b (l.map fun x=>Pp<|isW a x) c->Q c b)->e d H Q
theorem Ww.nil:Ww K z a UQ []:=fun b H Q _ _ q=>q [] H (W8.refl _) rfl
theorem Ww.cons {x:Str}{c:Ei}(ek:PySem.W.T7 K a)(kx:EM K (.ref a) (.ref c)=some (decide (a=c)))(h:Ww K z a ta l):Ww K z a (Xy (Rg<|Xy (tC<|.str x)<|Xy (RQ (MC K (.ref c)<|.ref c)<|Xy (Ka 0)<|Xy (tC<|.ref c) UQ) UQ) ta) ((x,c)::l):=fun i H Q e b q =>
 ⟨_,e,z,a,_,rfl,b,ek,kx,VR 2,fun p f=>h i _ _ e (zG f _ _ b) fun j g s d=>q _ g ((zG f).trans s) ⟨_,_,rfl,Dt.same s _ _<|Pd<|isW a (x,c),d⟩⟩
theorem Ww.lst (h:Ww K z a ta l)(g:l.length<=10){b:St}{H:Hp}{Q:VK}(e:b[0]?=some (some<|V.ref z))(f:H z=some (V9 z<|.ref a))(q:∀p vs H',W8 H H'->H' p=some (.lst vs)->W6 K H' (l.map fun x=>Pp<|isW a x) vs->Q (.ref p) H'):MX ta b H Q :=
 h b H _ e f fun vs H' s d=>⟨W3 (by have:=d.length;rw[Q5]at this;omega),fun p c=>q p vs _ (s.trans<|zG c) zB<|W6.same (zG c) _ _ d⟩
theorem Ww.cat {m:List (Str×Ei)}(h:Ww K z a ta l)(r:m.length+l.length<=10){c:St}{H:Hp}{Q:VK}{b:Ei}{us:Dk}(e:c[0]?=some (some<|V.ref z))(n:H z=some (V9 z<|.ref a))(i:c[1]?=some (some<|V.ref b))(j:H b=some (.lst us))(f:W6 K H (m.map fun x=>Pp<|isW a x) us)
  (q:∀p vs H',W8 H H'->H' p=some (.lst vs)->W6 K H' ((m++l).map fun x=>Pp<|isW a x) vs->Q (.ref p) H'):Po PR (Ka 1) (MX ta) c H Q :=
 ⟨_,i,h.lst (by omega) e n fun p vs H' s o d=>⟨b,p,us,vs,rfl,rfl,s _ _ j,o,W3 (by have:=d.length;have:=f.length;rw[Q5]at *;omega),fun t g=>q t _ _ (s.trans<|zG g) zB (by rw[Zr];exact W6.same (zG g) _ _<|W6.append (W6.same s _ _ f) d)⟩⟩
end
def UK (c b d e f g i j l n:Ei):List (Str×Ei):=[("thing",c),("name",b),("files",e),("path",d),("fit",f),("clash",g),("nobranch",l),("branch",n),("version",i),("line",j)]
theorem Kg {g f i j l n b o c e a:Ei}(d:[b,c,e,f,g,i,j,l,n,o].Nodup)(h:a∈[b,c,e]):((UK g f i j l n b o c e).filter fun x=>decide (a=x.2)).map (·.1)=[Kh b c e a]:=by
 simp only[ZK,Za,ZC,Yl,Jr]at d;obtain⟨⟨p,r,v,w,y,z,A,B,C⟩,⟨t,D,E,F,G,H,I,J⟩,⟨K,L,M,N,O,P,Q⟩,_⟩:=d;simp only[Za,ZC,Yl]at h;have q:=EE p;have s:=EE r;have u:=EE t
 rcases h with rfl|rfl|rfl<;>simp[UK,Kh,List.filter_cons, *]
theorem zp:(cs ("abcdefghijklmnopqrstuvwxyz":Str)).length=26/\(cs ("abcdefghijklmnopqrstuvwxyz":Str)).all V6=true:=⟨by decide +kernel,by decide +kernel⟩
theorem KM {i:Int}(d:0<=i)(e:i<26):∃c,Ct ("abcdefghijklmnopqrstuvwxyz":Str).cps.toList i=some c/\V6 c=true:=by
 obtain⟨j,rfl⟩:=YD d;have b:j<(cs ("abcdefghijklmnopqrstuvwxyz":Str)).length:=by rw[zp.1];omega
 exact⟨_,zT<|Zh b,ZW.mp zp.2 _<|Ja b⟩
theorem Bo:("abcdefghijklmnopqrstuvwxyz":Str).length<=sizeLine:=W3 (by rw[WW,zp.1];decide)
theorem Np {l:List Nat}(t:l.length=4)(f:∀c∈l,V6 c=true)(hd:V6 d=true)(ex:cs x=l){i:Int}(p:0<=i)(u:i<4) :
  ∀y∈[LW x none<|some 1,LW x none<|some 2,x,LW x none (some i)++one d++LW x (some<|i+1) none,x++"main"],yB y=true:=by
 obtain⟨j,rfl⟩:=YD p;have q:∀{y:Str} {m:List Nat},cs y=m->1<=m.length->m.length<=8->(∀c∈m,V6 c=true)->yB y=true:=fun{y m} e r s h=>by
  rw[Tf,WW,e];exact⟨r,s,ZW.mpr h⟩
 have g:∀n,∀c∈l.take n,V6 c=true:=fun n c b=>f c<|List.mem_of_mem_take b;have v:x.length=4:=by rw[WW,ex,t]
 intro y o;simp only[Za,ZC,Yl]at o
 rcases o with rfl|rfl|rfl|rfl|rfl
 ·exact q (by rw[show(1:Int)=((1:Nat):Int) from rfl,Fv,ex]) (by rw[Zz];omega) (by rw[Zz];omega) (g 1)
 ·exact q (by rw[show(2:Int)=((2:Nat):Int) from rfl,Fv,ex]) (by rw[Zz];omega) (by rw[Zz];omega) (g 2)
 ·exact q ex (by omega) (by omega) f
 ·refine q (m:=l.take j++[d]++l.drop (j+1)) ?_ (by simp;omega) (by simp;omega) ?_
  ·rw[WY,WY,Fv,show((j:Int)+1)=((j+1:Nat):Int) by omega,Fu _ _<|by omega,ex];rfl
  ·intro c b;rw[ZG,ZG,Q8]at b
   rcases b with(b|rfl)|b
   ·exact g _ c b
   ·exact hd
   ·exact f c (List.mem_of_mem_drop b)
 ·refine q (m:=l++[109,97,105,110]) (by rw[WY,ex,show cs ("main":Str)=[109,97,105,110] by decide +kernel]) (by simp) (by simp;omega) fun c b=>?_
  rcases ZG.mp b with b|b
  ·exact f c b
  ·exact ZW.mp (show([109,97,105,110]:List Nat).all V6=true by decide) c b
section
variable {P:Ek}{w:Ep}{K:Ca}{mg:Str->Dc}{base:EC}{t1 t2 t3 t4 t5 t6:Tok}{aL aC aN aT aA b1 b2 b3 b4 b5 b6 b7 b8 aD:Ei}
namespace AX
abbrev st:Stmt:=top 66
theorem sc:W7 ["_law_script","_law_k"] ["_law_script","_law_k"] (zE st):=Cf
theorem ok (F:Wt K "_law_cell_at" "_law_cell_at" st f fd)(T:Txt P w K mg t1 t2 t3 t4 t5 t6 aL aC aN aT aA b1 b2 b3 b4 b5 b6 b7 b8 aD):W0 P w K mg base Cd 1 f fd ["_law_script","_law_k"] (wu K):=by
 refine F.ok sc fun _ _ _ _ H g Q E e h=>?_;obtain⟨a,ns,k,rfl,b,c,q⟩:=h;refine⟨_,(zD (z7 (zO PP (pv 1) (zJ z0 (by rfl) T.len Z0<|zA (pv 0) zC)<|zR _) (zF<|zK<|zQ (WL:Cc _<|T5 K) (pv 0)<|pv 1) zM)<|zF<|zK zH),?_⟩
 refine⟨_,rfl,_,rfl,a,_,rfl,.inl b,_,_,rfl,rfl,_,rfl,V3 (fun h=>?_)<|fun h=>?_⟩
 ·have d:k<ns.length:=by simpa using h
  obtain⟨n,_,hn⟩:=GR (f:=V.int) c d;exact⟨_,rfl,_,rfl,a,_,_,_,rfl,rfl,b,hn,q n⟩
 ·exact q 0
end AX
namespace AY
abbrev st:Stmt:=top 67
theorem sc:W7 ["_law_script","_law_letters","_law_cell","_law_word_here","_law_at","_law_other"] ["_law_script"] (zE st):=Cf
theorem ok (F:Wt K "_law_labels" "_law_labels" st f fd)(T:Txt P w K mg t1 t2 t3 t4 t5 t6 aL aC aN aT aA b1 b2 b3 b4 b5 b6 b7 b8 aD)(u:T9 P w K mg base 1 "_law_cell_at" ["_law_script","_law_k"]<|wu K):W0 P w K mg base Cd 2 f fd ["_law_script"] (yu K):=by
 refine F.ok sc fun _ _ _ _ H Y Q E z h=>?_;obtain⟨a,ns,rfl,A,k⟩:=h;refine⟨_,(zD (Cg (i:=1) sc.nd W9)<|zD (Cg (i:=2) sc.nd<|zL u z.m<|zA (pv 0)<|zA zH zC)<|zD (Cg (i:=3) sc.nd<|U5 Jh PySem.F.slot_str_join PySem.F.type_str_join FJ W9<|zA (xR (sc:=zE st) (N:=["_law_script","_law_letters","_law_cell","_law_word_here","_law_at","_law_other"]) (N':=["_law_k","_law_letters","_law_cell"]) (src:=[none,some 1,some 2]) .a rfl rfl rfl (IK rfl T.range<|zA zH zC) (fun _ _ _ _=>(zY (i:=0) (show(["_law_k","_law_letters","_law_cell"]:Da).Nodup by decide +kernel) rfl (EY rfl))) (fun _ _ _ _=>qL) (fun _ _ _ _=>(zQ KJ (pv 1)<|z5 y6 (z5 Xl (z5 xF (pv 2) zH)<|z5 K5 (pv 0)<|z5 Xl zH<|z5 y6 (pv 2) zH) zH))) zC) (zD (Cg (i:=4) sc.nd<|z5 y6 (zL u z.m<|zA (pv 0)<|zA zH zC) zH)<|zD (Cg (i:=5) sc.nd<|z5 yQ (z5 yQ (jT GA (pv 3) kZ<|kW<|pv 4)<|zQ KJ (pv 1)<|z5 y6 (z5 xF (zL u z.m<|zA (pv 0)<|zA zH zC) zH) zH)<|jT GA (pv 3) (kW<|z5 Xl (pv 4) zH) kZ)<|zF<|zK<|y7<|zA (jT GA (pv 3) kZ<|kW zH)<|zA (jT GA (pv 3) kZ<|kW zH)<|zA (pv 3)<|zA (pv 5)<|zA (z5 yQ (pv 3) W9) zC)),?_⟩
 refine⟨_,rfl,a,ns,0,rfl,A,by decide,fun c=>⟨rfl,4,rfl,by decide,by decide,BP (fun i s t g=>∃x l,t=[x,some<|.str "abcdefghijklmnopqrstuvwxyz",some<|.int c]/\g=H/\s=(l.map one).map V.str/\l.length=i/\∀c∈l,V6 c=true) ⟨none,[],rfl,rfl,rfl,rfl,fun c M=>nomatch M⟩ (W3<|by decide)
   (fun i s t g O ⟨x,l,_,_,J,y,_⟩=>by rw[J,Q5,Q5,y];exact Q9 _) ?_ ?_⟩⟩
 ·rintro i s t g O ⟨x,l,rfl,rfl,rfl,rfl,v⟩;obtain⟨d,b,e⟩:=KM (i:=(c / 3+(0+((l.length:Nat):Int))*(1+c % 5)) % 26) (by omega) (by omega);exact⟨_,rfl,_,rfl,_,_,rfl,rfl,⟨by decide,by decide⟩,_,rfl,_,rfl,_,_,rfl,rfl,(by decide:(0:Int)<5),_,_,rfl,rfl,_,_,rfl,rfl,.inr ⟨by omega,by omega⟩,_,_,rfl,rfl,_,_,rfl,rfl,(by decide:(0:Int)<26),_,_,d,rfl,rfl,Bo,b,_,l++[d],rfl,rfl,by rw[Zr,Zr];rfl,by simp,XH v e⟩
 ·rintro s t g ⟨x,l,rfl,rfl,rfl,y,v⟩ p R;have D:("":Str).length=0:=by decide +kernel
  have up:=zG (o:=.lst<|(l.map one).map V.str) R;have ex:=BG l;refine⟨_,p,l.map one,rfl,rfl,.inl<|WP.of zB,by rw[G8,D];omega,?_⟩;generalize Txt.join "" (l.map one)=x at ex ⊢;have Z:x.length=4:=by rwa[WW,ex]
  have r:x.length<=sizeLine:=W3 (by omega);refine⟨_,rfl,a,ns,1,rfl,up.seq A,by decide,fun n=>⟨_,_,rfl,rfl,(by decide:(0:Int)<4),?_⟩⟩;refine⟨_,rfl,_,rfl,_,rfl,x,rfl,r,_,rfl,_,rfl,a,ns,1,rfl,up.seq A,by decide,fun G=>?_⟩;obtain⟨d,b,e⟩:=KM (i:=G / 4 % 26) (by omega) (by omega);have L:=Np (d:=d) (i:=n % 4) y v e ex (by omega) (by omega);obtain⟨j,B⟩:=YD (show 0<=n % 4 by omega);have cl:(cs x).length=4:=by rwa[ex]
  have I:(⟨#[d]⟩:Str).length=1:=rfl;have S:("main":Str).length=4:=by decide +kernel
  have U:(LW x none<|some<|n % 4).length<=4:=by rw[B,WW,Fv,Zz];omega
  have X:(LW x (some<|n % 4+1) none).length<=4:=by rw[B,show(j:Int)+1=((j+1:Nat):Int) by omega,WW,Fu _ _<|by omega,YO];omega
  refine⟨_,_,rfl,rfl,⟨by decide,by decide⟩,_,_,rfl,rfl,(by decide:(0:Int)<26),_,_,d,rfl,rfl,Bo,b,_,_,rfl,rfl,W3<|by omega,_,rfl,_,rfl,_,_,rfl,rfl,_,rfl,x,rfl,r,_,_,rfl,rfl,W3 (by rw[Str.length_append,I];omega),?_⟩;exact⟨_,rfl,_,rfl,x,rfl,r,_,rfl,_,rfl,x,rfl,r,_,rfl,_,rfl,_,rfl,_,_,rfl,rfl,W3<|by omega,VR 5,fun q C=>k q _ _ (up.trans<|zG C) (up.free C) (zB (o:=.lst<|List.map V.str [_,_,_,_,_])) rfl L⟩
end AY
namespace AZ
abbrev st:Stmt:=top 68
theorem sc:W7 ["_law_e","_law_some","_law_found"] ["_law_e"] (zE st):=Cf
theorem ok (F:Wt K "_law_word" "_law_word" st f fd)(T:Txt P w K mg t1 t2 t3 t4 t5 t6 aL aC aN aT aA b1 b2 b3 b4 b5 b6 b7 b8 aD):wM P w K mg base 1 f fd ["_law_e"] (MS b5 b7 b8):=by
 refine F.okE sc (fun z vs H Q E h=>?_)<|fun z aa A outer s H vs Q E hr hh h=>?_
 ·obtain⟨a,rfl,_⟩:=h;rfl
 ·obtain⟨a,rfl,he,ha,k⟩:=h;refine⟨_,(zD (Cg (i:=1) sc.nd<|y7<|zA (yI<|zA W9<|zA (zJ (z8 (K:=K) (C:=aT)) (by rfl) T.isinstance Zf<|zA (pv 0)<|zA (yN (v:=.ref aT) rfl T.v9 rfl) zC) zC)<|zA (yI<|zA W9<|zA (zJ (z8 (K:=K) (C:=aN)) (by rfl) T.isinstance Zf<|zA (pv 0)<|zA (yN (v:=.ref aN) rfl T.wj rfl) zC) zC)<|zA (yI<|zA W9<|zA (zJ (z8 (K:=K) (C:=b2)) (by rfl) T.isinstance Zf<|zA (pv 0)<|zA (yN (v:=.ref b2) rfl T.SQ rfl) zC) zC) zC)<|zD (Cg (i:=1) sc.nd<|z5 XS (pv 1)<|y7<|zA (yI<|zA W9<|zA (zJ (z8 (K:=K) (C:=b1)) (by rfl) T.isinstance Zf<|zA (pv 0)<|zA (yN (v:=.ref b1) rfl T.uX rfl) zC) zC)<|zA (yI<|zA W9<|zA (zJ (z8 (K:=K) (C:=b3)) (by rfl) T.isinstance Zf<|zA (pv 0)<|zA (yN (v:=.ref b3) rfl T.uc rfl) zC) zC)<|zA (yI<|zA W9<|zA (zJ (z8 (K:=K) (C:=b4)) (by rfl) T.isinstance Zf<|zA (pv 0)<|zA (yN (v:=.ref b4) rfl T.ut rfl) zC) zC) zC)<|zD (Cg (i:=1) sc.nd<|z5 XS (pv 1)<|y7<|zA (yI<|zA W9<|zA (zJ (z8 (K:=K) (C:=b7)) (by rfl) T.isinstance Zf<|zA (pv 0)<|zA (yN (v:=.ref b7) rfl T.wQ rfl) zC) zC)<|zA (yI<|zA W9<|zA (zJ (z8 (K:=K) (C:=b8)) (by rfl) T.isinstance Zf<|zA (pv 0)<|zA (yN (v:=.ref b8) rfl T.yh rfl) zC) zC) zC)<|zD (Cg (i:=1) sc.nd<|z5 XS (pv 1)<|y7<|zA (yI<|zA W9<|zA (zJ (z8 (K:=K) (C:=b5)) (by rfl) T.isinstance Zf<|zA (pv 0)<|zA (yN (v:=.ref b5) rfl T.yo rfl) zC) zC)<|zA (yI<|zA W9<|zA (zJ (z8 (K:=K) (C:=b6)) (by rfl) T.isinstance Zf<|zA (pv 0)<|zA (yN (v:=.ref b6) rfl T.vZ rfl) zC) zC) zC)<|zD (Mz (sc:=zE st) (N:=["_law_e","_law_some","_law_found"]) (N':=["_law_word_here","_law_fits","_law_e"]) (src:=[none,none,some 0]) .a rfl rfl hh (pv 1) (fun _ _ _ _=>(NM (K:=K) (n:=2) hh<|xH (zY (i:=0) (show(["_law_word_here","_law_fits","_law_e"]:Da).Nodup by decide +kernel) rfl (EY rfl)) (xH (zY (i:=1) (show(["_law_word_here","_law_fits","_law_e"]:Da).Nodup by decide +kernel) rfl (EY rfl)) kX))) (fun _ _ _ _=>(Mw<|PW.pt<|kH (zP (K:=K)<|pv 1)<|qR<|zP (K:=K)<|zJ (Iu (K:=K) (T:="ValueError")) (by rfl) T.isinstance Zf<|zA (pv 2)<|zA (yM (v:=.ty "ValueError") rfl T.ValueError (by decide +kernel) rfl) zC)) (fun _ _ _ _=>(pv 0)) sc.nd rfl (EY rfl) (k:=2)) (zD (z7 (zO xB (zJ z0 (by rfl) T.len Z0<|zA (pv 2) zC) zH<|zR _) (zF<|zK<|z5 yQ W9<|zQ (WL:Cc _<|T5 K) (pv 2) zH) zM)<|zF<|zK W9)),?_⟩
  have ek:=T.ek a ha;have kx:=T.kx a ha;refine Xj (Ww.lst (Ww.cons (x:="thing") (c:=aT) ek (kx _<|by simp)<|Ww.cons (x:="name") (c:=aN) ek (kx _<|by simp)<|Ww.cons (x:="files") (c:=b2) ek (kx _<|by simp) Ww.nil) (by simp) rfl he fun p1 v1 H1 Z h1 d1=>?_);have g:=Z _ _ he;refine Xj (Ww.cat (Ww.cons (x:="path") (c:=b1) ek (kx _<|by simp)<|Ww.cons (x:="fit") (c:=b3) ek (kx _<|by simp)<|Ww.cons (x:="clash") (c:=b4) ek (kx _<|by simp) Ww.nil) (by simp) rfl g rfl h1 d1 fun p2 v2 q s2 h2 d2=>?_);have j:=s2 _ _ g;refine Xj (Ww.cat (Ww.cons (x:="nobranch") (c:=b7) ek (kx _<|by simp)<|Ww.cons (x:="branch") (c:=b8) ek (kx _<|by simp) Ww.nil) (by simp) rfl j rfl h2 d2 fun p3 v3 H3 s3 h3 d3=>?_);have l:=s3 _ _ j;refine Xj (Ww.cat (Ww.cons (x:="version") (c:=b5) ek (kx _<|by simp)<|Ww.cons (x:="line") (c:=b6) ek (kx _<|by simp) Ww.nil) (by simp) rfl l rfl h3 d3 fun p4 v4 G L h4 t=>?_);have p:=L _ _ l;have L:=((Z.trans s2).trans s3).trans L;clear Z s2 s3 h1 h2 h3 d1 d2 d3 g j l;have t:W6 K G ((UK aT aN b1 b2 b3 b4 b5 b6 b7 b8).map fun x=>Pp<|isW a x) v4:=t;have one:((UK aT aN b1 b2 b3 b4 b5 b6 b7 b8).filter fun x=>decide (a=x.2)).map (·.1)=[Kh b5 b7 b8 a]:=Kg T.dst ha;have e:(UK aT aN b1 b2 b3 b4 b5 b6 b7 b8).length=10:=rfl;generalize UK aT aN b1 b2 b3 b4 b5 b6 b7 b8=W at t one e;have dl:=t.length;rw[Q5,e]at dl;refine⟨_,rfl,p4,rfl,⟨_,WP.of h4⟩,Cy (K:=K) (a:=p4) (z:=z) (xs:=v4) (fun i D R q=>∃I J,R=[I,J,some<|.ref z]/\W8 G q/\D.length<=i/\D=((W.take i).filter fun x=>decide (a=x.2)).map fun x=>V.str x.1) ⟨none,none,rfl,W8.refl _,Q9 _,rfl⟩ (W3<|by omega) ?_ ?_ ?_⟩
  ·rintro i D R q hi ⟨I,J,rfl,d,B,_⟩;exact⟨WP.of<|d _ _ h4,⟨_,d _ _ p⟩,B⟩
  ·rintro i x D R q hx ⟨I,J,rfl,d,B,rfl⟩;obtain⟨dd,y,S⟩:=t.get hx;rw[Zo]at y;obtain⟨⟨O,c⟩,hw,ed⟩:=Yg.mp y;subst ed;obtain⟨M,wv,rfl,ht,w0,r0,rfl,U,w1,r1,rfl,X,Y⟩:=(show∃M wv,x=.ref M/\Wu K G M wv/\W6 K G [.str O,.bool<|decide (a=c)] wv from S);have U:w0=.str O:=U;have X:w1=.bl (decide (a=c)):=X;have Y:r1=[]:=Y;subst U X Y;have tk:(W.take<|i+1).filter (fun x=>decide (a=x.2))=(W.take i).filter (fun x=>decide (a=x.2))++(if decide (a=c)=true then[(O,c)] else[]):=by
    rw[Z4,hw,List.filter_append];show _++[(O,c)].filter _=_;rw[List.filter_cons];rfl
   refine⟨M,_,_,rfl,d.Wv ht,rfl,d _ _ p,_,_,rfl,_,_,rfl,rfl,?_⟩;generalize decide (a=c)=b at tk ⊢;cases b with
   |false =>
    refine⟨_,rfl,_,rfl,VQ<|VQ ⟨_,_,rfl,d,Nat.le_succ_of_le B,?_⟩⟩;rw[tk,Zm Zs,YG]
   |true =>
    refine⟨_,rfl,_,rfl,VO ⟨_,rfl,z,a,true,rfl,d _ _ p,ek,T.kv a ha,_,rfl,VO ⟨_,rfl,_,_,rfl,d,?_,?_⟩⟩⟩
    ·rw[ZD];exact Nat.succ_le_succ B
    ·rw[tk,Zp rfl,Zr];rfl
  ·rintro D R q ⟨I,J,rfl,d,B,rfl⟩ r nr;rw[dl,←e,ZI,show(W.filter fun x=>decide (a=x.2)).map (fun x=>V.str x.1)=((W.filter fun x=>decide (a=x.2)).map (·.1)).map V.str by rw[ZB];rfl,one];have u:=zG (o:=.lst [V.str<|Kh b5 b7 b8 a]) nr;have rl:(Kh b5 b7 b8 a).length<=10:=by
    unfold Kh
    split
    ·decide +kernel
    ·split<;>decide +kernel
   have r8:("refused ":Str).length=8:=by decide +kernel
   exact⟨_,rfl,r,_,rfl,.inl<|WP.of zB,rfl,_,rfl,Xh rfl ⟨_,rfl,r,_,_,_,rfl,rfl,WP.of zB,rfl,_,_,rfl,rfl,W3<|by omega,k _<|(L.trans d).trans u⟩⟩
end AZ
end
abbrev Md:=List<|(Option Str×Str)×Str
def V4 (k:Option Str×Str):PyData:=.tuple [Co k.1,.str k.2]
def Ci (md:Md):List (Er×V):=md.map fun m=>(V4 m.1,.str m.2)
def vals (md:Md):Da:=md.map (·.2)
def setM (md:Md)(k:Option Str×Str)(v:Str):Md:=if(md.any fun p=>decide (p.1=k))=true then md.map (fun p=>if p.1=k then(p.1,v) else p) else md++[(k,v)]
structure Mk (S:Dj)(md:Md):Prop where
 notes:∀m∈md,∃t,At S t (.tree [])/\At S m.2 (.note t m.1.1.toList m.1.2)
 all:∀e∈S,e.d=(Th.tree []).dat\/∃m∈md,e.nm=m.2
 nd:(md.map (·.1)).Nodup
theorem FO (h:Co a=Co b):a=b:=by
 (cases a<;>cases b<;>first|rfl|cases h);rfl
theorem Ie (h:V4 j=V4 k):j=k:=by
 unfold V4 at h;injection h with h;injection h with c h;injection h with b _;injection b with b;exact Prod.ext (FO c) b
theorem OE {k:Option Str×Str}(c:∀v,k.1=some v->El v=true)(b:El k.2=true):Uo (V4 k):=by
 obtain⟨o,x⟩:=k;have b:El x=true:=b;cases o with
 |none =>
  refine⟨?_,(by decide:(max 0 (max 0 0)+1)<=6)⟩;show(true&&(El x&&true))=true;rw[b];rfl
 |some y =>
  refine⟨?_,(by decide:(max 0 (max 0 0)+1)<=6)⟩;show(El y&&(El x&&true))=true;rw[c y rfl,b];rfl
theorem KS (k:Option Str×Str):∀md:Md,VS (Ci md) (V4 k)=((md.find? fun p=>decide (p.1=k)).map (·.2)).map V.str
 |[]=>rfl
 |p::md=>by
  by_cases e:p.1=k
  ·rw[show Ci (p::md)=(V4 p.1,.str p.2)::Ci md from rfl,yR<|by rw[e],Z7,Zc e];rfl
  ·rw[show Ci (p::md)=(V4 p.1,.str p.2)::Ci md from rfl,yP<|fun z=>e<|Ie z,KS k md,Z7,Zg e]
theorem OK (md:Md)(k:Option Str×Str)(v:Str):WK (Ci md) (V4 k) (.str v)=Ci (setM md k v):=by
 have b:((Ci md).any fun kv=>decide (kv.1=V4 k))=md.any fun p=>decide (p.1=k):=by
  unfold Ci;rw[VH];refine congrArg (fun f=>md.any f)<|funext fun p=>?_;exact Y9.mpr ⟨fun z=>Ie z,fun z=>congrArg V4 z⟩
 unfold WK setM;rw[b]
 split
 ·unfold Ci;rw[ZB,ZB];refine YI fun p _=>?_;show(if V4 p.1=V4 k then _ else _)=_
  by_cases z:p.1=k
  ·rw[Zp<|congrArg V4 z];show _=(fun q:(Option Str×Str)×Str=>(V4 q.1,V.str q.2)) (if p.1=k then(p.1,v) else p);rw[Zp z]
  ·rw[Zm<|fun q=>z<|Ie q];show _=(fun q:(Option Str×Str)×Str=>(V4 q.1,V.str q.2)) (if p.1=k then(p.1,v) else p);rw[Zm z]
 ·unfold Ci;rw[Zr];rfl
section
variable {S:Dj}{md:Md}{o:Option Str}{y:Str}
theorem N1 {a b:Option Str}(h:a.toList=b.toList):a=b:=by
 (cases a<;>cases b<;>first|rfl|cases h);rfl
theorem Mk.is (ok:zc S)(M:Mk S md){x:Str}:zV S x ["note"]=true↔x∈vals md:=by
 constructor
 ·intro h;obtain⟨e,c,b⟩:=Ze.mp<|jI h
  rcases M.all e c with z|⟨m,hm,z⟩
  ·rw[←b,Gh ok.good c,j5 z]at h;exact absurd (Q8.mp<|Zv h) (by decide +kernel)
  ·exact Ze.mpr ⟨m,hm,by rw[←b,z]⟩
 ·intro h;obtain⟨m,hm,rfl⟩:=Ze.mp h;obtain⟨t,_,a⟩:=M.notes m hm;exact Ry a
theorem Mk.old (N:ye S o.toList y q)(M:Mk S md){m:(Option Str×Str)×Str}(hm:m∈md)(e:m.1=(o,y)):m.2=q.2:=by
 obtain⟨t,d,f,_⟩:=N.tree;obtain⟨i,c,b⟩:=M.notes m hm;obtain⟨T,g⟩:=N.more;rw[e]at b;have j:At q.1 i (.tree []):=by rw[g];exact c.more
 have l:At q.1 m.2 (.note i o.toList y):=by rw[g];exact b.more
 have:=At.name N.ok j d;subst this;exact At.name N.ok l f
theorem Mk.fresh (N:ye S o.toList y q)(M:Mk S md)(h:∀m∈md,m.1≠(o,y)):q.2∉vals md:=fun z=>by
 obtain⟨m,hm,e⟩:=Ze.mp z;obtain⟨t,g,c,_⟩:=N.tree;obtain⟨n,d,b⟩:=M.notes m hm;obtain⟨T,i⟩:=N.more;have f:At q.1 q.2 (.note n m.1.1.toList m.1.2):=by rw[i,←e];exact b.more
 have:=At.thing N.ok f c;injection this with _ j l;exact h m hm<|Prod.ext (N1 j) l
theorem MO {p:(Option Str×Str)×Str}(h:p∈setM md k v):p=(k,v)\/p∈md:=by
 unfold setM at h
 split at h
 ·obtain⟨q,b,e⟩:=Ze.mp h
  by_cases z:q.1=k
  ·rw[Zp z]at e;exact .inl (by rw[←e,z])
  ·rw[Zm z]at e;exact .inr<|e▸b
 ·rcases ZG.mp h with z|z
  ·exact .inr z
  ·exact .inl (Q8.mp z)
theorem Mk.put (N:ye S o.toList y q)(M:Mk S md):Mk q.1 (setM md (o,y) q.2)/\(setM md (o,y) q.2).length<=md.length+1:=by
 obtain⟨t,b,c,all⟩:=N.tree;obtain⟨T,f⟩:=N.more;have new:((o,y),q.2)∈setM md (o,y) q.2:=by
  unfold setM
  split
  ·rename_i h;obtain⟨p,d,e⟩:=ZP.mp h;have e:p.1=(o,y):=Zv e;exact Ze.mpr ⟨p,d,by rw[Zp e,e]⟩
  ·exact Zy _ (Q8.mpr rfl)
 have old:∀m∈md,m∈setM md (o,y) q.2:=fun m hm=>by
  by_cases e:m.1=(o,y)
  ·have:=M.old N hm e;rwa[show m=((o,y),q.2) from Prod.ext e this]
  ·unfold setM
   split
   ·exact Ze.mpr ⟨m,hm,Zm e⟩
   ·exact Yz _ hm
 refine⟨⟨fun m hm=>?_,fun e j=>?_,?_⟩,?_⟩
 ·rcases MO hm with rfl|hm
  ·exact⟨t,b,c⟩
  ·obtain⟨l,g,i⟩:=M.notes m hm;exact⟨l,by rw[f];exact g.more,by rw[f];exact i.more⟩
 ·rcases all e j with z|z|z
  ·rcases M.all e z with z|⟨m,hm,z⟩
   ·exact .inl z
   ·exact .inr ⟨m,old m hm,z⟩
  ·exact .inl z
  ·exact .inr ⟨_,new,z.1⟩
 ·have:=M.nd;unfold setM
  split
  ·have e:((md.map fun p=>if p.1=(o,y) then(p.1,q.2) else p).map (·.1))=md.map (·.1):=by
    rw[ZB];refine YI fun p _=>?_;show(if p.1=(o,y) then(p.1,q.2) else p).1=p.1
    split<;>rfl
   rwa[e]
  ·rename_i hn;rw[Zr];refine j9 this fun z=>hn ?_;obtain⟨p,d,e⟩:=Ze.mp z;exact ZP.mpr ⟨p,d,Zc e⟩
 ·unfold setM
  split
  ·rw[Q5];omega
  ·rw[ZD];exact Q9 _
end
inductive Dd where
 |beg (d:Er) (o:Option Str)
 |set (x:Str) (o:Option Str)
 |head (x:Str)
 |keep (x y:Str)
def uT (K:Ca)(H:Hp)(ls:Da)(d:Er)(v:V):Prop:=Dw K H d v/\small d=true/\((∃x∈ls,d=.str x)\/(xA d=false/\((Dt K H d v/\d.canLay0=true/\d.depth<=60)\/∃a b,v=.ref a/\H a=some (.dK b)/\d=.dict [])))
def Ua (o:Option Str):Prop:=∀v,o=some v->El v=true
def Sv (K:Ca)(H:Hp)(ls:Da)(p:Ei):Dd->Prop
 | .beg d o=>∃v,Wu K H p [.str "begin",v,oV o]/\uT K H ls d v/\Ua o
 | .set x o=>Wu K H p [.str "set",.str x,oV o]/\x∈ls/\Ua o
 | .head x=>Wu K H p [.str "head",.str x]/\x∈ls
 | .keep x y=>Wu K H p [.str "keep",.str x,.str y]/\x∈ls/\Uh y=true
theorem uT.same {K:Ca}(s:W8 H H'){ls:Da}{d:Er}{v:V}(h:uT K H ls d v):uT K H' ls d v:=by
 obtain⟨i,j,b⟩:=h;refine⟨Dw.same s _ _ i,j,?_⟩
 rcases b with b|⟨b,⟨c,f⟩|⟨a,g,e,c,f⟩⟩
 ·exact .inl b
 ·exact .inr ⟨b,.inl ⟨Dt.same s _ _ c,f⟩⟩
 ·exact .inr ⟨b,.inr ⟨a,g,e,s _ _ c,f⟩⟩
def inV (vs:Da):Option Str->Bool
 |none=>false
 |some v=>decide (v∈vs)
def Ud (hs:Hs):Option (Option Str)->V×Hs
 |none=>(.str "refused nobranch",hs)
 |some o=>(oV o,hs)
def VT (vs:Da)(hs:Hs):Dd->V×Hs
 | .beg d o=>if xA d=false\/Ux hs d=true then(.str "refused branch",hs) else if o.isSome=true/\inV vs o=false then(.str "refused version",hs) else(.non,VU hs (Ii d) o)
 | .set x o=>if VP hs x=none then(.str "refused nobranch",hs) else if inV vs o=true then(.non,VU hs x o) else(.str "refused version",hs)
 | .head x=>Ud hs<|VP hs x
 | .keep x _=>Ud hs<|VP hs x
def Cm (b md lb nl:Ei):Dl:=[(.inr "heads",.ref b),(.inr "made",.ref md),(.inr "labels",.ref lb),(.inr "names",.ref nl)]
section
variable {hh md lb nl n':Ei}
theorem N0:VS (Cm hh md lb nl) (.inr "heads")=some (.ref hh):=rfl
theorem G7:VS (Cm hh md lb nl) (.inr "made")=some (.ref md):=rfl
theorem R1:VS (Cm hh md lb nl) (.inr "labels")=some (.ref lb):=rfl
theorem R3:VS (Cm hh md lb nl) (.inr "names")=some (.ref nl):=rfl
theorem Pa:WK (Cm hh md lb nl) (.inr "names") (.ref n')=Cm hh md lb n':=rfl
end
def O0 (ls:Da)(dd:Dd):Prop:=∀d o,dd=.beg d o->∃x∈ls,d=.str x
inductive vJ (P:Ek)(w:Ep)(K:Ca)(vs:Dk)(H:Hp)(Q:VK)(e3:XK):Prop
 |mk (t p hh md lb nl:Ei) (ls:Da) (hs:Hs) (m:Md) (dd:Dd) (h0:vs=[.ref t,.ref p]) (h1:H t=some (.dK<|Cm hh md lb nl)) (h2:H hh=some (.dK<|hkv hs)) (h3:TJ P w K H md<|Ci m) (h4:WP K H lb<|ls.map V.str) (h5:Sv K H ls p dd) (h6:(∀x∈ls,yB x=true)) (h7:(∀v∈vals m,El v=true)) (h8:hs.length<1000) (h9:∀H',Off [hh] H H'->(W8 H H'\/O0 ls dd)->H' hh=some (.dK<|hkv (VT (vals m) hs dd).2)->Q (VT (vals m) hs dd).1 H'):vJ P w K vs H Q e3
theorem CL (h:yB x=true):El x=true:=UD h
theorem Ps {K:Ca}{ls:Da}{Q:VK}(hl:WP K H lb<|ls.map V.str)(f:∀x∈ls,yB x=true)(h:uT K H ls d v)(q:∀n:Nat,(n=0↔xA d=false)->Q (.int n) H):FX K (.ref lb) [v] H Q:=by
 have i:=(q9 ls fun x b=>CL<|f x b).1;obtain⟨l,_,⟨x,b,rfl⟩|⟨c,⟨g,o,p⟩|⟨a,j,rfl,g,rfl⟩⟩⟩:=h
 ·refine .inl ⟨v,.str x,ls.map .str,rfl,l,⟨lb,_,rfl,hl,W6.strs ls⟩,i,CL<|f x b,by show 0<=60;decide,q _ ⟨fun z=>?_,fun z=>?_⟩⟩
  ·exact absurd (show EG (.str x) (.str x)=true from Yn x) (List.countP_eq_zero.mp z _<|Ze.mpr ⟨x,b,rfl⟩)
  ·rw[show xA (.str x)=yB x from rfl,f x b]at z;cases z
 ·refine .inl ⟨v,d,ls.map .str,rfl,g,⟨lb,_,rfl,hl,W6.strs ls⟩,i,o,p,q _ ⟨fun _=>c,fun _=>List.countP_eq_zero.mpr fun e r z=>?_⟩⟩;obtain⟨x,b,rfl⟩:=Ze.mp r;cases d with
  |str y =>
   have z:(x==y)=true:=z;rw[←YZ z,show xA (.str x)=yB x from rfl,f x b]at c;cases c
  |_=>cases z
 ·exact .inr ⟨a,lb,j,ls,rfl,rfl,g,hl,q 0 ⟨fun _=>c,fun _=>rfl⟩⟩
theorem Ob {K:Ca}{vs:Da}{Q:VK}(hl:WP K H l<|vs.map V.str)(hv:∀v∈vs,El v=true)(b:Ua o)(q:Q (.bl<|!inV vs o) H):NR K false true (oV o) (.ref l) H Q:=by
 refine⟨Co o,vs.map .str,BB o,⟨l,_,rfl,hl,W6.strs vs⟩,(q9 vs hv).1,?_,?_,?_⟩
 ·cases o with
  |none=>rfl
  |some v=>exact b v rfl
 ·cases o<;>exact ZA _
 ·have:((vs.map E9).any fun y=>EG y<|Co o)=inV vs o:=by
   rw[VH];cases o with
   |none=>exact Vn.mpr fun x _=>nofun
   |some v =>
    rw[ZS,ZP];show _↔decide (v∈vs)=true;rw[Zt];constructor
    ·rintro⟨x,c,e⟩;have e:(x==v)=true:=e;rwa[←YZ e]
    ·intro h;exact⟨v,h,Yn v⟩
  rw[this,show(true !=inV vs o)=!inV vs o by cases inV vs o<;>rfl];exact q
section
variable {P:Ek}{w:Ep}{K:Ca}{mg:Str->Dc}{base:EC}{t1 t2 t3 t4 t5 t6:Tok}{aL aC aN aT aA b1 b2 b3 b4 b5 b6 b7 b8 aD:Ei}
namespace A0
abbrev st:Stmt:=top 71
theorem sc:W7 ["_law_table","_law_deed_here","_law_heads","_law_kept_here"] ["_law_table","_law_deed_here"] (zE st):=Cf
theorem ok (F:Wt K "_law_due" "_law_due" st f fd)(T:Txt P w K mg t1 t2 t3 t4 t5 t6 aL aC aN aT aA b1 b2 b3 b4 b5 b6 b7 b8 aD):W0 P w K mg base Cd 1 f fd ["_law_table","_law_deed_here"] (vJ P w K):=by
 refine F.ok sc fun _ _ _ _ H vs Q E s h=>?_;obtain⟨t,p,r,md,lb,nl,ls,b,m,I,rfl,U,O,S,R,A,la,lv,hl,k⟩:=h;refine⟨_,(zD (Cg (i:=2) sc.nd<|yH s.WN (pv 0) W9<|fun _ _=>rfl)<|zD (Cg (i:=3) sc.nd<|jG rfl T.list rfl<|yH s.WN (pv 0) W9<|fun _ _=>rfl)<|zD (z7 (zO xB (zQ (W4:Cc _<|WR K) (pv 1) zH) W9<|zR _) (zD (z7 (PW.pt<|k9 (zO xB (U5 YF PySem.F.slot_list_count PySem.F.type_list_count (HQ (K:=K) s.units) (yH s.WN (pv 0) W9<|fun _ _=>rfl)<|zA (zQ (W4:Cc _<|WR K) (pv 1) zH) zC) zH<|zR _)<|kF<|zO (CY s.units) (zQ (W4:Cc _<|WR K) (pv 1) zH) (pv 2)<|by with_unfolding_all rfl) (zF<|zK W9) zM)<|zD (z7 (PW.pt<|kH (zO GN (zQ (W4:Cc _<|WR K) (pv 1) zH) qU<|zR _)<|qR<|zO (FQ (K:=K) s.units) (zQ (W4:Cc _<|WR K) (pv 1) zH) (pv 3)<|by with_unfolding_all rfl) (zF<|zK W9) zM)<|zD (xJ s.WN (pv 2) (zQ (W4:Cc _<|WR K) (pv 1) zH) (zQ (W4:Cc _<|WR K) (pv 1) zH) rfl)<|zF<|zK qU) zM)<|zD (z7 (zO (NC s.units) (zQ (W4:Cc _<|WR K) (pv 1) zH) (pv 2)<|by with_unfolding_all rfl) (zF<|zK W9) zM)<|zD (z7 (zO xB (zQ (W4:Cc _<|WR K) (pv 1) zH) W9<|zR _) (zD (z7 (zO (FQ (K:=K) s.units) (zQ (W4:Cc _<|WR K) (pv 1) zH) (pv 3)<|by with_unfolding_all rfl) (zF<|zK W9) zM)<|zD (xJ s.WN (pv 2) (zQ (W4:Cc _<|WR K) (pv 1) zH) (zQ (W4:Cc _<|WR K) (pv 1) zH) rfl)<|zF<|zK qU) zM)<|zF<|zK<|yH s.WN (pv 2) (zQ (W4:Cc _<|WR K) (pv 1) zH)<|fun _ _=>rfl),?_⟩
 refine⟨_,rfl,t,.ref r,rfl,N0▸Wn.k (k:=.inr "heads") U,_,rfl,t,.ref md,rfl,G7▸Wn.k (k:=.inr "made") U,md,_,rfl,S,fun l Z=>?_⟩;have ev:(Ci m).map (·.2)=(vals m).map V.str:=by unfold Ci vals;rw[ZB,ZB];rfl
 rw[ev];have u:=zG (o:=.lst<|(vals m).map V.str) Z;have G:=zB (H:=H) (a:=l) (o:=.lst<|(vals m).map V.str);generalize upd H l (.lst<|(vals m).map V.str)=H1 at u G ⊢;have X:=u _ _ U;have j:=u _ _ O;have C:=u.seq R;have D:(hkv b).length<sizeLine:=jH (by rw[show(hkv b).length=b.length from Q5 ..];omega);have B:∀{N:Hp},W8 H1 N->(VT (vals m) b I).2=b->Q (VT (vals m) b I).1 N:=fun{N} s2 e=>k N (Off.of<|u.trans s2) (.inl<|u.trans s2) (by rw[e];exact s2 _ _ j);have Y:∀{x:Str} {o:Option Str},O0 ls I->(VT (vals m) b I).2=VU b x o->Q (VT (vals m) b I).1 (upd H1 r<|.dK<|WK (hkv b) (.inr x)<|oV o):=fun{x o} nd e=>k _ (fun c w nc ec=>xK c w nc<|u c w ec) (.inr nd) (by rw[e,zB,Gm]);cases I with
 |beg d o =>
  obtain⟨v,g,nd,vo⟩:=A;have g:=u.Wv g;have nd:=nd.same u;refine⟨_,rfl,p,_,_,_,rfl,rfl,g,rfl,rfl,_,rfl,Xh rfl ⟨_,rfl,t,.ref lb,rfl,R1▸Wn.k (k:=.inr "labels") X,.inl ⟨rfl,_,C⟩,_,rfl,p,_,_,_,rfl,rfl,g,rfl,?_⟩⟩;delta UQ;dsimp only;refine Ps C la nd fun n hn=>⟨rfl,_,rfl,?_⟩;cases z:xA d with
  |false =>
   have e:VT (vals m) b (.beg d o)=(.str "refused branch",b):=Zp<|.inl z;have:=B (W8.refl _) (by rw[e]);rw[e]at this;exact Xh (by rw[hn.mpr z];rfl)<|VO this
  |true =>
   obtain⟨x,L,rfl⟩:∃x∈ls,d=.str x:=by
    rcases nd.2.2 with h|h
    ·exact h
    ·rw[z]at h;cases h.1
   have hv:v=.str x:=nd.1;subst hv;have nz:¬((V.int ((n:Nat):Int))=.int 0):=fun q=>by
    injection q with q;have:=hn.mp (by omega);rw[z]at this;cases this
   refine Uf nz ⟨_,rfl,p,_,_,_,rfl,rfl,g,rfl,_,rfl,r,_,rfl,Wn.k (k:=.inr x) j,_,rfl,?_⟩;rw[qQ,Yj];cases y:(VP b x).isSome with
   |true =>
    have e:VT (vals m) b (.beg (.str x) o)=(.str "refused branch",b):=Zp<|.inr y;have:=B (W8.refl _) (by rw[e]);rw[e]at this;exact VO this
   |false =>
    have J:VT (vals m) b (.beg (.str x) o)=if o.isSome=true/\inV (vals m) o=false then(.str "refused version",b) else(.non,VU b x o):=Zm (fun q=>by
     rcases q with q|q
     ·rw[z]at q;cases q
     ·rw[show Ux b (.str x)=(VP b x).isSome from rfl,y]at q;cases q)
    refine VQ ⟨_,rfl,p,_,_,_,rfl,rfl,g,rfl,rfl,_,rfl,?_⟩;cases o with
    |none =>
     have e:VT (vals m) b (.beg (.str x) none)=(.non,VU b x none):=by rw[J];rfl
     have:=Y (x:=x) (o:=none) (fun d o e=>by cases e;exact⟨x,L,rfl⟩) (by rw[e]);rw[e]at this;exact BZ rfl<|VQ ⟨_,rfl,p,_,_,_,rfl,rfl,g,rfl,_,rfl,_,rfl,p,_,_,_,rfl,rfl,g,rfl,r,_,rfl,.inl ⟨_,.inr x,j,rfl,D,rfl⟩,this⟩
    |some v =>
     refine VO ⟨_,rfl,p,_,_,_,rfl,rfl,g,rfl,_,rfl,Ob (o:=some v) (WP.of G) lv vo ⟨_,rfl,?_⟩⟩;cases M:inV (vals m) (some v) with
     |false =>
      have e:VT (vals m) b (.beg (.str x)<|some v)=(.str "refused version",b):=by rw[J,Zp ⟨rfl,M⟩]
      have:=B (W8.refl _) (by rw[e]);rw[e]at this;exact Uc this
     |true =>
      have e:VT (vals m) b (.beg (.str x)<|some v)=(.non,VU b x<|some v):=by rw[J,Zm (fun q=>by rw[M]at q;cases q.2)]
      have:=Y (x:=x) (o:=some v) (fun d o e=>by cases e;exact⟨x,L,rfl⟩) (by rw[e]);rw[e]at this;exact VX ⟨_,rfl,p,_,_,_,rfl,rfl,g,rfl,_,rfl,_,rfl,p,_,_,_,rfl,rfl,g,rfl,r,_,rfl,.inl ⟨_,.inr x,j,rfl,D,rfl⟩,this⟩
 |set x o =>
  obtain⟨g,L,vo⟩:=A;have g:=u.Wv g;refine⟨_,rfl,p,_,_,_,rfl,rfl,g,rfl,rfl,_,rfl,Uf (by decide +kernel) ⟨_,rfl,p,_,_,_,rfl,rfl,g,rfl,_,rfl,r,_,rfl,Wn.k (k:=.inr x) j,_,rfl,?_⟩⟩;rw[qQ,Yj];cases y:VP b x with
  |none =>
   have e:VT (vals m) b (.set x o)=(.str "refused nobranch",b):=Zp y;have:=B (W8.refl _) (by rw[e]);rw[e]at this;exact Uc this
  |some o' =>
   have J:VT (vals m) b (.set x o)=if inV (vals m) o=true then(.non,VU b x o) else(.str "refused version",b):=Zm (by rw[y];nofun);refine VX ⟨_,rfl,p,_,_,_,rfl,rfl,g,rfl,rfl,_,rfl,Xh rfl ⟨_,rfl,p,_,_,_,rfl,rfl,g,rfl,_,rfl,Ob (WP.of G) lv vo ⟨_,rfl,?_⟩⟩⟩;cases M:inV (vals m) o with
   |false =>
    have e:VT (vals m) b (.set x o)=(.str "refused version",b):=by rw[J,M];rfl
    have:=B (W8.refl _) (by rw[e]);rw[e]at this;exact Uc this
   |true =>
    have e:VT (vals m) b (.set x o)=(.non,VU b x o):=by rw[J,M];rfl
    have:=Y (x:=x) (o:=o) (fun d o e=>nomatch e) (by rw[e]);rw[e]at this;exact VX ⟨_,rfl,p,_,_,_,rfl,rfl,g,rfl,_,rfl,_,rfl,p,_,_,_,rfl,rfl,g,rfl,r,_,rfl,.inl ⟨_,.inr x,j,rfl,D,rfl⟩,this⟩
 |head x =>
  obtain⟨g,L⟩:=A;have g:=u.Wv g;refine⟨_,rfl,p,_,_,_,rfl,rfl,g,rfl,rfl,_,rfl,Uf (by decide +kernel) ⟨_,rfl,p,_,_,_,rfl,rfl,g,rfl,_,rfl,r,_,rfl,Wn.k (k:=.inr x) j,_,rfl,?_⟩⟩;have hv:=qQ x b;rw[hv,Yj];cases y:VP b x with
  |none =>
   have e:VT (vals m) b (.head x)=(.str "refused nobranch",b):=congrArg (Ud b) y;have:=B (W8.refl _) (by rw[e]);rw[e]at this;exact Uc this
  |some o =>
   have e:VT (vals m) b (.head x)=(oV o,b):=congrArg (Ud b) y;have:=B (W8.refl _) (by rw[e]);rw[e]at this;exact VX ⟨_,rfl,p,_,_,_,rfl,rfl,g,rfl,rfl,_,rfl,Uf (by decide +kernel) ⟨_,rfl,_,rfl,p,_,_,_,rfl,rfl,g,rfl,r,_,rfl,.inl ⟨_,.inr x,.inl j,rfl,by rw[hv,y];rfl⟩,this⟩⟩
 |keep x y' =>
  obtain⟨g,L,_⟩:=A;have g:=u.Wv g;refine⟨_,rfl,p,_,_,_,rfl,rfl,g,rfl,rfl,_,rfl,Uf (by decide +kernel) ⟨_,rfl,p,_,_,_,rfl,rfl,g,rfl,_,rfl,r,_,rfl,Wn.k (k:=.inr x) j,_,rfl,?_⟩⟩;have hv:=qQ x b;rw[hv,Yj];cases y:VP b x with
  |none =>
   have e:VT (vals m) b (.keep x y')=(.str "refused nobranch",b):=congrArg (Ud b) y;have:=B (W8.refl _) (by rw[e]);rw[e]at this;exact Uc this
  |some o =>
   have e:VT (vals m) b (.keep x y')=(oV o,b):=congrArg (Ud b) y;have:=B (W8.refl _) (by rw[e]);rw[e]at this;exact VX ⟨_,rfl,p,_,_,_,rfl,rfl,g,rfl,rfl,_,rfl,Uf (by decide +kernel) ⟨_,rfl,_,rfl,p,_,_,_,rfl,rfl,g,rfl,r,_,rfl,.inl ⟨_,.inr x,.inl j,rfl,by rw[hv,y];rfl⟩,this⟩⟩
end A0
inductive wA (P:Ek)(w:Ep)(K:Ca)(C D:Ei)(vs:Dk)(H:Hp)(Q:VK)(e3:XK):Prop
 |mk (b p a h:Ei) (fp:De) (S:Dj) (hs:Hs) (ls:Da) (m:Md) (dd:Dd) (h0:vs=[.ref b,.ref p]) (h1:Wq P w K C D H b a h fp S hs) (h2:Sv K H ls p dd) (h3:(∀x∈ls,yB x=true)) (h4:Mk S m) (h5:hs.length<1000) (h6:S.length<1900) (h7:((∀x y o,dd=.keep x y->VP hs x≠some o)->∀H',Off [h] H H'->Wq P w K C D H' b a h fp S (VT (vals m) hs dd).2->Q (VT (vals m) hs dd).1 H')) (h8:(∀x y o,dd=.keep x y->VP hs x=some o->∀H',Off (h::fp) H H'->Wq P w K C D H' b a h fp (Ch S o.toList y).1 (VU hs x<|some (Ch S o.toList y).2)->Q (.str (Ch S o.toList y).2) H')):wA P w K C D vs H Q e3
theorem Mk.inV (ok:zc S)(M:Mk S m)(o:Option Str):VY S (Co o) "note"=inV (vals m) o:=by
 cases o with
 |none=>rfl
 |some v =>
  rw[ZS];show zV S v ["note"]=true↔decide (v∈vals m)=true;rw[Zt];exact M.is ok
theorem ML {aN aT b1 b2 b3 b4 b5 b6 b7 b8:Ei}(d:[b5,b7,b8,aN,aT,b1,b2,b3,b4,b6].Nodup):"refused "++Kh b5 b7 b8 b5="refused version"/\"refused "++Kh b5 b7 b8 b7="refused nobranch"/\"refused "++Kh b5 b7 b8 b8="refused branch":=by
 simp only[ZK,Za,ZC,Yl,Jr]at d;obtain⟨⟨b,c,_⟩,⟨e,_⟩,_⟩:=d;unfold Kh;rw[Zp rfl,Zm<|EE b,Zp rfl,Zm<|EE c,Zm<|EE e];exact⟨by decide +kernel,by decide +kernel,by decide +kernel⟩
namespace A3
abbrev st:Stmt:=top 69
theorem sc:W7 ["_law_book","_law_deed_here","_law_e"] ["_law_book","_law_deed_here"] (zE st):=Cf
theorem ok (F:Wt K "_law_done" "_law_done" st f fd)(T:Txt P w K mg t1 t2 t3 t4 t5 t6 aL aC aN aT aA b1 b2 b3 b4 b5 b6 b7 b8 aD)(QT:TV P w K mg base aD 8 "begin" ["self","branch","version"]<|wX P w K aC aD b5 b8)(Qp:TV P w K mg base aD 7 "set_head" ["self","branch","version"]<|wZ P w K aC aD b5 b7)(Qe:TV P w K mg base aD 4 "head" ["self","branch"]<|zm P w K aC aD b7)(QU:TV P w K mg base aD 11 "keep" ["self","branch","files","words"]<|wW P w K aC aD b7)(QV:vO P w K mg base 1 "_law_word" ["_law_e"]<|MS b5 b7 b8):W0 P w K mg base Cd 12 f fd ["_law_book","_law_deed_here"] (wA P w K aC aD):=by
 refine F.ok sc fun _ _ _ _ H vs Q E J h=>?_;obtain⟨b,p,a,h,Z,S,g,ls,m,R,rfl,B,s,la,M,hl,sl,t,k2⟩:=h;refine⟨_,(zF<|NP rfl rfl rfl (fun _ _=>(zD (z7 (zO xB (zQ (W4:Cc _<|WR K) (pv 1) zH) W9<|zR _) (zF<|zK<|yF (pv 0) T.Wg QT J.m (qA rfl)<|zA (zQ (W4:Cc _<|WR K) (pv 1) zH)<|zA (zQ (W4:Cc _<|WR K) (pv 1) zH) zC) zM)<|zD (z7 (zO xB (zQ (W4:Cc _<|WR K) (pv 1) zH) W9<|zR _) (zF<|zK<|yF (pv 0) T.Wg Qp J.m (qA rfl)<|zA (zQ (W4:Cc _<|WR K) (pv 1) zH)<|zA (zQ (W4:Cc _<|WR K) (pv 1) zH) zC) zM)<|zD (z7 (zO xB (zQ (W4:Cc _<|WR K) (pv 1) zH) W9<|zR _) (zF<|zK<|yF (pv 0) T.Wg Qe J.m (qA rfl)<|zA (zQ (W4:Cc _<|WR K) (pv 1) zH) zC) zM)<|zF<|zK<|yF (pv 0) T.Wg QU J.m (qA rfl)<|zA (zQ (W4:Cc _<|WR K) (pv 1) zH)<|zA xN<|zA (zQ (W4:Cc _<|WR K) (pv 1) zH) zC)) rfl T.wK sc.nd (i:=2) rfl rfl (fun z=>(zF<|zK<|K9 (z:=z) QV (J.m.h.mark _) rfl<|zA (pv 2) zC))),?_⟩
 obtain⟨w5,w7,w8⟩:=ML T.dst;have B':=B;obtain⟨U,hb⟩:=B.ob;refine⟨fun O n cls=>O=[some<|.ref b,some<|.ref p,none]/\∃x∈[b5,b7,b8],cls=.ref x/\∀A,W8 n A->Q (.str<|"refused "++Kh b5 b7 b8 x) A,?_,?_⟩
 ·have j:(∀x y o,R=.keep x y->VP g x≠some o)->(VT (vals m) g R).2=g->∀n,W8 H n->Q (VT (vals m) g R).1 n:=fun nk e n G=>t nk n (Off.of G) (by rw[e];exact B.same G);cases R with
  |beg d o =>
   have t:=t<|fun x y o z=>nomatch z;have j:=j<|fun x y o z=>nomatch z;obtain⟨v,l,nd,vo⟩:=s;refine⟨_,rfl,p,_,_,_,rfl,rfl,l,rfl,rfl,_,rfl,Xh rfl ⟨_,rfl,b,U,_,rfl,hb,rfl,_,rfl,p,_,_,_,rfl,rfl,l,rfl,_,rfl,p,_,_,_,rfl,rfl,l,rfl,b,a,h,Z,S,g,d,Co o,v,oV o,rfl,B,nd.1,nd.2.1,?_,hl,?_,?_,?_⟩⟩
   ·cases o<;>rfl
   ·intro z n G;have e:VT (vals m) g (.beg d o)=(.str "refused branch",g):=Zp z;rw[e]at j;exact⟨rfl,b8,by simp,rfl,fun A r=>by rw[w8];exact j rfl _<|G.trans r⟩
   ·intro D N z3 z4 n G;have e:VT (vals m) g (.beg d o)=(.str "refused version",g):=(Zm (fun q=>by rcases q with q|q<;>simp_all)).trans (Zp ⟨by cases o with|none=>exact absurd rfl z3|some v=>rfl,by rw[←M.inV B.ok];exact z4⟩);rw[e]at j;exact⟨rfl,b5,by simp,rfl,fun A r=>by rw[w5];exact j rfl _<|G.trans r⟩
   ·intro x o' ed X D N z3 n C I;obtain rfl:=FO X;subst ed;have e:VT (vals m) g (.beg (.str x) o)=(.non,VU g x o):=(Zm (fun q=>by rcases q with q|q<;>simp_all)).trans (Zm fun q=>by
     rcases z3 with z|z
     ·cases o with
      |none=>cases q.1
      |some v=>cases z
     ·rw[M.inV B.ok,q.2]at z;cases z)
    rw[e]at t;exact t n C I
  |set x o =>
   have t:=t<|fun x y o z=>nomatch z;have j:=j<|fun x y o z=>nomatch z;obtain⟨l,L,vo⟩:=s;refine⟨_,rfl,p,_,_,_,rfl,rfl,l,rfl,rfl,_,rfl,Uf (by decide +kernel) ⟨_,rfl,p,_,_,_,rfl,rfl,l,rfl,rfl,_,rfl,Xh rfl ⟨_,rfl,b,U,_,rfl,hb,rfl,_,rfl,p,_,_,_,rfl,rfl,l,rfl,_,rfl,p,_,_,_,rfl,rfl,l,rfl,b,a,h,Z,S,g,x,Co o,oV o,rfl,B,?_,hl,?_,?_,?_⟩⟩⟩
   ·cases o<;>rfl
   ·intro z;have e:VT (vals m) g (.set x o)=(.str "refused nobranch",g):=Zp z;rw[e]at j;exact⟨rfl,b7,by simp,rfl,fun A r=>by rw[w7];exact j rfl _ r⟩
   ·intro D N;have e:VT (vals m) g (.set x o)=(.str "refused version",g):=(Zm (fun q=>by rw[q]at D;cases D)).trans (Zm fun q=>by rw[M.inV B.ok,q]at N;cases N);rw[e]at j;exact⟨rfl,b5,by simp,rfl,fun A r=>by rw[w5];exact j rfl _ r⟩
   ·intro D y Y N n eH I;obtain rfl:o=some y:=by
     cases o with
     |none=>cases Y
     |some v=>injection Y with Y;rw[Y]
    have e:VT (vals m) g (.set x (some y))=(.non,VU g x<|some y):=(Zm (fun q=>by rw[q]at D;cases D)).trans (Zp<|by rwa[←M.inV B.ok]);rw[e]at t;exact t n (by rw[eH];exact xK) I
  |head x =>
   have j:=j<|fun x y o z=>nomatch z;obtain⟨l,L⟩:=s;refine⟨_,rfl,p,_,_,_,rfl,rfl,l,rfl,rfl,_,rfl,Uf (by decide +kernel) ⟨_,rfl,p,_,_,_,rfl,rfl,l,rfl,rfl,_,rfl,Uf (by decide +kernel) ⟨_,rfl,p,_,_,_,rfl,rfl,l,rfl,rfl,_,rfl,Xh rfl ⟨_,rfl,b,U,_,rfl,hb,rfl,_,rfl,p,_,_,_,rfl,rfl,l,rfl,b,a,h,Z,S,g,x,rfl,B,?_,?_⟩⟩⟩⟩
   ·intro o z;have e:VT (vals m) g (.head x)=(oV o,g):=congrArg (Ud g) z;rw[e]at j;exact j rfl _<|W8.refl _
   ·intro z;have e:VT (vals m) g (.head x)=(.str "refused nobranch",g):=congrArg (Ud g) z;rw[e]at j;exact⟨rfl,b7,by simp,rfl,fun A r=>by rw[w7];exact j rfl _ r⟩
  |keep x y =>
   obtain⟨l,L,ly⟩:=s;refine⟨_,rfl,p,_,_,_,rfl,rfl,l,rfl,rfl,_,rfl,Uf (by decide +kernel) ⟨_,rfl,p,_,_,_,rfl,rfl,l,rfl,rfl,_,rfl,Uf (by decide +kernel) ⟨_,rfl,p,_,_,_,rfl,rfl,l,rfl,rfl,_,rfl,Uf (by decide +kernel) ⟨_,rfl,b,U,_,rfl,hb,rfl,_,rfl,p,_,_,_,rfl,rfl,l,rfl,fun c nc=>?_⟩⟩⟩⟩;have u:=zG (o:=.dK []) nc;refine⟨_,rfl,p,_,_,_,rfl,rfl,u.Wv l,rfl,b,a,h,c,Z,S,g,x,y,rfl,B.same u,hl,sl,zB,fun z=>?_,fun z=>?_,ly,fun z=>?_,fun o ho n C I=>k2 x y o rfl ho n (fun c' w aa e=>C c' w aa<|u _ _ e) I⟩
   ·obtain⟨o,X⟩:=B.sh.ex c z;rw[nc]at X;cases X
   ·rw[z,B.hd]at nc;cases nc
   ·have e:VT (vals m) g (.keep x y)=(.str "refused nobranch",g):=congrArg (Ud g) z;have j:=j (fun x' y' o q q2=>by cases q;rw[z]at q2;cases q2);rw[e]at j;exact⟨rfl,b7,by simp,rfl,fun A r=>by rw[w7];exact j rfl _<|u.trans r⟩
 ·rintro O n cls z ⟨rfl,x,L,rfl,hq⟩ nz;refine⟨T.exm x L,?_⟩;exact⟨_,rfl,x,rfl,zB,L,fun H3 s3=>hq _<|(zG nz).trans s3⟩
end A3
end
inductive wD (P:Ek)(w:Ep)(K:Ca)(vs:Dk)(H:Hp)(Q:VK)(e3:XK):Prop
 |mk (t p hh md lb nl:Ei) (hs:Hs) (m:Md) (x y n:Str) (o:Option Str) (h0:vs=[.ref t,.ref p,.str n]) (h1:H t=some (.dK<|Cm hh md lb nl)) (h2:H hh=some (.dK<|hkv hs)) (h3:TJ P w K H md<|Ci m) (h4:Wu K H p [.str "keep",.str x,.str y]) (h5:VP hs x=some o) (h6:Ua o) (h7:El y=true) (h8:El n=true) (h9:(∀v∈vals m,El v=true)) (h10:hs.length<1000) (h11:m.length<1000) (h12:(∀e∈m,e.1=(o,y)->e.2=n)) (h13:((∀e∈m,e.1≠(o,y))->n∉vals m)) (h14:∀H',Off [hh,md] H H'->H' hh=some (.dK<|hkv<|VU hs x<|some n)->TJ P w K H' md (Ci<|setM m (o,y) n)->Q (.bl true) H'):wD P w K vs H Q e3
theorem Nm (vs:Da)(n:Str):((vs.map E9).any fun y=>EG y<|.str n)=decide (n∈vs):=by
 rw[VH,ZS,ZP,Zt];constructor
 ·rintro⟨x,b,e⟩;have e:(x==n)=true:=e;rwa[←YZ e]
 ·intro h;exact⟨n,h,Yn n⟩
section
variable {K:Ca}{H H':Hp}{X:De}{c:Ei}{xs:Dk}
theorem qD (n:∀b∈X,∀xs,¬Rd H b (.tup xs))(o:Off X H H')(h:Wu K H c xs):Wu K H' c xs:=by
 rcases h with h|h
 ·have ne:c∉X:=fun z=>n c z _ h
  rcases h with h|⟨u,h⟩
  ·exact .inl (.inl<|o c _ ne h)
  ·exact .inl (.inr ⟨u,o c _ ne h⟩)
 ·exact .inr h
end
theorem UI {K:Ca}(T:TJ P w K H d ps):Wd H [d]:=fun b hb=>by
 obtain⟨_,_,_,e,c,_⟩:=T;rw[Q8.mp hb];exact⟨_,c,fun _ z=>(nomatch z),fun _ z=>(nomatch z),fun _ _ z=>(nomatch z)⟩
theorem Hf {K:Ca}(T:TJ P w K H d ps){a:Ei}{b:Dl}(e:H a=some (.dK b)):a≠d:=fun z=>by
 obtain⟨_,_,_,f,c,_⟩:=T;rw[z,c]at e;cases e
section
variable {P:Ek}{w:Ep}{K:Ca}{mg:Str->Dc}{base:EC}{t1 t2 t3 t4 t5 t6:Tok}{aL aC aN aT aA b1 b2 b3 b4 b5 b6 b7 b8 aD:Ei}
namespace A4
abbrev st:Stmt:=top 72
theorem sc:W7 ["_law_table","_law_deed_here","_law_found","_law_key"] ["_law_table","_law_deed_here","_law_found"] (zE st):=Cf
theorem ok (F:Wt K "_law_kept" "_law_kept" st f fd)(T:Txt P w K mg t1 t2 t3 t4 t5 t6 aL aC aN aT aA b1 b2 b3 b4 b5 b6 b7 b8 aD):W0 P w K mg base Cd 1 f fd ["_law_table","_law_deed_here","_law_found"] (wD P w K):=by
 refine F.ok sc fun _ _ _ _ H vs Q E r h=>?_;obtain⟨t,p,A,md,lb,nl,L,m,x,y,n,o,rfl,ht,G,C,hp,ho,vo,oy,on,lv,hl,ml,k1,k2,k⟩:=h;refine⟨_,(zD (Cg (i:=3) sc.nd<|yI<|zA (yH r.WN (yH r.WN (pv 0) W9<|fun _ _=>rfl) (zQ (W4:Cc _<|WR K) (pv 1) zH)<|fun _ _=>rfl)<|zA (zQ (W4:Cc _<|WR K) (pv 1) zH) zC)<|zD (z7 (yS<|zP (K:=K)<|zJ (zS (K:=K)) (by rfl) T.isinstance Zf<|zA (pv 2)<|zA (yM (v:=.ty "str") rfl T.str ZR rfl) zC) (zF<|zK jP) zM)<|zD (z7 (PW.pt<|kH (zO (K4 r.units) (pv 3) (yH r.WN (pv 0) W9<|fun _ _=>rfl)<|by with_unfolding_all rfl)<|qR<|zO (UA r.units) (FR r.units (yH r.WN (pv 0) W9<|fun _ _=>rfl) (pv 3)<|fun _ _=>rfl) (pv 2)<|zR _) (zF<|zK jP) zM)<|zD (z7 (PW.pt<|kH (zO (NB r.units) (pv 3) (yH r.WN (pv 0) W9<|fun _ _=>rfl)<|by with_unfolding_all rfl)<|qR<|zO (OQ (K:=K) r.units) (pv 2) (jG rfl T.list rfl<|yH r.WN (pv 0) W9<|fun _ _=>rfl)<|by with_unfolding_all rfl) (zF<|zK jP) zM)<|zD (FU r.units (yH r.WN (pv 0) W9<|fun _ _=>rfl) (pv 3) (pv 2) rfl)<|zD (xJ r.WN (yH r.WN (pv 0) W9<|fun _ _=>rfl) (zQ (W4:Cc _<|WR K) (pv 1) zH) (pv 2) rfl)<|zF<|zK jP),?_⟩
 refine⟨_,rfl,t,.ref A,rfl,N0▸Wn.k (k:=.inr "heads") ht,_,rfl,p,_,_,_,rfl,rfl,hp,rfl,A,oV o,rfl,.inl ⟨_,.inr x,.inl G,rfl,by rw[qQ,ho];rfl⟩,_,rfl,p,_,_,_,rfl,rfl,hp,rfl,VR 2,fun kp nk=>?_⟩;have u:=zG (o:=.tup [oV o,.str y]) nk;have X:=zB (H:=H) (a:=kp) (o:=.tup [oV o,.str y]);generalize upd H kp (.tup [oV o,.str y])=O at u X ⊢;have s:=u _ _ ht;have ab:=u _ _ G;have d:TJ P w K O md (Ci m):=An.TJ.off (fp:=[]) (fun b hb=>nomatch hb) (Off.of u) (by obtain⟨_,_,_,xs,S,_⟩:=C;rw[S];exact u _ _ S) C;have ac:=u.Wv hp;have M:Uo (V4 (o,y)):=OE vo oy;have Y:Dt K O (V4 (o,y)) (.ref kp):=⟨kp,_,rfl,Wu.of X,_,_,rfl,BB o,_,_,rfl,rfl,rfl⟩;refine xD ⟨_,rfl,_,_,.str n,_,rfl,rfl,XD K "str",_,rfl,VX ?_⟩;have ev:(Ci m).map (·.2)=(vals m).map V.str:=by unfold Ci vals;rw[ZB,ZB];rfl
 have e:=KS (o,y) m;have U:∀{j:Hp},W8 O j->∀g,TJ P w K (upd j md g) md (WK (Ci m) (V4 (o,y))<|.str n)->(∃es,g=U7 md es)->∃a H4,V.ref A=.ref a/\wH (upd j md g) a (.str x) (.str n) H4/\Q (.bl true) H4:=fun{j} B g J _=>by
  have nh:A≠md:=Hf C G;have h2:(upd j md g) A=some (.dK<|hkv L):=by rw[zI nh];exact B _ _ ab
  refine⟨A,_,rfl,.inl ⟨_,.inr x,h2,rfl,jH (by rw[show(hkv L).length=L.length from Q5 ..];omega),rfl⟩,?_⟩;rw[OK]at J;have ep:WK (hkv L) (.inr x) (V.str n)=hkv (VU L x<|some n):=Gm L x<|some n;rw[ep];refine k _ (fun c w nc ec=>?_) zB<|An.TJ.off (fp:=[A]) (Xx h2) xK (zI<|EE nh) J;rw[zI<|fun z=>nc (by rw[z];simp),zI<|fun z=>nc (by rw[z];simp)];exact B _ _<|u _ _ ec
 have Z:(Ci m).length<10000:=by rw[show(Ci m).length=m.length from Q5 ..];omega
 have tm:t≠md:=Hf C ht;have D:∀{j:Hp},W8 O j->Wn j t (.str "made") (some<|.ref md)/\TJ P w K j md (Ci m)/\Dt K j (V4 (o,y)) (.ref kp):=fun{j} B =>
  ⟨G7▸Wn.k (k:=.inr "made") (B _ _ s),An.TJ.off (fp:=[]) (fun b hb=>nomatch hb) (Off.of B) (by obtain⟨_,_,_,xs,S,_⟩:=d;rw[S];exact B _ _ S) d,Dt.same B _ _ Y⟩
 have A2:∀{j:Hp},W8 O j->∀g,Wn (upd j md g) t (.str "heads") (some<|.ref A)/\Wu K (upd j md g) p [.str "keep",.str x,.str y]:=fun{j} B g =>
  ⟨N0▸Wn.k (k:=.inr "heads") (show(upd j md g) t=some (.dK<|Cm A md lb nl) by rw[zI tm];exact B _ _ s),qD (UI (D B).2.1).tup xK<|B.Wv ac⟩
 refine⟨_,rfl,_,rfl,t,.ref md,rfl,G7▸Wn.k (k:=.inr "made") s,kp,md,_,_,rfl,rfl,d,M,Y,_,rfl,?_⟩;cases z:m.find? fun p=>decide (p.1=(o,y)) with
 |some R =>
  have em:=List.mem_of_find?_eq_some z;have ee:=List.find?_some z;have ee:R.1=(o,y):=Zv ee;have en:=k1 R em ee;rw[z]at e;have e:VS (Ci m) (V4 (o,y))=some (.str R.2):=e;rw[en]at e;rw[e];refine VO ⟨_,rfl,t,.ref md,rfl,G7▸Wn.k (k:=.inr "made") s,_,rfl,kp,md,_,_,_,rfl,rfl,d,M,Y,e,_,rfl,.str n,.str n,rfl,rfl,qK on (ZA _),qK on (ZA _),_,rfl,?_⟩;rw[show EG (.str n) (.str n)=true from Yn n];refine VX ⟨_,rfl,_,rfl,t,.ref md,rfl,G7▸Wn.k (k:=.inr "made") s,kp,md,_,_,rfl,rfl,d,M,Y,_,rfl,?_⟩;rw[e];exact VX<|VQ ⟨_,rfl,_,rfl,t,.ref md,rfl,(D<|W8.refl _).1,_,rfl,kp,md,_,_,rfl,rfl,(D<|W8.refl _).2.1,Z,M,(D<|W8.refl _).2.2,fun g J I=>⟨_,rfl,_,rfl,t,.ref A,rfl,(A2 (W8.refl _) g).1,_,rfl,p,_,_,_,rfl,rfl,(A2 (W8.refl _) g).2,rfl,U (W8.refl _) g J I⟩⟩
 |none =>
  rw[z]at e;have e:VS (Ci m) (V4 (o,y))=none:=e;rw[e];have no:∀e∈m,e.1≠(o,y):=fun R aa q=>absurd (Zc q)<|List.find?_eq_none.mp z R aa;refine VQ<|VQ ⟨_,rfl,_,rfl,t,.ref md,rfl,G7▸Wn.k (k:=.inr "made") s,kp,md,_,_,rfl,rfl,d,M,Y,_,rfl,?_⟩;rw[e];refine Uc ⟨_,rfl,_,rfl,t,.ref md,rfl,G7▸Wn.k (k:=.inr "made") s,md,_,rfl,d,fun l ad=>?_⟩;rw[ev];have N:=zG (o:=.lst<|(vals m).map V.str) ad;refine⟨.str n,(vals m).map .str,rfl,⟨l,_,rfl,WP.of zB,W6.strs _⟩,(q9 _ lv).1,on,ZA _,_,rfl,?_⟩;rw[Nm,Zg<|k2 no];exact VQ ⟨_,rfl,_,rfl,t,.ref md,rfl,(D N).1,_,rfl,kp,md,_,_,rfl,rfl,(D N).2.1,Z,M,(D N).2.2,fun g J I=>⟨_,rfl,_,rfl,t,.ref A,rfl,(A2 N g).1,_,rfl,p,_,_,_,rfl,rfl,(A2 N g).2,rfl,U N g J I⟩⟩
end A4
inductive zb (P:Ek)(w:Ep)(K:Ca)(C D:Ei)(vs:Dk)(H:Hp)(Q:VK)(e3:XK):Prop
 |mk (b a h t hh md lb nl:Ei) (fp:De) (S:Dj) (hs:Hs) (ls:Da) (m:Md) (c:Int) (h0:vs=[.ref b,.ref t,.ref lb,.int c]) (h1:Wq P w K C D H b a h fp S hs) (h2:H t=some (.dK<|Cm hh md lb nl)) (h3:TJ P w K H md<|Ci m) (h4:WP K H lb<|ls.map V.str) (h5:ls.length=5) (h6:(∀x∈ls,yB x=true)) (h7:Mk S m) (h8:(∀v∈vals m,El v=true)) (h9:m.length<1000) (h10:∀p dd H',W8 H H'->Sv K H' ls p dd->Q (.ref p) H'):zb P w K C D vs H Q e3
theorem RC {K:Ca}{a:Ei}(b:Wu K H p [.str "a"])(hl:WP K H l [.str "a"])(ha:H a=some (.dK [])){i:Int}(c:0<=i)(e:i<10):∃v d,Ct [V.str "",.str "A",.str "abcdefghi",.str "a/b",.str "a b",.non,.int 5,.ref p,.ref l,.ref a] i=some v/\uT K H ls d v:=by
 have st:∀{x:Str},(decide (x.length<=1000)&&El x&&!yB x)=true->uT K H ls (.str x) (.str x):=fun{x} h=>by
  simp only[Zk,JP]at h;exact⟨rfl,h.1.1,.inr ⟨h.2,.inl ⟨rfl,h.1.2,ZA _⟩⟩⟩
 match i,c,e with
 | 0,_,_=>exact⟨_,_,zT (j:=0) rfl,st (x:="")<|by decide +kernel⟩
 | 1,_,_=>exact⟨_,_,zT (j:=1) rfl,st (x:="A")<|by decide +kernel⟩
 | 2,_,_=>exact⟨_,_,zT (j:=2) rfl,st (x:="abcdefghi")<|by decide +kernel⟩
 | 3,_,_=>exact⟨_,_,zT (j:=3) rfl,st (x:="a/b")<|by decide +kernel⟩
 | 4,_,_=>exact⟨_,_,zT (j:=4) rfl,st (x:="a b")<|by decide +kernel⟩
 | 5,_,_=>exact⟨_,.none,zT (j:=5) rfl,rfl,rfl,.inr ⟨rfl,.inl ⟨rfl,rfl,ZA _⟩⟩⟩
 | 6,_,_=>exact⟨_,.int 5,zT (j:=6) rfl,rfl,rfl,.inr ⟨rfl,.inl ⟨rfl,by decide,ZA _⟩⟩⟩
 | 7,_,_=>exact⟨_,.tuple [.str "a"],zT (j:=7) rfl,⟨p,_,rfl,b,_,_,rfl,rfl,rfl⟩,by decide +kernel,.inr ⟨rfl,.inl ⟨⟨p,_,rfl,b,_,_,rfl,rfl,rfl⟩,by decide +kernel,by decide +kernel⟩⟩⟩
 | 8,_,_=>exact⟨_,.list [.str "a"],zT (j:=8) rfl,⟨l,_,rfl,hl,_,_,rfl,rfl,rfl⟩,by decide +kernel,.inr ⟨rfl,.inl ⟨⟨l,_,rfl,hl,_,_,rfl,rfl,rfl⟩,by decide +kernel,by decide +kernel⟩⟩⟩
 | 9,_,_=>exact⟨_,.dict [],zT (j:=9) rfl,⟨a,_,rfl,ha⟩,rfl,.inr ⟨rfl,.inr ⟨a,_,rfl,ha,rfl⟩⟩⟩
theorem N6 {i:Int}(b:0<=i)(c:i<4):i.natAbs.log2<1920/\Uh ("w"++(toString i:Str))=true/\("w":Str).length+(toString i:Str).length<=sizeLine:=by
 match i,b,c with
 | 0,_,_=>exact⟨by decide,by decide +kernel,W3<|by decide +kernel⟩
 | 1,_,_=>exact⟨by decide,by decide +kernel,W3<|by decide +kernel⟩
 | 2,_,_=>exact⟨by decide,by decide +kernel,W3<|by decide +kernel⟩
 | 3,_,_=>exact⟨by decide,by decide +kernel,W3<|by decide +kernel⟩
namespace A5
abbrev st:Stmt:=top 70
theorem sc:W7 ["_law_book","_law_table","_law_labels_here","_law_cell","_law_label","_law_kept_here","_law_version"] ["_law_book","_law_table","_law_labels_here","_law_cell"] (zE st):=Cf
theorem ok (F:Wt K "_law_deed_by" "_law_deed_by" st f fd)(T:Txt P w K mg t1 t2 t3 t4 t5 t6 aL aC aN aT aA b1 b2 b3 b4 b5 b6 b7 b8 aD)(QW:Ss P w K mg base 7 "tree_of" ["store","name"]<|G9 P w K aC b5):W0 P w K mg base Cd 8 f fd ["_law_book","_law_table","_law_labels_here","_law_cell"] (zb P w K aC aD):=by
 refine F.ok sc fun _ A _ _ H vs Q E hr h=>?_;obtain⟨b,a,h,t,hh,md,lb,nl,fp,S,hs,ls,m,c,rfl,B,ht,ah,af,l5,la,M,lv,ml,k⟩:=h;refine⟨_,(zD (Cg (i:=4) sc.nd<|zQ (WL:Cc _<|T5 K) (pv 2)<|z5 y6 (z5 xF (pv 3) zH) zH)<|zD (Cg (i:=5) sc.nd<|jG rfl T.list rfl<|yH hr.WN (pv 1) W9<|fun _ _=>rfl)<|zD (Cg (i:=6) sc.nd<|zQ (WL:Cc _<|T5 K) (y7<|zA W9<|zA W9 zC)<|z5 y6 (z5 xF (pv 3) zH) zH)<|k8 (z7 (PW.pt<|kH (zO (UA hr.units) (pv 5) (y7 zC)<|zR _)<|qR<|zO xB (z5 y6 (z5 xF (pv 3) zH) zH) zH<|zR _) (zF<|Cg (i:=6) sc.nd<|xY QW hr.m yW<|zA (yT (pv 0) rfl)<|zA (zQ (WL:Cc _<|T5 K) (pv 5) zH) zC) zM)<|k8 (z7 (PW.pt<|kH (zO (UA hr.units) (pv 5) (y7 zC)<|zR _)<|qR<|zO PN (z5 y6 (z5 xF (pv 3) zH) zH) zH<|zR _) (zF<|Cg (i:=6) sc.nd<|zQ (WL:Cc _<|T5 K) (pv 5)<|z5 y6 (z5 xF (pv 3) zH)<|zJ z0 (by rfl) T.len Z0<|zA (pv 5) zC) zM)<|zD (z7 (zO xB (z5 y6 (pv 3) zH) zH<|zR _) (zF<|zK<|yI<|zA W9<|zA (pv 4)<|zA qU zC) zM)<|zD (z7 (zO xB (z5 y6 (pv 3) zH) zH<|zR _) (zF<|zK<|yI<|zA W9<|zA (pv 4)<|zA (pv 6) zC) zM)<|zD (z7 (zO xB (z5 y6 (pv 3) zH) zH<|zR _) (zF<|zK<|yI<|zA W9<|zA (pv 4)<|zA (zQ (WL:Cc _<|T5 K) (y7<|zA (pv 6)<|zA (pv 6)<|zA (pv 6)<|zA qU zC)<|z5 y6 (z5 xF (pv 3) zH) zH) zC) zM)<|zD (z7 (zO xB (z5 y6 (pv 3) zH) zH<|zR _) (zF<|zK<|yI<|zA W9<|zA (pv 4) zC) zM)<|zD (z7 (zO xB (z5 y6 (pv 3) zH) zH<|zR _) (zF<|zK<|yI<|zA W9<|zA (zQ (WL:Cc _<|T5 K) (y7<|zA W9<|zA W9<|zA W9<|zA W9<|zA W9<|zA qU<|zA zH<|zA (yI<|zA W9 zC)<|zA (y7<|zA W9 zC)<|zA xN zC)<|z5 y6 (z5 xF (pv 3) zH) zH)<|zA qU zC) zM)<|zF<|zK<|yI<|zA W9<|zA (pv 4)<|zA (z5 yQ W9<|yC xZ (by rfl) T.str ZR<|zA (z5 y6 (z5 xF (pv 3) zH) zH) zC) zC),?_⟩
 obtain⟨x,L,hn⟩:=GR (f:=V.str) (xs:=ls) (i:=c / 7 % 5) (by omega) (by rw[l5];omega);refine⟨_,rfl,_,rfl,_,_,rfl,rfl,⟨by decide,by decide⟩,_,_,rfl,rfl,(by decide:(0:Int)<5),lb,_,_,_,rfl,rfl,af,hn,_,rfl,t,.ref md,rfl,G7▸Wn.k (k:=.inr "made") ht,md,_,rfl,ah,fun l Z=>?_⟩;have ev:(Ci m).map (·.2)=(vals m).map V.str:=by unfold Ci vals;rw[ZB,ZB];rfl
 rw[ev];have u:=zG (o:=.lst<|(vals m).map V.str) Z;have J:=zB (H:=H) (a:=l) (o:=.lst<|(vals m).map V.str);generalize upd H l (.lst<|(vals m).map V.str)=H1 at u J ⊢;refine⟨VR 2,fun q N=>?_⟩;have u2:=u.trans<|zG (o:=.lst [V.str "nosuch",.str ""]) N;have g:=(zG (o:=.lst [V.str "nosuch",.str ""]) N) _ _ J;obtain⟨v0,Y,O⟩:∃v,Ct [V.str "nosuch",V.str ""] (c / 175 % 2)=some (.str v)/\El v=true:=by
  rcases(show c / 175 % 2=0\/c / 175 % 2=1 by omega) with z|z
  ·exact⟨"nosuch",by rw[z];rfl,by decide +kernel⟩
  ·exact⟨"",by rw[z];rfl,by decide +kernel⟩
 have C:=zB (H:=H1) (a:=q) (o:=.lst [V.str "nosuch",.str ""]);generalize upd H1 q (.lst [V.str "nosuch",.str ""])=H2 at u2 g C ⊢;have B2:=B.same u2;obtain⟨dx,hb⟩:=B2.ob;have sh:ET (.list<|(vals m).map .str)=true/\ET (.list [])=true:=⟨(qB lv).1,by decide⟩;refine⟨_,rfl,_,_,rfl,rfl,⟨by decide,by decide⟩,_,_,rfl,rfl,(by decide:(0:Int)<2),q,_,_,_,rfl,rfl,WP.of C,Y,?_⟩;have ne:EG (.list<|(vals m).map .str) (.list [])=decide (vals m=[]):=q8 _ [];refine⟨fun D U=>∃v,D=[some<|.ref b,some<|.ref t,some<|.ref lb,some<|.int c,some<|.str x,some<|.ref l,some<|.str v]/\W8 H2 U/\El v=true,?_,?_⟩
 ·refine⟨_,rfl,VR 0,fun r nr=>?_⟩;have n:=zG (o:=.lst []) nr;refine⟨.list<|(vals m).map .str,.list [],⟨l,_,rfl,WP.of<|n _ _ g,W6.strs _⟩,⟨r,[],rfl,WP.of zB,rfl⟩,sh.1,sh.2,_,rfl,?_⟩;rw[ne]
  by_cases R:vals m=[]
  ·exact BZ R (VQ ⟨v0,rfl,n,O⟩)
  ·rw[Zg R];refine Uc ⟨_,rfl,_,_,rfl,rfl,⟨by decide,by decide⟩,_,_,rfl,rfl,(by decide:(0:Int)<5),rfl,_,rfl,V3 (fun _=>?_) fun _=>⟨v0,rfl,n,O⟩⟩;obtain⟨I,mr,em⟩:∃I mr,m=I::mr:=by
    cases m with
    |nil=>exact absurd rfl R
    |cons a b=>exact⟨a,b,rfl⟩
   have ag:I∈m:=by rw[em];exact Zj
   obtain⟨t',aa,X⟩:=M.notes I ag;have h0:Ct ((vals m).map V.str) 0=some (.str I.2):=by rw[em];exact zT (j:=0) rfl
   have B3:=B2.same n;obtain⟨ab,ad⟩:=B3.ob;refine⟨_,rfl,b,aD,ab,_,_,rfl,ad,T.Wg,T.m1,rfl,_,rfl,l,_,_,_,rfl,rfl,WP.of<|n _ _ g,h0,a,fp,S,.str I.2,_,rfl,B3.sh,B3.ok.th,rfl,fun e he t2 ps y en ed=>?_,fun z=>?_⟩
   ·injection en with en;have:At S I.2 (.note t2 ps y):=⟨e,he,en.symm,ed⟩;have:=At.thing B.ok this X;injection this with this _ _;subst this;obtain⟨e2,ae,ac,_⟩:=aa;exact⟨t2,rfl,n,by rw[←ac];exact(B.ok.nm ae).ok⟩
   ·rw[show VY S (.str I.2) "note"=true from Ry X]at z;cases z
 ·rintro D U ⟨v,rfl,G,ov⟩;refine⟨fun D U=>∃v,D=[some<|.ref b,some<|.ref t,some<|.ref lb,some<|.int c,some<|.str x,some<|.ref l,some<|.str v]/\W8 H2 U/\El v=true,?_,?_⟩
  ·refine⟨_,rfl,VR 0,fun r nr=>?_⟩;have n:=G.trans<|zG (o:=.lst []) nr;refine⟨.list<|(vals m).map .str,.list [],⟨l,_,rfl,WP.of<|n _ _ g,W6.strs _⟩,⟨r,[],rfl,WP.of zB,rfl⟩,sh.1,sh.2,_,rfl,?_⟩;rw[ne]
   by_cases R:vals m=[]
   ·exact BZ R (VQ ⟨v,rfl,n,ov⟩)
   ·rw[Zg R];refine Uc ⟨_,rfl,_,_,rfl,rfl,⟨by decide,by decide⟩,_,_,rfl,rfl,(by decide:(0:Int)<5),?_⟩;have lp:(0:Int)<(((vals m).map V.str).length:Nat):=by
     have:=List.length_pos_iff.mpr R;rw[Q5];omega
    have lz:(((vals m).map V.str).length:Nat)<=1000:=by
     rw[Q5,show(vals m).length=m.length from Q5 ..];omega
    obtain⟨v2,aj,ai⟩:=GR (f:=V.str) (xs:=vals m) (i:=c / 175 % (((vals m).map V.str).length:Nat)) (Int.emod_nonneg _<|by omega) (by rw[←Q5 (f:=V.str)];exact Int.emod_lt_of_pos _ lp);refine⟨_,_,rfl,rfl,_,rfl,V3 (fun _=>?_) fun _=>⟨v,rfl,n,ov⟩⟩;exact⟨_,rfl,_,rfl,_,_,rfl,rfl,⟨by decide,by decide⟩,_,rfl,l,_,rfl,.inl<|WP.of<|n _ _ g,_,_,rfl,rfl,lp,l,_,_,_,rfl,rfl,WP.of<|n _ _ g,ai,v2,rfl,n,lv v2<|Zu aj⟩
  ·rintro D U ⟨v,rfl,G,ov⟩;have L:=Zu L;have G:=u2.trans G;clear J g C u u2 B2 hb Z N ne sh hn Y O;have nm:∀H,uT K H ls (.str x) (.str x):=fun H=>⟨rfl,Zc (by have:=(Tf.mp<|la x L).2.1;omega),.inl ⟨x,L,rfl⟩⟩;have vo:Ua (some v):=fun z hz=>by cases hz;exact ov
   have vn:Ua none:=fun z hz=>by cases hz
   refine⟨_,rfl,_,_,rfl,rfl,(by decide:(0:Int)<7),rfl,_,rfl,V3 (fun _=>?_) fun _=>?_⟩
   ·exact⟨_,rfl,VR 3,fun p s=>k p (.beg (.str x) none) _ (G.trans<|zG s) ⟨_,Wu.of zB,nm _,vn⟩⟩
   refine⟨_,rfl,_,_,rfl,rfl,(by decide:(0:Int)<7),rfl,_,rfl,V3 (fun _=>?_) fun _=>?_⟩
   ·exact⟨_,rfl,_,rfl,VR 3,fun p s=>k p (.beg (.str x)<|some v) _ (G.trans<|zG s) ⟨_,Wu.of zB,nm _,vo⟩⟩
   refine⟨_,rfl,_,_,rfl,rfl,(by decide:(0:Int)<7),rfl,_,rfl,V3 (fun _=>?_) fun _=>?_⟩
   ·refine⟨_,rfl,_,rfl,_,rfl,_,rfl,VR 4,fun q N=>?_⟩;have uq:=G.trans<|zG (o:=.lst [V.str v,.str v,.str v,.non]) N;obtain⟨o,ho,oo⟩:∃o,Ct [V.str v,V.str v,V.str v,V.non] (c / 350 % 4)=some (oV o)/\Ua o:=by
     rcases(show c / 350 % 4=0\/c / 350 % 4=1\/c / 350 % 4=2\/c / 350 % 4=3 by omega) with z|z|z|z
     ·exact⟨some v,by rw[z];exact zT (j:=0) rfl,vo⟩
     ·exact⟨some v,by rw[z];exact zT (j:=1) rfl,vo⟩
     ·exact⟨some v,by rw[z];exact zT (j:=2) rfl,vo⟩
     ·exact⟨none,by rw[z];exact zT (j:=3) rfl,vn⟩
    exact⟨_,rfl,_,_,rfl,rfl,⟨by decide,by decide⟩,_,_,rfl,rfl,(by decide:(0:Int)<4),q,_,_,_,rfl,rfl,WP.of zB,ho,VR 3,fun p s=>k p (.set x o) _ (uq.trans<|zG s) ⟨Wu.of zB,L,oo⟩⟩
   refine⟨_,rfl,_,_,rfl,rfl,(by decide:(0:Int)<7),rfl,_,rfl,V3 (fun _=>?_) fun _=>?_⟩
   ·exact⟨_,rfl,VR 2,fun p s=>k p (.head x) _ (G.trans<|zG s) ⟨Wu.of zB,L⟩⟩
   refine⟨_,rfl,_,_,rfl,rfl,(by decide:(0:Int)<7),rfl,_,rfl,V3 (fun _=>?_) fun _=>?_⟩
   ·refine⟨VR 1,fun p1 n1=>⟨VR 1,fun l1 m1=>fun d1 e1=>⟨VR 10,fun q N=>?_⟩⟩⟩;have uA:=zG (o:=.lst [V.str "a"]) m1;have uB:=zG (o:=.dK []) e1;have uC:=zG (o:=.lst [V.str "",.str "A",.str "abcdefghi",.str "a/b",.str "a b",.non,.int 5,.ref p1,.ref l1,.ref d1]) N;have uq:=(((G.trans<|zG (o:=.tup [V.str "a"]) n1).trans uA).trans uB).trans uC;obtain⟨vv,d,hv,nd⟩:=RC (K:=K) (ls:=ls) (p:=p1) (l:=l1) (a:=d1) (uC.Wv<|uB.Wv<|uA.Wv<|Wu.of zB) (uC.seq<|uB.seq<|WP.of zB) (uC _ _ zB) (i:=c / 7 % 10) (by omega) (by omega);exact⟨_,rfl,_,_,rfl,rfl,⟨by decide,by decide⟩,_,_,rfl,rfl,(by decide:(0:Int)<10),q,_,_,_,rfl,rfl,WP.of zB,hv,VR 3,fun p s=>k p (.beg d none) _ (uq.trans<|zG s) ⟨vv,Wu.of zB,nd.same<|zG s,vn⟩⟩
   ·obtain⟨w1,w2,w3⟩:=N6 (i:=c / 35 % 4) (by omega) (by omega);exact⟨_,rfl,_,rfl,_,_,rfl,rfl,⟨by decide,by decide⟩,_,_,rfl,rfl,(by decide:(0:Int)<4),_,rfl,w1,_,_,rfl,rfl,w3,VR 3,fun p s=>k p (.keep x _) _ (G.trans<|zG s) ⟨Wu.of zB,L,w2⟩⟩
end A5
end
inductive uM (P:Ek)(w:Ep)(K:Ca)(C D:Ei)(vs:Dk)(H:Hp)(Q:VK)(e3:XK):Prop
 |mk (b a h hh:Ei) (fp:De) (S:Dj) (hs:Hs) (h0:vs=[.ref b,.ref hh]) (h1:Wq P w K C D H b a h fp S hs) (h2:H hh=some (.dK<|hkv hs)) (h3:hh∉fp) (h4:hh≠h) (h5:hs.length<60) (h6:∀H',W8 H H'->Q (.bl true) H'):uM P w K C D vs H Q e3
section
variable {P:Ek}{w:Ep}{K:Ca}{C D:Ei}{H H':Hp}{b a h:Ei}{fp:De}{S S':Dj}{hs:Hs}
theorem Wq.ver (B:Wq P w K C D H b a h fp S hs){x:Str}{o:Option Str}(e:VP hs x=some o):Ua o:=fun v d=>by
 obtain⟨n,hn,c⟩:=Ze.mp<|jI<|B.hv _ (jO e) v d;rw[←c];exact(B.ok.nm hn).ok
theorem Wq.off (B:Wq P w K C D H b a h fp S hs){X:De}(n:∀b∈X,∀xs,¬Rd H b (.tup xs))(o:Off X H H')(nb:b∉X)(nh:h∉X)(e:∀c∈fp,c∉X):Wq P w K C D H' b a h fp S hs:=by
 obtain⟨d,hb⟩:=B.ob;exact⟨⟨d,o _ _ nb hb⟩,B.sh.off n o e,o _ _ nh B.hd,B.nb,B.nh,B.ok,B.nd,B.hv⟩
end
theorem GH (h:Ua o):ET (Co o)=true/\EG (Co o) (Co o)=true:=by
 cases o with
 |none=>exact⟨by decide,rfl⟩
 |some v=>exact⟨qK (h v rfl)<|ZA _,Yn v⟩
section
variable {P:Ek}{w:Ep}{K:Ca}{mg:Str->Dc}{base:EC}{t1 t2 t3 t4 t5 t6:Tok}{aL aC aN aT aA b1 b2 b3 b4 b5 b6 b7 b8 aD:Ei}
namespace A6
abbrev st:Stmt:=top 74
theorem sc:W7 ["_law_book","_law_heads"] ["_law_book","_law_heads"] (zE st):=Cf
theorem ok (F:Wt K "_law_heads_stand" "_law_heads_stand" st f fd)(T:Txt P w K mg t1 t2 t3 t4 t5 t6 aL aC aN aT aA b1 b2 b3 b4 b5 b6 b7 b8 aD)(Z:TV P w K mg base aD 4 "head" ["self","branch"]<|zm P w K aC aD b7):W0 P w K mg base Cd 5 f fd ["_law_book","_law_heads"] (uM P w K aC aD):=by
 refine F.ok sc fun _ _ _ _ H vs Q E y h=>?_;obtain⟨b,a,h,d,R,S,e,rfl,B,j,nf,nh,hl,k⟩:=h;refine⟨_,(zF<|zK<|yO (GM y.units) (NL<|xR (sc:=zE st) (N:=["_law_book","_law_heads"]) (N':=["_law_label","_law_heads","_law_book"]) (src:=[none,some 1,some 0]) .a rfl rfl rfl (FS<|Xz<|pv 1) (fun _ _ _ _=>(zY (i:=0) (show(["_law_label","_law_heads","_law_book"]:Da).Nodup by decide +kernel) rfl (EY rfl))) (fun _ _ _ _=>(Mw<|zO (NA (K:=K) y.units) (yF (pv 2) T.Wg Z y.m yW<|zA (pv 0) zC) (yH y.WN (pv 1) (pv 0)<|fun _ _=>rfl)<|zR _)) (fun _ _ _ _=>(pv 0))) (y7 zC) (zR _)),?_⟩;refine⟨_,rfl,d,_,rfl,j,fun ob=>?_⟩;have n0:∀o u,H d≠some (.frz o u):=fun o u z=>by rw[j]at z;cases z
 have nb:b∉[d]:=fun z=>by
  obtain⟨O,hb⟩:=B.ob;rw[Q8.mp z,j]at hb;cases hb
 have Y:Wq P w K aC aD (upd H d<|.frz ob<|.dK<|hkv e) b a h R S e:=B.off (Xx j) xK nb (fun z=>nh (Q8.mp z).symm) (fun c hc z=>nf<|Q8.mp z▸hc);have g:(upd H d<|.frz ob<|.dK<|hkv e) d=some (.frz ob<|.dK<|hkv e):=zB;have kl:(hkv e).length=e.length:=Q5 ..;refine⟨d,ob,hkv e,rfl,g,Ht (fun i C D n=>∃A,D=[A,some<|.ref d,some<|.ref b]/\W8 (upd H d<|.frz ob<|.dK<|hkv e) n/\C=[]) ⟨none,rfl,W8.refl _,rfl⟩ (W3<|by omega) ?_ ?_ ?_⟩
 ·rintro i C D n t ⟨A,rfl,l,rfl⟩;exact⟨l _ _ g,ZA _⟩
 ·rintro i kk v C D n t ⟨A,rfl,l,rfl⟩;unfold hkv at t;rw[Zo]at t;obtain⟨q,hq,eq⟩:=Yg.mp t;injection eq with G I;subst G I;have M:=Y.same l;obtain⟨O,hb⟩:=M.ob;obtain⟨o,x⟩:=ZU.mp<|yd.mpr<|Ze.mpr ⟨q,Zu hq,rfl⟩;obtain⟨X,s2⟩:=GH<|B.ver x;refine xD ⟨_,rfl,b,O,_,rfl,hb,rfl,_,rfl,b,a,h,R,S,e,q.1,rfl,M,fun o' s=>?_,fun z=>by rw[x]at z;cases z⟩;rw[x]at s;cases s;refine⟨_,rfl,_,rfl,d,oV o,rfl,.inl ⟨_,.inr q.1,.inr ⟨ob,l _ _ g⟩,rfl,by rw[qQ,x];rfl⟩,Co o,Co o,BB o,BB o,X,X,_,rfl,?_⟩;rw[s2];exact VX ⟨_,rfl,l,rfl⟩
 ·rintro C D n ⟨A,rfl,l,rfl⟩ p L;have up:=zG (o:=.lst []) L;refine⟨d,ob,hkv e,up _ _<|l _ _ g,n0,VR 0,fun r U=>?_⟩;have J:(upd (upd (upd n p<|.lst []) d<|.dK<|hkv e) r<|.lst []) p=some (.lst []):=by
   have ph:p≠d:=fun z=>by rw[z,l _ _ g]at L;cases L
   have e1:(upd (upd n p<|.lst []) d<|.dK<|hkv e) p=some (.lst []):=by rw[zI ph];exact zB
   exact(zG U) _ _ e1
  exact⟨.list [],.list [],⟨p,[],rfl,WP.of J,rfl⟩,⟨r,[],rfl,WP.of zB,rfl⟩,by decide,by decide,k _<|(jS j<|l.trans up).trans<|zG U⟩
end A6
inductive SM (P:Ek)(w:Ep)(K:Ca)(C D:Ei)(vs:Dk)(H:Hp)(Q:VK)(e3:XK):Prop
 |mk (b a h t hh md lb nl:Ei) (fp:De) (S:Dj) (hs:Hs) (c:Int) (h0:vs=[.ref b,.ref t,.int c]) (h1:Wq P w K C D H b a h fp S hs) (h2:H t=some (.dK<|Cm hh md lb nl)) (h3:H hh=some (.dK<|hkv hs)) (h4:hh∉fp) (h5:hh≠h) (h6:hs.length<60) (h7:(∀x∈hs.map (·.1),El x=true)) (h8:∀H',W8 H H'->Q (.bl true) H'):SM P w K C D vs H Q e3
theorem Pr {ss:Da}(i:∀x∈ss,El x=true)(j:∀x o,VP hs x=some o->Ua o):ET (.list<|ss.map<|Ck hs)=true/\EG (.list<|ss.map<|Ck hs) (.list<|ss.map<|Ck hs)=true:=by
 have p:∀x,Ua ((VP hs x).getD none):=fun x=>by
  cases e:VP hs x with
  |none=>exact fun v z=>nomatch z
  |some o=>exact j x o e
 have one:∀x,El x=true->(Ck hs x).canLay0=true/\(Ck hs x).depth<=1/\EG (Ck hs x) (Ck hs x)=true:=fun x d=>by
  have v:=p x;unfold Ck;generalize (VP hs x).getD none=o at v;cases o with
  |none =>
   refine⟨?_,(by decide:max 0 (max 0 0)+1<=1),?_⟩
   ·show(El x&&(true&&true))=true;rw[d];rfl
   ·show((x==x)&&(true&&true))=true;rw[Yn x];rfl
  |some y =>
   refine⟨?_,(by decide:max 0 (max 0 0)+1<=1),?_⟩
   ·show(El x&&(El y&&true))=true;rw[d,v y rfl];rfl
   ·show((x==x)&&((y==y)&&true))=true;rw[Yn x,Yn y];rfl
 have all:∀ss:Da,(∀x∈ss,El x=true)->Ew (ss.map<|Ck hs)=true/\EF (ss.map<|Ck hs)<=1/\EW (ss.map<|Ck hs) (ss.map<|Ck hs)=true:=by
  intro ss
  induction ss with
  |nil=>exact fun _=>⟨rfl,ZA _,rfl⟩
  |cons x ss ih =>
   intro h;obtain⟨f,q,g⟩:=one x<|h x Zj;obtain⟨b,n,c⟩:=ih fun y l=>h y<|Zi _ l;refine⟨?_,?_,?_⟩
   ·show((Ck hs x).canLay0&&Ew (ss.map<|Ck hs))=true;rw[f,b];rfl
   ·show max (Ck hs x).depth (EF<|ss.map<|Ck hs)<=1;omega
   ·show(EG (Ck hs x) (Ck hs x)&&EW (ss.map<|Ck hs) (ss.map<|Ck hs))=true;rw[g,c];rfl
 obtain⟨b,n,c⟩:=all ss i;exact⟨qK (show Ew (ss.map<|Ck hs)=true from b) (by show EF (ss.map<|Ck hs)+1<=60;omega),c⟩
namespace A7
abbrev st:Stmt:=top 75
theorem sc:W7 ["_law_book","_law_table","_law_turn","_law_heads","_law_found","_law_row"] ["_law_book","_law_table","_law_turn"] (zE st):=Cf
theorem ok (F:Wt K "_law_stands" "_law_stands" st f fd)(T:Txt P w K mg t1 t2 t3 t4 t5 t6 aL aC aN aT aA b1 b2 b3 b4 b5 b6 b7 b8 aD)(Qs:T9 P w K mg base 5 "_law_heads_stand" ["_law_book","_law_heads"]<|uM P w K aC aD)(QX:Met P w K mg base aD 1 "branches" ["self"]<|SX P w K aC aD):W0 P w K mg base Cd 6 f fd ["_law_book","_law_table","_law_turn"] (SM P w K aC aD):=by
 refine F.ok sc fun _ _ _ _ H vs Q E O h=>?_;obtain⟨b,a,h,t,s,md,lb,nl,fp,S,hs,c,rfl,B,ht,A,nf,nh,hl,os,k⟩:=h;refine⟨_,(zD (Cg (i:=3) sc.nd<|yH O.WN (pv 1) W9<|fun _ _=>rfl)<|k8 (z7 (PW.pt<|kH (zO xB (z5 y6 (pv 2) zH) zH<|zR _)<|qR<|yS<|zP (K:=K)<|zL Qs O.m<|zA (pv 0)<|zA (pv 3) zC) (zF<|zK jP) zM)<|zD (Cg (i:=4) sc.nd<|kP (pv 0) T.Wg QX O.m)<|zD (z7 (PW.pt<|k9 (yS<|zP (K:=K)<|zJ (zS (K:=K)) (by rfl) T.isinstance Zf<|zA (pv 4)<|zA (yM (v:=.ty "list") rfl T.list YL rfl) zC)<|kF<|zO (UA O.units) (pv 4) (xR (sc:=zE st) (N:=["_law_book","_law_table","_law_turn","_law_heads","_law_found","_law_row"]) (N':=["_law_label","_law_heads"]) (src:=[none,some 3]) .a rfl rfl rfl (kA<|zJ (kJ rfl) (by rfl) T.sorted Y4<|zA (pv 3) zC) (fun _ _ _ _=>(zY (i:=0) (show(["_law_label","_law_heads"]:Da).Nodup by decide +kernel) rfl (EY rfl))) (fun _ _ _ _=>qL) (fun _ _ _ _=>(yI<|zA (pv 0)<|zA (yH O.WN (pv 1) (pv 0)<|fun _ _=>rfl) zC))) (zR _)) (zF<|zK jP) zM) (zD (qF PassesOwn.never rfl (kA<|pv 4) (zY (i:=5) sc.nd rfl<|EY rfl)<|zF<|z7 (yS<|zP (K:=K)<|zJ (zS (K:=K)) (by rfl) T.isinstance Zf<|zA (pv 5)<|zA (yM (v:=.ty "tuple") rfl T.tuple Z9 rfl) zC) (zF<|zK jP) zM)<|zD (yL<|OS YF PySem.F.slot_list_clear PySem.F.type_list_clear KU<|pv 4)<|zF<|zK<|zL Qs O.m<|zA (pv 0)<|zA (pv 3) zC)),?_⟩
 refine⟨_,rfl,t,.ref s,rfl,N0▸Wn.k (k:=.inr "heads") ht,?_⟩;refine⟨fun ae H'=>ae=[some<|.ref b,some<|.ref t,some<|.int c,some<|.ref s,none,none]/\W8 H H',?_,?_⟩
 ·refine⟨_,rfl,_,_,rfl,rfl,(by decide:(0:Int)<2),rfl,_,rfl,V3 (fun _=>?_) fun _=>⟨rfl,W8.refl _⟩⟩;exact⟨_,rfl,_,rfl,b,a,h,s,fp,S,hs,rfl,B,A,nf,nh,hl,fun H' s'=>⟨_,rfl,VX ⟨rfl,s'⟩⟩⟩
 ·rintro ae H1 ⟨rfl,s1⟩;have B1:=B.same s1;obtain⟨dx,hb⟩:=B1.ob;refine⟨_,rfl,b,dx,_,rfl,hb,rfl,b,a,h,fp,S,hs,rfl,B1,hl,fun l ss xs H2 s2 fl D perm ah dt=>?_⟩;have I:=s1.trans s2;have y:=I _ _ A;have nm:Ub (.list<|ss.map<|Ck hs)="list":=rfl;refine xD ⟨_,rfl,_,_,.list<|ss.map<|Ck hs,_,rfl,Dt.dw ⟨l,xs,rfl,WP.of D,dt⟩,XD K "list",_,rfl,VX ?_⟩;obtain⟨as,ek⟩:=FE hs;have kl:(hkv hs).length=hs.length:=Q5 ..;refine⟨_,rfl,_,rfl,s,hkv hs,rfl,.inl y,as,by omega,fun l2 g ac n ad=>?_⟩;rw[ek]at n;obtain rfl:g=ss:=JD (fun a b _ _=>Ic) (jZ ad) (jZ ah)<|n.trans perm.symm;have X:=zG (o:=.lst<|g.map V.str) ac;have C:=zB (H:=H2) (a:=l2) (o:=.lst<|g.map V.str);have sl:g.length<60:=by rwa[perm.length_eq,Q5]
  have ab:=X _ _ y;have G:=X _ _ D;have u:=W6.same X _ _ dt;have J:=I.trans X;have af:=s1.free fl;have B3:=B.same J;generalize upd H2 l2 (.lst<|g.map V.str)=H3 at X C ab G u J B3 ⊢;clear X I y D dt hb ac fl;refine⟨l2,rfl,⟨_,WP.of C⟩,j6 (K:=K) (a:=l2) (xs:=g.map V.str) (fun i L r M=>∃o,r=[o,some<|.ref s]/\W8 H3 M/\W6 K M ((g.take i).map<|Ck hs) L) ⟨none,rfl,W8.refl _,rfl⟩ (W3 (by rw[Q5];omega)) ?_ ?_ ?_⟩
  ·rintro i L r M hi ⟨o,rfl,U,dt⟩;refine⟨U.seq<|WP.of C,?_⟩;have:=dt.length;rw[Q5,Zz]at this;omega
  ·rintro i v L r M hv ⟨o,rfl,U,dt⟩;rw[Zo]at hv;obtain⟨x,R,rfl⟩:=Yg.mp hv;obtain⟨o',ho⟩:=ZU.mp<|yd.mpr<|perm.mem_iff.mp<|Zu R;refine xD ⟨_,rfl,_,rfl,_,rfl,s,_,rfl,.inl ⟨_,.inr x,.inl<|U _ _ ab,rfl,by rw[qQ,ho];rfl⟩,VR 2,fun p np=>⟨_,rfl,U.trans<|zG np,?_⟩⟩;rw[Z4,R,Zr];refine W6.append (W6.same (zG np) _ _ dt) ⟨_,[],rfl,⟨p,_,rfl,Wu.of zB,_,_,rfl,rfl,_,_,rfl,?_,rfl⟩,rfl⟩;rw[ho];exact BB o'
  ·rintro L r M ⟨o,rfl,U,dt⟩ q nq;rw[Q5,ZI]at dt;have uq:=zG (o:=.lst L) nq;have s5:=U.trans uq;obtain⟨sh,ev⟩:=Pr (hs:=hs) (ss:=g) (fun x R=>os x<|perm.mem_iff.mp R) fun x o e=>B.ver e;refine⟨.list<|g.map<|Ck hs,.list<|g.map<|Ck hs,⟨l,xs,rfl,WP.of<|s5 _ _ G,W6.same s5 _ _ u⟩,⟨q,L,rfl,WP.of zB,W6.same uq _ _ dt⟩,sh,sh,_,rfl,?_⟩;rw[ev];have s6:=J.trans s5;have j:=s5 _ _ G;have Z:=W6.same s5 _ _ u;have B6:=B.same s6;generalize upd M q (.lst L)=H6 at s6 j Z B6 ⊢;refine VX ⟨_,rfl,l,rfl,⟨_,WP.of j⟩,BY (K:=K) (a:=l) (xs:=xs) (fun i r Y=>∃o,r=[some<|.ref b,some<|.ref t,some<|.int c,some<|.ref s,some<|.ref l,o]/\Y=H6) ⟨none,rfl,rfl⟩ (fun i r Y hi ⟨_,_,e⟩=>by rw[e];exact WP.of j) ?_ ?_⟩
   ·rintro i x r Y R ⟨o,rfl,rfl⟩;obtain⟨d,aa,ag⟩:=Z.get R;rw[Zo]at aa;obtain⟨z,_,rfl⟩:=Yg.mp aa;exact xD ⟨_,rfl,_,_,Ck hs z,_,rfl,Dt.dw ag,XD K "tuple",_,rfl,VX ⟨_,rfl,rfl⟩⟩
   ·rintro r Y ⟨o,rfl,rfl⟩;refine⟨_,rfl,.inl ⟨rfl,_,WP.of j⟩,l,xs,rfl,rfl,j,?_⟩;have s8:W8 H (upd Y l<|.lst []):=An.W8.uJ s6 af;exact⟨_,rfl,_,rfl,b,a,h,s,fp,S,hs,rfl,B.same s8,s8 _ _ A,nf,nh,hl,fun H' s'=>k _<|s8.trans s'⟩
end A7
end
structure Sd (P:Ek)(w:Ep)(K:Ca)(C D:Ei)(H:Hp)(b t lb:Ei)(ls:Da)(n:Nat)(a h hh md nl:Ei)(fp:De)(S:Dj)(hs:Hs)(m:Md):Prop where
 bk:Wq P w K C D H b a h fp S hs
 tb:H t=some (.dK<|Cm hh md lb nl)
 hd:H hh=some (.dK<|hkv hs)
 md:TJ P w K H md<|Ci m
 nl:WP K H nl<|(S.map En.nm).map V.str
 kp:Mk S m
 hl:hs.length<=n
 sl:S.length<=2*n
 ml:m.length<=n
 hn:∀x∈hs.map (·.1),x∈ls
def T8 (P:Ek)(w:Ep)(K:Ca)(C D:Ei)(H:Hp)(X:De)(b t lb:Ei)(ls:Da)(n:Nat):Prop :=
 ∃a h d md nl c S e m,X=b::t::d::md::h::c/\X.Nodup/\Sd P w K C D H b t lb ls n a h d md nl c S e m
section
variable {P:Ek}{w:Ep}{K:Ca}{C D:Ei}{H H':Hp}{X Y:De}{b t lb:Ei}{ls:Da}{n:Nat}
theorem T8.Wh (s:T8 P w K C D H X b t lb ls n):Wd H X:=by
 obtain⟨a,h,g,md,nl,f,S,i,m,rfl,nd,s⟩:=s;obtain⟨e,hb⟩:=s.bk.ob;intro c d;simp only[Za]at d
 rcases d with rfl|rfl|rfl|rfl|rfl|d
 ·exact⟨_,hb,fun _ z=>(nomatch z),fun _ z=>(nomatch z),fun _ _ z=>(nomatch z)⟩
 ·exact⟨_,s.tb,fun _ z=>(nomatch z),fun _ z=>(nomatch z),fun _ _ z=>(nomatch z)⟩
 ·exact⟨_,s.hd,fun _ z=>(nomatch z),fun _ z=>(nomatch z),fun _ _ z=>(nomatch z)⟩
 ·exact UI s.md c (Q8.mpr rfl)
 ·exact⟨_,s.bk.hd,fun _ z=>(nomatch z),fun _ z=>(nomatch z),fun _ _ z=>(nomatch z)⟩
 ·exact s.bk.sh.Wh c d
theorem qE (T:TJ P w K H d ps)(n:Wd H Y)(o:Off Y H H')(nd:d∉Y):TJ P w K H' d ps :=
 An.TJ.off n.tup o (by obtain⟨_,_,_,c,b,_⟩:=T;rw[b];exact o _ _ nd b) T
theorem T8.off (s:T8 P w K C D H X b t lb ls n)(e:Wd H Y)(o:Off Y H H')(d:∀c∈X,c∉Y):T8 P w K C D H' X b t lb ls n:=by
 obtain⟨a,h,i,md,nl,f,S,j,m,rfl,nd,s⟩:=s;exact⟨a,h,i,md,nl,f,S,j,m,rfl,nd,s.bk.off e.tup o (d _<|by simp) (d _<|by simp)<|fun c g=>d c<|by simp[g],o _ _ (d _<|by simp) s.tb,o _ _ (d _<|by simp) s.hd,qE s.md e o<|d _<|by simp,x9 e o s.nl,s.kp,s.hl,s.sl,s.ml,s.hn⟩
theorem T8.same (s:T8 P w K C D H X b t lb ls n)(e:W8 H H'):T8 P w K C D H' X b t lb ls n:=s.off (Y:=[]) (fun b hb=>nomatch hb) (Off.of e)<|fun c _ z=>nomatch z
theorem T8.up (s:T8 P w K C D H X b t lb ls n):T8 P w K C D H X b t lb ls (n+1):=by
 obtain⟨a,h,d,md,nl,c,S,f,m,e,nd,s⟩:=s;exact⟨a,h,d,md,nl,c,S,f,m,e,nd,s.bk,s.tb,s.hd,s.md,s.nl,s.kp,by have:=s.hl;omega,by have:=s.sl;omega,by have:=s.ml;omega,s.hn⟩
end
inductive wC (P:Ek)(w:Ep)(K:Ca)(C D:Ei)(vs:Dk)(H:Hp)(Q:VK)(e3:XK):Prop
 |mk (X:De) (b t lb:Ei) (ls:Da) (n:Nat) (c:Int) (h0:vs=[.ref b,.ref t,.ref lb,.int c]) (h1:T8 P w K C D H X b t lb ls n) (h2:n<50) (h3:WP K H lb<|ls.map V.str) (h4:ls.length=5) (h5:(∀x∈ls,yB x=true)) (h6:∀H',Off X H H'->T8 P w K C D H' X b t lb ls (n+1)->Q (.bl true) H'):wC P w K C D vs H Q e3
theorem Sv.same {K:Ca}(s:W8 H H')(h:Sv K H ls p dd):Sv K H' ls p dd:=by
 cases dd with
 |beg d o=>obtain⟨v,b,c,e⟩:=h;exact⟨v,s.Wv b,c.same s,e⟩
 |set x o=>exact⟨s.Wv h.1,h.2⟩
 |head x=>exact⟨s.Wv h.1,h.2⟩
 |keep x y=>exact⟨s.Wv h.1,h.2⟩
theorem Sv.off {K:Ca}(n:Wd H Y)(o:Off Y H H')(sd:O0 ls dd)(h:Sv K H ls p dd):Sv K H' ls p dd:=by
 cases dd with
 |beg d o' =>
  obtain⟨v,c,b,e⟩:=h;obtain⟨x,f,rfl⟩:=sd d o' rfl;exact⟨v,qD n.tup o c,⟨b.1,b.2.1,.inl ⟨x,f,rfl⟩⟩,e⟩
 |set x o'=>exact⟨qD n.tup o h.1,h.2⟩
 |head x=>exact⟨qD n.tup o h.1,h.2⟩
 |keep x y=>exact⟨qD n.tup o h.1,h.2⟩
theorem MN {hs:Hs}{ls:Da}(hn:∀x∈hs.map (·.1),x∈ls){x:Str}{o:Option Str}(c:x∈ls):(∀y∈(VU hs x o).map (·.1),y∈ls)/\(VU hs x o).length<=hs.length+1:=by
 refine⟨fun y b=>?_,?_⟩
 ·rw[IT]at b
  split at b
  ·exact hn y b
  ·rcases ZG.mp b with z|z
   ·exact hn y z
   ·rwa[Q8.mp z]
 ·unfold VU
  split
  ·rw[Q5];omega
  ·rw[ZD];exact Q9 _
def Fr (K:Ca)(ls:Da)(hs:Hs)(q:V×Hs):Prop:=(∃d,(∀H,Dt K H d q.1)/\ET d=true/\EG d d=true)/\(∀x∈q.2.map (·.1),x∈ls)/\q.2.length<=hs.length+1
theorem Oy {K:Ca}{vs:Da}{hs:Hs}(hd:Sv K H ls p dd)(i:∀x∈ls,yB x=true)(hn:∀x∈hs.map (·.1),x∈ls)(hv:∀x o,VP hs x=some o->Ua o) :
  Fr K ls hs (VT vs hs dd):=by
 have st:∀{x:Str},El x=true->∃d,(∀H,Dt K H d<|V.str x)/\ET d=true/\EG d d=true:=fun{x} h=>⟨.str x,fun _=>rfl,qK h<|ZA _,Yn x⟩;have f:∃d,(∀H,Dt K H d V.non)/\ET d=true/\EG d d=true:=⟨.none,fun _=>rfl,by decide,rfl⟩;have g:∀{x:Str} {o:Option Str},x∈ls->(∀y∈(VU hs x o).map (·.1),y∈ls)/\(VU hs x o).length<=hs.length+1:=fun c=>MN hn c;have b:∀x,Fr K ls hs (Ud hs<|VP hs x):=fun x=>by
  cases e:VP hs x with
  |none=>exact⟨st<|by decide +kernel,hn,Ym _⟩
  |some o=>exact⟨⟨Co o,fun _=>BB o,(GH<|hv x o e).1,(GH<|hv x o e).2⟩,hn,Ym _⟩
 cases dd with
 |beg d o =>
  show Fr K ls hs (if xA d=false\/Ux hs d=true then(.str "refused branch",hs) else if o.isSome=true/\inV vs o=false then(.str "refused version",hs) else(.non,VU hs (Ii d) o))
  split
  ·exact⟨st<|by decide +kernel,hn,Ym _⟩
  ·rename_i z
   split
   ·exact⟨st<|by decide +kernel,hn,Ym _⟩
   ·obtain⟨v,_,nd,_⟩:=hd;obtain⟨x,c,rfl⟩:∃x∈ls,d=.str x:=by
     rcases nd.2.2 with q|q
     ·exact q
     ·exact absurd (.inl q.1) z
    exact⟨f,g c⟩
 |set x o =>
  show Fr K ls hs (if VP hs x=none then(.str "refused nobranch",hs) else if inV vs o=true then(.non,VU hs x o) else(.str "refused version",hs))
  split
  ·exact⟨st<|by decide +kernel,hn,Ym _⟩
  ·split
   ·exact⟨f,g hd.2.1⟩
   ·exact⟨st<|by decide +kernel,hn,Ym _⟩
 |head x=>exact b x
 |keep x y=>exact b x
theorem PM (ok:zc S):ET (.list<|(S.map En.nm).map .str)=true/\EG (.list<|(S.map En.nm).map .str) (.list<|(S.map En.nm).map .str)=true:=by
 refine⟨(qB fun p c=>?_).1,?_⟩
 ·obtain⟨e,b,rfl⟩:=Ze.mp c;exact(ok.nm b).ok
 ·show EW _ _=true;rw[q8];exact Zc rfl
theorem OO {S:Dj}{v:Str}(h:v∈S.map En.nm):v≠"refused nobranch":=fun z=>by
 obtain⟨e,c,b⟩:=Ze.mp h;have:46∈cs e.nm:=by rw[K0];simp
 rw[b,z]at this;exact absurd this (by decide +kernel)
theorem Sv.word {K:Ca}(h:Sv K H ls p dd)(c:∀x y,dd≠.keep x y):∃x xs,Wu K H p (.str x::xs)/\x≠"keep":=by
 cases dd with
 |beg d o=>obtain⟨v,b,_⟩:=h;exact⟨_,_,b,by decide +kernel⟩
 |set x o=>exact⟨_,_,h.1,by decide +kernel⟩
 |head x=>exact⟨_,_,h.1,by decide +kernel⟩
 |keep x y=>exact absurd rfl<|c x y
section
variable {P:Ek}{w:Ep}{K:Ca}{mg:Str->Dc}{base:EC}{t1 t2 t3 t4 t5 t6:Tok}{aL aC aN aT aA b1 b2 b3 b4 b5 b6 b7 b8 aD:Ei}
namespace A8
abbrev st:Stmt:=top 73
theorem sc:W7 ["_law_book","_law_table","_law_labels_here","_law_cell","_law_deed_here","_law_due_here","_law_found"] ["_law_book","_law_table","_law_labels_here","_law_cell"] (zE st):=Cf
theorem ok (F:Wt K "_law_deed" "_law_deed" st f fd)(T:Txt P w K mg t1 t2 t3 t4 t5 t6 aL aC aN aT aA b1 b2 b3 b4 b5 b6 b7 b8 aD)(QY:T9 P w K mg base 8 "_law_deed_by" ["_law_book","_law_table","_law_labels_here","_law_cell"]<|zb P w K aC aD)(QZ:T9 P w K mg base 1 "_law_due" ["_law_table","_law_deed_here"]<|vJ P w K)(Q0:T9 P w K mg base 12 "_law_done" ["_law_book","_law_deed_here"]<|wA P w K aC aD)(Qf:Met P w K mg base aC 1 "names" ["self"]<|zz P w K aC)(Q1:T9 P w K mg base 1 "_law_kept" ["_law_table","_law_deed_here","_law_found"]<|wD P w K):W0 P w K mg base Cd 13 f fd ["_law_book","_law_table","_law_labels_here","_law_cell"] (wC P w K aC aD):=by
 refine F.ok sc fun _ _ _ _ H vs Q E hr h=>?_;obtain⟨X,b,t,lb,ls,n,c,rfl,sd,br,a1,l5,la,k⟩:=h;refine⟨_,(zD (Cg (i:=4) sc.nd<|zL QY hr.m<|zA (pv 0)<|zA (pv 1)<|zA (pv 2)<|zA (pv 3) zC)<|zD (Cg (i:=5) sc.nd<|zL QZ hr.m<|zA (pv 1)<|zA (pv 4) zC)<|zD (Cg (i:=6) sc.nd<|zL Q0 hr.m<|zA (pv 0)<|zA (pv 4) zC)<|k8 (z7 (PW.pt<|kH (zO xB (zQ (W4:Cc _<|WR K) (pv 4) zH) W9<|zR _)<|qR<|zO (UA hr.units) (pv 5) W9<|zR _) (zD (xJ hr.WN (pv 1) W9 (yC qI (by rfl) T.list YL<|zA (kP (yT (pv 0) rfl) T.cls Qf hr.m) zC) rfl)<|zF<|zK<|zL Q1 hr.m<|zA (pv 1)<|zA (pv 4)<|zA (pv 6) zC) zM)<|zF<|zK<|xC (yO (GM hr.units) (pv 6) (pv 5)<|zR _)<|x4<|yO (GM hr.units) (kP (yT (pv 0) rfl) T.cls Qf hr.m) (yH hr.WN (pv 1) W9<|fun _ _=>rfl)<|zR _),?_⟩
 have bu:=sd;obtain⟨a,h,B,md,nl,R,S,G,m,rfl,nd,A⟩:=sd;have lv:∀v∈vals m,El v=true:=fun v hv=>by
  obtain⟨e,he,en⟩:=Ze.mp<|jI<|(A.kp.is A.bk.ok).mpr hv;rw[←en];exact(A.bk.ok.nm he).ok
 have hl:=A.hl;have ml:=A.ml;have sl:=A.sl;simp only[ZK,Za,Jr]at nd;obtain⟨⟨bt,af,ao,bh,ax⟩,⟨ae,al,th,ak⟩,⟨ab,C,I⟩,⟨ac,M⟩,az,am⟩:=nd;refine⟨_,rfl,_,rfl,_,rfl,_,rfl,b,a,h,t,B,md,lb,nl,R,S,G,ls,m,c,rfl,A.bk,A.tb,A.md,a1,l5,la,A.kp,lv,by omega,fun p dd H1 s1 aq=>?_⟩;have ah:∀{H},H B=some (.dK<|hkv G)->Wd H [B]:=fun{H} e c D=>by
  rw[Q8.mp D];exact⟨_,e,fun _ z=>(nomatch z),fun _ z=>(nomatch z),fun _ _ z=>(nomatch z)⟩
 have aa:=s1 _ _ A.hd;have a4:TJ P w K H1 md (Ci m):=qE (Y:=[]) A.md (fun b hb=>nomatch hb) (Off.of s1)<|fun z=>nomatch z;refine⟨_,rfl,_,rfl,t,p,B,md,lb,nl,ls,G,m,dd,rfl,s1 _ _ A.tb,aa,a4,s1.seq a1,aq,la,lv,by omega,fun H2 Z sn ar=>?_⟩;have s:Sv K H2 ls p dd:=by
  rcases sn with z|z
  ·exact aq.same z
  ·exact aq.off (ah aa) Z z
 have B2:Wq P w K aC aD H2 b a h R S G:=(A.bk.same s1).off (ah aa).tup Z (fun z=>af<|Q8.mp z) (fun z=>C (Q8.mp z).symm) (fun c D z=>I<|Q8.mp z▸D);have bb:H2 t=some (.dK<|Cm B md lb nl):=Z _ _ (fun z=>ae<|Q8.mp z) (s1 _ _ A.tb);have a5:TJ P w K H2 md (Ci m):=qE a4 (ah aa) Z<|fun z=>ab (Q8.mp z).symm;have U:=x9 (ah aa) Z<|s1.seq A.nl;have an:Off (b::t::B::md::h::R) H H2:=fun c o O e=>Z c o (fun z=>O (by rw[Q8.mp z];simp)) (s1 _ _ e);obtain⟨gv,gn,gl⟩:=Oy (vs:=vals m) s la A.hn fun x o e=>B2.ver e;refine xD ⟨_,rfl,_,rfl,b,p,a,h,R,S,G,ls,m,dd,rfl,B2,s,la,A.kp,by omega,by omega,fun nk J r B3=>?_,fun x y o ek ho J r B3=>?_⟩
 ·have ag:Wd H2 [h]:=fun c D=>by
   rw[Q8.mp D];exact⟨_,B2.hd,fun _ z=>(nomatch z),fun _ z=>(nomatch z),fun _ _ z=>(nomatch z)⟩
  have as:J B=some (.dK<|hkv (VT (vals m) G dd).2):=r _ _ (fun z=>C<|Q8.mp z) ar;have ad:J t=some (.dK<|Cm B md lb nl):=r _ _ (fun z=>th<|Q8.mp z) bb;have au:TJ P w K J md (Ci m):=qE a5 ag r<|fun z=>ac<|Q8.mp z;have a8:=x9 ag r U;have a9:Off (b::t::B::md::h::R) H J:=fun c o O e=>r c o (fun z=>O (by rw[Q8.mp z];simp)) (an c o O e);have S3:T8 P w K aC aD J (b::t::B::md::h::R) b t lb ls (n+1):=⟨a,h,B,md,nl,R,S,_,m,rfl,by simp only[ZK,Za,Jr];exact⟨⟨bt,af,ao,bh,ax⟩,⟨ae,al,th,ak⟩,⟨ab,C,I⟩,⟨ac,M⟩,az,am⟩,B3,ad,as,au,a8,A.kp,by omega,by omega,by omega,gn⟩;have ay:∀{x y},dd=.keep x y->Wu K J p [.str "keep",.str x,.str y]:=fun{x y} e=>by
   subst e;exact qD ag.tup r s.1
  have bj:(∀x y,dd≠.keep x y)->∃x xs,Wu K J p (.str x::xs)/\x≠"keep":=fun z=>by
   obtain⟨x,xs,h1,h2⟩:=s.word z;exact⟨x,xs,qD ag.tup r h1,h2⟩
  obtain⟨d,dt,sh,ev⟩:=gv;refine xD ⟨fun aw H'=>aw=[some<|.ref b,some<|.ref t,some<|.ref lb,some<|.int c,some<|.ref p,some (VT (vals m) G dd).1,some (VT (vals m) G dd).1]/\H'=J,?_,?_⟩
  ·by_cases kk:∃x y,dd=.keep x y
   ·obtain⟨x,y,rfl⟩:=kk;have lk:VP G x=none:=by
     cases z:VP G x with
     |none=>rfl
     |some o=>exact absurd z<|nk x y o rfl
    have e:(VT (vals m) G<|.keep x y).1=.str "refused nobranch":=congrArg (fun q=>(Ud G q).1) lk;refine⟨_,rfl,p,_,_,_,rfl,rfl,ay rfl,rfl,rfl,_,rfl,Xh rfl ⟨_,rfl,.str "refused nobranch",.str "refused nobranch",e▸rfl,rfl,by decide +kernel,by decide +kernel,_,rfl,VX ⟨rfl,rfl⟩⟩⟩
   ·obtain⟨x,xs,hp,ne⟩:=bj fun x y e=>kk ⟨x,y,e⟩;exact⟨_,rfl,p,_,_,.str x,rfl,rfl,hp,zT (j:=0) rfl,rfl,_,rfl,Uf (fun z=>ne<|V.str.inj z) (VQ ⟨rfl,rfl⟩)⟩
  ·rintro aw H' ⟨rfl,rfl⟩;refine⟨_,rfl,_,rfl,d,d,dt _,dt _,sh,sh,?_⟩;rw[ev];obtain⟨dx,hb⟩:=B3.ob;obtain⟨g,ap,d1,d2,d3,ts,nx,bf,bm,ha,_⟩:=id B3.sh;refine⟨_,rfl,VO ⟨_,rfl,b,aD,dx,_,_,rfl,hb,T.Wg,T.m1,rfl,a,ap,_,rfl,ha,rfl,a,R,S,rfl,B3.sh,fun l bn=>?_⟩⟩;have en:(S.map fun e=>V.str e.nm)=(S.map En.nm).map V.str:=by rw[ZB];rfl
   rw[en];have u:=zG (o:=.lst<|(S.map En.nm).map V.str) bn;obtain⟨ba,bg⟩:=PM B3.ok;refine⟨_,rfl,t,.ref nl,rfl,R3▸Wn.k (k:=.inr "names") (u _ _ ad),.list<|(S.map En.nm).map .str,.list<|(S.map En.nm).map .str,⟨l,_,rfl,WP.of zB,W6.strs _⟩,⟨nl,_,rfl,u.seq a8,W6.strs _⟩,ba,ba,?_⟩;rw[bg];exact k _ (fun c o O e=>u _ _<|a9 c o O e) (S3.same u)
 ·subst ek;have N:=FM B2.ok (ps:=o.toList) (y:=y) (by cases o<;>simp) (by cases o<;>simp) (fun q hq=>B2.hv _ (jO ho) q (by cases o with|none=>cases hq|some z=>rw[Q8.mp hq])) s.2.2 (by omega);have ve:=B2.ver ho;have e1:VT (vals m) G (.keep x y)=(oV o,G):=congrArg (Ud G) ho;generalize Ch S o.toList y=q at N B3 ⊢;have a7:Wd H2 (h::R):=fun c D=>by
   rcases Za.mp D with rfl|D
   ·exact⟨_,B2.hd,fun _ z=>(nomatch z),fun _ z=>(nomatch z),fun _ _ z=>(nomatch z)⟩
   ·exact B2.sh.Wh c D
  have aj:∀{c:Ei},c≠h->c∉R->c∉h::R:=fun h1 h2 z=>(Za.mp z).elim h1 h2;rw[e1]at ar;have as:J B=some (.dK<|hkv G):=r _ _ (aj C I) ar;have ad:J t=some (.dK<|Cm B md lb nl):=r _ _ (aj th ak) bb;have au:TJ P w K J md (Ci m):=qE a5 a7 r<|aj ac M;have a2:Wu K J p [.str "keep",.str x,.str y]:=qD a7.tup r s.1;obtain⟨MM,mm⟩:=A.kp.put N;rw[e1];refine xD ⟨fun aw H'=>False,?_,fun _ _ z=>z.elim⟩;have bp:=GH ve;have ne:EG (Co o) (.str "refused nobranch")=false:=by
   cases o with
   |none=>rfl
   |some v =>
    have:=OO<|jI<|B2.hv _ (jO ho) v rfl;exact Yi.mpr this
  refine⟨_,rfl,p,_,_,_,rfl,rfl,a2,rfl,rfl,_,rfl,Xh rfl ⟨_,rfl,Co o,.str "refused nobranch",BB o,rfl,bp.1,by decide +kernel,_,rfl,?_⟩⟩;rw[ne];obtain⟨dx,hb⟩:=B3.ob;obtain⟨g,ap,d1,d2,d3,ts,nx,bf,bm,ha,_⟩:=id B3.sh;refine Uc ⟨_,rfl,b,aD,dx,_,_,rfl,hb,T.Wg,T.m1,rfl,a,ap,_,rfl,ha,rfl,a,R,q.1,rfl,B3.sh,fun l1 bo=>⟨l1,_,rfl,.inl<|WP.of zB,fun l2 U=>?_⟩⟩;have en:(q.1.map fun e=>V.str e.nm)=(q.1.map En.nm).map V.str:=by rw[ZB];rfl
  rw[en]at U ⊢;have u1:=zG (o:=.lst<|(q.1.map En.nm).map V.str) bo;have u4:=u1.trans<|zG (o:=.lst<|(q.1.map En.nm).map V.str) U;have a3:=zB (H:=upd J l1<|.lst<|(q.1.map En.nm).map V.str) (a:=l2) (o:=.lst<|(q.1.map En.nm).map V.str);have bq:l2≠t:=fun z=>by rw[z,u1 _ _ ad]at U;cases U
  generalize upd (upd J l1<|.lst<|(q.1.map En.nm).map V.str) l2 (.lst<|(q.1.map En.nm).map V.str)=H4 at u4 a3 ⊢;have bc:=u4 _ _ ad;refine⟨_,rfl,t,_,rfl,.inl ⟨_,.inr "names",bc,rfl,VR 5,rfl⟩,?_⟩;rw[Pa];have nt:Wd H4 [t]:=fun c D=>by
   rw[Q8.mp D];exact⟨_,bc,fun _ z=>(nomatch z),fun _ z=>(nomatch z),fun _ _ z=>(nomatch z)⟩
  have L:Off [t] H4 (upd H4 t<|.dK<|Cm B md lb l2):=xK;have av:=zB (H:=H4) (a:=t) (o:=.dK<|Cm B md lb l2);generalize upd H4 t (.dK<|Cm B md lb l2)=H5 at L av ⊢;have n1:∀{c:Ei},t≠c->c∉[t]:=fun ne z=>ne (Q8.mp z).symm;have a0:H5 B=some (.dK<|hkv G):=L _ _ (n1 ae)<|u4 _ _ as;have a6:TJ P w K H5 md (Ci m):=qE (qE (Y:=[]) au (fun b hb=>nomatch hb) (Off.of u4)<|fun z=>nomatch z) nt L<|n1 al;have B5:=(B3.same u4).off nt.tup L (fun z=>bt<|Q8.mp z) (n1 th) (fun c D z=>ak<|Q8.mp z▸D);have on:El q.2=true:=by
   obtain⟨tn,_,bd,_⟩:=N.tree;obtain⟨e,he,be⟩:=Ze.mp bd.mem;rw[←be];exact(N.ok.nm he).ok
  refine⟨_,rfl,_,rfl,_,rfl,t,p,B,md,lb,l2,G,m,x,y,q.2,o,rfl,av,a0,a6,qD nt.tup L<|u4.Wv a2,ho,ve,(GC s.2.2).ok,on,lv,by omega,by omega,fun e he z=>A.kp.old N he z,A.kp.fresh N,fun H6 ai bi bl=>?_⟩;have n5:Wd H5 [B,md]:=fun c D=>by
   simp only[Za,ZC,Yl]at D
   rcases D with rfl|rfl
   ·exact⟨_,a0,fun _ z=>(nomatch z),fun _ z=>(nomatch z),fun _ _ z=>(nomatch z)⟩
   ·exact UI a6 c (Q8.mpr rfl)
  have n2:∀{c:Ei},c≠B->c≠md->c∉[B,md]:=fun h1 h2 z=>by
   simp only[Za,ZC,Yl]at z;exact z.elim h1 h2
  obtain⟨i1,i2⟩:=MN A.hn (o:=some q.2) s.2.1;refine k H6 (fun c o' O e=>?_) ⟨a,h,B,md,l2,R,q.1,VU G x<|some q.2,setM m (o,y) q.2,rfl,by simp only[ZK,Za,Jr];exact⟨⟨bt,af,ao,bh,ax⟩,⟨ae,al,th,ak⟩,⟨ab,C,I⟩,⟨ac,M⟩,az,am⟩,B5.off n5.tup ai (n2 af ao) (n2 (EE C)<|EE ac)<|fun c D=>n2 (fun z=>I<|z▸D) (fun z=>M<|z▸D),ai _ _ (n2 ae al) av,bi,bl,x9 n5 ai<|WP.of<|L _ _ (fun z=>bq<|Q8.mp z) a3,MM,by omega,by have:=N.len;omega,by omega,i1⟩;simp only[Za,Jr]at O;exact ai _ _ (n2 O.2.2.1 O.2.2.2.1) (L _ _ (fun z=>O.2.1<|Q8.mp z) (u4 _ _<|r _ _ (aj O.2.2.2.2.1 O.2.2.2.2.2)<|an c o' (by simp only[Za,Jr];exact O) e))
end A8
end
inductive wN (K:Ca)(vs:Dk)(H:Hp)(Q:VK)(e3:XK):Prop
 |mk (a:Ei) (ns:List Int) (h0:vs=[.ref a]) (h1:WP K H a<|ns.map V.int) (h2:ns.length<=63) (h3:∀H',Q (.bl true) H'):wN K vs H Q e3
section
variable {P:Ek}{w:Ep}{K:Ca}{C D:Ei}{H0 H H':Hp}{X Y:De}{b t lb lt:Ei}{ls:Da}{n:Nat}{a h:Ei}{fp:De}{S:Dj}{hs:Hs}
def Tj (P:Ek)(w:Ep)(K:Ca)(H0 H:Hp)(lb lt:Ei)(Y:De)(t:Ei):Prop:=∃b md nl,Y=[t,b,md]/\H t=some (.dK<|Cm b md lb nl)/\H b=some (.dK [])/\TJ P w K H md []/\WP K H nl []/\nl≠lt/\Y.Nodup/\∀c∈Y,H0 c=none
theorem Tj.there (x:Tj P w K H0 H lb lt Y t):∀c∈Y,∃o,H c=some o:=by
 obtain⟨i,md,nl,rfl,e,f,g,_⟩:=x;obtain⟨_,_,_,j,d,_⟩:=g;intro c b;simp only[Za,ZC,Yl]at b
 rcases b with rfl|rfl|rfl
 ·exact⟨_,e⟩
 ·exact⟨_,f⟩
 ·exact⟨_,d⟩
theorem Tj.off (x:Tj P w K H0 H lb lt Y t){xs:Dk}(hl:H lt=some (.lst xs))(o:Off [lt] H H'):Tj P w K H0 H' lb lt Y t:=by
 obtain⟨s,md,nl,rfl,g,i,j,d,l,p,q⟩:=x;obtain⟨_,_,_,y,f,_⟩:=id j;have ne:∀{c:Ei} {o:HO},H c=some o->(∀xs,o≠.lst xs)->c∉[lt]:=fun{c o} e n z=>by
  rw[Q8.mp z,hl]at e;exact n xs (Option.some.inj e).symm
 have v:∀b∈[lt],∀xs,¬Rd H b (.tup xs):=fun c r xs z=>by
  rw[Q8.mp r]at z
  rcases z with z|⟨u,z⟩<;>(rw[hl]at z;cases z)
 refine⟨s,md,nl,rfl,o _ _ (ne g fun _ z=>(nomatch z)) g,o _ _ (ne i fun _ z=>(nomatch z)) i,An.TJ.off v o (by rw[f];exact o _ _ (ne f fun _ z=>(nomatch z)) f) j,?_,l,p,q⟩;have nn:nl∉[lt]:=fun z=>l<|Q8.mp z
 rcases d with(d|⟨u,d⟩)|d
 ·exact .inl (.inl<|o _ _ nn d)
 ·exact .inl (.inr ⟨u,o _ _ nn d⟩)
 ·exact .inr d
theorem Tj.same (x:Tj P w K H0 H lb lt Y t){xs:Dk}(hl:H lt=some (.lst xs))(s:W8 H H'):Tj P w K H0 H' lb lt Y t:=x.off hl<|Off.of s
theorem Tj.older (x:Tj P w K H0 H lb lt Y t)(s:W8 H1 H0):Tj P w K H1 H lb lt Y t:=by
 obtain⟨n,md,nl,o,b,d,e,f,g,i,j⟩:=x;exact⟨n,md,nl,o,b,d,e,f,g,i,fun c l=>s.free<|j c l⟩
theorem NZ {d md nl:Ei}{xs:Dk}(q:H lt=some (.lst xs))(r:H t=none)(g:(upd H t<|.dK []) d=none)(e:(upd (upd H t<|.dK []) d<|.dK []) md=none)(T:TJ P w K (upd (upd (upd H t<|.dK []) d<|.dK []) md o) md [])(f:(upd (upd (upd H t<|.dK []) d<|.dK []) md o) nl=none) :
  (upd (upd (upd (upd H t<|.dK []) d<|.dK []) md o) nl<|.lst []) t=some (.dK [])/\∀H',H'=upd (upd (upd (upd (upd H t<|.dK []) d<|.dK []) md o) nl<|.lst []) t (.dK<|Cm d md lb nl)->W8 H H'/\Tj P w K H H' lb lt [t,d,md] t:=by
 have j:=zG (o:=.dK []) r;have l:=zG (o:=.dK []) g;have n:=zG (o:=o) e;have p:=zG (o:=.lst []) f;have s:=zB (H:=H) (a:=t) (o:=.dK []);have u:=zB (H:=upd H t<|.dK []) (a:=d) (o:=.dK []);have N:=zB (H:=upd (upd (upd H t<|.dK []) d<|.dK []) md o) (a:=nl) (o:=.lst []);generalize upd H t (.dK [])=C at *;generalize upd C d (.dK [])=D at *;generalize upd D md o=E at *;generalize upd E nl (.lst [])=F at *;have y:=l _ _ s;have A:=n _ _ y;have B:=p _ _ A;have v:t≠d:=fun z=>by rw[←z,s]at g;cases g
 have x:t≠md:=fun z=>by rw[←z,y]at e;cases e
 have G:t≠nl:=fun z=>by rw[←z,A]at f;cases f
 have I:d≠md:=fun z=>by rw[←z,u]at e;cases e
 refine⟨B,fun H' J=>?_⟩;subst J;have n1:Wd F [t]:=fun c i=>by
  rw[Q8.mp i];exact⟨_,B,fun _ z=>(nomatch z),fun _ z=>(nomatch z),fun _ _ z=>(nomatch z)⟩
 have L:=j _ _ q;have M:=n _ _<|l _ _ L;refine⟨An.W8.uJ (((j.trans l).trans n).trans p) r,d,md,nl,rfl,zB,by rw[zI<|EE v];exact p _ _<|n _ _ u,qE (qE (Y:=[]) T (fun b hb=>nomatch hb) (Off.of p)<|fun z=>nomatch z) n1 xK<|fun z=>x (Q8.mp z).symm,WP.of<|by rwa[zI<|EE G],fun z=>(by rw[z,M]at f;cases f),by simp[v,x,I],fun c i=>?_⟩;simp only[Za,ZC,Yl]at i
 rcases i with rfl|rfl|rfl
 ·exact r
 ·exact j.free g
 ·exact(j.trans l).free e
theorem Wq.ex (B:Wq P w K C D H b a h fp S hs):(∀c∈b::h::fp,∃o,H c=some o)/\(b::h::fp).Nodup:=by
 obtain⟨e,hb⟩:=B.ob;refine⟨fun c d=>?_,?_⟩
 ·rcases Za.mp d with rfl|d
  ·exact⟨_,hb⟩
  ·rcases Za.mp d with rfl|d
   ·exact⟨_,B.hd⟩
   ·exact B.sh.ex c d
 ·simp only[ZK,Za,Jr];exact⟨⟨fun z=>(by rw[z,B.hd]at hb;cases hb),B.nb⟩,B.nh,B.sh.nodup⟩
theorem Tj.sd (x:Tj P w K H0 H lb lt Y t){a h:Ei}{fp:De}(B:Wq P w K C D H b a h fp [] [])(nx:(b::h::fp).Nodup)(ex:∀c∈b::h::fp,∃o,H0 c=some o):∃X,T8 P w K C D H X b t lb ls 0/\∀c,c∈X↔c∈Y\/c∈b::h::fp:=by
 obtain⟨g,md,nl,rfl,n,p,q,r,_,f,s⟩:=x;have d:∀{c},c∈[t,g,md]->c∉b::h::fp:=fun{c} u z=>by
  obtain⟨o,e⟩:=ex c z;rw[s c u]at e;cases e
 have i:=d (c:=t) (by simp);have j:=d (c:=g) (by simp);have l:=d (c:=md) (by simp);simp only[ZK,Za,Jr,ZC,Yl]at f nx i j l;refine⟨b::t::g::md::h::fp,⟨a,h,g,md,nl,fp,[],[],[],rfl,?_,B,n,p,q,r,⟨fun m hm=>(nomatch hm),fun e v=>(nomatch v),Yp⟩,Q9 _,Q9 _,Q9 _,fun x y=>(nomatch y)⟩,fun c=>?_⟩
 ·simp only[ZK,Za,Jr];exact⟨⟨EE i.1,EE j.1,EE l.1,nx.1.1,nx.1.2⟩,⟨f.1.1,f.1.2,i.2.1,i.2.2⟩,⟨f.2.1,j.2.1,j.2.2⟩,⟨l.2.1,l.2.2⟩,nx.2.1,nx.2.2⟩
 ·simp only[Za,ZC,Yl];constructor
  ·rintro(z|z|z|z|z|z)<;>simp[z]
  ·rintro((z|z|z)|z|z|z)<;>simp[z]
theorem XQ (s:T8 P w K C D H X b t lb ls n)(hn:n<55)(f:∀x∈ls,yB x=true){c:Int}{Q:VK}{E:XK}(q:∀H',W8 H H'->Q (.bl true) H'):SM P w K C D [.ref b,.ref t,.int c] H Q E:=by
 obtain⟨a,h,d,md,nl,fp,S,hs,m,rfl,nd,s⟩:=s;simp only[ZK,Za,Jr]at nd;exact⟨b,a,h,t,d,md,lb,nl,fp,S,hs,c,rfl,s.bk,s.tb,s.hd,nd.2.2.1.2.2,nd.2.2.1.2.1,by have:=s.hl;omega,fun x e=>CL<|f x<|s.hn x e,q⟩
end
section
variable {P:Ek}{w:Ep}{K:Ca}{mg:Str->Dc}{base:EC}{t1 t2 t3 t4 t5 t6:Tok}{aL aC aN aT aA b1 b2 b3 b4 b5 b6 b7 b8 aD:Ei}
namespace A9
abbrev st:Stmt:=top 76
theorem sc:W7 ["_law_script","_law_both","_law_labels_here","_law_tables","_law_k","_law_who","_law_turn"] ["_law_script"] (zE st):=Cf
theorem ok (F:Wt K "law" "law" st f fd)(T:Txt P w K mg t1 t2 t3 t4 t5 t6 aL aC aN aT aA b1 b2 b3 b4 b5 b6 b7 b8 aD)(Qt:uv P w K mg base aD 7 "Annals" ["self"]<|xf P w K aC aD)(Q2:T9 P w K mg base 2 "_law_labels" ["_law_script"]<|yu K)(Q3:T9 P w K mg base 13 "_law_deed" ["_law_book","_law_table","_law_labels_here","_law_cell"]<|wC P w K aC aD)(Qr:T9 P w K mg base 6 "_law_stands" ["_law_book","_law_table","_law_turn"]<|SM P w K aC aD):W0 P w K mg base Cd 14 f fd ["_law_script"] (wN K):=by
 refine F.ok sc fun _ _ _ _ H vs Q E hr h=>?_;obtain⟨sa,ns,rfl,b,Dp,kQ⟩:=h;refine⟨_,(zD (Cg (i:=1) sc.nd<|y7<|zA (G6 Qt hr.m)<|zA (G6 Qt hr.m) zC)<|zD (Cg (i:=2) sc.nd<|zL Q2 hr.m<|zA (pv 0) zC)<|zD (Cg (i:=3) sc.nd<|y7 zC)<|zD (qF PassesOwn.never rfl (IK rfl T.range<|zA zH zC) (zY (i:=4) sc.nd rfl<|EY rfl)<|zF<|yL<|U5 YF JE JF UL (pv 3)<|zA (NF (kR W9 xN<|kR W9 BJ<|kR W9 (pv 2)<|kR W9 (y7 zC) NN) rfl rfl (by simp)<|by decide) zC)<|zD (qF PassesOwn.never rfl (HS rfl T.range<|zA zH<|zA (zJ (Hr rfl) (by rfl) T.min PyProof.Rows.boot_min<|zA (zJ z0 (by rfl) T.len Z0<|zA (pv 0) zC)<|zA zH zC) zC) (zY (i:=4) sc.nd rfl<|EY rfl)<|zD (Cg (i:=5) sc.nd<|yC Hl (by rfl) T.int PyProof.Rows.boot_int<|zA (yO xB (z5 y6 (zQ (WL:Cc _<|T5 K) (pv 0)<|pv 4) zH) zH<|zR _) zC)<|zD (z7 (yS<|zP (K:=K)<|zL Q3 hr.m<|zA (zQ (WL:Cc _<|T5 K) (pv 1)<|pv 5)<|zA (zQ (WL:Cc _<|T5 K) (pv 3)<|pv 5)<|zA (pv 2)<|zA (z5 xF (zQ (WL:Cc _<|T5 K) (pv 0)<|pv 4) zH) zC) (zF<|zK jP) zM)<|zD (Cg (i:=6) sc.nd<|z5 xF (zQ (WL:Cc _<|T5 K) (pv 0)<|pv 4) zH)<|zF<|z7 (PW.pt<|k9 (yS<|zP (K:=K)<|zL Qr hr.m<|zA (zQ (WL:Cc _<|T5 K) (pv 1) zH)<|zA (zQ (WL:Cc _<|T5 K) (pv 3) zH)<|zA (pv 6) zC)<|kF<|yS<|zP (K:=K)<|zL Qr hr.m<|zA (zQ (WL:Cc _<|T5 K) (pv 1) zH)<|zA (zQ (WL:Cc _<|T5 K) (pv 3) zH)<|zA (z5 xF (pv 6) zH) zC) (zF<|zK jP) zM)<|zF<|zK<|zL Qr hr.m<|zA (zQ (WL:Cc _<|T5 K) (pv 1) zH)<|zA (zQ (WL:Cc _<|T5 K) (pv 3) zH)<|zA zH zC),?_⟩
 refine fun O ax ai C G=>⟨O,ax,rfl,zB,by rw[zI G];exact zB,G,fun a1 N az H1 aa a4 J A=>⟨rfl,?_⟩⟩;obtain⟨s1,uF⟩:=qW ai C G (fun c l=>.inr<|.inr<|aa c l) J;have ap:H N=none:=by
  obtain⟨_,q⟩:=qW (fp:=[N]) ai C G (fun c l=>.inr<|.inr<|by rwa[Q8.mp l]) J;exact q N (by simp)
 clear J aa a4;refine fun R ay U D I=>⟨R,ay,rfl,zB,by rw[zI I];exact zB,I,fun a2 v a0 H2 ab a5 M Z=>⟨rfl,?_⟩⟩;obtain⟨s2,am⟩:=qW U D I (fun c l=>.inr<|.inr<|ab c l) M;have ac:H1 v=none:=by
  obtain⟨_,q⟩:=qW (fp:=[v]) U D I (fun c l=>.inr<|.inr<|by rwa[Q8.mp l]) M;exact q v (by simp)
 clear M ab a5 C G D I;have al:=A.ex.1;have A:=A.same s2;refine⟨VR 2,fun S au=>?_⟩;have u3:=zG (o:=.lst [V.ref O,.ref R]) au;have s:=zB (H:=H2) (a:=S) (o:=.lst [V.ref O,.ref R]);have A:=A.same u3;have Z:=Z.same u3;have s3:=(s1.trans s2).trans u3;generalize upd H2 S (.lst [V.ref O,.ref R])=H3 at u3 s A Z s3 ⊢;refine⟨_,rfl,sa,ns,rfl,s3.seq b,fun lb ls H4 s4 _ d l5 la=>?_⟩;have A:=A.same s4;have Z:=Z.same s4;have s:=s4 _ _ s;have av:=s3.trans s4;have b:=av.seq b;refine⟨VR 0,fun lt ah=>?_⟩;obtain⟨ae,ar⟩:=A.ex;obtain⟨af,as⟩:=Z.ex;have dj:∀c∈O::N::az,c∉R::v::a0:=fun c l z=>by
  obtain⟨o,eo⟩:=al c l;have:H1 c=none:=by
   rcases Za.mp z with rfl|z
   ·exact U
   ·rcases Za.mp z with rfl|z
    ·exact ac
    ·exact am c z
  rw[this]at eo;cases eo
 refine⟨_,rfl,by decide,by decide,IM (lo:=0) (n:=2) (fun i σ r=>∃(o4:Option V) (L:List<|Ei×De),σ=[some<|.ref sa,some<|.ref S,some<|.ref lb,some<|.ref lt,o4,none,none]/\W8 H4 r/\r lt=some (.lst (L.map fun e:Ei×De=>V.ref e.1))/\L.length=i/\(∀e∈L,Tj P w K H4 r lb lt e.2 e.1)/\L.Pairwise (fun e f=>∀c∈e.2,c∉f.2)) ⟨none,[],rfl,zG ah,zB,rfl,fun e he=>(nomatch he),List.Pairwise.nil⟩ ?_ ?_⟩
 ·rintro i σ r hi ⟨o4,L,rfl,e,hl,ll,tb,pw⟩;refine⟨_,rfl,.inl ⟨rfl,_,WP.of hl⟩,fun t nt=>fun hh a6=>fun md o a7 aw _=>⟨_,rfl,VR 0,fun nl a8=>?_⟩⟩;obtain⟨q1,q2⟩:=NZ (lb:=lb) hl nt a6 a7 aw a8;refine⟨q1,Cm hh md lb nl,rfl,by show 4<=15;decide,?_⟩;rw[show UC [] (Cm hh md lb nl)=Cm hh md lb nl from rfl];obtain⟨q3,q4⟩:=q2 _ rfl;generalize upd (upd (upd (upd (upd r t<|.dK []) hh<|.dK []) md o) nl<|.lst []) t (.dK<|Cm hh md lb nl)=He at q3 q4 ⊢;have ag:=q3 _ _ hl;refine⟨lt,_,_,rfl,rfl,ag,jH (by rw[Q5];omega),_,L++[(t,[t,hh,md])],rfl,An.W8.uJ (e.trans q3) ah,by rw[zB,Zr];rfl,by rw[ZD,ll];rfl,?_,?_⟩
  ·exact XH (fun x hx=>((tb x hx).same hl q3).off ag xK) ((q4.older e).off ag xK)
  ·rw[List.pairwise_append];refine⟨pw,List.pairwise_singleton _ _,fun x hx y hy c l z=>?_⟩;rw[Q8.mp hy]at z;obtain⟨o',eo⟩:=(tb x hx).there c l;obtain⟨_,_,_,ey,_,_,_,_,_,_,fr⟩:=q4;rw[fr c z]at eo;cases eo
 ·rintro σ H5 ⟨o4,L,rfl,s5,hl,ll,tb,pw⟩;obtain⟨⟨tA,YA⟩,⟨tB,YB⟩,rfl⟩:∃p q,L=[p,q]:=by
   match L,ll with
   |[p,q],_=>exact⟨p,q,rfl⟩
  have TA:=tb (tA,YA) (by simp);have TB:=tb (tB,YB) (by simp);have yy:∀c∈YA,c∉YB:=(JL.mp pw).1 (tB,YB) (by simp);obtain⟨_,_,_,_,_,_,_,_,_,_,an⟩:=id TA;obtain⟨_,_,_,_,_,_,_,_,_,_,ao⟩:=id TB;obtain⟨XA,SA,mA⟩:=Tj.sd (ls:=ls) TA (A.same s5) ar ae;obtain⟨XB,SB,mB⟩:=Tj.sd (ls:=ls) TB (Z.same s5) as af;have xx:∀c∈XA,c∉XB:=fun c l z=>by
   rcases(mA c).mp l with N|N
   ·rcases(mB c).mp z with v|v
    ·exact yy c N v
    ·obtain⟨o,e⟩:=af c v;rw[an c N]at e;cases e
   ·rcases(mB c).mp z with v|v
    ·obtain⟨o,e⟩:=ae c N;rw[ao c v]at e;cases e
    ·exact dj c N v
  have a3:=WP.of (K:=K)<|s5 _ _ s;have B:=WP.of (K:=K) hl;have aq:=WP.of (K:=K)<|s5 _ _ d;have ad:=s5.seq b;have B:WP K H5 lt [V.ref tA,V.ref tB]:=B;clear mA mB yy an ao TA TB tb pw ll hl s5 ah dj ae af ar as A Z s d b av s4 u3 s3 s1 s2 uF am ap ac al ai U au;obtain⟨j,ej,j0,j1,j2⟩:∃j:Int,(if(39:Int)<(((ns.map V.int).length:Nat):Int) then 39 else(((ns.map V.int).length:Nat):Int))=j/\0<=j/\j<=39/\j<=ns.length:=by
   rw[Q5]
   split
   ·exact⟨39,rfl,by omega,by omega,by omega⟩
   ·exact⟨_,rfl,by omega,by omega,by omega⟩
  refine⟨_,rfl,sa,_,rfl,.inl ad,_,_,rfl,?_⟩;rw[ej];refine⟨3,j,rfl,⟨by decide,by decide,by omega,by omega⟩,?_⟩;refine IM (fun i σ r=>∃o4 o5 o6,σ=[some<|.ref sa,some<|.ref S,some<|.ref lb,some<|.ref lt,o4,o5,o6]/\T8 P w K aC aD r XA O tA lb ls i/\T8 P w K aC aD r XB R tB lb ls i/\WP K r S [V.ref O,.ref R]/\WP K r lt [V.ref tA,.ref tB]/\WP K r lb (ls.map V.str)/\WP K r sa (ns.map V.int)) ⟨_,_,_,rfl,SA,SB,a3,B,aq,ad⟩ ?_ ?_
  ·rintro i σ H6 hi ⟨o4,o5,o6,rfl,SA,SB,s,g,d,b⟩;obtain⟨z,_,hn⟩:=GR (f:=V.int) (xs:=ns) (i:=3+(i:Int)) (by omega) (by omega);refine⟨_,rfl,_,rfl,sa,_,_,_,rfl,rfl,b,hn,_,_,rfl,rfl,(by decide:(0:Int)<3),rfl,.inr ⟨_,rfl,?_⟩⟩;obtain⟨u,ew,a9⟩:∃u:Int,(if decide (V.int (z % 3)=V.int 0)=true then(1:Int) else 0)=u/\(u=0\/u=1):=by
    split
    ·exact⟨1,rfl,.inr rfl⟩
    ·exact⟨0,rfl,.inl rfl⟩
   rw[ew];obtain⟨bw,tw,Xw,e1,e2,Sw,nx⟩:∃bw tw Xw,Ct [V.ref O,V.ref R] u=some (.ref bw)/\Ct [V.ref tA,V.ref tB] u=some (.ref tw)/\T8 P w K aC aD H6 Xw bw tw lb ls i/\∀H7,Off Xw H6 H7->T8 P w K aC aD H7 Xw bw tw lb ls (i+1)->T8 P w K aC aD H7 XA O tA lb ls (i+1)/\T8 P w K aC aD H7 XB R tB lb ls (i+1):=by
    rcases a9 with rfl|rfl
    ·exact⟨O,tA,XA,zT (j:=0) rfl,zT (j:=0) rfl,SA,fun H7 X S7=>⟨S7,(SB.off SA.Wh X fun c l z=>xx c z l).up⟩⟩
    ·exact⟨R,tB,XB,zT (j:=1) rfl,zT (j:=1) rfl,SB,fun H7 X S7=>⟨(SA.off SB.Wh X xx).up,S7⟩⟩
   refine⟨_,rfl,_,rfl,S,_,_,_,rfl,rfl,s,e1,_,rfl,_,rfl,lt,_,_,_,rfl,rfl,g,e2,_,rfl,_,rfl,_,rfl,sa,_,_,_,rfl,rfl,b,hn,_,_,rfl,rfl,⟨by decide,by decide⟩,Xw,bw,tw,lb,ls,i,_,rfl,Sw,by omega,d,l5,la,fun H7 X S7=>⟨_,rfl,VX ?_⟩⟩;obtain⟨aj,ak⟩:=nx H7 X S7;have s:=x9 Sw.Wh X s;have g:=x9 Sw.Wh X g;have d:=x9 Sw.Wh X d;have b:=x9 Sw.Wh X b;refine⟨_,rfl,_,rfl,sa,_,_,_,rfl,rfl,b,hn,_,_,rfl,rfl,⟨by decide,by decide⟩,?_⟩;refine⟨_,rfl,S,_,_,_,rfl,rfl,s,zT (j:=0) rfl,_,rfl,lt,_,_,_,rfl,rfl,g,zT (j:=0) rfl,_,rfl,XQ aj (by omega) la fun H8 Y=>⟨_,rfl,VX ?_⟩⟩;exact⟨_,rfl,S,_,_,_,rfl,rfl,Y.seq s,zT (j:=1) rfl,_,rfl,lt,_,_,_,rfl,rfl,Y.seq g,zT (j:=1) rfl,_,rfl,_,_,rfl,rfl,⟨by decide,by decide⟩,XQ (ak.same Y) (by omega) la fun H9 s9=>⟨_,rfl,VX ⟨_,_,_,rfl,aj.same<|Y.trans s9,ak.same<|Y.trans s9,(Y.trans s9).seq s,(Y.trans s9).seq g,(Y.trans s9).seq d,(Y.trans s9).seq b⟩⟩⟩
  ·rintro σ H6 ⟨o4,o5,o6,rfl,SA,SB,s,g,d,b⟩;exact⟨_,rfl,S,_,_,_,rfl,rfl,s,zT (j:=0) rfl,_,rfl,lt,_,_,_,rfl,rfl,g,zT (j:=0) rfl,XQ SA (by omega) la fun r _=>kQ r⟩
end A9
end
end An22
/-! the evaluating tactics look for a twin of each of these constants under these names;names that are taken keep them from laying one,for the twins' equations make the compiled file too large -/
structure PySem.W.Fast:Prop where(tw1507590005551617757 tw1517914887079563026 tw10110359142555446870 tw3815769452003274150 tw3441097646218487503 tw10272627081443525238 tw4629690710212814326 tw10707218093000456738 tw7539526755314086730 tw16727421368072760766 tw14547870018305949307 tw16062802477012286194 tw10817144976776543234 tw9419394290517491821 tw18323323466707159640 tw6712909869366198839 tw7261422055736191548 tw2622564420241032579 tw17943848011859407857 tw3346824949367001643 tw14359810922964092362 tw265143506687570613 tw17321805093210528421 tw7740540352669589125 tw2149214290298519522 tw7778634724104551449 tw15750554052935125907 tw11016602405784849359 tw7723075036498939803 tw5343184698145143302 tw7742854170939026292 tw9393475224046360830 tw13513142638641271411 tw14666650000380594663 tw17993655755447838591 tw10001505218120685580 tw4926019646536352585 tw8408260963291805564 tw14765178860860720452 tw10086835780355736359 tw3416770207361774140 tw18445320979116388252 tw14458292540377072950 tw5287767398180180770 tw6277264813521410739 tw7559688482195219258 tw16801365064352084327 tw16164322373609181974 tw18412608789576598356 tw10399903879552536754 tw12886217703271033930 tw11613016845814634749 tw14453424096789542592 tw10260148205827820348 tw16725724907326493285 tw10226592351642441009 tw6838145967028622267 tw939646092906481723 tw6914622332031298528 tw2401361673667356760 tw1096369383744523178 tw3531172716516696174 tw4714840751286480173 tw7546574945537412190 tw6331315465248687899 tw10283116336405281412 tw3010010352571836390 tw414798637924052498 tw10221331892778102791 tw5390300527970250791 tw12605584758655532314 tw13362491588180398140 tw4581061713877925487 tw16067810437726967094 tw836772618691288544 tw9172733902360433061 tw15574338719845841259 tw12364322037655231190 tw8916494830970845492 tw15748745590960295375 tw9511539361570924556 tw17573814427889659154 tw5759105646732398049 tw14113126081006256192 tw12335472747856081664 tw17118756453891028182 tw12370181998720335652 tw3516937399997934426 tw6621813002691962689 tw5136539765630642952 tw14162195094496635345 tw1277030317597010995 tw10660586586636572695 tw14311704283818898024 tw1682544448597303741 tw14550967074751220367 tw7301935101550601142 tw16389971040653283809 tw5010813416867040183 tw3270964515900820223 tw4807692341241902402 tw15469076886967389301 tw14926623462798846204 tw17623985459352989339 tw2062980724673530179 tw5386474451164813637 tw8785396206873700480 tw9322390173183917406 tw6211080410589382584 tw643838951674799667 tw6840337490568367593 tw2073026356344435625 tw4087428377267444090 tw2155582222640767543 tw17956072321729420360 tw1469720253032438560 tw17326271871222362824 tw13660616764057986140 tw3605016062296064437 tw5402642308890674223 tw18095620939577599252 tw7471683286847141677 tw5716449111964503991 tw3264882786530399862 tw16321153990702366672 tw9318332781777394255 tw4425735004495574237 tw17297288394401423054 tw16813172820196135171 tw17205469406507592532 tw6525898915375322174 tw13647940862646294170 tw1410570914924458421 tw7818958392706980093 tw16181606610355180458 tw4253335567704095389 tw7438242211395487781 tw911969600104589147 tw15059320016921774556 tw12425637192590382972 tw9518094098977632095 tw1746450027934104133 tw6385913725656246625 tw12653636995201743273 tw15986449932445351898 tw13089781539364265523 tw136370563509760797 tw16269027609944423978 tw1120007161971560368 tw201354541232547717 tw12837381400279769398 tw11979053161387244200 tw3230917878155731682 tw11560423817376174203 tw6834626868795342646 tw11034054816046873093 tw1345149293832636443 tw467460700540584404 tw390643316205127797 tw11071757160298155858 tw12076537512369961637 tw14049775535065601185 tw11812464206441048505 tw7692872419985366546 tw17742957070759600195 tw10336811067549540964 tw10690919001535708648 tw7846680977316072516 tw4034149945362275493 tw11554918904220662101 tw16263788860921276485 tw17456412368048536800 tw3149799899039815722 tw13280895785724924721 tw12854755596388793848 tw1395849717417076169 tw17127544422679572569 tw9623696622705589161 tw6241794733553939031 tw6324623721754495952 tw596879540288558345 tw1522636819453773 tw6093663032980930771 tw9054683689143173679 tw435364064810923178 tw2058142397900267755 tw1212702387992286542 tw9412679744212115748 tw16426891670325581650 tw12932162211946777857 tw2153796621463260067 tw16323490306362829131 tw15498243089274773483 tw16082681521507704005 tw2878156606062859352 tw3924813002266787441 tw5368736767091044106 tw11901781307105106347 tw8166401954352106558 tw17628221770357224603 tw1977970176553646757 tw3345265239028284951 tw2063940874656141245 tw1393987321035797580 tw12538423632725798755 tw2381807997120480829 tw17431029799325204625 tw15230046772601310217 tw9695750236200307132 tw11986139206290267778 tw13266724331161493073 tw7400681313278427524 tw16400962026050425260 tw8064302332025522370 tw16129435135308996923 tw16049621106920884210 tw9517840817368808480 tw7550030992749896882 tw12222965013524868721 tw17018313709455507412 tw425637037172112627 tw12784213688349837881 tw7604630365963314340 tw3025790957981568171 tw17244809510889955703 tw10498984527247314571 tw15539639118622307975 tw8162792417794819721 tw3135072087604387510 tw15019729760547015897 tw7205338755323319085 tw5515306753772258814 tw714759986772492537 tw10956820239474720474 tw3990228496500844646 tw15103768565794191791 tw12022249298450627943 tw3459472161913967254 tw17110827549116187071 tw10084098777011694349 tw4653259123272131159 tw10041739259353254143 tw12900044328744412827 tw11892382536530406267 tw6825973153729773986 tw6009504005407337250 tw1753104171972095380 tw12215886205874881141 tw10514675098094264271 tw9250741605561876061 tw13229855443751427648 tw5687213147925684860 tw431729290124935390 tw7987003826649660835 tw10726094977941995133 tw1462411044939449248 tw2397805496819124265 tw7914114212459639863 tw468219304097912672 tw17077051289890730441 tw10482119130379733050 tw7639320884433494319 tw4055853928204521135 tw5234494068950554254 tw10858909851849499758 tw15043196167283586036 tw10096888256240680378 tw7143404253778937752 tw5972903182126045981 tw7479739774131966369 tw14360664909914651541 tw4891001491589646384 tw9436044611371305907 tw5786402610895494853 tw5561980447590956836 tw3308190165472578906 tw15221713705755258504 tw14486432508504839942 tw2388759443078637977 tw5276055446874837058 tw9066509954360117303 tw1236802545408083580 tw8879453022450945977 tw10113437922908124703 tw14390386260727006684 tw6289998462388669067 tw13265793592774905824 tw2777623779290330410 tw17101345236129251828 tw6921975999161540773 tw2880309680156485754 tw15607004534849612942 tw9108441085524750370 tw2624320197863202571 tw15270033858396030609 tw14144257239806793879 tw12915417224046500453 tw13653516457903730148 tw17932320035156705627 tw4379638828848956423 tw18406256266881716459 tw10038479122564219837 tw11859120441711764976 tw9697461984261172760 tw696700709495005006 tw14608525690193471751 tw7475077503218730912 tw14578465822173924693 tw1037305685046978553 tw10036054085202583192 tw9101567192742835517 tw14119058032329241708 tw6430576320347236147 tw15071217561264952769 tw10168992222383623976 tw12761420539459599792 tw11921844343269979890 tw6534803062412137425 tw10531813364330804930 tw15052650753584575699 tw1171443376897117528 tw5930500755876875336 tw2752790221747790392 tw12892283110136724560 tw1957116783248846077 tw7347229691650277768 tw17627993425373241917 tw8907081183871899287 tw16903774733400735508 tw8974537765407994346 tw16833963823973528916 tw11812458616367568830 tw531409432345646575 tw8990382571401868009 tw1243689417973792130 tw8810329080594653715 tw4245349086129414344 tw8981243155010381497 tw7134626286329867837 tw3933030178076999334 tw15416234746661466287 tw5287299236484828870 tw11500565679842094823 tw1089409824315387543 tw7019798764375627492 tw8245910709172831478 tw9175029450138287866 tw8814748438743984803 tw11797766353453988567 tw13843392346984866738 tw18092177032264538327 tw17926681119190497878 tw3482759314009437875 tw11831379812497238025 tw1951552236781107724 tw5437606638255665079 tw12647651101999718540 tw2445310434823392395 tw15803688239512833634 tw9589853172524405351 tw2257771263118669663 tw15766819624193723439 tw8406810970857804025 tw11261897044480849601 tw14499923292590082211 tw1066996163330080260 tw16398232743809090854 tw5126330712308763500 tw12435471824967320938 tw1922122577721856300 tw4230131990062354262 tw7067784861640565550 tw5372129923078509890 tw11795574700512880312 tw15248350077241713083 tw17243956148649892011 tw6711517797622212721 tw15647852097993125204 tw821349983902230231 tw2300653760178738307 tw9728549906815495761 tw16033016886987961521 tw18372634399336159138 tw2901400538541211168 tw4294801608530265220 tw2133706874425980101 tw3995445198941844456 tw13855615877490346165 tw3906449458341777097 tw10737939230935157907 tw2368920739805200065 tw15238531523907185278 tw14656681296248949530 tw644133709982684837 tw18215227714532600953 tw11149272120961861308 tw15548250440407336263 tw3470079326897428410 tw1406339953675166118 tw9216397359211432002 tw608077681245366861 tw1092388231460314952 tw841085079391303410:True)
namespace An22
open PySem L2 An
theorem uf {P:Ek}{w:Ep}{K:Ca}{a:Ei}{b f c g d i:Tok}{n:Nat}(h:K.lookup a=some { cls:=.type "dict",data:=.dict #[⟨LN w.params "leaf",.str "leaf" b,.str "L" f⟩,⟨LN w.params "tree",.str "tree" c,.str "T" g⟩,⟨LN w.params "note",.str "note" d,.str "N" i⟩] n }) :
  KD P w K a xE:=by
 intro l X;refine⟨[(Ey "leaf",.str "L" f),(Ey "tree",.str "T" g),(Ey "note",.str "N" i)],.cons ⟨rfl,f,rfl⟩<|.cons ⟨rfl,g,rfl⟩<|.cons ⟨rfl,i,rfl⟩ .nil,_,_,n,X a _ h,⟨rfl,rfl,rfl⟩,rfl,?_,?_,?_⟩
 ·intro e j;have j:e∈[(⟨LN w.params "leaf",.str "leaf" b,.str "L" f⟩:Lj),⟨LN w.params "tree",.str "tree" c,.str "T" g⟩,⟨LN w.params "note",.str "note" d,.str "N" i⟩]:=by simpa using j
  rcases Za.mp j with z|z
  ·subst z;exact⟨Ey "leaf",xV _ b,rfl⟩
  ·rcases Za.mp z with z|z
   ·subst z;exact⟨Ey "tree",xV _ c,rfl⟩
   ·rw[Q8.mp z];exact⟨Ey "note",xV _ d,rfl⟩
 ·exact .cons (xV _ b) rfl (.cons (xV _ c) rfl<|.cons (xV _ d) rfl .nil)
 ·show([Ey "leaf",Ey "tree",Ey "note"]:List Key).Nodup
  decide +kernel
def GF (K:Ca)(x:Str)(st:ER)(f:Ei):Prop:=Ez K Eu x=some (some<|.ref f)/\∃(e:Ej) (g c:Option Ei) (sl:Array Dc) (kV d i b ct:Ej),K.lookup f=some ⟨e,g,.func<|E5 x x (xT st) (yX st) (zE st) .none kV d i c b ct,sl⟩/\Lw K b x=true/\ES K (.ref f)=true
def MF (K:Ca)(C:Ei)(x q:Str)(st:ER)(f:Ei):Prop:=EI K (.ref C) x=some (some<|.ref f)/\Mi K (.ref f)=true/\∃(e:Ej) (g c:Option Ei) (sl:Array Dc) (kV d i b ct:Ej),K.lookup f=some ⟨e,g,.func<|E5 x q (xT st) (yX st) (zE st) .none kV d i c b ct,sl⟩/\Lw K b q=true/\ES K (.ref f)=true
section
variable {P:Ek}{w:Ep}{K:Ca}{h:EC}{mg:Str->Dc}{k:Nat}{x q:Str}{st:ER}{f C:Ei}{ps:Da}{sp:Sp}{oc:Ej}{od an:Option Ei}{sl:Array Dc}{kV dc pm cd ct:Ej}
theorem GF.mk (a:Ez K Eu x=some (some<|.ref f))(l:K.lookup f=some ⟨oc,od,.func<|E5 x x (xT st) (yX st) (zE st) .none kV dc pm an cd ct,sl⟩)(c:Lw K cd x=true)(k:ES K (.ref f)=true):GF K x st f:=⟨a,_,_,_,_,_,_,_,_,_,l,c,k⟩
theorem MF.mk (a:EI K (.ref C) x=some (some<|.ref f))(i:Mi K (.ref f)=true)(l:K.lookup f=some ⟨oc,od,.func<|E5 x q (xT st) (yX st) (zE st) .none kV dc pm an cd ct,sl⟩)(c:Lw K cd q=true)(k:ES K (.ref f)=true):MF K C x q st f:=⟨a,i,_,_,_,_,_,_,_,_,_,l,c,k⟩
abbrev BA (x q:Str)(st:ER)(ps:Da):Prop:=∀(kV doc pm:Ej) (an:Option Ei) (cdv ct:Ej) (us:Db),us.length=ps.length->bindArgs (E5 x q (xT st) (yX st) (zE st) .none kV doc pm an cdv ct) ⟨us,[]⟩=Ln (ps.zip us)
abbrev BX (x q:Str)(st:ER)(ps:Da)(kV doc pm:Ej)(an:Option Ei)(cdv ct:Ej)(us:Db):Prop:=bindArgs (E5 x q (xT st) (yX st) (zE st) .none kV doc pm an cdv ct) ⟨us,[]⟩=Ln (ps.zip us)
theorem lC9{f:Db}{n:Nat}(z:f.length=n+1):∃a t,f=a::t/\t.length=n:=by cases f with|nil=>cases z|cons a t=>exact⟨a,t,rfl,Nat.succ.inj z⟩
theorem Pg (h:∀kV i j an c' ct a,BX x q st ps kV i j an c' ct [a])(l:ps.length=1):BA x q st ps:=by intro kV i j an c' ct f z;obtain⟨_,f,rfl,m⟩:=lC9 (z.trans l);cases f;exact h ..;cases m
theorem Ph (h:∀kV i j an c' ct a b,BX x q st ps kV i j an c' ct [a,b])(l:ps.length=2):BA x q st ps:=by intro kV i j an c' ct f z;obtain⟨_,f,rfl,m⟩:=lC9 (z.trans l);obtain⟨_,f,rfl,n⟩:=lC9 m;cases f;exact h ..;cases n
theorem Pj (h:∀kV i j an c' ct a b c,BX x q st ps kV i j an c' ct [a,b,c])(l:ps.length=3):BA x q st ps:=by intro kV i j an c' ct f z;obtain⟨_,f,rfl,m⟩:=lC9 (z.trans l);obtain⟨_,f,rfl,n⟩:=lC9 m;obtain⟨_,f,rfl,o⟩:=lC9 n;cases f;exact h ..;cases o
theorem Pk (h:∀kV i j an c' ct a b c d,BX x q st ps kV i j an c' ct [a,b,c,d])(l:ps.length=4):BA x q st ps:=by intro kV i j an c' ct f z;obtain⟨_,f,rfl,m⟩:=lC9 (z.trans l);obtain⟨_,f,rfl,n⟩:=lC9 m;obtain⟨_,f,rfl,o⟩:=lC9 n;obtain⟨_,f,rfl,p⟩:=lC9 o;cases f;exact h ..;cases p
theorem Pl (h:∀kV i j an c' ct a b c d e,BX x q st ps kV i j an c' ct [a,b,c,d,e])(l:ps.length=5):BA x q st ps:=by intro kV i j an c' ct f z;obtain⟨_,f,rfl,m⟩:=lC9 (z.trans l);obtain⟨_,f,rfl,n⟩:=lC9 m;obtain⟨_,f,rfl,o⟩:=lC9 n;obtain⟨_,f,rfl,p⟩:=lC9 o;obtain⟨_,f,rfl,r⟩:=lC9 p;cases f;exact h ..;cases r
theorem GF.cal (X:K.In h)(G:h.Ns Eu mg)(a:GF K x st f)(b:EC)(g:∀fd,Wt K x x st f fd->mg x=some (.ref f)->Wr K fd ps []->W0 P w K mg b Cd k f fd ps sp)(e:BA x x st ps:=by first|exact Pg (fun _ _ _ _ _ _ _=>rfl) rfl|exact Ph (fun _ _ _ _ _ _ _ _=>rfl) rfl|exact Pj (fun _ _ _ _ _ _ _ _ _=>rfl) rfl|exact Pk (fun _ _ _ _ _ _ _ _ _ _=>rfl) rfl|exact Pl (fun _ _ _ _ _ _ _ _ _ _ _=>rfl) rfl):T9 P w K mg b k x ps sp:=by
 obtain⟨d,_,_,_,_,_,_,_,_,_,l,c,kp⟩:=a;have F:=kU l c kp;exact T9.mk' F (g _ F (ZE X G d)<|F.binds e) (ZE X G d)<|F.binds e
theorem GF.vR (X:K.In h)(G:h.Ns Eu mg)(a:GF K x st f)(b:EC)(g:∀fd,Wt K x x st f fd->mg x=some (.ref f)->Wr K fd ps []->W0 P w K mg b (Cl P w) k f fd ps sp)(e:BA x x st ps:=by first|exact Pg (fun _ _ _ _ _ _ _=>rfl) rfl|exact Ph (fun _ _ _ _ _ _ _ _=>rfl) rfl|exact Pj (fun _ _ _ _ _ _ _ _ _=>rfl) rfl|exact Pk (fun _ _ _ _ _ _ _ _ _ _=>rfl) rfl|exact Pl (fun _ _ _ _ _ _ _ _ _ _ _=>rfl) rfl):Ss P w K mg b k x ps sp:=by
 obtain⟨d,_,_,_,_,_,_,_,_,_,l,c,kp⟩:=a;have F:=kU l c kp;exact Ss.mk' F (g _ F (ZE X G d)<|F.binds e) (ZE X G d)<|F.binds e
theorem GF.tQ (X:K.In h)(G:h.Ns Eu mg)(a:GF K x st f)(b:EC)(g:∀fd,Wt K x x st f fd->mg x=some (.ref f)->Wr K fd ps []->wM P w K mg b k f fd ps s2)(e:BA x x st ps:=by first|exact Pg (fun _ _ _ _ _ _ _=>rfl) rfl|exact Ph (fun _ _ _ _ _ _ _ _=>rfl) rfl|exact Pj (fun _ _ _ _ _ _ _ _ _=>rfl) rfl|exact Pk (fun _ _ _ _ _ _ _ _ _ _=>rfl) rfl|exact Pl (fun _ _ _ _ _ _ _ _ _ _ _=>rfl) rfl):vO P w K mg b k x ps s2:=by
 obtain⟨d,_,_,_,_,_,_,_,_,_,l,c,kp⟩:=a;have F:=kU l c kp;exact vO.mk' F (g _ F (ZE X G d)<|F.binds e) (ZE X G d)<|F.binds e
theorem MF.met (a:MF K C x q st f)(b:EC)(g:∀fd,Wt K x q st f fd->W0 P w K mg b Cd k f fd ps sp)(e:BA x q st ps:=by first|exact Pg (fun _ _ _ _ _ _ _=>rfl) rfl|exact Ph (fun _ _ _ _ _ _ _ _=>rfl) rfl|exact Pj (fun _ _ _ _ _ _ _ _ _=>rfl) rfl|exact Pk (fun _ _ _ _ _ _ _ _ _ _=>rfl) rfl|exact Pl (fun _ _ _ _ _ _ _ _ _ _ _=>rfl) rfl):Met P w K mg b C k x ps sp:=by
 obtain⟨d,i,_,_,_,_,_,_,_,_,_,l,c,kp⟩:=a;have F:=kU l c kp;exact⟨⟨_,_,g _ F,⟨d,i,kp⟩,F.binds e⟩⟩
theorem MF.wV (a:MF K C x q st f)(b:EC)(g:∀fd,Wt K x q st f fd->W0 P w K mg b (Cl P w) k f fd ps sp)(e:BA x q st ps:=by first|exact Pg (fun _ _ _ _ _ _ _=>rfl) rfl|exact Ph (fun _ _ _ _ _ _ _ _=>rfl) rfl|exact Pj (fun _ _ _ _ _ _ _ _ _=>rfl) rfl|exact Pk (fun _ _ _ _ _ _ _ _ _ _=>rfl) rfl|exact Pl (fun _ _ _ _ _ _ _ _ _ _ _=>rfl) rfl):TV P w K mg b C k x ps sp:=by
 obtain⟨d,i,_,_,_,_,_,_,_,_,_,l,c,kp⟩:=a;have F:=kU l c kp;exact⟨⟨_,_,g _ F,⟨d,i,kp⟩,F.binds e⟩⟩
theorem MF.mak (a:MF K C "__init__" q st f)(b:EC)(m:LS K C=true)(n:ES K (.ref C)=true)(j:mg x=some (.ref C))(g:∀fd,Wt K "__init__" q st f fd->W0 P w K mg b Cd k f fd ps sp)(e:BA "__init__" q st ps:=by first|exact Pg (fun _ _ _ _ _ _ _=>rfl) rfl|exact Ph (fun _ _ _ _ _ _ _ _=>rfl) rfl|exact Pj (fun _ _ _ _ _ _ _ _ _=>rfl) rfl|exact Pk (fun _ _ _ _ _ _ _ _ _ _=>rfl) rfl|exact Pl (fun _ _ _ _ _ _ _ _ _ _ _=>rfl) rfl):uv P w K mg b C k x ps sp:=by
 obtain⟨d,i,_,_,_,_,_,_,_,_,_,l,c,kp⟩:=a;have F:=kU l c kp;exact⟨⟨_,_,g _ F,⟨m,d,i,n⟩,F.binds e,j⟩⟩
end
set_option maxHeartbeats 0 in
theorem all_mk {l:PySem.W.OpenLaw}{w:Ep}{K:Ca}{h:EC}{mg:Str->Dc}{fa:Ei}{t1 t2 t3 t4 t5 t6:Tok}{aL c aN aT aA b1 b2 b3 b4 f b6 g i d:Ei}(X:K.In h)(G:h.Ns Eu mg)(e5:mg "law"=some (.ref fa))
  (O:Ez K Eu "len"=some none)
  (L:Ez K Eu "all"=some none)
  (R:Ez K Eu "ord"=some none)
  (DB:Ez K Eu "isinstance"=some none)
  (U:Ez K Eu "str"=some none)
  (S:Ez K Eu "set"=some none)
  (D0:Ez K Eu "sorted"=some none)
  (D6:Ez K Eu "tuple"=some none)
  (Ee:Ez K Eu "list"=some none)
  (P:Ez K Eu "max"=some none)
  (N:Ez K Eu "int"=some none)
  (Eg:Ez K Eu "bool"=some none)
  (D7:Ez K Eu "range"=some none)
  (Ef:Ez K Eu "dict"=some none)
  (M:Ez K Eu "any"=some none)
  (Dy:Ez K Eu "LONGEST_LINE"=some (some<|.int 20 t1))
  (Du:Ez K Eu "LONGEST_LABEL"=some (some<|.int 8 t2))
  (Dx:Ez K Eu "MOST_PARENTS"=some (some<|.int 2 t3))
  (DU:Ez K Eu "PERCENT"=some (some<|.int 37 t4))
  (Dv:Ez K Eu "DIGEST_FACTOR"=some (some<|.int 31 t5))
  (Dz:Ez K Eu "DIGEST_BOUND"=some (some<|.int 97 t6))
  (DW:Ez K Eu "LETTERS"=some (some<|.ref aL))
  (D1:Ez K Eu "NoName"=some (some<|.ref aN))
  (DV:Ez K Eu "NoThing"=some (some<|.ref aT))
  (DA:Ez K Eu "AnnalsError"=some (some<|.ref aA))
  (DX:Ez K Eu "BadPath"=some (some<|.ref b1))
  (DM:Ez K Eu "BadFiles"=some (some<|.ref b2))
  (D9:Ez K Eu "NoFit"=some (some<|.ref b3))
  (Ea:Ez K Eu "Clash"=some (some<|.ref b4))
  (DH:Ez K Eu "NoVersion"=some (some<|.ref f))
  (DY:Ez K Eu "BadLine"=some (some<|.ref b6))
  (DL:Ez K Eu "NoBranch"=some (some<|.ref g))
  (DI:Ez K Eu "BadBranch"=some (some<|.ref i))
  (D2:Ez K Eu "Annals"=some (some<|.ref d))
  (Q:Ez K Eu "min"=some none)
  (DC:Ez K Eu "ValueError"=some none)
  (D8:Ez K Eu "Shelf"=some (some<|.ref c))
  (DZ:EO K aN V2 "ValueError.__new__"=true)
  (DN:EO K aT V2 "ValueError.__new__"=true)
  (DK:EO K b2 V2 "ValueError.__new__"=true)
  (D:[f,g,i,aN,aT,b1,b2,b3,b4,b6].Nodup)
  (ad:∀a∈[f,g,i],PySem.W.T7 K a)
  (ag:∀a∈[f,g,i],∀b∈[f,g,i,aN,aT,b1,b2,b3,b4,b6],EM K (.ref a) (.ref b)=some (decide (a=b)))
  (af:∀a∈[f,g,i],EM K (.ref a) (.type "ValueError")=some true)
  (E:∀a∈[f,g,i],PySem.W.exmOne K (.ref a) (.ref aA)=some true)
  (DD:EO K f V2 "ValueError.__new__"=true)
  (DO:EO K b6 V2 "ValueError.__new__"=true)
  (DJ:EO K g V2 "ValueError.__new__"=true)
  (DF:EO K i V2 "ValueError.__new__"=true)
  (A:Lv K d LU=true)
  (r:LJ K d=true)
  (C:L4 K d=true)
  (J:EI K (.ref d) "__setattr__"=some (some<|.builtin "object.__setattr__"))
  (y:LS K d=true)
  (u:ES K (.ref d)=true)
  (ah:EI K (.ref d) "shelf"=some none)
  (ai:EI K (.ref d) "heads"=some none)
  (ae:KD l.prog w K aL xE)
  (z:Lv K c LU=true)
  (q:LJ K c=true)
  (B:L4 K c=true)
  (I:EI K (.ref c) "__setattr__"=some (some<|.builtin "object.__setattr__"))
  (x:LS K c=true)
  (t:ES K (.ref c)=true)
  (aj:EI K (.ref c) "thing_by_name"=some none)
  (ak:EI K (.ref c) "name_by_thing"=some none)
  (al:EI K (.ref c) "next_numbers"=some none)
  (H:∀a∈kinds,∀b∈kinds,EM K (.type a) (.type b)=some (a==b||(a=="bool"&&b=="int")))
  {f0 f1 f2 f3 f4 f5 f6 f7 f8 f9 dr ds du dv dx dy dz d0 d1 d2 d3 d4 d5 d6 d7 d8 d9 ea eb ec ed ee ef eg eh ei ej ek el em en eo ep eq er es et eu ev ew ey ez e0 e1 e2 e3 e4:Ei}
  (a0:MF K c "names" "Shelf.names" Au.st f0)
  (a1:MF K c "take" "Shelf.take" Av.st f1)
  (a2:GF K "is_key" Aw.st f2)
  (a3:MF K c "has" "Shelf.has" Ax.st f3)
  (a4:GF K "need_name" Ay.st f4)
  (a5:MF K c "thing" "Shelf.thing" Az.st f5)
  (a6:MF K c "__init__" "Shelf.__init__" AD.st f6)
  (a7:MF K d "__init__" "Annals.__init__" AV.st f7)
  (a8:GF K "_law_cell_at" AX.st f8)
  (a9:GF K "_law_labels" AY.st f9)
  (ca:GF K "names_form" AF.st dr)
  (cb:GF K "note_of" AG.st ds)
  (cc:GF K "tree_of" AH.st du)
  (ce:GF K "_law_deed_by" A5.st dv)
  (cf:GF K "_law_due" A0.st dx)
  (cg:GF K "is_label" Ad.st dy)
  (ch:MF K d "has_branch" "Annals.has_branch" AO.st dz)
  (ci:GF K "need_version_or_none" AI.st d0)
  (cj:MF K d "begin" "Annals.begin" AT.st d1)
  (ck:MF K d "need_branch" "Annals.need_branch" AQ.st d2)
  (cl:MF K d "set_head" "Annals.set_head" AS.st d3)
  (cm:MF K d "head" "Annals.head" AR.st d4)
  (cn:GF K "is_file" AJ.st d5)
  (co:GF K "folders_of" AK.st d6)
  (cp:GF K "need_files" AL.st d7)
  (cq:GF K "is_sign" Aa.st d8)
  (cr:GF K "is_line" Ab.st d9)
  (cu:GF K "is_lines" Ac.st ea)
  (cv:GF K "is_leaf" Ah.st eb)
  (cw:GF K "is_row" Ae.st ec)
  (cx:GF K "is_rows" Ag.st ed)
  (cy:GF K "is_tree" Ai.st ee)
  (cz:GF K "is_parents" Af.st ef)
  (c0:GF K "is_note" Aj.st eg)
  (c1:GF K "is_thing" Ak.st eh)
  (c2:GF K "need_thing" Al.st ei)
  (c3:MF K c "need_form" "Shelf.need_form" AA.st ej)
  (c4:MF K c "need_names" "Shelf.need_names" AB.st ek)
  (c5:GF K "letter_of" Am.st el)
  (c6:GF K "tree_parts" Ao.st em)
  (c7:GF K "parts_of" Ap.st en)
  (c8:GF K "counted" Aq.st eo)
  (c9:GF K "spelled" Ar.st ep)
  (da:GF K "digest" As.st eq)
  (db:MF K c "put" "Shelf.put" AC.st er)
  (dd:GF K "put_rows" AE.st es)
  (de:GF K "put_files" AM.st et)
  (df:GF K "noted" AN.st eu)
  (dh:MF K d "keep" "Annals.keep" AU.st ev)
  (di:GF K "_law_word" AZ.st ew)
  (dj:GF K "_law_done" A3.st ey)
  (dk:GF K "_law_kept" A4.st ez)
  (dl:GF K "_law_deed" A8.st e0)
  (dm:GF K "_law_heads_stand" A6.st e1)
  (dn:MF K d "branches" "Annals.branches" AW.st e2)
  (dp:GF K "_law_stands" A7.st e3)
  (dq:GF K "law" A9.st e4) :
  ∃fd:Es,(∀(s:Eo) (v:Ej),BindsTo s fd ⟨[v],[]⟩ [("_law_script",v)])/\∀base:EC,K.In base->base.Ns Eu mg->W0 l.prog w K mg base Cd 14 fa fd ["_law_script"] (wN K):=by
 have T:Txt l.prog w K mg t1 t2 t3 t4 t5 t6 aL c aN aT aA b1 b2 b3 b4 f b6 g i d:=⟨ZH X G O,ZH X G L,ZH X G R,ZH X G DB,ZH X G U,ZH X G S,ZH X G D0,ZH X G D6,ZH X G Ee,ZH X G P,ZH X G N,ZH X G Eg,ZH X G D7,ZH X G Ef,ZH X G M,ZE X G Dy,ZE X G Du,ZE X G Dx,ZE X G DU,ZE X G Dv,ZE X G Dz,ZE X G DW,ZE X G D1,ZE X G DV,ZE X G DA,ZE X G DX,ZE X G DM,ZE X G D9,ZE X G Ea,ZE X G DH,ZE X G DY,ZE X G DL,ZE X G DI,ZE X G D2,ZH X G Q,ZH X G DC,ZE X G D8,DZ,DN,DK,D,ad,ag,af,E,DD,DO,DJ,DF,⟨A,r,C,J⟩,ah,ai,ae,⟨z,q,B,I⟩,aj,ak,al,H⟩;obtain⟨hL,oc,od,an,sl,kV,dc,pm,cd,ct,lL,cL,kL⟩:=dq;have e:=e5.symm.trans<|ZE X G hL;cases e;refine⟨E5 "law" "law" (xT A9.st) (yX A9.st) (zE A9.st) .none kV dc pm an cd ct,fun s v=>.of_eq rfl,fun b _ _=>?_⟩;have C0:=a0.met (mg:=mg) b fun _ F=>Au.ok F T;have C1:=a1.met (mg:=mg) b fun _ F=>Av.ok F T;have C2:=a2.cal X G b fun _ F _ _=>Aw.ok F T;have C3:=a3.met (mg:=mg) b fun _ F=>Ax.ok F T C2;have C4:=a4.vR X G b fun _ F _ _=>Ay.ok F T C3;have C5:=a5.wV (mg:=mg) b fun _ F=>Az.ok F T C4;have C6:=a6.mak b x t T.ud fun _ F=>AD.ok F T C0 C1 C5;have C7:=a7.mak b y u T.uQ fun _ F=>AV.ok F T C6;have C8:=a8.cal X G b fun _ F _ _=>AX.ok F T;have C9:=a9.cal X G b fun _ F _ _=>AY.ok F T C8;have am:=ca.cal X G b fun _ F _ _=>AF.ok F T C3 C5;have j:=cb.vR X G b fun _ F _ _=>AG.ok F T am C5;have ao:=cc.vR X G b fun _ F _ _=>AH.ok F T j;have ap:=ce.cal X G b fun _ F _ _=>A5.ok F T ao;have aq:=cf.cal X G b fun _ F _ _=>A0.ok F T;have Y:=cg.cal X G b fun _ F _ _=>Ad.ok F T;have Z:=ch.met (mg:=mg) b fun _ F=>AO.ok F T C2;have ar:=ci.vR X G b fun _ F _ _=>AI.ok F T j;have as:=cj.wV (mg:=mg) b fun _ F=>AT.ok F T Y Z ar;have aa:=ck.wV (mg:=mg) b fun _ F=>AQ.ok F T Z;have ab:=cl.wV (mg:=mg) b fun _ F=>AS.ok F T aa j;have n:=cm.wV (mg:=mg) b fun _ F=>AR.ok F T aa;have au:=cn.cal X G b fun _ F _ _=>AJ.ok F T;have av:=co.cal X G b fun _ F _ _=>AK.ok F T;have aw:=cp.vR X G b fun _ F _ _=>AL.ok F T au av;have ax:=cq.cal X G b fun _ F _ _=>Aa.ok F T;have o:=cr.cal X G b fun _ F _ _=>Ab.ok F T ax;have ay:=cu.cal X G b fun _ F _ _=>Ac.ok F T o;have az:=cv.cal X G b fun _ F _ _=>Ah.ok F T ay;have ba:=cw.cal X G b fun _ F _ _=>Ae.ok F T Y;have bb:=cx.cal X G b fun _ F _ _=>Ag.ok F T ba;have bc:=cy.cal X G b fun _ F _ _=>Ai.ok F T bb;have bd:=cz.cal X G b fun _ F _ _=>Af.ok F T;have be:=c0.cal X G b fun _ F _ _=>Aj.ok F T bd o;have bf:=c1.cal X G b fun _ F _ _=>Ak.ok F T az bc be;have bg:=c2.vR X G b fun _ F _ _=>Al.ok F T bf;have bh:=c3.wV (mg:=mg) b fun _ F=>AA.ok F T C5;have bi:=c4.wV (mg:=mg) b fun _ F=>AB.ok F T bh;have ac:=c5.cal X G b fun _ F _ _=>Am.ok F T;have bj:=c6.cal X G b fun _ F _ _=>Ao.ok F T;have bl:=c7.cal X G b fun _ F _ _=>Ap.ok F T bj;have bm:=c8.cal X G b fun _ F _ _=>Aq.ok F T;have bn:=c9.cal X G b fun _ F _ _=>Ar.ok F T ac bl bm;have bo:=da.cal X G b fun _ F _ _=>As.ok F T bn;have p:=db.wV (mg:=mg) b fun _ F=>AC.ok F T bg bi ac bo C1;have bp:=dd.cal X G b fun _ F _ _=>AE.ok F T p;have bq:=de.cal X G b fun _ F m h=>AM.ok F T p bp m h;have br:=df.cal X G b fun _ F _ _=>AN.ok F T p bq;have bt:=dh.wV (mg:=mg) b fun _ F=>AU.ok F T n aw o br ab;have bu:=di.tQ X G b fun _ F _ _=>AZ.ok F T;have bv:=dj.cal X G b fun _ F _ _=>A3.ok F T as ab n bt bu;have bw:=dk.cal X G b fun _ F _ _=>A4.ok F T;have bx:=dl.cal X G b fun _ F _ _=>A8.ok F T ap aq bv C0 bw;have bz:=dm.cal X G b fun _ F _ _=>A6.ok F T n;have b0:=dn.met (mg:=mg) b fun _ F=>AW.ok F T;have b9:=dp.cal X G b fun _ F _ _=>A7.ok F T bz b0;exact A9.ok (kU (st:=A9.st) lL cL kL) T C7 C9 bx b9
theorem walk {l:PySem.W.OpenLaw}{q:Ek}{b:Da}{g:(Str->Dc)->EC->Prop}{e:Ep->EC->Prop}{d:DefRec}{K:Params->Ca}(hn:l.most=some 63)(c:d.params.defaults=[])
  (j:∀(w:Ep) (h:EC),e w h->(K w.params).In h)
  (F:∀(w:Ep) (mg:Str->Dc) (fa:Ei) (h:EC),(K w.params).In h->h.Ns Eu mg->mg d.name=some (.ref fa) -> ∃fd:Es,(∀(s:Eo) (u:Ej),BindsTo s fd ⟨[u],[]⟩ [("_law_script",u)])/\∀base:EC,(K w.params).In base->base.Ns Eu mg->W0 l.prog w (K w.params) mg base Cd 14 fa fd ["_law_script"] (wN<|K w.params)) :
  PySem.W.WalkO q b g e l.row.toRowW d [] (fun f vs=>PySem.call f vs) :=
 L2.vg (n:=63) (k:=14) (x:="_law_script") (CX:=fun _=>Cd) (sp:=fun w=>wN<|K w.params) hn (by decide) c ⟨rfl,by decide,by decide⟩ j F (fun _ _ a ns hl _ i=>⟨a,ns,rfl,i,hl,fun _=>rfl⟩) fun _ _ _ _ _ z=>z
end An22
end
open PySem PySem.W PyProof.Rows
set_option maxRecDepth 100000 in
set_option maxHeartbeats 0 in
theorem PySem.Challenge.cw_annals_k22_branches_holds : PySem.Challenge.rw_annals_k22_branches.Holds := by
 w_on;o_law;k_head;(case hw=>w_witness2)
 k_fill
 refine An22.walk (l:=PySem.Challenge.rw_annals_k22_branches) rfl rfl (fun w h Y=>PySem.W.kIn_of Y) ?F
 case F =>
  intro w mg fa h KX G hmg;refine' An22.all_mk KX G hmg ?z_len ?z_all ?z_ord ?DB ?z_str ?z_set ?D0 ?D6 ?Ee ?z_max ?z_int ?Eg ?D7 ?Ef ?z_any ?Dy ?Du ?Dx ?DU ?Dv ?Dz ?DW ?D1 ?DV ?DA ?DX ?DM ?D9 ?Ea ?DH ?DY ?DL ?DI ?D2 ?z_min ?DC ?D8 ?DZ ?DN ?DK ?s_dst ?s_ek ?s_kx ?s_kv ?s_exm ?DD ?DO ?DJ ?DF ?pg_aD ?hd_aD ?po_aD ?sa_aD ?mk_aD ?kc_aD ?s_m1 ?s_m2 ?s_kd ?pg_aC ?hd_aC ?po_aC ?sa_aC ?mk_aC ?kc_aC ?s_n1 ?s_n2 ?s_n3 ?s_kit ?a0 ?a1 ?a2 ?a3 ?a4 ?a5 ?a6 ?a7 ?a8 ?a9 ?a10 ?a11 ?a12 ?a13 ?a14 ?a15 ?a16 ?a17 ?a18 ?a19 ?a20 ?a21 ?a22 ?a23 ?a24 ?a25 ?a26 ?a27 ?a28 ?a29 ?a30 ?a31 ?a32 ?a33 ?a34 ?a35 ?a36 ?a37 ?a38 ?a39 ?a40 ?a41 ?a42 ?a43 ?a44 ?a45 ?a46 ?a47 ?a48 ?a49 ?a50 ?a51 ?a52 ?a53 ?a54 ?a55 ?a56
  case z_len|z_all|z_ord|DB|z_str|z_set|D0|D6|Ee|z_max|z_int|Eg|D7|Ef|z_any|Dy|Du|Dx|DU|Dv|Dz|DW|D1|DV|DA|DX|DM|D9|Ea|DH|DY|DL|DI|D2|z_min|DC|D8=>k_is
  case a0|a1=>(apply An22.MF.mk;k_is;k_is;k_is;k_is;k_is)
  case a2=>(apply An22.GF.mk;k_is;k_is;k_is;k_is)
  case a3=>(apply An22.MF.mk;k_is;k_is;k_is;k_is;k_is)
  case a4=>(apply An22.GF.mk;k_is;k_is;k_is;k_is)
  case a5|a6|a7=>(apply An22.MF.mk;k_is;k_is;k_is;k_is;k_is)
  case a8|a9|a10|a11|a12|a13|a14|a15=>(apply An22.GF.mk;k_is;k_is;k_is;k_is)
  case a16=>(apply An22.MF.mk;k_is;k_is;k_is;k_is;k_is)
  case a17=>(apply An22.GF.mk;k_is;k_is;k_is;k_is)
  case a18|a19|a20|a21=>(apply An22.MF.mk;k_is;k_is;k_is;k_is;k_is)
  case a22|a23|a24|a25|a26|a27|a28|a29|a30|a31|a32|a33|a34|a35=>(apply An22.GF.mk;k_is;k_is;k_is;k_is)
  case a36|a37=>(apply An22.MF.mk;k_is;k_is;k_is;k_is;k_is)
  case a38|a39|a40|a41|a42|a43=>(apply An22.GF.mk;k_is;k_is;k_is;k_is)
  case a44=>(apply An22.MF.mk;k_is;k_is;k_is;k_is;k_is)
  case a45|a46|a47=>(apply An22.GF.mk;k_is;k_is;k_is;k_is)
  case a48=>(apply An22.MF.mk;k_is;k_is;k_is;k_is;k_is)
  case a49|a50|a51|a52|a53=>(apply An22.GF.mk;k_is;k_is;k_is;k_is)
  case a54=>(apply An22.MF.mk;k_is;k_is;k_is;k_is;k_is)
  case a55|a56=>(apply An22.GF.mk;k_is;k_is;k_is;k_is)
  case DZ|DN|DK=>first|k_is|kernel_rfl|rfl|(with_unfolding_all rfl)|decide +kernel +revert
  case s_dst=>decide +kernel
  case s_ek=>(intro a ha;simp only[Za,ZC,Yl]at ha;rcases ha with rfl|rfl|rfl<;>(constructor<;>first|k_is|kernel_rfl|rfl|(with_unfolding_all rfl)|decide +kernel +revert))
  case s_kx=>(intro a ha b hb;simp only[Za,ZC,Yl]at ha hb;rcases ha with rfl|rfl|rfl<;>rcases hb with rfl|rfl|rfl|rfl|rfl|rfl|rfl|rfl|rfl|rfl<;>first|k_is|kernel_rfl|rfl|(with_unfolding_all rfl)|decide +kernel +revert)
  case s_kv|s_exm=>(intro a ha;simp only[Za,ZC,Yl]at ha;rcases ha with rfl|rfl|rfl<;>first|k_is|kernel_rfl|rfl|(with_unfolding_all rfl)|decide +kernel +revert)
  case DD|DO|DJ|DF=>first|k_is|kernel_rfl|rfl|(with_unfolding_all rfl)|decide +kernel +revert
  case pg_aD|hd_aD|po_aD|sa_aD|mk_aD|kc_aD|s_m1|s_m2=>k_is
  case s_kd=>exact An22.uf (by k_is)
  case pg_aC|hd_aC|po_aC|sa_aC|mk_aC|kc_aC|s_n1|s_n2|s_n3=>k_is
  case s_kit=>(intro a ha b hb;simp only[An22.kinds,Za,ZC,Yl]at ha hb;rcases ha with rfl|rfl|rfl|rfl|rfl|rfl|rfl<;>rcases hb with rfl|rfl|rfl|rfl|rfl|rfl|rfl<;>rfl)
